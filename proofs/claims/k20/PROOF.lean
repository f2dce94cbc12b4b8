import PyProof.Rows.All
import Wide.All
import OpenK.AllK
import Wide.FinOn
import HandS.ForMost
import HandS.Wide
import HandS.WideBits
import HandS.IsInst
import HandS.SortInts
import HandS.RaiseMore
import HandS.Style
import HandS.Zip
import HandS.Evl
import KE.KTupSum
import HandS.TupAny
import HandS.SortKw
import HandS.Conv
import HandS.SetFor
import KE.GoesMore
import HandS.ForExc
import HandS.ExcInit
import HandS.ExcField
import KE.KExcIs
import HandS.ExcIs
import HandS.Small
import HandS.ExcValue
import HandS.Head0
import HandS.Head1
import HandS.Head2
import HandS.Head3
import HandS.HeadEnd
import HandS.HeadHook1
import HandS.HeadHook2
import HandS.HeadHook3
import HandS.HeadHook4
import HandS.Star
import HandS.SlotsOwn
import HandS.FStr
import KE.KCallOwn
import KE.KFmtOwn
import HandS.Text
import HandS.TupMul
import HandS.TryMany
import HandS.TryOnly
import PyProof.NeKinds
import PyProof.InstNe
import HandS.OwnEq
import HandS.Iter
import HandS.More
import HandS.WrittenGet
import HandS.Walk
import HandS.ExcOwn
import HandS.Gcd
import HandS.Strs
import HandS.Codes
import HandS.Defaults
import HandS.MakeKwOnly
import KE.KStar
import KE.KOpsOwn
import PyProof.Rows.CallKw2
import HandS.Property
import PyProof.TwoTypes
import PyProof.AutoIntOps
import PyProof.RulesMatch
import HandS.ClsMeth
import HandS.CallLocal
import HandS.DictComp
import KE.KMathGC
import HandS.HeadNt
import PyProof.ListNew
import PyProof.Conv_bool
import HandS.Records
import PyProof.Rows.SortStr
import KE.KDictZip
import KE.KItemsList
import HandS.ListItems
import PyProof.StrBlock2
import PySem.Challenge.RW_everybase_k20_bases_refused_and_stops
set_option Elab.async false
set_option linter.all false
set_option maxRecDepth 100000
set_option maxHeartbeats 4000000
namespace My
open PySem PySem.Spec PyProof.Rows L2 Evl

/-! ### one more rule: sum of a tuple of ints -/
section
variable {X : Cx}
def rSumT (K : PySem.W.Frag) : List V → Hp → VK → Prop := fun vs H Q => ∃ (a : Addr) (ns : List Int), vs = [V.ref a] ∧ SqT K H a (ns.map V.int) ∧ Q (.int ns.sum) H
theorem cr_sumT (hc : X.calm = true) : CallR X (.builtin "sum") (rSumT X.K) := by
  intro pins s σ H vs us Q I r h
  obtain ⟨a, ns, rfl, hs, q⟩ := h
  obtain ⟨its, rv, hl, _⟩ := I.tuple hs
  rw [Vals.ref1 r]
  have hi : IntsAre its ns := rv.ints
  obtain ⟨xs, e⟩ := hi.allInts.items
  have hn : numsOf (intItems xs).toList = ns := by rw [← e]; exact hi.numsOf
  rw [nums_intItems] at hn
  have hl' : s.heap.IsTuple a (intItems xs) := by
    rw [← e]
    exact hl
  refine PySem.W.ktm_sumG (I.ok.hd hc) hl' fun h' tk t' hk => ?_
  refine ⟨.int ns.sum, H, I.kept hk, ⟨t', ?_⟩, q⟩
  rw [preSum_eq, List.take_of_length_le (by simp), hn]
end

/-! ### isinstance of built-in values -/
def vty (H : Hp) : V → Option String
  | .non => some "NoneType"
  | .bl _ => some "bool"
  | .int _ => some "int"
  | .str _ => some "str"
  | .ref a => match H a with
    | some (.lst _) => some "list"
    | some (.tup _) => some "tuple"
    | _ => none
  | _ => none
theorem tyX_of {K : PySem.W.Frag} {H : Hp} {x : V} {t : String} (h : vty H x = some t) : TyX K H x (.type t) := by
  unfold vty at h
  split at h
  · cases h; exact .base .non
  · cases h; exact .base (.bl _)
  · cases h; exact .base (.int _)
  · cases h; exact .base (.str _)
  · split at h
    · cases h; rename_i e; exact .base (.lst e)
    · cases h; rename_i e; exact .base (.tup e)
    · cases h
  · cases h
section
variable {X : Cx}
def rIsiV : List V → Hp → VK → Prop
  | [x, .ty n], H, Q => ∃ t b, vty H x = some t ∧ kitB t n = some b ∧ Q (.bl b) H
  | _, _, _ => False
theorem call_isiV : CallR X (.builtin "isinstance") rIsiV := by
  intro pins s σ H xs us Q I r h
  unfold rIsiV at h
  split at h
  · obtain ⟨t, b, h1, h2, q⟩ := h
    exact call_isi pins s σ H _ us Q I r ⟨_, _, _, _, b, rfl, .ty _, tyX_of h1, kit_ty h2, q⟩
  · exact h.elim
end
theorem kb1 : kitB "int" "int" = some true := by decide +kernel
theorem kb2 : kitB "int" "bool" = some false := by decide +kernel
theorem kb3 : kitB "bool" "int" = some true := by decide +kernel
theorem kb4 : kitB "bool" "bool" = some true := by decide +kernel
theorem kb5 : kitB "NoneType" "int" = some false := by decide +kernel
theorem kb6 : kitB "str" "int" = some false := by decide +kernel
theorem kb7 : kitB "list" "int" = some false := by decide +kernel
theorem kb8 : kitB "tuple" "int" = some false := by decide +kernel
theorem kb9 : kitB "list" "list" = some true := by decide +kernel

/-! ### heaps that grow -/
theorem _root_.Evl.Ex.free {H H' : Hp} {p : Addr} (e : Ex H H') (h : H' p = none) : H p = none := fresh_back e h
theorem _root_.Evl.Ex.sql {K : PySem.W.Frag} {H H' : Hp} {a : Addr} {xs : List V} (e : Ex H H') (h : SqL K H a xs) : SqL K H' a xs := ex_l e h
theorem _root_.Evl.Ex.sqt {K : PySem.W.Frag} {H H' : Hp} {a : Addr} {xs : List V} (e : Ex H H') (h : SqT K H a xs) : SqT K H' a xs := ex_t e h
/-- a new object: what it is told by, and that nothing else changed -/
theorem new_of {H : Hp} {o : HO} {Q : VK} (h : ∀ p H1, H p = none → Ex H H1 → H1 p = some o → Q (.ref p) H1) : ∀ p, H p = none → Q (.ref p) (upd H p o) :=
  fun p hp => h p _ hp (Ex.new hp) upd_same
theorem sz_le {n : Nat} (h : n ≤ 100000) : n ≤ sizeLine := Nat.le_trans h (by decide)

/-! ### bounds of wide ints -/
theorem nab {i : Int} {n : Nat} (h0 : -(2 ^ n) < i) (h1 : i < 2 ^ n) : i.natAbs < 2 ^ n := by
  have e : ((2 ^ n : Nat) : Int) = 2 ^ n := by simp
  omega
theorem mulOk {i j : Int} (a0 : -(2 ^ 250) < i) (a1 : i < 2 ^ 250) (b0 : -(2 ^ 250) < j) (b1 : j < 2 ^ 250) : CMulX i j :=
  mulx_ok (nab a0 a1) (nab b0 b1) (by decide)
theorem divOk {i j : Int} (a0 : 0 < j) (a1 : j < 2 ^ 250) : CDivW i j :=
  wide_div a0 (nab (n := 250) (by omega) a1) (by decide) (by decide)
theorem powOk {i j : Int} (h0 : 0 ≤ j) (h1 : j ≤ 1000) (a0 : -1000 < i) (a1 : i < 1000) : CPow i j := ⟨h0, by omega, by omega⟩
theorem reprOk {i : Int} (a0 : -(2 ^ 250) < i) (a1 : i < 2 ^ 250) : i.natAbs.log2 < 1920 :=
  Nat.lt_of_lt_of_le (PySem.Flt.log2_lt_of (by decide) (nab a0 a1)) (by decide)

/-! ### rules with readings by cases -/
section
variable {X : Cx}
def rInt1 : List V → Hp → VK → Prop
  | [.int i], H, Q => Q (.int i) H
  | [.bl k], H, Q => Q (.int (if k then 1 else 0)) H
  | _, _, _ => False
theorem call_intM : CallR X (.type "int") rInt1 := by
  intro pins s σ H xs us Q I r h
  unfold rInt1 at h
  split at h
  · exact call_int1 pins s σ H _ us Q I r (.inl ⟨_, rfl, h⟩)
  · exact call_int1 pins s σ H _ us Q I r (.inr ⟨_, rfl, h⟩)
  · exact h.elim
def rMin2 : List V → Hp → VK → Prop
  | [.int i, .int j], H, Q => Q (.int (if j < i then j else i)) H
  | _, _, _ => False
def rMax2 : List V → Hp → VK → Prop
  | [.int i, .int j], H, Q => Q (.int (if j > i then j else i)) H
  | _, _, _ => False
theorem call_minM (hc : X.calm = true) : CallR X (.builtin "min") rMin2 := by
  intro pins s σ H xs us Q I r h
  unfold rMin2 at h
  split at h
  · exact call_min2 hc pins s σ H _ us Q I r ⟨_, _, rfl, h⟩
  · exact h.elim
theorem call_maxM (hc : X.calm = true) : CallR X (.builtin "max") rMax2 := by
  intro pins s σ H xs us Q I r h
  unfold rMax2 at h
  split at h
  · exact call_max2 hc pins s σ H _ us Q I r ⟨_, _, rfl, h⟩
  · exact h.elim
def rRepr1 : List V → Hp → VK → Prop
  | [.int i], H, Q => i.natAbs.log2 < 1920 ∧ Q (.str (toString i)) H
  | _, _, _ => False
theorem call_reprM : CallR X (.builtin "repr") rRepr1 := by
  intro pins s σ H xs us Q I r h
  unfold rRepr1 at h
  split at h
  · exact SkE.call_repr_int pins s σ H _ us Q I r ⟨_, rfl, h⟩
  · exact h.elim
/-- xs[i] of a tracked list -/
def rIx1 (K : PySem.W.Frag) : R2
  | .ref p, .int i, H, Q => ∃ xs v, SqL K H p xs ∧ atI xs i = some v ∧ Q v H
  | _, _, _, _ => False
theorem ix_listM : IxR X (rIx1 X.K) := by
  intro value slice pins s σ H x y v u Q I rx ry h hs
  unfold rIx1 at h
  split at h
  · obtain ⟨xs, z, h1, h2, q⟩ := h
    exact ix_list value slice pins s σ H _ _ v u Q I rx ry ⟨_, _, _, _, rfl, rfl, h1, h2, q⟩ hs
  · exact h.elim
/-- xs[lo:hi] of a list -/
def rSlM (K : PySem.W.Frag) : V → Option Int → Option Int → Hp → VK → Prop
  | .ref a, lo, hi, H, Q => ∃ xs, SqL K H a xs ∧ ∀ p, H p = none → Q (.ref p) (upd H p (.lst (cutV xs lo hi)))
  | _, _, _, _, _ => False
theorem sl_listM : SlR X (rSlM X.K) := by
  intro pins s σ H x v vl vu lo hi sl Q I rx hs pl pu h
  unfold rSlM at h
  split at h
  · obtain ⟨xs, h1, q⟩ := h
    exact sl_list pins s σ H _ v vl vu _ _ sl Q I rx hs pl pu ⟨_, _, rfl, h1, q⟩
  · exact h.elim
/-- xs.append(y), xs.pop() of a tracked list -/
def rAppM : V → List V → Hp → VK → Prop
  | .ref l, [y], H, Q => ∃ xs, H l = some (.lst xs) ∧ xs.length < sizeLine ∧ Q .non (upd H l (.lst (xs ++ [y])))
  | _, _, _, _ => False
def rPopM : V → List V → Hp → VK → Prop
  | .ref l, [], H, Q => ∃ xs y, H l = some (.lst xs) ∧ xs[xs.length - 1]? = some y ∧ Q y (upd H l (.lst xs.dropLast))
  | _, _, _, _ => False
theorem mt_appendM : MtR X "list.append" rAppM := by
  intro pins s σ H x vs v us Q I rx r h
  unfold rAppM at h
  split at h
  · obtain ⟨xs, h1, h2, q⟩ := h
    exact mt_append pins s σ H _ _ v us Q I rx r ⟨_, _, _, rfl, rfl, h1, h2, q⟩
  · exact h.elim
theorem mt_popM : MtR X "list.pop" rPopM := by
  intro pins s σ H x vs v us Q I rx r h
  unfold rPopM at h
  split at h
  · obtain ⟨xs, y, h1, h2, q⟩ := h
    exact mt_pop pins s σ H _ _ v us Q I rx r ⟨_, _, _, rfl, rfl, h1, h2, q⟩
  · exact h.elim
end

/-! ### == of a list of ints and [] -/
theorem canLayInts : ∀ cs : List Int, PyData.canLayAll0 (cs.map PyData.int) = true
  | [] => rfl
  | c :: cs => by
    rw [List.map_cons, PyData.canLayAll0, canLayInts cs, PyData.canLay0]
    rfl
theorem depthInts : ∀ cs : List Int, PyData.depthAll (cs.map PyData.int) = 0
  | [] => rfl
  | c :: cs => by
    rw [List.map_cons, PyData.depthAll, depthInts cs, PyData.depth]
    rfl
theorem shapedInts (cs : List Int) : SeqAt.shaped (.list (cs.map PyData.int)) = true := by
  unfold SeqAt.shaped
  rw [PyData.canLay0, PyData.depth, canLayInts, depthInts]
  rfl
theorem shapedIntsT (cs : List Int) : SeqAt.shaped (.tuple (cs.map PyData.int)) = true := by
  unfold SeqAt.shaped
  rw [PyData.canLay0, PyData.depth, canLayInts, depthInts]
  rfl
theorem eqvAllInts : ∀ xs ys : List Int, PyData.eqvAll (xs.map PyData.int) (ys.map PyData.int) = decide (xs = ys)
  | [], [] => rfl
  | [], y :: ys => rfl
  | x :: xs, [] => rfl
  | x :: xs, y :: ys => by
    rw [List.map_cons, List.map_cons, PyData.eqvAll, eqvAllInts xs ys, PyData.eqv]
    by_cases h1 : x = y <;> by_cases h2 : xs = ys <;> simp [h1, h2]
theorem eqvLists (xs ys : List Int) : PyData.eqv (.list (xs.map PyData.int)) (.list (ys.map PyData.int)) = decide (xs = ys) := by
  rw [PyData.eqv, eqvAllInts]
theorem eqvTups (xs ys : List Int) : PyData.eqv (.tuple (xs.map PyData.int)) (.tuple (ys.map PyData.int)) = decide (xs = ys) := by
  rw [PyData.eqv, eqvAllInts]
/-- == and != of two lists of ints, two tuples of ints -/
theorem dpInts {K : PySem.W.Frag} {H : Hp} : ∀ cs : List Int, DpAll K H (cs.map V.int) (cs.map PyData.int)
  | [] => .nil
  | c :: cs => .cons (.int c) (dpInts cs)
theorem neLists {K : PySem.W.Frag} {H : Hp} {a b : Addr} {xs ys : List Int} {Q : VK} (ha : SqL K H a (xs.map V.int)) (hb : SqL K H b (ys.map V.int)) (h : Q (.bl (!decide (xs = ys))) H) : rNeD K (.ref a) (.ref b) H Q :=
  ⟨_, _, .lst ha (dpInts xs), .lst hb (dpInts ys), shapedInts xs, shapedInts ys, by rw [eqvLists]; exact h⟩
theorem eqLists {K : PySem.W.Frag} {H : Hp} {a b : Addr} {xs ys : List Int} {Q : VK} (ha : SqL K H a (xs.map V.int)) (hb : SqL K H b (ys.map V.int)) (h : Q (.bl (decide (xs = ys))) H) : rEqD K (.ref a) (.ref b) H Q :=
  ⟨_, _, .lst ha (dpInts xs), .lst hb (dpInts ys), shapedInts xs, shapedInts ys, by rw [eqvLists]; exact h⟩
theorem neTups {K : PySem.W.Frag} {H : Hp} {a b : Addr} {xs ys : List Int} {Q : VK} (ha : SqT K H a (xs.map V.int)) (hb : SqT K H b (ys.map V.int)) (h : Q (.bl (!decide (xs = ys))) H) : rNeD K (.ref a) (.ref b) H Q :=
  ⟨_, _, .tup ha (dpInts xs), .tup hb (dpInts ys), shapedIntsT xs, shapedIntsT ys, by rw [eqvTups]; exact h⟩
theorem eqTups {K : PySem.W.Frag} {H : Hp} {a b : Addr} {xs ys : List Int} {Q : VK} (ha : SqT K H a (xs.map V.int)) (hb : SqT K H b (ys.map V.int)) (h : Q (.bl (decide (xs = ys))) H) : rEqD K (.ref a) (.ref b) H Q :=
  ⟨_, _, .tup ha (dpInts xs), .tup hb (dpInts ys), shapedIntsT xs, shapedIntsT ys, by rw [eqvTups]; exact h⟩
/-! ### the readings' equations, for a walk by simp -/
section
variable {K : PySem.W.Frag} {H : Hp} {Q : VK} {i j : Int} {p : Addr} {x y : V} {k k' : Bool} {a b : Str} {lo hi : Option Int}
theorem q_isi {n : String} : rIsiV [x, .ty n] H Q = ∃ t b, vty H x = some t ∧ kitB t n = some b ∧ Q (.bl b) H := rfl
theorem q_vn : vty H .non = some "NoneType" := rfl
theorem q_vb : vty H (.bl k) = some "bool" := rfl
theorem q_vi : vty H (.int i) = some "int" := rfl
theorem q_vs : vty H (.str a) = some "str" := rfl
theorem q_int1 : rInt1 [.int i] H Q = Q (.int i) H := rfl
theorem q_int2 : rInt1 [.bl k] H Q = Q (.int (if k then 1 else 0)) H := rfl
theorem q_min : rMin2 [.int i, .int j] H Q = Q (.int (if j < i then j else i)) H := rfl
theorem q_max : rMax2 [.int i, .int j] H Q = Q (.int (if j > i then j else i)) H := rfl
theorem q_repr : rRepr1 [.int i] H Q = (i.natAbs.log2 < 1920 ∧ Q (.str (toString i)) H) := rfl
theorem q_ix : rIx1 K (.ref p) (.int i) H Q = ∃ xs v, SqL K H p xs ∧ atI xs i = some v ∧ Q v H := rfl
theorem q_sl : rSlM K (.ref p) lo hi H Q = ∃ xs, SqL K H p xs ∧ ∀ r, H r = none → Q (.ref r) (upd H r (.lst (cutV xs lo hi))) := rfl
theorem q_app : rAppM (.ref p) [y] H Q = ∃ xs, H p = some (.lst xs) ∧ xs.length < sizeLine ∧ Q .non (upd H p (.lst (xs ++ [y]))) := rfl
theorem q_pop : rPopM (.ref p) [] H Q = ∃ xs y, H p = some (.lst xs) ∧ xs[xs.length - 1]? = some y ∧ Q y (upd H p (.lst xs.dropLast)) := rfl
theorem q_sii : scal (.int i) (.int j) = true := rfl
theorem q_sss : scal (.str a) (.str b) = true := rfl
theorem q_sbb : scal (.bl k) (.bl k') = true := rfl
theorem q_snn : scal .non .non = true := rfl
theorem q_sns : scal .non (.str a) = true := rfl
theorem q_ssn : scal (.str a) .non = true := rfl
theorem dec_iff {A B : Prop} [Decidable A] [Decidable B] (h : A ↔ B) : decide A = decide B := by simp [h]
end

/-! ### the source of draws: d the pair, L its list, cs the great cells, z the blend -/
structure DealC (d L : Addr) (cs : List Int) (z : Int) (H : Hp) : Prop where
  d : H d = some (.lst [.ref L, .int z])
  l : H L = some (.lst (cs.map V.int))
  nn : ∀ c ∈ cs, 0 ≤ c
  z0 : 0 ≤ z
  z1 : z < 2147483647
  len : cs.length ≤ 63
def Deal (d L : Addr) (H : Hp) : Prop := ∃ cs z, DealC d L cs z H
/-- all but the source of draws is as it was, and this stands -/
structure Mv (d L : Addr) (H H' : Hp) : Prop where
  kp : ∀ b o, b ≠ d → b ≠ L → H b = some o → H' b = some o
  dl : Deal d L H'
theorem DealC.ne {d L : Addr} {cs : List Int} {z : Int} {H : Hp} (D : DealC d L cs z H) : d ≠ L := fun e => by
  have a := D.d
  rw [e, D.l] at a
  cases cs with
  | nil => cases a
  | cons c cs =>
    have b := List.cons.inj (HO.lst.inj (Option.some.inj a))
    cases b.1
theorem Deal.ne {d L : Addr} {H : Hp} (D : Deal d L H) : d ≠ L := D.elim fun _ h => h.elim fun _ D => D.ne
theorem DealC.ex {d L : Addr} {cs : List Int} {z : Int} {H H' : Hp} (D : DealC d L cs z H) (e : Ex H H') : DealC d L cs z H' := ⟨e _ _ D.d, e _ _ D.l, D.nn, D.z0, D.z1, D.len⟩
theorem Deal.ex {d L : Addr} {H H' : Hp} (D : Deal d L H) (e : Ex H H') : Deal d L H' := by
  obtain ⟨cs, z, D⟩ := D
  exact ⟨cs, z, D.ex e⟩
theorem Mv.of_ex {d L : Addr} {H H' : Hp} (D : Deal d L H) (e : Ex H H') : Mv d L H H' := ⟨fun _ _ _ _ h => e _ _ h, D.ex e⟩
theorem Mv.refl {d L : Addr} {H : Hp} (D : Deal d L H) : Mv d L H H := .of_ex D (Ex.refl H)
theorem Mv.trans {d L : Addr} {H H1 H2 : Hp} (a : Mv d L H H1) (b : Mv d L H1 H2) : Mv d L H H2 := ⟨fun x o h1 h2 h => b.kp x o h1 h2 (a.kp x o h1 h2 h), b.dl⟩
theorem Mv.tex {d L : Addr} {H H1 H2 : Hp} (a : Mv d L H H1) (e : Ex H1 H2) : Mv d L H H2 := a.trans (.of_ex a.dl e)
theorem Mv.new {d L : Addr} {H H1 : Hp} {p : Addr} {o : HO} (a : Mv d L H H1) (h : H1 p = none) : Mv d L H (upd H1 p o) := a.tex (Ex.new h)
/-- a new place is not the source's -/
theorem Deal.off {d L : Addr} {H : Hp} {p : Addr} (D : Deal d L H) (h : H p = none) : p ≠ d ∧ p ≠ L := by
  obtain ⟨cs, z, D⟩ := D
  exact ⟨fun e => (by rw [e, D.d] at h; cases h), fun e => (by rw [e, D.l] at h; cases h)⟩
theorem Deal.offL {d L : Addr} {H : Hp} {p : Addr} {xs : List Int} (D : Deal d L H) (h : H p = some (.lst (xs.map V.int))) : p ≠ d := fun e => by
  obtain ⟨cs, z, D⟩ := D
  rw [e, D.d] at h
  cases xs with
  | nil => cases h
  | cons c cs =>
    have b := List.cons.inj (HO.lst.inj (Option.some.inj h))
    cases b.1
theorem Mv.free {d L : Addr} {H H' : Hp} {p : Addr} (a : Mv d L H H') (h : H' p = none) : H p = none := by
  have o := a.dl.off h
  cases h1 : H p with
  | none => rfl
  | some u => rw [a.kp p u o.1 o.2 h1] at h; cases h
theorem Mv.mut {d L : Addr} {H H' : Hp} {D : Addr} {o : HO} (a : Mv d L H H') (h : H D = none) (h1 : D ≠ d) (h2 : D ≠ L) : Mv d L H (upd H' D o) := by
  obtain ⟨kp, cs, z, D'⟩ := a
  exact ⟨fun b u x1 x2 e => by rw [upd_ne (ne_of_none e h)]; exact kp b u x1 x2 e, cs, z, ⟨by rw [upd_ne h1.symm]; exact D'.d, by rw [upd_ne h2.symm]; exact D'.l, D'.nn, D'.z0, D'.z1, D'.len⟩⟩
/-- a slice of a list of ints -/
theorem cut_ints (ns : List Int) (lo hi : Option Int) : ∃ ms : List Int, cutV (ns.map V.int) lo hi = ms.map V.int ∧ (∀ x ∈ ms, x ∈ ns) ∧ ms.length ≤ ns.length := by
  refine ⟨(ns.drop (HT.sIx ns.length 0 lo)).take (HT.sIx ns.length ns.length hi - HT.sIx ns.length 0 lo), ?_, fun x hx => List.mem_of_mem_drop (List.mem_of_mem_take hx), ?_⟩
  · unfold cutV
    rw [List.length_map, ← List.map_drop, ← List.map_take]
  · rw [List.length_take, List.length_drop]; omega
theorem cut_hi (ns : List Int) (k : Nat) : cutV (ns.map V.int) none (some (k : Int)) = (ns.take k).map V.int := by
  unfold cutV
  rw [List.length_map, HT.sIx_none, HT.sIx_nat, List.drop_zero, Nat.sub_zero, ← List.map_take]
  congr 1
  by_cases h : k ≤ ns.length
  · rw [Nat.min_eq_left h]
  · rw [Nat.min_eq_right (by omega), List.take_of_length_le (by omega), List.take_of_length_le (by omega)]
end My
set_option Elab.async false
set_option linter.all false
set_option maxRecDepth 100000
set_option maxHeartbeats 4000000
/-! defs that are called while no repr is under way: the promise of a def, its body, its call, the law's end -/
namespace My
open PySem PySem.Spec PyProof.Rows L2 Evl
structure FnG (P : Program) (w : World) (K : PySem.W.Frag) (mg : Str → Option Value) (base : Heap) (CX : CXT) (k : Nat) (f : Addr) (fd : FuncData) (ps : List Str) (sp : Sp) : Prop where
  len : ∀ xs G R W, sp xs G R W → xs.length = ps.length
  run : ∀ (B : Around) (out : List Env) (z : Shared) (G : Hp) (ar : Args) (us : List Value) (xs : List V) (R : VK) (W : XK), B.guards = some [] → Room k B →
    Env0 P w K mg base B out z G → BindsTo z fd ar (ps.zip us) → Vals xs us → sp xs G R W → codeAny (model P w) B (.call (.ref f) ar) (CR CX out P w G z R W) z
section
variable {P : Program} {w : World} {K : PySem.W.Frag} {mg : Str → Option Value} {base : Heap} {CX : CXT}
theorem FnG.of_ok {k : Nat} {f : Addr} {fd : FuncData} {ps : List Str} {sp : Sp} (F : FnOk P w K mg base CX k f fd ps sp) : FnG P w K mg base CX k f fd ps sp :=
  ⟨F.len, fun B out z G ar us xs R W _ => F.run B out z G ar us xs R W⟩
/-- a def by its body, as Fun.ok; hgd is handed to the body -/
theorem okG {x qual : Str} {st : Stmt} {f : Addr} {fd : FuncData} {N ps : List Str} {k : Nat} {sp : Sp} (F : Fun K x qual st f fd) (S : FnScope N ps (defScope st))
    (len : ∀ xs G R W, sp xs G R W → xs.length = ps.length)
    (body : ∀ (cdv : Value) (B : Around) (out : List Env) (z : Shared) (G : Hp) (xs : List V) (R : VK) (W : XK), B.guards = some [] →
      Room k (B.deeper (envOfC qual (defScope st) z.heap.objs.size f cdv)) → sp xs G R W →
      ∃ t, PSs (cxOf CX P w K mg base N qual (defScope st) f cdv B out z G W).nox (defBody st) t ∧ t { nx := fun _ G' => R .non G', rt := R } (L2.start N xs) G) :
    FnG P w K mg base CX (k + 1) f fd ps sp := by
  obtain ⟨oc, od, kV, doc, pm, an, cdv, ct, osl, rfl, lk, hcd⟩ := F.ex
  refine ⟨len, fun B out z G ar us xs R W hgd hr env hb rv hsp => ?_⟩
  have hin : K.In z.heap := env.mod.kin.keeps fun b o e => (env.bs b o e).1
  have hlim : z.heap.NoLimit := env.mod.nolimit.keeps fun b o e => (env.bs b o e).1
  refine codeAny_call_function hr.depth (hin _ _ lk) rfl S.co S.gen rfl (PySem.W.codeRec_of hin hcd) (hb _ _ _ _ ?_)
  refine wpAny_newFunctionEnv_cells S.kind (fun ⟨n, v⟩ hy => ?_) fun e2 he z1 ic => ?_
  · rcases S.par n (List.of_mem_zip hy).1 with h | h
    · exact .inl h
    · exact .inr ⟨h, PySem.W.cellsFrom_some _ _ _ (.inl h)⟩
  subst he
  refine ⟨hlim.keeps ic.toInCall.keep, codeAny_func ?_⟩
  obtain ⟨t, ht, hq⟩ := body cdv B out z G xs R W hgd (hr.deeper _) hsp
  have inv := inv_start (CX := CX) (P := P) (w := w) (K := K) (mg := mg) (base := base) (E := W) S hr.hd env (len _ _ _ _ hsp) rv ic
  refine wpAny_mono (ht.nox.run [] z1 (L2.start N xs) G _ inv hq) (fun fl z' hz => ?_) fun _ _ hz => hz
  cases fl with
  | ret u => obtain ⟨v, σ', G', J, r2, q⟩ := hz; exact ⟨v, G', J.os, J.bare, J.base, J.hok, r2, q⟩
  | next => obtain ⟨σ', G', J, q⟩ := hz; exact ⟨V.non, G', J.os, J.bare, J.base, J.hok, rfl, q⟩
  | brk => obtain ⟨_, _, _, q⟩ := hz; exact q.elim
  | cont => obtain ⟨_, _, _, q⟩ := hz; exact q.elim
end
section
variable {X : Cx} {CX : CXT} {k : Nat} {f : Addr} {fd : FuncData} {ps : List Str} {sp : Sp} {dvs : List V} {ds : List Value} {E : XK} {x : Str} {p pos : Pos} {e : Expr} {es : List Expr} {t : TA}
/-- its call by its name -/
theorem pe_callG (F : FnG X.prog X.w X.K X.mg X.base CX k f fd ps sp) (hgd : X.A.guards = some []) (hr : Room k X.A) (hg : Gl X x) (hm : X.mg x = some (.ref f)) (hk : PySem.W.keepIn X.K (.ref f) = true)
    (hb : Binds X.K fd ps ds) (hd : Vals dvs ds) (hx : Passes CX X E) (ha : PA X (e :: es) t) (hdb : (x == ("__debug__" : Str)) = false := by decide)
    (he : starEach (e :: es) X.env = (false, eval e X.env) :: starEach es X.env := by rfl) (hpl : (backTo pos (starEach es X.env)).any (·.1) = false := by rfl) :
    PE X (.Call (.Name x p) (e :: es) [] pos) (tCall sp dvs E t) := by
  refine ⟨fun pins s σ H Q I h => wpAny_Call_Name_kw (ld_glob I hg hm ?_ hdb)⟩
  refine PySem.W.callWith_K (h₀ := X.base) I.ok.mod.kin hk (thn (ha.run pos pins s σ H _ I h) fun us s1 ⟨vs, H1, I1, r, q⟩ => ⟨I1.kIn, ?_⟩) he hpl
  have r2 := r.append hd
  have hl : (us ++ ds).length = ps.length := by rw [← r2.length]; exact F.len _ _ _ _ q
  refine wpAny_call (codeAny_mono (F.run X.A X.stack s1 H1 ⟨us, []⟩ _ _ Q E hgd hr I1.env0 (hb s1 us I1.kIn hl) r2 q) fun r s' hq => ?_)
  cases r with
  | error e => exact hx pins σ H1 s1 e s' I1 hq
  | ok fl =>
    cases fl with
    | ret u => exact I1.after hq
    | next => exact hq.elim
    | brk => exact hq.elim
    | cont => exact hq.elim
end
theorem huD {k : Nat} {A : Around} (hr : Room k A) : A.units + 200 < cLine := Nat.lt_of_le_of_lt (by omega) hr.un
section
variable {X : Cx}
/-- repr of data of any depth, while no repr is under way -/
def rReprD (K : PySem.W.Frag) : List V → Hp → VK → Prop := fun vs H Q => ∃ v d, vs = [v] ∧ Dp K H v d ∧ d.showable = true ∧ d.hasDict = false ∧ d.depth ≤ 100 ∧ d.shown.length ≤ sizeLine ∧ Q (.str d.shown) H
theorem call_reprD (hgd : X.A.guards = some []) (hu : X.A.units + 200 < cLine) : CallR X (.builtin "repr") (rReprD X.K) := by
  intro pins s σ H vs us Q I r h
  obtain ⟨v, d, rfl, hd, h1, h2, h3, h4, q⟩ := h
  obtain ⟨u, rfl, ru⟩ := vals1 r
  obtain ⟨as, rd⟩ := Dp.reads I d v u hd ru
  cases hd with
  | non => cases ru; exact PySem.P.repr_of_none ⟨.str _, H, I.tok _, ⟨_, rfl⟩, q⟩
  | bl b => cases ru; exact PySem.P.repr_of_bool ⟨.str _, H, I.tok _, ⟨_, rfl⟩, q⟩
  | int i => obtain ⟨t, rfl⟩ := ru; exact PySem.P.repr_of_int (of_decide_eq_true h1) ⟨.str _, H, I.tok _, ⟨_, rfl⟩, q⟩
  | str x => obtain ⟨t, rfl⟩ := ru; exact PySem.P.repr_of_str ⟨.str _, H, I.tok _, ⟨_, rfl⟩, q⟩ h4
  | lst _ _ =>
    cases ru
    exact repr_of_reads' rd h1 (PyData.noDict_hsm h2) hgd (by omega) (fun _ _ e => e) (fun h' u tk hk => ⟨.str _, H, I.kept hk, ⟨_, rfl⟩, q⟩) h4
  | tup _ _ =>
    cases ru
    exact repr_of_reads' rd h1 (PyData.noDict_hsm h2) hgd (by omega) (fun _ _ e => e) (fun h' u tk hk => ⟨.str _, H, I.kept hk, ⟨_, rfl⟩, q⟩) h4
end

/-! ### the law's end, with a promise that knows that no repr is under way -/
section
variable {P : Program} {w : World} {K : PySem.W.Frag} {mg mb : Str → Option Value} {CX : CXT}
theorem lawG {k : Nat} {fa a : Addr} {fd : FuncData} {x : Str} {sp : Sp} {z : Shared} {us : List Value} {ns : List Int} (hin : K.In z.heap) (hns : z.heap.Ns mainGlobals mg) (hb : z.heap.Ns builtinsNs mb)
    (hbb : ∀ y : Str, y ≠ "__name__" → mb y = bootBuiltins y) (hlim : z.heap.NoLimit) (hg : z.gens = #[]) (ha : z.heap.get? a = some { cls := .type "list", data := .seq us.toArray }) (hi : IntsAre us ns) (hl : ns.length ≤ sizeLine)
    (hr : Room k callerA) (F : ∀ bs : Heap, K.In bs → bs.Ns mainGlobals mg → FnG P w K mg bs CX k fa fd [x] sp) (hbind : ∀ (t : Shared) (u : Value), BindsTo t fd ⟨[u], []⟩ [(x, u)])
    (hsp : ∀ G : Hp, Only G → SqL K G a (ns.map V.int) → sp [.ref a] G (fun v _ => v = .bl true) fun _ _ _ => False) (hCX : ∀ G e t, CX [] G z (fun _ _ _ => False) e t → False) :
    codeAny (model P w) callerA (.call (.ref fa) ⟨[.ref a], []⟩) (fun r t => r = .ok (.ret (.bool true)) ∧ OldK z.heap t.heap ∧ t.os = z.os ∧ AllBare t.gens) z := by
  have rv := vals_ints hi
  have hlen : us.toArray.size ≤ sizeLine := by rw [List.size_toArray, hi.length]; exact hl
  -- the abstract heap: the script, locked, unless it is an object of the text's own
  obtain ⟨G, hG1, hG2, hG3, hG4⟩ : ∃ G : Hp, (∀ b u, G b = some u → b = a ∧ u = .frz { cls := .type "list", data := .seq us.toArray } (.lst (ns.map V.int))) ∧ (G a ≠ none → K.lookup a = none) ∧ Only G ∧ SqL K G a (ns.map V.int) := by
    cases hk : K.lookup a with
    | none =>
      refine ⟨fun b => if b = a then some (.frz { cls := .type "list", data := .seq us.toArray } (.lst (ns.map V.int))) else none, fun b u h => ?_, fun _ => rfl, fun b => ?_, .inl (.inr ⟨{ cls := .type "list", data := .seq us.toArray }, if_pos rfl⟩)⟩
      · by_cases e : b = a
        · dsimp only at h; rw [if_pos e] at h; exact ⟨e, (Option.some.inj h).symm⟩
        · dsimp only at h; rw [if_neg e] at h; cases h
      · by_cases e : b = a
        · exact .inr ⟨_, _, if_pos e⟩
        · exact .inl (if_neg e)
    | some o =>
      have e := hin a o hk
      rw [ha] at e
      cases e
      exact ⟨fun _ => none, fun b u h => (by cases h), fun h => absurd rfl h, fun _ => .inl rfl, .inr ⟨_, us.toArray, _, hk, rfl, rfl, rfl, hlen, by simpa using rv⟩⟩
  have keep : ∀ {b : Addr} {o : Obj}, z.heap.get? b = some o → G b = none → (hidT z.heap G).get? b = some o := fun e n => hidT_get e n
  have isA : ∀ {b : Addr}, G b ≠ none → b = a := fun {b} h => by
    cases q : G b with
    | none => exact absurd q h
    | some u => exact (hG1 b u q).1
  have dicts : ∀ {b : Addr} {m : Str → Option Value}, z.heap.Ns b m → (hidT z.heap G).Ns b m := fun {b m} ⟨o, es, ep, e, d, r⟩ => by
    refine ⟨o, es, ep, keep e ?_, d, r⟩
    cases q : G b with
    | none => rfl
    | some u =>
      have := isA (b := b) (by rw [q]; simp)
      subst this
      rw [ha] at e; cases e
      cases (show Data.seq us.toArray _ = Data.dict es ep from d)
  have inG : K.In (hidT z.heap G) := fun b o e => keep (hin b o e) (by
    cases q : G b with
    | none => rfl
    | some u =>
      have := isA (b := b) (by rw [q]; simp)
      subst this
      rw [hG2 (by rw [q]; simp)] at e; cases e)
  have lim : (hidT z.heap G).NoLimit := by
    obtain ⟨mc, h1, h2⟩ := hlim
    exact ⟨mc, dicts h1, h2⟩
  have hok : HOk P w G z.heap := fun b u h => by
    obtain ⟨rfl, rfl⟩ := hG1 b u h
    exact ⟨ha, by rw [List.length_map]; exact hl, us, _, rv, ha⟩
  have env : Env0 P w K mg (hidT z.heap G) callerA [] z G :=
    ⟨rfl, ⟨inG, dicts hns, ⟨mb, dicts hb, hbb⟩, lim⟩, fun b o e => of_hidT e, Nat.le_of_eq (hidT_size _ _), trivial, fun b hb => (by cases hb), hok, .of_eq hg⟩
  refine codeAny_mono ((F _ inG (dicts hns)).run callerA [] z G ⟨[.ref a], []⟩ [.ref a] [.ref a] _ _ rfl hr env (hbind z (.ref a)) (.cons rfl .nil) (hsp G hG3 hG4)) fun r t h => ?_
  cases r with
  | error e => exact (hCX G e t h).elim
  | ok fl =>
    cases fl with
    | next => exact h.elim
    | brk => exact h.elim
    | cont => exact h.elim
    | ret u =>
      obtain ⟨v, G', os, bare, un, hok', r', q⟩ := h
      cases (show v = .bl true from q)
      cases (show u = Value.bool true from r')
      refine ⟨rfl, OldK.of_keep fun b o e => ?_, os, bare⟩
      cases q : G b with
      | none => exact un.keep b o e q (fun hh => by cases hh) (by simp)
      | some u =>
        obtain ⟨rfl, rfl⟩ := hG1 b u q
        obtain ⟨e2, _⟩ := hok' b _ (un.frzs b _ _ q)
        rw [ha] at e
        rw [← e]
        exact e2
end
theorem walkG {l : PySem.W.OpenLaw} {n k : Nat} {q : Program} {loose : List Str} {XP : (Str → Option Value) → Heap → Prop} {YP : World → Heap → Prop} {d : DefRec} {K : Params → PySem.W.Frag} {CX : World → CXT} {sp : World → Sp} {x : Str}
    (hn : l.most = some n) (h2 : n ≤ sizeLine) (hdf : d.params.defaults = []) (hr : Room k callerA) (hY : ∀ (w : World) (h : Heap), YP w h → (K w.params).In h)
    (F : ∀ (w : World) (mg : Str → Option Value) (fa : Addr) (h : Heap), (K w.params).In h → h.Ns mainGlobals mg → mg d.name = some (.ref fa) →
      ∃ fd : FuncData, (∀ (s : Shared) (u : Value), BindsTo s fd ⟨[u], []⟩ [(x, u)]) ∧ ∀ bs : Heap, (K w.params).In bs → bs.Ns mainGlobals mg → FnG l.prog w (K w.params) mg bs (CX w) k fa fd [x] (sp w))
    (hsp : ∀ (w : World) (G : Hp) (a : Addr) (ns : List Int), ns.length ≤ n → Only G → SqL (K w.params) G a (ns.map V.int) → sp w [.ref a] G (fun v _ => v = .bl true) fun _ _ _ => False)
    (hCX : ∀ (w : World) (G : Hp) (s : Shared) (e : Value) (t : Shared), CX w [] G s (fun _ _ _ => False) e t → False) : PySem.W.WalkO q loose XP YP l.row.toRowW d [] (fun f vs => PySem.call f vs) := by
  refine Att.attach_call hn hdf fun w s₀ s₁ mg mb fa o pm cd doc a vs ns G Y ho hd hcd hmg hobj hints hlen hg => ?_
  have hin := hY w _ Y
  obtain ⟨fd, hb, hF⟩ := F w mg fa _ hin G.T.g hmg
  exact lawG hin G.T.g G.T.b G.T.builtins G.T.nolimit hg hobj hints (Nat.le_trans hlen h2) hr hF hb (fun G' o s => hsp w G' a ns hlen o s) fun G' e t => hCX w G' s₁ e t
end My
set_option Elab.async false
set_option linter.all false
set_option maxRecDepth 100000
set_option maxHeartbeats 4000000
set_option exponentiation.threshold 5000
/-! more rules: a tuple backwards, a list or a tuple walked, great powers -/
namespace My
open PySem PySem.Spec PyProof.Rows L2 Evl
section
variable {prog : Program} {w : World} {A : Around} {E : Value → Shared → Prop} {s : Shared}
theorem slParts {sl : Addr} {vl vu vs : Value} {lo hi st : Option Int} {c : Int} {n : Nat} {R : Int × Int × Nat → Shared → Prop} (hs : s.heap.IsSliceOf sl vl vu vs) (pl : IsPart vl lo) (pu : IsPart vu hi) (ps : IsPart vs st) (hc : st.getD 1 = c) (h0 : (c == 0) = false)
    (h : R ((Builtin.Slice.sliceAdjust lo hi c (n : Int)).1, c, Builtin.Slice.slicePlaces (Builtin.Slice.sliceAdjust lo hi c (n : Int)).1 (Builtin.Slice.sliceAdjust lo hi c (n : Int)).2 c) s) :
    wpAny (model prog w) A (Builtin.Slice.sliceApplied (.ref sl) (pure (n : Int))) R E s := by
  obtain ⟨ob, h1, h2, h3⟩ := hs
  unfold Builtin.Slice.sliceApplied Builtin.Slice.sliceFields
  refine wpAny_bind (wpAny_bind (wpAny_field h1 h3 (x := vl) rfl (wpAny_bind (wpAny_field h1 h3 (x := vu) rfl (wpAny_bind (wpAny_field h1 h3 (x := vs) rfl (wpAny_pure ?_)))))))
  refine wpAny_bind (HT.slicePart_ ps ?_)
  show wpAny _ _ (if (st.getD 1 == 0) = true then _ else _) _ _ s
  rw [hc, if_neg (by rw [h0]; exact Bool.false_ne_true)]
  refine wpAny_bind (HT.slicePart_ pl (wpAny_bind (HT.slicePart_ pu (wpAny_bind (wpAny_pure (wpAny_pure h))))))
theorem revPick (xs : Array Value) (n : Nat) (hn : xs.size = n) : ((List.range n).filterMap fun (k : Nat) => xs[((n : Int) - 1 + (k : Int) * (-1)).toNat]?).toArray = xs.toList.reverse.toArray := by
  subst hn
  congr 1
  have e : ∀ k : Nat, ((xs.size : Int) - 1 + (k : Int) * (-1)).toNat = xs.size - 1 - k := fun k => by omega
  have e2 : (fun (k : Nat) => xs[((xs.size : Int) - 1 + (k : Int) * (-1)).toNat]?) = fun k => xs[xs.size - 1 - k]? := by
    funext k
    rw [e k]
  rw [e2]
  have e3 : (List.range xs.size).filterMap (fun k => xs[xs.size - 1 - k]?) = ((List.range xs.size).map fun k => xs.size - 1 - k).filterMap (xs[·]?) := by
    rw [List.filterMap_map]; rfl
  rw [e3, PySem.W.krv_range, List.filterMap_reverse, PySem.W.krv_all]
/-- t[::-1] of a tuple, by the machine -/
theorem tupBack {t sl : Addr} {items : Array Value} {vl vu vs : Value} {R : Value → Shared → Prop} (ht : IsTup s.heap t items) (hs : s.heap.IsSliceOf sl vl vu vs) (pl : IsPart vl none) (pu : IsPart vu none) (ps : IsPart vs (some (-1))) (hz : items.size ≤ sizeLine)
    (h : R (.ref s.heap.objs.size) { s with heap := s.heap.push { cls := .type "tuple", data := .seq items.toList.reverse.toArray } }) : wpAny (model prog w) A (getItem (.ref t) (.ref sl)) R E s := by
  have hT : s.TypeIs (.ref sl) "slice" := by
    obtain ⟨ob, h1, h2, _⟩ := hs
    exact ⟨ob, h1, h2⟩
  have ok : sizeOk (.seq items.toList.reverse.toArray) := by
    show items.toList.reverse.toArray.size ≤ sizeLine
    rw [List.size_toArray, List.length_reverse, Array.length_toList]
    exact hz
  unfold getItem
  try with_reducible refine wpAny_holding ?_
  first | refine wpAny_bind (wpAny_pure ?_) | skip
  refine wpAny_bind (wpAny_sequenceKey ht.typeIs (by decide) ?_)
  refine wpAny_bind (wpAny_callSpecial?_slot (name := Str.ofString "__getitem__") ht.typeIs slot_tuple_getitem (wpAny_call_entry slot_tuple_getitem ht.typeIs entry_tuple_getitem ?_ (args_tuple_getitem _ _)))
  show wpAny _ _ (Builtin.Tuple.tupleItemsOf (.ref t) >>= _) _ _ s
  refine wpAny_bind (tupleItemsOf_ ht (wpAny_bind (wpAny_typeOf hT ?_)))
  rw [if_pos (by decide)]
  refine wpAny_bind (slParts (c := -1) hs pl pu ps rfl (by decide) ?_)
  have e1 : Builtin.Slice.sliceAdjust none none (-1) (items.size : Int) = ((items.size : Int) - 1, -1) := by
    unfold Builtin.Slice.sliceAdjust; rfl
  have e2 : Builtin.Slice.slicePlaces ((items.size : Int) - 1) (-1) (-1) = items.size := by
    unfold Builtin.Slice.slicePlaces
    rw [if_neg (by decide)]
    by_cases h0 : (items.size : Int) - 1 > -1
    · rw [if_pos h0]
      have : ((items.size : Int) - 1 - -1 - 1) / (- -1) = (items.size : Int) - 1 := by
        rw [show (- -1 : Int) = 1 by decide, Int.ediv_one]; omega
      rw [this]; omega
    · rw [if_neg h0]; omega
  rw [e1]
  show wpAny _ _ (if ((((items.size : Int) - 1 == 0) && ((-1 : Int) == 1)) && (Builtin.Slice.slicePlaces ((items.size : Int) - 1) (-1) (-1) == items.size)) = true then _ else _) _ _ s
  have no : ¬ (((((items.size : Int) - 1 == 0) && ((-1 : Int) == 1)) && (Builtin.Slice.slicePlaces ((items.size : Int) - 1) (-1) (-1) == items.size)) = true) := by
    rw [show ((-1 : Int) == 1) = false by decide]; simp
  rw [if_neg no, e2, revPick items items.size rfl]
  first
    | exact wpAny_bind (m := Builtin.Tuple.tupleExact _) (wpAny_newObj_type (wpAny_pure ⟨_, rfl, wpAny_pure h⟩) ok)
    | exact wpAny_bind (m := Builtin.Tuple.tupleExact _) (wpAny_newObj_type (wpAny_bind (wpAny_pure (wpAny_pure ⟨_, rfl, wpAny_pure h⟩))) ok)
    | exact wpAny_bind (wpAny_bind (m := Builtin.Tuple.tupleExact _) (wpAny_newObj_type (wpAny_pure (wpAny_pure ⟨_, rfl, wpAny_pure h⟩)) ok))
    | exact wpAny_bind (wpAny_bind (m := Builtin.Tuple.tupleExact _) (wpAny_newObj_type (wpAny_pure ⟨_, rfl, wpAny_pure h⟩) ok))
end
section
variable {X : Cx}
/-- t[::-1] of a tuple -/
def tRevT (K : PySem.W.Frag) (te : TE) : TE := fun σ H Q => te σ H fun x H1 => ∃ a xs, x = .ref a ∧ SqT K H1 a xs ∧ ∀ p, H1 p = none → Q (.ref p) (upd H1 p (.tup xs.reverse))
theorem pe_revT {e : Expr} {te : TE} {k : Nat} {p1 p2 p3 pos : Pos} (he : PE X e te) : PE X (.Subscript e (.Slice none none (some (.UnaryOp .USub (.Constant (.int 1) k p1) p2)) p3) pos) (tRevT X.K te) := by
  refine ⟨fun pins s σ H Q I h => Subscript_ (thn (he.run pins s σ H _ I h) fun v s1 ⟨x, H1, I1, r1, a, xs, ex, hx, q⟩ => ?_)⟩
  subst ex
  cases r1
  have step : PO X (some (.UnaryOp .USub (.Constant (.int 1) k p1) p2)) (tPart (tUn (rU fun i => .int (-i)) (tC (.int 1)))) := po_some (pe_un un_neg pe_int)
  refine wpAny_Slice (thn (po_none.run pins s1 σ H1 (fun o G => o = none ∧ G = H1) I1 ⟨rfl, rfl⟩) fun vl s2 ⟨o2, H2, I2, pl, e2, g2⟩ => ?_)
  subst e2 g2
  refine thn (po_none.run pins s2 σ H2 (fun o G => o = none ∧ G = H2) I2 ⟨rfl, rfl⟩) fun vu s3 ⟨o3, H3, I3, pu, e3, g3⟩ => ?_
  subst e3 g3
  refine thn (step.run pins s3 σ H3 (fun o G => o = some (-1) ∧ G = H3) I3 ⟨1, rfl, -1, rfl, rfl, rfl⟩) fun vs s4 ⟨o4, H4, I4, ps, e4, g4⟩ => ?_
  subst e4 g4
  generalize hs5 : ({ s4 with heap := s4.heap.push { cls := .type "slice", data := .fields #[vl, vu, vs] } } : Shared) = s5
  have I5 : Inv X pins σ H4 s5 := by rw [← hs5]; exact I4.kept (t' := s4.toks) fun b ob q => Heap.get?_push_of_some _ q
  have hsl : s5.heap.IsSliceOf s4.heap.objs.size vl vu vs := by rw [← hs5]; exact Heap.IsSliceOf.new _ vl vu vs
  obtain ⟨its, r, ht, hz⟩ := I5.tuple hx
  have hlen := r.length
  show wpAny (model X.prog X.w) X.A (subscriptTail e (.Slice none none (some (.UnaryOp .USub (.Constant (.int 1) k p1) p2)) p3) (.ref a) (.ref s4.heap.objs.size)) (EP X pins σ Q) X.xe _
  refine tail_any (ops := [.ref a, .ref s4.heap.objs.size]) ht.typeIs slot_tuple_getitem.lookup (tupBack ht hsl pl pu ps (by rw [List.size_toArray]; omega) ?_) (by with_unfolding_all rfl)
  refine ⟨.ref _, _, I5.laid (t' := s5.toks) (o := .tup xs.reverse) (fun b ob q => Heap.get?_push_of_some _ q) (Nat.le_refl _) ?_, rfl, q _ (I5.hok.fresh (Nat.le_refl _))⟩
  exact ⟨by rw [List.length_reverse]; exact hz, _, r.reverse, IsTup.new _ _⟩
/-- a list or a tuple, walked -/
def iLT (K : PySem.W.Frag) (tl : TE) : TI := fun σ H R => tl σ H fun x H1 => ∃ a, x = .ref a ∧ (((∃ xs, SqL K H1 a xs) ∧ R (Itl K a) H1) ∨ ((∃ xs, SqT K H1 a xs) ∧ R (Itt K a) H1))
theorem pi_lt {tg l : Expr} {tl : TE} (hl : PE X l tl) : PI X tg l (iLT X.K tl) := by
  refine ⟨fun pins s σ H R I h => thn (hl.run pins s σ H _ I h) fun v s1 ⟨x, H1, I1, r1, a, ex, q⟩ => ?_⟩
  subst ex
  cases r1
  have fresh : ∀ b ∈ [s1.heap.objs.size], FpOk X pins H1 b := fun b hb => by
    rw [List.mem_singleton.mp hb]
    exact I1.fpOk (Nat.le_refl _) (I1.hok.fresh (Nat.le_refl _))
  rcases q with ⟨⟨xs, hq⟩, q⟩ | ⟨⟨xs, hq⟩, q⟩
  · obtain ⟨its, rv, p, hz⟩ := I1.list hq
    exact wpAny_pyIter_list p.isList ⟨s1.heap.objs.size, _, _, _, H1, rfl, I1.kept (t' := s1.toks) fun b o e => Heap.get?_push_of_some _ e, turn_list a _, ⟨_, Heap.get?_push_size _ rfl, rfl, rfl⟩, fresh, q⟩
  · obtain ⟨its, rv, p, hz⟩ := I1.tuple hq
    exact wpAny_pyIter_tuple (show s1.heap.IsTuple a its.toArray from p) ⟨s1.heap.objs.size, _, _, _, H1, rfl, I1.kept (t' := s1.toks) fun b o e => Heap.get?_push_of_some _ e, turn_tuple a _, ⟨_, Heap.get?_push_size _ rfl, rfl, rfl⟩, fresh, q⟩
/-- powers of great ints -/
def CPowX (i j : Int) : Prop := 0 ≤ j ∧ (Builtin.Int.intBits i : Int) * j ≤ 2 ^ 27
theorem op_powX : OpR X (binaryOp .Pow) (rI CPowX fun i j => .int (i ^ j.toNat)) := opI fun _ _ _ _ _ _ _ hc q => pow_int hc.1 hc.2 q
theorem powXOk {i j : Int} {n : Nat} (h0 : 0 ≤ j) (h1 : j ≤ 1000) (hi : i.natAbs < 2 ^ n) (hn : n ≤ 1000) : CPowX i j := by
  refine ⟨h0, ?_⟩
  have hb : Builtin.Int.intBits i ≤ 1001 := by
    unfold Builtin.Int.intBits
    split
    · omega
    · have := PySem.Flt.log2_lt_of (k := n + 1) (by omega) (Nat.lt_of_lt_of_le hi (Nat.pow_le_pow_right (by decide) (by omega)))
      omega
  have a1 : (Builtin.Int.intBits i : Int) * j ≤ 1001 * 1000 := Int.mul_le_mul (by omega) h1 h0 (by decide)
  omega
end

/-! ### texts of lists and tuples of ints -/
theorem shInts : ∀ xs : List Int, (∀ x ∈ xs, x.natAbs.log2 < 1920) → PyData.showableAll (xs.map PyData.int) = true ∧ PyData.leavesShortAll 1921 (xs.map PyData.int) = true ∧ PyData.hasDictAll (xs.map PyData.int) = false ∧ PyData.bulkAll (xs.map PyData.int) = xs.length
  | [], _ => ⟨rfl, rfl, rfl, rfl⟩
  | x :: xs, h => by
    obtain ⟨a, b, c, d⟩ := shInts xs fun y hy => h y (List.mem_cons_of_mem _ hy)
    have hx := h x (List.mem_cons_self ..)
    refine ⟨?_, ?_, ?_, ?_⟩
    · rw [List.map_cons, PyData.showableAll, a, PyData.showable, decide_eq_true hx]; rfl
    · rw [List.map_cons, PyData.leavesShortAll, b, PyData.leavesShort, decide_eq_true (show (PyData.shown (.int x)).length ≤ 1921 from int_text_len_1921 hx)]; rfl
    · rw [List.map_cons, PyData.hasDictAll, c, PyData.hasDict]; rfl
    · rw [List.map_cons, PyData.bulkAll, d, PyData.bulk, List.length_cons]; omega
theorem reprIntsL {K : PySem.W.Frag} {H : Hp} {a : Addr} {xs : List Int} {Q : VK} (ha : SqL K H a (xs.map V.int)) (hl : xs.length ≤ 4000) (hx : ∀ x ∈ xs, x.natAbs.log2 < 1920) (q : Q (.str (PyData.list (xs.map PyData.int)).shown) H) : rReprD K [.ref a] H Q := by
  obtain ⟨h1, h2, h3, h4⟩ := shInts xs hx
  refine ⟨_, _, rfl, .lst ha (dpInts xs), by rw [PyData.showable]; exact h1, by rw [PyData.hasDict]; exact h3, by rw [PyData.depth, depthInts]; omega, ?_, q⟩
  have := PyData.shown_le_bulk 1921 (by decide) (.list (xs.map PyData.int)) (by rw [PyData.leavesShort]; exact h2)
  rw [PyData.bulk, h4] at this
  exact Nat.le_trans this (by rw [sizeLine_eq]; omega)
theorem reprIntsT {K : PySem.W.Frag} {H : Hp} {a : Addr} {xs : List Int} {Q : VK} (ha : SqT K H a (xs.map V.int)) (hl : xs.length ≤ 4000) (hx : ∀ x ∈ xs, x.natAbs.log2 < 1920) (q : Q (.str (PyData.tuple (xs.map PyData.int)).shown) H) : rReprD K [.ref a] H Q := by
  obtain ⟨h1, h2, h3, h4⟩ := shInts xs hx
  refine ⟨_, _, rfl, .tup ha (dpInts xs), by rw [PyData.showable]; exact h1, by rw [PyData.hasDict]; exact h3, by rw [PyData.depth, depthInts]; omega, ?_, q⟩
  have := PyData.shown_le_bulk 1921 (by decide) (.tuple (xs.map PyData.int)) (by rw [PyData.leavesShort]; exact h2)
  rw [PyData.bulk, h4] at this
  exact Nat.le_trans this (by rw [sizeLine_eq]; omega)
theorem reprIntD {K : PySem.W.Frag} {H : Hp} {x : Int} {Q : VK} (hx : x.natAbs.log2 < 1920) (q : Q (.str (PyData.int x).shown) H) : rReprD K [.int x] H Q :=
  ⟨_, _, rfl, .int x, by rw [PyData.showable, decide_eq_true hx], by rw [PyData.hasDict], by rw [PyData.depth]; omega, Nat.le_trans (int_text_len_1921 hx) (by decide), q⟩
theorem reprBlD {K : PySem.W.Frag} {H : Hp} {b : Bool} {Q : VK} (q : Q (.str (PyData.bool b).shown) H) : rReprD K [.bl b] H Q :=
  ⟨_, _, rfl, .bl b, by rw [PyData.showable], by rw [PyData.hasDict], by rw [PyData.depth]; omega, by cases b <;> exact sz_le (by decide), q⟩
/-! ### slices -/
theorem cut_lo (ns : List Int) (k : Nat) : cutV (ns.map V.int) (some (k : Int)) none = (ns.drop k).map V.int := by
  unfold cutV
  rw [List.length_map, HT.sIx_nat, HT.sIx_none, ← List.map_drop, ← List.map_take]
  congr 1
  by_cases h : k ≤ ns.length
  · rw [Nat.min_eq_left h, List.take_of_length_le (by rw [List.length_drop]; omega)]
  · rw [Nat.min_eq_right (by omega), List.drop_of_length_le (Nat.le_refl _), List.drop_of_length_le (by omega), List.take_nil]
/-- a slice of a tuple of ints: by what it holds, the tuple itself or a new one -/
theorem slTup {K : PySem.W.Frag} {H : Hp} {a : Addr} {ns : List Int} {lo hi : Option Int} {Q : VK} (ha : H a = some (.tup (ns.map V.int)))
    (q : ∀ p H1, Ex H H1 → H1 p = some (.tup (cutV (ns.map V.int) lo hi)) → Q (.ref p) H1) : rSlA K (.ref a) lo hi H Q := by
  refine ⟨a, _, rfl, st_of ha, fun h => q a H (Ex.refl H) ?_, fun _ p hp => q p _ (Ex.new hp) upd_same⟩
  have e : cutV (ns.map V.int) lo hi = ns.map V.int := by
    unfold cutV
    rw [h.1, h.2, List.drop_zero, Nat.sub_zero, List.take_length]
  rw [e]
  exact ha
theorem mulOk8 {i j : Int} (a0 : -(2 ^ 900) < i) (a1 : i < 2 ^ 900) (b0 : -(2 ^ 900) < j) (b1 : j < 2 ^ 900) : CMulX i j :=
  mulx_ok (nab a0 a1) (nab b0 b1) (by decide)
theorem reprOk8 {i : Int} (a0 : -(2 ^ 900) < i) (a1 : i < 2 ^ 900) : i.natAbs.log2 < 1920 :=
  Nat.lt_of_lt_of_le (PySem.Flt.log2_lt_of (by decide) (nab a0 a1)) (by decide)
theorem divOk8 {i j : Int} (a0 : 0 < j) (a1 : j < 2 ^ 900) : CDivW i j :=
  wide_div a0 (nab (n := 900) (Int.lt_trans (by rw [Int.neg_lt_zero_iff]; exact Int.pow_pos (by decide)) a0) a1) (by decide) (by decide)
/-- a comprehension that copies ints: so far -/
def CP (D : Addr) (ns : List Int) (H : Hp) : Nat → Hp → Prop := fun i H' => H' D = some (.lst ((ns.take i).map V.int)) ∧ Ex H H'
theorem CP.start {D : Addr} {ns : List Int} {H : Hp} (h : H D = none) : CP D ns H 0 (upd H D (.lst [])) := ⟨upd_same, Ex.new h⟩
theorem CP.turn {D : Addr} {ns : List Int} {H H' : Hp} {i : Nat} {n : Int} (h : H D = none) (c : CP D ns H i H') (hn : ns[i]? = some n) (hl : ns.length ≤ 4000) :
    ∃ acc, H' D = some (.lst acc) ∧ acc.length < sizeLine ∧ CP D ns H (i + 1) (upd H' D (.lst (acc ++ [V.int n]))) := by
  refine ⟨_, c.1, sz_lt (by simp; omega), ?_, c.2.mut h⟩
  rw [upd_same, List.take_add_one, hn, List.map_append]
  rfl
theorem CP.done {D : Addr} {ns : List Int} {H H' : Hp} (c : CP D ns H (ns.map V.int).length H') : H' D = some (.lst (ns.map V.int)) ∧ Ex H H' := by
  have := c.1
  rw [List.length_map, List.take_length] at this
  exact ⟨this, c.2⟩

/-! ### the same rules with the written part named: within a comprehension's block -/
section
variable {X : Cx} {K : PySem.W.Frag}
theorem sl_listK (h : X.K = K := by rfl) : SlR X (rSlM K) := by subst h; exact sl_listM
theorem ix_listK (h : X.K = K := by rfl) : IxR X (rIx1 K) := by subst h; exact ix_listM
theorem ix_tupK (h : X.K = K := by rfl) : IxR X (rIxT K) := by subst h; exact ix_tup
theorem sl_tupK (h : X.K = K := by rfl) : SlR X (rSlA K) := by subst h; exact sl_tupA
theorem op_inK (h : X.K = K := by rfl) : OpR X (compareOp .In) (rIn K false) := by subst h; exact op_in_seq
theorem op_notInK (h : X.K = K := by rfl) : OpR X (compareOp .NotIn) (rIn K true) := by subst h; exact op_notIn_seq
theorem op_eqK (hu : X.A.units + 64 < cLine) (h : X.K = K := by rfl) : OpR X (compareOp .Eq) (rEqD K) := by subst h; exact op_eqD hu
theorem op_neK (hu : X.A.units + 64 < cLine) (h : X.K = K := by rfl) : OpR X (compareOp .NotEq) (rNeD K) := by subst h; exact op_neD hu
def rLenK (K : PySem.W.Frag) : List V → Hp → VK → Prop := fun xs H Q => ∃ p ys, xs = [.ref p] ∧ (SqL K H p ys ∨ SqT K H p ys) ∧ Q (.int ys.length) H
theorem call_lenK (h : X.K = K := by rfl) : CallR X (.builtin "len") (rLenK K) := by subst h; exact call_len_seq
end
theorem inInts {z : Int} : ∀ {ms : List Int}, inV (.int z) (ms.map V.int) = decide (z ∈ ms)
  | [] => rfl
  | m :: ms => by
    unfold inV
    rw [List.map_cons, List.any_cons]
    have ih : (List.map V.int ms).any (fun y => eqV y (.int z)) = decide (z ∈ ms) := inInts
    rw [ih]
    show ((m == z) || decide (z ∈ ms)) = decide (z ∈ m :: ms)
    by_cases h1 : m = z
    · subst h1; simp
    · have h2 : ¬ z = m := fun e => h1 e.symm
      simp [h1, h2]
theorem flatInts : ∀ ms : List Int, (ms.map V.int).all flatV = true
  | [] => rfl
  | m :: ms => by rw [List.map_cons, List.all_cons, flatInts ms]; rfl
end My
set_option Elab.async false
set_option linter.all false
set_option maxRecDepth 100000
set_option maxHeartbeats 4000000
/-! enumerate over a list or a tuple; isinstance by a tuple of types -/
namespace My
open PySem PySem.Spec PyProof.Rows L2 Evl
theorem enumNew1 {v : Value} {o : Obj} {J : Heap → Prop} (B : Begins v o J) :
    Meets (Builtin.«enumerate.__new__» ⟨[.type "enumerate", v], []⟩) (fun _ R s => J s.heap ∧
      R (.ok (.ret (.ref (s.heap.push o).objs.size))) { s with heap := (s.heap.push o).push { cls := .type "enumerate", data := .fields #[.none, .bool false, .ref s.heap.objs.size, rawInt 0, .none, .none] } }) :=
  .of_wp fun prog w A R s h => by
    obtain ⟨hp, g, d, tk, os⟩ := s; obtain ⟨h1, h⟩ := h
    have hsub := sub_enumerate
    have it1 : ∀ {A' : Around} {E : Value → Shared → Prop} {Q : Value → Shared → Prop}, Q (.ref hp.objs.size) ⟨hp.push o, g, d, tk, os⟩ → wpAny (model prog w) A' (pyIter v) Q E ⟨hp, g, d, tk, os⟩ :=
      fun q => B.iter prog w _ _ ⟨hp, g, d, tk, os⟩ _ h1 q
    wp_walk using it1
    refine wpAny_stack_any fun st => wpAny_pure ?_
    split
    · rename_i c _ _ _ _ _
      cases (c == Value.type "enumerate") <;> (wp_walk using it1; exact ⟨_, rfl, h⟩)
    · wp_walk using it1
      exact ⟨_, rfl, h⟩
section
variable {prog : Program} {w : World} {A : Around} {E : Value → Shared → Prop} {s : Shared}
theorem enumCall {v : Value} {o : Obj} {J : Heap → Prop} {Q : Value → Shared → Prop} (B : Begins v o J) (h1 : J s.heap)
    (h : ∀ h', IsEnum h' (s.heap.objs.size + 1) s.heap.objs.size 0 .none → h'.get? s.heap.objs.size = some o → h'.objs.size = s.heap.objs.size + 2 →
      (∀ b u, s.heap.get? b = some u → h'.get? b = some u) → Q (.ref (s.heap.objs.size + 1)) { s with heap := h' }) :
    wpAny (model prog w) A (call (.type "enumerate") [v]) Q E s := by
  refine callType_new F.called_enumerate (by decide) (F.typeCall_enumerate_1 _) (F.newCall_enumerate_1 _) (fun obj => F.args_object_init_2 obj _) F.entry_enumerate_new (enumNew1 B) ⟨h1, ?_⟩
  have hz : (s.heap.push o).objs.size = s.heap.objs.size + 1 := Heap.size_push ..
  show _ ∧ _
  rw [hz]
  have he : IsEnum ((s.heap.push o).push { cls := .type "enumerate", data := .fields #[.none, .bool false, .ref s.heap.objs.size, rawInt 0, .none, .none] }) (s.heap.objs.size + 1) s.heap.objs.size 0 .none := by
    have q := Heap.get?_push_size (s.heap.push o) (o := { cls := .type "enumerate", data := .fields #[.none, .bool false, .ref s.heap.objs.size, rawInt 0, .none, .none] }) rfl
    rw [hz] at q; exact q
  exact ⟨⟨_, he, rfl⟩, h _ he (Heap.get?_push_of_some _ (Heap.get?_push_size _ B.free)) (by rw [Heap.size_push, hz]) fun b u x => Heap.get?_push_of_some _ (Heap.get?_push_of_some _ x)⟩
end
/-- the tuple at a, each item in a new pair -/
def IteT (K : PySem.W.Frag) (a : Addr) : It :=
  ⟨fun i H => ∃ (xs : List V) (x : V), SqT K H a xs ∧ xs[i]? = some x, fun i H v H' => ∃ T x, v = .ref T ∧ H T = none ∧ H' = upd H T (.tup [.int (i : Nat), x]) ∧ ∀ xs, SqT K H a xs → xs[i]? = some x, fun i H => ∃ xs : List V, SqT K H a xs ∧ xs.length ≤ i⟩
theorem turn_enumT {P : Program} {w : World} {K : PySem.W.Frag} {elts : List Expr} {kk : Nat} {tpos : Pos} (a e it : Addr) :
    Turn P w K (.Tuple elts kk tpos) (IteT K a) [e, it] e (fun i h => (∃ old, IsEnum h e it ((i : Nat) : Int) old) ∧ h.IsTupleIter it a i ∧ e ≠ it ∧ a ≠ it ∧ a ≠ e) where
  mem := by simp
  obj := fun i h at0 b hb => by
    obtain ⟨⟨old, hen⟩, ⟨o, ho, hc, hd⟩, _⟩ := at0
    have which : b = e ∨ b = it := by simpa using hb
    rcases which with z | z
    · rw [z]; exact ⟨_, hen, fun v q => nomatch q⟩
    · rw [z]; exact ⟨o, ho, fun v q => by rw [hd] at q; cases q⟩
  keep := fun i h h' at0 k => let ⟨⟨old, hen⟩, hi, hne⟩ := at0; ⟨⟨old, k e (by simp) _ hen⟩, hi.at fun o q => k it (by simp) o q, hne⟩
  item := by
    intro X hP hw hK hc i pins s σ H E I own at0 more
    subst hP hw hK
    obtain ⟨⟨old, hen⟩, hir, hne, hai, hae⟩ := at0
    obtain ⟨xs, x, seq, hx⟩ := more
    obtain ⟨us2, rels, p, hz⟩ := I.tuple seq
    obtain ⟨u, hu, ru⟩ := rels.get hx
    have enl : e < s.heap.objs.size := Heap.lt_size hen
    have irl : it < s.heap.objs.size := by obtain ⟨_, q, _⟩ := hir; exact Heap.lt_size q
    have ht : s.heap.IsTuple a us2.toArray := p
    have hi : i < us2.toArray.size := by
      have := (List.getElem?_eq_some_iff.mp hu).1
      simpa using this
    refine wpAny_pyNext_enum_itemD (Draws.tuple (A := X.A.in1) (I.ok.hd hc) it a hai us2.toArray) hen ⟨hir, ht⟩ hi hne (by simp [hne, Ne.symm hae]) fun y h' tk hP ho hS hT hsz kept => ?_
    have ey : y = u := by
      have h1 : us2.toArray[i]? = some y := hP
      have h2 : us2.toArray[i]? = some u := by simpa using hu
      rw [h1] at h2; exact Option.some.inj h2
    subst ey
    refine ⟨_, rfl, wpAny_letOwnedTupleGo_enum (s := { s with heap := h', toks := tk + 1 }) ho fun h'' he' same => ?_⟩
    have hT2 : h''.get? s.heap.objs.size = some { cls := .type "tuple", data := .seq #[.int i tk, y] } := (same.2 _ (Nat.ne_of_gt enl)).trans hT
    have new : ObjOk X.prog X.w (upd H s.heap.objs.size (.tup [.int (i : Nat), x])) h'' s.heap.objs.size (.tup [.int (i : Nat), x]) :=
      ⟨by show 2 ≤ sizeLine; decide, [.int i tk, y], .cons ⟨_, rfl⟩ (.cons ru .nil), ⟨_, hT2, rfl, _, rfl⟩⟩
    have J1 : Inv X pins σ (upd H s.heap.objs.size (.tup [.int (i : Nat), x])) { s with heap := h'', toks := tk + 1 } :=
      I.turnedNew (ch := [e, it]) (fun b ob hb q => (same.2 b (fun z => hb (by simp [z]))).trans (kept b ob (fun z => hb (by simp [z])) (fun z => hb (by simp [z])) q)) own (Nat.le_refl _) new
    refine ⟨.ref s.heap.objs.size, _, J1, rfl, ⟨_, x, rfl, I.hok.fresh (Nat.le_refl _), rfl, fun ys hy => by rw [I.tuple_inj hy seq]; exact hx⟩, ⟨⟨y, ?_⟩, hS.1.at fun o q => (same.2 it (Ne.symm hne)).trans q, hne, hai, hae⟩, fun b hb => ?_⟩
    · have e1 : ((i + 1 : Nat) : Int) = (i : Int) + 1 := by omega
      rw [e1]; exact he'
    · have hb' : b < s.heap.objs.size := by
        have which : b = e ∨ b = it := by simpa using hb
        rcases which with z | z
        · rw [z]; exact enl
        · rw [z]; exact irl
      rw [upd_ne (Nat.ne_of_lt hb')]
      exact (own b hb).1
  done := by
    intro X hP hw hK hc i pins s σ H E I own at0 more
    subst hP hw hK
    obtain ⟨⟨old, hen⟩, hir, hne, hai, hae⟩ := at0
    obtain ⟨xs, seq, hx⟩ := more
    obtain ⟨us2, rels, p, hz⟩ := I.tuple seq
    obtain ⟨f0, f1, f2, f3, f4, f5⟩ := own it (by simp)
    have hl := rels.length
    have hT : s.TypeIs (.ref e) "enumerate" := ⟨_, hen, rfl⟩
    unfold pyNext
    refine wpAny_bind (wpAny_attempt (wpAny_callSpecial?_slot (name := Str.ofString "__next__") hT F.slot_enumerate_next
      (wpAny_call_entry F.slot_enumerate_next hT F.entry_enumerate_next ?_ (F.args_enumerate_next_1 _))))
    show wpAny _ _ (field (.ref e) 2 >>= _) _ _ _
    refine wpAny_bind (wpAny_field hen rfl (x := .ref it) rfl ?_)
    refine wpAny_bind (wpAny_nextOf_tuple_end (I.ok.hd hc) hir (show s.heap.IsTuple a us2.toArray from p) (by simp; omega) fun h' x he' hx' => ?_)
    obtain ⟨o, ho, hc⟩ := hx'
    refine wpAny_bind (wpAny_isInstance (T := "StopIteration") (b := true) ⟨o, ho, hc⟩ isSubtype_stop ?_)
    exact wpAny_pure ⟨rfl, I.turned (t' := s.toks) (fun b o hb q => he' b o hb q) f0 f1 f3 f4 f5⟩
  self := fun A i s Q E at0 h => let ⟨⟨_, hen⟩, _⟩ := at0; wpAny_pyIter_enum hen h
/-- enumerate of a list or a tuple -/
def iEnumX (K : PySem.W.Frag) (ta : TA) : TI := fun σ H R => ta σ H fun vs H1 => ∃ a, vs = [.ref a] ∧ (((∃ xs, SqL K H1 a xs) ∧ R (Ite K a) H1) ∨ ((∃ xs, SqT K H1 a xs) ∧ R (IteT K a) H1))
theorem pi_enumX {X : Cx} {e : Expr} {ta : TA} {p pos tpos : Pos} {elts : List Expr} {kk : Nat} (more : Gl X "enumerate") (hm : X.mg "enumerate" = none) (ha : PA X [e] ta) (hs : starEach [e] X.env = [(false, eval e X.env)] := by rfl) :
    PI X (.Tuple elts kk tpos) (.Call (.Name "enumerate" p) [e] [] pos) (iEnumX X.K ta) := by
  refine ⟨fun pins s σ H R I h => ?_⟩
  refine Call_ (ld_blt I more hm boot_enumerate (PyProof.Rows.callWith_type1 (thn (ha.run pos pins s σ H _ I h) fun us s1 ⟨vs, H1, J1, r1, q1⟩ => ?_) hs rfl))
  obtain ⟨a, ex, q⟩ := q1
  subst ex
  cases r1 with
  | cons r rr =>
    cases rr
    cases r
    have fps : ∀ b ∈ [s1.heap.objs.size + 1, s1.heap.objs.size], FpOk X pins H1 b := fun b hb => by
      have which : b = s1.heap.objs.size + 1 ∨ b = s1.heap.objs.size := by simpa using hb
      have high : s1.heap.objs.size ≤ b := by
        rcases which with z | z
        · rw [z]; exact Nat.le_add_right _ _
        · rw [z]; exact Nat.le_refl _
      exact J1.fpOk high (J1.hok.fresh high)
    rcases q with ⟨⟨xs, seq⟩, q⟩ | ⟨⟨xs, seq⟩, q⟩
    · obtain ⟨us2, rels, p', hz⟩ := J1.list seq
      refine call_enumerate_list p'.isList fun h' hen hir hsz kept => wpAny_pyIter_enum hen ?_
      exact ⟨s1.heap.objs.size + 1, [s1.heap.objs.size + 1, s1.heap.objs.size], _, _, H1, rfl, J1.kept (t' := s1.toks) kept, turn_enum a (s1.heap.objs.size + 1) s1.heap.objs.size, ⟨⟨.none, hen⟩, hir, Nat.succ_ne_self _⟩, fps, q⟩
    · obtain ⟨us2, rels, p', hz⟩ := J1.tuple seq
      have ht : s1.heap.IsTuple a us2.toArray := p'
      have hal : a < s1.heap.objs.size := by obtain ⟨o, q1, _⟩ := ht; exact Heap.lt_size q1
      refine enumCall (begins_tuple a us2.toArray) ht fun h' hen hir hsz kept => wpAny_pyIter_enum hen ?_
      exact ⟨s1.heap.objs.size + 1, [s1.heap.objs.size + 1, s1.heap.objs.size], _, _, H1, rfl, J1.kept (t' := s1.toks) kept, turn_enumT a (s1.heap.objs.size + 1) s1.heap.objs.size, ⟨⟨.none, hen⟩, ⟨_, hir, rfl, rfl⟩, Nat.succ_ne_self _, Nat.ne_of_lt hal, Nat.ne_of_lt (Nat.lt_succ_of_lt hal)⟩, fps, q⟩
/-- isinstance(x, (t1, t2)): types that are built in -/
def rIsi2 : List V → Hp → VK → Prop
  | [x, .ref tp], H, Q => ∃ n m t b c, H tp = some (.tup [.ty n, .ty m]) ∧ vty H x = some t ∧ kitB t n = some b ∧ kitB t m = some c ∧ Q (.bl (b || c)) H
  | _, _, _ => False
theorem call_isi2 {X : Cx} : CallR X (.builtin "isinstance") rIsi2 := by
  intro pins s σ H xs us Q I r h
  unfold rIsi2 at h
  split at h
  · obtain ⟨n, m, t, b, c, h0, h1, h2, h3, q⟩ := h
    refine call_isiT pins s σ H _ us Q I r ⟨_, _, _, _, [.type n, .type m], b || c, rfl, h0, .cons (.ty _) (.cons (.ty _) .nil), tyX_of h1, ?_, q⟩
    refine kitAny_cons (kit_ty h2) (fun e => ?_) (fun e => by rw [e]; rfl)
    rw [e, Bool.false_or]
    exact kitAny_cons (kit_ty h3) (fun e => by rw [e]; exact kitAny_nil) fun e => e
  · exact h.elim
theorem kb10 : kitB "list" "tuple" = some false := by decide +kernel
theorem kb11 : kitB "tuple" "list" = some false := by decide +kernel
theorem kb12 : kitB "tuple" "tuple" = some true := by decide +kernel
theorem kb13 : kitB "int" "list" = some false := by decide +kernel
theorem kb14 : kitB "int" "tuple" = some false := by decide +kernel
theorem kb15 : kitB "NoneType" "list" = some false := by decide +kernel
theorem kb16 : kitB "NoneType" "tuple" = some false := by decide +kernel
theorem kb17 : kitB "str" "list" = some false := by decide +kernel
theorem kb18 : kitB "str" "tuple" = some false := by decide +kernel
theorem kb19 : kitB "bool" "list" = some false := by decide +kernel
theorem kb20 : kitB "bool" "tuple" = some false := by decide +kernel
theorem for_enumL {K : PySem.W.Frag} {a : Addr} {xs : List V} {g : TG} {tb : TS} {D : Ends} {σ : L2.St} {H : Hp} (Iv : Nat → L2.St → Hp → Prop) (h0 : Iv 0 σ H) (holds : ∀ i σ H, i ≤ xs.length → Iv i σ H → SqL K H a xs)
    (turns : ∀ i x σ H T, xs[i]? = some x → Iv i σ H → H T = none → g (.ref T) σ (upd H T (.tup [.int (i : Nat), x])) fun σ2 H2 => tb { D with nx := Iv (i + 1), ct := Iv (i + 1), bk := D.nx } σ2 H2) (fin0 : ∀ σ H, Iv xs.length σ H → D.nx σ H) :
    ∃ W : Nat → Nat → L2.St → Hp → Prop, (∃ m, W 0 m σ H) ∧ ∀ i m σ H, W i m σ H →
      ((Ite K a).stop i H ∧ D.nx σ H) ∨ ((Ite K a).go i H ∧ ∃ N : L2.St → Hp → Prop, (∀ σ' H', N σ' H' → ∃ m', m' < m ∧ W (i + 1) m' σ' H') ∧ ∀ x H', (Ite K a).yld i H x H' → g x σ H' fun σ2 H2 => tb { D with nx := N, ct := N, bk := D.nx } σ2 H2) := by
  refine ⟨fun i m σ H => m = xs.length - i ∧ i ≤ xs.length ∧ Iv i σ H, ⟨xs.length, by simp, Nat.zero_le _, h0⟩, ?_⟩
  rintro i m σ H ⟨rfl, ile, now⟩
  have seen := holds i σ H ile now
  by_cases lt : i < xs.length
  · refine .inr ⟨⟨xs, xs[i], seen, by simp [lt]⟩, Iv (i + 1), fun σ' H' now2 => ⟨xs.length - (i + 1), by omega, rfl, lt, now2⟩, fun x H' y => ?_⟩
    obtain ⟨T, z, e, hT, e2, y⟩ := y
    subst e e2
    exact turns i z σ _ T (y xs seen) now hT
  · have e : i = xs.length := by omega
    subst e
    exact .inl ⟨⟨xs, seen, Nat.le_refl _⟩, fin0 σ H now⟩
theorem for_enumT {K : PySem.W.Frag} {a : Addr} {xs : List V} {g : TG} {tb : TS} {D : Ends} {σ : L2.St} {H : Hp} (Iv : Nat → L2.St → Hp → Prop) (h0 : Iv 0 σ H) (holds : ∀ i σ H, i ≤ xs.length → Iv i σ H → SqT K H a xs)
    (turns : ∀ i x σ H T, xs[i]? = some x → Iv i σ H → H T = none → g (.ref T) σ (upd H T (.tup [.int (i : Nat), x])) fun σ2 H2 => tb { D with nx := Iv (i + 1), ct := Iv (i + 1), bk := D.nx } σ2 H2) (fin0 : ∀ σ H, Iv xs.length σ H → D.nx σ H) :
    ∃ W : Nat → Nat → L2.St → Hp → Prop, (∃ m, W 0 m σ H) ∧ ∀ i m σ H, W i m σ H →
      ((IteT K a).stop i H ∧ D.nx σ H) ∨ ((IteT K a).go i H ∧ ∃ N : L2.St → Hp → Prop, (∀ σ' H', N σ' H' → ∃ m', m' < m ∧ W (i + 1) m' σ' H') ∧ ∀ x H', (IteT K a).yld i H x H' → g x σ H' fun σ2 H2 => tb { D with nx := N, ct := N, bk := D.nx } σ2 H2) := by
  refine ⟨fun i m σ H => m = xs.length - i ∧ i ≤ xs.length ∧ Iv i σ H, ⟨xs.length, by simp, Nat.zero_le _, h0⟩, ?_⟩
  rintro i m σ H ⟨rfl, ile, now⟩
  have seen := holds i σ H ile now
  by_cases lt : i < xs.length
  · refine .inr ⟨⟨xs, xs[i], seen, by simp [lt]⟩, Iv (i + 1), fun σ' H' now2 => ⟨xs.length - (i + 1), by omega, rfl, lt, now2⟩, fun x H' y => ?_⟩
    obtain ⟨T, z, e, hT, e2, y⟩ := y
    subst e e2
    exact turns i z σ _ T (y xs seen) now hT
  · have e : i = xs.length := by omega
    subst e
    exact .inl ⟨⟨xs, seen, Nat.le_refl _⟩, fin0 σ H now⟩
end My
set_option Elab.async false
set_option linter.all false
set_option maxRecDepth 100000
set_option maxHeartbeats 4000000
/-! own errors with one field: made and raised, caught, asked for their classes -/
namespace My
open PySem PySem.Spec PyProof.Rows L2 Evl
/-- what the written part says of an own error class x at C whose __init__ at fI keeps the field f -/
structure ErrX (K : PySem.W.Frag) (mg : Str → Option Value) (x f : Str) (C fI : Addr) : Prop where
  g : mg x = some (.ref C)
  oex : OexC K C
  iC : PySem.W.findIn K (.ref C) "__init__" = some (some (.ref fI))
  tI : PySem.W.typeIn K (.ref fI) = some (.type "function")
  xf : XfC K C
  noF : PySem.W.findIn K (.ref C) f = some none
  te : PySem.W.exmOne K (.ref C) (.ref C) = some true
  isC : (PySem.W.clsIn K C).isSome = true
  ha : PySem.W.findIn K (.ref C) "__class__" = some (some (.builtin "object.__class__"))
  hn : PySem.W.specialIn K (.builtin "object.__class__") "__get__" = some (some (.builtin "getset_descriptor.__get__"))
  ht : PySem.W.takesIn K (.builtin "object.__class__") = some true
  hm : PySem.W.mroIn K C (.type "object") = some true
/-- self.f = v -/
def spInit (K : PySem.W.Frag) (f : Str) : Sp
  | [.ref a, v], H, Q, _ => ∃ C, OexC K C ∧ PySem.W.findIn K (.ref C) f = some none ∧ H a = some (exo a C none) ∧ ∀ dx, H dx = none → dx ≠ a → Q .non (upd (upd H dx (exd dx [(f, v)])) a (exo a C (some dx)))
  | _, _, _, _ => False
/-- the making of an error, by what its __init__ promises -/
theorem mkErr {K : PySem.W.Frag} {C : Addr} {f : Str} {v : V} {H : Hp} {Q : XK} (T : OexC K C) (hf : PySem.W.findIn K (.ref C) f = some none) (q : ∀ d, H d = none → Q (.ref C) (some d) (upd H d (.xd [(f, v)]))) :
    [v].length ≤ 1000 ∧ ∀ a, H a = none → spInit K f (.ref a :: ([v] ++ [])) (upd H a (exo a C none))
      (fun u H2 => u = .non ∧ ∃ (d : Addr) (fs : List (Str × V)), H2 a = some (exo a C (some d)) ∧ H2 d = some (exd d fs) ∧ H d = none ∧ Q (.ref C) (some d) (upd (del H2 a) d (.xd fs))) (fun _ _ _ => False) := by
  refine ⟨by simp, fun a ha => ⟨C, T, hf, upd_same, fun dx hd hne => ⟨rfl, dx, [(f, v)], upd_same, ?_, ?_, ?_⟩⟩⟩
  · rw [upd_ne hne, upd_same]
  · rw [upd_ne hne] at hd; exact hd
  · have hd0 : H dx = none := by rw [upd_ne hne] at hd; exact hd
    have e : upd (del (upd (upd (upd H a (exo a C none)) dx (exd dx [(f, v)])) a (exo a C (some dx))) a) dx (.xd [(f, v)]) = upd H dx (.xd [(f, v)]) := by
      funext b
      by_cases hb : b = dx
      · rw [hb, upd_same, upd_same]
      · rw [upd_ne hb, upd_ne hb]
        by_cases hba : b = a
        · rw [hba, del_same, ha]
        · rw [del_ne hba, upd_ne hba, upd_ne hb, upd_ne hba]
    rw [e]
    exact q dx hd0
section
variable {X : Cx} {C a : Addr} {oe : Obj} {cls : Value} {d : Option Addr} {pn : List (Addr × Obj)}
/-- isinstance(e, (c1, c2)), e the error that the suite holds -/
def rIsE2 (K : PySem.W.Frag) (C a : Addr) (cls : Value) (d : Option Addr) : List V → Hp → VK → Prop := fun xs H Q => ∃ (tp dd : Addr) (fs : List (Str × V)) (c1 c2 : Addr) (b : Bool),
  xs = [.ref a, .ref tp] ∧ cls = .ref C ∧ d = some dd ∧ H dd = some (.xd fs) ∧ H tp = some (.tup [.ref c1, .ref c2]) ∧ PySem.W.kitAny K (.ref C) [.ref c1, .ref c2] = some b ∧ Q (.bl b) H
theorem call_isE2 {x f : Str} {fI : Addr} (T : ErrX X.K X.mg x f C fI) (hz : Zc cls d oe) (hf : ∃ vs, oe.data = .fields vs) : CallR (X.suite a ((a, oe) :: pn)) (.builtin "isinstance") (rIsE2 X.K C a cls d) := by
  intro pins s σ H xs us Q I r h
  obtain ⟨tp, dd, fs, c1, c2, b, rfl, ec, ed, hdd, hT, e, q⟩ := h
  subst ec ed
  obtain ⟨u1, u2, rfl, r1, r2⟩ := vals2 r
  obtain rfl : u1 = Value.ref a := r1
  obtain rfl : u2 = Value.ref tp := r2
  obtain ⟨hget, _⟩ := I.pin (a, oe) (List.mem_append.mpr (.inl List.mem_cons_self))
  obtain ⟨vs, hv⟩ := hf
  obtain ⟨mA, hns, _⟩ := (show ObjOk X.prog X.w H s.heap dd (.xd fs) from I.hok dd _ hdd)
  obtain ⟨od, ho, _⟩ := lookIn_ns hns
  have J : PySem.W.InstAt s.heap a oe C (some od) := ⟨hget, hz.1, by unfold PySem.W.notCls; rw [hv] <;> rfl, by rw [hz.2]; exact ho⟩
  obtain ⟨_, its, rv, o, h1, h2, n, h3⟩ := (show ObjOk X.prog X.w H s.heap tp (.tup [.ref c1, .ref c2]) from I.hok tp _ hT)
  obtain ⟨oc, od', dt, sl⟩ := o
  simp only at h2 h3
  subst h2 h3
  obtain ⟨w1, w2, rfl, q1, q2⟩ := vals2 rv
  obtain rfl : w1 = Value.ref c1 := q1
  obtain rfl : w2 = Value.ref c2 := q2
  exact PySem.W.kia_tup (PySem.W.kitx_exc T.isC T.xf.ga T.xf.gg T.xf.exC T.ha T.hn T.ht T.hm) I.kIn J h1 e (fun z => nomatch z) fun tk => ⟨.bl b, H, I.tok tk, rfl, q⟩
end
end My
set_option Elab.async false
set_option linter.all false
set_option maxRecDepth 100000
set_option maxHeartbeats 4000000
/-! own errors of any chain, made and held as values: their fields, their classes -/
namespace My
open PySem PySem.Spec PyProof.Rows L2 Evl PySem.HandSPX PySem.W
/-- own classes, then this tail -/
def refsTo (tl : List Value) : List Value → Bool
  | .ref _ :: r => refsTo tl r
  | l => l == tl
theorem refsTo_cases (tl : List Value) (l : List Value) (e : refsTo tl l = true) : (∃ c r, l = .ref c :: r ∧ refsTo tl r = true) ∨ l = tl := by
  unfold refsTo at e
  split at e
  · exact .inl ⟨_, _, rfl, e⟩
  · exact .inr (beq_iff_eq.mp e)
/-- a chain of built-in errors that own classes stand over -/
structure TailX (B newId initId : String) (tl bmB : List Value) : Prop where
  F : ExcBaseFacts B newId initId bmB
  cB : tl.contains (.type B) = true
  cA : tl.contains (.type "AttributeError") = false
  cN : tl.contains (.type "NameError") = false
  cO : tl.contains (.type "object") = true
  pass : ∀ self : Value, refuseLoop self "__setattr__" tl = pure ()
theorem tailV : TailX "ValueError" "ValueError.__new__" "ValueError.__init__" [.type "ValueError", .type "Exception", .type "BaseException", .type "object"] [.type "ValueError", .type "Exception", .type "BaseException", .type "object"] :=
  ⟨F.excBase_ValueError, by decide +kernel, by decide +kernel, by decide +kernel, by decide +kernel, fun self => by kernel_rfl⟩
theorem tailI : TailX "IndexError" "IndexError.__new__" "IndexError.__init__" [.type "IndexError", .type "LookupError", .type "Exception", .type "BaseException", .type "object"] [.type "IndexError", .type "LookupError", .type "Exception", .type "BaseException", .type "object"] :=
  ⟨F.excBase_IndexError, by decide +kernel, by decide +kernel, by decide +kernel, by decide +kernel, fun self => by kernel_rfl⟩
theorem tailK : TailX "LookupError" "LookupError.__new__" "LookupError.__init__" [.type "KeyError", .type "LookupError", .type "Exception", .type "BaseException", .type "object"] [.type "LookupError", .type "Exception", .type "BaseException", .type "object"] :=
  ⟨F.excBase_LookupError, by decide +kernel, by decide +kernel, by decide +kernel, by decide +kernel, fun self => by kernel_rfl⟩
section
variable {B newId initId : String} {tl bmB bm : List Value}
theorem refsTo_has (T : refsTo tl bm = true) (X : String) : bm.contains (.type X) = tl.contains (.type X) := by
  induction bm with
  | nil =>
    rcases refsTo_cases _ _ T with ⟨c, r, q, _⟩ | q
    · cases q
    · rw [q]
  | cons a r ih =>
    rcases refsTo_cases _ _ T with ⟨c, r', q, h⟩ | q
    · obtain ⟨rfl, rfl⟩ := List.cons.inj q
      rw [List.contains_cons, ih h]
      rfl
    · rw [q]
theorem refsTo_pass (Y : TailX B newId initId tl bmB) (T : refsTo tl bm = true) (self : Value) : refuseLoop self "__setattr__" bm = pure () := by
  induction bm with
  | nil =>
    rcases refsTo_cases _ _ T with ⟨c, r, q, _⟩ | q
    · cases q
    · rw [q]; exact Y.pass self
  | cons a r ih =>
    rcases refsTo_cases _ _ T with ⟨c, r', q, h⟩ | q
    · obtain ⟨rfl, rfl⟩ := List.cons.inj q
      rw [refuseLoop_ref]
      exact ih h
    · rw [q]; exact Y.pass self
end
/-! ### the making -/
section
variable {M : Model} {A : Around} {E : Value → Shared → Prop} {hh : Heap} {gs : Array GenState} {dr : Drawn} {tk : Nat} {os : OsState}
variable {nm qn : Str} {C N : Addr} {bs bm bmB tl : List Value} {hd : Bool} {sn : List Str} {sub : List Value} {ab : Bool} {col : Option Bool} {dd : Option Addr} {k0 k1 k2 k3 k5 : Option Value} {B newId initId : String}
theorem chkNew (Y : TailX B newId initId tl bmB) (T : refsTo tl bm = true) {us : List Value} {Q : Unit → Shared → Prop}
    (cl : hh.get? C = some (excClassObj nm qn C N bs bm hd sn sub ab col dd k0 k1 k2 k3 k5 newId)) (q : Q () ⟨hh, gs, dr, tk, os⟩) : wpAny M A (checkBuiltinCall newId ⟨.ref C :: us, []⟩) Q E ⟨hh, gs, dr, tk, os⟩ := by
  have has : (Value.ref C :: bm).contains (.type B) = true := by rw [List.contains_cons, refsTo_has T, Y.cB, Bool.or_true]
  have st := Y.F.noStar
  simp only [checkBuiltinCall, Y.F.newKind, Y.F.newSplit, Y.F.newRow]
  repeat (first | refine wpAny_loadPart_at cl ?_ | (refine wpAny_isSubtype_exc cl ?_; rw [has]) | refine wpAny_staticBase_exc cl ?_ | refine wpAny_madeBy_exc cl ?_ | simp only [bne_self_eq_false, Bool.false_eq_true, if_false] | wp_step)
  exact q
end
section
variable {prog : Program} {w : World} {A : Around} {E : Value → Shared → Prop} {R : Result → Shared → Prop} {hh : Heap} {gs : Array GenState} {dr : Drawn} {tk : Nat} {os : OsState}
variable {nm qn : Str} {C N : Addr} {bs bm bmB tl : List Value} {hd : Bool} {sn : List Str} {sub : List Value} {ab : Bool} {col : Option Bool} {dd : Option Addr} {k0 k1 k2 k3 k5 : Option Value} {B newId initId : String}
theorem newX (Y : TailX B newId initId tl bmB) (T : refsTo tl bm = true) {us : List Value}
    (cl : hh.get? C = some (excClassObj nm qn C N bs bm hd sn sub ab col dd k0 k1 k2 k3 k5 newId))
    (q : R (.ok (.ret (.ref (hh.objs.size + 1)))) ⟨(hh.push (kdv_tup us)).push (excO C hh.objs.size), gs, dr, tk, os⟩) (hu : us.length ≤ sizeLine) :
    codeAny (model prog w) A (.builtin newId ⟨.ref C :: us, []⟩) R ⟨hh, gs, dr, tk, os⟩ := by
  have en := Y.F.ends
  have xB : (Value.ref C :: bm).contains (.type B) = true := by rw [List.contains_cons, refsTo_has T, Y.cB, Bool.or_true]
  have xA : (Value.ref C :: bm).contains (.type "AttributeError") = false := by rw [List.contains_cons, refsTo_has T, Y.cA]; rfl
  have xN : (Value.ref C :: bm).contains (.type "NameError") = false := by rw [List.contains_cons, refsTo_has T, Y.cN]; rfl
  refine codeAny_builtinAt Y.F.entry ?_
  unfold Builtin.«BaseException.__new__»
  refine PySem.wpAt_bind ?_
  show PySem.wpAt _ _ _ (stack >>= _) _ _ _
  refine PySem.wpAt_bind (PySem.wpAt_stack fun p below => PySem.wpAt_of_wpAny ?_)
  wp_walk
  refine PySem.wpAt_of_wpAny ?_
  rw [Y.F.owner]
  repeat (first | with_reducible refine wpAny_madeHere_exc Y.F.canon cl ?_ | with_reducible refine wpAny_loadPart_at cl ?_ | (with_reducible refine wpAny_isSubtype_exc cl ?_; first | rw [xB] | rw [xA] | rw [xN]) | wp_step)
  show R _ _
  rw [Heap.size_push]
  exact q
theorem typeCallX (Y : TailX B newId initId tl bmB) (T : refsTo tl bm = true) {us : List Value} {fI : Addr} {Q : Fin → Shared → Prop}
    (cl : hh.get? C = some (excClassObj nm qn C N bs bm hd sn sub ab col dd k0 k1 k2 k3 k5 newId))
    (hi : Looks (model prog w) hh (typeLookup (.ref C) "__init__") (some (.ref fI))) (hb : ∀ self, Looks (model prog w) hh (bindSpecial (.ref fI) self) (.ref fI, [self])) (hu : us.length ≤ sizeLine)
    (q : codeAny (model prog w) A (.call (.ref fI) ⟨.ref (hh.objs.size + 1) :: us, []⟩)
      (fun r s2 => match r with | .ok (.ret v) => v = .none ∧ Q (.done (.ret (.ref (hh.objs.size + 1)))) s2 | .ok _ => False | .error e => E e s2)
      ⟨(hh.push (kdv_tup us)).push (excO C hh.objs.size), gs, dr, tk, os⟩) :
    wpAny (model prog w) A (Builtin.«type.__call__» ⟨.ref C :: us, []⟩) Q E ⟨hh, gs, dr, tk, os⟩ := by
  repeat (first | with_reducible refine wpAny_loadPart_at cl ?_ | with_reducible refine wpAny_madeBy_exc cl ?_ | wp_step)
  refine codeAny_call_builtin_code (Code.quiet_builtin _ Y.F.quiet) (chkNew Y T cl ?_)
  refine newX Y T cl ?_ hu
  show wpAny _ _ _ _ _ _
  have kk : ∀ b o, hh.get? b = some o → ((hh.push (kdv_tup us)).push (excO C hh.objs.size)).get? b = some o := fun b o e => Heap.get?_push_of_some _ (Heap.get?_push_of_some _ e)
  have cl1 := kk _ _ cl
  have ge : ((hh.push (kdv_tup us)).push (excO C hh.objs.size)).get? (hh.objs.size + 1) = some (excO C hh.objs.size) := by heap_get
  have cC : (Value.ref C :: bm).contains (.ref C) = true := by simp
  have j1 := hi.keeps kk
  have j2 := (hb (.ref (hh.objs.size + 1))).keeps kk
  unfold isInstance
  repeat (first | with_reducible refine wpAny_loadPart_at ge ?_ | (with_reducible refine wpAny_isSubtype_exc cl1 ?_; rw [cC]) | wp_step)
  show wpAny _ _ (typeLookup (.ref C) _) _ _ _
  refine j1.at ?_
  refine wpAny_holding (wpAny_bind (j2.at ?_))
  refine wpAny_bind (wpAny_call (codeAny_mono q fun r s2 z => ?_))
  rcases r with e | (v | _ | _ | _) <;> first | exact z | exact z.elim | skip
  obtain ⟨rfl, z⟩ := z
  first
    | exact wpAny_pure (wpAny_pure z)
    | (wp_walk; exact z)
theorem callX (Y : TailX B newId initId tl bmB) (T : refsTo tl bm = true) {us : List Value} {fI : Addr}
    (cl : hh.get? C = some (excClassObj nm qn C N bs bm hd sn sub ab col dd k0 k1 k2 k3 k5 newId))
    (hi : Looks (model prog w) hh (typeLookup (.ref C) "__init__") (some (.ref fI))) (hb : ∀ self, Looks (model prog w) hh (bindSpecial (.ref fI) self) (.ref fI, [self])) (hu : us.length ≤ sizeLine)
    (q : codeAny (model prog w) (A.under (.builtin "type.__call__" ⟨.ref C :: us, []⟩)) (.call (.ref fI) ⟨.ref (hh.objs.size + 1) :: us, []⟩) (InitBack (hh.objs.size + 1) R)
      ⟨(hh.push (kdv_tup us)).push (excO C hh.objs.size), gs, dr, tk, os⟩) :
    codeAny (model prog w) A (.call (.ref C) ⟨us, []⟩) R ⟨hh, gs, dr, tk, os⟩ := by
  have f1 := tc_lookup
  have f2 := tc_bind (.ref C)
  have ty : (⟨hh, gs, dr, tk, os⟩ : Shared).TypeIs (.ref C) "type" := ⟨_, cl, rfl⟩
  refine codeAny_of_tree ?_
  show wpAny _ _ (callAny (.ref C) _) _ _ _
  repeat (any_goals (first | assumption | with_reducible refine wpAny_loadPart_at cl ?_ | wp_step))
  refine ⟨rfl, ?_⟩
  refine codeAny_call_builtin_at (Code.quiet_builtin _ (by decide +kernel)) entry_typeCall (wpAny_check_type_call_sub cl (typeCallX Y T cl hi hb hu ?_))
  refine codeAny_mono q fun r s2 z => ?_
  rcases r with e | (v | _ | _ | _) <;> exact z
open Builtin Builtin.ObjectAttr in
/-- self.name = v on an error that has no dict yet -/
theorem setNewX {K : Frag} {name : Str} {tok : Tok} {v : Value} {x : Addr} {fv : Array Value} {cd : ClassData} (Y : TailX B newId initId tl bmB)
    (X : K.In hh) (hx : hh.get? x = some { cls := .ref C, data := .fields fv }) (hcd : clsIn K C = some cd) (hm : refsTo tl cd.mro = true) (hdc : cd.hasDict = true) (ha : findIn K (.ref C) name = some none)
    (q : ∀ h2 tk2 dx, (∀ b o, b ≠ x → hh.get? b = some o → h2.get? b = some o) → hh.objs.size ≤ dx → dx ≠ x → h2.get? x = some { cls := .ref C, dict := some dx, data := .fields fv } →
      h2.Ns1 dx (fun y => if y = name then some v else none) → R (.ok (.ret .none)) ⟨h2, gs, dr, tk2, os⟩) :
    codeAny (model prog w) A (.call (.builtin "object.__setattr__") ⟨[.ref x, .str name tok, v], []⟩) R ⟨hh, gs, dr, tk, os⟩ := by
  have I : InstAt hh x { cls := .ref C, data := .fields fv } C none := ⟨hx, rfl, rfl, trivial⟩
  have SF := F.store_object
  have ob : cd.mro.contains (.type "object") = true := (refsTo_has hm "object").trans Y.cO
  have ne : cd.mro.isEmpty = false := by
    cases e : cd.mro with
    | nil => rw [e] at ob; cases ob
    | cons _ _ => rfl
  have nx : x ≠ hh.objs.size := Nat.ne_of_lt (Heap.lt_size hx)
  have isO : Looks (model prog w) hh (isInstance (.ref x) (.type "object")) true := I.type.andThen (looks_mroIn X (by unfold mroIn; rw [hcd, Option.bind_some, if_neg (by rw [ne]; decide), ob]))
  refine codeAny_call_builtin SF.slot.plain SF.entry (@check_slot (model prog w) _ _ ⟨hh, gs, dr, tk, os⟩ "object.__setattr__" "object" "__setattr__" (.ref x) [.str name tok, v] [] _ SF.kind SF.split isO (SF.args (.ref x) (.str name tok) v) ?_)
  have mr : Looks (model prog w) hh (mroOf (.ref C)) cd.mro := (looks_clsIn X hcd).andThen .now
  have nt : Looks (model prog w) hh (storeTaker? none) none := .now
  have lc : Looks (model prog w) hh (classData C) cd := looks_clsIn X hcd
  rw [osa_eq, refuse_eq]
  refine wpAny_bind (wpAny_bind (I.type.at (wpAny_bind (mr.at ?_))))
  rw [refsTo_pass Y hm]
  refine wpAny_pure (wpAny_bind (I.type.at (wpAny_bind ((looks_findIn X ha).at (wpAny_bind (nt.at ?_))))))
  show wpAny _ _ (storeInOwnDict (.ref x) (.ref C) (.str name tok) name v false) _ _ _
  obtain ⟨nm', bs', mro', ns', qn', hd', sn', sb', ab', col', del'⟩ := cd
  dsimp only at hdc
  subst hdc
  unfold storeInOwnDict ownDictForStores
  repeat (first | with_reducible refine store_in_new ?_ ?_ | with_reducible refine wpAny_loadPart_at hx ?_ | with_reducible refine lc.at ?_ | wp_step)
  · exact ⟨_, #[], _, (Heap.get?_update_ne _ _ _ _ nx.symm).trans (Heap.get?_push_at rfl rfl), rfl, fun e he => absurd he (by simp), fun _ => rfl⟩
  · intro h2 tk2 hn2 hs
    have x1 : (hh.push { cls := .type "dict", data := .dict #[] }).get? x = some { cls := .ref C, data := .fields fv } := Heap.get?_push_of_some _ hx
    refine q h2 tk2 hh.objs.size (fun b o hb ho => ?_) (Nat.le_refl _) nx.symm ?_ hn2
    · exact (hs.2 b (Nat.ne_of_lt (Heap.lt_size ho))).trans ((Heap.get?_update_ne _ _ _ _ hb).trans (Heap.get?_push_of_some _ ho))
    · exact (hs.2 x nx).trans (Heap.get?_update_self _ x1 rfl)
end

/-! ### the facts of a class of errors -/
structure ErrK (K : PySem.W.Frag) (C : Addr) : Prop where
  cls : ∃ B newId initId tl bmB nm q N bs bm sn sub ab col dd k0 k1 k2 k3 k5, K.lookup C = some (excClassObj nm q C N bs bm true sn sub ab col dd k0 k1 k2 k3 k5 newId) ∧ TailX B newId initId tl bmB ∧ refsTo tl bm = true
  sa : PySem.W.findIn K (.ref C) "__setattr__" = some (some (.builtin "object.__setattr__"))
  ga : PySem.W.findIn K (.ref C) "__getattribute__" = some (some (.builtin "BaseException.__getattribute__"))
  gg : PySem.W.findIn K (.ref C) "__getattr__" = some none
  exC : PySem.W.subIn K (.ref C) (.type "BaseException") = some true
  kC : PySem.W.keepIn K (.ref C) = true
  hdC : PySem.W.hasDictIn K C = true
  isC : (PySem.W.clsIn K C).isSome = true
  ha : PySem.W.findIn K (.ref C) "__class__" = some (some (.builtin "object.__class__"))
  hn : PySem.W.specialIn K (.builtin "object.__class__") "__get__" = some (some (.builtin "getset_descriptor.__get__"))
  ht : PySem.W.takesIn K (.builtin "object.__class__") = some true
  hm : PySem.W.mroIn K C (.type "object") = some true
/-- C keeps the field f, by its __init__ at fI -/
structure ErrF (K : PySem.W.Frag) (f : Str) (C fI : Addr) : Prop where
  k : ErrK K C
  iC : PySem.W.findIn K (.ref C) "__init__" = some (some (.ref fI))
  tI : PySem.W.typeIn K (.ref fI) = some (.type "function")
  noF : PySem.W.findIn K (.ref C) f = some none
/-- self.f = v, in the making -/
def spIniX (K : PySem.W.Frag) (f : Str) : Sp
  | [.ref a, v], H, Q, _ => ∃ C fI, ErrF K f C fI ∧ H a = some (exo a C none) ∧ ∀ dx, H dx = none → dx ≠ a → Q .non (upd (upd H dx (exd dx [(f, v)])) a (exo a C (some dx)))
  | _, _, _, _ => False
/-- an error, held: its dict holds one field, or it has none -/
def ErrO (K : PySem.W.Frag) (C : Addr) (a : Addr) (H : Hp) : Prop := ErrK K C ∧ (H a = some (exo a C none) ∨ ∃ d fs, H a = some (exo a C (some d)) ∧ H d = some (exd d fs))
/-- an error that keeps v in its field f -/
def ErrV (K : PySem.W.Frag) (f : Str) (C : Addr) (v : V) (a : Addr) (H : Hp) : Prop := (∃ fI, ErrF K f C fI) ∧ ∃ d, H a = some (exo a C (some d)) ∧ H d = some (exd d [(f, v)])
theorem ErrV.o {K : PySem.W.Frag} {f : Str} {C : Addr} {v : V} {a : Addr} {H : Hp} (h : ErrV K f C v a H) : ErrO K C a H := by
  obtain ⟨⟨_, F⟩, d, h1, h2⟩ := h
  exact ⟨F.k, .inr ⟨d, _, h1, h2⟩⟩
theorem ErrO.ex {K : PySem.W.Frag} {C : Addr} {a : Addr} {H H' : Hp} (h : ErrO K C a H) (e : Ex H H') : ErrO K C a H' := by
  obtain ⟨k, h | ⟨d, fs, h1, h2⟩⟩ := h
  · exact ⟨k, .inl (e _ _ h)⟩
  · exact ⟨k, .inr ⟨d, fs, e _ _ h1, e _ _ h2⟩⟩
theorem ErrV.ex {K : PySem.W.Frag} {f : Str} {C : Addr} {v : V} {a : Addr} {H H' : Hp} (h : ErrV K f C v a H) (e : Ex H H') : ErrV K f C v a H' := by
  obtain ⟨k, d, h1, h2⟩ := h
  exact ⟨k, d, e _ _ h1, e _ _ h2⟩
section
variable {X : Cx} {pins : List (Addr × Obj)} {σ : L2.St} {H : Hp} {s : Shared}
theorem setNewI {a C : Addr} {f : Str} {y : V} {u : Value} {Q : Unit → Shared → Prop} {E : Value → Shared → Prop} {A : Around} (T : ErrK X.K C) (I : Inv X pins σ H s) (e : H a = some (exo a C none)) (hno : PySem.W.findIn X.K (.ref C) f = some none) (ry : RelV y u)
    (h : ∀ dx s2, H dx = none → dx ≠ a → Inv X pins σ (upd (upd H dx (exd dx [(f, y)])) a (exo a C (some dx))) s2 → Q () s2) : wpAny (model X.prog X.w) A (setAttr (.ref a) f u) Q E s := by
  obtain ⟨B, newId, initId, tl, bmB, nm, q, N, bs, bm, sn, sub, ab, col, dd, k0, k1, k2, k3, k5, hC, hY, hbm⟩ := T.cls
  have hcl : PySem.W.clsIn X.K C = some { name := nm, bases := bs, mro := .ref C :: bm, ns := N, qualname := q, hasDict := true, slotNames := sn, subclasses := sub, abstract := ab, collection := col, hasDel := false } := by unfold PySem.W.clsIn; rw [hC] <;> rfl
  obtain ⟨t1, ho⟩ := exo_at I.hok e
  obtain ⟨hp, g, d, t, os⟩ := s
  refine PySem.W.set_plain I.kIn (ox := { cls := .ref C, dict := none, data := .fields #[.ref t1, .none, .none, .none, .bool false, .none] }) (od := none) ⟨ho, rfl, rfl, trivial⟩ T.sa ?_
  refine setNewX hY I.kIn ho hcl (show refsTo tl (.ref C :: bm) = true from hbm) rfl hno (fun h' tk' dx k dn dne hx hn => ?_)
  have hnd : H dx = none := I.hok.fresh dn
  have nd : ∀ {b : Addr} {o : Obj}, hp.get? b = some o → b ≠ dx := fun {b o} q => Nat.ne_of_lt (Nat.lt_of_lt_of_le (Heap.lt_size q) dn)
  have na : ∀ {b : Addr}, H b = none → b ≠ a := fun {b} n z => by rw [z, e] at n; cases n
  have U : Un X.fs [] H (upd (upd H dx (exd dx [(f, y)])) a (exo a C (some dx))) hp h' := {
    keep := fun b o q n _ _ => k b o (na n) q
    slot := fun b o q n _ _ => ⟨o.slots, k b o (na n) q⟩
    free := fun b o q n _ => by rw [upd_ne (na n), upd_ne (nd q)]; exact n
    there := fun b o q _ => by
      by_cases hb : b = a
      · exact ⟨_, by rw [hb]; exact hx⟩
      · exact ⟨o, k b o hb q⟩
    tups := fun b xs q => by rw [upd_ne (at_ne e q exo_tup), upd_ne (ne_of_none q hnd)]; exact q
    frzs := fun b o v q => by rw [upd_ne (at_ne e q exo_frz), upd_ne (ne_of_none q hnd)]; exact q
    tbls := fun b ps q => ⟨#[], by rw [upd_ne (at_ne e q exo_tbl), upd_ne (ne_of_none q hnd), q]; simp⟩ }
  refine h dx _ hnd dne (I.un (t' := tk') U fun b o q => ?_)
  by_cases hb : b = a
  · subst hb
    rw [upd_same] at q; cases q
    exact exo_ok hx
  · rw [upd_ne hb] at q
    by_cases hd : b = dx
    · subst hd
      rw [upd_same] at q; cases q
      exact exd_ok hn (relO_put (fs := []) ry fun g => True.intro)
    · rw [upd_ne hd] at q
      refine (I.hok b o q).stay (fun c v hc z => k c v ?_ z) (fun c hc => by rw [upd_ne (at_ne e hc exo_own), upd_ne (ne_of_none hc hnd)]; exact hc) (fun c xs hc => by rw [upd_ne (at_ne e hc exo_tup), upd_ne (ne_of_none hc hnd)]; exact hc)
      rcases hc with hc | hc
      · rw [hc]; exact hb
      · exact at_ne e hc exo_own
end
/-- self.f = e, the first field of an error in the making -/
def tOsX (K : PySem.W.Frag) (f : Str) (to te : TE) : TS := fun D σ H => te σ H fun y H1 => to σ H1 fun x H2 => ∃ a C fI : Addr, x = .ref a ∧ ErrF K f C fI ∧ H2 a = some (exo a C none) ∧ ∀ dx, H2 dx = none → dx ≠ a → D.nx σ (upd (upd H2 dx (exd dx [(f, y)])) a (exo a C (some dx)))
theorem ps_osX {X : Cx} {o e : Expr} {to te : TE} {f : Str} {p' pos : Pos} (ho : PE X o to) (he : PE X e te) (hs : swapsWith e (some (.Attribute o f p')) pos.line X.env = pure false := by rfl) : PS X (.Assign [.Attribute o f p'] e pos) (tOsX X.K f to te) := by
  refine ⟨fun pins s σ H D I h => ?_⟩
  refine plainObj_wpAny_Assign_Attribute (thn (he.run pins s σ H _ I h) fun v s1 ⟨y, H1, I1, r1, q1⟩ => thn (ho.run pins s1 σ H1 _ I1 q1) fun u s2 ⟨x, H2, I2, r2, a, C, fI, ex, T, ea, q⟩ => ?_) hs
  subst ex
  obtain rfl : u = Value.ref a := r2
  exact setNewI T.k I2 ea T.noF r1 fun dx s' n ne J => ⟨σ, _, J, q dx n ne⟩
/-- C(v), an error, held -/
def tErr1 (K : PySem.W.Frag) (f : Str) (C : Addr) (ta : TA) : TE := fun σ H Q => ta σ H fun vs H1 => ∃ v, vs = [v] ∧ ∀ a H2, Ex H1 H2 → H1 a = none → ErrV K f C v a H2 → Q (.ref a) H2
theorem pe_err1 {X : Cx} {CX : CXT} {x f : Str} {C fI : Addr} {k : Nat} {fd : FuncData} {ps : List Str} {e : Expr} {ta : TA} {p pos : Pos} (T : ErrF X.K f C fI)
    (F1 : FnOk X.prog X.w X.K X.mg X.base CX k fI fd ps (spIniX X.K f)) (hr : Room (k + 1) X.A) (hb : Binds X.K fd ps []) (hx : Passes CX X (fun _ _ _ => False)) (hg : Gl X x) (hm : X.mg x = some (.ref C)) (ha : PA X [e] ta)
    (hdb : (x == ("__debug__" : Str)) = false := by decide) (he : starEach [e] X.env = (false, eval e X.env) :: starEach [] X.env := by rfl) (hpl : (backTo pos (starEach [] X.env)).any (·.1) = false := by rfl) :
    PE X (.Call (.Name x p) [e] [] pos) (tErr1 X.K f C ta) := by
  refine ⟨fun pins s σ H Q I h => ?_⟩
  obtain ⟨B, newId, initId, tl, bmB, nm, q, N, bs, bm, sn, sub, ab, col, dd, k0, k1, k2, k3, k5, hC, hY, hbm⟩ := T.k.cls
  refine wpAny_Call_Name_kw (ld_glob I hg hm ?_ hdb)
  refine PySem.W.callWith_K (h₀ := X.base) I.ok.mod.kin T.k.kC (thn (ha.run pos pins s σ H _ I h) fun us s1 ⟨vs, H1, I1, r1, v, ev, q1⟩ => ⟨I1.kIn, ?_⟩) he hpl
  subst ev
  show wpAny _ _ (call (.ref C) us) _ _ _
  obtain ⟨hp, g, dr, tk, os⟩ := s1
  have hsz : hp.objs.size ≤ hp.objs.size + 1 := Nat.le_succ _
  have hn : H1 (hp.objs.size + 1) = none := I1.hok.fresh hsz
  have kk : ∀ b o, hp.get? b = some o → ((hp.push (PySem.W.kdv_tup us)).push (excO C hp.objs.size)).get? b = some o := fun b o e => Heap.get?_push_of_some _ (Heap.get?_push_of_some _ e)
  have hget : ((hp.push (PySem.W.kdv_tup us)).push (excO C hp.objs.size)).get? (hp.objs.size + 1) = some (excO C hp.objs.size) := by heap_get
  have I2 : Inv X pins σ (upd H1 (hp.objs.size + 1) (exo (hp.objs.size + 1) C none)) ⟨(hp.push (PySem.W.kdv_tup us)).push (excO C hp.objs.size), g, dr, tk, os⟩ :=
    I1.laid (t' := tk) (a := hp.objs.size + 1) (o := exo (hp.objs.size + 1) C none) (h' := (hp.push (PySem.W.kdv_tup us)).push (excO C hp.objs.size)) kk hsz (exo_ok hget)
  have r2 : Vals (V.ref (hp.objs.size + 1) :: [v]) (Value.ref (hp.objs.size + 1) :: us) := .cons rfl r1
  have hq : spIniX X.K f (V.ref (hp.objs.size + 1) :: [v]) (upd H1 (hp.objs.size + 1) (exo (hp.objs.size + 1) C none)) (fun u H2 => u = .non ∧ Ex H1 H2 ∧ ErrV X.K f C v (hp.objs.size + 1) H2) (fun _ _ _ => False) := by
    refine ⟨C, fI, T, upd_same, fun dx hd hne => ⟨rfl, fun b o hb => ?_, ⟨fI, T⟩, dx, upd_same, by rw [upd_ne hne, upd_same]⟩⟩
    have b1 : b ≠ hp.objs.size + 1 := ne_of_none hb hn
    have b2 : b ≠ dx := fun z => by rw [← z, upd_ne b1, hb] at hd; cases hd
    rw [upd_ne b1, upd_ne b2, upd_ne b1]; exact hb
  have hl : (Value.ref (hp.objs.size + 1) :: us).length = ps.length := by
    have e := r2.length
    rw [F1.len _ _ _ _ hq] at e
    exact e.symm
  have hus : us.length ≤ sizeLine := by
    rw [← Paired.length r1, sizeLine_eq, List.length_singleton]
    omega
  have hb2 := hb ⟨_, g, dr, tk, os⟩ (Value.ref (hp.objs.size + 1) :: us) I2.kIn (by simpa using hl)
  refine wpAny_call (callX hY hbm (I1.kIn _ _ hC) (PySem.W.looks_findIn I1.kIn T.iC) (fun self => PySem.W.bind_fn I1.kIn self T.tI) hus
    (codeAny_mono (F1.run _ X.stack _ _ ⟨Value.ref (hp.objs.size + 1) :: us, []⟩ (Value.ref (hp.objs.size + 1) :: us) _ _ (fun _ _ _ => False) (hr.make C us []) (I2.env0.make C us []) (by simpa using hb2) r2 hq) fun r s' hq' => ?_))
  cases r with
  | error er => exact hx pins σ _ _ er s' I2 hq'
  | ok fl =>
    cases fl with
    | ret u =>
      obtain ⟨v', H2, os2, bare2, un2, hok2, rv, ev, ex2, er⟩ := hq'
      subst ev
      obtain ⟨h2, g2, d2, t2, os'⟩ := s'
      refine ⟨rv, .ref (hp.objs.size + 1), H2, ?_, rfl, q1 _ H2 ex2 hn er⟩
      exact I2.call' (ch := []) os2 un2 hok2 bare2 (fun b z => absurd z (by simp))
    | next => exact False.elim hq'
    | brk => exact False.elim hq'
    | cont => exact False.elim hq'
end My
set_option Elab.async false
set_option linter.all false
set_option maxRecDepth 100000
set_option maxHeartbeats 4000000
/-! own errors held as values: made without arguments, asked for their classes, their field read -/
namespace My
open PySem PySem.Spec PyProof.Rows L2 Evl PySem.HandSPX
/-- an own error class over ValueError without an __init__ of its own -/
structure Err0 (K : PySem.W.Frag) (C : Addr) : Prop where
  k : ErrK K C
  ex : PySem.W.excIn K C [.type "ValueError", .type "Exception", .type "BaseException", .type "object"] "ValueError.__new__" = true
def tErr0 (K : PySem.W.Frag) (C : Addr) : TE := fun _ H Q => ∀ a H2, Ex H H2 → H a = none → H2 a = some (exo a C none) → Q (.ref a) H2
theorem pe_err0 {X : Cx} {C : Addr} {x : Str} {p pos : Pos} (T : Err0 X.K C) (gC : X.mg x = some (.ref C)) (hg : Gl X x) (hdb : (x == ("__debug__" : Str)) = false := by decide) :
    PE X (.Call (.Name x p) [] [] pos) (tErr0 X.K C) := by
  refine ⟨fun pins s σ H Q I h => ?_⟩
  refine wpAny_Call_Name_kw (ld_glob I hg gC ?_ hdb)
  refine PySem.W.callWith_K0 I.kIn T.k.kC ?_
  show wpAny _ _ (call (.ref C) []) _ _ _
  obtain ⟨bm, N, nm, qn, bs, hdct, sn, sub, ab, col, dd, k0, k1, k2, k3, k5, mN, hC, hN, hni, OT⟩ := exc_obj I.kIn T.ex
  refine wpAny_call_exc_subT PySem.F.excBase_ValueError OT hC hN hni (fun h' a hm => ?_) (Nat.zero_le _)
  have hn : H a = none := I.hok.gone hm.new
  obtain ⟨t, ht, _, _⟩ := hm.there
  exact ⟨.ref a, upd H a (exo a C none), I.laidN hm.keeps hm.new hn (exo_ok ht), rfl, h a _ (Ex.new hn) hn upd_same⟩
/-- isinstance(e, c), e an error that is held -/
def rIsX (K : PySem.W.Frag) : List V → Hp → VK → Prop := fun xs H Q => ∃ (a C : Addr) (c : V) (cv : Value) (b : Bool), xs = [.ref a, c] ∧ ErrO K C a H ∧ (∀ u, RelV c u → u = cv) ∧ PySem.W.kitOne K (.ref C) cv = some b ∧ Q (.bl b) H
theorem call_isX {X : Cx} : CallR X (.builtin "isinstance") (rIsX X.K) := by
  intro pins s σ H xs us Q I r h
  obtain ⟨a, C, c, cv, b, rfl, ⟨T, ho⟩, hcv, e, q⟩ := h
  obtain ⟨u1, u2, rfl, r1, r2⟩ := vals2 r
  obtain rfl : u1 = Value.ref a := r1
  obtain rfl := hcv _ r2
  have K1 : ∀ {ox : Obj} {od : Option Obj}, PySem.W.InstAt s.heap a ox C od → wpAny (model X.prog X.w) X.A (call (.builtin "isinstance") [.ref a, u2]) (EP X pins σ Q) X.xe s := fun J =>
    PySem.W.kia_one (PySem.W.kitx_exc T.isC T.ga T.gg T.exC T.ha T.hn T.ht T.hm) I.kIn J e (fun z => nomatch z) fun tk => ⟨.bl b, H, I.tok tk, rfl, q⟩
  rcases ho with h0 | ⟨d, fs, h0, h1⟩
  · obtain ⟨t1, hx⟩ := exo_at I.hok h0
    exact K1 (ox := { cls := .ref C, dict := none, data := .fields #[.ref t1, .none, .none, .none, .bool false, .none] }) (od := none) ⟨hx, rfl, rfl, trivial⟩
  · obtain ⟨t1, hx⟩ := exo_at I.hok h0
    obtain ⟨mA, hns, _⟩ := exd_at I.hok h1
    obtain ⟨o, es, ep, ho, _⟩ := hns
    exact K1 (ox := { cls := .ref C, dict := some d, data := .fields #[.ref t1, .none, .none, .none, .bool false, .none] }) (od := some o) ⟨hx, rfl, rfl, ho⟩
/-- e.f, e an error that keeps it -/
def tErF (K : PySem.W.Frag) (f : Str) (te : TE) : TE := fun σ H Q => te σ H fun x H1 => ∃ a C v, x = .ref a ∧ ErrV K f C v a H1 ∧ Q v H1
theorem pe_erF {X : Cx} {K : PySem.W.Frag} (hK : X.K = K) {e : Expr} {te : TE} {pos : Pos} {f : Str} (he : PE X e te) (hb : attributeBase e f X.env (eval e X.env) = eval e X.env := by rfl) :
    PE X (.Attribute e f pos) (tErF K f te) := by
  subst hK
  refine ⟨fun pins s σ H Q I h => attr_of hb (thn (he.run pins s σ H _ I h) fun u s1 hh => ?_)⟩
  obtain ⟨x, H1, I1, rx, a, C, v, ex, ⟨⟨fI, T⟩, d, h0, h1⟩, q⟩ := hh
  subst ex
  obtain rfl : u = Value.ref a := rx
  obtain ⟨t1, hx⟩ := exo_at I1.hok h0
  obtain ⟨mA, hns, hr⟩ := exd_at I1.hok h1
  obtain ⟨od, ho, hl⟩ := lookIn_ns hns
  have l1 : ([(f, v)] : List (Str × V)).lookup f = some v := by simp [List.lookup]
  obtain ⟨u, hu, ru⟩ := RelO.some_of (v := v) (o := mA f) (by rw [← l1]; exact hr f)
  have J : PySem.W.InstAt s1.heap a { cls := .ref C, dict := some d, data := .fields #[.ref t1, .none, .none, .none, .bool false, .none] } C (some od) := ⟨hx, rfl, rfl, ho⟩
  exact HandSPX.exc_get I1.kIn J T.k.ga T.k.gg T.k.exC (PySem.W.findObj_own T.k.hdC T.noF rfl (by rw [hl, hu])) (handed_of ru) ⟨v, H1, I1.tok _, ru, q⟩
end My
set_option Elab.async false
set_option linter.all false
set_option maxRecDepth 100000
set_option maxHeartbeats 4000000
/-! the head by one kernel run: what is read of the written part, as Bools, and the law's end -/
namespace My
open PySem PySem.Spec PyProof.Rows L2 Evl
theorem toFun {K : PySem.W.Frag} {x qual : Str} {st : Stmt} {f : Addr} {fd : FuncData} (F : FunD K x qual (defArgs st) (defBody st) (defScope st) [] [] f fd) : Fun K x qual st f fd := by
  obtain ⟨oc, od, dV, kV, doc, pm, an, cdv, ct, osl, rfl, lk, hcd, hD, hK⟩ := F.ex
  rcases hD with ⟨_, rfl⟩ | ⟨e, _⟩
  · exact ⟨⟨oc, od, kV, doc, pm, an, cdv, ct, osl, rfl, lk, hcd⟩, F.kp⟩
  · exact absurd rfl e
/-- what stands in the namespace at a by the name k, if it is an object -/
def daAt (K : PySem.W.Frag) (a : Addr) (k : Str) : Addr := match PySem.W.nsIn K a k with
  | some (some (.ref t)) => t
  | _ => 0
/-- the i-th item of the tuple or list at a, if it is an object -/
def itAt (K : PySem.W.Frag) (a : Addr) (i : Nat) : Addr := match K.lookup a with
  | some ⟨_, _, .seq its _, _⟩ => (match its.toList[i]? with
    | some (.ref b) => b
    | _ => 0)
  | _ => 0
def tupAt (K : PySem.W.Frag) (a : Addr) (vs : List V) : Bool := match K.lookup a with
  | some ⟨.type c, _, .seq its _, _⟩ => decide (c = "tuple") && (decide (its.size ≤ sizeLine) && He.relAll vs its.toList)
  | _ => false
theorem tupAt_ok {K : PySem.W.Frag} {a : Addr} {vs : List V} (h : tupAt K a vs = true) (H : Hp) : SqT K H a vs := by
  unfold tupAt at h
  cases q : K.lookup a with
  | none =>
    rw [q] at h
    cases h
  | some o =>
    obtain ⟨oc, od, dt, osl⟩ := o
    rw [q] at h
    cases oc with
    | type c =>
      cases dt with
      | seq its n =>
        obtain ⟨h1, h2⟩ := He.ba (show (decide (c = "tuple") && (decide (its.size ≤ sizeLine) && He.relAll vs its.toList)) = true from h)
        obtain ⟨h3, h4⟩ := He.ba h2
        exact .inr ⟨_, its, n, q, congrArg Value.type (of_decide_eq_true h1), rfl, of_decide_eq_true h3, He.relAll_ok h4⟩
      | _ => cases h
    | _ => cases dt <;> cases h
/-- an int by a name -/
def intAt (K : PySem.W.Frag) (a : Addr) (k : Str) (i : Int) : Bool := match PySem.W.nsIn K a k with
  | some (some (.int j _)) => decide (j = i)
  | _ => false
theorem intAt_ok {K : PySem.W.Frag} {a : Addr} {k : Str} {i : Int} (h : intAt K a k i = true) : ∃ t, PySem.W.nsIn K a k = some (some (.int i t)) := by
  unfold intAt at h
  split at h
  · rename_i j t e
    rw [e, of_decide_eq_true h]
    exact ⟨t, rfl⟩
  · cases h
/-- a value by a name -/
def valAt (K : PySem.W.Frag) (a : Addr) (k : Str) (v : V) : Bool := match PySem.W.nsIn K a k with
  | some (some u) => He.relB v u
  | _ => false
theorem valAt_ok {K : PySem.W.Frag} {a : Addr} {k : Str} {v : V} (h : valAt K a k v = true) : ∃ u, PySem.W.nsIn K a k = some (some u) ∧ RelV v u := by
  unfold valAt at h
  split at h
  · rename_i u e
    exact ⟨u, e, He.relB_ok h⟩
  · cases h
theorem valAt_mg {K : PySem.W.Frag} {h : Heap} {mg : Str → Option Value} (X : K.In h) (G : h.Ns mainGlobals mg) {k : Str} {v : V} (q : valAt K mainGlobals k v = true) : ∃ u, mg k = some u ∧ RelV v u := by
  obtain ⟨u, e, r⟩ := valAt_ok q
  exact ⟨u, PySem.W.mg_of X G e, r⟩
/-- an own error's class -/
def excB (K : PySem.W.Frag) (C : Addr) (newId : String) (tl : List Value → Bool) : Bool := match K.lookup C with
  | some ⟨.type "type", _, .cls cd, sl⟩ => (match cd.mro, sl.toList with
    | .ref C' :: bm, [_, _, _, _, some (.builtin n), _] => C' == C && n == newId && !cd.hasDel && cd.hasDict && tl bm
    | _, _ => false)
  | _ => false
theorem excB_ok {K : PySem.W.Frag} {C : Addr} {newId : String} {tl : List Value → Bool} (q : excB K C newId tl = true) :
    ∃ nm qn N bs bm sn sub ab col dd k0 k1 k2 k3 k5, K.lookup C = some (excClassObj nm qn C N bs bm true sn sub ab col dd k0 k1 k2 k3 k5 newId) ∧ tl bm = true := by
  unfold excB at q
  split at q
  · rename_i dd cd sl ho
    split at q
    · rename_i C' bm k0 k1 k2 k3 n k5 hm hs
      simp only [Bool.and_eq_true, beq_iff_eq, Bool.not_eq_true'] at q
      obtain ⟨⟨⟨⟨rfl, rfl⟩, hdel⟩, hdt⟩, ht⟩ := q
      obtain ⟨nm, bs, mro, ns, qn, hd, sn, sub, ab, col, del⟩ := cd
      dsimp only at hm hdel hdt
      subst hm hdel hdt
      have hsl : sl = #[k0, k1, k2, k3, some (.builtin n), k5] := by
        obtain ⟨l⟩ := sl
        simp only at hs
        rw [hs]
      subst hsl
      exact ⟨nm, qn, ns, bs, bm, sn, sub, ab, col, dd, k0, k1, k2, k3, k5, ho, ht⟩
    · cases q
  · cases q
def ttV : List Value := [.type "ValueError", .type "Exception", .type "BaseException", .type "object"]
theorem errCls {K : PySem.W.Frag} {C : Addr} {B newId initId : String} {tl bmB : List Value} (T : TailX B newId initId tl bmB) (q : excB K C newId (refsTo tl) = true) :
    ∃ B newId initId tl bmB nm q N bs bm sn sub ab col dd k0 k1 k2 k3 k5, K.lookup C = some (excClassObj nm q C N bs bm true sn sub ab col dd k0 k1 k2 k3 k5 newId) ∧ TailX B newId initId tl bmB ∧ refsTo tl bm = true := by
  obtain ⟨nm, qn, N, bs, bm, sn, sub, ab, col, dd, k0, k1, k2, k3, k5, h1, h2⟩ := excB_ok q
  exact ⟨B, newId, initId, tl, bmB, nm, qn, N, bs, bm, sn, sub, ab, col, dd, k0, k1, k2, k3, k5, h1, T, h2⟩
theorem noA {K : PySem.W.Frag} {C : Addr} {f : Str} (h : decide (PySem.W.findIn K (.ref C) f = some none) = true) : NoAttr K C f := show PySem.W.findIn K (.ref C) f = some none from of_decide_eq_true h
theorem map_mro {K : PySem.W.Frag} {C : Addr} {m : List Value} (h : (PySem.W.clsIn K C).map (·.mro) = some m) : ∃ cd, PySem.W.clsIn K C = some cd ∧ cd.mro = m := by
  obtain ⟨cd, h1, h2⟩ := Option.map_eq_some_iff.mp h
  exact ⟨cd, h1, h2⟩
/-- the facts, in rows -/
def exs (fs : PySem.W.Frag → List (List Bool)) (K : PySem.W.Frag) : Bool := (fs K).all fun l => l.all id
/-- what is told of the written part -/
structure SaysL (fn : List He.DefD) (ts : List He.Tab) (fs : PySem.W.Frag → List (List Bool)) (w : World) (K : PySem.W.Frag) : Prop where
  t : He.SaysT [] fn ts w K
  more : exs fs K = true
def obsL (as : List Addr) (fn : List He.DefD) (ts : List He.Tab) (fs : PySem.W.Frag → List (List Bool)) (g : Addr → Option Obj) : He.AlT × Bool := (He.obsT [] fn ts (He.frG g as), exs fs (He.frG g as))
def hookL (as : List Addr) (fn : List He.DefD) (ts : List He.Tab) (fs : PySem.W.Frag → List (List Bool)) : PySem.W.Hook where
  α := He.AlT × Bool
  obs := fun s => obsL as fn ts fs s.heap.get?
  val := fun w => (He.valT fn ts w, true)
  says := fun w h => ∃ K : PySem.W.Frag, K.In h ∧ SaysL fn ts fs w K
  of := fun _ _ e => ⟨_, He.frG_in, ⟨congrArg Prod.fst e, congrArg Prod.snd e⟩⟩
  keeps := fun _ _ _ ⟨K, hK, c⟩ k => ⟨K, PySem.W.Frag.In.keeps hK k, c⟩
theorem obsL_eq {as : List Addr} {fn : List He.DefD} {ts : List He.Tab} {fs : PySem.W.Frag → List (List Bool)} {g : Addr → Option Obj} {s : Shared} (h : ∀ a, g a = s.heap.get? a) : obsL as fn ts fs g = (hookL as fn ts fs).obs s := by
  have e : g = s.heap.get? := funext h
  rw [e] <;> rfl
theorem parts3 {α β γ δ : Type} {o : Option δ} {f : δ → α} {g : δ → β} {h : δ → γ} {a : α} {b : β} {c : γ} (x : o.map f = some a) (y : o.map g = some b) (z : o.map h = some c) : o.map (fun s => (f s, g s, h s)) = some (a, b, c) := by
  cases o with
  | none => cases x
  | some s => exact congrArg some (Prod.ext (Option.some.inj x) (Prod.ext (Option.some.inj y) (Option.some.inj z)))
open HandSHeadRun in
/-- the run's equation by its three parts, each a run of its own (memory) -/
theorem runI_of {r : PySem.W.OpenRow} {q : Program} {H : PySem.W.Hook} {ob : PySem.W.SharedT → H.α} {M : Nat} {loose : List PySem.Str} {w : World}
    (a : (wholeF (fun p => stepQ (denQ tabQ) p w) fenceQ M r.prog).map (fun x => looksF r.prog x.1.heap x.2.abs) = some true)
    (b : (wholeF (fun p => stepQ (denQ tabQ) p w) fenceQ M r.prog).map (fun x => seenQ q loose (importedModules r.prog.main.body) (fun s => PySem.W.xlAt q [] s && PySem.W.recOk r.toRowW.records s) x.2.abs) = some (PySem.W.openGood q loose))
    (c : (wholeF (fun p => stepQ (denQ tabQ) p w) fenceQ M r.prog).map (fun x => ob x.2) = some (H.val w)) : RunEqI r q H ob M loose w := parts3 a b c
theorem bit {fn : List He.DefD} {ts : List He.Tab} {fs : PySem.W.Frag → List (List Bool)} {w : World} {K : PySem.W.Frag} (c : SaysL fn ts fs w K) (i j : Nat) {l : List Bool} {b : Bool}
    (hi : (fs K)[i]? = some l) (hj : l[j]? = some b) : b = true := by
  have h1 := List.all_eq_true.mp (show ((fs K).all fun l => l.all id) = true from c.more) l (List.mem_of_getElem? hi)
  exact List.all_eq_true.mp h1 b (List.mem_of_getElem? hj)
theorem tabW {fa : List He.Fa} {fn : List He.DefD} {ts : List He.Tab} {w : World} {K : PySem.W.Frag} (c : He.SaysT fa fn ts w K) (i : Nat) {t : He.Tab} (h : ts[i]? = some t) : He.dicW K (t.1 K) = some (He.keysIn w.params t.2) := by
  have e : ts.map (fun t => He.dicW K (t.1 K)) = ts.map fun t => some (He.keysIn w.params t.2) := congrArg (fun z : He.AlT => z.2) c
  have e2 : (ts.map fun t => He.dicW K (t.1 K))[i]? = (ts.map fun t => some (He.keysIn w.params t.2))[i]? := by rw [e]
  rw [List.getElem?_map, List.getElem?_map, h] at e2
  exact Option.some.inj e2
/-- the law's end, over what a Hook says (walk_ofE, for FnG) -/
theorem walkGE {l : PySem.W.OpenLaw} {n k : Nat} {q : Program} {loose : List Str} {XP : (Str → Option Value) → Heap → Prop} {YP : World → Heap → Prop} {d : DefRec} {CX : CXT} {x : Str}
    (hn : l.most = some n) (h2 : n ≤ sizeLine) (hdf : d.params.defaults = []) (hr : Room k callerA)
    (F : ∀ (w : World) (mg : Str → Option Value) (fa : Addr) (h : Heap), YP w h → h.Ns mainGlobals mg → mg d.name = some (.ref fa) →
      ∃ (K : PySem.W.Frag) (fd : FuncData) (sp : Sp), K.In h ∧ (∀ (s : Shared) (u : Value), BindsTo s fd ⟨[u], []⟩ [(x, u)]) ∧
        (∀ (H : Hp) (a : Addr) (ns : List Int), ns.length ≤ n → Only H → SqL K H a (ns.map V.int) → sp [.ref a] H (fun v _ => v = .bl true) fun _ _ _ => False) ∧
        ∀ base : Heap, K.In base → base.Ns mainGlobals mg → FnG l.prog w K mg base CX k fa fd [x] sp)
    (hCX : ∀ (H : Hp) (s : Shared) (e : Value) (s' : Shared), CX [] H s (fun _ _ _ => False) e s' → False) :
    PySem.W.WalkO q loose XP YP l.row.toRowW d [] (fun f vs => PySem.call f vs) := by
  refine Att.attach_call hn hdf fun w s₀ s₁ mg mb fa o pm cd doc a vs ns G Y ho hd hcd hmg hobj hints hlen hg => ?_
  obtain ⟨K, fd, sp, KX, hb, hsp, hF⟩ := F w mg fa _ Y G.T.g hmg
  exact lawG KX G.T.g G.T.b G.T.builtins G.T.nolimit hg hobj hints (Nat.le_trans hlen h2) hr hF hb (fun H hO hS => hsp H a ns hlen hO hS) fun H e s' => hCX H s₁ e s'
end My
set_option Elab.async false
set_option linter.all false
set_option maxRecDepth 100000
set_option maxHeartbeats 4000000
/-! own classes: str(o), f'{o}', o == x, o != x by the classes' own methods -/
namespace My
open PySem PySem.Spec PyProof.Rows L2 Evl
section
variable {X : Cx} {pins : List (Addr × Obj)} {σ : L2.St} {H : Hp} {s : Shared}
theorem ins_at {a C dx : Addr} {fs : List (Str × V)} (I : Inv X pins σ H s) (e : H a = some (.ins C dx fs)) : ∃ od, PySem.W.InstAt s.heap a (PySem.W.instObj C dx) C (some od) := by
  obtain ⟨mA, O, _⟩ := ins_get I.hok e
  obtain ⟨od, J, _⟩ := O.look
  exact ⟨od, J⟩
/-- the method m of the class at C stands at g -/
structure MethC (K : PySem.W.Frag) (m : Str) (C g : Addr) : Prop where
  at_ : PySem.W.findIn K (.ref C) m = some (some (.ref g))
  fn : PySem.W.isFn K (.ref g) = true
/-- what an own class says that isinstance and f'{o}' ask -/
structure OC (K : PySem.W.Frag) (C : Addr) : Prop where
  cl : Cls K C
  ha : PySem.W.findIn K (.ref C) "__class__" = some (some (.builtin "object.__class__"))
  hn : PySem.W.specialIn K (.builtin "object.__class__") "__get__" = some (some (.builtin "getset_descriptor.__get__"))
  ht : PySem.W.takesIn K (.builtin "object.__class__") = some true
  hm : PySem.W.mroIn K C (.type "object") = some true
  fm : PySem.W.findIn K (.ref C) "__format__" = some (some (.builtin "object.__format__"))
theorem OC.ty {K : PySem.W.Frag} {C a dx : Addr} {fs : List (Str × V)} {H : Hp} (o : OC K C) (e : H a = some (.ins C dx fs)) : TyX K H (.ref a) (.ref C) := .base (.ins e o.cl o.ha o.hn o.ht o.hm)
/-- a promise of a method, on instances of the class at C -/
def onC (C : Addr) (sp : Sp) : Sp := fun vs H Q E => (∃ a dx fs rest, vs = .ref a :: rest ∧ H a = some (.ins C dx fs)) ∧ sp vs H Q E
/-- str(o): SF tells which def serves which class -/
def rStrO (SF : Addr → Addr → Prop) (sp : Sp) (E : XK) : List V → Hp → VK → Prop := fun xs H Q => ∃ a C dx fs g, xs = [.ref a] ∧ H a = some (.ins C dx fs) ∧ SF C g ∧ sp [.ref a] H (fun z H' => ∃ y, z = .str y ∧ Q z H') E
theorem call_strO {CX : CXT} {n : Nat} {sp : Sp} {E : XK} {SF : Addr → Addr → Prop} (hS : ∀ C g, SF C g → MethC X.K "__str__" C g) (hF : ∀ C g, SF C g → FnR X.prog X.w X.K X.mg X.base CX n g (onC C sp)) (hr : Room (n + 2) X.A) (hx : Passes CX X E) : CallR X (.type "str") (rStrO SF sp E) := by
  intro pins s σ H xs us Q I r h
  obtain ⟨a, C, dx, fs, g, rfl, ha, hg, q⟩ := h
  obtain ⟨u, rfl, ru⟩ := r.one
  obtain rfl : u = Value.ref a := ru
  obtain ⟨od, J⟩ := ins_at I ha
  have h2 : Room n X.A.in1.in1 := (show Room (n + 1) X.A.in1 from Room.in1 hr).in1
  refine PySem.W.kso_call h2.units0 I.kIn J (hS C g hg).at_ (hS C g hg).fn (wpAny_mono (wpAny_call (SlX.run_at (us := [.ref a]) (ws := [.ref a]) (hF C g hg) h2 I.env0.in1.in1 hx I (.cons rfl .nil) ⟨⟨_, _, _, _, rfl, ha⟩, q⟩)) (fun w s' z => ?_) fun _ _ x => x)
  obtain ⟨z', H', I', rz, y, ey, qz⟩ := z
  subst ey
  obtain ⟨t, e⟩ := (show ∃ t, w = Value.str y t from rz)
  cases e
  exact ⟨.str y, H', I', ⟨t, rfl⟩, qz⟩
/-- str(x), x an int or a text -/
def rStrA : List V → Hp → VK → Prop
  | [.int i], H, Q => i.natAbs.log2 < 1920 ∧ Q (.str (toString i)) H
  | [.str y], H, Q => Q (.str y) H
  | _, _, _ => False
/-- what an own class must say that f'{o}' is its str -/
structure FmtC (K : PySem.W.Frag) (C : Addr) : Prop where
  fm : PySem.W.findIn K (.ref C) "__format__" = some (some (.builtin "object.__format__"))
  om : PySem.W.mroIn K C (.type "object") = some true
def tFmtO (SF : Addr → Addr → Prop) (sp : Sp) (E : XK) (te : TE) : TE := fun σ H Q => te σ H fun x H1 => ∃ a C dx fs g, x = .ref a ∧ H1 a = some (.ins C dx fs) ∧ SF C g ∧ sp [.ref a] H1 (fun z H' => ∃ y, z = .str y ∧ Q z H') E
theorem pe_fmtO {CX : CXT} {n : Nat} {sp : Sp} {E : XK} {SF : Addr → Addr → Prop} {e : Expr} {te : TE} {pos : Pos} (hS : ∀ C g, SF C g → MethC X.K "__str__" C g ∧ FmtC X.K C) (hF : ∀ C g, SF C g → FnR X.prog X.w X.K X.mg X.base CX n g (onC C sp)) (hr : Room (n + 1) X.A) (hx : Passes CX X E)
    (he : PE X e te) : PE X (.FormattedValue e (-1) none pos) (tFmtO SF sp E te) := by
  refine ⟨fun pins s σ H Q I h => ?_⟩
  refine wpAny_FormattedValue_plain (thn (he.run pins s σ H _ I h) fun v s1 hv => ?_)
  obtain ⟨x, H1, I1, r1, a, C, dx, fs, g, ex, ha, hg, q⟩ := hv
  subst ex
  obtain rfl : v = Value.ref a := r1
  obtain ⟨od, J⟩ := ins_at I1 ha
  obtain ⟨M, Fm⟩ := hS C g hg
  have h2 : Room n X.A.in1 := Room.in1 hr
  have I2 := I1.tok (s1.toks + 1)
  refine PySem.W.kfo_fieldS h2.units0 I1.kIn J Fm.fm Fm.om M.at_ M.fn (wpAny_mono (wpAny_call (SlX.run_at (us := [.ref a]) (ws := [.ref a]) (hF C g hg) h2 I2.env0.in1 hx I2 (.cons rfl .nil) ⟨⟨_, _, _, _, rfl, ha⟩, q⟩)) (fun w s' z => ?_) fun _ _ x => x)
  obtain ⟨z', H', I', rz, y, ey, qz⟩ := z
  subst ey
  obtain ⟨t, e⟩ := (show ∃ t, w = Value.str y t from rz)
  cases e
  exact ⟨.str y, H', I', ⟨t, rfl⟩, qz⟩
/-- o == y by the own __eq__ of o's class; y of any type that is no class below it -/
def rEqO (K : PySem.W.Frag) (SF : Addr → Addr → Prop) (sp : Sp) (E : XK) : R2 := fun x y H Q => ∃ a C dx fs g t, x = .ref a ∧ H a = some (.ins C dx fs) ∧ SF C g ∧ TyX K H y t ∧ PySem.W.notFirst K C t = true ∧ sp [x, y] H Q E
theorem op_eqO {CX : CXT} {n : Nat} {sp : Sp} {E : XK} {SF : Addr → Addr → Prop} (hS : ∀ C g, SF C g → MethC X.K "__eq__" C g) (hF : ∀ C g, SF C g → FnR X.prog X.w X.K X.mg X.base CX n g (onC C sp)) (hr : Room n X.A) (hx : Passes CX X E) : OpR X (compareOp .Eq) (rEqO X.K SF sp E) := by
  intro pins s σ H x y v u Q I rx ry h
  obtain ⟨a, C, dx, fs, g, t, rfl, ha, hg, ty, hn, q⟩ := h
  obtain rfl : v = Value.ref a := rx
  obtain ⟨od, J⟩ := ins_at I ha
  obtain ⟨m, hFr⟩ := I.fr
  obtain ⟨PP, KX, hp, _⟩ := kit_of I ry ty
  show wpAny _ _ (richCompare .Eq _ _) _ _ _
  refine PySem.W.cmp_K (op := .Eq) (tb := t) hr.units0 hFr I.ok.mod.kin J (KX.ty _ _ I.kIn hp) hn (hS C g hg).at_ (hS C g hg).fn ?_
  refine wpAny_mono (wpAny_call (run_fnR (us := [.ref a, u]) (vs := [.ref a, y]) (hF C g hg) hr hx I (.cons rfl (.cons ry .nil)) ⟨⟨_, _, _, _, rfl, ha⟩, q⟩)) (fun w s' z => ?_) fun _ _ x => x
  obtain ⟨z', H', I', rz, qz⟩ := z
  exact SlX.cmpback rz ⟨z', H', I', rz, qz⟩
/-- C(), C an own class without an __init__ -/
structure New0 (K : PySem.W.Frag) (C : Addr) : Prop where
  mks : PySem.W.makesIn K C = true
  it : PySem.W.findIn K (.ref C) "__init__" = some (some (.builtin "object.__init__"))
  kp : PySem.W.keepIn K (.ref C) = true
def tNew0 (C : Addr) : TE := fun _ H Q => ∀ x dx, H x = none → H dx = none → dx ≠ x → Q (.ref x) (upd (upd H dx (.own x)) x (.ins C dx []))
open PySem.W in
theorem pe_new0 {C : Addr} {x : Str} {p pos : Pos} (T : New0 X.K C) (hg : Gl X x) (hm : X.mg x = some (.ref C)) (hdb : (x == ("__debug__" : Str)) = false := by decide) : PE X (.Call (.Name x p) [] [] pos) (tNew0 C) := by
  refine ⟨fun pins s σ H Q I h => ?_⟩
  refine wpAny_Call_Name_kw (ld_glob I hg hm ?_ hdb)
  refine PySem.W.callWith_K0 I.kIn T.kp ?_
  show wpAny _ _ (call (.ref C) []) _ _ _
  have I2 := Inv.made (C := C) I
  have hq := h (s.heap.objs.size + 1) s.heap.objs.size (I.hok.fresh (Nat.le_succ _)) (I.hok.fresh (Nat.le_refl _)) (Nat.ne_of_lt (Nat.lt_succ_self _))
  have Y := makes_of (M := model X.prog X.w) I.kIn T.mks
  refine wpAny_call (make_map0 I.kIn T.mks T.it (fun self => Looks.of_pure (oi_bind self)) ?_)
  have e2 : ((s.heap.push emptyDict).push (instObj C s.heap.objs.size)).get? (s.heap.objs.size + 1) = some (instObj C s.heap.objs.size) := by heap_get
  have t1 : Looks (model X.prog X.w) ((s.heap.push emptyDict).push (instObj C s.heap.objs.size)) (typeOf (.ref (s.heap.objs.size + 1))) (.ref C) := (Looks.ld e2).andThen .now
  have t2 : Looks (model X.prog X.w) ((s.heap.push emptyDict).push (instObj C s.heap.objs.size)) (isInstance (.ref (s.heap.objs.size + 1)) (.type "object")) true := t1.andThen (Y.top.keeps fun b o e => Heap.get?_push_of_some _ (Heap.get?_push_of_some _ e))
  refine codeAny_call_builtin oi_plain entry_oi (@check_slot (model X.prog X.w) _ _ _ "object.__init__" "object" "__init__" (.ref (s.heap.objs.size + 1)) [] [] _ oi_kind oi_split t2 (oi_args (.ref (s.heap.objs.size + 1))) ?_)
  rw [oi_run]
  exact wpAny_pure ⟨rfl, .ref (s.heap.objs.size + 1), _, I2, rfl, hq⟩
/-- a name of the module or of what is built in, by what it holds -/
theorem pe_globE {x : Str} {p : Pos} {v : V} (hg : Gl X x) (hm : ∃ u, X.mg x = some u ∧ RelV v u) (hdb : (x == ("__debug__" : Str)) = false := by decide) : PE X (.Name x p) (tC v) := by
  obtain ⟨u, hm, r⟩ := hm
  exact pe_glob hg hm r (hd := hdb)
theorem call_strA : CallR X (.type "str") rStrA := by
  intro pins s σ H xs us Q I r h
  unfold rStrA at h
  split at h
  · exact call_str_int pins s σ H _ us Q I r ⟨_, rfl, h.1, h.2⟩
  · exact SkE.call_str_str pins s σ H _ us Q I r ⟨_, rfl, h⟩
  · exact h.elim
theorem call_isiK {K : PySem.W.Frag} (hK : X.K = K := by rfl) : CallR X (.builtin "isinstance") (rIsi K) := by
  subst hK
  exact call_isi
theorem pg_tupK {K : PySem.W.Frag} {es : List Expr} {k : Nat} {t : TGs} {n : Nat} {pos : Pos} (hK : X.K = K) (hc : X.calm = true) (h : PGs X es t)
    (hn : (assignEach es X.env).length = n := by rfl) (hst : (assignEach es X.env).findIdx? (·.1) = none := by rfl) : PG X (.Tuple es k pos) (gTup K n t) := by
  subst hK
  exact pg_tup hc h hn hst
end
end My
set_option Elab.async false
set_option linter.all false
set_option maxRecDepth 100000
set_option maxHeartbeats 4000000
/-! rows and tests as plain data: what stands in the heap for them, what they are told of by -/
namespace My
open PySem PySem.Spec PyProof.Rows L2 Evl
inductive TestM where
  | ask (word : Str) (names : List Str)
  | not (t : TestM)
  deriving DecidableEq
inductive RowM where
  | stop
  | put (name deed : Str) (given : List V)
  | times (n : Nat) (rows : List RowM)
  | ifr (t : TestM) (rows others : List RowM)
def All2T {α β : Type} (R : α → β → Prop) : List α → List β → Prop
  | [], [] => True
  | a :: as, b :: bs => R a b ∧ All2T R as bs
  | _, _ => False
theorem All2T.imp {α β : Type} {R S : α → β → Prop} (h : ∀ a b, R a b → S a b) : ∀ {as : List α} {bs : List β}, All2T R as bs → All2T S as bs
  | [], [], _ => trivial
  | _ :: _, _ :: _, ⟨x, y⟩ => ⟨h _ _ x, All2T.imp h y⟩
  | [], _ :: _, x => x.elim
  | _ :: _, [], x => x.elim
theorem All2T.len {α β : Type} {R : α → β → Prop} : ∀ {as : List α} {bs : List β}, All2T R as bs → bs.length = as.length
  | [], [], _ => rfl
  | _ :: _, _ :: _, ⟨_, y⟩ => by rw [List.length_cons, List.length_cons, All2T.len y]
  | [], _ :: _, x => x.elim
  | _ :: _, [], x => x.elim
theorem All2T.at_ {α β : Type} {R : α → β → Prop} : ∀ {as : List α} {bs : List β} {i : Nat} {b : β}, All2T R as bs → bs[i]? = some b → ∃ a, as[i]? = some a ∧ R a b
  | [], [], _, _, _, h => by simp at h
  | a :: _, b :: _, 0, _, ⟨x, _⟩, h => by
    rw [List.getElem?_cons_zero] at h
    cases h
    exact ⟨a, rfl, x⟩
  | _ :: _, _ :: _, i + 1, _, ⟨_, y⟩, h => by
    rw [List.getElem?_cons_succ] at h ⊢
    exact All2T.at_ y h
  | [], _ :: _, _, _, x, _ => x.elim
  | _ :: _, [], _, _, x, _ => x.elim
theorem All2T.snoc {α β : Type} {R : α → β → Prop} {a : α} {b : β} (r : R a b) : ∀ {as : List α} {bs : List β}, All2T R as bs → All2T R (as ++ [a]) (bs ++ [b])
  | [], [], _ => ⟨r, trivial⟩
  | _ :: _, _ :: _, ⟨x, y⟩ => ⟨x, All2T.snoc r y⟩
  | [], _ :: _, x => x.elim
  | _ :: _, [], x => x.elim
/-- an argument of a deed: a name or a number -/
def argV : V → Prop
  | .str _ => True
  | .int i => 0 ≤ i
  | _ => False
/-- the text of an argument -/
def argT : V → Str
  | .str x => x
  | .int i => toString i
  | _ => ""
def TestM.dep : TestM → Nat
  | .ask .. => 0
  | .not t => t.dep + 1
mutual
def RowM.dep : RowM → Nat
  | .stop | .put .. => 0
  | .times _ rs => RowM.deps rs + 1
  | .ifr _ rs os => max (RowM.deps rs) (RowM.deps os) + 1
def RowM.deps : List RowM → Nat
  | [] => 0
  | r :: rs => max r.dep (RowM.deps rs)
end
/-! ### the texts -/
def signs : List Str := ["+", "-", "*", "//", "**"]
def TestM.text : TestM → Str
  | .ask w ns => Txt.join " " (w :: ns)
  | .not t => Str.ofString "not " ++ t.text
def putText (n d : Str) (g : List V) : Str :=
  if d ∈ signs then (match g with
    | [a, b] => n ++ Str.ofString " = " ++ argT a ++ Str.ofString " " ++ d ++ Str.ofString " " ++ argT b
    | _ => "")
  else Txt.join " " (n :: "=" :: d :: g.map argT)
mutual
def RowM.lines : RowM → List Str
  | .stop => ["stop"]
  | .put n d g => [putText n d g]
  | .times c rs => (Str.ofString "times " ++ Str.ofString (toString (c : Int))) :: (RowM.liness rs ++ [("end" : Str)])
  | .ifr t rs os => (Str.ofString "if " ++ t.text) :: ((RowM.liness rs ++ RowM.elses os) ++ [("end" : Str)])
def RowM.liness : List RowM → List Str
  | [] => []
  | r :: rs => r.lines ++ RowM.liness rs
def RowM.elses : List RowM → List Str
  | [] => []
  | r :: rs => ("else" : Str) :: (r.lines ++ RowM.liness rs)
end
def RowM.text (r : RowM) : Str := Txt.join "\n" r.lines
/-! ### the package's objects -/
structure ClsA where
  put : Addr
  ifr : Addr
  times : Addr
  stop : Addr
  ask : Addr
  not : Addr
/-- which class is which: 0 to 5 the classes of rows and tests, 6 Row, 7 Test -/
def clsL (A : ClsA) (row test : Addr) : List Addr := [A.put, A.ifr, A.times, A.stop, A.ask, A.not, row, test]
def ansO (i j : Nat) : Bool := decide (i = j ∨ (j = 6 ∧ i < 4) ∨ (j = 7 ∧ 4 ≤ i))
def plainTs : List String := ["str", "tuple", "list", "int", "bool", "NoneType"]
def kitO (K : PySem.W.Frag) (A : ClsA) (row test : Addr) : Bool :=
  ((List.range 6).all fun i => (List.range 8).all fun j => PySem.W.kitOne K (.ref ((clsL A row test).getD i 0)) (.ref ((clsL A row test).getD j 0)) == some (ansO i j)) &&
  (((List.range 6).all fun i => plainTs.all fun t => PySem.W.kitOne K (.ref ((clsL A row test).getD i 0)) (.type t) == some false) &&
  ((List.range 8).all fun j => plainTs.all fun t => PySem.W.kitOne K (.type t) (.ref ((clsL A row test).getD j 0)) == some false))
section
variable {K : PySem.W.Frag} {A : ClsA} {row test : Addr}
theorem kitO1 (h : kitO K A row test = true) (i j : Nat) (hi : i < 6) (hj : j < 8) : PySem.W.kitOne K (.ref ((clsL A row test).getD i 0)) (.ref ((clsL A row test).getD j 0)) = some (ansO i j) := by
  have h1 := List.all_eq_true.mp (Bool.and_eq_true_iff.mp h).1 i (List.mem_range.mpr hi)
  exact eq_of_beq (List.all_eq_true.mp h1 j (List.mem_range.mpr hj))
theorem clsNe (h : kitO K A row test = true) (i j : Nat) (hi : i < 6) (hj : j < 6) (hne : i ≠ j) : (clsL A row test).getD i 0 ≠ (clsL A row test).getD j 0 := fun e => by
  have h1 := kitO1 h i j hi (by omega)
  have h2 := kitO1 h i i hi (by omega)
  rw [← e, h2] at h1
  have h3 : ansO i i = true := by unfold ansO; simp
  have h4 : ansO i j = false := by unfold ansO; simp; omega
  rw [h3, h4] at h1
  cases h1
theorem kitO2 (h : kitO K A row test = true) (i : Nat) (t : String) (hi : i < 6) (ht : t ∈ plainTs) : PySem.W.kitOne K (.ref ((clsL A row test).getD i 0)) (.type t) = some false := by
  have h1 := List.all_eq_true.mp (Bool.and_eq_true_iff.mp (Bool.and_eq_true_iff.mp h).2).1 i (List.mem_range.mpr hi)
  exact eq_of_beq (List.all_eq_true.mp h1 t ht)
theorem kitO3 (h : kitO K A row test = true) (j : Nat) (t : String) (hj : j < 8) (ht : t ∈ plainTs) : PySem.W.kitOne K (.type t) (.ref ((clsL A row test).getD j 0)) = some false := by
  have h1 := List.all_eq_true.mp (Bool.and_eq_true_iff.mp (Bool.and_eq_true_iff.mp h).2).2 j (List.mem_range.mpr hj)
  exact eq_of_beq (List.all_eq_true.mp h1 t ht)
end
section
variable (K : PySem.W.Frag) (A : ClsA) (H : Hp)
def TestO : TestM → V → Prop
  | .ask w ns, v => ∃ a dx q, v = .ref a ∧ H a = some (.ins A.ask dx [("word", .str w), ("names", .ref q)]) ∧ SqT K H q (ns.map V.str)
  | .not t, v => ∃ a dx u, v = .ref a ∧ H a = some (.ins A.not dx [("test", u)]) ∧ TestO t u
mutual
def RowO : RowM → V → Prop
  | .stop, v => ∃ a dx, v = .ref a ∧ H a = some (.ins A.stop dx [])
  | .put n d g, v => ∃ a dx q, v = .ref a ∧ H a = some (.ins A.put dx [("name", .str n), ("deed", .str d), ("given", .ref q)]) ∧ SqT K H q g
  | .times c rs, v => ∃ a dx q vs, v = .ref a ∧ H a = some (.ins A.times dx [("count", .int c), ("rows", .ref q)]) ∧ SqT K H q vs ∧ RowOs rs vs
  | .ifr t rs os, v => ∃ a dx u q r vs ws, v = .ref a ∧ H a = some (.ins A.ifr dx [("test", u), ("rows", .ref q), ("others", .ref r)]) ∧ TestO K A H t u ∧ SqT K H q vs ∧ RowOs rs vs ∧ SqT K H r ws ∧ RowOs os ws
def RowOs : List RowM → List V → Prop
  | [], vs => vs = []
  | r :: rs, vs => ∃ v ws, vs = v :: ws ∧ RowO r v ∧ RowOs rs ws
end
/-! ### the law's own tuples -/
def TestT : TestM → V → Prop
  | .ask w ns, v => ∃ a q, v = .ref a ∧ SqT K H a [.str "ask", .str w, .ref q] ∧ SqT K H q (ns.map V.str)
  | .not t, v => ∃ a u, v = .ref a ∧ SqT K H a [.str "not", u] ∧ TestT t u
mutual
def RowT : RowM → V → Prop
  | .stop, v => ∃ a, v = .ref a ∧ SqT K H a [.str "stop"]
  | .put n d g, v => ∃ a q, v = .ref a ∧ SqT K H a [.str "put", .str n, .str d, .ref q] ∧ SqT K H q g
  | .times c rs, v => ∃ a q vs, v = .ref a ∧ SqT K H a [.str "times", .int c, .ref q] ∧ SqT K H q vs ∧ RowTs rs vs
  | .ifr t rs os, v => ∃ a u q r vs ws, v = .ref a ∧ SqT K H a [.str "if", u, .ref q, .ref r] ∧ TestT K H t u ∧ SqT K H q vs ∧ RowTs rs vs ∧ SqT K H r ws ∧ RowTs os ws
def RowTs : List RowM → List V → Prop
  | [], vs => vs = []
  | r :: rs, vs => ∃ v ws, vs = v :: ws ∧ RowT r v ∧ RowTs rs ws
end
end
/-- all but lists stays -/
def Kp (H H' : Hp) : Prop := ∀ b o, (∀ xs, o ≠ .lst xs) → H b = some o → H' b = some o
theorem Kp.of_ex {H H' : Hp} (e : Ex H H') : Kp H H' := fun b o _ h => e b o h
theorem Kp.refl (H : Hp) : Kp H H := fun _ _ _ h => h
theorem Kp.trans {H H1 H2 : Hp} (a : Kp H H1) (b : Kp H1 H2) : Kp H H2 := fun c o n h => b c o n (a c o n h)
theorem Kp.tup {H H' : Hp} (e : Kp H H') {a : Addr} {xs : List V} (h : H a = some (.tup xs)) : H' a = some (.tup xs) := e _ _ (fun _ z => by cases z) h
theorem Kp.ins {H H' : Hp} (e : Kp H H') {a C dx : Addr} {fs : List (Str × V)} (h : H a = some (.ins C dx fs)) : H' a = some (.ins C dx fs) := e _ _ (fun _ z => by cases z) h
theorem Kp.sqt {K : PySem.W.Frag} {H H' : Hp} (e : Kp H H') {a : Addr} {xs : List V} (h : SqT K H a xs) : SqT K H' a xs := by
  rcases h with (h | ⟨o, h⟩) | h
  · exact .inl (.inl (e.tup h))
  · exact .inl (.inr ⟨o, e _ _ (fun _ z => by cases z) h⟩)
  · exact .inr h
section
variable {K : PySem.W.Frag} {A : ClsA} {H H' : Hp}
theorem TestO.kp (e : Kp H H') : ∀ {t : TestM} {v : V}, TestO K A H t v → TestO K A H' t v
  | .ask _ _, _, ⟨a, dx, q, h1, h2, h3⟩ => ⟨a, dx, q, h1, e.ins h2, e.sqt h3⟩
  | .not _, _, ⟨a, dx, u, h1, h2, h3⟩ => ⟨a, dx, u, h1, e.ins h2, h3.kp e⟩
theorem TestT.kp (e : Kp H H') : ∀ {t : TestM} {v : V}, TestT K H t v → TestT K H' t v
  | .ask _ _, _, ⟨a, q, h1, h2, h3⟩ => ⟨a, q, h1, e.sqt h2, e.sqt h3⟩
  | .not _, _, ⟨a, u, h1, h2, h3⟩ => ⟨a, u, h1, e.sqt h2, h3.kp e⟩
mutual
theorem RowO.kp (e : Kp H H') : ∀ {r : RowM} {v : V}, RowO K A H r v → RowO K A H' r v
  | .stop, _, h => by
    obtain ⟨a, dx, h1, h2⟩ := h
    exact ⟨a, dx, h1, e.ins h2⟩
  | .put _ _ _, _, h => by
    obtain ⟨a, dx, q, h1, h2, h3⟩ := h
    exact ⟨a, dx, q, h1, e.ins h2, e.sqt h3⟩
  | .times _ rs, _, h => by
    obtain ⟨a, dx, q, vs, h1, h2, h3, h4⟩ := h
    exact ⟨a, dx, q, vs, h1, e.ins h2, e.sqt h3, RowOs.kp e h4⟩
  | .ifr _ rs os, _, h => by
    obtain ⟨a, dx, u, q, r, vs, ws, h1, h2, h3, h4, h5, h6, h7⟩ := h
    exact ⟨a, dx, u, q, r, vs, ws, h1, e.ins h2, h3.kp e, e.sqt h4, RowOs.kp e h5, e.sqt h6, RowOs.kp e h7⟩
theorem RowOs.kp (e : Kp H H') : ∀ {rs : List RowM} {vs : List V}, RowOs K A H rs vs → RowOs K A H' rs vs
  | [], _, h => h
  | r :: rs, _, h => by
    obtain ⟨v, ws, h1, h2, h3⟩ := h
    exact ⟨v, ws, h1, RowO.kp e h2, RowOs.kp e h3⟩
end
mutual
theorem RowT.kp (e : Kp H H') : ∀ {r : RowM} {v : V}, RowT K H r v → RowT K H' r v
  | .stop, _, h => by
    obtain ⟨a, h1, h2⟩ := h
    exact ⟨a, h1, e.sqt h2⟩
  | .put _ _ _, _, h => by
    obtain ⟨a, q, h1, h2, h3⟩ := h
    exact ⟨a, q, h1, e.sqt h2, e.sqt h3⟩
  | .times _ rs, _, h => by
    obtain ⟨a, q, vs, h1, h2, h3, h4⟩ := h
    exact ⟨a, q, vs, h1, e.sqt h2, e.sqt h3, RowTs.kp e h4⟩
  | .ifr _ rs os, _, h => by
    obtain ⟨a, u, q, r, vs, ws, h1, h2, h3, h4, h5, h6, h7⟩ := h
    exact ⟨a, u, q, r, vs, ws, h1, e.sqt h2, h3.kp e, e.sqt h4, RowTs.kp e h5, e.sqt h6, RowTs.kp e h7⟩
theorem RowTs.kp (e : Kp H H') : ∀ {rs : List RowM} {vs : List V}, RowTs K H rs vs → RowTs K H' rs vs
  | [], _, h => h
  | r :: rs, _, h => by
    obtain ⟨v, ws, h1, h2, h3⟩ := h
    exact ⟨v, ws, h1, RowT.kp e h2, RowTs.kp e h3⟩
end
end
section
variable {K : PySem.W.Frag} {A : ClsA} {row test : Addr} {H : Hp} {a dx : Addr} {fs : List (Str × V)} {r : RowM}
theorem RowO.put_of (k : kitO K A row test = true) (hr : RowO K A H r (.ref a)) (h0 : H a = some (.ins A.put dx fs)) : ∃ (n d : Str) (g : List V) (q : Addr), r = .put n d g ∧ fs = ([("name", .str n), ("deed", .str d), ("given", .ref q)] : List (Str × V)) ∧ SqT K H q g := by
  cases r with
  | put n d g => unfold RowO at hr; obtain ⟨b, dx2, q, e, h2, h3⟩ := hr; cases e; rw [h0] at h2; exact ⟨n, d, g, q, rfl, (HO.ins.inj (Option.some.inj h2)).2.2, h3⟩
  | stop => unfold RowO at hr; obtain ⟨b, dx2, e, h2⟩ := hr; cases e; rw [h0] at h2; exact absurd (HO.ins.inj (Option.some.inj h2)).1 (clsNe k 0 3 (by decide) (by decide) (by decide))
  | times c rs => unfold RowO at hr; obtain ⟨b, dx2, q, vs, e, h2, _⟩ := hr; cases e; rw [h0] at h2; exact absurd (HO.ins.inj (Option.some.inj h2)).1 (clsNe k 0 2 (by decide) (by decide) (by decide))
  | ifr t rs os => unfold RowO at hr; obtain ⟨b, dx2, u, q, x, vs, ws, e, h2, _⟩ := hr; cases e; rw [h0] at h2; exact absurd (HO.ins.inj (Option.some.inj h2)).1 (clsNe k 0 1 (by decide) (by decide) (by decide))
theorem RowO.stop_of (k : kitO K A row test = true) (hr : RowO K A H r (.ref a)) (h0 : H a = some (.ins A.stop dx fs)) : r = .stop := by
  cases r with
  | stop => rfl
  | put n d g => unfold RowO at hr; obtain ⟨b, dx2, q, e, h2, h3⟩ := hr; cases e; rw [h0] at h2; exact absurd (HO.ins.inj (Option.some.inj h2)).1 (clsNe k 3 0 (by decide) (by decide) (by decide))
  | times c rs => unfold RowO at hr; obtain ⟨b, dx2, q, vs, e, h2, _⟩ := hr; cases e; rw [h0] at h2; exact absurd (HO.ins.inj (Option.some.inj h2)).1 (clsNe k 3 2 (by decide) (by decide) (by decide))
  | ifr t rs os => unfold RowO at hr; obtain ⟨b, dx2, u, q, x, vs, ws, e, h2, _⟩ := hr; cases e; rw [h0] at h2; exact absurd (HO.ins.inj (Option.some.inj h2)).1 (clsNe k 3 1 (by decide) (by decide) (by decide))
theorem RowO.times_of (k : kitO K A row test = true) (hr : RowO K A H r (.ref a)) (h0 : H a = some (.ins A.times dx fs)) : ∃ (c : Nat) (rs : List RowM) (q : Addr) (vs : List V), r = .times c rs ∧ fs = ([("count", .int (c : Nat)), ("rows", .ref q)] : List (Str × V)) ∧ SqT K H q vs ∧ RowOs K A H rs vs := by
  cases r with
  | times c rs => unfold RowO at hr; obtain ⟨b, dx2, q, vs, e, h2, h3, h4⟩ := hr; cases e; rw [h0] at h2; exact ⟨c, rs, q, vs, rfl, (HO.ins.inj (Option.some.inj h2)).2.2, h3, h4⟩
  | put n d g => unfold RowO at hr; obtain ⟨b, dx2, q, e, h2, h3⟩ := hr; cases e; rw [h0] at h2; exact absurd (HO.ins.inj (Option.some.inj h2)).1 (clsNe k 2 0 (by decide) (by decide) (by decide))
  | stop => unfold RowO at hr; obtain ⟨b, dx2, e, h2⟩ := hr; cases e; rw [h0] at h2; exact absurd (HO.ins.inj (Option.some.inj h2)).1 (clsNe k 2 3 (by decide) (by decide) (by decide))
  | ifr t rs os => unfold RowO at hr; obtain ⟨b, dx2, u, q, x, vs, ws, e, h2, _⟩ := hr; cases e; rw [h0] at h2; exact absurd (HO.ins.inj (Option.some.inj h2)).1 (clsNe k 2 1 (by decide) (by decide) (by decide))
theorem RowO.ifr_of (k : kitO K A row test = true) (hr : RowO K A H r (.ref a)) (h0 : H a = some (.ins A.ifr dx fs)) : ∃ (t : TestM) (rs os : List RowM) (u : V) (q x : Addr) (vs ws : List V), r = .ifr t rs os ∧ fs = ([("test", u), ("rows", .ref q), ("others", .ref x)] : List (Str × V)) ∧ TestO K A H t u ∧ SqT K H q vs ∧ RowOs K A H rs vs ∧ SqT K H x ws ∧ RowOs K A H os ws := by
  cases r with
  | ifr t rs os => unfold RowO at hr; obtain ⟨b, dx2, u, q, x, vs, ws, e, h2, h3⟩ := hr; cases e; rw [h0] at h2; exact ⟨t, rs, os, u, q, x, vs, ws, rfl, (HO.ins.inj (Option.some.inj h2)).2.2, h3⟩
  | put n d g => unfold RowO at hr; obtain ⟨b, dx2, q, e, h2, h3⟩ := hr; cases e; rw [h0] at h2; exact absurd (HO.ins.inj (Option.some.inj h2)).1 (clsNe k 1 0 (by decide) (by decide) (by decide))
  | stop => unfold RowO at hr; obtain ⟨b, dx2, e, h2⟩ := hr; cases e; rw [h0] at h2; exact absurd (HO.ins.inj (Option.some.inj h2)).1 (clsNe k 1 3 (by decide) (by decide) (by decide))
  | times c rs => unfold RowO at hr; obtain ⟨b, dx2, q, vs, e, h2, _⟩ := hr; cases e; rw [h0] at h2; exact absurd (HO.ins.inj (Option.some.inj h2)).1 (clsNe k 1 2 (by decide) (by decide) (by decide))
end
end My
set_option Elab.async false
set_option linter.all false
set_option maxRecDepth 100000
set_option maxHeartbeats 4000000
set_option exponentiation.threshold 5000
namespace My
open PySem PySem.Spec PyProof.Rows L2 Evl
local macro_rules | `(tactic| walk_at "st") => `(tactic| simp only [L2.start, List.map_cons, List.map_nil, List.length_cons, List.length_nil, Nat.reduceAdd, Nat.reduceSub, List.replicate_succ, List.replicate_zero, List.cons_append, List.nil_append, cxOf, List.append_nil])
local macro_rules | `(tactic| walk_at "vc") => `(tactic| try simp only [tSeq, tAsg, tOp, tUn, tVar, tC, tNil, tCons, gName, rI, rI0, rU, tRet, tIfS, tNot, tAnd, tOr, tB, tTest, tCB, tCall, tAndV, tOrV, tNotV, tNext, tNever, tIf, tChain, tYes, tPart, tNoPart, tPar, tDrop, q_isi, q_vn, q_vb, q_vi, q_vs, kb1, kb2, kb3, kb4, kb5, kb6, kb7, kb8, q_int1, q_int2, q_min, q_max, q_repr, tLst, tTup, rEq, rNe, q_sii, q_sss, q_sbb, q_snn, q_sns, q_ssn, q_ix, q_sl, tSl, tBM, tBM0, q_app, q_pop, gSub, rSetL, L2.wipe, eq_self, decide_true, decide_false, tRevL,
  List.getElem?_cons_succ, List.getElem?_cons_zero, List.set_cons_succ, List.set_cons_zero, Option.some.injEq, exists_eq_left', exists_eq_left, V.int.injEq, V.bl.injEq, V.ref.injEq, V.str.injEq, List.cons.injEq, and_true, true_and, List.append_nil, List.nil_append, List.cons_append, exists_and_left, and_assoc, if_true, if_false, Bool.not_true, Bool.not_false, Bool.false_eq_true, Bool.true_eq_false, reduceIte, tRevL, tPar3, tRevT, tUnl, tCKw, forall_const, Bool.not_eq_true', decide_eq_true_eq, decide_eq_false_iff_not])
def inCls (s : Stmt) (j : Nat) : Stmt := match s with
  | .ClassDef (body := b) .. => b.getD j (.Pass ⟨0, 0, 0, 0⟩)
  | _ => s
def topS (i : Nat) : Stmt := PySem.Challenge.pw_everybase_k20_bases_refused_and_stops.main.body.getD i (.Pass ⟨0, 0, 0, 0⟩)
abbrev s_is_integer : Stmt := topS 14
abbrev N_is_integer : List Str := ["value"]
theorem sc_is_integer : FnScope N_is_integer ["value"] (defScope s_is_integer) := ⟨rfl, rfl, rfl, by decide +kernel, rfl, by decide +kernel, by decide +kernel⟩
abbrev s_is_number : Stmt := topS 15
abbrev N_is_number : List Str := ["value"]
theorem sc_is_number : FnScope N_is_number ["value"] (defScope s_is_number) := ⟨rfl, rfl, rfl, by decide +kernel, rfl, by decide +kernel, by decide +kernel⟩
abbrev s_is_base : Stmt := topS 16
abbrev N_is_base : List Str := ["value"]
theorem sc_is_base : FnScope N_is_base ["value"] (defScope s_is_base) := ⟨rfl, rfl, rfl, by decide +kernel, rfl, by decide +kernel, by decide +kernel⟩
abbrev s_is_name : Stmt := topS 17
abbrev N_is_name : List Str := ["value", "one"]
theorem sc_is_name : FnScope N_is_name ["value"] (defScope s_is_name) := ⟨rfl, rfl, rfl, by decide +kernel, rfl, by decide +kernel, by decide +kernel⟩
abbrev s_are_rows : Stmt := topS 30
abbrev N_are_rows : List Str := ["value", "one"]
theorem sc_are_rows : FnScope N_are_rows ["value"] (defScope s_are_rows) := ⟨rfl, rfl, rfl, by decide +kernel, rfl, by decide +kernel, by decide +kernel⟩
abbrev s_needed : Stmt := topS 32
abbrev N_needed : List Str := ["deed", "many"]
theorem sc_needed : FnScope N_needed ["deed", "many"] (defScope s_needed) := ⟨rfl, rfl, rfl, by decide +kernel, rfl, by decide +kernel, by decide +kernel⟩
abbrev s_fits : Stmt := topS 33
abbrev N_fits : List Str := ["deed", "given", "kinds", "kind", "one"]
theorem sc_fits : FnScope N_fits ["deed", "given"] (defScope s_fits) := ⟨rfl, rfl, rfl, by decide +kernel, rfl, by decide +kernel, by decide +kernel⟩
abbrev s_is_of : Stmt := topS 34
abbrev N_is_of : List Str := ["kind", "value"]
theorem sc_is_of : FnScope N_is_of ["kind", "value"] (defScope s_is_of) := ⟨rfl, rfl, rfl, by decide +kernel, rfl, by decide +kernel, by decide +kernel⟩
abbrev s_inner : Stmt := topS 36
abbrev N_inner : List Str := ["row"]
theorem sc_inner : FnScope N_inner ["row"] (defScope s_inner) := ⟨rfl, rfl, rfl, by decide +kernel, rfl, by decide +kernel, by decide +kernel⟩
abbrev s_flat : Stmt := topS 37
abbrev N_flat : List Str := ["rows", "found", "row"]
theorem sc_flat : FnScope N_flat ["rows"] (defScope s_flat) := ⟨rfl, rfl, rfl, by decide +kernel, rfl, by decide +kernel, by decide +kernel⟩
abbrev s_names_in : Stmt := topS 39
abbrev N_names_in : List Str := ["rows", "found", "row", "name"]
theorem sc_names_in : FnScope N_names_in ["rows"] (defScope s_names_in) := ⟨rfl, rfl, rfl, by decide +kernel, rfl, by decide +kernel, by decide +kernel⟩
abbrev s_bare : Stmt := topS 40
abbrev N_bare : List Str := ["test", "alike"]
theorem sc_bare : FnScope N_bare ["test"] (defScope s_bare) := ⟨rfl, rfl, rfl, by decide +kernel, rfl, by decide +kernel, by decide +kernel⟩
abbrev s_named : Stmt := topS 42
abbrev N_named : List Str := ["row", "one"]
theorem sc_named : FnScope N_named ["row"] (defScope s_named) := ⟨rfl, rfl, rfl, by decide +kernel, rfl, by decide +kernel, by decide +kernel⟩
abbrev s_number_of : Stmt := topS 45
abbrev N_number_of : List Str := ["figures", "base", "at", "one"]
theorem sc_number_of : FnScope N_number_of ["figures", "base"] (defScope s_number_of) := ⟨rfl, rfl, rfl, by decide +kernel, rfl, by decide +kernel, by decide +kernel⟩
abbrev s_joined : Stmt := topS 55
abbrev N_joined : List Str := ["number", "other", "base"]
theorem sc_joined : FnScope N_joined ["number", "other", "base"] (defScope s_joined) := ⟨rfl, rfl, rfl, by decide +kernel, rfl, by decide +kernel, by decide +kernel⟩
abbrev s_result : Stmt := topS 60
abbrev N_result : List Str := ["deed", "given", "base"]
theorem sc_result : FnScope N_result ["deed", "given", "base"] (defScope s_result) := ⟨rfl, rfl, rfl, by decide +kernel, rfl, by decide +kernel, by decide +kernel⟩
abbrev s_holding : Stmt := topS 61
abbrev N_holding : List Str := ["test", "held", "base", "ask", "alike", "told", "name"]
theorem sc_holding : FnScope N_holding ["test", "held", "base"] (defScope s_holding) := ⟨rfl, rfl, rfl, by decide +kernel, rfl, by decide +kernel, by decide +kernel⟩
abbrev s_written : Stmt := topS 63
abbrev N_written : List Str := ["figures", "base", "one"]
theorem sc_written : FnScope N_written ["figures", "base"] (defScope s_written) := ⟨rfl, rfl, rfl, by decide +kernel, rfl, by decide +kernel, by decide +kernel⟩
abbrev s_part : Stmt := topS 64
abbrev N_part : List Str := ["deed", "k", "x", "base"]
theorem sc_part : FnScope N_part ["deed", "k", "x", "base"] (defScope s_part) := ⟨rfl, rfl, rfl, by decide +kernel, rfl, by decide +kernel, by decide +kernel⟩
abbrev s_of_one : Stmt := topS 65
abbrev N_of_one : List Str := ["deed", "x", "base"]
theorem sc_of_one : FnScope N_of_one ["deed", "x", "base"] (defScope s_of_one) := ⟨rfl, rfl, rfl, by decide +kernel, rfl, by decide +kernel, by decide +kernel⟩
abbrev s_of_two : Stmt := topS 66
abbrev N_of_two : List Str := ["deed", "x", "y", "base"]
theorem sc_of_two : FnScope N_of_two ["deed", "x", "y", "base"] (defScope s_of_two) := ⟨rfl, rfl, rfl, by decide +kernel, rfl, by decide +kernel, by decide +kernel⟩
abbrev s_power : Stmt := topS 67
abbrev N_power : List Str := ["x", "k", "power", "_"]
theorem sc_power : FnScope N_power ["x", "k"] (defScope s_power) := ⟨rfl, rfl, rfl, by decide +kernel, rfl, by decide +kernel, by decide +kernel⟩
abbrev s_run : Stmt := topS 70
abbrev N_run : List Str := ["program", "base", "walk"]
theorem sc_run : FnScope N_run ["program", "base"] (defScope s_run) := ⟨rfl, rfl, rfl, by decide +kernel, rfl, by decide +kernel, by decide +kernel⟩
abbrev s_came_to : Stmt := topS 71
abbrev N_came_to : List Str := ["program", "base", "walk", "at"]
theorem sc_came_to : FnScope N_came_to ["program", "base"] (defScope s_came_to) := ⟨rfl, rfl, rfl, by decide +kernel, rfl, by decide +kernel, by decide +kernel⟩
abbrev s_holds : Stmt := topS 72
abbrev N_holds : List Str := ["program", "base", "test"]
theorem sc_holds : FnScope N_holds ["program", "base", "test"] (defScope s_holds) := ⟨rfl, rfl, rfl, by decide +kernel, rfl, by decide +kernel, by decide +kernel⟩
abbrev s_law_deal : Stmt := topS 91
abbrev N_law_deal : List Str := ["_law_script", "_law_radix", "_law_cells", "_law_seed", "_law_cell"]
theorem sc_law_deal : FnScope N_law_deal ["_law_script", "_law_radix"] (defScope s_law_deal) := ⟨rfl, rfl, rfl, by decide +kernel, rfl, by decide +kernel, by decide +kernel⟩
abbrev s_law_draw : Stmt := topS 92
abbrev N_law_draw : List Str := ["_law_deal_here", "_law_amount", "_law_digit"]
theorem sc_law_draw : FnScope N_law_draw ["_law_deal_here", "_law_amount"] (defScope s_law_draw) := ⟨rfl, rfl, rfl, by decide +kernel, rfl, by decide +kernel, by decide +kernel⟩
abbrev s_law_pick : Stmt := topS 93
abbrev N_law_pick : List Str := ["_law_deal_here", "_law_some"]
theorem sc_law_pick : FnScope N_law_pick ["_law_deal_here", "_law_some"] (defScope s_law_pick) := ⟨rfl, rfl, rfl, by decide +kernel, rfl, by decide +kernel, by decide +kernel⟩
abbrev s_law_words : Stmt := topS 94
abbrev N_law_words : List Str := ["_law_deal_here", "_law_amount", "_law_letters", "_law_kept", "_law_found", "_law_k", "_law_word", "_law_at", "_law_one"]
theorem sc_law_words : FnScope N_law_words ["_law_deal_here", "_law_amount"] (defScope s_law_words) := ⟨rfl, rfl, rfl, by decide +kernel, rfl, by decide +kernel, by decide +kernel⟩
abbrev s_law_ask_of : Stmt := topS 95
abbrev N_law_ask_of : List Str := ["_law_test"]
theorem sc_law_ask_of : FnScope N_law_ask_of ["_law_test"] (defScope s_law_ask_of) := ⟨rfl, rfl, rfl, by decide +kernel, rfl, by decide +kernel, by decide +kernel⟩
abbrev s_law_row_of : Stmt := topS 96
abbrev N_law_row_of : List Str := ["_law_row", "_law_others", "_law_args", "_law_one"]
theorem sc_law_row_of : FnScope N_law_row_of ["_law_row"] (defScope s_law_row_of) := ⟨rfl, rfl, rfl, by decide +kernel, rfl, by decide +kernel, by decide +kernel⟩
abbrev s_law_told : Stmt := topS 97
abbrev N_law_told : List Str := ["_law_built", "_law_form", "_law_radix", "_law_found", "e"]
theorem sc_law_told : FnScope N_law_told ["_law_built", "_law_form", "_law_radix"] (defScope s_law_told) := ⟨rfl, rfl, rfl, by decide +kernel, rfl, by decide +kernel, by decide +kernel⟩
abbrev s_law : Stmt := topS 98
abbrev N_law : List Str := ["_law_script", "_law_deal_here", "_law_some", "_law_x", "_law_y", "_law_stops", "_law_turn", "_law_ahead", "_law_rows", "_law_built", "_law_radix", "_law_form", "_law_thing", "_law_row"]
theorem sc_law : FnScope N_law ["_law_script"] (defScope s_law) := ⟨rfl, rfl, rfl, by decide +kernel, rfl, by decide +kernel, by decide +kernel⟩
abbrev s_Stopped_init : Stmt := inCls (topS 9) 0
abbrev N_Stopped_init : List Str := ["self", "at"]
theorem sc_Stopped_init : FnScope N_Stopped_init ["self", "at"] (defScope s_Stopped_init) := ⟨rfl, rfl, rfl, by decide +kernel, rfl, by decide +kernel, by decide +kernel⟩
abbrev s_Put_init : Stmt := inCls (topS 24) 0
abbrev N_Put_init : List Str := ["self", "name", "deed", "given"]
theorem sc_Put_init : FnScope N_Put_init ["self", "name", "deed", "given"] (defScope s_Put_init) := ⟨rfl, rfl, rfl, by decide +kernel, rfl, by decide +kernel, by decide +kernel⟩
abbrev s_If_init : Stmt := inCls (topS 25) 0
abbrev N_If_init : List Str := ["self", "test", "rows", "others"]
theorem sc_If_init : FnScope N_If_init ["self", "test", "rows", "others"] (defScope s_If_init) := ⟨rfl, rfl, rfl, by decide +kernel, rfl, by decide +kernel, by decide +kernel⟩
abbrev s_Times_init : Stmt := inCls (topS 26) 0
abbrev N_Times_init : List Str := ["self", "count", "rows"]
theorem sc_Times_init : FnScope N_Times_init ["self", "count", "rows"] (defScope s_Times_init) := ⟨rfl, rfl, rfl, by decide +kernel, rfl, by decide +kernel, by decide +kernel⟩
abbrev s_Ask_init : Stmt := inCls (topS 28) 0
abbrev N_Ask_init : List Str := ["self", "word", "names", "one"]
theorem sc_Ask_init : FnScope N_Ask_init ["self", "word", "names"] (defScope s_Ask_init) := ⟨rfl, rfl, rfl, by decide +kernel, rfl, by decide +kernel, by decide +kernel⟩
abbrev s_Not_init : Stmt := inCls (topS 29) 0
abbrev N_Not_init : List Str := ["self", "test"]
theorem sc_Not_init : FnScope N_Not_init ["self", "test"] (defScope s_Not_init) := ⟨rfl, rfl, rfl, by decide +kernel, rfl, by decide +kernel, by decide +kernel⟩
abbrev s_Program_init : Stmt := inCls (topS 89) 0
abbrev N_Program_init : List Str := ["self", "rows"]
theorem sc_Program_init : FnScope N_Program_init ["self", "rows"] (defScope s_Program_init) := ⟨rfl, rfl, rfl, by decide +kernel, rfl, by decide +kernel, by decide +kernel⟩
abbrev s_Program_call : Stmt := inCls (topS 89) 4
abbrev N_Program_call : List Str := ["self", "base"]
theorem sc_Program_call : FnScope N_Program_call ["self", "base"] (defScope s_Program_call) := ⟨rfl, rfl, rfl, by decide +kernel, rfl, by decide +kernel, by decide +kernel⟩
abbrev s_Walk_init : Stmt := inCls (topS 73) 0
abbrev N_Walk_init : List Str := ["self", "names", "among", "name"]
theorem sc_Walk_init : FnScope N_Walk_init ["self", "names", "among"] (defScope s_Walk_init) := ⟨rfl, rfl, rfl, by decide +kernel, rfl, by decide +kernel, by decide +kernel⟩
abbrev s_Walk_go : Stmt := inCls (topS 73) 1
abbrev N_Walk_go : List Str := ["self", "rows", "at", "row"]
theorem sc_Walk_go : FnScope N_Walk_go ["self", "rows", "at"] (defScope s_Walk_go) := ⟨rfl, rfl, rfl, by decide +kernel, rfl, by decide +kernel, by decide +kernel⟩
abbrev s_Walk_do : Stmt := inCls (topS 73) 2
abbrev N_Walk_do : List Str := ["self", "row", "at", "_"]
theorem sc_Walk_do : FnScope N_Walk_do ["self", "row", "at"] (defScope s_Walk_do) := ⟨rfl, rfl, rfl, by decide +kernel, rfl, by decide +kernel, by decide +kernel⟩
abbrev s_Walk_put : Stmt := inCls (topS 73) 3
abbrev N_Walk_put : List Str := ["self", "row", "at", "given", "number", "one"]
theorem sc_Walk_put : FnScope N_Walk_put ["self", "row", "at"] (defScope s_Walk_put) := ⟨rfl, rfl, rfl, by decide +kernel, rfl, by decide +kernel, by decide +kernel⟩
abbrev s_Walk_decide : Stmt := inCls (topS 73) 4
abbrev N_Walk_decide : List Str := ["self", "test"]
theorem sc_Walk_decide : FnScope N_Walk_decide ["self", "test"] (defScope s_Walk_decide) := ⟨rfl, rfl, rfl, by decide +kernel, rfl, by decide +kernel, by decide +kernel⟩
abbrev s_Walk_choose : Stmt := inCls (topS 73) 5
abbrev N_Walk_choose : List Str := ["self", "row", "at"]
theorem sc_Walk_choose : FnScope N_Walk_choose ["self", "row", "at"] (defScope s_Walk_choose) := ⟨rfl, rfl, rfl, by decide +kernel, rfl, by decide +kernel, by decide +kernel⟩
end My
set_option Elab.async false
set_option linter.all false
set_option maxRecDepth 100000
set_option maxHeartbeats 4000000
/-! several except clauses, each with a name for what is caught or without; raise of an own error of any chain -/
namespace My
open PySem PySem.Spec PyProof.Rows L2 Evl
abbrev Hd : Type := Value × Option Nat × (Addr → Value → Option Addr → TS)
/-- what the clauses wish of an exception of the body, one after the other -/
def wManyA (K : PySem.W.Frag) (Wout : WX) (D : Ends) : List Hd → WX
  | [] => Wout
  | (c, none, ts) :: r => fun cls d σ H => ∃ b, PySem.W.exmOne K cls c = some b ∧ (b = true → ∀ a, H a = none → ts a cls d D σ H) ∧ (b = false → wManyA K Wout D r cls d σ H)
  | (c, some i, ts) :: r => fun cls d σ H => ∃ b, PySem.W.exmOne K cls c = some b ∧
      (b = true → ∀ a, H a = none → ts a cls d { nx := fun σ' H' => D.nx (σ'.set i none) H', rt := D.rt, bk := fun σ' H' => D.bk (σ'.set i none) H', ct := fun σ' H' => D.ct (σ'.set i none) H' } (σ.set i (some (.ref a))) H) ∧
      (b = false → wManyA K Wout D r cls d σ H)
inductive HdA (X : Cx) : List ExceptHandler → List Hd → Prop
  | nil : HdA X [] []
  | plain {x : Str} {c : Value} {ts : Addr → Value → Option Addr → TS} {b₀ : Stmt} {suite : List Stmt} {np pos' : Pos} {hds : List ExceptHandler} {l : List Hd} (hc : Names X x c)
      (hsu : ∀ (a : Addr) (oe : Obj) (cls : Value) (d : Option Addr) (pn : List (Addr × Obj)), Zc cls d oe → (∃ vs, oe.data = .fields vs) → PSs (X.suite a ((a, oe) :: pn)) (b₀ :: suite) (ts a cls d)) (r : HdA X hds l) :
      HdA X (.ExceptHandler (some (.Name x np)) none (b₀ :: suite) pos' :: hds) ((c, none, ts) :: l)
  | as {x n : Str} {c : Value} {i : Nat} {ts : Addr → Value → Option Addr → TS} {b₀ : Stmt} {suite : List Stmt} {np pos' : Pos} {hds : List ExceptHandler} {l : List Hd} (hi : X.N[i]? = some n) (hln : X.env.kindOf n = some .local) (hc : Names X x c)
      (hsu : ∀ (a : Addr) (oe : Obj) (cls : Value) (d : Option Addr) (pn : List (Addr × Obj)), Zc cls d oe → (∃ vs, oe.data = .fields vs) → PSs (X.suite a ((a, oe) :: pn)) (b₀ :: suite) (ts a cls d)) (r : HdA X hds l) :
      HdA X (.ExceptHandler (some (.Name x np)) (some n) (b₀ :: suite) pos' :: hds) ((c, some i, ts) :: l)
section
variable {X : Cx} {body : List Stmt} {h₀ : ExceptHandler} {hds : List ExceptHandler} {l : List Hd} {pos : Pos} {tb : WX → TS} {Wout : WX}
theorem ps_try_manyA (hs : X.stack = X.env :: X.outer) (hf : X.env.frame = some X.env.locals) (hN : X.N.Nodup) (tk : Takes X Wout)
    (hb : ∀ (W : WX) (pn : List (Addr × Obj)) (xe : Value → Shared → Prop), Takes (X.tr pn xe) W → PassesOwn (model X.prog X.w) X.A X.env xe → PSs (X.tr pn xe) body (tb W))
    (hh : HdA X (h₀ :: hds) l) : PS X (.Try body (h₀ :: hds) [] [] pos) (fun D σ H => tb (wManyA X.K Wout D l) D σ H) := by
  refine ⟨fun pins s σ H D I h => ?_⟩
  have ok := I.ok
  have hfr : X.A.frames = some (X.env :: X.outer) := by rw [ok.frames, hs]
  refine wpAny_Try_except ?_
  refine wpAny_mono ((hb (wManyA X.K Wout D l) (X.pn ++ pins) (fun e s₁ => wpAny (model X.prog X.w) X.A (noteFrame e X.env) (fun _ s₂ => wpAny (model X.prog X.w) X.A (setFlight e none) (fun _ s₃ =>
    wpAny (model X.prog X.w) X.A (handleBy e X.env (h₀ :: hds)) (SP X pins D) X.xe s₃) X.xe s₂) X.xe s₁) (fun u s' xx => ?_) PassesOwn.looking).run [] s σ H D (I.toTry _) h) (fun f s1 hsp => ?_) (fun e s1 he => he)
  · -- the catch
    obtain ⟨a, B, sI, pins', σ', H', cls, d, rfl, J', nb, up, sky, na, os, ag, w⟩ := xx
    have J : Inv X pins σ' H' sI := J'.ofTry ok
    have sky' : Sky B (X.env :: X.outer) a (Zc cls d) X.env.locals s'.heap := by rw [← hs]; exact sky
    show wpAny (model X.prog X.w) X.A (noteFrame (.ref a) X.env) _ _ _
    refine Sky.land Zc.steady hfr hf sky' fun h3 fl3 up3 => ?_
    have J3 : Inv X pins σ' H' { s' with heap := h3 } := J.landed nb fl3.1 (up.trans up3) os ag
    obtain ⟨oe3, vs3, he3, hz3, hd3⟩ := fl3.there
    have notFr : ∀ {h : Heap} {o : Obj} {vs : Array Value}, h.FunFrames B (X.env :: X.outer) → h.get? a = some o → o.data = .fields vs → a ∉ frs (X.env :: X.outer) := fun {h o vs} ff e dd hm => by
      obtain ⟨_, o', e', hnf⟩ := ff.mem hm
      rw [e] at e'; cases e'
      exact hnf _ dd
    have nfr := notFr fl3.2.2.1 he3 hd3
    have nL : a ≠ X.env.locals := fun z => nfr (List.mem_filterMap.mpr ⟨X.env, List.mem_cons_self, by rw [hf, z]⟩)
    have nF : a ∉ X.fs := fun hm => by
      obtain ⟨e, he, q⟩ := List.mem_filterMap.mp hm
      exact nfr (List.mem_filterMap.mpr ⟨e, List.mem_cons_of_mem _ he, q⟩)
    have S3 := J3.suite he3 hd3 na nL nF
    have go : ∀ {hds' : List ExceptHandler} {l' : List Hd}, HdA X hds' l' → wManyA X.K Wout D l' cls d σ' H' →
        wpAny (model X.prog X.w) X.A (handleBy (.ref a) X.env hds') (SP X pins D) X.xe { s' with heap := h3 } := by
      intro hds' l' hk
      induction hk with
      | nil =>
        intro w
        refine wpAny_handleBy_nil ?_
        obtain ⟨k1, k2, k3, oe, vs, T, oT, ts', he, hz, hd, h1, hr⟩ := id fl3
        unfold PySem.passOn
        refine wpAny_bind (wpAny_field he hd h1 ?_)
        rw [if_neg (show ¬ ((Value.ref T == Value.none) = true) from by simp)]
        have fin : wpAny (model X.prog X.w) X.A (setFlight (.ref a) X.env.frame) (fun _ s4 => wpAny (model X.prog X.w) X.A (throw (.ref a) : Sem Flow) (SP X pins D) X.xe s4) X.xe { s' with heap := h3 } := by
          rw [hf]
          refine HandSPX.setFlight_upZ fl3 fun h4 hh4 up4 => wpAny_throw (tk _ _ ?_)
          exact ⟨a, B, sI, pins, σ', H', cls, d, rfl, J, nb, (up.trans up3).trans up4, .inr (.inr (by rw [hs]; exact hh4)), na, os, ag, w⟩
        first
          | exact wpAny_bind (wpAny_pure (wpAny_bind fin))
          | exact wpAny_bind fin
      | @plain x c ts b₀ suite np pos' hds2 l2 hc hsu r ih =>
        intro w
        obtain ⟨b, hb1, hyes, hno⟩ := w
        refine wpAny_handleBy_cons (codeAny_handlers_test ?_) (by intro q; cases q)
        have LT : PySem.W.Looks (model X.prog X.w) h3 (typeOf (.ref a)) cls := fun A Q E s k q => wpAny_typeOf_ref (k _ _ he3) (by rw [hz3.1]; exact q)
        have LM := PySem.W.exm_one (M := model X.prog X.w) (J3.kIn) LT hb1
        have test : ∀ {Q : Value → Shared → Prop} {E : Value → Shared → Prop}, Q c { s' with heap := h3 } → wpAny (model X.prog X.w) (X.A.mark (some (.ref a))) (eval (.Name x np) X.env) Q E { s' with heap := h3 } := fun {Q E} q => by
          obtain ⟨hg, hdbg, hm | ⟨hm, hv, hnn⟩⟩ := hc
          · exact ld_glob (X := X.suite a ((a, oe3) :: (X.pn ++ pins))) S3 hg hm q hdbg
          · exact ld_blt (X := X.suite a ((a, oe3) :: (X.pn ++ pins))) S3 hg hm hv q hnn hdbg
        refine test (LM.here ?_)
        cases b with
        | true =>
          refine codeAny_handlers_suite ?_
          refine HandSPX.lands_againZ fl3 fun h4 fl4 up4 => ?_
          have J4 : Inv X pins σ' H' { s' with heap := h4 } := J.landed nb fl4.1 ((up.trans up3).trans up4) os ag
          obtain ⟨oe4, vs4, he4, hz4, hd4⟩ := fl4.there
          have S4 := J4.suite he4 hd4 na nL nF
          refine wpAny_mono ((hsu a oe4 cls d (X.pn ++ pins) hz4 ⟨_, hd4⟩).run [] _ _ H' _ S4 (hyes rfl a na)) (fun f s6 hsp => ?_) (fun _ _ z => False.elim z)
          cases f with
          | next =>
            obtain ⟨σ6, H6, S6, q6⟩ := hsp
            exact ⟨_, _, S6.unsuite ok, q6⟩
          | brk =>
            obtain ⟨σ6, H6, S6, q6⟩ := hsp
            exact ⟨_, _, S6.unsuite ok, q6⟩
          | cont =>
            obtain ⟨σ6, H6, S6, q6⟩ := hsp
            exact ⟨_, _, S6.unsuite ok, q6⟩
          | ret u =>
            obtain ⟨v6, σ6, H6, S6, r6, q6⟩ := hsp
            exact ⟨_, _, _, S6.unsuite ok, r6, q6⟩
        | false =>
          show wpAny _ X.A (handleBy (.ref a) X.env hds2) _ _ _
          exact ih (hno rfl)
      | @as x n c i ts b₀ suite np pos' hds2 l2 hi hln hc hsu r ih =>
        intro w
        obtain ⟨b, hb1, hyes, hno⟩ := w
        have hloc : Loc X.env.scope n := .inl hln
        refine wpAny_handleBy_cons (codeAny_handlers_test ?_) (by intro q; cases q)
        have LT : PySem.W.Looks (model X.prog X.w) h3 (typeOf (.ref a)) cls := fun A Q E s k q => wpAny_typeOf_ref (k _ _ he3) (by rw [hz3.1]; exact q)
        have LM := PySem.W.exm_one (M := model X.prog X.w) (J3.kIn) LT hb1
        have test : ∀ {Q : Value → Shared → Prop} {E : Value → Shared → Prop}, Q c { s' with heap := h3 } → wpAny (model X.prog X.w) (X.A.mark (some (.ref a))) (eval (.Name x np) X.env) Q E { s' with heap := h3 } := fun {Q E} q => by
          obtain ⟨hg, hdbg, hm | ⟨hm, hv, hnn⟩⟩ := hc
          · exact ld_glob (X := X.suite a ((a, oe3) :: (X.pn ++ pins))) S3 hg hm q hdbg
          · exact ld_blt (X := X.suite a ((a, oe3) :: (X.pn ++ pins))) S3 hg hm hv q hnn hdbg
        refine test (LM.here ?_)
        cases b with
        | true =>
          refine codeAny_handlers_suite_as ?_
          refine HandSPX.lands_againZ fl3 fun h4 fl4 up4 => ?_
          have J4 : Inv X pins σ' H' { s' with heap := h4 } := J.landed nb fl4.1 ((up.trans up3).trans up4) os ag
          obtain ⟨oe4, vs4, he4, hz4, hd4⟩ := fl4.there
          have S4 := J4.suite he4 hd4 na nL nF
          refine store_ok (X := X.suite a ((a, oe4) :: (X.pn ++ pins))) (v := .ref a) S4 hN hi hloc rfl (fun s5 S5 => ?_) (.inr hln)
          refine wpAny_mono ((hsu a oe4 cls d (X.pn ++ pins) hz4 ⟨_, hd4⟩).run [] s5 _ H' _ S5 (hyes rfl a na)) (fun f s6 hsp => ?_) (fun _ _ z => False.elim z)
          have end_ : ∀ {σ6 : L2.St} {H6 : Hp} {Q : Shared → Prop}, Inv (X.suite a ((a, oe4) :: (X.pn ++ pins))) [] σ6 H6 s6 → (∀ s7, Inv X pins (σ6.set i none) H6 s7 → Q s7) →
              wpAny (model X.prog X.w) X.A (do bindName X.env n .none; unbindBehindTheSuite X.env n pos') (fun _ s7 => Q s7) X.xe s6 := fun {σ6 H6 Q} S6 hq => gone_ok (S6.unsuite ok) hN hi hln hq
          cases f with
          | next =>
            obtain ⟨σ6, H6, S6, q6⟩ := hsp
            exact end_ S6 fun s7 J7 => ⟨_, _, J7, q6⟩
          | brk =>
            obtain ⟨σ6, H6, S6, q6⟩ := hsp
            exact end_ S6 fun s7 J7 => ⟨_, _, J7, q6⟩
          | cont =>
            obtain ⟨σ6, H6, S6, q6⟩ := hsp
            exact end_ S6 fun s7 J7 => ⟨_, _, J7, q6⟩
          | ret u =>
            obtain ⟨v6, σ6, H6, S6, r6, q6⟩ := hsp
            exact end_ S6 fun s7 J7 => ⟨_, _, _, J7, r6, q6⟩
        | false =>
          show wpAny _ X.A (handleBy (.ref a) X.env hds2) _ _ _
          exact ih (hno rfl)
    exact go hh w
  · cases f with
    | next =>
      obtain ⟨σ', H', J', q⟩ := hsp
      exact wpAny_execs_nil ⟨σ', H', J'.ofTry ok, q⟩
    | brk =>
      obtain ⟨σ', H', J', q⟩ := hsp
      exact ⟨σ', H', J'.ofTry ok, q⟩
    | cont =>
      obtain ⟨σ', H', J', q⟩ := hsp
      exact ⟨σ', H', J'.ofTry ok, q⟩
    | ret u =>
      obtain ⟨v, σ', H', J', r, q⟩ := hsp
      exact ⟨v, σ', H', J'.ofTry ok, r, q⟩
end
/-! ### raise of an own error of any chain -/
structure ErrR (K : PySem.W.Frag) (mg : Str → Option Value) (x f : Str) (C fI : Addr) : Prop where
  g : mg x = some (.ref C)
  F : ErrF K f C fI
  ty : PySem.W.typeIn K (.ref C) = some (.type "type")
  te : PySem.W.exmOne K (.ref C) (.ref C) = some true
theorem ErrR.xf {K : PySem.W.Frag} {mg : Str → Option Value} {x f : Str} {C fI : Addr} (T : ErrR K mg x f C fI) : XfC K C := ⟨T.F.k.ga, T.F.k.gg, T.F.k.exC, T.F.k.hdC⟩
section
variable {X : Cx} {e : Expr} {es : List Expr} {ta : TA} {p pos : Pos}
theorem pmk_any {CX : CXT} {x f : Str} {C fI : Addr} {k : Nat} {fd : FuncData} {ps : List Str} {sp : Sp} {ds : List Value} {dvs : List V} (T : ErrR X.K X.mg x f C fI)
    (F1 : FnOk X.prog X.w X.K X.mg X.base CX k fI fd ps sp) (hr : Room (k + 1) X.A) (hb : Binds X.K fd ps ds) (hd : Vals dvs ds) (hx : Passes CX X (fun _ _ _ => False)) (hg : Gl X x) (ha : PA X (e :: es) ta)
    (hdb : (x == ("__debug__" : Str)) = false := by decide) (he : starEach (e :: es) X.env = (false, eval e X.env) :: starEach es X.env := by rfl) (hpl : (backTo pos (starEach es X.env)).any (·.1) = false := by rfl) :
    PMk X (.Call (.Name x p) (e :: es) [] pos) (tMkO C sp dvs ta) := by
  intro pins s σ H Q I h
  obtain ⟨B, newId, initId, tl, bmB, nm, q, N, bs, bm, sn, sub, ab, col, dd, k0, k1, k2, k3, k5, hC, hY, hbm⟩ := T.F.k.cls
  refine wpAny_Call_Name_kw (ld_glob I hg T.g ?_ hdb)
  refine PySem.W.callWith_K (h₀ := X.base) I.ok.mod.kin T.F.k.kC (thn (ha.run pos pins s σ H _ I h) fun us s1 ⟨vs, H1, I1, r1, hz, q1⟩ => ⟨I1.kIn, ?_⟩) he hpl
  show wpAny _ _ (call (.ref C) us) _ _ _
  obtain ⟨hp, g, dr, tk, os⟩ := s1
  have hsz : hp.objs.size ≤ hp.objs.size + 1 := Nat.le_succ _
  have hn : H1 (hp.objs.size + 1) = none := I1.hok.fresh hsz
  have hq := q1 (hp.objs.size + 1) hn
  have kk : ∀ b o, hp.get? b = some o → ((hp.push (PySem.W.kdv_tup us)).push (PySem.HandSPX.excO C hp.objs.size)).get? b = some o := fun b o e => Heap.get?_push_of_some _ (Heap.get?_push_of_some _ e)
  have hget : ((hp.push (PySem.W.kdv_tup us)).push (PySem.HandSPX.excO C hp.objs.size)).get? (hp.objs.size + 1) = some (PySem.HandSPX.excO C hp.objs.size) := by heap_get
  have I2 : Inv X pins σ (upd H1 (hp.objs.size + 1) (exo (hp.objs.size + 1) C none)) ⟨(hp.push (PySem.W.kdv_tup us)).push (PySem.HandSPX.excO C hp.objs.size), g, dr, tk, os⟩ :=
    I1.laid (t' := tk) (a := hp.objs.size + 1) (o := exo (hp.objs.size + 1) C none) (h' := (hp.push (PySem.W.kdv_tup us)).push (PySem.HandSPX.excO C hp.objs.size)) kk hsz (exo_ok hget)
  have r2 : Vals (V.ref (hp.objs.size + 1) :: (vs ++ dvs)) (Value.ref (hp.objs.size + 1) :: (us ++ ds)) := .cons rfl (r1.append hd)
  have hl : (Value.ref (hp.objs.size + 1) :: us ++ ds).length = ps.length := by
    have e := r2.length
    rw [F1.len _ _ _ _ hq] at e
    exact e.symm
  have hus : us.length ≤ sizeLine := by
    rw [← Paired.length r1, sizeLine_eq]
    omega
  refine wpAny_call (callX hY hbm (I1.kIn _ _ hC) (PySem.W.looks_findIn I1.kIn T.F.iC) (fun self => PySem.W.bind_fn I1.kIn self T.F.tI) hus
    (codeAny_mono (F1.run _ X.stack _ _ ⟨Value.ref (hp.objs.size + 1) :: us, []⟩ (Value.ref (hp.objs.size + 1) :: (us ++ ds)) _ _ (fun _ _ _ => False) (hr.make C us []) (I2.env0.make C us []) (hb _ (Value.ref (hp.objs.size + 1) :: us) I2.kIn hl) r2 hq) fun r s' hq' => ?_))
  cases r with
  | error er => exact hx pins σ _ _ er s' I2 hq'
  | ok fl =>
    cases fl with
    | ret u =>
      obtain ⟨v, H2, os2, bare2, un2, hok2, rv, ev, d, fs, ea, ed, hd1, q2⟩ := hq'
      subst ev
      obtain ⟨h2, g2, d2, t2, os'⟩ := s'
      exact ⟨rv, mk_end (raises_own T.F.k.exC T.ty) I1 hsz kk un2 hok2 os2 bare2 ea ed hd1 q2⟩
    | next => exact False.elim hq'
    | brk => exact False.elim hq'
    | cont => exact False.elim hq'
end
/-- the making of an error, by what its __init__ promises -/
theorem mkErrR {K : PySem.W.Frag} {mg : Str → Option Value} {x : Str} {C fI : Addr} {f : Str} {v : V} {H : Hp} {Q : XK} (T : ErrR K mg x f C fI) (q : ∀ d, H d = none → Q (.ref C) (some d) (upd H d (.xd [(f, v)]))) :
    [v].length ≤ 1000 ∧ ∀ a, H a = none → spIniX K f (.ref a :: ([v] ++ [])) (upd H a (exo a C none))
      (fun u H2 => u = .non ∧ ∃ (d : Addr) (fs : List (Str × V)), H2 a = some (exo a C (some d)) ∧ H2 d = some (exd d fs) ∧ H d = none ∧ Q (.ref C) (some d) (upd (del H2 a) d (.xd fs))) (fun _ _ _ => False) := by
  refine ⟨by simp, fun a ha => ⟨C, fI, T.F, upd_same, fun dx hd hne => ⟨rfl, dx, [(f, v)], upd_same, ?_, ?_, ?_⟩⟩⟩
  · rw [upd_ne hne, upd_same]
  · rw [upd_ne hne] at hd; exact hd
  · have hd0 : H dx = none := by rw [upd_ne hne] at hd; exact hd
    have e : upd (del (upd (upd (upd H a (exo a C none)) dx (exd dx [(f, v)])) a (exo a C (some dx))) a) dx (.xd [(f, v)]) = upd H dx (.xd [(f, v)]) := by
      funext b
      by_cases hb : b = dx
      · rw [hb, upd_same, upd_same]
      · rw [upd_ne hb, upd_ne hb]
        by_cases hba : b = a
        · rw [hba, del_same, ha]
        · rw [del_ne hba, upd_ne hba, upd_ne hb, upd_ne hba]
    rw [e]
    exact q dx hd0
end My
set_option Elab.async false
set_option linter.all false
set_option maxRecDepth 100000
set_option maxHeartbeats 4000000
/-! own objects: a + b by an own __add__, a += b without an own __iadd__, len(a) by an own __len__; == and != of tuples that hold the same objects -/
namespace My
open PySem PySem.Spec PyProof.Rows L2 Evl
/-- a + b, both of the class at C -/
def rAddO (SF : Addr → Addr → Prop) (sp : Sp) (E : XK) : R2 := fun x y H Q => ∃ a b C dx dy fs gs g, x = .ref a ∧ y = .ref b ∧ H a = some (.ins C dx fs) ∧ H b = some (.ins C dy gs) ∧ SF C g ∧ sp [x, y] H Q E
theorem op_addO {X : Cx} {CX : CXT} {n : Nat} {sp : Sp} {E : XK} {SF : Addr → Addr → Prop} (hS : ∀ C g, SF C g → MethC X.K "__add__" C g ∧ PySem.W.selfFirst X.K C = true) (hF : ∀ C g, SF C g → FnR X.prog X.w X.K X.mg X.base CX n g (onC C sp)) (hr : Room n X.A) (hx : Passes CX X E) : OpR X (binaryOp .Add) (rAddO SF sp E) := by
  intro pins s σ H x y v u Q I rx ry h
  obtain ⟨a, b, C, dx, dy, fs, gs, g, rfl, rfl, ha, hb, hg, q⟩ := h
  obtain rfl : v = Value.ref a := rx
  obtain rfl : u = Value.ref b := ry
  obtain ⟨od, J⟩ := ins_at I ha
  obtain ⟨od2, J2⟩ := ins_at I hb
  obtain ⟨m, hFr⟩ := I.fr
  obtain ⟨M, sf⟩ := hS C g hg
  refine PySem.W.binop_K (op := .Add) hFr I.ok.mod.kin J J2.type sf M.at_ M.fn ?_
  refine wpAny_mono (wpAny_call (run_fnR (us := [.ref a, .ref b]) (vs := [.ref a, .ref b]) (hF C g hg) hr hx I (.cons rfl (.cons rfl .nil)) ⟨⟨_, _, _, _, rfl, ha⟩, q⟩)) (fun w s' z => ?_) fun _ _ x => x
  obtain ⟨z', H', I', rz, qz⟩ := z
  exact SlX.cmpback rz ⟨z', H', I', rz, qz⟩
/-- len(a) -/
def rLenO (SF : Addr → Addr → Prop) (sp : Sp) (E : XK) : List V → Hp → VK → Prop := fun xs H Q => ∃ a C dx fs g, xs = [.ref a] ∧ H a = some (.ins C dx fs) ∧ SF C g ∧ sp [.ref a] H (fun z H' => ∃ k : Int, z = .int k ∧ 0 ≤ k ∧ k < 2 ^ 60 ∧ Q z H') E
theorem call_lenO {X : Cx} {CX : CXT} {n : Nat} {sp : Sp} {E : XK} {SF : Addr → Addr → Prop} (hS : ∀ C g, SF C g → MethC X.K "__len__" C g) (hF : ∀ C g, SF C g → FnR X.prog X.w X.K X.mg X.base CX n g (onC C sp)) (hr : Room (n + 1) X.A) (hx : Passes CX X E) : CallR X (.builtin "len") (rLenO SF sp E) := by
  intro pins s σ H xs us Q I r h
  obtain ⟨a, C, dx, fs, g, rfl, ha, hg, q⟩ := h
  obtain ⟨u, rfl, ru⟩ := r.one
  obtain rfl : u = Value.ref a := ru
  obtain ⟨od, J⟩ := ins_at I ha
  obtain ⟨m, hFr⟩ := I.fr
  refine PySem.W.len_K hFr I.ok.mod.kin J (hS C g hg).at_ (hS C g hg).fn ?_
  refine wpAny_mono (wpAny_call (SlX.run_at (us := [.ref a]) (ws := [.ref a]) (hF C g hg) (Room.in1 hr) I.env0.in1 hx I (.cons rfl .nil) ⟨⟨_, _, _, _, rfl, ha⟩, q⟩)) (fun w s' z => ?_) fun _ _ x => x
  obtain ⟨z', H', I', rz, k, ek, k0, k1, qz⟩ := z
  subst ek
  obtain ⟨t, e⟩ := (show ∃ t, w = Value.int k t from rz)
  cases e
  exact ⟨⟨k0, by omega⟩, ⟨.int k, H', I'.tok _, ⟨_, rfl⟩, qz⟩⟩
/-- == and != of tuples that hold the same objects -/
def rTupId (K : PySem.W.Frag) (neg : Bool) : R2 := fun x y H Q => ∃ a b xs, x = .ref a ∧ y = .ref b ∧ SqT K H a xs ∧ SqT K H b xs ∧ (∀ v ∈ xs, ∃ r, v = V.ref r) ∧ Q (.bl neg) H
theorem same_items : ∀ {xs : List V} {us ws : List Value}, (∀ v ∈ xs, ∃ r, v = V.ref r) → Vals xs us → Vals xs ws → us = ws
  | [], _, _, _, r1, r2 => by cases r1; cases r2; rfl
  | x :: xs, us, ws, h, r1, r2 => by
    obtain ⟨r, rfl⟩ := h x (List.mem_cons_self ..)
    cases r1 with
    | cons a1 b1 => cases r2 with
      | cons a2 b2 =>
        rename_i u us w ws
        obtain rfl : u = Value.ref r := a1
        obtain rfl : w = Value.ref r := a2
        rw [same_items (fun v hv => h v (List.mem_cons_of_mem _ hv)) b1 b2]
section
variable {X : Cx}
theorem op_eqTupId (hu : X.A.units + 64 < cLine) : OpR X (compareOp .Eq) (rTupId X.K true) := by
  intro pins s σ H x y v u Q I rx ry h
  obtain ⟨a, b, xs, rfl, rfl, ha, hb, hx, q⟩ := h
  obtain rfl : v = Value.ref a := rx
  obtain rfl : u = Value.ref b := ry
  obtain ⟨its, r1, p1, z1⟩ := I.tuple ha
  obtain ⟨its2, r2, p2, z2⟩ := I.tuple hb
  obtain rfl := same_items hx r1 r2
  show wpAny _ _ (richCompare .Eq _ _) _ _ _
  refine SeqAt.RcAt.tuples (e := fun _ => true) p1 p2 (by omega) (fun j h1 _ => SeqAt.EqAt.same _) X.prog X.w _ _ ?_
  refine ⟨.bl true, H, I, ?_, q⟩
  show Value.bool _ = Value.bool true
  simp
theorem op_neTupId (hu : X.A.units + 64 < cLine) : OpR X (compareOp .NotEq) (rTupId X.K false) := by
  intro pins s σ H x y v u Q I rx ry h
  obtain ⟨a, b, xs, rfl, rfl, ha, hb, hx, q⟩ := h
  obtain rfl : v = Value.ref a := rx
  obtain rfl : u = Value.ref b := ry
  obtain ⟨its, r1, p1, z1⟩ := I.tuple ha
  obtain ⟨its2, r2, p2, z2⟩ := I.tuple hb
  obtain rfl := same_items hx r1 r2
  show wpAny _ _ (richCompare .NotEq _ _) _ _ _
  refine SeqAt.RcNeAt.tuples (e := fun _ => true) p1 p2 (by omega) (fun j h1 _ => SeqAt.EqAt.same _) X.prog X.w _ _ ?_
  refine ⟨.bl false, H, I, ?_, q⟩
  show Value.bool _ = Value.bool false
  simp
/-! ### a += b -/
/-- a class without an own __iadd__ -/
structure IAdd (K : PySem.W.Frag) (C : Addr) : Prop where
  mro : (PySem.W.clsIn K C).map (·.mro) = some [.ref C, .type "object"]
  no : PySem.W.findIn K (.ref C) "__iadd__" = some none
theorem obj_iadd : typeLookup (.type "object") (dunderI "add") = pure none := by rw [typeLookup_type, builtinLookup_eq_fast]; kernel_rfl
theorem fills_no {M : Model} {K : PySem.W.Frag} {h : Heap} {C : Addr} (X : K.In h) (T : IAdd K C) : PySem.W.Looks M h (fillsInplaceSlot (.ref C) "add" true) false := by
  cases hc : PySem.W.clsIn K C with
  | none => have := T.mro; rw [hc] at this; cases this
  | some cd =>
    have hm : cd.mro = [.ref C, .type "object"] := by have := T.mro; rw [hc] at this; exact Option.some.inj this
    intro A Q E s k q
    have Lm : PySem.W.Looks M h (mroOf (.ref C)) cd.mro := (PySem.W.looks_clsIn X hc).andThen (f := fun cd => pure cd.mro) .now
    have Lm' := Lm.keeps k
    obtain ⟨hh, g, d, tt, os⟩ := s
    have X' : K.In hh := X.keeps k
    have L1 : PySem.W.Looks M hh (typeLookup (.ref C) (dunderI "add")) none := PySem.W.looks_findIn X' T.no
    unfold fillsInplaceSlot
    refine wpAny_bind (Lm'.at ?_)
    rw [hm, List.anyM_cons]
    refine wpAny_bind (wpAny_bind (L1.at (wpAny_pure ?_)))
    rw [if_neg (by decide)]
    rw [List.anyM_cons]
    refine wpAny_bind (wpAny_bind (wpAny_of_eq obj_iadd (wpAny_pure ?_)))
    rw [if_neg (by decide)]
    rw [List.anyM_nil]
    exact wpAny_pure q
theorem ip_addO {CX : CXT} {n : Nat} {sp : Sp} {E : XK} {SF : Addr → Addr → Prop} (hI : ∀ C g, SF C g → IAdd X.K C) (hS : ∀ C g, SF C g → MethC X.K "__add__" C g ∧ PySem.W.selfFirst X.K C = true) (hF : ∀ C g, SF C g → FnR X.prog X.w X.K X.mg X.base CX n g (onC C sp)) (hr : Room n X.A) (hx : Passes CX X E) : PIp X .Add (rAddO SF sp E) := by
  intro pins s σ H x y v u Q I rx ry h
  obtain ⟨a, b, C, dx, dy, fs, gs, g, rfl, rfl, ha, hb, hg, q⟩ := h
  obtain rfl : v = Value.ref a := rx
  obtain rfl : u = Value.ref b := ry
  obtain ⟨od, J⟩ := ins_at I ha
  obtain ⟨od2, J2⟩ := ins_at I hb
  obtain ⟨M, sf⟩ := hS C g hg
  have T := hI C g hg
  have KX := I.kIn
  cases hc : PySem.W.clsIn X.K C with
  | none => have := T.mro; rw [hc] at this; cases this
  | some cd =>
    have hm : cd.mro = .ref C :: [.type "object"] := by have := T.mro; rw [hc] at this; exact Option.some.inj this
    have main := wpAny_call (run_fnR (us := [.ref a, .ref b]) (vs := [.ref a, .ref b]) (hF C g hg) hr hx I (.cons rfl (.cons rfl .nil)) ⟨⟨_, _, _, _, rfl, ha⟩, q⟩)
    unfold inplaceOp
    refine wpAny_holding (wpAny_bind (J.type.here (wpAny_bind ((fills_no KX T).here ?_))))
    rw [if_neg Bool.false_ne_true]
    refine wpAny_bind (m := binaryOp1 Operator.Add.info.snd (.ref a) (.ref b)) ?_
    unfold binaryOp1
    refine wpAny_bind (J.type.here (wpAny_bind (J2.type.here (wpAny_bind ((PySem.W.fills_K (nm := "add") KX hc hm M.at_).here ?_)))))
    simp only [if_true, beq_self_eq_true]
    refine wpAny_bind (wpAny_pure ?_)
    simp only [Bool.false_and, Bool.and_false, if_false, Bool.false_eq_true]
    refine wpAny_bind (wpAny_pure ?_)
    rw [if_neg Bool.false_ne_true]
    refine wpAny_bind ?_
    unfold tryMethod
    refine wpAny_bind (PySem.W.special_fn KX J M.at_ (beq_iff_eq.mp M.fn) (wpAny_mono main (fun w s' z => ?_) fun _ _ x => x))
    obtain ⟨z', H', I', rz, qz⟩ := z
    have cb : PySem.W.CmpBack (EP X pins σ Q) w s' := SlX.cmpback rz ⟨z', H', I', rz, qz⟩
    cases w <;> first | exact cb.elim | exact wpAny_pure (wpAny_pure (wpAny_pure cb))
end
/-- for over what may be a list or a tuple -/
theorem for_LT {K : PySem.W.Frag} {a : Addr} {xs : List V} {g : TG} {tb : TS} {D : Ends} {σ : L2.St} {H : Hp} (Pv : Nat → L2.St → Hp → Prop) (h0 : Pv 0 σ H) (hl : (∀ i σ H, i ≤ xs.length → Pv i σ H → SqL K H a xs) ∨ (∀ i σ H, i ≤ xs.length → Pv i σ H → SqT K H a xs))
    (hs : ∀ i x σ H, xs[i]? = some x → Pv i σ H → g x σ H fun σ2 H2 => tb { D with nx := Pv (i + 1), ct := Pv (i + 1), bk := D.nx } σ2 H2) (hd : ∀ σ H, Pv xs.length σ H → D.nx σ H) : ∃ b, V.ref a = .ref b ∧ (((∃ xs, SqL K H b xs) ∧ ∃ W : Nat → Nat → L2.St → Hp → Prop, (∃ m, W 0 m σ H) ∧ ∀ i m σ H, W i m σ H →
      ((Itl K b).stop i H ∧ D.nx σ H) ∨ ((Itl K b).go i H ∧ ∃ N : L2.St → Hp → Prop, (∀ σ' H', N σ' H' → ∃ m', m' < m ∧ W (i + 1) m' σ' H') ∧ ∀ x H', (Itl K b).yld i H x H' → g x σ H' fun σ2 H2 => tb { D with nx := N, ct := N, bk := D.nx } σ2 H2)) ∨ ((∃ xs, SqT K H b xs) ∧ ∃ W : Nat → Nat → L2.St → Hp → Prop, (∃ m, W 0 m σ H) ∧ ∀ i m σ H, W i m σ H →
      ((Itt K b).stop i H ∧ D.nx σ H) ∨ ((Itt K b).go i H ∧ ∃ N : L2.St → Hp → Prop, (∀ σ' H', N σ' H' → ∃ m', m' < m ∧ W (i + 1) m' σ' H') ∧ ∀ x H', (Itt K b).yld i H x H' → g x σ H' fun σ2 H2 => tb { D with nx := N, ct := N, bk := D.nx } σ2 H2))) := by
  refine ⟨a, rfl, ?_⟩
  rcases hl with hl | hl
  · exact .inl ⟨⟨xs, hl 0 _ _ (Nat.zero_le _) h0⟩, for_list Pv h0 hl hs hd⟩
  · exact .inr ⟨⟨xs, hl 0 _ _ (Nat.zero_le _) h0⟩, for_tup Pv h0 hl hs hd⟩
end My
set_option Elab.async false
set_option linter.all false
set_option maxRecDepth 100000
set_option maxHeartbeats 4000000
/-! o != y by object.__ne__ and the own __eq__ of o's class -/
namespace My
open PySem PySem.Spec PyProof.Rows L2 Evl
section
open PySem.W
variable {prog : Program} {w : World} {A : Around} {E : Value → Shared → Prop} {s : Shared} {K : Frag} {x C f : Addr} {ox : Obj} {od : Option Obj} {b tb : Value} {name : Str} {id : String}
theorem ifBound_B {M : Model} {args : List Value} {Q : Option Value → Shared → Prop} (X : K.In s.heap) (I : InstAt s.heap x ox C od) (hs : findIn K (.ref C) name = some (some (.builtin id))) (hb : ∀ self, bindSpecial (.builtin id) self = pure (.builtin id, [self]))
    (h : wpAny M A (call (.builtin id) (.ref x :: args)) (fun v => Q (some v)) E s) : wpAny M A (callSpecialIfBound? (.ref x) name args) Q E s := by
  simp only [callSpecialIfBound?, bindSpecialIfBound?]
  refine wpAny_holding (wpAny_bind (wpAny_bind (wpAny_bind (I.type.here ((looks_findIn X hs).here ?_)))))
  refine wpAny_bind (wpAny_askSetting (wpAny_ite ?_))
  have fin : wpAny M A (call (.builtin id) ([.ref x] ++ args) >>= fun v => pure (some v)) Q E s := wpAny_bind (wpAny_mono h (fun v s' h' => wpAny_pure h') fun _ _ h' => h')
  split
  · exact wpAny_bind ((Looks.of_pure (hb _)).here (wpAny_pure (by exact fin)))
  · exact wpAny_tryCatch (wpAny_bind ((Looks.of_pure (hb _)).here (wpAny_pure (by exact fin))))
theorem ne_bind (self : Value) : bindSpecial (.builtin "object.__ne__") self = pure (.builtin "object.__ne__", [self]) := PySem.F.cmp_object.ne.bind self
theorem objNe_K {Q : Fin → Shared → Prop} (X : K.In s.heap) (I : InstAt s.heap x ox C od) (hu : A.units < cLine) (hs : findIn K (.ref C) "__eq__" = some (some (.ref f))) (hf : isFn K (.ref f) = true)
    (hcall : wpAny (model prog w) A (call (.ref f) [.ref x, b]) (fun v s' => ∃ r, v = .bool r ∧ Q (.done (.ret (.bool (!r)))) s') E s) :
    wpAny (model prog w) A (Builtin.«object.__ne__» ⟨[.ref x, b], []⟩) Q E s := by
  unfold Builtin.«object.__ne__»
  repeat (first
    | with_reducible refine wpAny_cRoomFor hu ?_
    | (refine wpAny_bind (m := callSpecialIfBound? (.ref x) (Str.ofString "__eq__") [b])
        (ifBound_K X I hs hf (wpAny_mono hcall (fun v s' hr => by
          obtain ⟨r, rfl, hq⟩ := hr
          repeat (first | exact hq | exact wpAny_pure hq | exact wpAny_truthy_bool hq | (refine wpAny_bind (m := truthy (.bool _)) (wpAny_truthy_bool ?_)) | wp_step)) fun _ _ e => e)))
    | wp_step)
theorem cmpNe_K {Q : Value → Shared → Prop} (hu : A.units + 1 < cLine) (X : K.In s.heap) (I : InstAt s.heap x ox C od) (hb : Looks (model prog w) s.heap (typeOf b) tb) (hn : notFirst K C tb = true)
    (hne : findIn K (.ref C) "__ne__" = some (some (.builtin "object.__ne__"))) (hm : mroIn K C (.type "object") = some true)
    (hs : findIn K (.ref C) "__eq__" = some (some (.ref f))) (hf : isFn K (.ref f) = true)
    (h : wpAny (model prog w) A.in1 (call (.ref f) [.ref x, b]) (fun v s' => ∃ r, v = .bool r ∧ Q (.bool (!r)) s') E s) : wpAny (model prog w) A (richCompare .NotEq (.ref x) b) Q E s := by
  have one : wpAny (model prog w) A (tryCompare (.ref x) (cmpInfo .NotEq).2.1 b) (fun r s' => ∃ v, r = some v ∧ Q v s') E s := by
    simp only [tryCompare]
    refine wpAny_bind (ifBound_B X I hne ne_bind (wpAny_call (codeAny_call_builtin PySem.F.cmp_object.ne.plain F.cmpEntry_ne
      (check_slot (i := "object.__ne__") (owner := "object") (n := "__ne__") F.cmpKind_ne F.cmpSplit_ne (I.type.andThen (looks_mroIn X hm)) (F.cmpArgs_ne _ _) ?_))))
    refine objNe_K (A := A.in1) X I hu hs hf (wpAny_mono h (fun v s' hv => ?_) fun _ _ e => e)
    obtain ⟨r, rfl, hq⟩ := hv
    exact ⟨r, rfl, wpAny_pure ⟨_, rfl, hq⟩⟩
  unfold richCompare
  simp only [oneThing_ref]
  refine wpAny_holding (wpAny_bind (wpAny_cRoomFor (Nat.lt_of_succ_lt hu) ?_))
  refine wpAny_bind (I.type.here (wpAny_bind (hb.here ?_)))
  split
  · rename_i q
    have e : subIn K tb (.ref C) = some false := by
      rcases Bool.or_eq_true_iff.mp hn with e | e
      · rw [beq_iff_eq.mp e] at q; simp at q
      · exact beq_iff_eq.mp e
    refine wpAny_bind ((looks_subIn X e).here ?_)
    simp only [Bool.false_eq_true, if_false]
    refine wpAny_bind (wpAny_mono one (fun r s' z => ?_) fun _ _ e => e)
    obtain ⟨v, rfl, hq⟩ := z
    exact wpAny_pure hq
  · refine wpAny_bind (wpAny_pure ?_)
    simp only [Bool.false_eq_true, if_false]
    refine wpAny_bind (wpAny_mono one (fun r s' z => ?_) fun _ _ e => e)
    obtain ⟨v, rfl, hq⟩ := z
    exact wpAny_pure hq
end
/-- what an own class must say that != goes by its __eq__ -/
def NeC (K : PySem.W.Frag) (C : Addr) : Prop := PySem.W.findIn K (.ref C) "__ne__" = some (some (.builtin "object.__ne__")) ∧ PySem.W.mroIn K C (.type "object") = some true
def rNeO (K : PySem.W.Frag) (SF : Addr → Addr → Prop) (sp : Sp) (E : XK) : R2 := fun x y H Q => ∃ a C dx fs g t, x = .ref a ∧ H a = some (.ins C dx fs) ∧ SF C g ∧ TyX K H y t ∧ PySem.W.notFirst K C t = true ∧ sp [x, y] H (fun z H' => ∃ r, z = .bl r ∧ Q (.bl (!r)) H') E
theorem op_neO {X : Cx} {CX : CXT} {n : Nat} {sp : Sp} {E : XK} {SF : Addr → Addr → Prop} (hN : ∀ C g, SF C g → NeC X.K C) (hS : ∀ C g, SF C g → MethC X.K "__eq__" C g) (hF : ∀ C g, SF C g → FnR X.prog X.w X.K X.mg X.base CX n g (onC C sp)) (hr : Room (n + 1) X.A) (hx : Passes CX X E) : OpR X (compareOp .NotEq) (rNeO X.K SF sp E) := by
  intro pins s σ H x y v u Q I rx ry h
  obtain ⟨a, C, dx, fs, g, t, rfl, ha, hg, ty, hn, q⟩ := h
  obtain rfl : v = Value.ref a := rx
  obtain ⟨od, J⟩ := ins_at I ha
  obtain ⟨m, hFr⟩ := I.fr
  obtain ⟨PP, KX, hp, _⟩ := kit_of I ry ty
  have h2 : Room n X.A.in1 := Room.in1 hr
  have hu : X.A.units + 1 < cLine := by have := hr.units; omega
  show wpAny _ _ (richCompare .NotEq _ _) _ _ _
  refine cmpNe_K (tb := t) hu I.kIn J (KX.ty _ _ I.kIn hp) hn (hN C g hg).1 (hN C g hg).2 (hS C g hg).at_ (hS C g hg).fn ?_
  refine wpAny_mono (wpAny_call (SlX.run_at (us := [.ref a, u]) (ws := [.ref a, y]) (hF C g hg) h2 I.env0.in1 hx I (.cons rfl (.cons ry .nil)) ⟨⟨_, _, _, _, rfl, ha⟩, q⟩)) (fun w s' z => ?_) fun _ _ x => x
  obtain ⟨z', H', I', rz, r, ey, qz⟩ := z
  subst ey
  cases rz
  exact ⟨r, rfl, .bl (!r), H', I', rfl, qz⟩
end My
set_option Elab.async false
set_option linter.all false
set_option maxRecDepth 100000
set_option maxHeartbeats 4000000
/-! own objects: a[i] by an own __getitem__, a.m(..) in a try, == and != of tuples of own objects by their own == -/
namespace My
open PySem PySem.Spec PyProof.Rows L2 Evl
/-! ### a[i] -/
structure GetC (K : PySem.W.Frag) (C g : Addr) : Prop where
  at_ : PySem.W.findIn K (.ref C) "__getitem__" = some (some (.ref g))
  fi : PySem.W.fnIn K g = true
  fn : PySem.W.isFn K (.ref g) = true
def tIxO (SF : Addr → Addr → Prop) (sp : Sp) (E : L2.St → XK) (ta tb : TE) : TE := fun σ H Q => ta σ H fun x H1 => tb σ H1 fun y H2 => ∃ a C dx fs g, x = .ref a ∧ H2 a = some (.ins C dx fs) ∧ SF C g ∧ sp [x, y] H2 Q (E σ)
theorem run_atS {X : Cx} {CX : CXT} {n : Nat} {g : Addr} {sp : Sp} {E : L2.St → XK} {pins : List (Addr × Obj)} {σ : L2.St} {H : Hp} {s : Shared} {A : Around} {Q : VK} {us : List Value} {ws : List V} (F : FnR X.prog X.w X.K X.mg X.base CX n g sp) (hr : Room n A) (e0 : Env0 X.prog X.w X.K X.mg X.base A X.stack s H) (hx : PassesAt CX X σ (E σ)) (I : Inv X pins σ H s) (r : Vals ws us) (h : sp ws H Q (E σ)) :
    codeAny (model X.prog X.w) A (.call (.ref g) ⟨us, []⟩) (fun r s' => match r with | .ok (.ret v) => EP X pins σ Q v s' | .ok _ => False | .error e => X.xe e s') s := by
  refine codeAny_mono (F A X.stack s H us ws Q (E σ) hr e0 r h) fun r s' hq => ?_
  cases r with
  | error e => exact hx pins H s e s' I hq
  | ok fl =>
    cases fl with
    | ret u => exact I.after hq
    | next => exact False.elim hq
    | brk => exact False.elim hq
    | cont => exact False.elim hq
theorem pe_ixO {X : Cx} {CX : CXT} {n : Nat} {sp : Sp} {E : L2.St → XK} {SF : Addr → Addr → Prop} {a b : Expr} {ta tb : TE} {pos : Pos} (hS : ∀ C g, SF C g → GetC X.K C g) (hF : ∀ C g, SF C g → FnR X.prog X.w X.K X.mg X.base CX n g (onC C sp)) (hr : Room (n + 1) X.A) (hx : ∀ σ, PassesAt CX X σ (E σ))
    (ha : PE X a ta) (hb : PE X b tb) (hs : ∀ o i, subscripted b true o i = runValue (.builtin "lifetime.subscript" ⟨[o, i], []⟩)) : PE X (.Subscript a b pos) (tIxO SF sp E ta tb) := by
  refine ⟨fun pins s σ H Q I h => ?_⟩
  refine Subscript_ (binT (R := fun x y H => ∃ a C dx fs g, x = .ref a ∧ H a = some (.ins C dx fs) ∧ SF C g ∧ sp [x, y] H Q (E σ)) ha hb I h fun v u s2 x y H2 I2 rx ry q => ?_)
  obtain ⟨a0, C, dx, fs, g, rfl, h1, hg, q⟩ := q
  obtain rfl : v = Value.ref a0 := rx
  obtain ⟨od, J⟩ := ins_at I2 h1
  obtain ⟨m, hFr⟩ := I2.fr
  refine PySem.W.sub_K hFr I2.ok.mod.kin J (hS C g hg).at_ (hS C g hg).fi (hS C g hg).fn ?_ (hs _ _)
  exact wpAny_call (run_atS (us := [.ref a0, u]) (ws := [.ref a0, y]) (hF C g hg) (Room.in1 hr) I2.env0.in1 (hx σ) I2 (.cons rfl (.cons ry .nil)) ⟨⟨_, _, _, _, rfl, h1⟩, q⟩)
/-! ### a.m(e, ..), what it raises told by the slots -/
def tMethS2 (C : Addr) (m : Str) (sp : Sp) (E : L2.St → XK) (ta : TE) (t : TA) : TE := fun σ H Q => ta σ H fun x H1 => ∃ a dx fs, x = .ref a ∧ H1 a = some (.ins C dx fs) ∧ fs.lookup m = none ∧ t σ H1 fun vs H2 => sp (x :: vs) H2 Q (E σ)
theorem pe_methS2 {X : Cx} {CX : CXT} {k : Nat} {C f : Addr} {m : Str} {sp : Sp} {E : L2.St → XK} {o e : Expr} {es : List Expr} {ta : TE} {t : TA} {apos pos : Pos} {pl : Sem Bool} (he : PE X o ta) (c : Cls X.K C) (hm : Meth X.K C m f)
    (F : FnR X.prog X.w X.K X.mg X.base CX k f sp) (hr : Room k X.A) (hx : ∀ σ, PassesAt CX X σ (E σ)) (ha : PA X (e :: es) t)
    (hst : starEach (e :: es) X.env = (false, eval e X.env) :: starEach es X.env := by rfl) (hpl : (backTo pos (starEach es X.env)).any (·.1) = false := by rfl)
    (ht : eval (.Call (.Attribute o m apos) (e :: es) [] pos) X.env = (do
      let ov ← eval o X.env
      standAt apos.atName
      let (f, first) ← holding [ov] (getMethod ov m pl)
      callWith pos f first (backTo pos (starEach (e :: es) X.env)) (backToKw pos (keywordEach [] X.env))) := by rfl) :
    PE X (.Call (.Attribute o m apos) (e :: es) [] pos) (tMethS2 C m sp E ta t) := by
  refine ⟨fun pins s σ H Q I h => ?_⟩
  refine PySem.W.methodCall_KW (pl := pl) (thn (he.run pins s σ H _ I h) fun u s1 ⟨x, H1, I1, rx, a, dx, fs, ex, ea, l, q⟩ => ?_) ht
  subst ex
  obtain rfl : u = Value.ref a := rx
  refine getmeth_ok I1 ea c hm l ?_
  refine PySem.W.callWith_K (first := [.ref a]) (h₀ := X.base) I.ok.mod.kin hm.kp (thn (ha.run pos pins s1 σ H1 _ I1 q) fun us s2 ⟨vs, H2, I2, r, q2⟩ => ⟨I2.kIn, ?_⟩) hst hpl
  exact wpAny_call (run_atS (us := .ref a :: us) (ws := .ref a :: vs) F hr I2.env0 (hx σ) I2 (.cons rfl r) q2)
/-! ### == and != of two tuples, item by item -/
section
open PySem.SeqAt AutoSeq1 MeetsSeq MeetsSeq2 MeetsSeq3 SeqRoads2
variable {prog : Program} {w : World} {A : Around} {R : Result → Shared → Prop}
/-- all items equal, as many -/
def allEq (e : Nat → Bool) (n m : Nat) : Bool := (List.range (min n m)).all e && n == m
theorem allEq_no {e : Nat → Bool} {n m i : Nat} (h : i < min n m) (he : e i = false) : allEq e n m = false := by
  unfold allEq
  rw [Bool.and_eq_false_iff]
  refine .inl ?_
  rw [List.all_eq_false]
  exact ⟨i, List.mem_range.mpr h, by simp [he]⟩
theorem allEq_fin {e : Nat → Bool} {n m : Nat} (h : ∀ i < min n m, e i = true) : allEq e n m = (n == m) := by
  unfold allEq
  rw [List.all_eq_true.mpr (fun i hi => h i (List.mem_range.mp hi)), Bool.true_and]
theorem tuple_eqB (l b : Addr) (items items2 : Array Value) (n n2 : Nat) (dd dd2 : Option Addr) (sl sl2 : Array (Option Value)) (e : Nat → Bool) (I : Nat → Shared → Prop)
    (turn : ∀ i (h1 : i < items.size) (h2 : i < items2.size) s, I i s → wpAny (model prog w) A.in1 (eqBool items[i] items2[i]) (fun r s' => r = e i ∧ I (i + 1) s') (fun e s' => R (.error e) s') s)
    (fin : ∀ i s, I i s → R (.ok (.ret (.bool (allEq e items.size items2.size)))) s) {s : Shared} (hl1 : s.heap.get? l = some { cls := .type "tuple", dict := dd, data := .seq items n, slots := sl }) (hb1 : s.heap.get? b = some { cls := .type "tuple", dict := dd2, data := .seq items2 n2, slots := sl2 }) (h : I 0 s) :
    wpAny (model prog w) A.in1 (Builtin.«tuple.__eq__» ⟨[.ref l, .ref b], []⟩) (GQ.FinOf prog w A R) (fun e s' => R (.error e) s') s := by
  have f2 := AutoSeq1.sub_tuple_tuple
  have hZ : (items.toList.zip items2.toList).length = min items.size items2.size := by simp
  have h0 := h
  obtain ⟨hp, g, d, tk, os⟩ := s
  wp_walk using wpAny_loadPart' hl1, wpAny_loadPart' hb1, wpAny_forIn_list _ (fun rest b s' => b.1 = none ∧ ∃ i, rest = (items.toList.zip items2.toList).drop i ∧ (∀ j < i, j < min items.size items2.size → e j = true) ∧ I i s') _
  case turn =>
    rintro ⟨y, x⟩ rest b s' ⟨hb', i, hz, hi, hI⟩
    have hlt : i < (items.toList.zip items2.toList).length := by
      rcases Nat.lt_or_ge i (items.toList.zip items2.toList).length with h' | h'
      · exact h'
      · rw [List.drop_of_length_le h'] at hz; cases hz
    have hm : i < min items.size items2.size := hZ ▸ hlt
    have h1 : i < items.size := Nat.lt_of_lt_of_le hm (Nat.min_le_left _ _)
    have h2 : i < items2.size := Nat.lt_of_lt_of_le hm (Nat.min_le_right _ _)
    rw [List.drop_eq_getElem_cons hlt] at hz
    injection hz with hyx hrest
    have hy : y = items[i] := by have := congrArg Prod.fst hyx; simpa using this
    have hx : x = items2[i] := by have := congrArg Prod.snd hyx; simpa using this
    subst hy hx
    refine wpAny_bind (wpAny_mono (turn i h1 h2 s' hI) (fun r s2 q2 => ?_) fun _ _ x => x)
    obtain ⟨hr, q2⟩ := q2
    subst hr
    cases he : e i with
    | true =>
      wp_walk
      refine ⟨rfl, i + 1, hrest, fun j hj hj2 => ?_, q2⟩
      by_cases hji : j = i
      · rw [hji]; exact he
      · exact hi j (by omega) hj2
    | false =>
      have q3 := fin _ _ q2
      rw [allEq_no hm he] at q3
      wp_walk
      exact q3
  case fin =>
    rintro ⟨b1, b2⟩ s' ⟨hb', i, hz, hi, hI⟩
    simp only at hb'
    subst hb'
    have hge : min items.size items2.size ≤ i := by
      rcases Nat.lt_or_ge i (items.toList.zip items2.toList).length with h' | h'
      · rw [List.drop_eq_getElem_cons h'] at hz; cases hz
      · exact hZ ▸ h'
    have hR := fin _ _ hI
    rw [allEq_fin fun j hj => hi j (by omega) hj] at hR
    wp_walk
    exact hR
  case h =>
    exact ⟨rfl, 0, rfl, fun j hj => absurd hj (by omega), h0⟩
theorem tuple_neB (l b : Addr) (items items2 : Array Value) (n n2 : Nat) (dd dd2 : Option Addr) (sl sl2 : Array (Option Value)) (e : Nat → Bool) (I : Nat → Shared → Prop)
    (turn : ∀ i (h1 : i < items.size) (h2 : i < items2.size) s, I i s → wpAny (model prog w) A.in1 (eqBool items[i] items2[i]) (fun r s' => r = e i ∧ I (i + 1) s') (fun e s' => R (.error e) s') s)
    (fin : ∀ i s, I i s → R (.ok (.ret (.bool (!allEq e items.size items2.size)))) s) {s : Shared} (hl1 : s.heap.get? l = some { cls := .type "tuple", dict := dd, data := .seq items n, slots := sl }) (hb1 : s.heap.get? b = some { cls := .type "tuple", dict := dd2, data := .seq items2 n2, slots := sl2 }) (h : I 0 s) :
    wpAny (model prog w) A.in1 (Builtin.«tuple.__ne__» ⟨[.ref l, .ref b], []⟩) (GQ.FinOf prog w A R) (fun e s' => R (.error e) s') s := by
  have f2 := AutoSeq1.sub_tuple_tuple
  have hZ : (items.toList.zip items2.toList).length = min items.size items2.size := by simp
  have h0 := h
  obtain ⟨hp, g, d, tk, os⟩ := s
  wp_walk using wpAny_loadPart' hl1, wpAny_loadPart' hb1, wpAny_forIn_list _ (fun rest b s' => b.1 = none ∧ ∃ i, rest = (items.toList.zip items2.toList).drop i ∧ (∀ j < i, j < min items.size items2.size → e j = true) ∧ I i s') _
  case turn =>
    rintro ⟨y, x⟩ rest b s' ⟨hb', i, hz, hi, hI⟩
    have hlt : i < (items.toList.zip items2.toList).length := by
      rcases Nat.lt_or_ge i (items.toList.zip items2.toList).length with h' | h'
      · exact h'
      · rw [List.drop_of_length_le h'] at hz; cases hz
    have hm : i < min items.size items2.size := hZ ▸ hlt
    have h1 : i < items.size := Nat.lt_of_lt_of_le hm (Nat.min_le_left _ _)
    have h2 : i < items2.size := Nat.lt_of_lt_of_le hm (Nat.min_le_right _ _)
    rw [List.drop_eq_getElem_cons hlt] at hz
    injection hz with hyx hrest
    have hy : y = items[i] := by have := congrArg Prod.fst hyx; simpa using this
    have hx : x = items2[i] := by have := congrArg Prod.snd hyx; simpa using this
    subst hy hx
    refine wpAny_bind (wpAny_mono (turn i h1 h2 s' hI) (fun r s2 q2 => ?_) fun _ _ x => x)
    obtain ⟨hr, q2⟩ := q2
    subst hr
    cases he : e i with
    | true =>
      wp_walk
      refine ⟨rfl, i + 1, hrest, fun j hj hj2 => ?_, q2⟩
      by_cases hji : j = i
      · rw [hji]; exact he
      · exact hi j (by omega) hj2
    | false =>
      have q3 := fin _ _ q2
      rw [allEq_no hm he] at q3
      wp_walk
      exact q3
  case fin =>
    rintro ⟨b1, b2⟩ s' ⟨hb', i, hz, hi, hI⟩
    simp only at hb'
    subst hb'
    have hge : min items.size items2.size ≤ i := by
      rcases Nat.lt_or_ge i (items.toList.zip items2.toList).length with h' | h'
      · rw [List.drop_eq_getElem_cons h'] at hz; cases hz
      · exact hZ ▸ h'
    have hR := fin _ _ hI
    rw [allEq_fin fun j hj => hi j (by omega) hj] at hR
    wp_walk
    exact hR
  case h =>
    exact ⟨rfl, 0, rfl, fun j hj => absurd hj (by omega), h0⟩
end
/-- two items: the same object, or two that their own == compares -/
def ItemEq (K : PySem.W.Frag) (SF : Addr → Addr → Prop) (sp : Sp) (E : XK) (e : Bool) (x y : V) (H : Hp) : Prop :=
  (∃ r, x = .ref r ∧ y = .ref r ∧ e = true) ∨ ∃ a b C dx fs g t, x = .ref a ∧ y = .ref b ∧ a ≠ b ∧ H a = some (.ins C dx fs) ∧ SF C g ∧ TyX K H y t ∧ PySem.W.notFirst K C t = true ∧ sp [x, y] H (fun z H' => z = .bl e ∧ Ex H H') E
def rTupO (K : PySem.W.Frag) (SF : Addr → Addr → Prop) (sp : Sp) (E : XK) (neg : Bool) : R2 := fun x y H Q => ∃ a b xs ys es, x = .ref a ∧ y = .ref b ∧ SqT K H a xs ∧ SqT K H b ys ∧
  (∀ H', Ex H H' → ∀ i x y, xs[i]? = some x → ys[i]? = some y → ItemEq K SF sp E (es i) x y H') ∧ ∀ H', Ex H H' → Q (.bl (xor neg (allEq es xs.length ys.length))) H'
section
variable {X : Cx} {CX : CXT} {n : Nat} {sp : Sp} {E : XK} {SF : Addr → Addr → Prop}
theorem item_ok (hS : ∀ C g, SF C g → MethC X.K "__eq__" C g) (hF : ∀ C g, SF C g → FnR X.prog X.w X.K X.mg X.base CX n g (onC C sp)) (hr : Room (n + 1) X.A) (hx : Passes CX X E) {pins : List (Addr × Obj)} {σ : L2.St} {H : Hp} {s : Shared} {x y : V} {v u : Value} {e : Bool}
    (I : Inv X pins σ H s) (rx : RelV x v) (ry : RelV y u) (h : ItemEq X.K SF sp E e x y H) : wpAny (model X.prog X.w) X.A.in1 (eqBool v u) (fun r s' => r = e ∧ ∃ H', Inv X pins σ H' s' ∧ Ex H H') X.xe s := by
  rcases h with ⟨r, rfl, rfl, rfl⟩ | ⟨a, b, C, dx, fs, g, t, rfl, rfl, hne, ha, hg, ty, hn, q⟩
  · cases rx
    cases ry
    exact SeqAt.EqAt.same (A := X.A.in1) (s := s) (.ref r) X.prog X.w X.xe _ ⟨rfl, H, I, Ex.refl H⟩
  · obtain ⟨PP, KX, hp, _⟩ := kit_of I ry ty
    obtain rfl : v = Value.ref a := rx
    obtain rfl : u = Value.ref b := ry
    obtain ⟨od, J⟩ := ins_at I ha
    obtain ⟨m, hFr⟩ := I.fr
    refine GQ.eqBool_refG hne ?_
    refine PySem.W.cmp_K (op := .Eq) (tb := t) (Room.in1 hr).units0 hFr I.ok.mod.kin J (KX.ty _ _ I.kIn hp) hn (hS C g hg).at_ (hS C g hg).fn ?_
    refine wpAny_mono (wpAny_call (SlX.run_at (us := [.ref a, .ref b]) (ws := [.ref a, .ref b]) (hF C g hg) (Room.in1 hr) I.env0.in1 hx I (.cons rfl (.cons rfl .nil)) ⟨⟨_, _, _, _, rfl, ha⟩, q⟩)) (fun w s' z => ?_) fun _ _ x => x
    obtain ⟨z', H', I', rz, ez, ex⟩ := z
    subst ez
    cases rz
    exact ⟨_, rfl, rfl, H', I', ex⟩
theorem items_turn (hS : ∀ C g, SF C g → MethC X.K "__eq__" C g) (hF : ∀ C g, SF C g → FnR X.prog X.w X.K X.mg X.base CX n g (onC C sp)) (hr : Room (n + 1) X.A) (hx : Passes CX X E) {pins : List (Addr × Obj)} {σ : L2.St} {H : Hp} {xs ys : List V} {its its2 : List Value} {es : Nat → Bool}
    (r1 : Vals xs its) (r2 : Vals ys its2) (p : ∀ H', Ex H H' → ∀ i x y, xs[i]? = some x → ys[i]? = some y → ItemEq X.K SF sp E (es i) x y H') (i : Nat) (h1 : i < its.toArray.size) (h2 : i < its2.toArray.size) (s' : Shared) (l : ∃ H', Inv X pins σ H' s' ∧ Ex H H') :
    wpAny (model X.prog X.w) X.A.in1 (eqBool its.toArray[i] its2.toArray[i]) (fun r s2 => r = es i ∧ ∃ H', Inv X pins σ H' s2 ∧ Ex H H') X.xe s' := by
  obtain ⟨H1, I1, e1⟩ := l
  have g1 : its[i]? = some its.toArray[i] := by
    have h1' : i < its.length := by simpa using h1
    rw [List.getElem?_eq_getElem h1'] <;> simp
  have g2 : its2[i]? = some its2.toArray[i] := by
    have h2' : i < its2.length := by simpa using h2
    rw [List.getElem?_eq_getElem h2'] <;> simp
  have k1 : i < xs.length := by rw [r1.length]; simpa using h1
  have k2 : i < ys.length := by rw [r2.length]; simpa using h2
  obtain ⟨u, hu, ru⟩ := r1.get (List.getElem?_eq_getElem k1)
  obtain ⟨v, hv, rv⟩ := r2.get (List.getElem?_eq_getElem k2)
  rw [g1] at hu
  rw [g2] at hv
  rw [Option.some.inj hu, Option.some.inj hv]
  refine wpAny_mono (item_ok hS hF hr hx I1 ru rv (p H1 e1 i _ _ (List.getElem?_eq_getElem k1) (List.getElem?_eq_getElem k2))) (fun r s2 q => ?_) fun _ _ x => x
  obtain ⟨hr, H2, I2, e2⟩ := q
  exact ⟨hr, H2, I2, e1.trans e2⟩
open PySem.SeqAt in
theorem op_eqTupO (hS : ∀ C g, SF C g → MethC X.K "__eq__" C g) (hF : ∀ C g, SF C g → FnR X.prog X.w X.K X.mg X.base CX n g (onC C sp)) (hr : Room (n + 1) X.A) (hx : Passes CX X E) : OpR X (compareOp .Eq) (rTupO X.K SF sp E false) := by
  intro pins s σ H x y v u Q I rx ry h
  obtain ⟨a, b, xs, ys, es, rfl, rfl, ha, hb, p, q⟩ := h
  obtain rfl : v = Value.ref a := rx
  obtain rfl : u = Value.ref b := ry
  obtain ⟨its, r1, p1, z1⟩ := I.tuple ha
  obtain ⟨its2, r2, p2, z2⟩ := I.tuple hb
  obtain ⟨⟨cls, dd, data, sl⟩, ho, hc, n1, hd⟩ := id p1
  obtain ⟨⟨cls2, dd2, data2, sl2⟩, ho2, hc2, n2, hd2⟩ := id p2
  simp only at hc hd hc2 hd2
  subst hc hd hc2 hd2
  show wpAny _ _ (richCompare .Eq _ _) _ _ _
  refine wpAny_richCompare_same_room (op := .Eq) ⟨_, ho, rfl⟩ ⟨_, ho2, rfl⟩ F.slot_tuple_eq (GQ.call_here F.slot_tuple_eq ⟨_, ho, rfl⟩ F.entry_tuple_eq (F.args_tuple_eq_2 _ _) ?_) hr.units0
  refine tuple_eqB (R := wants (fun v s' => v ≠ .notImplemented ∧ EP X pins σ Q v s') X.xe) a b its.toArray its2.toArray n1 n2 dd dd2 sl sl2 es (fun _ s' => ∃ H', Inv X pins σ H' s' ∧ Ex H H') (fun i h1 h2 s' l => items_turn hS hF hr hx r1 r2 p i h1 h2 s' l) (fun i s' l => ?_) ho ho2 ⟨H, I, Ex.refl H⟩
  obtain ⟨H', I', e'⟩ := l
  refine ⟨(fun z => nomatch z), ⟨.bl _, H', I', ?_, q H' e'⟩⟩
  show Value.bool _ = Value.bool _
  rw [List.size_toArray, List.size_toArray, ← r1.length, ← r2.length, Bool.false_xor]
open PySem.SeqAt in
theorem op_neTupO (hS : ∀ C g, SF C g → MethC X.K "__eq__" C g) (hF : ∀ C g, SF C g → FnR X.prog X.w X.K X.mg X.base CX n g (onC C sp)) (hr : Room (n + 1) X.A) (hx : Passes CX X E) : OpR X (compareOp .NotEq) (rTupO X.K SF sp E true) := by
  intro pins s σ H x y v u Q I rx ry h
  obtain ⟨a, b, xs, ys, es, rfl, rfl, ha, hb, p, q⟩ := h
  obtain rfl : v = Value.ref a := rx
  obtain rfl : u = Value.ref b := ry
  obtain ⟨its, r1, p1, z1⟩ := I.tuple ha
  obtain ⟨its2, r2, p2, z2⟩ := I.tuple hb
  obtain ⟨⟨cls, dd, data, sl⟩, ho, hc, n1, hd⟩ := id p1
  obtain ⟨⟨cls2, dd2, data2, sl2⟩, ho2, hc2, n2, hd2⟩ := id p2
  simp only at hc hd hc2 hd2
  subst hc hd hc2 hd2
  show wpAny _ _ (richCompare .NotEq _ _) _ _ _
  refine wpAny_richCompare_same_room (op := .NotEq) ⟨_, ho, rfl⟩ ⟨_, ho2, rfl⟩ F.slot_tuple_ne (GQ.call_here F.slot_tuple_ne ⟨_, ho, rfl⟩ F.entry_tuple_ne (F.args_tuple_ne_2 _ _) ?_) hr.units0
  refine tuple_neB (R := wants (fun v s' => v ≠ .notImplemented ∧ EP X pins σ Q v s') X.xe) a b its.toArray its2.toArray n1 n2 dd dd2 sl sl2 es (fun _ s' => ∃ H', Inv X pins σ H' s' ∧ Ex H H') (fun i h1 h2 s' l => items_turn hS hF hr hx r1 r2 p i h1 h2 s' l) (fun i s' l => ?_) ho ho2 ⟨H, I, Ex.refl H⟩
  obtain ⟨H', I', e'⟩ := l
  refine ⟨(fun z => nomatch z), ⟨.bl _, H', I', ?_, q H' e'⟩⟩
  show Value.bool _ = Value.bool _
  rw [List.size_toArray, List.size_toArray, ← r1.length, ← r2.length, Bool.true_xor]
end
/-! ### l.extend(x), x a list or a tuple -/
section
open AutoSeq1
theorem list_extend_tupA (l : Addr) (items : Array Value) (n : Nat) (b : Addr) (items2 : Array Value) (n2 : Nat) (dd : Option Addr) (sl : Array (Option Value)) (hs0 : ¬(!items.isEmpty && Builtin.List.listTooLong (items.size + items2.size)) = true) (hs1 : items.size ≤ sizeLine) (hs2 : items.size + items2.size ≤ sizeLine + 1) :
    Meets (Builtin.«list.extend» ⟨[.ref l, .ref b], []⟩) (fun _ R s => s.heap.get? l = some { cls := .type "list", dict := none, data := .seq items n, slots := #[] } ∧ s.heap.get? b = some { cls := .type "tuple", dict := dd, data := .seq items2 n2, slots := sl } ∧ R (.ok (.ret Value.none)) { s with heap := s.heap.update l (Obj.mapSeq fun x => x ++ items2), toks := s.toks }) :=
  .of_wp fun prog w A R s h => by
    obtain ⟨hp, g, d, tk, os⟩ := s; obtain ⟨hl, hb, h⟩ := h; have f1 := AutoSeq1.idx_int; have f2 := AutoSeq1.sub_tuple_tuple; have f3 := AutoSeq1.sub_list_list; have f4 := AutoSeq1.sub_tuple_list; have f5 := AutoSeq1.sub_list_tuple;
    have hz' : (items ++ items2).size ≤ sizeLine + 1 := by rw [Array.size_append]; exact hs2
    wp_walk using (wpAny_updateSeq hl rfl (hz := hs1) (_hz' := hz')), MeetsSeq.wpAny_loadPart' hl, MeetsSeq.wpAny_loadPart' hb; exact ⟨_, rfl, h⟩
end
def rExtX (K : PySem.W.Frag) : V → List V → Hp → VK → Prop := fun x vs H Q => ∃ l b xs zs, x = .ref l ∧ vs = [.ref b] ∧ H l = some (.lst xs) ∧ (H b = some (.lst zs) ∨ SqT K H b zs) ∧ xs.length + zs.length ≤ sizeLine ∧ Q .non (upd H l (.lst (xs ++ zs)))
theorem mt_extX {X : Cx} : MtR X "list.extend" (rExtX X.K) := by
  intro pins s σ H x vs v us Q I rx rv h
  obtain ⟨l, b, xs, zs, rfl, rfl, hH, hB, hz, q⟩ := h
  rcases hB with hB | hB
  · exact mt_extend pins s σ H _ _ v us Q I rx rv ⟨l, b, xs, zs, rfl, rfl, hH, hB, hz, q⟩
  cases rx
  obtain ⟨u, rfl, ru⟩ := rv.one
  cases ru
  obtain ⟨z, its, n, r, hl, e⟩ := I.lstM hH
  obtain ⟨its2, r2, p2, hl2⟩ := I.tuple hB
  obtain ⟨⟨cls, dd, data, sl⟩, ho, hc, n2, hd⟩ := id p2
  simp only at hc hd
  subst hc hd
  have hl3 := r2.length
  have hsz : its.toArray.size + its2.toArray.size ≤ sizeLine := by rw [List.size_toArray, List.size_toArray]; omega
  have hlong : ¬ (!its.toArray.isEmpty && Builtin.List.listTooLong (its.toArray.size + its2.toArray.size)) = true := by
    rw [notLongL hsz, Bool.and_false]
    exact Bool.false_ne_true
  refine call_meets F.slot_list_extend ⟨_, e, rfl⟩ F.entry_list_extend (F.args_list_extend_2 _ _)
    (list_extend_tupA l its.toArray n b its2.toArray n2 dd sl hlong (by rw [List.size_toArray]; omega) (by omega)) ⟨e, ho, ?_⟩
  refine ⟨.non, _, I.lset (its' := its ++ its2) hH e (by simp) (r.append r2) ?_, rfl, q⟩
  rw [List.length_append]
  omega
/-- == of own objects under a comprehension -/
theorem op_eqOK {K : PySem.W.Frag} {X : Cx} {CX : CXT} {n : Nat} {sp : Sp} {E : XK} {SF : Addr → Addr → Prop} (hS : ∀ C g, SF C g → MethC K "__eq__" C g) (hF : ∀ C g, SF C g → FnR X.prog X.w X.K X.mg X.base CX n g (onC C sp)) (hr : Room n X.A) (hx : Passes CX X E) (hK : X.K = K := by rfl) : OpR X (compareOp .Eq) (rEqO K SF sp E) := by
  subst hK
  exact op_eqO hS hF hr hx
theorem op_neOK {K : PySem.W.Frag} {X : Cx} {CX : CXT} {n : Nat} {sp : Sp} {E : XK} {SF : Addr → Addr → Prop} (hN : ∀ C g, SF C g → NeC K C) (hS : ∀ C g, SF C g → MethC K "__eq__" C g) (hF : ∀ C g, SF C g → FnR X.prog X.w X.K X.mg X.base CX n g (onC C sp)) (hr : Room (n + 1) X.A) (hx : Passes CX X E) (hK : X.K = K := by rfl) : OpR X (compareOp .NotEq) (rNeO K SF sp E) := by
  subst hK
  exact op_neO hN hS hF hr hx
end My
set_option Elab.async false
set_option linter.all false
set_option maxRecDepth 100000
set_option maxHeartbeats 4000000
/-! the keys of a dict that the comprehension made itself; isinstance of a caught own error of any chain -/
namespace My
open PySem PySem.Spec PyProof.Rows L2 Evl
def iKeysN (td : TE) : TI := fun σ H R => td σ H fun x H1 => ∃ d kvs, x = .ref d ∧ H1 d = some (.dK kvs) ∧ ∀ o, R (Itk d o kvs) (upd H1 d (.frz o (.dK kvs)))
section
variable {X : Cx} {tg e : Expr} {td : TE}
theorem pi_keysN (he : PE X e td) : PI X tg e (iKeysN td) := by
  refine ⟨fun pins s σ H R I h => ?_⟩
  refine thn (he.run pins s σ H _ I h) fun u s1 ⟨x, H1, I0, rx, d, kvs, ex, hd0, q⟩ => ?_
  subst ex
  obtain rfl : u = Value.ref d := rx
  obtain ⟨o, I1⟩ := I0.lock hd0 trivial
  have hd : upd H1 d (.frz o (.dK kvs)) d = some (.frz o (.dK kvs)) := upd_same
  obtain ⟨hs, hgd, hx, es, ep, vs, hdt, hsz, kv, hm⟩ := I1.frzK hd
  refine iter_keys hs hgd hx hdt (pi_one (tk := s1.toks) I1 _ (turn_keys _ hdt) ⟨_, Heap.get?_push_size _ rfl, rfl, ?_⟩ (q o))
  rw [hsz] <;> rfl
end
/-! ### isinstance of a caught own error, one class -/
section
variable {X : Cx} {C a : Addr} {oe : Obj} {cls : Value} {d : Option Addr} {pn : List (Addr × Obj)}
def rIsR (K : PySem.W.Frag) (C a : Addr) (cls : Value) (d : Option Addr) : List V → Hp → VK → Prop := fun xs H Q => ∃ (dd : Addr) (fs : List (Str × V)) (c1 : V) (c2 : Value) (b : Bool),
  xs = [.ref a, c1] ∧ (∀ u, RelV c1 u → u = c2) ∧ (∀ tp, c2 = .ref tp → ∃ x, c1 = .ref x) ∧ cls = .ref C ∧ d = some dd ∧ H dd = some (.xd fs) ∧ PySem.W.kitOne K (.ref C) c2 = some b ∧ Q (.bl b) H
theorem call_isR {x f : Str} {fI : Addr} (T : ErrR X.K X.mg x f C fI) (hz : Zc cls d oe) (hf : ∃ vs, oe.data = .fields vs) : CallR (X.suite a ((a, oe) :: pn)) (.builtin "isinstance") (rIsR X.K C a cls d) := by
  intro pins s σ H xs us Q I r h
  obtain ⟨dd, fs, c1, c2, b, rfl, hc, _, ec, ed, hdd, e, q⟩ := h
  subst ec ed
  obtain ⟨u1, u2, rfl, r1, r2⟩ := vals2 r
  obtain rfl : u1 = Value.ref a := r1
  obtain rfl : u2 = c2 := hc _ r2
  obtain ⟨hget, _⟩ := I.pin (a, oe) (List.mem_append.mpr (.inl List.mem_cons_self))
  obtain ⟨vs, hv⟩ := hf
  obtain ⟨mA, hns, _⟩ := (show ObjOk X.prog X.w H s.heap dd (.xd fs) from I.hok dd _ hdd)
  obtain ⟨od, ho, _⟩ := lookIn_ns hns
  have J : PySem.W.InstAt s.heap a oe C (some od) := ⟨hget, hz.1, by unfold PySem.W.notCls; rw [hv] <;> rfl, by rw [hz.2]; exact ho⟩
  exact PySem.W.kia_one (PySem.W.kitx_exc T.F.k.isC T.xf.ga T.xf.gg T.xf.exC T.F.k.ha T.F.k.hn T.F.k.ht T.F.k.hm) I.kIn J e (fun z => nomatch z) fun tk => ⟨.bl b, H, I.tok tk, rfl, q⟩
end
end My
set_option Elab.async false
set_option linter.all false
set_option maxRecDepth 100000
set_option maxHeartbeats 4000000
/-! raise of an own error over ValueError without an __init__; isinstance of it when it is caught -/
namespace My
open PySem PySem.Spec PyProof.Rows L2 Evl PySem.HandSPX
structure ErrR0 (K : PySem.W.Frag) (mg : Str → Option Value) (x : Str) (C : Addr) : Prop where
  g : mg x = some (.ref C)
  E : Err0 K C
  ty : PySem.W.typeIn K (.ref C) = some (.type "type")
  te : PySem.W.exmOne K (.ref C) (.ref C) = some true
section
variable {X : Cx} {p pos : Pos} {C : Addr} {x : Str}
theorem pmk_own0 (T : ErrR0 X.K X.mg x C) (hg : Gl X x) (hdb : (x == ("__debug__" : Str)) = false := by decide) : PMk X (.Call (.Name x p) [] [] pos) (fun _ H Q => Q (.ref C) none H) := by
  intro pins s σ H Q I h
  refine wpAny_Call_Name_kw (ld_glob I hg T.g ?_ hdb)
  refine PySem.W.callWith_K0 I.kIn T.E.k.kC ?_
  show wpAny _ _ (call (.ref C) []) _ _ _
  obtain ⟨bm, N, nm, qn, bs, hdct, sn, sub, ab, col, dd, k0, k1, k2, k3, k5, mN, hC, hN, hni, OT⟩ := exc_obj I.kIn T.E.ex
  refine wpAny_call_exc_subT PySem.F.excBase_ValueError OT hC hN hni (fun h' a hm => ?_) (Nat.zero_le _)
  exact mk_of I hm (raises_own T.E.k.exC T.ty) h (I.hok.gone hm.new)
/-- isinstance of the caught error, which has no dict yet -/
def rIsR0 (K : PySem.W.Frag) (C a : Addr) (cls : Value) (d : Option Addr) : List V → Hp → VK → Prop := fun xs H Q => ∃ (c1 : V) (c2 : Value) (b : Bool),
  xs = [.ref a, c1] ∧ (∀ u, RelV c1 u → u = c2) ∧ (∀ tp, c2 = .ref tp → ∃ q, c1 = .ref q) ∧ cls = .ref C ∧ d = none ∧ PySem.W.kitOne K (.ref C) c2 = some b ∧ Q (.bl b) H
theorem call_isR0 {a : Addr} {oe : Obj} {cls : Value} {d : Option Addr} {pn : List (Addr × Obj)} (T : ErrR0 X.K X.mg x C) (hz : Zc cls d oe) (hf : ∃ vs, oe.data = .fields vs) : CallR (X.suite a ((a, oe) :: pn)) (.builtin "isinstance") (rIsR0 X.K C a cls d) := by
  intro pins s σ H xs us Q I r h
  obtain ⟨c1, c2, b, rfl, hc, _, ec, ed, e, q⟩ := h
  subst ec ed
  obtain ⟨u1, u2, rfl, r1, r2⟩ := vals2 r
  obtain rfl : u1 = Value.ref a := r1
  obtain rfl : u2 = c2 := hc _ r2
  obtain ⟨hget, _⟩ := I.pin (a, oe) (List.mem_append.mpr (.inl List.mem_cons_self))
  obtain ⟨vs, hv⟩ := hf
  have J : PySem.W.InstAt s.heap a oe C none := ⟨hget, hz.1, by unfold PySem.W.notCls; rw [hv] <;> rfl, by rw [hz.2]; trivial⟩
  exact PySem.W.kia_one (PySem.W.kitx_exc T.E.k.isC T.E.k.ga T.E.k.gg T.E.k.exC T.E.k.ha T.E.k.hn T.E.k.ht T.E.k.hm) I.kIn J e (fun z => nomatch z) fun tk => ⟨.bl b, H, I.tok tk, rfl, q⟩
end
end My
set_option Elab.async false
set_option linter.all false
set_option maxRecDepth 100000
set_option maxHeartbeats 4000000
set_option exponentiation.threshold 5000
namespace My
open PySem PySem.Spec PyProof.Rows L2 Evl
local macro_rules | `(tactic| walk_at "st") => `(tactic| simp only [L2.start, List.map_cons, List.map_nil, List.length_cons, List.length_nil, Nat.reduceAdd, Nat.reduceSub, List.replicate_succ, List.replicate_zero, List.cons_append, List.nil_append, cxOf, List.append_nil])
local macro_rules | `(tactic| walk_at "vc") => `(tactic| try simp only [tSeq, tAsg, tOp, tUn, tVar, tC, tNil, tCons, gName, rI, rI0, rU, tRet, tIfS, tNot, tAnd, tOr, tB, tTest, tCB, tCall, tAndV, tOrV, tNotV, tNext, tNever, tIf, tChain, tYes, tPart, tNoPart, tPar, tDrop, q_isi, q_vn, q_vb, q_vi, q_vs, kb1, kb2, kb3, kb4, kb5, kb6, kb7, kb8, q_int1, q_int2, q_min, q_max, q_repr, tLst, tTup, rEq, rNe, q_sii, q_sss, q_sbb, q_snn, q_sns, q_ssn, q_ix, q_sl, tSl, tBM, tBM0, q_app, q_pop, gSub, rSetL, L2.wipe, eq_self, decide_true, decide_false, tRevL,
  List.getElem?_cons_succ, List.getElem?_cons_zero, List.set_cons_succ, List.set_cons_zero, Option.some.injEq, exists_eq_left', exists_eq_left, V.int.injEq, V.bl.injEq, V.ref.injEq, V.str.injEq, List.cons.injEq, and_true, true_and, List.append_nil, List.nil_append, List.cons_append, exists_and_left, and_assoc, if_true, if_false, Bool.not_true, Bool.not_false, Bool.false_eq_true, Bool.true_eq_false, reduceIte, tRevL, tPar3, tRevT, tUnl, tCKw, forall_const, Bool.not_eq_true', decide_eq_true_eq, decide_eq_false_iff_not])
abbrev tlV : List Value := [.type "ValueError", .type "Exception", .type "BaseException", .type "object"]
abbrev tlI : List Value := [.type "IndexError", .type "LookupError", .type "Exception", .type "BaseException", .type "object"]
def D_is_integer : He.DefD := ⟨("is_integer", none), "is_integer", "is_integer", defArgs s_is_integer, defBody s_is_integer, defScope s_is_integer, [], []⟩
def D_is_number : He.DefD := ⟨("is_number", none), "is_number", "is_number", defArgs s_is_number, defBody s_is_number, defScope s_is_number, [], []⟩
def D_is_base : He.DefD := ⟨("is_base", none), "is_base", "is_base", defArgs s_is_base, defBody s_is_base, defScope s_is_base, [], []⟩
def D_is_name : He.DefD := ⟨("is_name", none), "is_name", "is_name", defArgs s_is_name, defBody s_is_name, defScope s_is_name, [], []⟩
def D_are_rows : He.DefD := ⟨("are_rows", none), "are_rows", "are_rows", defArgs s_are_rows, defBody s_are_rows, defScope s_are_rows, [], []⟩
def D_needed : He.DefD := ⟨("needed", none), "needed", "needed", defArgs s_needed, defBody s_needed, defScope s_needed, [], []⟩
def D_fits : He.DefD := ⟨("_fits", none), "_fits", "_fits", defArgs s_fits, defBody s_fits, defScope s_fits, [], []⟩
def D_is_of : He.DefD := ⟨("_is_of", none), "_is_of", "_is_of", defArgs s_is_of, defBody s_is_of, defScope s_is_of, [], []⟩
def D_inner : He.DefD := ⟨("inner", none), "inner", "inner", defArgs s_inner, defBody s_inner, defScope s_inner, [], []⟩
def D_flat : He.DefD := ⟨("flat", none), "flat", "flat", defArgs s_flat, defBody s_flat, defScope s_flat, [], []⟩
def D_names_in : He.DefD := ⟨("names_in", none), "names_in", "names_in", defArgs s_names_in, defBody s_names_in, defScope s_names_in, [], []⟩
def D_bare : He.DefD := ⟨("bare", none), "bare", "bare", defArgs s_bare, defBody s_bare, defScope s_bare, [], []⟩
def D_named : He.DefD := ⟨("_named", none), "_named", "_named", defArgs s_named, defBody s_named, defScope s_named, [], []⟩
def D_number_of : He.DefD := ⟨("number_of", none), "number_of", "number_of", defArgs s_number_of, defBody s_number_of, defScope s_number_of, [], []⟩
def D_joined : He.DefD := ⟨("joined", none), "joined", "joined", defArgs s_joined, defBody s_joined, defScope s_joined, [], []⟩
def D_result : He.DefD := ⟨("result", none), "result", "result", defArgs s_result, defBody s_result, defScope s_result, [], []⟩
def D_holding : He.DefD := ⟨("holding", none), "holding", "holding", defArgs s_holding, defBody s_holding, defScope s_holding, [], []⟩
def D_written : He.DefD := ⟨("_written", none), "_written", "_written", defArgs s_written, defBody s_written, defScope s_written, [], []⟩
def D_part : He.DefD := ⟨("_part", none), "_part", "_part", defArgs s_part, defBody s_part, defScope s_part, [], []⟩
def D_of_one : He.DefD := ⟨("_of_one", none), "_of_one", "_of_one", defArgs s_of_one, defBody s_of_one, defScope s_of_one, [], []⟩
def D_of_two : He.DefD := ⟨("_of_two", none), "_of_two", "_of_two", defArgs s_of_two, defBody s_of_two, defScope s_of_two, [], []⟩
def D_power : He.DefD := ⟨("_power", none), "_power", "_power", defArgs s_power, defBody s_power, defScope s_power, [], []⟩
def D_run : He.DefD := ⟨("run", none), "run", "run", defArgs s_run, defBody s_run, defScope s_run, [], []⟩
def D_came_to : He.DefD := ⟨("came_to", none), "came_to", "came_to", defArgs s_came_to, defBody s_came_to, defScope s_came_to, [], []⟩
def D_holds : He.DefD := ⟨("holds", none), "holds", "holds", defArgs s_holds, defBody s_holds, defScope s_holds, [], []⟩
def D_law_deal : He.DefD := ⟨("_law_deal", none), "_law_deal", "_law_deal", defArgs s_law_deal, defBody s_law_deal, defScope s_law_deal, [], []⟩
def D_law_draw : He.DefD := ⟨("_law_draw", none), "_law_draw", "_law_draw", defArgs s_law_draw, defBody s_law_draw, defScope s_law_draw, [], []⟩
def D_law_pick : He.DefD := ⟨("_law_pick", none), "_law_pick", "_law_pick", defArgs s_law_pick, defBody s_law_pick, defScope s_law_pick, [], []⟩
def D_law_words : He.DefD := ⟨("_law_words", none), "_law_words", "_law_words", defArgs s_law_words, defBody s_law_words, defScope s_law_words, [], []⟩
def D_law_ask_of : He.DefD := ⟨("_law_ask_of", none), "_law_ask_of", "_law_ask_of", defArgs s_law_ask_of, defBody s_law_ask_of, defScope s_law_ask_of, [], []⟩
def D_law_row_of : He.DefD := ⟨("_law_row_of", none), "_law_row_of", "_law_row_of", defArgs s_law_row_of, defBody s_law_row_of, defScope s_law_row_of, [], []⟩
def D_law_told : He.DefD := ⟨("_law_told", none), "_law_told", "_law_told", defArgs s_law_told, defBody s_law_told, defScope s_law_told, [], []⟩
def D_law : He.DefD := ⟨("law", none), "law", "law", defArgs s_law, defBody s_law, defScope s_law, [], []⟩
def D_Stopped_init : He.DefD := ⟨("Stopped", some "__init__"), "__init__", "Stopped.__init__", defArgs s_Stopped_init, defBody s_Stopped_init, defScope s_Stopped_init, [], []⟩
def D_Put_init : He.DefD := ⟨("Put", some "__init__"), "__init__", "Put.__init__", defArgs s_Put_init, defBody s_Put_init, defScope s_Put_init, [], []⟩
def D_If_init : He.DefD := ⟨("If", some "__init__"), "__init__", "If.__init__", defArgs s_If_init, defBody s_If_init, defScope s_If_init, [.adr (He.dflAt ("If", some "__init__") 0)], []⟩
def D_Times_init : He.DefD := ⟨("Times", some "__init__"), "__init__", "Times.__init__", defArgs s_Times_init, defBody s_Times_init, defScope s_Times_init, [], []⟩
def D_Ask_init : He.DefD := ⟨("Ask", some "__init__"), "__init__", "Ask.__init__", defArgs s_Ask_init, defBody s_Ask_init, defScope s_Ask_init, [], []⟩
def D_Not_init : He.DefD := ⟨("Not", some "__init__"), "__init__", "Not.__init__", defArgs s_Not_init, defBody s_Not_init, defScope s_Not_init, [], []⟩
def D_Program_init : He.DefD := ⟨("Program", some "__init__"), "__init__", "Program.__init__", defArgs s_Program_init, defBody s_Program_init, defScope s_Program_init, [.adr (He.dflAt ("Program", some "__init__") 0)], []⟩
def D_Program_call : He.DefD := ⟨("Program", some "__call__"), "__call__", "Program.__call__", defArgs s_Program_call, defBody s_Program_call, defScope s_Program_call, [], []⟩
def D_Walk_init : He.DefD := ⟨("Walk", some "__init__"), "__init__", "Walk.__init__", defArgs s_Walk_init, defBody s_Walk_init, defScope s_Walk_init, [], []⟩
def D_Walk_go : He.DefD := ⟨("Walk", some "go"), "go", "Walk.go", defArgs s_Walk_go, defBody s_Walk_go, defScope s_Walk_go, [], []⟩
def D_Walk_do : He.DefD := ⟨("Walk", some "do"), "do", "Walk.do", defArgs s_Walk_do, defBody s_Walk_do, defScope s_Walk_do, [], []⟩
def D_Walk_put : He.DefD := ⟨("Walk", some "put"), "put", "Walk.put", defArgs s_Walk_put, defBody s_Walk_put, defScope s_Walk_put, [], []⟩
def D_Walk_decide : He.DefD := ⟨("Walk", some "decide"), "decide", "Walk.decide", defArgs s_Walk_decide, defBody s_Walk_decide, defScope s_Walk_decide, [], []⟩
def D_Walk_choose : He.DefD := ⟨("Walk", some "choose"), "choose", "Walk.choose", defArgs s_Walk_choose, defBody s_Walk_choose, defScope s_Walk_choose, [], []⟩
def fnL : List He.DefD := [D_is_integer, D_is_number, D_is_base, D_is_name, D_are_rows, D_needed, D_fits, D_is_of, D_inner, D_flat, D_names_in, D_bare, D_named, D_number_of, D_joined, D_result, D_holding, D_written, D_part, D_of_one, D_of_two, D_power, D_run, D_came_to, D_holds, D_law_deal, D_law_draw, D_law_pick, D_law_words, D_law_ask_of, D_law_row_of, D_law_told, D_law, D_Stopped_init, D_Put_init, D_If_init, D_Times_init, D_Ask_init, D_Not_init, D_Program_init, D_Program_call, D_Walk_init, D_Walk_go, D_Walk_do, D_Walk_put, D_Walk_decide, D_Walk_choose]
def tsL : List He.Tab := [(fun K => He.ga K "DEEDS", ["figures", "number", "base", "let", "+", "-", "*", "//", "rest", "**", "turned", "least", "greatest", "sum", "many", "root", "figure", "first", "last", "joined", "common", "lesser"]), (fun K => He.ga K "WORDS", ["same", "less", "divides", "mirrored", "unlike"])]
def fs0 (K : PySem.W.Frag) : List Bool := [decide (PySem.W.nsIn K mainGlobals "is_integer" = some (some (.ref (He.ga K "is_integer")))),
  decide (PySem.W.nsIn K mainGlobals "is_number" = some (some (.ref (He.ga K "is_number")))),
  decide (PySem.W.nsIn K mainGlobals "is_base" = some (some (.ref (He.ga K "is_base")))),
  decide (PySem.W.nsIn K mainGlobals "is_name" = some (some (.ref (He.ga K "is_name")))),
  decide (PySem.W.nsIn K mainGlobals "are_rows" = some (some (.ref (He.ga K "are_rows")))),
  decide (PySem.W.nsIn K mainGlobals "needed" = some (some (.ref (He.ga K "needed")))),
  decide (PySem.W.nsIn K mainGlobals "_fits" = some (some (.ref (He.ga K "_fits")))),
  decide (PySem.W.nsIn K mainGlobals "_is_of" = some (some (.ref (He.ga K "_is_of")))),
  decide (PySem.W.nsIn K mainGlobals "inner" = some (some (.ref (He.ga K "inner")))),
  decide (PySem.W.nsIn K mainGlobals "flat" = some (some (.ref (He.ga K "flat")))),
  decide (PySem.W.nsIn K mainGlobals "names_in" = some (some (.ref (He.ga K "names_in")))),
  decide (PySem.W.nsIn K mainGlobals "bare" = some (some (.ref (He.ga K "bare")))),
  decide (PySem.W.nsIn K mainGlobals "_named" = some (some (.ref (He.ga K "_named")))),
  decide (PySem.W.nsIn K mainGlobals "number_of" = some (some (.ref (He.ga K "number_of")))),
  decide (PySem.W.nsIn K mainGlobals "joined" = some (some (.ref (He.ga K "joined")))),
  decide (PySem.W.nsIn K mainGlobals "result" = some (some (.ref (He.ga K "result")))),
  decide (PySem.W.nsIn K mainGlobals "holding" = some (some (.ref (He.ga K "holding")))),
  decide (PySem.W.nsIn K mainGlobals "_written" = some (some (.ref (He.ga K "_written")))),
  decide (PySem.W.nsIn K mainGlobals "_part" = some (some (.ref (He.ga K "_part")))),
  decide (PySem.W.nsIn K mainGlobals "_of_one" = some (some (.ref (He.ga K "_of_one")))),
  decide (PySem.W.nsIn K mainGlobals "_of_two" = some (some (.ref (He.ga K "_of_two")))),
  decide (PySem.W.nsIn K mainGlobals "_power" = some (some (.ref (He.ga K "_power")))),
  decide (PySem.W.nsIn K mainGlobals "run" = some (some (.ref (He.ga K "run")))),
  decide (PySem.W.nsIn K mainGlobals "came_to" = some (some (.ref (He.ga K "came_to"))))]
def fs1 (K : PySem.W.Frag) : List Bool := [decide (PySem.W.nsIn K mainGlobals "holds" = some (some (.ref (He.ga K "holds")))),
  decide (PySem.W.nsIn K mainGlobals "_law_deal" = some (some (.ref (He.ga K "_law_deal")))),
  decide (PySem.W.nsIn K mainGlobals "_law_draw" = some (some (.ref (He.ga K "_law_draw")))),
  decide (PySem.W.nsIn K mainGlobals "_law_pick" = some (some (.ref (He.ga K "_law_pick")))),
  decide (PySem.W.nsIn K mainGlobals "_law_words" = some (some (.ref (He.ga K "_law_words")))),
  decide (PySem.W.nsIn K mainGlobals "_law_ask_of" = some (some (.ref (He.ga K "_law_ask_of")))),
  decide (PySem.W.nsIn K mainGlobals "_law_row_of" = some (some (.ref (He.ga K "_law_row_of")))),
  decide (PySem.W.nsIn K mainGlobals "_law_told" = some (some (.ref (He.ga K "_law_told")))),
  decide (PySem.W.nsIn K mainGlobals "law" = some (some (.ref (He.ga K "law")))),
  decide (PySem.W.nsIn K mainGlobals "gcd" = some (some (.builtin "math.gcd")))]
def fs2 (K : PySem.W.Frag) : List Bool := [decide (PySem.W.nsIn K mainGlobals "abs" = some none),
  decide (PySem.W.nsIn K mainGlobals "all" = some none),
  decide (PySem.W.nsIn K mainGlobals "bool" = some none),
  decide (PySem.W.nsIn K mainGlobals "int" = some none),
  decide (PySem.W.nsIn K mainGlobals "isinstance" = some none),
  decide (PySem.W.nsIn K mainGlobals "len" = some none),
  decide (PySem.W.nsIn K mainGlobals "list" = some none),
  decide (PySem.W.nsIn K mainGlobals "max" = some none),
  decide (PySem.W.nsIn K mainGlobals "range" = some none),
  decide (PySem.W.nsIn K mainGlobals "sorted" = some none),
  decide (PySem.W.nsIn K mainGlobals "str" = some none),
  decide (PySem.W.nsIn K mainGlobals "tuple" = some none),
  decide (PySem.W.nsIn K mainGlobals "zip" = some none)]
def fs3 (K : PySem.W.Frag) : List Bool := [decide (PySem.W.nsIn K mainGlobals "InvalidBase" = some (some (.ref (He.ga K "InvalidBase")))),
  excB K (He.ga K "InvalidBase") "ValueError.__new__" (refsTo tlV),
  decide (PySem.W.findIn K (.ref (He.ga K "InvalidBase")) "__setattr__" = some (some (.builtin "object.__setattr__"))),
  decide (PySem.W.findIn K (.ref (He.ga K "InvalidBase")) "__getattribute__" = some (some (.builtin "BaseException.__getattribute__"))),
  decide (PySem.W.findIn K (.ref (He.ga K "InvalidBase")) "__getattr__" = some none),
  PySem.W.keepIn K (.ref (He.ga K "InvalidBase")),
  decide (PySem.W.subIn K (.ref (He.ga K "InvalidBase")) (.type "BaseException") = some true),
  PySem.W.hasDictIn K (He.ga K "InvalidBase"),
  (PySem.W.clsIn K (He.ga K "InvalidBase")).isSome,
  decide (PySem.W.findIn K (.ref (He.ga K "InvalidBase")) "__class__" = some (some (.builtin "object.__class__"))),
  decide (PySem.W.mroIn K (He.ga K "InvalidBase") (.type "object") = some true),
  decide (PySem.W.typeIn K (.ref (He.ga K "InvalidBase")) = some (.type "type")),
  decide (PySem.W.exmOne K (.ref (He.ga K "InvalidBase")) (.ref (He.ga K "InvalidBase")) = some true),
  decide (PySem.W.exmOne K (.ref (He.ga K "InvalidBase")) (.ref (He.ga K "Stopped")) = some false),
  decide (PySem.W.kitOne K (.ref (He.ga K "InvalidBase")) (.ref (He.ga K "FigureError")) = some true),
  decide (PySem.W.kitOne K (.ref (He.ga K "InvalidBase")) (.ref (He.ga K "InvalidNumber")) = some false),
  decide (PySem.W.kitOne K (.ref (He.ga K "InvalidBase")) (.ref (He.ga K "Stopped")) = some false),
  PySem.W.excIn K (He.ga K "InvalidBase") tlV "ValueError.__new__"]
def fs4 (K : PySem.W.Frag) : List Bool := [decide (PySem.W.nsIn K mainGlobals "Stopped" = some (some (.ref (He.ga K "Stopped")))),
  excB K (He.ga K "Stopped") "ValueError.__new__" (refsTo tlV),
  decide (PySem.W.findIn K (.ref (He.ga K "Stopped")) "__setattr__" = some (some (.builtin "object.__setattr__"))),
  decide (PySem.W.findIn K (.ref (He.ga K "Stopped")) "__getattribute__" = some (some (.builtin "BaseException.__getattribute__"))),
  decide (PySem.W.findIn K (.ref (He.ga K "Stopped")) "__getattr__" = some none),
  PySem.W.keepIn K (.ref (He.ga K "Stopped")),
  decide (PySem.W.subIn K (.ref (He.ga K "Stopped")) (.type "BaseException") = some true),
  PySem.W.hasDictIn K (He.ga K "Stopped"),
  (PySem.W.clsIn K (He.ga K "Stopped")).isSome,
  decide (PySem.W.findIn K (.ref (He.ga K "Stopped")) "__class__" = some (some (.builtin "object.__class__"))),
  decide (PySem.W.mroIn K (He.ga K "Stopped") (.type "object") = some true),
  decide (PySem.W.typeIn K (.ref (He.ga K "Stopped")) = some (.type "type")),
  decide (PySem.W.exmOne K (.ref (He.ga K "Stopped")) (.ref (He.ga K "Stopped")) = some true),
  decide (PySem.W.exmOne K (.ref (He.ga K "Stopped")) (.ref (He.ga K "InvalidBase")) = some false),
  decide (PySem.W.findIn K (.ref (He.ga K "Stopped")) "at" = some none),
  decide (PySem.W.findIn K (.ref (He.ga K "Stopped")) "__init__" = some (some (.ref (He.ma K (He.ga K "Stopped") "__init__")))),
  decide (PySem.W.typeIn K (.ref (He.ma K (He.ga K "Stopped") "__init__")) = some (.type "function"))]
def fs5 (K : PySem.W.Frag) : List Bool := [decide (PySem.W.nsIn K mainGlobals "FigureError" = some (some (.ref (He.ga K "FigureError")))),
  decide (PySem.W.nsIn K mainGlobals "InvalidNumber" = some (some (.ref (He.ga K "InvalidNumber")))),
  decide (PySem.W.specialIn K (.builtin "object.__class__") "__get__" = some (some (.builtin "getset_descriptor.__get__"))),
  decide (PySem.W.takesIn K (.builtin "object.__class__") = some true)]
def fs6 (K : PySem.W.Frag) : List Bool := [decide (PySem.W.nsIn K mainGlobals "Put" = some (some (.ref (He.ga K "Put")))),
  PySem.W.plainGet K (He.ga K "Put") Str.empty,
  PySem.W.hasDictIn K (He.ga K "Put"),
  PySem.W.plainOver K (He.ga K "Put"),
  decide (PySem.W.findIn K (.ref (He.ga K "Put")) "__setattr__" = some (some (.builtin "object.__setattr__"))),
  decide (PySem.W.findIn K (.ref (He.ga K "Put")) "__class__" = some (some (.builtin "object.__class__"))),
  decide (PySem.W.mroIn K (He.ga K "Put") (.type "object") = some true),
  decide (PySem.W.findIn K (.ref (He.ga K "Put")) "__format__" = some (some (.builtin "object.__format__"))),
  decide (PySem.W.findIn K (.ref (He.ga K "Put")) "name" = some none),
  decide (PySem.W.findIn K (.ref (He.ga K "Put")) "deed" = some none),
  decide (PySem.W.findIn K (.ref (He.ga K "Put")) "given" = some none),
  decide (PySem.W.findIn K (.ref (He.ga K "Put")) "__init__" = some (some (.ref (He.ma K (He.ga K "Put") "__init__")))),
  PySem.W.isFn K (.ref (He.ma K (He.ga K "Put") "__init__")),
  PySem.W.makesIn K (He.ga K "Put"),
  PySem.W.keepIn K (.ref (He.ga K "Put"))]
def fs7 (K : PySem.W.Frag) : List Bool := [decide (PySem.W.nsIn K mainGlobals "If" = some (some (.ref (He.ga K "If")))),
  PySem.W.plainGet K (He.ga K "If") Str.empty,
  PySem.W.hasDictIn K (He.ga K "If"),
  PySem.W.plainOver K (He.ga K "If"),
  decide (PySem.W.findIn K (.ref (He.ga K "If")) "__setattr__" = some (some (.builtin "object.__setattr__"))),
  decide (PySem.W.findIn K (.ref (He.ga K "If")) "__class__" = some (some (.builtin "object.__class__"))),
  decide (PySem.W.mroIn K (He.ga K "If") (.type "object") = some true),
  decide (PySem.W.findIn K (.ref (He.ga K "If")) "__format__" = some (some (.builtin "object.__format__"))),
  decide (PySem.W.findIn K (.ref (He.ga K "If")) "test" = some none),
  decide (PySem.W.findIn K (.ref (He.ga K "If")) "rows" = some none),
  decide (PySem.W.findIn K (.ref (He.ga K "If")) "others" = some none),
  decide (PySem.W.findIn K (.ref (He.ga K "If")) "__init__" = some (some (.ref (He.ma K (He.ga K "If") "__init__")))),
  PySem.W.isFn K (.ref (He.ma K (He.ga K "If") "__init__")),
  PySem.W.makesIn K (He.ga K "If"),
  PySem.W.keepIn K (.ref (He.ga K "If"))]
def fs8 (K : PySem.W.Frag) : List Bool := [decide (PySem.W.nsIn K mainGlobals "Times" = some (some (.ref (He.ga K "Times")))),
  PySem.W.plainGet K (He.ga K "Times") Str.empty,
  PySem.W.hasDictIn K (He.ga K "Times"),
  PySem.W.plainOver K (He.ga K "Times"),
  decide (PySem.W.findIn K (.ref (He.ga K "Times")) "__setattr__" = some (some (.builtin "object.__setattr__"))),
  decide (PySem.W.findIn K (.ref (He.ga K "Times")) "__class__" = some (some (.builtin "object.__class__"))),
  decide (PySem.W.mroIn K (He.ga K "Times") (.type "object") = some true),
  decide (PySem.W.findIn K (.ref (He.ga K "Times")) "__format__" = some (some (.builtin "object.__format__"))),
  decide (PySem.W.findIn K (.ref (He.ga K "Times")) "count" = some none),
  decide (PySem.W.findIn K (.ref (He.ga K "Times")) "rows" = some none),
  decide (PySem.W.findIn K (.ref (He.ga K "Times")) "__init__" = some (some (.ref (He.ma K (He.ga K "Times") "__init__")))),
  PySem.W.isFn K (.ref (He.ma K (He.ga K "Times") "__init__")),
  PySem.W.makesIn K (He.ga K "Times"),
  PySem.W.keepIn K (.ref (He.ga K "Times"))]
def fs9 (K : PySem.W.Frag) : List Bool := [decide (PySem.W.nsIn K mainGlobals "Stop" = some (some (.ref (He.ga K "Stop")))),
  PySem.W.plainGet K (He.ga K "Stop") Str.empty,
  PySem.W.hasDictIn K (He.ga K "Stop"),
  PySem.W.plainOver K (He.ga K "Stop"),
  decide (PySem.W.findIn K (.ref (He.ga K "Stop")) "__setattr__" = some (some (.builtin "object.__setattr__"))),
  decide (PySem.W.findIn K (.ref (He.ga K "Stop")) "__class__" = some (some (.builtin "object.__class__"))),
  decide (PySem.W.mroIn K (He.ga K "Stop") (.type "object") = some true),
  decide (PySem.W.findIn K (.ref (He.ga K "Stop")) "__format__" = some (some (.builtin "object.__format__"))),
  PySem.W.makesIn K (He.ga K "Stop"),
  PySem.W.keepIn K (.ref (He.ga K "Stop")),
  decide (PySem.W.findIn K (.ref (He.ga K "Stop")) "__init__" = some (some (.builtin "object.__init__")))]
def fs10 (K : PySem.W.Frag) : List Bool := [decide (PySem.W.nsIn K mainGlobals "Ask" = some (some (.ref (He.ga K "Ask")))),
  PySem.W.plainGet K (He.ga K "Ask") Str.empty,
  PySem.W.hasDictIn K (He.ga K "Ask"),
  PySem.W.plainOver K (He.ga K "Ask"),
  decide (PySem.W.findIn K (.ref (He.ga K "Ask")) "__setattr__" = some (some (.builtin "object.__setattr__"))),
  decide (PySem.W.findIn K (.ref (He.ga K "Ask")) "__class__" = some (some (.builtin "object.__class__"))),
  decide (PySem.W.mroIn K (He.ga K "Ask") (.type "object") = some true),
  decide (PySem.W.findIn K (.ref (He.ga K "Ask")) "__format__" = some (some (.builtin "object.__format__"))),
  decide (PySem.W.findIn K (.ref (He.ga K "Ask")) "word" = some none),
  decide (PySem.W.findIn K (.ref (He.ga K "Ask")) "names" = some none),
  decide (PySem.W.findIn K (.ref (He.ga K "Ask")) "__init__" = some (some (.ref (He.ma K (He.ga K "Ask") "__init__")))),
  PySem.W.isFn K (.ref (He.ma K (He.ga K "Ask") "__init__")),
  PySem.W.makesIn K (He.ga K "Ask"),
  PySem.W.keepIn K (.ref (He.ga K "Ask"))]
def fs11 (K : PySem.W.Frag) : List Bool := [decide (PySem.W.nsIn K mainGlobals "Not" = some (some (.ref (He.ga K "Not")))),
  PySem.W.plainGet K (He.ga K "Not") Str.empty,
  PySem.W.hasDictIn K (He.ga K "Not"),
  PySem.W.plainOver K (He.ga K "Not"),
  decide (PySem.W.findIn K (.ref (He.ga K "Not")) "__setattr__" = some (some (.builtin "object.__setattr__"))),
  decide (PySem.W.findIn K (.ref (He.ga K "Not")) "__class__" = some (some (.builtin "object.__class__"))),
  decide (PySem.W.mroIn K (He.ga K "Not") (.type "object") = some true),
  decide (PySem.W.findIn K (.ref (He.ga K "Not")) "__format__" = some (some (.builtin "object.__format__"))),
  decide (PySem.W.findIn K (.ref (He.ga K "Not")) "test" = some none),
  decide (PySem.W.findIn K (.ref (He.ga K "Not")) "__init__" = some (some (.ref (He.ma K (He.ga K "Not") "__init__")))),
  PySem.W.isFn K (.ref (He.ma K (He.ga K "Not") "__init__")),
  PySem.W.makesIn K (He.ga K "Not"),
  PySem.W.keepIn K (.ref (He.ga K "Not"))]
def fs12 (K : PySem.W.Frag) : List Bool := [decide (PySem.W.nsIn K mainGlobals "Row" = some (some (.ref (He.ga K "Row")))),
  PySem.W.plainGet K (He.ga K "Row") Str.empty,
  PySem.W.hasDictIn K (He.ga K "Row"),
  PySem.W.plainOver K (He.ga K "Row"),
  decide (PySem.W.findIn K (.ref (He.ga K "Row")) "__setattr__" = some (some (.builtin "object.__setattr__"))),
  decide (PySem.W.findIn K (.ref (He.ga K "Row")) "__class__" = some (some (.builtin "object.__class__"))),
  decide (PySem.W.mroIn K (He.ga K "Row") (.type "object") = some true),
  decide (PySem.W.findIn K (.ref (He.ga K "Row")) "__format__" = some (some (.builtin "object.__format__")))]
def fs13 (K : PySem.W.Frag) : List Bool := [decide (PySem.W.nsIn K mainGlobals "Test" = some (some (.ref (He.ga K "Test")))),
  PySem.W.plainGet K (He.ga K "Test") Str.empty,
  PySem.W.hasDictIn K (He.ga K "Test"),
  PySem.W.plainOver K (He.ga K "Test"),
  decide (PySem.W.findIn K (.ref (He.ga K "Test")) "__setattr__" = some (some (.builtin "object.__setattr__"))),
  decide (PySem.W.findIn K (.ref (He.ga K "Test")) "__class__" = some (some (.builtin "object.__class__"))),
  decide (PySem.W.mroIn K (He.ga K "Test") (.type "object") = some true),
  decide (PySem.W.findIn K (.ref (He.ga K "Test")) "__format__" = some (some (.builtin "object.__format__")))]
def fs14 (K : PySem.W.Frag) : List Bool := [decide (PySem.W.nsIn K mainGlobals "Program" = some (some (.ref (He.ga K "Program")))),
  PySem.W.plainGet K (He.ga K "Program") Str.empty,
  PySem.W.hasDictIn K (He.ga K "Program"),
  PySem.W.plainOver K (He.ga K "Program"),
  decide (PySem.W.findIn K (.ref (He.ga K "Program")) "__setattr__" = some (some (.builtin "object.__setattr__"))),
  decide (PySem.W.findIn K (.ref (He.ga K "Program")) "__class__" = some (some (.builtin "object.__class__"))),
  decide (PySem.W.mroIn K (He.ga K "Program") (.type "object") = some true),
  decide (PySem.W.findIn K (.ref (He.ga K "Program")) "__format__" = some (some (.builtin "object.__format__"))),
  decide (PySem.W.kitOne K (.ref (He.ga K "Program")) (.ref (He.ga K "Program")) = some true),
  decide (PySem.W.kitOne K (.ref (He.ga K "Program")) (.ref (He.ga K "Row")) = some false),
  decide (PySem.W.kitOne K (.ref (He.ga K "Program")) (.type "int") = some false),
  decide (PySem.W.findIn K (.ref (He.ga K "Program")) "rows" = some none),
  decide (PySem.W.findIn K (.ref (He.ga K "Program")) "names" = some none),
  decide (PySem.W.findIn K (.ref (He.ga K "Program")) "__init__" = some (some (.ref (He.ma K (He.ga K "Program") "__init__")))),
  PySem.W.isFn K (.ref (He.ma K (He.ga K "Program") "__init__")),
  decide (PySem.W.findIn K (.ref (He.ga K "Program")) "__call__" = some (some (.ref (He.ma K (He.ga K "Program") "__call__")))),
  PySem.W.isFn K (.ref (He.ma K (He.ga K "Program") "__call__")),
  PySem.W.makesIn K (He.ga K "Program"),
  PySem.W.keepIn K (.ref (He.ga K "Program"))]
def fs15 (K : PySem.W.Frag) : List Bool := [decide (PySem.W.nsIn K mainGlobals "Walk" = some (some (.ref (He.ga K "Walk")))),
  PySem.W.plainGet K (He.ga K "Walk") Str.empty,
  PySem.W.hasDictIn K (He.ga K "Walk"),
  PySem.W.plainOver K (He.ga K "Walk"),
  decide (PySem.W.findIn K (.ref (He.ga K "Walk")) "__setattr__" = some (some (.builtin "object.__setattr__"))),
  decide (PySem.W.findIn K (.ref (He.ga K "Walk")) "__class__" = some (some (.builtin "object.__class__"))),
  decide (PySem.W.mroIn K (He.ga K "Walk") (.type "object") = some true),
  decide (PySem.W.findIn K (.ref (He.ga K "Walk")) "__format__" = some (some (.builtin "object.__format__"))),
  decide (PySem.W.findIn K (.ref (He.ga K "Walk")) "among" = some none),
  decide (PySem.W.findIn K (.ref (He.ga K "Walk")) "held" = some none),
  decide (PySem.W.findIn K (.ref (He.ga K "Walk")) "came" = some none),
  decide (PySem.W.findIn K (.ref (He.ga K "Walk")) "__init__" = some (some (.ref (He.ma K (He.ga K "Walk") "__init__")))),
  PySem.W.isFn K (.ref (He.ma K (He.ga K "Walk") "__init__")),
  decide (PySem.W.findIn K (.ref (He.ga K "Walk")) "go" = some (some (.ref (He.ma K (He.ga K "Walk") "go")))),
  PySem.W.isFn K (.ref (He.ma K (He.ga K "Walk") "go")),
  PySem.W.keepIn K (.ref (He.ma K (He.ga K "Walk") "go")),
  decide (PySem.W.findIn K (.ref (He.ga K "Walk")) "do" = some (some (.ref (He.ma K (He.ga K "Walk") "do")))),
  PySem.W.isFn K (.ref (He.ma K (He.ga K "Walk") "do")),
  PySem.W.keepIn K (.ref (He.ma K (He.ga K "Walk") "do")),
  decide (PySem.W.findIn K (.ref (He.ga K "Walk")) "put" = some (some (.ref (He.ma K (He.ga K "Walk") "put")))),
  PySem.W.isFn K (.ref (He.ma K (He.ga K "Walk") "put")),
  PySem.W.keepIn K (.ref (He.ma K (He.ga K "Walk") "put")),
  decide (PySem.W.findIn K (.ref (He.ga K "Walk")) "decide" = some (some (.ref (He.ma K (He.ga K "Walk") "decide")))),
  PySem.W.isFn K (.ref (He.ma K (He.ga K "Walk") "decide"))]
def fs16 (K : PySem.W.Frag) : List Bool := [PySem.W.keepIn K (.ref (He.ma K (He.ga K "Walk") "decide")),
  decide (PySem.W.findIn K (.ref (He.ga K "Walk")) "choose" = some (some (.ref (He.ma K (He.ga K "Walk") "choose")))),
  PySem.W.isFn K (.ref (He.ma K (He.ga K "Walk") "choose")),
  PySem.W.keepIn K (.ref (He.ma K (He.ga K "Walk") "choose")),
  PySem.W.makesIn K (He.ga K "Walk"),
  PySem.W.keepIn K (.ref (He.ga K "Walk"))]
def fs17 (K : PySem.W.Frag) : List Bool := [valAt K mainGlobals "LETTERS" (.str "abcdefghijklmnopqrstuvwxyz"),
  valAt K mainGlobals "LONGEST_NAME" (.int 4),
  valAt K mainGlobals "DEEDS" (.ref (He.ga K "DEEDS")),
  valAt K mainGlobals "SIGNS" (.ref (He.ga K "SIGNS")),
  valAt K mainGlobals "WORDS" (.ref (He.ga K "WORDS")),
  tupAt K (He.ga K "SIGNS") [.str "+", .str "-", .str "*", .str "//", .str "**"]]
def fs18 (K : PySem.W.Frag) : List Bool := [decide (PySem.W.nsIn K (He.ga K "DEEDS") "figures" = some (some (.ref (daAt K (He.ga K "DEEDS") "figures")))),
  tupAt K (daAt K (He.ga K "DEEDS") "figures") [.str "number"],
  decide (PySem.W.nsIn K (He.ga K "DEEDS") "number" = some (some (.ref (daAt K (He.ga K "DEEDS") "number")))),
  tupAt K (daAt K (He.ga K "DEEDS") "number") [.str "number"],
  decide (PySem.W.nsIn K (He.ga K "DEEDS") "base" = some (some (.ref (daAt K (He.ga K "DEEDS") "base")))),
  tupAt K (daAt K (He.ga K "DEEDS") "base") [],
  decide (PySem.W.nsIn K (He.ga K "DEEDS") "let" = some (some (.ref (daAt K (He.ga K "DEEDS") "let")))),
  tupAt K (daAt K (He.ga K "DEEDS") "let") [.str "name"],
  decide (PySem.W.nsIn K (He.ga K "DEEDS") "+" = some (some (.ref (daAt K (He.ga K "DEEDS") "+")))),
  tupAt K (daAt K (He.ga K "DEEDS") "+") [.str "name", .str "name"],
  decide (PySem.W.nsIn K (He.ga K "DEEDS") "-" = some (some (.ref (daAt K (He.ga K "DEEDS") "-")))),
  tupAt K (daAt K (He.ga K "DEEDS") "-") [.str "name", .str "name"],
  decide (PySem.W.nsIn K (He.ga K "DEEDS") "*" = some (some (.ref (daAt K (He.ga K "DEEDS") "*")))),
  tupAt K (daAt K (He.ga K "DEEDS") "*") [.str "name", .str "name"],
  decide (PySem.W.nsIn K (He.ga K "DEEDS") "//" = some (some (.ref (daAt K (He.ga K "DEEDS") "//")))),
  tupAt K (daAt K (He.ga K "DEEDS") "//") [.str "name", .str "name"],
  decide (PySem.W.nsIn K (He.ga K "DEEDS") "rest" = some (some (.ref (daAt K (He.ga K "DEEDS") "rest")))),
  tupAt K (daAt K (He.ga K "DEEDS") "rest") [.str "name", .str "name"],
  decide (PySem.W.nsIn K (He.ga K "DEEDS") "**" = some (some (.ref (daAt K (He.ga K "DEEDS") "**")))),
  tupAt K (daAt K (He.ga K "DEEDS") "**") [.str "name", .str "number"],
  decide (PySem.W.nsIn K (He.ga K "DEEDS") "turned" = some (some (.ref (daAt K (He.ga K "DEEDS") "turned")))),
  tupAt K (daAt K (He.ga K "DEEDS") "turned") [.str "name"],
  decide (PySem.W.nsIn K (He.ga K "DEEDS") "least" = some (some (.ref (daAt K (He.ga K "DEEDS") "least")))),
  tupAt K (daAt K (He.ga K "DEEDS") "least") [.str "name"]]
def fs19 (K : PySem.W.Frag) : List Bool := [decide (PySem.W.nsIn K (He.ga K "DEEDS") "greatest" = some (some (.ref (daAt K (He.ga K "DEEDS") "greatest")))),
  tupAt K (daAt K (He.ga K "DEEDS") "greatest") [.str "name"],
  decide (PySem.W.nsIn K (He.ga K "DEEDS") "sum" = some (some (.ref (daAt K (He.ga K "DEEDS") "sum")))),
  tupAt K (daAt K (He.ga K "DEEDS") "sum") [.str "name"],
  decide (PySem.W.nsIn K (He.ga K "DEEDS") "many" = some (some (.ref (daAt K (He.ga K "DEEDS") "many")))),
  tupAt K (daAt K (He.ga K "DEEDS") "many") [.str "name"],
  decide (PySem.W.nsIn K (He.ga K "DEEDS") "root" = some (some (.ref (daAt K (He.ga K "DEEDS") "root")))),
  tupAt K (daAt K (He.ga K "DEEDS") "root") [.str "name"],
  decide (PySem.W.nsIn K (He.ga K "DEEDS") "figure" = some (some (.ref (daAt K (He.ga K "DEEDS") "figure")))),
  tupAt K (daAt K (He.ga K "DEEDS") "figure") [.str "number", .str "name"],
  decide (PySem.W.nsIn K (He.ga K "DEEDS") "first" = some (some (.ref (daAt K (He.ga K "DEEDS") "first")))),
  tupAt K (daAt K (He.ga K "DEEDS") "first") [.str "number", .str "name"],
  decide (PySem.W.nsIn K (He.ga K "DEEDS") "last" = some (some (.ref (daAt K (He.ga K "DEEDS") "last")))),
  tupAt K (daAt K (He.ga K "DEEDS") "last") [.str "number", .str "name"],
  decide (PySem.W.nsIn K (He.ga K "DEEDS") "joined" = some (some (.ref (daAt K (He.ga K "DEEDS") "joined")))),
  tupAt K (daAt K (He.ga K "DEEDS") "joined") [.str "name", .str "name"],
  decide (PySem.W.nsIn K (He.ga K "DEEDS") "common" = some (some (.ref (daAt K (He.ga K "DEEDS") "common")))),
  tupAt K (daAt K (He.ga K "DEEDS") "common") [.str "name", .str "name"],
  decide (PySem.W.nsIn K (He.ga K "DEEDS") "lesser" = some (some (.ref (daAt K (He.ga K "DEEDS") "lesser")))),
  tupAt K (daAt K (He.ga K "DEEDS") "lesser") [.str "name", .str "name"]]
def fs20 (K : PySem.W.Frag) : List Bool := [intAt K (He.ga K "WORDS") "same" (2),
  intAt K (He.ga K "WORDS") "less" (2),
  intAt K (He.ga K "WORDS") "divides" (2),
  intAt K (He.ga K "WORDS") "mirrored" (1),
  intAt K (He.ga K "WORDS") "unlike" (1)]
def fs21 (K : PySem.W.Frag) : List Bool := [kitO K ⟨(He.ga K "Put"), (He.ga K "If"), (He.ga K "Times"), (He.ga K "Stop"), (He.ga K "Ask"), (He.ga K "Not")⟩ (He.ga K "Row") (He.ga K "Test"),
  tupAt K (He.dflAt ("If", some "__init__") 0 K) [],
  tupAt K (He.dflAt ("Program", some "__init__") 0 K) []]
def fsL (K : PySem.W.Frag) : List (List Bool) := [fs0 K, fs1 K, fs2 K, fs3 K, fs4 K, fs5 K, fs6 K, fs7 K, fs8 K, fs9 K, fs10 K, fs11 K, fs12 K, fs13 K, fs14 K, fs15 K, fs16 K, fs17 K, fs18 K, fs19 K, fs20 K, fs21 K]
abbrev RL : PySem.W.OpenRow := PySem.W.OpenLaw.row PySem.Challenge.rw_everybase_k20_bases_refused_and_stops
def as0 : List Addr := [3, 2, 883, 881, 59, 72, 84, 103, 122, 141, 160, 179, 244, 258, 291, 326, 359, 385, 416, 449, 746, 814, 950, 6, 209, 234, 0, 58, 71, 83, 102, 121]
def as1 : List Addr := [140, 159, 178, 243, 257, 290, 325, 358, 384, 415, 448, 745, 813, 949, 882, 884, 49, 189, 196, 203, 208, 456, 461, 468, 473, 480, 487, 494, 501, 506, 513, 520]
def as2 : List Addr := [525, 532, 539, 546, 551, 556, 563, 570, 577, 584, 591, 598, 605, 612, 619, 626, 633, 638, 643, 648, 655, 660, 665, 672, 679, 686, 691, 698, 757, 764, 771, 776]
def as3 : List Addr := [825, 832, 839, 844, 851, 858, 959, 966, 973, 978, 985, 990, 997, 1002, 47, 100, 119, 138, 157, 176, 187, 194, 201, 206, 276, 283, 288, 309, 316, 323, 342, 349]
def as4 : List Addr := [356, 375, 382, 399, 406, 413, 432, 439, 446, 454, 459, 466, 471, 478, 485, 492, 499, 504, 511, 518, 523, 530, 537, 544, 549, 554, 561, 568, 575, 582, 589, 596]
def as5 : List Addr := [603, 610, 617, 624, 631, 636, 641, 646, 653, 658, 663, 670, 677, 684, 689, 696, 710, 717, 724, 729, 736, 743, 755, 762, 769, 774, 790, 797, 804, 811, 823, 830]
def as6 : List Addr := [837, 842, 849, 856, 874, 891, 898, 905, 912, 919, 926, 933, 940, 947, 957, 964, 971, 976, 983, 988, 995, 1000, 98, 117, 136, 155, 174, 274, 281, 286, 307, 314]
def as7 : List Addr := [321, 340, 347, 354, 373, 380, 397, 404, 411, 430, 437, 444, 708, 715, 722, 727, 734, 741, 788, 795, 802, 809, 872, 889, 896, 903, 910, 917, 924, 931, 938, 945]
def as8 : List Addr := [879, 48, 188, 195, 202, 207, 455, 460, 467, 472, 479, 486, 493, 500, 505, 512, 519, 524, 531, 538, 545, 550, 555, 562, 569, 576, 583, 590, 597, 604, 611, 618]
def as9 : List Addr := [625, 632, 637, 642, 647, 654, 659, 664, 671, 678, 685, 690, 697, 756, 763, 770, 775, 824, 831, 838, 843, 850, 857, 958, 965, 972, 977, 984, 989, 996, 1001, 99]
def as10 : List Addr := [118, 137, 156, 175, 275, 282, 287, 308, 315, 322, 341, 348, 355, 374, 381, 398, 405, 412, 431, 438, 445, 709, 716, 723, 728, 735, 742, 789, 796, 803, 810, 873]
def as11 : List Addr := [890, 897, 904, 911, 918, 925, 932, 939, 946, 880, 4, 233, 210, 211, 212, 213, 214, 215, 216, 217, 218, 219, 220, 221, 222, 223, 224, 225, 226, 228, 229, 230]
def as12 : List Addr := [231, 232, 302, 867, 301, 866]
def asL : List Addr := as0 ++ (as1 ++ (as2 ++ (as3 ++ (as4 ++ (as5 ++ (as6 ++ (as7 ++ (as8 ++ (as9 ++ (as10 ++ (as11 ++ (as12))))))))))))
abbrev hkL : PySem.W.Hook := hookL asL fnL tsL fsL
def obL (s : PySem.W.SharedT) : He.AlT × Bool := obsL asL fnL tsL fsL (HandSHeadRun.getT s)
theorem obL_eq (s : PySem.W.SharedT) : obL s = hkL.obs s.abs := obsL_eq (HandSHeadRun.getT_eq s)
def loose0 : List Str := ["_wall", "__name__", "FigureError", "InvalidBase", "InvalidNumber", "NoFigure", "InvalidRow", "InvalidText", "Stopped", "NoRow", "LETTERS", "LONGEST_NAME", "is_integer", "is_number", "is_base", "is_name"]
def loose1 : List Str := ["DEEDS", "SIGNS", "WORDS", "Row", "Test", "Put", "If", "Times", "Stop", "Ask", "Not", "are_rows", "texts", "needed", "_fits", "_is_of"]
def loose2 : List Str := ["inner", "flat", "changed", "names_in", "bare", "_changed_within", "_named", "figures_of", "number_of", "turned", "least", "greatest", "total", "many", "root", "figure"]
def loose3 : List Str := ["first", "last", "joined", "mirrored", "unlike", "_value", "result", "holding", "holding_of", "_written", "_part", "_of_one", "_of_two", "_power", "_divides", "run"]
def loose4 : List Str := ["came_to", "holds", "Walk", "DIGITS", "MOST_DIGITS", "rows_of", "row_of", "test_of", "number_told", "Block", "_take_line", "_take_end", "_block_of", "_put_of", "_ask_of", "_plain"]
def loose5 : List Str := ["Program", "_law_deal", "_law_draw", "_law_pick", "_law_words", "_law_ask_of", "_law_row_of", "_law_told"]
def looseL : List Str := loose0 ++ loose1 ++ loose2 ++ loose3 ++ loose4 ++ loose5
theorem run_af (w : World) : (HandSHeadRun.wholeF (fun p => HandSHeadRun.stepQ (HandSHeadRun.denQ HandSHeadRun.tabQ) p (World.withFollow (w) "special-get-raises" false)) HandSHeadRun.fenceQ 100000 RL.prog).map (fun x => HandSHeadRun.looksF RL.prog x.1.heap x.2.abs) = some true := by
  kernel_rfl
theorem run_at (w : World) : (HandSHeadRun.wholeF (fun p => HandSHeadRun.stepQ (HandSHeadRun.denQ HandSHeadRun.tabQ) p (World.withFollow (w) "special-get-raises" true)) HandSHeadRun.fenceQ 100000 RL.prog).map (fun x => HandSHeadRun.looksF RL.prog x.1.heap x.2.abs) = some true := by
  kernel_rfl
theorem run_bf (w : World) : (HandSHeadRun.wholeF (fun p => HandSHeadRun.stepQ (HandSHeadRun.denQ HandSHeadRun.tabQ) p (World.withFollow (w) "special-get-raises" false)) HandSHeadRun.fenceQ 100000 RL.prog).map (fun x => HandSHeadRun.seenQ (PySem.W.view RL.prog [0, 98]) looseL (importedModules RL.prog.main.body) (fun s => PySem.W.xlAt (PySem.W.view RL.prog [0, 98]) [] s && PySem.W.recOk RL.toRowW.records s) x.2.abs) = some (PySem.W.openGood (PySem.W.view RL.prog [0, 98]) looseL) := by
  kernel_rfl
theorem run_bt (w : World) : (HandSHeadRun.wholeF (fun p => HandSHeadRun.stepQ (HandSHeadRun.denQ HandSHeadRun.tabQ) p (World.withFollow (w) "special-get-raises" true)) HandSHeadRun.fenceQ 100000 RL.prog).map (fun x => HandSHeadRun.seenQ (PySem.W.view RL.prog [0, 98]) looseL (importedModules RL.prog.main.body) (fun s => PySem.W.xlAt (PySem.W.view RL.prog [0, 98]) [] s && PySem.W.recOk RL.toRowW.records s) x.2.abs) = some (PySem.W.openGood (PySem.W.view RL.prog [0, 98]) looseL) := by
  kernel_rfl
theorem run_cf (w : World) : (HandSHeadRun.wholeF (fun p => HandSHeadRun.stepQ (HandSHeadRun.denQ HandSHeadRun.tabQ) p (World.withFollow (w) "special-get-raises" false)) HandSHeadRun.fenceQ 100000 RL.prog).map (fun x => obL x.2) = some (hkL.val (World.withFollow (w) "special-get-raises" false)) := by
  kernel_rfl
theorem run_ct (w : World) : (HandSHeadRun.wholeF (fun p => HandSHeadRun.stepQ (HandSHeadRun.denQ HandSHeadRun.tabQ) p (World.withFollow (w) "special-get-raises" true)) HandSHeadRun.fenceQ 100000 RL.prog).map (fun x => obL x.2) = some (hkL.val (World.withFollow (w) "special-get-raises" true)) := by
  kernel_rfl
theorem runL (w : World) : HandSHeadRun.RunEqI RL (PySem.W.view RL.prog [0, 98]) hkL obL 100000 looseL w := by
  refine PySem.W.byRow2 "special-get-raises" (P := fun w => HandSHeadRun.RunEqI RL (PySem.W.view RL.prog [0, 98]) hkL obL 100000 looseL w) ?_ ?_ w <;> intro w
  · exact runI_of (run_af w) (run_bf w) (run_cf w)
  · exact runI_of (run_at w) (run_bt w) (run_ct w)

end My
set_option maxRecDepth 10000
set_option exponentiation.threshold 5000
/-! the mathematics of figures -/
namespace My
theorem div_lt {n b : Int} (hb : 2 ≤ b) (hn : 0 < n) : n / b < n := by
  refine Int.ediv_lt_of_lt_mul (by omega) ?_
  have h := Int.mul_le_mul_of_nonneg_left hb (Int.le_of_lt hn)
  omega
theorem div_nn {n b : Int} (hb : 2 ≤ b) (hn : 0 ≤ n) : 0 ≤ n / b := Int.ediv_nonneg hn (by omega)
theorem mod_nn {n b : Int} (hb : 2 ≤ b) : 0 ≤ n % b := Int.emod_nonneg n (by omega)
theorem mod_lt {n b : Int} (hb : 2 ≤ b) : n % b < b := Int.emod_lt_of_pos n (by omega)
theorem div_pos_iff {n b : Int} (hb : 2 ≤ b) (hn : 0 ≤ n) : 0 < n / b ↔ b ≤ n := by
  constructor
  · intro h
    by_cases hlt : n < b
    · rw [Int.ediv_eq_zero_of_lt hn hlt] at h; omega
    · omega
  · intro h
    have h1 : 1 ≤ n / b := (Int.le_ediv_iff_mul_le (by omega)).mpr (by omega)
    omega
/-- the figures, the last one first -/
def digs (b n : Int) : List Int :=
  if h : 2 ≤ b ∧ b ≤ n then n % b :: digs b (n / b) else [n]
termination_by n.toNat
decreasing_by
  have := div_lt h.1 (show 0 < n by omega)
  have := div_nn h.1 (show 0 ≤ n by omega)
  omega
theorem digs_ge {b n : Int} (hb : 2 ≤ b) (h : b ≤ n) : digs b n = n % b :: digs b (n / b) := by
  rw [digs]; rw [dif_pos ⟨hb, h⟩]
theorem digs_lt {b n : Int} (h : n < b) : digs b n = [n] := by
  rw [digs]; rw [dif_neg (by omega)]
/-- an induction over the figures -/
theorem digs_ind {b : Int} (hb : 2 ≤ b) {P : Int → Prop} (h0 : ∀ n, 0 ≤ n → n < b → P n) (h1 : ∀ n, b ≤ n → P (n / b) → P n) : ∀ n, 0 ≤ n → P n := by
  have key : ∀ k : Nat, ∀ n : Int, 0 ≤ n → n.toNat ≤ k → P n := by
    intro k
    induction k with
    | zero => intro n hn hk; exact h0 n hn (by omega)
    | succ k ih =>
      intro n hn hk
      by_cases h : b ≤ n
      · have a1 := div_lt hb (show 0 < n by omega)
        have a2 := div_nn hb hn
        exact h1 n h (ih _ a2 (by omega))
      · exact h0 n hn (by omega)
  exact fun n hn => key n.toNat n hn (Nat.le_refl _)
def figs (b n : Int) : List Int := (digs b n).reverse
theorem digs_mem {b : Int} (hb : 2 ≤ b) : ∀ n, 0 ≤ n → ∀ x ∈ digs b n, 0 ≤ x ∧ x < b :=
  digs_ind hb (fun n h0 h x hx => by
    rw [digs_lt h] at hx
    have := List.mem_singleton.mp hx
    omega) (fun n h ih x hx => by
    rw [digs_ge hb h] at hx
    rcases List.mem_cons.mp hx with e | hx
    · subst e; exact ⟨mod_nn hb, mod_lt hb⟩
    · exact ih x hx)
theorem figs_mem {b : Int} (hb : 2 ≤ b) {n : Int} (hn : 0 ≤ n) : ∀ x ∈ figs b n, 0 ≤ x ∧ x < b := fun x hx =>
  digs_mem hb n hn x (List.mem_reverse.mp hx)
theorem digs_sum {b : Int} (hb : 2 ≤ b) : ∀ n, 0 ≤ n → 0 ≤ (digs b n).sum ∧ (digs b n).sum ≤ n :=
  digs_ind hb (fun n h0 h => by rw [digs_lt h]; simp; omega) (fun n h ih => by
    rw [digs_ge hb h, List.sum_cons]
    have e := Int.emod_add_mul_ediv n b
    have q0 := div_nn hb (show 0 ≤ n by omega)
    have m := Int.mul_le_mul_of_nonneg_right hb q0
    have r0 := mod_nn (n := n) hb
    omega)
theorem sum_rev (l : List Int) : l.reverse.sum = l.sum := by
  induction l with
  | nil => rfl
  | cons a l ih => rw [List.reverse_cons, List.sum_append, List.sum_cons, ih]; simp; omega
theorem figs_sum {b : Int} (hb : 2 ≤ b) {n : Int} (hn : 0 ≤ n) : 0 ≤ (figs b n).sum ∧ (figs b n).sum ≤ n := by
  unfold figs; rw [sum_rev]; exact digs_sum hb n hn
theorem figs_sum_lt {b : Int} (hb : 2 ≤ b) {n : Int} (h : b ≤ n) : (figs b n).sum < n := by
  unfold figs; rw [sum_rev, digs_ge hb h, List.sum_cons]
  have e := Int.emod_add_mul_ediv n b
  have q0 := (div_pos_iff hb (show 0 ≤ n by omega)).mpr h
  have m := Int.mul_le_mul_of_nonneg_right hb (Int.le_of_lt q0)
  have s := (digs_sum hb (n / b) (by omega)).2
  omega
theorem figs_one {b n : Int} (h : n < b) : (figs b n).sum = n := by
  unfold figs; rw [digs_lt h]; simp
theorem digs_len {b : Int} (hb : 2 ≤ b) : ∀ n, 0 ≤ n → ∀ k : Nat, n < 2 ^ k → (digs b n).length ≤ k + 1 := by
  refine digs_ind hb (fun n h0 h k hk => ?_) (fun n h ih k hk => ?_)
  · rw [digs_lt h]; simp
  · rw [digs_ge hb h, List.length_cons]
    cases k with
    | zero => simp at hk; omega
    | succ k =>
      have : n / b < 2 ^ k := by
        refine Int.ediv_lt_of_lt_mul (by omega) ?_
        have m := Int.mul_le_mul_of_nonneg_left hb (show (0 : Int) ≤ 2 ^ k from Int.le_of_lt (Int.pow_pos (by decide)))
        rw [Int.pow_succ] at hk
        omega
      have := ih k this
      omega
theorem figs_len {b : Int} (hb : 2 ≤ b) {n : Int} (hn : 0 ≤ n) {k : Nat} (h : n < 2 ^ k) : (figs b n).length ≤ k + 1 := by
  unfold figs; rw [List.length_reverse]; exact digs_len hb n hn k h
/-- the number with these figures -/
def written (b : Int) (l : List Int) : Int := l.foldl (fun a x => a * b + x) 0
end My
namespace My
/-- the root: sums of figures until there is one -/
def rootN (b n : Int) : Int := if h : 2 ≤ b ∧ b ≤ n then rootN b (figs b n).sum else n
termination_by n.toNat
decreasing_by
  have := figs_sum_lt h.1 h.2
  have := (figs_sum h.1 (show 0 ≤ n by omega)).1
  omega
theorem rootN_ge {b n : Int} (hb : 2 ≤ b) (h : b ≤ n) : rootN b n = rootN b (figs b n).sum := by
  rw [rootN, dif_pos ⟨hb, h⟩]
theorem rootN_lt {b n : Int} (h : n < b) : rootN b n = n := by
  rw [rootN, dif_neg (by omega)]
theorem rootN_sum {b n : Int} (hb : 2 ≤ b) : rootN b (figs b n).sum = rootN b n := by
  by_cases h : b ≤ n
  · exact (rootN_ge hb h).symm
  · rw [figs_one (by omega)]
theorem rootN_bd {b : Int} (hb : 2 ≤ b) : ∀ k : Nat, ∀ n : Int, n.toNat ≤ k → 0 ≤ n → 0 ≤ rootN b n ∧ rootN b n ≤ n
  | 0, n, hk, hn => by
    rw [rootN_lt (by omega)]; omega
  | k + 1, n, hk, hn => by
    by_cases h : b ≤ n
    · have a := figs_sum_lt hb h
      have c := (figs_sum hb hn).1
      have d := rootN_bd hb k (figs b n).sum (by omega) c
      rw [rootN_ge hb h]; omega
    · rw [rootN_lt (by omega)]; omega
theorem rootN_le {b n : Int} (hb : 2 ≤ b) (hn : 0 ≤ n) : 0 ≤ rootN b n ∧ rootN b n ≤ n := rootN_bd hb n.toNat n (Nat.le_refl _) hn
end My
namespace My
theorem written_snoc (b : Int) (l : List Int) (x : Int) : written b (l ++ [x]) = written b l * b + x := by
  unfold written; rw [List.foldl_append]; rfl
theorem written_bd {b : Int} (hb : 1 ≤ b) (l : List Int) : (∀ x ∈ l, 0 ≤ x ∧ x < b) → 0 ≤ written b l ∧ written b l < b ^ l.length := by
  intro h
  have key : ∀ k : Nat, k ≤ l.length → 0 ≤ written b (l.take k) ∧ written b (l.take k) < b ^ k := by
    intro k
    induction k with
    | zero => intro _; simp [written]
    | succ k ih =>
      intro hk
      have hx : k < l.length := by omega
      have e : l.take (k + 1) = l.take k ++ [l[k]] := by rw [List.take_add_one, List.getElem?_eq_getElem hx]; rfl
      have i := ih (by omega)
      have m := h l[k] (List.getElem_mem hx)
      rw [e, written_snoc, Int.pow_succ]
      have a1 := Int.mul_nonneg i.1 (show 0 ≤ b by omega)
      have a2 := Int.mul_le_mul_of_nonneg_right (show written b (l.take k) + 1 ≤ b ^ k by omega) (show 0 ≤ b by omega)
      rw [Int.add_mul] at a2
      omega
  have := key l.length (Nat.le_refl _)
  rw [List.take_length] at this
  exact this
theorem take_snoc {l : List Int} {i : Nat} {x : Int} (h : l[i]? = some x) : l.take (i + 1) = l.take i ++ [x] := by
  rw [List.take_add_one, h]; rfl
theorem pow_le_of {b : Int} (hb : 2 ≤ b) (k : Nat) : (2 : Int) ^ k ≤ b ^ k := by
  induction k with
  | zero => simp
  | succ k ih =>
    rw [Int.pow_succ, Int.pow_succ]
    have p : (0 : Int) ≤ 2 ^ k := Int.le_of_lt (Int.pow_pos (by decide))
    have a := Int.mul_le_mul_of_nonneg_left hb p
    have c := Int.mul_le_mul_of_nonneg_right ih (show 0 ≤ b by omega)
    omega
theorem pow_mono {b : Int} (hb : 1 ≤ b) {i j : Nat} (h : i ≤ j) : b ^ i ≤ b ^ j := by
  induction j with
  | zero => have : i = 0 := by omega
            subst this; exact Int.le_refl _
  | succ j ih =>
    by_cases e : i = j + 1
    · subst e; exact Int.le_refl _
    · have a := ih (by omega)
      have p : (0 : Int) < b ^ j := Int.pow_pos (by omega)
      rw [Int.pow_succ]
      have c := Int.mul_le_mul_of_nonneg_left hb (Int.le_of_lt p)
      omega
theorem pow_small {k n : Nat} (h : (2 : Int) ^ k < 2 ^ n) : k < n := by
  by_cases e : k < n
  · exact e
  · have := pow_mono (b := 2) (by decide) (show n ≤ k by omega)
    omega
end My
namespace My
theorem figs27 : (figs 2 7).sum = 3 := by
  unfold figs; rw [sum_rev, digs_ge (by decide) (by decide), digs_ge (by decide) (by decide), digs_lt (by decide)]; decide
theorem figs23 : (figs 2 3).sum = 2 := by
  unfold figs; rw [sum_rev, digs_ge (by decide) (by decide), digs_lt (by decide)]; decide
theorem figs22 : (figs 2 2).sum = 1 := by
  unfold figs; rw [sum_rev, digs_ge (by decide) (by decide), digs_lt (by decide)]; decide
theorem root27 : rootN 2 7 = 1 := by
  rw [rootN_ge (by decide) (by decide), figs27, rootN_ge (by decide) (by decide), figs23, rootN_ge (by decide) (by decide), figs22, rootN_lt (by decide)]
end My
namespace My
theorem digs_ne (b n : Int) : digs b n ≠ [] := by
  rw [digs]; split <;> simp
theorem figs_ne (b n : Int) : figs b n ≠ [] := by
  unfold figs; intro h; exact digs_ne b n (List.reverse_eq_nil_iff.mp h)
theorem figs_pos (b n : Int) : 0 < (figs b n).length := List.length_pos_iff.mpr (figs_ne b n)
/-- b to the number of figures is at most b times the number, or b -/
theorem digs_pow {b : Int} (hb : 2 ≤ b) : ∀ n, 0 ≤ n → b ^ (digs b n).length ≤ b * n ∨ ((digs b n).length = 1 ∧ n < b) := by
  refine digs_ind hb (fun n h0 h => .inr ⟨by rw [digs_lt h]; rfl, h⟩) (fun n h ih => .inl ?_)
  rw [digs_ge hb h, List.length_cons, Int.pow_succ]
  have q1 := (div_pos_iff hb (show 0 ≤ n by omega)).mpr h
  have e := Int.emod_add_mul_ediv n b
  have r0 := mod_nn (n := n) hb
  have key : b ^ (digs b (n / b)).length ≤ b * (n / b) := by
    rcases ih with h1 | ⟨h1, _⟩
    · exact h1
    · rw [h1, Int.pow_succ, Int.pow_zero, Int.one_mul]
      have := Int.mul_le_mul_of_nonneg_left (show 1 ≤ n / b by omega) (show 0 ≤ b by omega)
      omega
  have a := Int.mul_le_mul_of_nonneg_right key (show 0 ≤ b by omega)
  have c := Int.mul_le_mul_of_nonneg_left (show b * (n / b) ≤ n by omega) (show 0 ≤ b by omega)
  rw [Int.mul_comm b (b * (n / b))] at c
  omega
theorem figs_pow {b n : Int} (hb : 2 ≤ b) (hn : 0 ≤ n) : b ^ (figs b n).length ≤ b * n ∨ ((figs b n).length = 1 ∧ n < b) := by
  unfold figs; rw [List.length_reverse]; exact digs_pow hb n hn
theorem figs_bound {b n B : Int} (hb : 2 ≤ b) (hn : 0 ≤ n) (h1 : b * n ≤ B) (h2 : b ≤ B) : b ^ (figs b n).length ≤ B := by
  rcases figs_pow hb hn with h | ⟨h, _⟩
  · omega
  · rw [h, Int.pow_succ, Int.pow_zero, Int.one_mul]; exact h2
/-- the k-th figure from behind -/
def figAt (b n : Int) (k : Nat) : Int := if k < (figs b n).length then (figs b n).getD ((figs b n).length - 1 - k) 0 else 0
end My
namespace My
theorem figs_small {b n : Int} (h : n < b) : figs b n = [n] := by unfold figs; rw [digs_lt h]; rfl
end My
namespace My
theorem fig_lens {b n : Int} (n0 : 0 ≤ n) (n1 : n < 2 ^ 240) (b0 : 2 ≤ b) (b1 : b < 2 ^ 110) : (figs b n).length ≤ 241 ∧ b ^ (figs b n).length ≤ 2 ^ 350 := by
  refine ⟨figs_len b0 n0 (k := 240) n1, figs_bound b0 n0 ?_ (by omega)⟩
  have a := Int.mul_le_mul (show b ≤ 2 ^ 110 by omega) (show n ≤ 2 ^ 240 by omega) n0 (by decide)
  exact Int.le_trans a (by decide)
theorem part_ok {b n : Int} (n0 : 0 ≤ n) (n1 : n < 2 ^ 240) (b0 : 2 ≤ b) (b1 : b < 2 ^ 110) {xs : List Int} (hm : ∀ x ∈ xs, x ∈ figs b n) (hl : xs.length ≤ (figs b n).length) :
    (∀ x ∈ xs, 0 ≤ x ∧ x < b) ∧ xs.length ≤ 1000 ∧ b ^ xs.length ≤ 2 ^ 800 := by
  obtain ⟨a, c⟩ := fig_lens n0 n1 b0 b1
  have d := pow_mono (b := b) (by omega) hl
  exact ⟨fun x hx => figs_mem b0 n0 x (hm x hx), by omega, by omega⟩
theorem two_ok {b n o : Int} (n0 : 0 ≤ n) (n1 : n < 2 ^ 240) (o0 : 0 ≤ o) (o1 : o < 2 ^ 240) (b0 : 2 ≤ b) (b1 : b < 2 ^ 110) :
    (∀ x ∈ figs b n ++ figs b o, 0 ≤ x ∧ x < b) ∧ (figs b n ++ figs b o).length ≤ 1000 ∧ b ^ (figs b n ++ figs b o).length ≤ 2 ^ 800 := by
  obtain ⟨a1, a2⟩ := fig_lens n0 n1 b0 b1
  obtain ⟨c1, c2⟩ := fig_lens o0 o1 b0 b1
  refine ⟨fun x hx => ?_, by rw [List.length_append]; omega, ?_⟩
  · rcases List.mem_append.mp hx with hx | hx
    · exact figs_mem b0 n0 x hx
    · exact figs_mem b0 o0 x hx
  · rw [List.length_append, Int.pow_add]
    have p : (0 : Int) < b ^ (figs b o).length := Int.pow_pos (by omega)
    exact Int.le_trans (Int.mul_le_mul a2 c2 (Int.le_of_lt p) (by decide)) (by decide)
/-- the list in ascending order -/
def asc (l : List Int) : List Int := l.mergeSort
theorem asc_perm (l : List Int) : (asc l).Perm l := List.mergeSort_perm l _
theorem asc_sorted (l : List Int) : (asc l).Pairwise (· ≤ ·) := by
  have h := List.pairwise_mergeSort (le := fun a b : Int => decide (a ≤ b)) (fun a b c h1 h2 => decide_eq_true (Int.le_trans (of_decide_eq_true h1) (of_decide_eq_true h2)))
    (fun a b => by rcases Int.le_total a b with h | h <;> simp [h]) l
  exact h.imp fun h => of_decide_eq_true h
theorem sorted_eq : ∀ {l m : List Int}, l.Perm m → l.Pairwise (· ≤ ·) → m.Pairwise (· ≤ ·) → l = m := fun h a b =>
  h.eq_of_pairwise (fun _ _ _ _ => Int.le_antisymm) a b
theorem eq_asc {l m : List Int} (h : l.Perm m) (s : l.Pairwise (· ≤ ·)) : l = asc m :=
  sorted_eq (h.trans (asc_perm m).symm) s (asc_sorted m)
theorem eq_desc {l m : List Int} (h : l.Perm m) (s : l.Pairwise (· ≥ ·)) : l = (asc m).reverse := by
  have h2 : l.reverse = asc m := eq_asc ((List.reverse_perm l).trans h) (List.pairwise_reverse.mpr s)
  rw [← h2, List.reverse_reverse]
theorem asc_mem {l : List Int} {x : Int} (h : x ∈ asc l) : x ∈ l := (asc_perm l).mem_iff.mp h
theorem asc_len (l : List Int) : (asc l).length = l.length := (asc_perm l).length_eq
/-- as many unlike things as things: all are unlike -/
theorem nodup_of_len {α : Type} [DecidableEq α] : ∀ (K ns : List α), K.Nodup → (∀ k ∈ K, k ∈ ns) → K.length = ns.length → (∀ x ∈ ns, x ∈ K) ∧ ns.Nodup
  | [], ns, _, _, h => by
    have : ns = [] := List.length_eq_zero_iff.mp h.symm
    subst this
    exact ⟨fun x hx => (by cases hx), List.nodup_nil⟩
  | k :: K, ns, nd, hs, h => by
    have hk := hs k (List.mem_cons_self ..)
    have nd2 := List.nodup_cons.mp nd
    have ih := nodup_of_len K (ns.erase k) nd2.2 (fun x hx => (List.mem_erase_of_ne (fun (e : x = k) => nd2.1 (e ▸ hx))).mpr (hs x (List.mem_cons_of_mem _ hx))) (by
      rw [List.length_erase_of_mem hk]
      rw [List.length_cons] at h
      omega)
    have p := List.perm_cons_erase hk
    have hnot : k ∉ ns.erase k := fun hh => nd2.1 (ih.1 k hh)
    refine ⟨fun x hx => ?_, p.nodup_iff.mpr (List.nodup_cons.mpr ⟨hnot, ih.2⟩)⟩
    rcases List.mem_cons.mp (p.mem_iff.mp hx) with e | hx
    · exact e ▸ List.mem_cons_self ..
    · exact List.mem_cons_of_mem _ (ih.1 x hx)
theorem nodup_le {α : Type} [DecidableEq α] : ∀ (K ns : List α), K.Nodup → (∀ k ∈ K, k ∈ ns) → K.length ≤ ns.length
  | [], _, _, _ => Nat.zero_le _
  | k :: K, ns, nd, hs => by
    have hk := hs k (List.mem_cons_self ..)
    have nd2 := List.nodup_cons.mp nd
    have ih := nodup_le K (ns.erase k) nd2.2 (fun x hx => (List.mem_erase_of_ne (fun (e : x = k) => nd2.1 (e ▸ hx))).mpr (hs x (List.mem_cons_of_mem _ hx)))
    rw [List.length_erase_of_mem hk] at ih
    have := List.length_pos_of_mem hk
    rw [List.length_cons]
    omega
end My
namespace My
theorem pow_left {b c : Int} (h0 : 0 ≤ b) (h : b ≤ c) (k : Nat) : b ^ k ≤ c ^ k := by
  induction k with
  | zero => simp
  | succ k ih =>
    rw [Int.pow_succ, Int.pow_succ]
    have p : (0 : Int) ≤ b ^ k := Int.pow_nonneg h0
    exact Int.mul_le_mul ih h h0 (Int.le_trans p ih)
theorem digs_eq_rev (b n : Int) : (figs b n).reverse = digs b n := by unfold figs; rw [List.reverse_reverse]
end My
namespace My
theorem nodup_snoc {α : Type} {l : List α} {x : α} : (l ++ [x]).Nodup ↔ l.Nodup ∧ x ∉ l := by
  rw [(List.perm_append_comm (l₁ := l) (l₂ := [x])).nodup_iff, List.singleton_append, List.nodup_cons]
  exact And.comm
end My
set_option Elab.async false
set_option linter.all false
set_option maxRecDepth 100000
set_option maxHeartbeats 4000000
/-! len(set(t)) of a tuple of ints -/
namespace My
open PySem PySem.Spec PyProof.Rows L2 Evl
section
variable {X : Cx}
/-- c is how many unlike ones there are: all that is said of it is whether all are unlike -/
def tUnl (K : PySem.W.Frag) (ta : TE) : TE := fun σ H Q => ta σ H fun x H1 => ∃ (a : Addr) (ns : List Int), x = .ref a ∧ SqT K H1 a (ns.map V.int) ∧ ns.length ≤ 4000 ∧ ∀ c : Nat, c ≤ ns.length → (c = ns.length ↔ ns.Nodup) → Q (.int (c : Int)) H1
theorem pe_lenSetT {a : Expr} {ta : TE} {p p2 q pos : Pos} (hg : Gl X "len") (hm : X.mg "len" = none) (hg2 : Gl X "set") (hm2 : X.mg "set" = none) (ha : PE X a ta) (hc : X.calm = true := by rfl)
    (na : starEach [a] X.env = (false, eval a X.env) :: starEach [] X.env := by rfl) : PE X (.Call (.Name "len" p) [.Call (.Name "set" p2) [a] [] q] [] pos) (tUnl X.K ta) := by
  refine ⟨fun pins s σ H Q I h => Call_ (ld_blt I hg hm boot_len (callWith_builtin1 (args_cons (Call_ (ld_blt I hg2 hm2 boot_set ?_)) rfl) rfl rfl))⟩
  refine callWith_type1 (args_cons (thn (ha.run pins s σ H _ I h) fun v s1 ⟨x, H1, I1, r1, q1⟩ => args_nil ?_) na) na rfl
  obtain ⟨t, ns, rfl, hq, hl, q1⟩ := q1
  cases r1
  obtain ⟨its, r, pl, hz⟩ := I1.tuple hq
  have hi : IntsAre its.toArray.toList ns := by simpa using RZ.intsAre_vals r
  refine call_set_tupI ns (I1.ok.hd hc) pl hi (by unfold scanBound; omega) fun h' tk c hS hcl hk => args_nil ?_
  have I2 : Inv X pins σ H1 { s1 with heap := h', toks := tk } := I1.kept hk
  obtain ⟨o, es, ep, t2, ho, hex, hd, hgood, nd, mem, hb, hf, hn, _⟩ := hS
  have hlen : (es.toList.map keyOf).length = c := by rw [List.length_map, Array.length_toList]; exact hn
  have sub : ∀ k ∈ es.toList.map keyOf, k ∈ ns := fun k hk => of_decide_eq_true ((mem k).mpr hk)
  refine call_len_set ho hex hd hf (by rw [hn]; omega) ⟨.int (c : Int), H1, I2.tok _, ⟨_, by rw [hn]⟩, q1 c hcl ⟨fun e => ?_, fun hnd => ?_⟩⟩
  · exact (nodup_of_len _ ns nd sub (hlen.trans e)).2
  · refine Nat.le_antisymm hcl ?_
    rw [← hlen]
    exact nodup_le ns _ hnd fun k hk => (mem k).mp (decide_eq_true hk)
end
end My
set_option Elab.async false
set_option linter.all false
set_option maxRecDepth 100000
set_option maxHeartbeats 4000000
/-! the source of draws of law_k08 and many behind it -/
namespace My
open PySem PySem.Spec PyProof.Rows L2 Evl
/-! ### the other source of draws: d its list of three, L its list of cells, c the cell under way, z the seed -/
structure Deal3C (d L : Addr) (cs : List Int) (c z : Int) (H : Hp) : Prop where
  d : H d = some (.lst [.ref L, .int c, .int z])
  c0 : 0 ≤ c
  l : H L = some (.lst (cs.map V.int))
  nn : ∀ c ∈ cs, 0 ≤ c
  z0 : 0 ≤ z
  z1 : z < 2147483647
  len : cs.length ≤ 63
def Deal3 (d L : Addr) (H : Hp) : Prop := ∃ cs c z, Deal3C d L cs c z H
/-- all but the source of draws is as it was, and this stands -/
structure Mv3 (d L : Addr) (H H' : Hp) : Prop where
  kp : ∀ b o, b ≠ d → b ≠ L → H b = some o → H' b = some o
  dl : Deal3 d L H'
theorem Deal3C.ne {d L : Addr} {cs : List Int} {c z : Int} {H : Hp} (D : Deal3C d L cs c z H) : d ≠ L := fun e => by
  have a := D.d
  rw [e, D.l] at a
  cases cs with
  | nil => cases a
  | cons c cs =>
    have b := List.cons.inj (HO.lst.inj (Option.some.inj a))
    cases b.1
theorem Deal3.ne {d L : Addr} {H : Hp} (D : Deal3 d L H) : d ≠ L := D.elim fun _ h => h.elim fun _ h => h.elim fun _ D => D.ne
theorem Deal3C.ex {d L : Addr} {cs : List Int} {c z : Int} {H H' : Hp} (D : Deal3C d L cs c z H) (e : Ex H H') : Deal3C d L cs c z H' := ⟨e _ _ D.d, D.c0, e _ _ D.l, D.nn, D.z0, D.z1, D.len⟩
theorem Deal3.ex {d L : Addr} {H H' : Hp} (D : Deal3 d L H) (e : Ex H H') : Deal3 d L H' := by
  obtain ⟨cs, c, z, D⟩ := D
  exact ⟨cs, c, z, D.ex e⟩
theorem Mv3.of_ex {d L : Addr} {H H' : Hp} (D : Deal3 d L H) (e : Ex H H') : Mv3 d L H H' := ⟨fun _ _ _ _ h => e _ _ h, D.ex e⟩
theorem Mv3.refl {d L : Addr} {H : Hp} (D : Deal3 d L H) : Mv3 d L H H := .of_ex D (Ex.refl H)
theorem Mv3.trans {d L : Addr} {H H1 H2 : Hp} (a : Mv3 d L H H1) (b : Mv3 d L H1 H2) : Mv3 d L H H2 := ⟨fun x o h1 h2 h => b.kp x o h1 h2 (a.kp x o h1 h2 h), b.dl⟩
theorem Mv3.tex {d L : Addr} {H H1 H2 : Hp} (a : Mv3 d L H H1) (e : Ex H1 H2) : Mv3 d L H H2 := a.trans (.of_ex a.dl e)
theorem Mv3.new {d L : Addr} {H H1 : Hp} {p : Addr} {o : HO} (a : Mv3 d L H H1) (h : H1 p = none) : Mv3 d L H (upd H1 p o) := a.tex (Ex.new h)
/-- a new place is not the source's -/
theorem Deal3.off {d L : Addr} {H : Hp} {p : Addr} (D : Deal3 d L H) (h : H p = none) : p ≠ d ∧ p ≠ L := by
  obtain ⟨cs, c, z, D⟩ := D
  exact ⟨fun e => (by rw [e, D.d] at h; cases h), fun e => (by rw [e, D.l] at h; cases h)⟩
theorem Deal3.offL {d L : Addr} {H : Hp} {p : Addr} {xs : List Int} (D : Deal3 d L H) (h : H p = some (.lst (xs.map V.int))) : p ≠ d := fun e => by
  obtain ⟨cs, c, z, D⟩ := D
  rw [e, D.d] at h
  cases xs with
  | nil => cases h
  | cons c cs =>
    have b := List.cons.inj (HO.lst.inj (Option.some.inj h))
    cases b.1
theorem Mv3.free {d L : Addr} {H H' : Hp} {p : Addr} (a : Mv3 d L H H') (h : H' p = none) : H p = none := by
  have o := a.dl.off h
  cases h1 : H p with
  | none => rfl
  | some u => rw [a.kp p u o.1 o.2 h1] at h; cases h
theorem Mv3.mut {d L : Addr} {H H' : Hp} {D : Addr} {o : HO} (a : Mv3 d L H H') (h : H D = none) (h1 : D ≠ d) (h2 : D ≠ L) : Mv3 d L H (upd H' D o) := by
  obtain ⟨kp, cs, c, z, D'⟩ := a
  exact ⟨fun b u x1 x2 e => by rw [upd_ne (ne_of_none e h)]; exact kp b u x1 x2 e, cs, c, z, ⟨by rw [upd_ne h1.symm]; exact D'.d, D'.c0, by rw [upd_ne h2.symm]; exact D'.l, D'.nn, D'.z0, D'.z1, D'.len⟩⟩
end My
set_option Elab.async false
set_option linter.all false
set_option maxRecDepth 100000
set_option maxHeartbeats 4000000
/-! a tuple, times once and times more -/
namespace My
open PySem PySem.Spec PyProof.Rows L2 Evl
theorem tupMul1 (l : Addr) (items : Array Value) (n : Nat) (dd : Option Addr) (sl : Array (Option Value)) (u : Tok) :
    Meets (Builtin.«tuple.__mul__» ⟨[.ref l, .int 1 u], []⟩) (fun _ R s => s.heap.get? l = some { cls := .type "tuple", dict := dd, data := .seq items n, slots := sl } ∧ R (.ok (.ret (.ref l))) s) :=
  .of_wp fun prog w A R s h => by
    obtain ⟨hp, g, d, tk, os⟩ := s
    obtain ⟨hl, h⟩ := h
    have f1 := AutoSeq1.idx_int
    wp_walk using wpAny_loadPart' hl
    repeat (first
      | (refine wpAny_ite_false (decide_eq_false (by decide)) ?_; wp_walk using wpAny_loadPart' hl)
      | (refine wpAny_ite_true (decide_eq_true (by simp)) ?_; wp_walk using wpAny_loadPart' hl))
    exact ⟨_, rfl, h⟩
section
variable {X : Cx}
/-- a tuple times k: itself once, a new one more often -/
def rRepT1 (K : PySem.W.Frag) : R2 := fun x y H Q => ∃ l k xs, x = .ref l ∧ y = .int k ∧ SqT K H l xs ∧ ((k = 1 ∧ Q (.ref l) H) ∨ (xs ≠ [] ∧ 2 ≤ k ∧ k ≤ 1000 ∧ xs.length ≤ 1000 ∧ ∀ p, H p = none → Q (.ref p) (upd H p (.tup (List.replicate k.toNat xs).flatten))))
theorem op_repT1 : OpR X (binaryOp .Mult) (rRepT1 X.K) := by
  intro pins s σ H x y v u Q I rx ry h
  obtain ⟨l, k, xs, rfl, rfl, hT, h⟩ := h
  rcases h with ⟨rfl, q⟩ | ⟨h1, h2, h3, h4, q⟩
  · cases rx
    obtain ⟨t, rfl⟩ := ry
    obtain ⟨its, r, ⟨⟨cls, dd, data, sl⟩, ho, hc, n, hd⟩, hs⟩ := I.tuple hT
    simp only at hc hd
    subst hc hd
    exact wpAny_binaryOp_repeat_ref (T := "tuple") (U := "int") (by decide) ⟨_, ho, rfl⟩ (fun s' => typeIs_int s' 1 t) noFill_tuple_mul F.fills_int_mul F.slot_int_rmul repeat_tuple F.slot_int_index.lookup
      (call_meets F.slot_int_rmul (typeIs_int s 1 t) F.entry_int_rmul (F.args_int_rmul_2 _ _) (int_rmul_tuple 1 t l its.toArray n dd sl)
        ⟨ho, rfl, ⟨_, ho, rfl⟩, call_meets F.slot_tuple_mul ⟨_, ho, rfl⟩ F.entry_tuple_mul (F.args_tuple_mul_2 _ _) (tupMul1 l its.toArray n dd sl t) ⟨ho, .ref l, H, I, rfl, q⟩⟩)
  · exact op_repT pins s σ H _ _ v u Q I rx ry ⟨_, _, _, rfl, rfl, hT, h1, h2, h3, h4, q⟩
theorem op_in_kdE {d : Addr} (D : ∃ es n, KDict X.K X.w d es n) : OpR X (compareOp .In) (fun x y H Q => ∃ (z : Str) (r : Option Value), x = .str z ∧ y = .ref d ∧ PySem.W.nsIn X.K d z = some r ∧ Q (.bl r.isSome) H) := by
  obtain ⟨es, n, D⟩ := D
  exact op_in_kd D
theorem op_notIn_kdE {d : Addr} (D : ∃ es n, KDict X.K X.w d es n) : OpR X (compareOp .NotIn) (fun x y H Q => ∃ (z : Str) (r : Option Value), x = .str z ∧ y = .ref d ∧ PySem.W.nsIn X.K d z = some r ∧ Q (.bl (!r.isSome)) H) := by
  obtain ⟨es, n, D⟩ := D
  exact op_notIn_kd D
end
/-- two tuples side by side -/
theorem walk_zipT {K : PySem.W.Frag} {a b : Addr} {xs ys : List V} {n : Nat} (hn : n = min xs.length ys.length) : Walk (RZ.ItzT K a b) n (fun H => SqT K H a xs ∧ SqT K H b ys) (YPair (fun i => xs[i]?) (fun i => ys[i]?)) := by
  subst hn
  refine ⟨fun i H hi h => ?_, fun H h => ⟨xs, ys, h.1, h.2, by omega⟩, fun i H v H' hi h y => ?_⟩
  · have l1 : i < xs.length := by omega
    have l2 : i < ys.length := by omega
    exact ⟨xs, ys, xs[i], ys[i], h.1, h.2, List.getElem?_eq_getElem l1, List.getElem?_eq_getElem l2⟩
  · obtain ⟨T, x, z, e1, e2, e3, e4, e5⟩ := y
    exact ⟨T, x, z, e1, e2, e3, e4 xs h.1, e5 ys h.2⟩
end My
set_option Elab.async false
set_option linter.all false
set_option maxRecDepth 100000
set_option maxHeartbeats 4000000
/-! texts of lines -/
namespace My
open PySem PySem.Spec PyProof.Rows L2 Evl
theorem str_assoc (a b c : Str) : a ++ b ++ c = a ++ (b ++ c) := PySem.Str.append_assoc a b c
theorem str_len (a b : Str) : (a ++ b).length = a.length + b.length := PySem.Str.length_append a b
theorem emp_app (a : Str) : Str.empty ++ a = a := PySem.Str.ext' (by show (#[] ++ a.cps : Array Nat) = a.cps; simp)
theorem emp_app' (a : Str) : (Str.ofString "") ++ a = a := PySem.Str.ext' (by show ((Str.ofString "").cps ++ a.cps : Array Nat) = a.cps; rw [show (Str.ofString "").cps = #[] from rfl]; simp)
theorem join_nil (s : Str) : Txt.join s [] = Str.empty := by rw [TL.join_eq]; rfl
theorem join_one (s x : Str) : Txt.join s [x] = x := by rw [TL.join_eq]; rfl
theorem join_cons (s x y : Str) (r : List Str) : Txt.join s (x :: y :: r) = x ++ s ++ Txt.join s (y :: r) := by rw [TL.join_eq, TL.join_eq]; rfl
theorem join_cons' (s x : Str) {r : List Str} (h : r ≠ []) : Txt.join s (x :: r) = x ++ s ++ Txt.join s r := by
  cases r with
  | nil => exact absurd rfl h
  | cons y r => exact join_cons s x y r
theorem join_app (s : Str) : ∀ {as bs : List Str}, as ≠ [] → bs ≠ [] → Txt.join s (as ++ bs) = Txt.join s as ++ s ++ Txt.join s bs
  | [], _, h, _ => absurd rfl h
  | [a], bs, _, h => by rw [List.singleton_append, join_cons' s a h, join_one]
  | a :: b :: r, bs, _, h => by
    have ih := join_app s (as := b :: r) (bs := bs) (by simp) h
    rw [List.cons_append, join_cons' s a (r := b :: r ++ bs) (by simp), ih, join_cons]
    simp only [str_assoc]
theorem join_flat (s : Str) : ∀ {ls : List (List Str)}, (∀ l ∈ ls, l ≠ []) → Txt.join s (ls.map (Txt.join s)) = Txt.join s ls.flatten
  | [], _ => rfl
  | [l], _ => by rw [List.map_cons, List.map_nil, join_one, List.flatten_cons, List.flatten_nil, List.append_nil]
  | l :: m :: r, h => by
    have ih := join_flat s (ls := m :: r) fun x hx => h x (List.mem_cons_of_mem _ hx)
    have hm : (m :: r).flatten ≠ [] := by
      rw [List.flatten_cons]
      intro z
      exact h m (by simp) (List.append_eq_nil_iff.mp z).1
    rw [List.map_cons, join_cons' s _ (by simp), ih, List.flatten_cons (l := l), join_app s (h l (by simp)) hm]
/-- how long lines are, each with its end -/
def wt (ls : List Str) : Nat := (ls.map fun x => x.length + 1).sum
theorem wt_app (as bs : List Str) : wt (as ++ bs) = wt as + wt bs := by unfold wt; rw [List.map_append, List.sum_append]
theorem wt_cons (a : Str) (bs : List Str) : wt (a :: bs) = a.length + 1 + wt bs := by unfold wt; rw [List.map_cons, List.sum_cons]
theorem wt_sum : ∀ ls : List Str, wt ls = (ls.map (·.length)).sum + ls.length * 1
  | [] => rfl
  | a :: r => by rw [wt_cons, wt_sum r, List.map_cons, List.sum_cons, List.length_cons]; omega
theorem join_wt {s : Str} (hs : s.length = 1) : ∀ {ls : List Str}, ls ≠ [] → (Txt.join s ls).length + 1 = wt ls
  | [], h => absurd rfl h
  | [a], _ => by rw [join_one, wt_cons]; rfl
  | a :: b :: r, _ => by
    have ih := join_wt hs (ls := b :: r) (by simp)
    rw [join_cons, str_len, str_len, hs, wt_cons]
    omega
theorem lines_ne (r : RowM) : r.lines ≠ [] := by cases r <;> simp [RowM.lines]
theorem liness_eq : ∀ rs : List RowM, RowM.liness rs = (rs.map RowM.lines).flatten
  | [] => by simp [RowM.liness]
  | r :: rs => by rw [RowM.liness, liness_eq rs, List.map_cons, List.flatten_cons]
theorem elses_eq (os : List RowM) : RowM.elses os = if os = [] then [] else ("else" : Str) :: RowM.liness os := by
  cases os with
  | nil => simp [RowM.elses]
  | cons o os => rw [if_neg (by simp), RowM.elses, RowM.liness]
theorem nl1 : (Str.ofString "\n").length = 1 := by decide
theorem sp1 : (Str.ofString " ").length = 1 := by decide
theorem text_wt (r : RowM) : r.text.length + 1 = wt r.lines := join_wt nl1 (lines_ne r)
theorem wt_liness : ∀ rs : List RowM, wt (RowM.liness rs) = (rs.map fun r => r.text.length + 1).sum
  | [] => by simp [RowM.liness, wt]
  | r :: rs => by rw [RowM.liness, wt_app, wt_liness rs, ← text_wt, List.map_cons, List.sum_cons]
/-- the text of a counted block, of a choice: by the texts of its rows -/
theorem text_times (c : Nat) (rs : List RowM) : (RowM.times c rs).text = Txt.join (Str.ofString "\n") ((Str.ofString "times " ++ Str.ofString (toString (c : Int))) :: (rs.map RowM.text ++ [("end" : Str)])) := by
  have e := join_flat (Str.ofString "\n") (ls := [Str.ofString "times " ++ Str.ofString (toString (c : Int))] :: (rs.map RowM.lines ++ [[("end" : Str)]])) (fun l hl => by
    simp only [List.mem_cons, List.mem_append, List.mem_map, List.not_mem_nil, or_false] at hl
    rcases hl with rfl | ⟨r, _, rfl⟩ | rfl
    · simp
    · exact lines_ne r
    · simp)
  rw [List.map_cons, join_one, List.map_append, List.map_map, List.map_cons, List.map_nil, join_one] at e
  rw [show (rs.map RowM.text) = rs.map (Txt.join (Str.ofString "\n") ∘ RowM.lines) from rfl, e]
  unfold RowM.text
  rw [RowM.lines, liness_eq]
  simp
theorem text_ifr (t : TestM) (rs os : List RowM) : (RowM.ifr t rs os).text = Txt.join (Str.ofString "\n") (((Str.ofString "if " ++ t.text) :: rs.map RowM.text ++ (if os = [] then [] else ("else" : Str) :: os.map RowM.text)) ++ [("end" : Str)]) := by
  have e := join_flat (Str.ofString "\n") (ls := (([Str.ofString "if " ++ t.text] :: rs.map RowM.lines) ++ (if os = [] then [] else [("else" : Str)] :: os.map RowM.lines)) ++ [[("end" : Str)]]) (fun l hl => by
    simp only [List.mem_cons, List.mem_append, List.mem_map, List.not_mem_nil, or_false] at hl
    rcases hl with ((rfl | ⟨r, _, rfl⟩) | hl) | rfl
    · simp
    · exact lines_ne r
    · split at hl
      · cases hl
      · rcases List.mem_cons.mp hl with rfl | hl
        · simp
        · obtain ⟨r, _, rfl⟩ := List.mem_map.mp hl
          exact lines_ne r
    · simp)
  rw [List.map_append, List.map_append, List.map_cons, join_one, List.map_map, List.map_cons, List.map_nil, join_one] at e
  have e2 : List.map (Txt.join (Str.ofString "\n")) (if os = [] then [] else [("else" : Str)] :: os.map RowM.lines) = (if os = [] then [] else ("else" : Str) :: os.map RowM.text) := by
    split
    · rfl
    · rw [List.map_cons, join_one, List.map_map]; rfl
  rw [e2] at e
  rw [show (rs.map RowM.text) = rs.map (Txt.join (Str.ofString "\n") ∘ RowM.lines) from rfl, e]
  unfold RowM.text
  rw [RowM.lines, liness_eq, elses_eq, liness_eq]
  split <;> simp
/-! ### words of signs -/
theorem em0 : (Str.ofString "").length = 0 := by decide
theorem word_of (P : Nat → Prop) : ∀ {xs : List Str}, (∀ x ∈ xs, ∃ c, x = ⟨#[c]⟩ ∧ P c) → (Txt.join (Str.ofString "") xs).length = xs.length ∧ ∀ c ∈ (Txt.join (Str.ofString "") xs).cps.toList, P c
  | [], _ => by rw [join_nil]; exact ⟨rfl, fun c hc => by cases hc⟩
  | [x], h => by
    obtain ⟨c, rfl, hc⟩ := h x (by simp)
    rw [join_one]
    exact ⟨rfl, fun z hz => by simp at hz; rw [hz]; exact hc⟩
  | x :: y :: r, h => by
    obtain ⟨c, rfl, hc⟩ := h x (by simp)
    obtain ⟨h1, h2⟩ := word_of P (xs := y :: r) fun z hz => h z (List.mem_cons_of_mem _ hz)
    rw [join_cons]
    refine ⟨by rw [str_len, str_len, em0, h1]; simp [PySem.Str.length]; omega, fun z hz => ?_⟩
    have e : ((⟨#[c]⟩ : Str) ++ Str.ofString "" ++ Txt.join (Str.ofString "") (y :: r)).cps.toList = c :: (Txt.join (Str.ofString "") (y :: r)).cps.toList := by
      show ((#[c] ++ (Str.ofString "").cps) ++ (Txt.join (Str.ofString "") (y :: r)).cps).toList = _
      rw [show (Str.ofString "").cps = #[] from rfl]
      simp
    rw [e] at hz
    rcases List.mem_cons.mp hz with rfl | hz
    · exact hc
    · exact h2 z hz
theorem nodup_len {α : Type} [DecidableEq α] : ∀ (as ns : List α), as.Nodup → (∀ a ∈ as, a ∈ ns) → as.length ≤ ns.length
  | [], _, _, _ => Nat.zero_le _
  | a :: as, ns, hn, h => by
    obtain ⟨h1, h2⟩ := List.nodup_cons.mp hn
    have ih := nodup_len as (ns.erase a) h2 fun b hb => (List.mem_erase_of_ne (fun e => h1 (by rw [← e]; exact hb))).mpr (h b (List.mem_cons_of_mem _ hb))
    have hm := h a (by simp)
    rw [List.length_erase_of_mem hm] at ih
    have := List.length_pos_of_mem hm
    rw [List.length_cons]
    omega
theorem one_free (w : Str) (ns : List Str) (h : ns.length ≤ 3) : ([w, "a", "b", "c", "d"].filter fun x => !(ns.contains x)) ≠ [] := by
  intro e
  have hall : ∀ x ∈ ([w, "a", "b", "c", "d"] : List Str), x ∈ ns := fun x hx => by
    have := List.filter_eq_nil_iff.mp e x hx
    simpa using this
  have := nodup_len (["a", "b", "c", "d"] : List Str) ns (by decide) fun x hx => hall x (List.mem_cons_of_mem _ hx)
  simp at this
  omega
theorem inV_strs (x : Str) (ns : List Str) : inV (.str x) (ns.map V.str) = ns.contains x := by
  unfold inV
  induction ns with
  | nil => rfl
  | cons n ns ih =>
    rw [List.map_cons, List.any_cons, ih, List.contains_cons]
    refine congrArg (· || _) ?_
    show (n == x) = (x == n)
    by_cases h : n = x
    · rw [h]
    · rw [beq_eq_false_iff_ne.mpr h, beq_eq_false_iff_ne.mpr (Ne.symm h)]
theorem flat_strs (ns : List Str) : (ns.map V.str).all flatV = true := by
  induction ns with
  | nil => rfl
  | cons n ns ih => rw [List.map_cons, List.all_cons, ih]; rfl
end My
set_option Elab.async false
set_option linter.all false
set_option maxRecDepth 100000
set_option maxHeartbeats 4000000
/-! any values as far as isinstance looks at them; making an own object whose __init__ may raise; isinstance of a caught own error by one class -/
namespace My
open PySem PySem.Spec PyProof.Rows L2 Evl
/-- a value, as far as the package looks at it -/
inductive AM where
  | non
  | bl (b : Bool)
  | int (i : Int)
  | str (x : Str)
  | row
  | test
  | seq (l : Bool) (xs : List AM)
def seqO (l : Bool) (vs : List V) : HO := if l then .lst vs else .tup vs
mutual
def AO (A : ClsA) (bad : Addr → Prop) (H : Hp) : AM → V → Prop
  | .non, v => v = .non
  | .bl b, v => v = .bl b
  | .int i, v => v = .int i ∧ i.natAbs < 2 ^ 100
  | .str x, v => v = .str x ∧ x.length ≤ 100
  | .row, v => ∃ a C dx fs, v = .ref a ∧ ¬ bad a ∧ H a = some (.ins C dx fs) ∧ (C = A.put ∨ C = A.ifr ∨ C = A.times ∨ C = A.stop)
  | .test, v => ∃ a C dx fs, v = .ref a ∧ ¬ bad a ∧ H a = some (.ins C dx fs) ∧ (C = A.ask ∨ C = A.not)
  | .seq l ms, v => ∃ a vs, v = .ref a ∧ ¬ bad a ∧ H a = some (seqO l vs) ∧ vs.length ≤ 100 ∧ AOs A bad H ms vs
def AOs (A : ClsA) (bad : Addr → Prop) (H : Hp) : List AM → List V → Prop
  | [], vs => vs = []
  | m :: ms, vs => ∃ v ws, vs = v :: ws ∧ AO A bad H m v ∧ AOs A bad H ms ws
end
section
variable {A : ClsA} {bad bad' : Addr → Prop} {H H' : Hp}
mutual
theorem AO.keep (k : ∀ b o, ¬ bad b → H b = some o → H' b = some o) : ∀ {m : AM} {v : V}, AO A bad H m v → AO A bad H' m v
  | .non, _, h => by unfold AO at h ⊢; exact h
  | .bl _, _, h => by unfold AO at h ⊢; exact h
  | .int _, _, h => by unfold AO at h ⊢; exact h
  | .str _, _, h => by unfold AO at h ⊢; exact h
  | .row, _, h => by unfold AO at h ⊢; obtain ⟨a, C, dx, fs, e, b, o, c⟩ := h; exact ⟨a, C, dx, fs, e, b, k _ _ b o, c⟩
  | .test, _, h => by unfold AO at h ⊢; obtain ⟨a, C, dx, fs, e, b, o, c⟩ := h; exact ⟨a, C, dx, fs, e, b, k _ _ b o, c⟩
  | .seq l ms, _, h => by unfold AO at h ⊢; obtain ⟨a, vs, e, b, o, c, r⟩ := h; exact ⟨a, vs, e, b, k _ _ b o, c, AOs.keep k r⟩
theorem AOs.keep (k : ∀ b o, ¬ bad b → H b = some o → H' b = some o) : ∀ {ms : List AM} {vs : List V}, AOs A bad H ms vs → AOs A bad H' ms vs
  | [], _, h => by unfold AOs at h ⊢; exact h
  | m :: ms, _, h => by unfold AOs at h ⊢; obtain ⟨v, ws, e, x, y⟩ := h; exact ⟨v, ws, e, AO.keep k x, AOs.keep k y⟩
end
mutual
theorem AO.less (k : ∀ b, H b ≠ none → bad' b → bad b) : ∀ {m : AM} {v : V}, AO A bad H m v → AO A bad' H m v
  | .non, _, h => by unfold AO at h ⊢; exact h
  | .bl _, _, h => by unfold AO at h ⊢; exact h
  | .int _, _, h => by unfold AO at h ⊢; exact h
  | .str _, _, h => by unfold AO at h ⊢; exact h
  | .row, _, h => by unfold AO at h ⊢; obtain ⟨a, C, dx, fs, e, b, o, c⟩ := h; exact ⟨a, C, dx, fs, e, fun z => b (k _ (by rw [o]; simp) z), o, c⟩
  | .test, _, h => by unfold AO at h ⊢; obtain ⟨a, C, dx, fs, e, b, o, c⟩ := h; exact ⟨a, C, dx, fs, e, fun z => b (k _ (by rw [o]; simp) z), o, c⟩
  | .seq l ms, _, h => by unfold AO at h ⊢; obtain ⟨a, vs, e, b, o, c, r⟩ := h; exact ⟨a, vs, e, fun z => b (k _ (by rw [o]; simp) z), o, c, AOs.less k r⟩
theorem AOs.less (k : ∀ b, H b ≠ none → bad' b → bad b) : ∀ {ms : List AM} {vs : List V}, AOs A bad H ms vs → AOs A bad' H ms vs
  | [], _, h => by unfold AOs at h ⊢; exact h
  | m :: ms, _, h => by unfold AOs at h ⊢; obtain ⟨v, ws, e, x, y⟩ := h; exact ⟨v, ws, e, AO.less k x, AOs.less k y⟩
end
theorem AO.ex {m : AM} {v : V} (h : AO A bad H m v) (e : Ex H H') : AO A bad H' m v := h.keep fun b o _ hb => e b o hb
theorem AOs.ex {ms : List AM} {vs : List V} (h : AOs A bad H ms vs) (e : Ex H H') : AOs A bad H' ms vs := h.keep fun b o _ hb => e b o hb
theorem AOs.len : ∀ {ms : List AM} {vs : List V}, AOs A bad H ms vs → vs.length = ms.length
  | [], _, h => by unfold AOs at h; rw [h]; rfl
  | m :: ms, _, h => by unfold AOs at h; obtain ⟨v, ws, e, x, y⟩ := h; rw [e, List.length_cons, List.length_cons, AOs.len y]
theorem AOs.at_ : ∀ {ms : List AM} {vs : List V} {i : Nat} {v : V}, AOs A bad H ms vs → vs[i]? = some v → ∃ m, ms[i]? = some m ∧ AO A bad H m v
  | [], _, _, _, h, hi => by unfold AOs at h; rw [h] at hi; simp at hi
  | m :: ms, _, 0, _, h, hi => by
    unfold AOs at h; obtain ⟨v, ws, e, x, y⟩ := h
    rw [e, List.getElem?_cons_zero] at hi
    cases hi
    exact ⟨m, rfl, x⟩
  | m :: ms, _, i + 1, _, h, hi => by
    unfold AOs at h; obtain ⟨v, ws, e, x, y⟩ := h
    rw [e, List.getElem?_cons_succ] at hi
    rw [List.getElem?_cons_succ]
    exact AOs.at_ y hi
theorem AOs.nil : AOs A bad H [] [] := by unfold AOs; rfl
theorem AOs.cons {m : AM} {ms : List AM} {v : V} {vs : List V} (h : AO A bad H m v) (t : AOs A bad H ms vs) : AOs A bad H (m :: ms) (v :: vs) := by unfold AOs; exact ⟨v, vs, rfl, h, t⟩
theorem AOs.snoc {m : AM} {v : V} (h : AO A bad H m v) : ∀ {ms : List AM} {vs : List V}, AOs A bad H ms vs → AOs A bad H (ms ++ [m]) (vs ++ [v])
  | [], _, t => by unfold AOs at t; rw [t]; exact .cons h .nil
  | _ :: _, _, t => by unfold AOs at t; obtain ⟨v, ws, e, x, y⟩ := t; rw [e]; exact .cons x (AOs.snoc h y)
theorem AOs.drop : ∀ {ms : List AM} {vs : List V} (n : Nat), AOs A bad H ms vs → AOs A bad H (ms.drop n) (vs.drop n)
  | _, _, 0, h => h
  | [], _, n + 1, h => by unfold AOs at h; rw [h]; exact .nil
  | m :: ms, _, n + 1, h => by unfold AOs at h; obtain ⟨v, ws, e, x, y⟩ := h; rw [e]; exact AOs.drop n y
theorem AOs.cases1 {m : AM} {ms : List AM} {vs : List V} (h : AOs A bad H (m :: ms) vs) : ∃ v ws, vs = v :: ws ∧ AO A bad H m v ∧ AOs A bad H ms ws := by unfold AOs at h; exact h
theorem AOs.cases0 {vs : List V} (h : AOs A bad H [] vs) : vs = [] := by unfold AOs at h; exact h
end
/-! ### what isinstance says -/
def AM.is (m : AM) (c : String) : Bool := match m with
  | .non => decide (c = "NoneType")
  | .bl _ => decide (c = "bool" ∨ c = "int")
  | .int _ => decide (c = "int")
  | .str _ => decide (c = "str")
  | .row | .test => false
  | .seq l _ => decide (c = if l then "list" else "tuple")
def AM.isR : AM → Bool
  | .row => true
  | _ => false
def AM.isT : AM → Bool
  | .test => true
  | _ => false
/-- the classes of rows and tests, as isinstance asks for them -/
structure KT (K : PySem.W.Frag) (A : ClsA) (row test : Addr) : Prop where
  kit : kitO K A row test = true
  put : OC K A.put
  ifr : OC K A.ifr
  times : OC K A.times
  stop : OC K A.stop
  ask : OC K A.ask
  not : OC K A.not
def askTs : List String := ["str", "tuple", "list", "int", "bool"]
section
variable {K : PySem.W.Frag} {A : ClsA} {row test : Addr} {bad : Addr → Prop} {H : Hp}
theorem kb_ok : (["NoneType", "bool", "int", "str", "list", "tuple"].all fun t => askTs.all fun c => kitB t c == some (decide (t = c ∨ (t = "bool" ∧ c = "int")))) = true := by decide +kernel
theorem kb_at {t c : String} (ht : t ∈ ["NoneType", "bool", "int", "str", "list", "tuple"]) (hc : c ∈ askTs) : kitB t c = some (decide (t = c ∨ (t = "bool" ∧ c = "int"))) := eq_of_beq (List.all_eq_true.mp (List.all_eq_true.mp kb_ok t ht) c hc)
theorem AO.ty (k : KT K A row test) {m : AM} {v : V} (h : AO A bad H m v) : ∃ t, TyX K H v t ∧ (∀ c ∈ askTs, PySem.W.kitOne K t (.type c) = some (m.is c)) ∧ PySem.W.kitOne K t (.ref row) = some m.isR ∧ PySem.W.kitOne K t (.ref test) = some m.isT := by
  have plain : ∀ {v : V} {t : String}, TyX K H v (.type t) → t ∈ ["NoneType", "bool", "int", "str", "list", "tuple"] → (∀ c ∈ askTs, decide (t = c ∨ (t = "bool" ∧ c = "int")) = m.is c) → m.isR = false → m.isT = false →
      ∃ t, TyX K H v t ∧ (∀ c ∈ askTs, PySem.W.kitOne K t (.type c) = some (m.is c)) ∧ PySem.W.kitOne K t (.ref row) = some m.isR ∧ PySem.W.kitOne K t (.ref test) = some m.isT := by
    intro v t ty ht ha hr hs
    have hp : t ∈ plainTs := by
      simp only [List.mem_cons, List.not_mem_nil, or_false, plainTs] at ht ⊢
      rcases ht with rfl | rfl | rfl | rfl | rfl | rfl <;> simp
    refine ⟨.type t, ty, fun c hc => by rw [kit_ty (kb_at ht hc), ha c hc], ?_, ?_⟩
    · rw [hr]; exact kitO3 k.kit 6 t (by decide) hp
    · rw [hs]; exact kitO3 k.kit 7 t (by decide) hp
  have inst : ∀ {a C dx : Addr} {fs : List (Str × V)} (i : Nat), i < 6 → (clsL A row test).getD i 0 = C → OC K C → H a = some (.ins C dx fs) → (∀ c ∈ askTs, m.is c = false) → m.isR = ansO i 6 → m.isT = ansO i 7 →
      ∃ t, TyX K H (.ref a) t ∧ (∀ c ∈ askTs, PySem.W.kitOne K t (.type c) = some (m.is c)) ∧ PySem.W.kitOne K t (.ref row) = some m.isR ∧ PySem.W.kitOne K t (.ref test) = some m.isT := by
    intro a C dx fs i hi hC oc ha hm hr hs
    refine ⟨.ref C, oc.ty ha, fun c hc => ?_, ?_, ?_⟩
    · rw [hm c hc, ← hC]
      refine kitO2 k.kit i c hi ?_
      simp only [askTs, List.mem_cons, List.not_mem_nil, or_false, plainTs] at hc ⊢
      rcases hc with rfl | rfl | rfl | rfl | rfl <;> simp
    · rw [hr, ← hC]; exact kitO1 k.kit i 6 hi (by decide)
    · rw [hs, ← hC]; exact kitO1 k.kit i 7 hi (by decide)
  cases m with
  | non => unfold AO at h; subst h; exact plain (.base .non) (by simp) (fun c hc => by simp only [askTs, List.mem_cons, List.not_mem_nil, or_false] at hc; rcases hc with rfl | rfl | rfl | rfl | rfl <;> rfl) rfl rfl
  | bl b => unfold AO at h; subst h; exact plain (.base (.bl _)) (by simp) (fun c hc => by simp only [askTs, List.mem_cons, List.not_mem_nil, or_false] at hc; rcases hc with rfl | rfl | rfl | rfl | rfl <;> rfl) rfl rfl
  | int i => unfold AO at h; obtain ⟨rfl, _⟩ := h; exact plain (.base (.int _)) (by simp) (fun c hc => by simp only [askTs, List.mem_cons, List.not_mem_nil, or_false] at hc; rcases hc with rfl | rfl | rfl | rfl | rfl <;> rfl) rfl rfl
  | str i => unfold AO at h; obtain ⟨rfl, _⟩ := h; exact plain (.base (.str _)) (by simp) (fun c hc => by simp only [askTs, List.mem_cons, List.not_mem_nil, or_false] at hc; rcases hc with rfl | rfl | rfl | rfl | rfl <;> rfl) rfl rfl
  | seq l xs =>
    unfold AO at h
    obtain ⟨a, vs, rfl, _, o, _, _⟩ := h
    cases l with
    | true => exact plain (.base (.lst o)) (by simp) (fun c hc => by simp only [askTs, List.mem_cons, List.not_mem_nil, or_false] at hc; rcases hc with rfl | rfl | rfl | rfl | rfl <;> rfl) rfl rfl
    | false => exact plain (.base (.tup o)) (by simp) (fun c hc => by simp only [askTs, List.mem_cons, List.not_mem_nil, or_false] at hc; rcases hc with rfl | rfl | rfl | rfl | rfl <;> rfl) rfl rfl
  | row =>
    unfold AO at h
    obtain ⟨a, C, dx, fs, rfl, _, o, c⟩ := h
    rcases c with rfl | rfl | rfl | rfl
    · exact inst 0 (by decide) rfl k.put o (fun _ _ => rfl) rfl rfl
    · exact inst 1 (by decide) rfl k.ifr o (fun _ _ => rfl) rfl rfl
    · exact inst 2 (by decide) rfl k.times o (fun _ _ => rfl) rfl rfl
    · exact inst 3 (by decide) rfl k.stop o (fun _ _ => rfl) rfl rfl
  | test =>
    unfold AO at h
    obtain ⟨a, C, dx, fs, rfl, _, o, c⟩ := h
    rcases c with rfl | rfl
    · exact inst 4 (by decide) rfl k.ask o (fun _ _ => rfl) rfl rfl
    · exact inst 5 (by decide) rfl k.not o (fun _ _ => rfl) rfl rfl
theorem AO.isi (k : KT K A row test) {m : AM} {v : V} (h : AO A bad H m v) {c : String} {Q : VK} (hc : c ∈ askTs) (q : Q (.bl (m.is c)) H) : rIsi K [v, .ty c] H Q := by
  obtain ⟨t, ty, a, _, _⟩ := h.ty k
  exact ⟨_, _, _, _, _, rfl, .ty c, ty, a c hc, q⟩
theorem AO.isi_row (k : KT K A row test) {m : AM} {v : V} (h : AO A bad H m v) {Q : VK} (q : Q (.bl m.isR) H) : rIsi K [v, .ref row] H Q := by
  obtain ⟨t, ty, _, a, _⟩ := h.ty k
  exact ⟨_, _, _, _, _, rfl, .own _, ty, a, q⟩
theorem AO.isi_test (k : KT K A row test) {m : AM} {v : V} (h : AO A bad H m v) {Q : VK} (q : Q (.bl m.isT) H) : rIsi K [v, .ref test] H Q := by
  obtain ⟨t, ty, _, _, a⟩ := h.ty k
  exact ⟨_, _, _, _, _, rfl, .own _, ty, a, q⟩
/-- isinstance(v, (list, tuple)) -/
theorem AO.isi_lt (k : KT K A row test) {m : AM} {v : V} (h : AO A bad H m v) {Q : VK} {tp : Addr} (ht : H tp = some (.tup [.ty "list", .ty "tuple"])) (q : Q (.bl (m.is "list" || m.is "tuple")) H) : rIsiT K [v, .ref tp] H Q := by
  obtain ⟨t, ty, a, _, _⟩ := h.ty k
  refine ⟨v, tp, _, t, _, _, rfl, ht, .cons (.ty _) (.cons (.ty _) .nil), ty, kitAny_cons (a "list" (by simp [askTs])) (fun e => kitAny_cons (a "tuple" (by simp [askTs])) (fun e2 => ?_) (fun e2 => by rw [e, e2]; rfl)) (fun e => by rw [e]; rfl), q⟩
  rw [e, e2]
  exact kitAny_nil
end
/-! ### an own object whose __init__ may raise -/
def tMakeS (C : Addr) (sp : Sp) (E : L2.St → XK) (t : TA) : TE := fun σ H Q => t σ H fun vs H1 => ∀ x dx, H1 x = none → H1 dx = none → dx ≠ x →
  sp (V.ref x :: vs) (upd (upd H1 dx (.own x)) x (.ins C dx [])) (fun v H2 => v = .non ∧ Q (.ref x) H2) (E σ)
section
variable {X : Cx} {CX : CXT} {k : Nat} {f C : Addr} {sp : Sp} {E : L2.St → XK} {x : Str} {e : Expr} {es : List Expr} {t : TA} {p pos : Pos}
theorem pe_makeS (M : Mk X.K C f) (F : FnR X.prog X.w X.K X.mg X.base CX k f sp) (hr : Room (k + 1) X.A) (hg : Gl X x) (hm : X.mg x = some (.ref C)) (hx : ∀ σ, PassesAt CX X σ (E σ)) (ha : PA X (e :: es) t)
    (hdb : (x == ("__debug__" : Str)) = false := by decide) (he : starEach (e :: es) X.env = (false, eval e X.env) :: starEach es X.env := by rfl)
    (hpl : (backTo pos (starEach es X.env)).any (·.1) = false := by rfl) : PE X (.Call (.Name x p) (e :: es) [] pos) (tMakeS C sp E t) := by
  refine ⟨fun pins s σ H Q I h => wpAny_Call_Name_kw (ld_glob I hg hm ?_ hdb)⟩
  refine PySem.W.callWith_K (h₀ := X.base) I.ok.mod.kin M.kp (thn (ha.run pos pins s σ H _ I h) fun us s1 ⟨vs, H1, I1, r, q⟩ => ⟨I1.kIn, ?_⟩) he hpl
  have n1 := I1.hok.fresh (Nat.le_succ s1.heap.objs.size)
  have n2 := I1.hok.fresh (Nat.le_refl s1.heap.objs.size)
  have q1 := q _ _ n1 n2 (Nat.ne_of_lt (Nat.lt_succ_self _))
  have I2 := Inv.made (C := C) I1
  refine wpAny_call (make_map (f := f) I1.kIn M.makes M.init (beq_iff_eq.mp M.fn) (codeAny_mono (F _ X.stack _ _ _ _ _ (E σ) (hr.make C us []) (I2.env0.make C us []) (show Vals (V.ref (s1.heap.objs.size + 1) :: vs) (Value.ref (s1.heap.objs.size + 1) :: us) from .cons rfl r) q1) fun w s2 z => ?_))
  match w, z with
  | .error u, z => exact hx σ pins _ _ u s2 I2 z
  | .ok (.ret u), z =>
    obtain ⟨y, H3, I3, ry, rfl, q3⟩ := I2.after z
    exact ⟨ry, ⟨V.ref (s1.heap.objs.size + 1), H3, I3, rfl, q3⟩⟩
end
/-! ### isinstance of a caught own error, one class -/
section
variable {X : Cx} {C a : Addr} {oe : Obj} {cls : Value} {d : Option Addr} {pn : List (Addr × Obj)}
def rIsE1 (K : PySem.W.Frag) (C a : Addr) (cls : Value) (d : Option Addr) : List V → Hp → VK → Prop := fun xs H Q => ∃ (dd : Addr) (fs : List (Str × V)) (c1 : Addr) (b : Bool),
  xs = [.ref a, .ref c1] ∧ cls = .ref C ∧ d = some dd ∧ H dd = some (.xd fs) ∧ PySem.W.kitOne K (.ref C) (.ref c1) = some b ∧ Q (.bl b) H
theorem call_isE1 {x f : Str} {fI : Addr} (T : ErrX X.K X.mg x f C fI) (hz : Zc cls d oe) (hf : ∃ vs, oe.data = .fields vs) : CallR (X.suite a ((a, oe) :: pn)) (.builtin "isinstance") (rIsE1 X.K C a cls d) := by
  intro pins s σ H xs us Q I r h
  obtain ⟨dd, fs, c1, b, rfl, ec, ed, hdd, e, q⟩ := h
  subst ec ed
  obtain ⟨u1, u2, rfl, r1, r2⟩ := vals2 r
  obtain rfl : u1 = Value.ref a := r1
  obtain rfl : u2 = Value.ref c1 := r2
  obtain ⟨hget, _⟩ := I.pin (a, oe) (List.mem_append.mpr (.inl List.mem_cons_self))
  obtain ⟨vs, hv⟩ := hf
  obtain ⟨mA, hns, _⟩ := (show ObjOk X.prog X.w H s.heap dd (.xd fs) from I.hok dd _ hdd)
  obtain ⟨od, ho, _⟩ := lookIn_ns hns
  have J : PySem.W.InstAt s.heap a oe C (some od) := ⟨hget, hz.1, by unfold PySem.W.notCls; rw [hv] <;> rfl, by rw [hz.2]; exact ho⟩
  exact PySem.W.kia_one (PySem.W.kitx_exc T.isC T.xf.ga T.xf.gg T.xf.exC T.ha T.hn T.ht T.hm) I.kIn J e (fun z => nomatch z) fun tk => ⟨.bl b, H, I.tok tk, rfl, q⟩
end
/-! ### a table of the module: the keys that it has not -/
theorem keyOf_str {e : DictEntry} {k : Str} {hs : Int} (h : He.keyOf e = some (k, hs)) : ∃ t, e.key = .str k t := by
  unfold He.keyOf at h
  split at h
  · rename_i x t q
    have h1 := Option.some.inj h
    exact ⟨t, by rw [q, (Prod.mk.inj h1).1]⟩
  · cases h
theorem mem_keys {P : Params} : ∀ {l : List DictEntry} {ks : List Str}, l.map He.keyOf = He.keysIn P ks → ∀ e ∈ l, ∃ k ∈ ks, ∃ t, e.key = .str k t
  | [], _, _, e, he => by cases he
  | d :: l, [], h, e, he => by cases h
  | d :: l, k :: ks, h, e, he => by
    have h1 : He.keyOf d :: l.map He.keyOf = some (k, PyData.keyHash P k) :: He.keysIn P ks := h
    injection h1 with h2 h3
    cases he with
    | head => obtain ⟨t, ht⟩ := keyOf_str h2; exact ⟨k, List.mem_cons_self .., t, ht⟩
    | tail _ he =>
      obtain ⟨k2, hk, t, ht⟩ := mem_keys h3 e he
      exact ⟨k2, List.mem_cons_of_mem _ hk, t, ht⟩
theorem nsIn_none {K : PySem.W.Frag} {P : Params} {a : Addr} {ks : List Str} {z : Str} (h : He.dicW K a = some (He.keysIn P ks)) (hz : z ∉ ks) : PySem.W.nsIn K a z = some none := by
  have key : ∃ (c : Value) (od : Option Addr) (es : Array DictEntry) (n : Nat) (sl : Array (Option Value)), K.lookup a = some ⟨c, od, .dict es n, sl⟩ ∧ es.toList.map He.keyOf = He.keysIn P ks := by
    unfold He.dicW at h
    split at h
    · rename_i c es n sl q
      split at h
      · exact ⟨_, _, es, n, sl, q, Option.some.inj h⟩
      · cases h
    · cases h
  obtain ⟨c, od, es, n, sl, hl, hk⟩ := key
  unfold PySem.W.nsIn
  rw [hl]
  dsimp only
  have h1 : es.toList.find? (·.key.isStr z) = none := by
    refine List.find?_eq_none.mpr fun e he => ?_
    obtain ⟨k, hk2, t, ht⟩ := mem_keys hk e he
    rw [ht, PySem.W.isStr_of]
    unfold Value.isStrOf
    intro y
    exact hz (eq_of_beq y ▸ hk2)
  have h2 : (es.toList.any (·.refKey)) = false := by
    refine List.any_eq_false.mpr fun e he => ?_
    obtain ⟨k, hk2, t, ht⟩ := mem_keys hk e he
    unfold DictEntry.refKey
    rw [ht]
    simp
  rw [h1, h2]
  rfl
section
variable {X : Cx}
theorem call_isiTK {K : PySem.W.Frag} (hK : X.K = K := by rfl) : CallR X (.builtin "isinstance") (rIsiT K) := by
  subst hK
  exact call_isiT
end
end My
set_option Elab.async false
set_option linter.all false
set_option maxRecDepth 100000
set_option maxHeartbeats 4000000
set_option exponentiation.threshold 5000
namespace My
open PySem PySem.Spec PyProof.Rows L2 Evl
local macro_rules | `(tactic| walk_at "st") => `(tactic| simp only [L2.start, List.map_cons, List.map_nil, List.length_cons, List.length_nil, Nat.reduceAdd, Nat.reduceSub, List.replicate_succ, List.replicate_zero, List.cons_append, List.nil_append, cxOf, List.append_nil])
local macro_rules | `(tactic| walk_at "vc") => `(tactic| try simp only [tSeq, tAsg, tOp, tUn, tVar, tC, tNil, tCons, gName, rI, rI0, rU, tRet, tIfS, tNot, tAnd, tOr, tB, tTest, tCB, tCall, tAndV, tOrV, tNotV, tNext, tNever, tIf, tChain, tYes, tPart, tNoPart, tPar, tDrop, q_isi, q_vn, q_vb, q_vi, q_vs, kb1, kb2, kb3, kb4, kb5, kb6, kb7, kb8, q_int1, q_int2, q_min, q_max, q_repr, tLst, tTup, rEq, rNe, q_sii, q_sss, q_sbb, q_snn, q_sns, q_ssn, q_ix, q_sl, tSl, tBM, tBM0, q_app, q_pop, gSub, rSetL, L2.wipe, eq_self, decide_true, decide_false, tRevL,
  List.getElem?_cons_succ, List.getElem?_cons_zero, List.set_cons_succ, List.set_cons_zero, Option.some.injEq, exists_eq_left', exists_eq_left, V.int.injEq, V.bl.injEq, V.ref.injEq, V.str.injEq, List.cons.injEq, and_true, true_and, List.append_nil, List.nil_append, List.cons_append, exists_and_left, and_assoc, if_true, if_false, Bool.not_true, Bool.not_false, Bool.false_eq_true, Bool.true_eq_false, reduceIte, tRevL, tPar3, tRevT, tUnl, tCKw, forall_const, Bool.not_eq_true', decide_eq_true_eq, decide_eq_false_iff_not])
structure Txt (w : World) (K : PySem.W.Frag) (mg : Str → Option Value) (a_is_integer a_is_number a_is_base a_is_name a_are_rows a_needed a_fits a_is_of a_inner a_flat a_names_in a_bare a_named a_number_of a_joined a_result a_holding a_written a_part a_of_one a_of_two a_power a_run a_came_to a_holds a_law_deal a_law_draw a_law_pick a_law_words a_law_ask_of a_law_row_of a_law_told a_law a_Stopped_init a_Put_init a_If_init a_Times_init a_Ask_init a_Not_init a_Program_init a_Program_call a_Walk_init a_Walk_go a_Walk_do a_Walk_put a_Walk_decide a_Walk_choose a_InvalidBase a_Stopped a_FigureError a_InvalidNumber a_Put a_If a_Times a_Stop a_Ask a_Not a_Row a_Test a_Program a_Walk a_DEEDS a_SIGNS a_WORDS a_If_init_d0 a_Program_init_d0 : Addr) (d_is_integer d_is_number d_is_base d_is_name d_are_rows d_needed d_fits d_is_of d_inner d_flat d_names_in d_bare d_named d_number_of d_joined d_result d_holding d_written d_part d_of_one d_of_two d_power d_run d_came_to d_holds d_law_deal d_law_draw d_law_pick d_law_words d_law_ask_of d_law_row_of d_law_told d_law d_Stopped_init d_Put_init d_If_init d_Times_init d_Ask_init d_Not_init d_Program_init d_Program_call d_Walk_init d_Walk_go d_Walk_do d_Walk_put d_Walk_decide d_Walk_choose : FuncData) : Prop where
  F_is_integer : Fun K "is_integer" "is_integer" s_is_integer a_is_integer d_is_integer
  b_is_integer : Binds K d_is_integer ["value"] []
  g_is_integer : mg "is_integer" = some (.ref a_is_integer)
  F_is_number : Fun K "is_number" "is_number" s_is_number a_is_number d_is_number
  b_is_number : Binds K d_is_number ["value"] []
  g_is_number : mg "is_number" = some (.ref a_is_number)
  F_is_base : Fun K "is_base" "is_base" s_is_base a_is_base d_is_base
  b_is_base : Binds K d_is_base ["value"] []
  g_is_base : mg "is_base" = some (.ref a_is_base)
  F_is_name : Fun K "is_name" "is_name" s_is_name a_is_name d_is_name
  b_is_name : Binds K d_is_name ["value"] []
  g_is_name : mg "is_name" = some (.ref a_is_name)
  F_are_rows : Fun K "are_rows" "are_rows" s_are_rows a_are_rows d_are_rows
  b_are_rows : Binds K d_are_rows ["value"] []
  g_are_rows : mg "are_rows" = some (.ref a_are_rows)
  F_needed : Fun K "needed" "needed" s_needed a_needed d_needed
  b_needed : Binds K d_needed ["deed", "many"] []
  g_needed : mg "needed" = some (.ref a_needed)
  F_fits : Fun K "_fits" "_fits" s_fits a_fits d_fits
  b_fits : Binds K d_fits ["deed", "given"] []
  g_fits : mg "_fits" = some (.ref a_fits)
  F_is_of : Fun K "_is_of" "_is_of" s_is_of a_is_of d_is_of
  b_is_of : Binds K d_is_of ["kind", "value"] []
  g_is_of : mg "_is_of" = some (.ref a_is_of)
  F_inner : Fun K "inner" "inner" s_inner a_inner d_inner
  b_inner : Binds K d_inner ["row"] []
  g_inner : mg "inner" = some (.ref a_inner)
  F_flat : Fun K "flat" "flat" s_flat a_flat d_flat
  b_flat : Binds K d_flat ["rows"] []
  g_flat : mg "flat" = some (.ref a_flat)
  F_names_in : Fun K "names_in" "names_in" s_names_in a_names_in d_names_in
  b_names_in : Binds K d_names_in ["rows"] []
  g_names_in : mg "names_in" = some (.ref a_names_in)
  F_bare : Fun K "bare" "bare" s_bare a_bare d_bare
  b_bare : Binds K d_bare ["test"] []
  g_bare : mg "bare" = some (.ref a_bare)
  F_named : Fun K "_named" "_named" s_named a_named d_named
  b_named : Binds K d_named ["row"] []
  g_named : mg "_named" = some (.ref a_named)
  F_number_of : Fun K "number_of" "number_of" s_number_of a_number_of d_number_of
  b_number_of : Binds K d_number_of ["figures", "base"] []
  g_number_of : mg "number_of" = some (.ref a_number_of)
  F_joined : Fun K "joined" "joined" s_joined a_joined d_joined
  b_joined : Binds K d_joined ["number", "other", "base"] []
  g_joined : mg "joined" = some (.ref a_joined)
  F_result : Fun K "result" "result" s_result a_result d_result
  b_result : Binds K d_result ["deed", "given", "base"] []
  g_result : mg "result" = some (.ref a_result)
  F_holding : Fun K "holding" "holding" s_holding a_holding d_holding
  b_holding : Binds K d_holding ["test", "held", "base"] []
  g_holding : mg "holding" = some (.ref a_holding)
  F_written : Fun K "_written" "_written" s_written a_written d_written
  b_written : Binds K d_written ["figures", "base"] []
  g_written : mg "_written" = some (.ref a_written)
  F_part : Fun K "_part" "_part" s_part a_part d_part
  b_part : Binds K d_part ["deed", "k", "x", "base"] []
  g_part : mg "_part" = some (.ref a_part)
  F_of_one : Fun K "_of_one" "_of_one" s_of_one a_of_one d_of_one
  b_of_one : Binds K d_of_one ["deed", "x", "base"] []
  g_of_one : mg "_of_one" = some (.ref a_of_one)
  F_of_two : Fun K "_of_two" "_of_two" s_of_two a_of_two d_of_two
  b_of_two : Binds K d_of_two ["deed", "x", "y", "base"] []
  g_of_two : mg "_of_two" = some (.ref a_of_two)
  F_power : Fun K "_power" "_power" s_power a_power d_power
  b_power : Binds K d_power ["x", "k"] []
  g_power : mg "_power" = some (.ref a_power)
  F_run : Fun K "run" "run" s_run a_run d_run
  b_run : Binds K d_run ["program", "base"] []
  g_run : mg "run" = some (.ref a_run)
  F_came_to : Fun K "came_to" "came_to" s_came_to a_came_to d_came_to
  b_came_to : Binds K d_came_to ["program", "base"] []
  g_came_to : mg "came_to" = some (.ref a_came_to)
  F_holds : Fun K "holds" "holds" s_holds a_holds d_holds
  b_holds : Binds K d_holds ["program", "base", "test"] []
  g_holds : mg "holds" = some (.ref a_holds)
  F_law_deal : Fun K "_law_deal" "_law_deal" s_law_deal a_law_deal d_law_deal
  b_law_deal : Binds K d_law_deal ["_law_script", "_law_radix"] []
  g_law_deal : mg "_law_deal" = some (.ref a_law_deal)
  F_law_draw : Fun K "_law_draw" "_law_draw" s_law_draw a_law_draw d_law_draw
  b_law_draw : Binds K d_law_draw ["_law_deal_here", "_law_amount"] []
  g_law_draw : mg "_law_draw" = some (.ref a_law_draw)
  F_law_pick : Fun K "_law_pick" "_law_pick" s_law_pick a_law_pick d_law_pick
  b_law_pick : Binds K d_law_pick ["_law_deal_here", "_law_some"] []
  g_law_pick : mg "_law_pick" = some (.ref a_law_pick)
  F_law_words : Fun K "_law_words" "_law_words" s_law_words a_law_words d_law_words
  b_law_words : Binds K d_law_words ["_law_deal_here", "_law_amount"] []
  g_law_words : mg "_law_words" = some (.ref a_law_words)
  F_law_ask_of : Fun K "_law_ask_of" "_law_ask_of" s_law_ask_of a_law_ask_of d_law_ask_of
  b_law_ask_of : Binds K d_law_ask_of ["_law_test"] []
  g_law_ask_of : mg "_law_ask_of" = some (.ref a_law_ask_of)
  F_law_row_of : Fun K "_law_row_of" "_law_row_of" s_law_row_of a_law_row_of d_law_row_of
  b_law_row_of : Binds K d_law_row_of ["_law_row"] []
  g_law_row_of : mg "_law_row_of" = some (.ref a_law_row_of)
  F_law_told : Fun K "_law_told" "_law_told" s_law_told a_law_told d_law_told
  b_law_told : Binds K d_law_told ["_law_built", "_law_form", "_law_radix"] []
  g_law_told : mg "_law_told" = some (.ref a_law_told)
  F_law : Fun K "law" "law" s_law a_law d_law
  b_law : Binds K d_law ["_law_script"] []
  g_law : mg "law" = some (.ref a_law)
  F_Stopped_init : Fun K "__init__" "Stopped.__init__" s_Stopped_init a_Stopped_init d_Stopped_init
  b_Stopped_init : Binds K d_Stopped_init ["self", "at"] []
  F_Put_init : Fun K "__init__" "Put.__init__" s_Put_init a_Put_init d_Put_init
  F_If_init : FunD K "__init__" "If.__init__" (defArgs s_If_init) (defBody s_If_init) (defScope s_If_init) [.ref a_If_init_d0] [] a_If_init d_If_init
  b_If_init : Binds K d_If_init ["self", "test", "rows", "others"] []
  bd_If_init : Binds K d_If_init ["self", "test", "rows", "others"] [.ref a_If_init_d0]
  S_If_init_d0 : ∀ H, SqT K H a_If_init_d0 []
  F_Times_init : Fun K "__init__" "Times.__init__" s_Times_init a_Times_init d_Times_init
  b_Times_init : Binds K d_Times_init ["self", "count", "rows"] []
  F_Ask_init : Fun K "__init__" "Ask.__init__" s_Ask_init a_Ask_init d_Ask_init
  F_Not_init : Fun K "__init__" "Not.__init__" s_Not_init a_Not_init d_Not_init
  b_Not_init : Binds K d_Not_init ["self", "test"] []
  F_Program_init : FunD K "__init__" "Program.__init__" (defArgs s_Program_init) (defBody s_Program_init) (defScope s_Program_init) [.ref a_Program_init_d0] [] a_Program_init d_Program_init
  b_Program_init : Binds K d_Program_init ["self", "rows"] []
  bd_Program_init : Binds K d_Program_init ["self", "rows"] [.ref a_Program_init_d0]
  S_Program_init_d0 : ∀ H, SqT K H a_Program_init_d0 []
  F_Program_call : Fun K "__call__" "Program.__call__" s_Program_call a_Program_call d_Program_call
  b_Program_call : Binds K d_Program_call ["self", "base"] []
  F_Walk_init : Fun K "__init__" "Walk.__init__" s_Walk_init a_Walk_init d_Walk_init
  b_Walk_init : Binds K d_Walk_init ["self", "names", "among"] []
  F_Walk_go : Fun K "go" "Walk.go" s_Walk_go a_Walk_go d_Walk_go
  b_Walk_go : Binds K d_Walk_go ["self", "rows", "at"] []
  F_Walk_do : Fun K "do" "Walk.do" s_Walk_do a_Walk_do d_Walk_do
  b_Walk_do : Binds K d_Walk_do ["self", "row", "at"] []
  F_Walk_put : Fun K "put" "Walk.put" s_Walk_put a_Walk_put d_Walk_put
  b_Walk_put : Binds K d_Walk_put ["self", "row", "at"] []
  F_Walk_decide : Fun K "decide" "Walk.decide" s_Walk_decide a_Walk_decide d_Walk_decide
  b_Walk_decide : Binds K d_Walk_decide ["self", "test"] []
  F_Walk_choose : Fun K "choose" "Walk.choose" s_Walk_choose a_Walk_choose d_Walk_choose
  b_Walk_choose : Binds K d_Walk_choose ["self", "row", "at"] []
  E_InvalidBase : ErrR0 K mg "InvalidBase" a_InvalidBase
  E_Stopped : ErrR K mg "Stopped" "at" a_Stopped a_Stopped_init
  kx_InvalidBase_Stopped : PySem.W.exmOne K (.ref a_InvalidBase) (.ref a_Stopped) = some false
  kx_Stopped_InvalidBase : PySem.W.exmOne K (.ref a_Stopped) (.ref a_InvalidBase) = some false
  kr_InvalidBase_FigureError : PySem.W.kitOne K (.ref a_InvalidBase) (.ref a_FigureError) = some true
  kr_InvalidBase_InvalidNumber : PySem.W.kitOne K (.ref a_InvalidBase) (.ref a_InvalidNumber) = some false
  kr_InvalidBase_Stopped : PySem.W.kitOne K (.ref a_InvalidBase) (.ref a_Stopped) = some false
  g_LETTERS : ∃ u, mg "LETTERS" = some u ∧ RelV (.str "abcdefghijklmnopqrstuvwxyz") u
  g_LONGEST_NAME : ∃ u, mg "LONGEST_NAME" = some u ∧ RelV (.int 4) u
  g_DEEDS : ∃ u, mg "DEEDS" = some u ∧ RelV (.ref a_DEEDS) u
  g_SIGNS : ∃ u, mg "SIGNS" = some u ∧ RelV (.ref a_SIGNS) u
  g_WORDS : ∃ u, mg "WORDS" = some u ∧ RelV (.ref a_WORDS) u
  S_SIGNS : ∀ H, SqT K H a_SIGNS [.str "+", .str "-", .str "*", .str "//", .str "**"]
  D_DEEDS : ∃ es n, KDict K w a_DEEDS es n
  I_DEEDS_0 : ∃ t, PySem.W.nsIn K a_DEEDS "figures" = some (some (.ref t)) ∧ ∀ H, SqT K H t [.str "number"]
  I_DEEDS_1 : ∃ t, PySem.W.nsIn K a_DEEDS "number" = some (some (.ref t)) ∧ ∀ H, SqT K H t [.str "number"]
  I_DEEDS_2 : ∃ t, PySem.W.nsIn K a_DEEDS "base" = some (some (.ref t)) ∧ ∀ H, SqT K H t []
  I_DEEDS_3 : ∃ t, PySem.W.nsIn K a_DEEDS "let" = some (some (.ref t)) ∧ ∀ H, SqT K H t [.str "name"]
  I_DEEDS_4 : ∃ t, PySem.W.nsIn K a_DEEDS "+" = some (some (.ref t)) ∧ ∀ H, SqT K H t [.str "name", .str "name"]
  I_DEEDS_5 : ∃ t, PySem.W.nsIn K a_DEEDS "-" = some (some (.ref t)) ∧ ∀ H, SqT K H t [.str "name", .str "name"]
  I_DEEDS_6 : ∃ t, PySem.W.nsIn K a_DEEDS "*" = some (some (.ref t)) ∧ ∀ H, SqT K H t [.str "name", .str "name"]
  I_DEEDS_7 : ∃ t, PySem.W.nsIn K a_DEEDS "//" = some (some (.ref t)) ∧ ∀ H, SqT K H t [.str "name", .str "name"]
  I_DEEDS_8 : ∃ t, PySem.W.nsIn K a_DEEDS "rest" = some (some (.ref t)) ∧ ∀ H, SqT K H t [.str "name", .str "name"]
  I_DEEDS_9 : ∃ t, PySem.W.nsIn K a_DEEDS "**" = some (some (.ref t)) ∧ ∀ H, SqT K H t [.str "name", .str "number"]
  I_DEEDS_10 : ∃ t, PySem.W.nsIn K a_DEEDS "turned" = some (some (.ref t)) ∧ ∀ H, SqT K H t [.str "name"]
  I_DEEDS_11 : ∃ t, PySem.W.nsIn K a_DEEDS "least" = some (some (.ref t)) ∧ ∀ H, SqT K H t [.str "name"]
  I_DEEDS_12 : ∃ t, PySem.W.nsIn K a_DEEDS "greatest" = some (some (.ref t)) ∧ ∀ H, SqT K H t [.str "name"]
  I_DEEDS_13 : ∃ t, PySem.W.nsIn K a_DEEDS "sum" = some (some (.ref t)) ∧ ∀ H, SqT K H t [.str "name"]
  I_DEEDS_14 : ∃ t, PySem.W.nsIn K a_DEEDS "many" = some (some (.ref t)) ∧ ∀ H, SqT K H t [.str "name"]
  I_DEEDS_15 : ∃ t, PySem.W.nsIn K a_DEEDS "root" = some (some (.ref t)) ∧ ∀ H, SqT K H t [.str "name"]
  I_DEEDS_16 : ∃ t, PySem.W.nsIn K a_DEEDS "figure" = some (some (.ref t)) ∧ ∀ H, SqT K H t [.str "number", .str "name"]
  I_DEEDS_17 : ∃ t, PySem.W.nsIn K a_DEEDS "first" = some (some (.ref t)) ∧ ∀ H, SqT K H t [.str "number", .str "name"]
  I_DEEDS_18 : ∃ t, PySem.W.nsIn K a_DEEDS "last" = some (some (.ref t)) ∧ ∀ H, SqT K H t [.str "number", .str "name"]
  I_DEEDS_19 : ∃ t, PySem.W.nsIn K a_DEEDS "joined" = some (some (.ref t)) ∧ ∀ H, SqT K H t [.str "name", .str "name"]
  I_DEEDS_20 : ∃ t, PySem.W.nsIn K a_DEEDS "common" = some (some (.ref t)) ∧ ∀ H, SqT K H t [.str "name", .str "name"]
  I_DEEDS_21 : ∃ t, PySem.W.nsIn K a_DEEDS "lesser" = some (some (.ref t)) ∧ ∀ H, SqT K H t [.str "name", .str "name"]
  D_WORDS : ∃ es n, KDict K w a_WORDS es n
  I_WORDS_0 : ∃ t, PySem.W.nsIn K a_WORDS "same" = some (some (.int 2 t))
  I_WORDS_1 : ∃ t, PySem.W.nsIn K a_WORDS "less" = some (some (.int 2 t))
  I_WORDS_2 : ∃ t, PySem.W.nsIn K a_WORDS "divides" = some (some (.int 2 t))
  I_WORDS_3 : ∃ t, PySem.W.nsIn K a_WORDS "mirrored" = some (some (.int 1 t))
  I_WORDS_4 : ∃ t, PySem.W.nsIn K a_WORDS "unlike" = some (some (.int 1 t))
  kits : kitO K ⟨a_Put, a_If, a_Times, a_Stop, a_Ask, a_Not⟩ a_Row a_Test = true
  oc_Put : OC K a_Put
  nF_Put_name : NoAttr K a_Put "name"
  nF_Put_deed : NoAttr K a_Put "deed"
  nF_Put_given : NoAttr K a_Put "given"
  M_Put : Mk K a_Put a_Put_init
  oc_If : OC K a_If
  nF_If_test : NoAttr K a_If "test"
  nF_If_rows : NoAttr K a_If "rows"
  nF_If_others : NoAttr K a_If "others"
  M_If : Mk K a_If a_If_init
  oc_Times : OC K a_Times
  nF_Times_count : NoAttr K a_Times "count"
  nF_Times_rows : NoAttr K a_Times "rows"
  M_Times : Mk K a_Times a_Times_init
  oc_Stop : OC K a_Stop
  N_Stop : New0 K a_Stop
  oc_Ask : OC K a_Ask
  nF_Ask_word : NoAttr K a_Ask "word"
  nF_Ask_names : NoAttr K a_Ask "names"
  M_Ask : Mk K a_Ask a_Ask_init
  oc_Not : OC K a_Not
  nF_Not_test : NoAttr K a_Not "test"
  M_Not : Mk K a_Not a_Not_init
  oc_Row : OC K a_Row
  oc_Test : OC K a_Test
  oc_Program : OC K a_Program
  ks_Program : PySem.W.kitOne K (.ref a_Program) (.ref a_Program) = some true
  kz_Program_Row : PySem.W.kitOne K (.ref a_Program) (.ref a_Row) = some false
  kl_Program_int : PySem.W.kitOne K (.ref a_Program) (.type "int") = some false
  nF_Program_rows : NoAttr K a_Program "rows"
  nF_Program_names : NoAttr K a_Program "names"
  mt_Program_call : MethC K "__call__" a_Program a_Program_call
  M_Program : Mk K a_Program a_Program_init
  oc_Walk : OC K a_Walk
  nF_Walk_among : NoAttr K a_Walk "among"
  nF_Walk_held : NoAttr K a_Walk "held"
  nF_Walk_came : NoAttr K a_Walk "came"
  mm_Walk_go : Meth K a_Walk "go" a_Walk_go
  mm_Walk_do : Meth K a_Walk "do" a_Walk_do
  mm_Walk_put : Meth K a_Walk "put" a_Walk_put
  mm_Walk_decide : Meth K a_Walk "decide" a_Walk_decide
  mm_Walk_choose : Meth K a_Walk "choose" a_Walk_choose
  M_Walk : Mk K a_Walk a_Walk_init
  g_FigureError : mg "FigureError" = some (.ref a_FigureError)
  g_InvalidNumber : mg "InvalidNumber" = some (.ref a_InvalidNumber)
  g_Put : mg "Put" = some (.ref a_Put)
  g_If : mg "If" = some (.ref a_If)
  g_Times : mg "Times" = some (.ref a_Times)
  g_Stop : mg "Stop" = some (.ref a_Stop)
  g_Ask : mg "Ask" = some (.ref a_Ask)
  g_Not : mg "Not" = some (.ref a_Not)
  g_Row : mg "Row" = some (.ref a_Row)
  g_Test : mg "Test" = some (.ref a_Test)
  g_Program : mg "Program" = some (.ref a_Program)
  g_Walk : mg "Walk" = some (.ref a_Walk)
  g_gcd : mg "gcd" = some (.builtin "math.gcd")
  z_abs : mg "abs" = none
  z_all : mg "all" = none
  z_bool : mg "bool" = none
  z_int : mg "int" = none
  z_isinstance : mg "isinstance" = none
  z_len : mg "len" = none
  z_list : mg "list" = none
  z_max : mg "max" = none
  z_range : mg "range" = none
  z_sorted : mg "sorted" = none
  z_str : mg "str" = none
  z_tuple : mg "tuple" = none
  z_zip : mg "zip" = none
section
variable {P : Program} {w : World} {K : PySem.W.Frag} {mg : Str → Option Value} {base : Heap}
variable {a_is_integer a_is_number a_is_base a_is_name a_are_rows a_needed a_fits a_is_of a_inner a_flat a_names_in a_bare a_named a_number_of a_joined a_result a_holding a_written a_part a_of_one a_of_two a_power a_run a_came_to a_holds a_law_deal a_law_draw a_law_pick a_law_words a_law_ask_of a_law_row_of a_law_told a_law a_Stopped_init a_Put_init a_If_init a_Times_init a_Ask_init a_Not_init a_Program_init a_Program_call a_Walk_init a_Walk_go a_Walk_do a_Walk_put a_Walk_decide a_Walk_choose a_InvalidBase a_Stopped a_FigureError a_InvalidNumber a_Put a_If a_Times a_Stop a_Ask a_Not a_Row a_Test a_Program a_Walk a_DEEDS a_SIGNS a_WORDS a_If_init_d0 a_Program_init_d0 : Addr} {d_is_integer d_is_number d_is_base d_is_name d_are_rows d_needed d_fits d_is_of d_inner d_flat d_names_in d_bare d_named d_number_of d_joined d_result d_holding d_written d_part d_of_one d_of_two d_power d_run d_came_to d_holds d_law_deal d_law_draw d_law_pick d_law_words d_law_ask_of d_law_row_of d_law_told d_law d_Stopped_init d_Put_init d_If_init d_Times_init d_Ask_init d_Not_init d_Program_init d_Program_call d_Walk_init d_Walk_go d_Walk_do d_Walk_put d_Walk_decide d_Walk_choose : FuncData}
def isInt : V → Bool
  | .int _ => true
  | _ => false
def kindOk : Option String → Bool
  | some t => t == "int" || t == "bool" || t == "NoneType" || t == "str" || t == "list" || t == "tuple"
  | none => false
theorem isInt_of {H : Hp} {x : V} {t : String} (h : vty H x = some t) : isInt x = decide (t = "int") := by
  unfold vty at h
  split at h
  · cases h; rfl
  · cases h; rfl
  · cases h; rfl
  · cases h; rfl
  · split at h
    · cases h; rfl
    · cases h; rfl
    · cases h
  · cases h
/-- a value of the plain kinds -/
def sp_is_integer : Sp
  | [x], H, Q, _ => kindOk (vty H x) = true ∧ Q (.bl (isInt x)) H
  | _, _, _, _ => False
theorem ok_is_integer (T : Txt w K mg a_is_integer a_is_number a_is_base a_is_name a_are_rows a_needed a_fits a_is_of a_inner a_flat a_names_in a_bare a_named a_number_of a_joined a_result a_holding a_written a_part a_of_one a_of_two a_power a_run a_came_to a_holds a_law_deal a_law_draw a_law_pick a_law_words a_law_ask_of a_law_row_of a_law_told a_law a_Stopped_init a_Put_init a_If_init a_Times_init a_Ask_init a_Not_init a_Program_init a_Program_call a_Walk_init a_Walk_go a_Walk_do a_Walk_put a_Walk_decide a_Walk_choose a_InvalidBase a_Stopped a_FigureError a_InvalidNumber a_Put a_If a_Times a_Stop a_Ask a_Not a_Row a_Test a_Program a_Walk a_DEEDS a_SIGNS a_WORDS a_If_init_d0 a_Program_init_d0 d_is_integer d_is_number d_is_base d_is_name d_are_rows d_needed d_fits d_is_of d_inner d_flat d_names_in d_bare d_named d_number_of d_joined d_result d_holding d_written d_part d_of_one d_of_two d_power d_run d_came_to d_holds d_law_deal d_law_draw d_law_pick d_law_words d_law_ask_of d_law_row_of d_law_told d_law d_Stopped_init d_Put_init d_If_init d_Times_init d_Ask_init d_Not_init d_Program_init d_Program_call d_Walk_init d_Walk_go d_Walk_do d_Walk_put d_Walk_decide d_Walk_choose) : FnOk P w K mg base CX0 1 a_is_integer d_is_integer ["value"] sp_is_integer := by
  refine T.F_is_integer.ok sc_is_integer (fun vs H Q E h => ?_) (fun cdv A outer s H vs Q E hr h => ?_)
  · unfold sp_is_integer at h; split at h; rfl; exact h.elim
  · unfold sp_is_integer at h; split at h
    case h_2 => exact h.elim
    rename_i x
    obtain ⟨hk, h⟩ := h
    refine ⟨_, (pss_one (ps_ret (pe_and (pe_callB call_isiV (by rfl) T.z_isinstance (by decide +kernel) (pa_cons (pv 0) (pa_cons (pe_bltn (v := .ty "int") (by rfl) T.z_int (by decide +kernel) rfl) pa_nil))) (pe_one (pe_not (pe_callB call_isiV (by rfl) T.z_isinstance (by decide +kernel) (pa_cons (pv 0) (pa_cons (pe_bltn (v := .ty "bool") (by rfl) T.z_bool (by decide +kernel) rfl) pa_nil)))))))), ?_⟩
    walk_at "st"
    walk_at "vc"
    cases e : vty H x with
    | none => rw [e] at hk; cases hk
    | some t =>
      rw [e] at hk
      rw [isInt_of e] at h
      have h6 : ((((t = "int" ∨ t = "bool") ∨ t = "NoneType") ∨ t = "str") ∨ t = "list") ∨ t = "tuple" := by simpa [kindOk] using hk
      rcases h6 with ((((rfl | rfl) | rfl) | rfl) | rfl) | rfl
      · exact ⟨_, rfl, _, kb1, by rw [if_pos rfl]; exact ⟨_, rfl, _, kb2, h⟩⟩
      · exact ⟨_, rfl, _, kb3, by rw [if_pos rfl]; exact ⟨_, rfl, _, kb4, h⟩⟩
      · exact ⟨_, rfl, _, kb5, by rw [if_neg Bool.false_ne_true]; exact h⟩
      · exact ⟨_, rfl, _, kb6, by rw [if_neg Bool.false_ne_true]; exact h⟩
      · exact ⟨_, rfl, _, kb7, by rw [if_neg Bool.false_ne_true]; exact h⟩
      · exact ⟨_, rfl, _, kb8, by rw [if_neg Bool.false_ne_true]; exact h⟩
def sp_is_number : Sp
  | [.int n], H, Q, _ => Q (.bl (decide (0 ≤ n))) H
  | _, _, _, _ => False
theorem ok_is_number (T : Txt w K mg a_is_integer a_is_number a_is_base a_is_name a_are_rows a_needed a_fits a_is_of a_inner a_flat a_names_in a_bare a_named a_number_of a_joined a_result a_holding a_written a_part a_of_one a_of_two a_power a_run a_came_to a_holds a_law_deal a_law_draw a_law_pick a_law_words a_law_ask_of a_law_row_of a_law_told a_law a_Stopped_init a_Put_init a_If_init a_Times_init a_Ask_init a_Not_init a_Program_init a_Program_call a_Walk_init a_Walk_go a_Walk_do a_Walk_put a_Walk_decide a_Walk_choose a_InvalidBase a_Stopped a_FigureError a_InvalidNumber a_Put a_If a_Times a_Stop a_Ask a_Not a_Row a_Test a_Program a_Walk a_DEEDS a_SIGNS a_WORDS a_If_init_d0 a_Program_init_d0 d_is_integer d_is_number d_is_base d_is_name d_are_rows d_needed d_fits d_is_of d_inner d_flat d_names_in d_bare d_named d_number_of d_joined d_result d_holding d_written d_part d_of_one d_of_two d_power d_run d_came_to d_holds d_law_deal d_law_draw d_law_pick d_law_words d_law_ask_of d_law_row_of d_law_told d_law d_Stopped_init d_Put_init d_If_init d_Times_init d_Ask_init d_Not_init d_Program_init d_Program_call d_Walk_init d_Walk_go d_Walk_do d_Walk_put d_Walk_decide d_Walk_choose) : FnOk P w K mg base CX0 2 a_is_number d_is_number ["value"] sp_is_number := by
  have G_is_integer := ok_is_integer (P := P) (w := w) (base := base) T
  refine T.F_is_number.ok sc_is_number (fun vs H Q E h => ?_) (fun cdv A outer s H vs Q E hr h => ?_)
  · unfold sp_is_number at h; split at h; rfl; exact h.elim
  · unfold sp_is_number at h; split at h
    case h_2 => exact h.elim
    refine ⟨_, (pss_one (ps_ret (pe_and (pe_call G_is_integer (hr.mono (by decide)) (by rfl) T.g_is_integer T.F_is_integer.kp T.b_is_integer .nil pass0 (pa_cons (pv 0) pa_nil)) (pe_one (pe_cmpR op_ge (pv 0) pe_int (nomark _)))))), ?_⟩
    walk_at "st"
    walk_at "vc"
    simp only [sp_is_integer]
    walk_at "vc"
    exact ⟨by decide, by simpa only [isInt, if_true] using h⟩
def sp_is_base : Sp
  | [.int n], H, Q, _ => Q (.bl (decide (2 ≤ n))) H
  | _, _, _, _ => False
theorem ok_is_base (T : Txt w K mg a_is_integer a_is_number a_is_base a_is_name a_are_rows a_needed a_fits a_is_of a_inner a_flat a_names_in a_bare a_named a_number_of a_joined a_result a_holding a_written a_part a_of_one a_of_two a_power a_run a_came_to a_holds a_law_deal a_law_draw a_law_pick a_law_words a_law_ask_of a_law_row_of a_law_told a_law a_Stopped_init a_Put_init a_If_init a_Times_init a_Ask_init a_Not_init a_Program_init a_Program_call a_Walk_init a_Walk_go a_Walk_do a_Walk_put a_Walk_decide a_Walk_choose a_InvalidBase a_Stopped a_FigureError a_InvalidNumber a_Put a_If a_Times a_Stop a_Ask a_Not a_Row a_Test a_Program a_Walk a_DEEDS a_SIGNS a_WORDS a_If_init_d0 a_Program_init_d0 d_is_integer d_is_number d_is_base d_is_name d_are_rows d_needed d_fits d_is_of d_inner d_flat d_names_in d_bare d_named d_number_of d_joined d_result d_holding d_written d_part d_of_one d_of_two d_power d_run d_came_to d_holds d_law_deal d_law_draw d_law_pick d_law_words d_law_ask_of d_law_row_of d_law_told d_law d_Stopped_init d_Put_init d_If_init d_Times_init d_Ask_init d_Not_init d_Program_init d_Program_call d_Walk_init d_Walk_go d_Walk_do d_Walk_put d_Walk_decide d_Walk_choose) : FnOk P w K mg base CX0 2 a_is_base d_is_base ["value"] sp_is_base := by
  have G_is_integer := ok_is_integer (P := P) (w := w) (base := base) T
  refine T.F_is_base.ok sc_is_base (fun vs H Q E h => ?_) (fun cdv A outer s H vs Q E hr h => ?_)
  · unfold sp_is_base at h; split at h; rfl; exact h.elim
  · unfold sp_is_base at h; split at h
    case h_2 => exact h.elim
    refine ⟨_, (pss_one (ps_ret (pe_and (pe_call G_is_integer (hr.mono (by decide)) (by rfl) T.g_is_integer T.F_is_integer.kp T.b_is_integer .nil pass0 (pa_cons (pv 0) pa_nil)) (pe_one (pe_cmpR op_ge (pv 0) pe_int (nomark _)))))), ?_⟩
    walk_at "st"
    walk_at "vc"
    simp only [sp_is_integer]
    walk_at "vc"
    exact ⟨by decide, by simpa only [isInt, if_true] using h⟩
def sp_law_deal : Sp
  | [.ref a, .int k], H, Q, _ => ∃ ns : List Int, SqL K H a (ns.map V.int) ∧ ns.length ≤ 63 ∧ 0 ≤ k ∧ k ≤ 63 ∧ ∀ d L H', Ex H H' → Deal3 d L H' → Q (.ref d) H'
  | _, _, _, _ => False
def C_d1 (p D : Addr) (ms : List Int) (H : Hp) : Nat → Hp → Prop := fun i H' => ∃ vs : List Int, H' D = some (.lst (vs.map V.int)) ∧ vs.length = i ∧ (∀ v ∈ vs, 0 ≤ v) ∧ Ex H H' ∧ H' p = some (.lst (ms.map V.int))
def C_d2 (c D : Addr) (ms : List Int) (H : Hp) : Nat → Hp → Prop := fun i H' => ∃ vs : List Int, H' D = some (.lst (vs.map V.int)) ∧ vs.length ≤ i ∧ (∀ v ∈ vs, 0 ≤ v) ∧ Ex H H' ∧ H' c = some (.lst (ms.map V.int))
def I_dl (a c : Addr) (k : Int) (H : Hp) : Nat → L2.St → Hp → Prop := fun i σ H' => H' = H ∧ ∃ z x, σ = [some (.ref a), some (.int k), some (.ref c), some (.int z), x] ∧ 0 ≤ z ∧ z < 2147483647
theorem ok_law_deal (T : Txt w K mg a_is_integer a_is_number a_is_base a_is_name a_are_rows a_needed a_fits a_is_of a_inner a_flat a_names_in a_bare a_named a_number_of a_joined a_result a_holding a_written a_part a_of_one a_of_two a_power a_run a_came_to a_holds a_law_deal a_law_draw a_law_pick a_law_words a_law_ask_of a_law_row_of a_law_told a_law a_Stopped_init a_Put_init a_If_init a_Times_init a_Ask_init a_Not_init a_Program_init a_Program_call a_Walk_init a_Walk_go a_Walk_do a_Walk_put a_Walk_decide a_Walk_choose a_InvalidBase a_Stopped a_FigureError a_InvalidNumber a_Put a_If a_Times a_Stop a_Ask a_Not a_Row a_Test a_Program a_Walk a_DEEDS a_SIGNS a_WORDS a_If_init_d0 a_Program_init_d0 d_is_integer d_is_number d_is_base d_is_name d_are_rows d_needed d_fits d_is_of d_inner d_flat d_names_in d_bare d_named d_number_of d_joined d_result d_holding d_written d_part d_of_one d_of_two d_power d_run d_came_to d_holds d_law_deal d_law_draw d_law_pick d_law_words d_law_ask_of d_law_row_of d_law_told d_law d_Stopped_init d_Put_init d_If_init d_Times_init d_Ask_init d_Not_init d_Program_init d_Program_call d_Walk_init d_Walk_go d_Walk_do d_Walk_put d_Walk_decide d_Walk_choose) : FnOk P w K mg base CX0 1 a_law_deal d_law_deal ["_law_script", "_law_radix"] (sp_law_deal (K := K)) := by
  refine T.F_law_deal.ok sc_law_deal (fun vs H Q E h => ?_) (fun cdv A outer s H vs Q E hr h => ?_)
  · unfold sp_law_deal at h; split at h; rfl; exact h.elim
  unfold sp_law_deal at h; split at h
  case h_2 => exact h.elim
  rename_i a k
  obtain ⟨ns, hS, hl, k0, k1, q⟩ := h
  obtain ⟨ms, em, hm1, hm2⟩ := cut_ints ns (some k) (some 63)
  refine ⟨_, (pss_cons (ps_setLc (i := 2) (own := [("_law_cell", 4)]) (g := gName 4) (by rfl) sc_law_deal.nd rfl rfl (sw_true rfl rfl rfl (by decide +kernel)) (pi_list (pe_slice sl_listM (pv 0) (po_some (pv 1)) (po_some pe_int))) (blkOk_by (own := [("_law_cell", 4)]) (N := N_law_deal) (sc := defScope s_law_deal) (by decide +kernel)) (fun _ _ _ _ _ => (pg_name (i := 4) sc_law_deal.nd rfl (by first | exact .inl rfl | exact .inr rfl))) (fun _ _ _ _ _ => pts_nil) (fun _ _ _ _ _ => (pe_callB call_abs (by rfl) T.z_abs (by decide +kernel) (pa_cons (pv 4) pa_nil))))
      (pss_cons (ps_set (i := 3) sc_law_deal.nd rfl (by first | exact .inl rfl | exact .inr rfl) (pe_op op_add pe_int (pe_op op_mulX pe_int (pv 1))))
      (Evl.pss_cut (ps_for PassesOwn.never rfl (pi_list (pv 2)) (pg_name (i := 4) sc_law_deal.nd rfl (by first | exact .inl rfl | exact .inr rfl))
      (pss_one (ps_set (i := 3) sc_law_deal.nd rfl (by first | exact .inl rfl | exact .inr rfl) (pe_op op_mod (pe_callTy call_intM (by rfl) T.z_int (by decide +kernel) (pa_cons (pe_op op_add (pe_op op_add (pe_op op_mulX (pv 3) pe_int) (pe_op op_mod (pe_callTy call_intM (by rfl) T.z_int (by decide +kernel) (pa_cons (pv 4) pa_nil)) pe_int)) pe_int) pa_nil)) pe_int))))
      (pss_one (ps_ret (pe_lst (pa_cons (pe_revL (pe_lc (own := [("_law_cell", 4)]) (g := gName 4) (by rfl) sc_law_deal.nd (pi_list (pv 2)) (blkOk_by (own := [("_law_cell", 4)]) (N := N_law_deal) (sc := defScope s_law_deal) (by decide +kernel)) (fun _ _ _ _ _ => (pg_name (i := 4) sc_law_deal.nd rfl (by first | exact .inl rfl | exact .inr rfl))) (fun _ _ _ _ _ => (pts_one (pt_cmpR op_ge (pv 4) (pe_op op_pow pe_int pe_int) (nomark _)))) (fun _ _ _ _ _ => (pv 4)))) (pa_cons pe_int (pa_cons (pv 3) pa_nil))))))))), ?_⟩
  walk_at "st"
  refine ⟨_, rfl, _, rfl, _, rfl, _, rfl, _, hS, fun p hp => ⟨p, rfl, ⟨_, sq_of upd_same⟩, fun D hD => lc_list (xs := ms.map V.int) (C_d1 p D ms H) ?_ ?_ ?_ ?_⟩⟩
  · rw [em] at hD ⊢
    exact ⟨[], upd_same, rfl, fun v hv => (by cases hv), (Ex.new hp).trans (Ex.new hD), by rw [upd_ne (ne_of_none upd_same hD), upd_same]⟩
  · intro i H' _ h
    obtain ⟨vs, h1, h2, h3, h4, h5⟩ := h
    exact sq_of h5
  · intro i x H' hx h
    obtain ⟨vs, h1, h2, h3, h4, h5⟩ := h
    rw [List.getElem?_map] at hx
    obtain ⟨n, hn, rfl⟩ := Option.map_eq_some_iff.mp hx
    have hi : i < ms.length := (List.getElem?_eq_some_iff.mp hn).1
    rw [em] at hD
    have hDH : H D = none := (Ex.new hp).free hD
    have hDp : p ≠ D := ne_of_none upd_same hD
    walk_at "vc"
    have fin : ∀ z : Int, 0 ≤ z → C_d1 p D ms H (i + 1) (upd H' D (.lst (vs.map V.int ++ [.int z]))) := fun z hz =>
      ⟨vs ++ [z], by rw [upd_same, List.map_append]; rfl, by simp [h2], fun v hv => by
        rcases List.mem_append.mp hv with hv | hv
        · exact h3 v hv
        · rw [List.mem_singleton.mp hv]; exact hz, h4.mut hDH, by rw [upd_ne hDp]; exact h5⟩
    exact ⟨_, h1, sz_lt (by simp; omega), fin _ (by split <;> omega)⟩
  · intro H1 h
    obtain ⟨cs, h1, h2, h3, h4, h5⟩ := h
    have hcl : cs.length ≤ 63 := by rw [List.length_map] at h2; omega
    walk_at "vc"
    refine ⟨mulOk (by decide) (by decide) (by omega) (by omega), fun σ H' => H' = H1 ∧ ∃ z x, σ = [some (.ref a), some (.int k), some (.ref D), some (.int z), x] ∧ 0 ≤ z ∧ z < 2147483647, ?_, fun σ H' hm => ?_⟩
    · refine ⟨_, rfl, D, rfl, ⟨_, sq_of h1⟩, for_list (xs := cs.map V.int) (I_dl a D k H1) ⟨rfl, _, _, rfl, by omega, by omega⟩ (fun i σ H' _ hw => by rw [hw.1]; exact sq_of h1) (fun i x σ H' hx' hw => ?_) (fun σ H' hw => ?_)⟩
      · obtain ⟨rfl, z, y, rfl, z0, z1⟩ := hw
        rw [List.getElem?_map] at hx'
        obtain ⟨n, hn, rfl⟩ := Option.map_eq_some_iff.mp hx'
        walk_at "vc"
        exact ⟨mulOk (by omega) (by omega) (by decide) (by decide), by decide, by decide, rfl, _, _, rfl, Int.emod_nonneg _ (by decide), Int.emod_lt_of_pos _ (by decide)⟩
      · exact hw
    obtain ⟨rfl, z, x, rfl, z0, z1⟩ := hm
    refine ⟨_, rfl, D, rfl, ⟨_, sq_of h1⟩, fun D2 hD2 => lc_list (xs := cs.map V.int) (C_d2 D D2 cs H') ?_ ?_ ?_ ?_⟩
    · exact ⟨[], upd_same, Nat.le_refl _, fun v hv => (by cases hv), Ex.new hD2, by rw [upd_ne (ne_of_none h1 hD2)]; exact h1⟩
    · intro i H2 _ h
      obtain ⟨vs, g1, g2, g3, g4, g5⟩ := h
      exact sq_of g5
    · intro i x H2 hx h
      obtain ⟨vs, g1, g2, g3, g4, g5⟩ := h
      rw [List.getElem?_map] at hx
      obtain ⟨n, hn, rfl⟩ := Option.map_eq_some_iff.mp hx
      have hi : i < cs.length := (List.getElem?_eq_some_iff.mp hn).1
      walk_at "vc"
      refine ⟨powOk (by decide) (by decide) (by decide) (by decide), ite2 (fun hc => ?_) (fun hc => ⟨vs, g1, by omega, g3, g4, g5⟩)⟩
      refine ⟨_, g1, sz_lt (by simp; omega), vs ++ [n], by rw [upd_same, List.map_append]; rfl, by simp; omega, fun v hv => ?_, g4.mut hD2, by rw [upd_ne (ne_of_none h1 hD2)]; exact g5⟩
      rcases List.mem_append.mp hv with hv | hv
      · exact g3 v hv
      · rw [List.mem_singleton.mp hv]
        exact h3 n (List.mem_of_getElem? hn)
    · intro H2 h
      obtain ⟨vs, g1, g2, g3, g4, g5⟩ := h
      rw [List.length_map] at g2
      walk_at "vc"
      refine ⟨_, sq_of g1, fun r hr2 => ⟨sz_le (by simp), fun d hd => q d r _ ((h4.trans g4).trans ((Ex.new hr2).trans (Ex.new hd))) ⟨vs.reverse, 0, z, upd_same, by decide, ?_, fun c hc => g3 c (List.mem_reverse.mp hc), z0, z1, by simp; omega⟩⟩⟩
      rw [upd_ne (ne_of_none upd_same hd), upd_same, List.map_reverse]
def sp_law_draw : Sp
  | [.ref d, .int n], H, Q, _ => ∃ L, Deal3 d L H ∧ 0 < n ∧ n < 2 ^ 240 ∧ ∀ v H', 0 ≤ v → v < n → Mv3 d L H H' → Q (.int v) H'
  | _, _, _, _ => False
def I_dr (d L : Addr) (n : Int) (H : Hp) : Nat → L2.St → Hp → Prop := fun m σ H' => ∃ (cs : List Int) (c z : Int), σ = [some (.ref d), some (.int n), none] ∧ m = cs.length ∧ Deal3C d L cs c z H' ∧ Mv3 d L H H'
theorem ok_law_draw (T : Txt w K mg a_is_integer a_is_number a_is_base a_is_name a_are_rows a_needed a_fits a_is_of a_inner a_flat a_names_in a_bare a_named a_number_of a_joined a_result a_holding a_written a_part a_of_one a_of_two a_power a_run a_came_to a_holds a_law_deal a_law_draw a_law_pick a_law_words a_law_ask_of a_law_row_of a_law_told a_law a_Stopped_init a_Put_init a_If_init a_Times_init a_Ask_init a_Not_init a_Program_init a_Program_call a_Walk_init a_Walk_go a_Walk_do a_Walk_put a_Walk_decide a_Walk_choose a_InvalidBase a_Stopped a_FigureError a_InvalidNumber a_Put a_If a_Times a_Stop a_Ask a_Not a_Row a_Test a_Program a_Walk a_DEEDS a_SIGNS a_WORDS a_If_init_d0 a_Program_init_d0 d_is_integer d_is_number d_is_base d_is_name d_are_rows d_needed d_fits d_is_of d_inner d_flat d_names_in d_bare d_named d_number_of d_joined d_result d_holding d_written d_part d_of_one d_of_two d_power d_run d_came_to d_holds d_law_deal d_law_draw d_law_pick d_law_words d_law_ask_of d_law_row_of d_law_told d_law d_Stopped_init d_Put_init d_If_init d_Times_init d_Ask_init d_Not_init d_Program_init d_Program_call d_Walk_init d_Walk_go d_Walk_do d_Walk_put d_Walk_decide d_Walk_choose) : FnOk P w K mg base CX0 1 a_law_draw d_law_draw ["_law_deal_here", "_law_amount"] sp_law_draw := by
  refine T.F_law_draw.ok sc_law_draw (fun vs H Q E h => ?_) (fun cdv A outer s H vs Q E hr h => ?_)
  · unfold sp_law_draw at h; split at h; rfl; exact h.elim
  unfold sp_law_draw at h; split at h
  case h_2 => exact h.elim
  rename_i d n
  obtain ⟨L, ⟨cs, c, z, D⟩, n0, n1, q⟩ := h
  refine ⟨_, (Evl.pss_cut (ps_while PassesOwn.never (PW.pt (pw_and (pt_cmpR op_eq (pe_ix ix_listM (pv 0) pe_int (fun _ _ => rfl)) pe_int (nomark _)) (pw_and1 (pt_cmpR op_gt (pe_callB call_len_seq (by rfl) T.z_len (by decide +kernel) (pa_cons (pe_ix ix_listM (pv 0) pe_int (fun _ _ => rfl)) pa_nil)) pe_int (nomark _)))))
      (pss_one (ps_asg (pe_bm0 PySem.F.plainAttrs_list PySem.F.slot_list_pop PySem.F.type_list_pop mt_popM (pe_ix ix_listM (pv 0) pe_int (fun _ _ => rfl))) (pg_sub (pv 0) pe_int set_list))))
      (pss_cons (ps_if (pt_cmpR op_gt (pe_ix ix_listM (pv 0) pe_int (fun _ _ => rfl)) pe_int (nomark _))
      (pss_cons (ps_set (i := 2) sc_law_draw.nd rfl (by first | exact .inl rfl | exact .inr rfl) (pe_op op_mod (pe_callTy call_intM (by rfl) T.z_int (by decide +kernel) (pa_cons (pe_ix ix_listM (pv 0) pe_int (fun _ _ => rfl)) pa_nil)) (pv 1)))
      (pss_cons (ps_asg (pe_op op_fdivW (pe_ix ix_listM (pv 0) pe_int (fun _ _ => rfl)) (pv 1)) (pg_sub (pv 0) pe_int set_list))
      (pss_one (ps_ret (pv 2)))))
      pss_nil)
      (pss_cons (ps_asg (pe_op op_mod (pe_callTy call_intM (by rfl) T.z_int (by decide +kernel) (pa_cons (pe_op op_add (pe_op op_mulX (pe_ix ix_listM (pv 0) pe_int (fun _ _ => rfl)) pe_int) pe_int) pa_nil)) pe_int) (pg_sub (pv 0) pe_int set_list))
      (pss_one (ps_ret (pe_op op_mod (pe_callTy call_intM (by rfl) T.z_int (by decide +kernel) (pa_cons (pe_op op_fdivW (pe_ix ix_listM (pv 0) pe_int (fun _ _ => rfl)) pe_int) pa_nil)) (pv 1))))))), ?_⟩
  walk_at "st"
  walk_at "vc"
  refine ⟨fun σ H' => ∃ cs c z, σ = [some (.ref d), some (.int n), none] ∧ Deal3C d L cs c z H' ∧ Mv3 d L H H', ⟨I_dr d L n H, ⟨_, cs, c, z, rfl, rfl, D, .refl ⟨_, _, _, D⟩⟩, fun m σ H' hw => ?_⟩, fun σ H' hm => ?_⟩
  · obtain ⟨cs, c, z, rfl, rfl, D, M⟩ := hw
    walk_at "vc"
    refine ⟨_, sq_of D.d, _, rfl, ?_⟩
    walk_at "vc"
    refine ite2 (fun h0 => ⟨_, sq_of D.d, _, rfl, L, rfl, _, .inl (sq_of D.l), ?_⟩) (fun h0 => ⟨_, _, _, D, M⟩)
    rw [List.length_map]
    refine ite2 (fun hc => ?_) (fun hc => ⟨_, _, _, D, M⟩)
    have hne : cs ≠ [] := List.length_pos_iff.mp (by omega)
    obtain ⟨ds, e, rfl⟩ : ∃ ds e, cs = ds ++ [e] := ⟨cs.dropLast, cs.getLast hne, (List.dropLast_concat_getLast hne).symm⟩
    have eL := D.l
    rw [List.map_append] at eL
    refine ⟨_, fun _ _ hN => hN, _, sq_of D.d, _, rfl, .inl ⟨rfl, _, sq_of eL⟩, ?_⟩
    have D2 : Deal3C d L ds e z (upd (upd H' L (.lst (ds.map V.int ++ List.map V.int [e]).dropLast)) d (.lst ([V.ref L, V.int c, V.int z].set 1 (.int e)))) :=
      ⟨by rw [upd_same]; rfl, D.nn e (by simp), by rw [upd_ne D.ne.symm, upd_same]; simp, fun x hx => D.nn x (List.mem_append_left _ hx), D.z0, D.z1, by have := D.len; simp at this; omega⟩
    have M2 : Mv3 d L H _ := M.trans ⟨fun b o h1 h2 h => by rw [upd_ne h1, upd_ne h2]; exact h, _, _, _, D2⟩
    walk_at "vc"
    exact ⟨_, eL, V.int e, by simp, _, by rw [upd_ne D.ne]; exact D.d, 1, rfl, ds.length, by simp, ds, e, z, rfl, rfl, D2, M2⟩
  · obtain ⟨cs, c, z, rfl, D, M⟩ := hm
    walk_at "vc"
    refine ⟨_, sq_of D.d, _, rfl, ?_⟩
    walk_at "vc"
    have c0 := D.c0
    have z0 := D.z0
    have z1 := D.z1
    refine ite2 (fun hc => ⟨_, sq_of D.d, _, rfl, ?_⟩) (fun hc => ⟨_, sq_of D.d, _, rfl, ?_⟩)
    · walk_at "vc"
      refine ⟨n0, _, sq_of D.d, _, rfl, ?_⟩
      walk_at "vc"
      have D2 : Deal3C d L cs (c / n) z (upd H' d (.lst ([V.ref L, V.int c, V.int z].set 1 (.int (c / n))))) :=
        ⟨by rw [upd_same]; rfl, Int.ediv_nonneg c0 (by omega), by rw [upd_ne D.ne.symm]; exact D.l, D.nn, D.z0, D.z1, D.len⟩
      exact ⟨divOk n0 (by omega), _, D.d, 1, rfl, q _ _ (Int.emod_nonneg _ (by omega)) (Int.emod_lt_of_pos _ n0) (M.trans ⟨fun b o h1 h2 h => by rw [upd_ne h1]; exact h, _, _, _, D2⟩)⟩
    · walk_at "vc"
      have w0 := Int.emod_nonneg (z * 48271 + 11) (show (2147483647 : Int) ≠ 0 by decide)
      have w1 := Int.emod_lt_of_pos (z * 48271 + 11) (show (0 : Int) < 2147483647 by decide)
      have D2 : Deal3C d L cs c ((z * 48271 + 11) % 2147483647) (upd H' d (.lst ([V.ref L, V.int c, V.int z].set 2 (.int ((z * 48271 + 11) % 2147483647))))) :=
        ⟨by rw [upd_same]; rfl, c0, by rw [upd_ne D.ne.symm]; exact D.l, D.nn, w0, w1, D.len⟩
      refine ⟨mulOk (by omega) (by omega) (by decide) (by decide), by decide, _, D.d, 2, rfl, _, sq_of D2.d, _, rfl, ?_⟩
      walk_at "vc"
      exact ⟨divOk (by decide) (by decide), n0, q _ _ (Int.emod_nonneg _ (by omega)) (Int.emod_lt_of_pos _ n0) (M.trans ⟨fun b o h1 h2 h => by rw [upd_ne h1]; exact h, _, _, _, D2⟩)⟩
/-- one of a tracked list of things, one sign of a text -/
def sp_law_pick : Sp
  | [.ref d, y], H, Q, _ => ∃ L, Deal3 d L H ∧ ((∃ a xs, y = .ref a ∧ H a = some (.lst xs) ∧ a ≠ d ∧ a ≠ L ∧ 0 < xs.length ∧ xs.length ≤ 1000 ∧ ∀ v H', v ∈ xs → Mv3 d L H H' → Q v H') ∨
      (∃ z : Str, y = .str z ∧ 0 < z.length ∧ z.length ≤ 1000 ∧ ∀ c H', c ∈ z.cps.toList → Mv3 d L H H' → Q (.str ⟨#[c]⟩) H'))
  | _, _, _, _ => False
theorem ok_law_pick (T : Txt w K mg a_is_integer a_is_number a_is_base a_is_name a_are_rows a_needed a_fits a_is_of a_inner a_flat a_names_in a_bare a_named a_number_of a_joined a_result a_holding a_written a_part a_of_one a_of_two a_power a_run a_came_to a_holds a_law_deal a_law_draw a_law_pick a_law_words a_law_ask_of a_law_row_of a_law_told a_law a_Stopped_init a_Put_init a_If_init a_Times_init a_Ask_init a_Not_init a_Program_init a_Program_call a_Walk_init a_Walk_go a_Walk_do a_Walk_put a_Walk_decide a_Walk_choose a_InvalidBase a_Stopped a_FigureError a_InvalidNumber a_Put a_If a_Times a_Stop a_Ask a_Not a_Row a_Test a_Program a_Walk a_DEEDS a_SIGNS a_WORDS a_If_init_d0 a_Program_init_d0 d_is_integer d_is_number d_is_base d_is_name d_are_rows d_needed d_fits d_is_of d_inner d_flat d_names_in d_bare d_named d_number_of d_joined d_result d_holding d_written d_part d_of_one d_of_two d_power d_run d_came_to d_holds d_law_deal d_law_draw d_law_pick d_law_words d_law_ask_of d_law_row_of d_law_told d_law d_Stopped_init d_Put_init d_If_init d_Times_init d_Ask_init d_Not_init d_Program_init d_Program_call d_Walk_init d_Walk_go d_Walk_do d_Walk_put d_Walk_decide d_Walk_choose) : FnOk P w K mg base CX0 2 a_law_pick d_law_pick ["_law_deal_here", "_law_some"] sp_law_pick := by
  have G_law_draw := ok_law_draw (P := P) (w := w) (base := base) T
  refine T.F_law_pick.ok sc_law_pick (fun vs H Q E h => ?_) (fun cdv A outer s H vs Q E hr h => ?_)
  · unfold sp_law_pick at h; split at h; rfl; exact h.elim
  · unfold sp_law_pick at h; split at h
    case h_2 => exact h.elim
    rename_i d y
    obtain ⟨L, D, h⟩ := h
    refine ⟨_, (pss_one (ps_ret (pe_ix ix_seq (pv 1) (pe_call G_law_draw (hr.mono (by decide)) (by rfl) T.g_law_draw T.F_law_draw.kp T.b_law_draw .nil pass0 (pa_cons (pv 0) (pa_cons (pe_callB call_len (by rfl) T.z_len (by decide +kernel) (pa_cons (pv 1) pa_nil)) pa_nil))) (fun _ _ => rfl)))), ?_⟩
    walk_at "st"
    walk_at "vc"
    rcases h with ⟨a, xs, rfl, hx, h1, h2, h3, h4, q⟩ | ⟨z, rfl, h3, h4, q⟩
    · refine ⟨xs.length, .inl ⟨_, sq_of hx, rfl⟩, L, D, by omega, by omega, fun v H1 v0 v1 M => ?_⟩
      obtain ⟨j, rfl⟩ : ∃ j : Nat, v = (j : Int) := ⟨v.toNat, by omega⟩
      have hj : j < xs.length := by omega
      exact .inl ⟨_, _, _, _, rfl, rfl, sq_of (M.kp _ _ h1 h2 hx), atI_nat (List.getElem?_eq_getElem hj), q _ _ (List.getElem_mem hj) M⟩
    · refine ⟨z.length, ⟨sz_le (by omega), rfl⟩, L, D, by omega, by omega, fun v H1 v0 v1 M => ?_⟩
      obtain ⟨j, rfl⟩ : ∃ j : Nat, v = (j : Int) := ⟨v.toNat, by omega⟩
      have hj : j < z.cps.toList.length := by rw [Array.length_toList]; unfold PySem.Str.length at v1; omega
      exact .inr (.inr ⟨_, _, _, rfl, rfl, sz_le (by omega), atI_nat (List.getElem?_eq_getElem hj), q _ _ (List.getElem_mem hj) M⟩)
def nmOk (x : Str) : Bool := decide (1 ≤ (x.length : Int)) && (decide ((x.length : Int) ≤ 4) && x.cps.toList.all fun c => decide (c ∈ (Str.ofString "abcdefghijklmnopqrstuvwxyz").cps.toList))
def sp_is_name : Sp
  | [.str x], H, Q, _ => x.length ≤ 1000 ∧ ∀ H', Ex H H' → Q (.bl (nmOk x)) H'
  | _, _, _, _ => False
def C_nm (D : Addr) (x : Str) (H : Hp) : Nat → Hp → Prop := fun i H' => H' D = some (.lst (((x.cps.toList.take i).map fun c => decide (c ∈ (Str.ofString "abcdefghijklmnopqrstuvwxyz").cps.toList)).map V.bl)) ∧ Ex H H'
theorem ok_is_name (T : Txt w K mg a_is_integer a_is_number a_is_base a_is_name a_are_rows a_needed a_fits a_is_of a_inner a_flat a_names_in a_bare a_named a_number_of a_joined a_result a_holding a_written a_part a_of_one a_of_two a_power a_run a_came_to a_holds a_law_deal a_law_draw a_law_pick a_law_words a_law_ask_of a_law_row_of a_law_told a_law a_Stopped_init a_Put_init a_If_init a_Times_init a_Ask_init a_Not_init a_Program_init a_Program_call a_Walk_init a_Walk_go a_Walk_do a_Walk_put a_Walk_decide a_Walk_choose a_InvalidBase a_Stopped a_FigureError a_InvalidNumber a_Put a_If a_Times a_Stop a_Ask a_Not a_Row a_Test a_Program a_Walk a_DEEDS a_SIGNS a_WORDS a_If_init_d0 a_Program_init_d0 d_is_integer d_is_number d_is_base d_is_name d_are_rows d_needed d_fits d_is_of d_inner d_flat d_names_in d_bare d_named d_number_of d_joined d_result d_holding d_written d_part d_of_one d_of_two d_power d_run d_came_to d_holds d_law_deal d_law_draw d_law_pick d_law_words d_law_ask_of d_law_row_of d_law_told d_law d_Stopped_init d_Put_init d_If_init d_Times_init d_Ask_init d_Not_init d_Program_init d_Program_call d_Walk_init d_Walk_go d_Walk_do d_Walk_put d_Walk_decide d_Walk_choose) : FnOk P w K mg base CX0 1 a_is_name d_is_name ["value"] sp_is_name := by
  refine T.F_is_name.ok sc_is_name (fun vs H Q E h => ?_) (fun cdv A outer s H vs Q E hr h => ?_)
  · unfold sp_is_name at h; split at h; rfl; exact h.elim
  unfold sp_is_name at h; split at h
  case h_2 => exact h.elim
  rename_i x
  obtain ⟨hl, q⟩ := h
  refine ⟨_, (pss_cons (ps_if (pt_not (pt_val (pe_callB call_isiV (by rfl) T.z_isinstance (by decide +kernel) (pa_cons (pv 0) (pa_cons (pe_bltn (v := .ty "str") (by rfl) T.z_str (by decide +kernel) rfl) pa_nil)))))
      (pss_one (ps_ret pe_bl))
      pss_nil)
      (pss_one (ps_ret (pe_and (pe_chain op_le op_le pe_int (pe_callB call_len_str (by rfl) T.z_len (by decide +kernel) (pa_cons (pv 0) pa_nil)) (pe_globE (by rfl) T.g_LONGEST_NAME)) (pe_one (pe_callB (cr_all rfl) (by rfl) T.z_all (by decide +kernel) (pa_cons (pe_lc (own := [("one", 1)]) (g := gName 1) (by rfl) sc_is_name.nd (pi_str (pv 0)) (blkOk_by (own := [("one", 1)]) (N := N_is_name) (sc := defScope s_is_name) (by decide +kernel)) (fun _ _ _ _ _ => (pg_name (i := 1) sc_is_name.nd rfl (by first | exact .inl rfl | exact .inr rfl))) (fun _ _ _ _ _ => pts_nil) (fun _ _ _ _ _ => (pe_cmpR op_in_sign (pv 1) (pe_globE (by rfl) T.g_LETTERS) (by rfl)))) pa_nil))))))), ?_⟩
  walk_at "st"
  walk_at "vc"
  refine ⟨true, by decide +kernel, ?_⟩
  rw [if_neg (by decide)]
  refine ⟨sz_le (by omega), ite2 (fun h1 => ite2 (fun h2 => ?_) (fun h2 => ?_)) (fun h1 => ?_)⟩
  · refine ⟨_, rfl, x, rfl, fun D hD => lc_it walk_str (C_nm D x H) ⟨upd_same, Ex.new hD⟩ (fun i H' _ _ => trivial) (fun i v H1 H' hi hP y => ?_) (fun H' hP => ?_)⟩
    · obtain ⟨rfl, c, hc, rfl⟩ := y
      walk_at "vc"
      have hc' : x.cps.toList[i]? = some c := by rw [Array.getElem?_toList]; exact hc
      refine ⟨c, rfl, _, hP.1, sz_lt (by simp [PySem.Str.length] at hl ⊢; omega), ?_, hP.2.mut hD⟩
      rw [upd_same, List.take_add_one, hc', List.map_append, List.map_append]
      rfl
    · refine ⟨D, _, rfl, sq_of hP.1, ?_⟩
      have e : x.cps.toList.take x.cps.size = x.cps.toList := by rw [← Array.length_toList, List.take_length]
      rw [e]
      have := q H' hP.2
      unfold nmOk at this
      rw [decide_eq_true h1, decide_eq_true h2, Bool.true_and, Bool.true_and] at this
      rw [List.all_map]
      exact this
  · have := q H (Ex.refl H)
    unfold nmOk at this
    rw [decide_eq_false h2, Bool.false_and, Bool.and_false] at this
    exact this
  · have := q H (Ex.refl H)
    unfold nmOk at this
    rw [decide_eq_false h1, Bool.false_and] at this
    exact this
def sp_is_of : Sp
  | [.str k, v], H, Q, _ => (k = "name" ∧ ∃ x, v = .str x ∧ x.length ≤ 1000 ∧ ∀ H', Ex H H' → Q (.bl (nmOk x)) H') ∨ (k = "number" ∧ ∃ i, v = .int i ∧ ∀ H', Ex H H' → Q (.bl (decide (0 ≤ i))) H')
  | _, _, _, _ => False
theorem ok_is_of (T : Txt w K mg a_is_integer a_is_number a_is_base a_is_name a_are_rows a_needed a_fits a_is_of a_inner a_flat a_names_in a_bare a_named a_number_of a_joined a_result a_holding a_written a_part a_of_one a_of_two a_power a_run a_came_to a_holds a_law_deal a_law_draw a_law_pick a_law_words a_law_ask_of a_law_row_of a_law_told a_law a_Stopped_init a_Put_init a_If_init a_Times_init a_Ask_init a_Not_init a_Program_init a_Program_call a_Walk_init a_Walk_go a_Walk_do a_Walk_put a_Walk_decide a_Walk_choose a_InvalidBase a_Stopped a_FigureError a_InvalidNumber a_Put a_If a_Times a_Stop a_Ask a_Not a_Row a_Test a_Program a_Walk a_DEEDS a_SIGNS a_WORDS a_If_init_d0 a_Program_init_d0 d_is_integer d_is_number d_is_base d_is_name d_are_rows d_needed d_fits d_is_of d_inner d_flat d_names_in d_bare d_named d_number_of d_joined d_result d_holding d_written d_part d_of_one d_of_two d_power d_run d_came_to d_holds d_law_deal d_law_draw d_law_pick d_law_words d_law_ask_of d_law_row_of d_law_told d_law d_Stopped_init d_Put_init d_If_init d_Times_init d_Ask_init d_Not_init d_Program_init d_Program_call d_Walk_init d_Walk_go d_Walk_do d_Walk_put d_Walk_decide d_Walk_choose) : FnOk P w K mg base CX0 3 a_is_of d_is_of ["kind", "value"] sp_is_of := by
  have G_is_name := ok_is_name (P := P) (w := w) (base := base) T
  have G_is_number := ok_is_number (P := P) (w := w) (base := base) T
  refine T.F_is_of.ok sc_is_of (fun vs H Q E h => ?_) (fun cdv A outer s H vs Q E hr h => ?_)
  · unfold sp_is_of at h; split at h; rfl; exact h.elim
  unfold sp_is_of at h; split at h
  case h_2 => exact h.elim
  rename_i k v
  refine ⟨_, (pss_cons (ps_if (pt_cmpR op_eq (pv 0) pe_str (nomark _))
      (pss_one (ps_ret (pe_call G_is_name (hr.mono (by decide)) (by rfl) T.g_is_name T.F_is_name.kp T.b_is_name .nil pass0 (pa_cons (pv 1) pa_nil))))
      pss_nil)
      (pss_one (ps_ret (pe_call G_is_number (hr.mono (by decide)) (by rfl) T.g_is_number T.F_is_number.kp T.b_is_number .nil pass0 (pa_cons (pv 1) pa_nil))))), ?_⟩
  walk_at "st"
  walk_at "vc"
  rcases h with ⟨rfl, x, rfl, hl, q⟩ | ⟨rfl, i, rfl, q⟩
  · rw [if_pos rfl]
    exact ⟨hl, q⟩
  · rw [if_neg (by decide)]
    exact q H (Ex.refl H)
/-- what stands behind each deed, as the package tells it -/
def deedTab : List (Str × List Str) := [("figures", ["number"]), ("number", ["number"]), ("base", []), ("let", ["name"]), ("+", ["name", "name"]), ("-", ["name", "name"]), ("*", ["name", "name"]), ("//", ["name", "name"]), ("rest", ["name", "name"]), ("**", ["name", "number"]), ("turned", ["name"]), ("least", ["name"]), ("greatest", ["name"]), ("sum", ["name"]), ("many", ["name"]), ("root", ["name"]), ("figure", ["number", "name"]), ("first", ["number", "name"]), ("last", ["number", "name"]), ("joined", ["name", "name"]), ("common", ["name", "name"]), ("lesser", ["name", "name"])]
def kindsFor (d : Str) (n : Nat) : Option (List Str) := if d = "figures" then (if n = 0 then none else some (List.replicate n "number")) else deedTab.lookup d
theorem lookup_mem {α : Type} {k : Str} {v : α} : ∀ {l : List (Str × α)}, l.lookup k = some v → (k, v) ∈ l
  | [], h => by cases h
  | (a, b) :: l, h => by
    rw [List.lookup_cons] at h
    split at h
    · rename_i e
      cases h
      rw [eq_of_beq e]
      exact List.mem_cons_self ..
    · exact List.mem_cons_of_mem _ (lookup_mem h)
theorem deedAt (T : Txt w K mg a_is_integer a_is_number a_is_base a_is_name a_are_rows a_needed a_fits a_is_of a_inner a_flat a_names_in a_bare a_named a_number_of a_joined a_result a_holding a_written a_part a_of_one a_of_two a_power a_run a_came_to a_holds a_law_deal a_law_draw a_law_pick a_law_words a_law_ask_of a_law_row_of a_law_told a_law a_Stopped_init a_Put_init a_If_init a_Times_init a_Ask_init a_Not_init a_Program_init a_Program_call a_Walk_init a_Walk_go a_Walk_do a_Walk_put a_Walk_decide a_Walk_choose a_InvalidBase a_Stopped a_FigureError a_InvalidNumber a_Put a_If a_Times a_Stop a_Ask a_Not a_Row a_Test a_Program a_Walk a_DEEDS a_SIGNS a_WORDS a_If_init_d0 a_Program_init_d0 d_is_integer d_is_number d_is_base d_is_name d_are_rows d_needed d_fits d_is_of d_inner d_flat d_names_in d_bare d_named d_number_of d_joined d_result d_holding d_written d_part d_of_one d_of_two d_power d_run d_came_to d_holds d_law_deal d_law_draw d_law_pick d_law_words d_law_ask_of d_law_row_of d_law_told d_law d_Stopped_init d_Put_init d_If_init d_Times_init d_Ask_init d_Not_init d_Program_init d_Program_call d_Walk_init d_Walk_go d_Walk_do d_Walk_put d_Walk_decide d_Walk_choose) : ∀ p ∈ deedTab, ∃ t, PySem.W.nsIn K a_DEEDS p.1 = some (some (.ref t)) ∧ ∀ H, SqT K H t (p.2.map V.str) := by
  intro p hp
  simp only [deedTab, List.mem_cons, List.not_mem_nil, or_false] at hp
  rcases hp with rfl | rfl | rfl | rfl | rfl | rfl | rfl | rfl | rfl | rfl | rfl | rfl | rfl | rfl | rfl | rfl | rfl | rfl | rfl | rfl | rfl | rfl
  · exact T.I_DEEDS_0
  · exact T.I_DEEDS_1
  · exact T.I_DEEDS_2
  · exact T.I_DEEDS_3
  · exact T.I_DEEDS_4
  · exact T.I_DEEDS_5
  · exact T.I_DEEDS_6
  · exact T.I_DEEDS_7
  · exact T.I_DEEDS_8
  · exact T.I_DEEDS_9
  · exact T.I_DEEDS_10
  · exact T.I_DEEDS_11
  · exact T.I_DEEDS_12
  · exact T.I_DEEDS_13
  · exact T.I_DEEDS_14
  · exact T.I_DEEDS_15
  · exact T.I_DEEDS_16
  · exact T.I_DEEDS_17
  · exact T.I_DEEDS_18
  · exact T.I_DEEDS_19
  · exact T.I_DEEDS_20
  · exact T.I_DEEDS_21
theorem kindsFor_in {d : Str} {n : Nat} {ks : List Str} (h : kindsFor d n = some ks) : ∃ k0, (d, k0) ∈ deedTab := by
  unfold kindsFor at h
  split at h
  · rename_i e
    exact ⟨["number"], by rw [e]; exact List.mem_cons_self ..⟩
  · exact ⟨ks, lookup_mem h⟩
theorem deedIn (T : Txt w K mg a_is_integer a_is_number a_is_base a_is_name a_are_rows a_needed a_fits a_is_of a_inner a_flat a_names_in a_bare a_named a_number_of a_joined a_result a_holding a_written a_part a_of_one a_of_two a_power a_run a_came_to a_holds a_law_deal a_law_draw a_law_pick a_law_words a_law_ask_of a_law_row_of a_law_told a_law a_Stopped_init a_Put_init a_If_init a_Times_init a_Ask_init a_Not_init a_Program_init a_Program_call a_Walk_init a_Walk_go a_Walk_do a_Walk_put a_Walk_decide a_Walk_choose a_InvalidBase a_Stopped a_FigureError a_InvalidNumber a_Put a_If a_Times a_Stop a_Ask a_Not a_Row a_Test a_Program a_Walk a_DEEDS a_SIGNS a_WORDS a_If_init_d0 a_Program_init_d0 d_is_integer d_is_number d_is_base d_is_name d_are_rows d_needed d_fits d_is_of d_inner d_flat d_names_in d_bare d_named d_number_of d_joined d_result d_holding d_written d_part d_of_one d_of_two d_power d_run d_came_to d_holds d_law_deal d_law_draw d_law_pick d_law_words d_law_ask_of d_law_row_of d_law_told d_law d_Stopped_init d_Put_init d_If_init d_Times_init d_Ask_init d_Not_init d_Program_init d_Program_call d_Walk_init d_Walk_go d_Walk_do d_Walk_put d_Walk_decide d_Walk_choose) {d : Str} {n : Nat} {ks : List Str} (h : kindsFor d n = some ks) : ∃ t, PySem.W.nsIn K a_DEEDS d = some (some (.ref t)) := by
  obtain ⟨k0, hk⟩ := kindsFor_in h
  obtain ⟨t, h1, _⟩ := deedAt T _ hk
  exact ⟨t, h1⟩
def sp_needed (K : PySem.W.Frag) : Sp
  | [.str d, .int n], H, Q, _ => ∃ (m : Nat) (ks : List Str), n = m ∧ m ≤ 1000 ∧ kindsFor d m = some ks ∧ ∀ t H', Ex H H' → SqT K H' t (ks.map V.str) → Q (.ref t) H'
  | _, _, _, _ => False
theorem ok_needed (T : Txt w K mg a_is_integer a_is_number a_is_base a_is_name a_are_rows a_needed a_fits a_is_of a_inner a_flat a_names_in a_bare a_named a_number_of a_joined a_result a_holding a_written a_part a_of_one a_of_two a_power a_run a_came_to a_holds a_law_deal a_law_draw a_law_pick a_law_words a_law_ask_of a_law_row_of a_law_told a_law a_Stopped_init a_Put_init a_If_init a_Times_init a_Ask_init a_Not_init a_Program_init a_Program_call a_Walk_init a_Walk_go a_Walk_do a_Walk_put a_Walk_decide a_Walk_choose a_InvalidBase a_Stopped a_FigureError a_InvalidNumber a_Put a_If a_Times a_Stop a_Ask a_Not a_Row a_Test a_Program a_Walk a_DEEDS a_SIGNS a_WORDS a_If_init_d0 a_Program_init_d0 d_is_integer d_is_number d_is_base d_is_name d_are_rows d_needed d_fits d_is_of d_inner d_flat d_names_in d_bare d_named d_number_of d_joined d_result d_holding d_written d_part d_of_one d_of_two d_power d_run d_came_to d_holds d_law_deal d_law_draw d_law_pick d_law_words d_law_ask_of d_law_row_of d_law_told d_law d_Stopped_init d_Put_init d_If_init d_Times_init d_Ask_init d_Not_init d_Program_init d_Program_call d_Walk_init d_Walk_go d_Walk_do d_Walk_put d_Walk_decide d_Walk_choose) : FnOk P w K mg base CX0 1 a_needed d_needed ["deed", "many"] (sp_needed K) := by
  refine T.F_needed.ok sc_needed (fun vs H Q E h => ?_) (fun cdv A outer s H vs Q E hr h => ?_)
  · unfold sp_needed at h; split at h; rfl; exact h.elim
  unfold sp_needed at h; split at h
  case h_2 => exact h.elim
  rename_i d n
  obtain ⟨m, ks, rfl, hm, hk, q⟩ := h
  refine ⟨_, (pss_cons (ps_if (pt_cmpR op_eq (pv 0) pe_str (nomark _))
      (pss_one (ps_ret (pe_op op_repT1 (pe_ixDX rfl takes0 (pe_globE (by rfl) T.g_DEEDS) (pv 0) (fun _ _ => rfl)) (pe_callB (call_maxM rfl) (by rfl) T.z_max (by decide +kernel) (pa_cons pe_int (pa_cons (pv 1) pa_nil))))))
      pss_nil)
      (pss_one (ps_ret (pe_ixDX rfl takes0 (pe_globE (by rfl) T.g_DEEDS) (pv 0) (fun _ _ => rfl))))), ?_⟩
  walk_at "st"
  walk_at "vc"
  have kd : ∀ ks0, (d, ks0) ∈ deedTab → ∃ t, KDct K w a_DEEDS d (.ref t) ∧ ∀ H, SqT K H t (ks0.map V.str) := fun ks0 hm0 => by
    obtain ⟨t, h1, h2⟩ := deedAt T _ hm0
    obtain ⟨es, n, D⟩ := T.D_DEEDS
    exact ⟨t, ⟨es, n, .ref t, D.at_, D.lit, h1, rfl⟩, h2⟩
  unfold kindsFor at hk
  refine ite2 (fun hd => ?_) (fun hd => ?_)
  · rw [if_pos hd] at hk
    by_cases hm0 : m = 0
    · rw [if_pos hm0] at hk; cases hk
    rw [if_neg hm0] at hk
    cases hk
    obtain ⟨t, h1, h2⟩ := kd ["number"] (by rw [hd]; exact List.mem_cons_self ..)
    refine ⟨_, rfl, a_DEEDS, d, rfl, rfl, .inl ⟨_, h1, t, _, _, rfl, rfl, h2 H, ?_⟩⟩
    by_cases h1m : m = 1
    · subst h1m
      exact .inl ⟨by decide, q t H (Ex.refl H) (h2 H)⟩
    · have e : (if (m : Int) > 1 then (m : Int) else 1) = m := if_pos (by omega)
      rw [e]
      refine .inr ⟨by simp, by omega, by omega, by simp, fun p hp => q p _ (Ex.new hp) (st_of ?_)⟩
      rw [upd_same, Int.toNat_natCast]
      refine congrArg some (congrArg HO.tup ?_)
      clear q
      induction m with
      | zero => rfl
      | succ k ih => rw [List.replicate_succ, List.replicate_succ, List.flatten_cons, List.map_cons]; by_cases hk0 : k = 0 <;> simp [hk0, List.map_replicate, List.flatten_replicate_singleton]
  · rw [if_neg hd] at hk
    obtain ⟨t, h1, h2⟩ := kd ks (lookup_mem hk)
    exact ⟨_, rfl, a_DEEDS, d, rfl, rfl, .inl ⟨_, h1, q t H (Ex.refl H) (h2 H)⟩⟩
/-- an argument is as the deed needs it -/
def argOk (k : Str) (v : V) : Prop := (k = "name" ∧ ∃ x, v = .str x ∧ x.length ≤ 1000 ∧ nmOk x = true) ∨ (k = "number" ∧ ∃ i, v = .int i ∧ 0 ≤ i ∧ i.natAbs.log2 < 1920)
def sp_fits (K : PySem.W.Frag) : Sp
  | [.str d, .ref q], H, Q, _ => ∃ g ks, SqT K H q g ∧ kindsFor d g.length = some ks ∧ All2T argOk ks g ∧ g.length ≤ 1000 ∧ ∀ H', Ex H H' → Q (.bl true) H'
  | _, _, _, _ => False
def C_ft (D : Addr) (H : Hp) : Nat → Hp → Prop := fun i H' => H' D = some (.lst ((List.replicate i true).map V.bl)) ∧ Ex H H'
theorem ok_fits (T : Txt w K mg a_is_integer a_is_number a_is_base a_is_name a_are_rows a_needed a_fits a_is_of a_inner a_flat a_names_in a_bare a_named a_number_of a_joined a_result a_holding a_written a_part a_of_one a_of_two a_power a_run a_came_to a_holds a_law_deal a_law_draw a_law_pick a_law_words a_law_ask_of a_law_row_of a_law_told a_law a_Stopped_init a_Put_init a_If_init a_Times_init a_Ask_init a_Not_init a_Program_init a_Program_call a_Walk_init a_Walk_go a_Walk_do a_Walk_put a_Walk_decide a_Walk_choose a_InvalidBase a_Stopped a_FigureError a_InvalidNumber a_Put a_If a_Times a_Stop a_Ask a_Not a_Row a_Test a_Program a_Walk a_DEEDS a_SIGNS a_WORDS a_If_init_d0 a_Program_init_d0 d_is_integer d_is_number d_is_base d_is_name d_are_rows d_needed d_fits d_is_of d_inner d_flat d_names_in d_bare d_named d_number_of d_joined d_result d_holding d_written d_part d_of_one d_of_two d_power d_run d_came_to d_holds d_law_deal d_law_draw d_law_pick d_law_words d_law_ask_of d_law_row_of d_law_told d_law d_Stopped_init d_Put_init d_If_init d_Times_init d_Ask_init d_Not_init d_Program_init d_Program_call d_Walk_init d_Walk_go d_Walk_do d_Walk_put d_Walk_decide d_Walk_choose) : FnOk P w K mg base CX0 4 a_fits d_fits ["deed", "given"] (sp_fits K) := by
  have G_needed := ok_needed (P := P) (w := w) (base := base) T
  have G_is_of := ok_is_of (P := P) (w := w) (base := base) T
  refine T.F_fits.ok sc_fits (fun vs H Q E h => ?_) (fun cdv A outer s H vs Q E hr h => ?_)
  · unfold sp_fits at h; split at h; rfl; exact h.elim
  unfold sp_fits at h; split at h
  case h_2 => exact h.elim
  rename_i d p
  obtain ⟨g, ks, hg, hk, ha, hl, q⟩ := h
  refine ⟨_, (pss_cons (ps_set (i := 2) sc_fits.nd rfl (by first | exact .inl rfl | exact .inr rfl) (pe_call G_needed (hr.mono (by decide)) (by rfl) T.g_needed T.F_needed.kp T.b_needed .nil pass0 (pa_cons (pv 0) (pa_cons (pe_callB call_len_seq (by rfl) T.z_len (by decide +kernel) (pa_cons (pv 1) pa_nil)) pa_nil))))
      (pss_cons (ps_if (pt_cmpR op_ne (pe_callB call_len_seq (by rfl) T.z_len (by decide +kernel) (pa_cons (pv 1) pa_nil)) (pe_callB call_len_seq (by rfl) T.z_len (by decide +kernel) (pa_cons (pv 2) pa_nil)) (nomark _))
      (pss_one (ps_ret pe_bl))
      pss_nil)
      (pss_one (ps_ret (pe_callB (cr_all rfl) (by rfl) T.z_all (by decide +kernel) (pa_cons (pe_lc (own := [("kind", 3), ("one", 4)]) (g := gTup K 2 (gCons (gName 3) (gCons (gName 4) gNil))) (by rfl) sc_fits.nd (RZ.pi_zipA (by rfl) T.z_zip (pa_cons (pv 2) (pa_cons (pv 1) pa_nil))) (blkOk_by (own := [("kind", 3), ("one", 4)]) (N := N_fits) (sc := defScope s_fits) (by decide +kernel)) (fun _ _ _ _ _ => (pg_tupK (K := K) (n := 2) rfl rfl (pgs_cons (pg_name (i := 3) sc_fits.nd rfl (by first | exact .inl rfl | exact .inr rfl)) (pgs_cons (pg_name (i := 4) sc_fits.nd rfl (by first | exact .inl rfl | exact .inr rfl)) pgs_nil)))) (fun _ _ _ _ _ => pts_nil) (fun _ _ _ _ _ => (pe_call G_is_of (hr.mono (by decide)) (by rfl) T.g_is_of T.F_is_of.kp T.b_is_of .nil pass0 (pa_cons (pv 3) (pa_cons (pv 4) pa_nil))))) pa_nil)))))), ?_⟩
  walk_at "st"
  walk_at "vc"
  refine ⟨g, .inr hg, g.length, ks, rfl, hl, hk, fun t H1 e1 ht => ?_⟩
  walk_at "vc"
  refine ⟨g, .inr (e1.sqt hg), _, .inr ht, ?_⟩
  have hlen := ha.len
  rw [if_neg (by rw [List.length_map, hlen]; simp)]
  refine ⟨_, rfl, _, rfl, t, p, _, g, rfl, .inr ⟨ht, e1.sqt hg, fun D hD => ?_⟩⟩
  refine lc_it (walk_zipT (n := g.length) (by rw [List.length_map]; omega)) (C_ft D H1) ⟨upd_same, Ex.new hD⟩ (fun i H' _ hP => ⟨hP.2.sqt ht, hP.2.sqt (e1.sqt hg)⟩) (fun i v H2 H' hi hP y => ?_) (fun H' hP => ?_)
  · obtain ⟨T0, x, z, rfl, hT, rfl, hx, hz⟩ := y
    refine ⟨T0, _, rfl, st_of upd_same, rfl, ?_⟩
    simp only [gCons, gNil]
    walk_at "vc"
    obtain ⟨k, hk2, ok⟩ := ha.at_ hz
    have hx2 : (ks.map V.str)[i]? = some x := hx
    rw [List.getElem?_map, hk2] at hx2
    cases hx2
    have hP2 : C_ft D H1 i (upd H2 T0 (.tup [.str k, z])) := ⟨Ex.new hT _ _ hP.1, hP.2.trans (Ex.new hT)⟩
    have fin : ∀ H4, Ex (upd H2 T0 (.tup [.str k, z])) H4 → ∃ acc, H4 D = some (.lst acc) ∧ acc.length < sizeLine ∧ C_ft D H1 (i + 1) (upd H4 D (.lst (acc ++ [.bl true]))) := fun H4 e4 => by
      refine ⟨_, e4 _ _ hP2.1, sz_lt (by simp; omega), ?_, (hP2.2.trans e4).mut hD⟩
      rw [upd_same, List.replicate_succ', List.map_append]
      rfl
    rcases ok with ⟨rfl, w0, rfl, hw, hn⟩ | ⟨rfl, j, rfl, hj, _⟩
    · exact .inl ⟨rfl, w0, rfl, hw, fun H4 e4 => by rw [hn]; exact fin H4 e4⟩
    · exact .inr ⟨rfl, j, rfl, fun H4 e4 => by rw [decide_eq_true hj]; exact fin H4 e4⟩
  · refine ⟨D, _, rfl, sq_of hP.1, ?_⟩
    rw [show (List.replicate g.length true).all id = true by simp]
    exact q _ (e1.trans hP.2)
/-- all but what stands at a is as it was -/
def Off (a : Addr) (H H1 : Hp) : Prop := ∀ b o, b ≠ a → H b = some o → H1 b = some o
theorem Off.upd {a : Addr} {H H1 : Hp} {o : HO} (e : Ex H H1) : Off a H (L2.upd H1 a o) := fun b u n h => by rw [upd_ne n]; exact e _ _ h
theorem Off.of {a : Addr} {H H1 : Hp} (e : Ex H H1) : Off a H H1 := fun b u _ h => e _ _ h
theorem Off.set {a : Addr} {H H1 : Hp} {o : HO} (e : Off a H H1) : Off a H (L2.upd H1 a o) := fun b u n h => by rw [upd_ne n]; exact e b u n h
theorem Off.tex {a : Addr} {H H1 H2 : Hp} (e : Off a H H1) (f : Ex H1 H2) : Off a H H2 := fun b u n h => f _ _ (e b u n h)
/-- the arguments of a row: tests by tests -/
def sp_Put_init (K : PySem.W.Frag) (C : Addr) : Sp
  | [.ref a, .str n, .str d, .ref q], H, Q, _ => ∃ dx g ks, H a = some (.ins C dx []) ∧ SqT K H q g ∧ n.length ≤ 1000 ∧ nmOk n = true ∧ kindsFor d g.length = some ks ∧ All2T argOk ks g ∧ g.length ≤ 1000 ∧ ∀ H1, Off a H H1 → H1 a = some (.ins C dx [("name", .str n), ("deed", .str d), ("given", .ref q)]) → Q .non H1
  | _, _, _, _ => False
def bs_Put_init : Prop := ∀ (kV doc pm : Value) (an : Option Addr) (cdv ct : Value) (us rest : List Value), us.length = ["self", "name", "deed"].length → bindArgs (PySem.W.fnOf "__init__" "Put.__init__" (defArgs s_Put_init) (defBody s_Put_init) (defScope s_Put_init) .none kV doc pm an cdv ct) ⟨us ++ rest, []⟩ = (newTuple rest >>= fun t => pure ((["self", "name", "deed"] : List Str).zip us ++ [(("given" : Str), t)]))
theorem bd_Put_init : bs_Put_init := fun kV doc pm an cdv ct us rest h => by
  match us, rest, h with
  | [a, b, c], [], _ => rfl
  | [a, b, c], r :: rs, _ => rfl
theorem ok_Put_init (T : Txt w K mg a_is_integer a_is_number a_is_base a_is_name a_are_rows a_needed a_fits a_is_of a_inner a_flat a_names_in a_bare a_named a_number_of a_joined a_result a_holding a_written a_part a_of_one a_of_two a_power a_run a_came_to a_holds a_law_deal a_law_draw a_law_pick a_law_words a_law_ask_of a_law_row_of a_law_told a_law a_Stopped_init a_Put_init a_If_init a_Times_init a_Ask_init a_Not_init a_Program_init a_Program_call a_Walk_init a_Walk_go a_Walk_do a_Walk_put a_Walk_decide a_Walk_choose a_InvalidBase a_Stopped a_FigureError a_InvalidNumber a_Put a_If a_Times a_Stop a_Ask a_Not a_Row a_Test a_Program a_Walk a_DEEDS a_SIGNS a_WORDS a_If_init_d0 a_Program_init_d0 d_is_integer d_is_number d_is_base d_is_name d_are_rows d_needed d_fits d_is_of d_inner d_flat d_names_in d_bare d_named d_number_of d_joined d_result d_holding d_written d_part d_of_one d_of_two d_power d_run d_came_to d_holds d_law_deal d_law_draw d_law_pick d_law_words d_law_ask_of d_law_row_of d_law_told d_law d_Stopped_init d_Put_init d_If_init d_Times_init d_Ask_init d_Not_init d_Program_init d_Program_call d_Walk_init d_Walk_go d_Walk_do d_Walk_put d_Walk_decide d_Walk_choose) : FnR P w K mg base CX0 6 a_Put_init (fun vs H Q E => ∃ ws rest, vs = ws ++ rest ∧ ws.length = 3 ∧ rest.length ≤ sizeLine ∧ ∀ p, H p = none → sp_Put_init K a_Put (ws ++ [V.ref p]) (upd H p (.tup rest)) Q E) := by
  have G_is_name := ok_is_name (P := P) (w := w) (base := base) T
  have G_fits := ok_fits (P := P) (w := w) (base := base) T
  obtain ⟨oc, od, kV, doc, pm, an, cdv, ct, osl, hfd, lk, hcd⟩ := T.F_Put_init.ex
  rw [hfd] at lk
  refine StX.fn_star (ps := ["self", "name", "deed"]) (pv := "given") lk hcd sc_Put_init StX.cxUp_none (bd_Put_init kV doc pm an cdv ct) fun A outer s H vs Q E hr h => ?_
  unfold sp_Put_init at h; split at h
  case h_2 => exact h.elim
  rename_i a n d q0
  obtain ⟨dx, g, ks, h1, h2, h3, h4, h5, h6, h7, q⟩ := h
  refine ⟨_, ((pss_cons (ps_if (pt_not (pt_val (pe_call G_is_name (hr.mono (by decide)) (by rfl) T.g_is_name T.F_is_name.kp T.b_is_name .nil pass0 (pa_cons (pv 1) pa_nil))))
      (pss_one ps_never)
      pss_nil)
      (pss_cons (ps_if (PW.pt (pw_or (pt_not (pt_val (pe_callB call_isiV (by rfl) T.z_isinstance (by decide +kernel) (pa_cons (pv 2) (pa_cons (pe_bltn (v := .ty "str") (by rfl) T.z_str (by decide +kernel) rfl) pa_nil))))) (pw_or1 (pt_cmpR (op_notIn_kdE T.D_DEEDS) (pv 2) (pe_globE (by rfl) T.g_DEEDS) (by rfl)))))
      (pss_one ps_never)
      pss_nil)
      (pss_cons (ps_if (pt_not (pt_val (pe_call G_fits (hr.mono (by decide)) (by rfl) T.g_fits T.F_fits.kp T.b_fits .nil pass0 (pa_cons (pv 2) (pa_cons (pv 3) pa_nil)))))
      (pss_one ps_never)
      pss_nil)
      (pss_cons (ps_fld (pv 0) (pv 1) (by rfl))
      (pss_cons (ps_fld (pv 0) (pv 2) (by rfl))
      (pss_one (ps_fld (pv 0) (pv 3) (by rfl))))))))).nox, ?_⟩
  walk_at "st"
  walk_at "vc"
  refine ⟨by omega, fun H1 e1 => ⟨true, by rw [h4], ?_⟩⟩
  rw [if_neg (by decide)]
  refine ⟨true, by decide +kernel, ?_⟩
  rw [if_neg (by decide)]
  obtain ⟨t, ht⟩ := deedIn T h5
  refine ⟨_, ht, ?_⟩
  rw [if_neg (by simp)]
  refine ⟨g, ks, e1.sqt h2, h5, h6, h7, fun H2 e2 => ⟨true, rfl, ?_⟩⟩
  rw [if_neg (by decide)]
  have e12 := e1.trans e2
  refine ⟨_, rfl, _, rfl, a, a_Put, dx, [], rfl, e12 _ _ h1, T.oc_Put.cl, T.nF_Put_name, by decide, ?_⟩
  refine ⟨_, rfl, _, rfl, a, a_Put, dx, _, rfl, upd_same, T.oc_Put.cl, T.nF_Put_deed, (show (1 : Nat) < 1000 by decide), ?_⟩
  refine ⟨_, rfl, _, rfl, a, a_Put, dx, _, rfl, upd_same, T.oc_Put.cl, T.nF_Put_given, (show (2 : Nat) < 1000 by decide), ?_⟩
  rw [upd_upd, upd_upd]
  exact q _ (Off.upd e12) upd_same
/-! ### the other rows and the tests, made -/
def wordTab : List (Str × Nat) := [("same", 2), ("less", 2), ("divides", 2), ("mirrored", 1), ("unlike", 1)]
theorem wordAt (T : Txt w K mg a_is_integer a_is_number a_is_base a_is_name a_are_rows a_needed a_fits a_is_of a_inner a_flat a_names_in a_bare a_named a_number_of a_joined a_result a_holding a_written a_part a_of_one a_of_two a_power a_run a_came_to a_holds a_law_deal a_law_draw a_law_pick a_law_words a_law_ask_of a_law_row_of a_law_told a_law a_Stopped_init a_Put_init a_If_init a_Times_init a_Ask_init a_Not_init a_Program_init a_Program_call a_Walk_init a_Walk_go a_Walk_do a_Walk_put a_Walk_decide a_Walk_choose a_InvalidBase a_Stopped a_FigureError a_InvalidNumber a_Put a_If a_Times a_Stop a_Ask a_Not a_Row a_Test a_Program a_Walk a_DEEDS a_SIGNS a_WORDS a_If_init_d0 a_Program_init_d0 d_is_integer d_is_number d_is_base d_is_name d_are_rows d_needed d_fits d_is_of d_inner d_flat d_names_in d_bare d_named d_number_of d_joined d_result d_holding d_written d_part d_of_one d_of_two d_power d_run d_came_to d_holds d_law_deal d_law_draw d_law_pick d_law_words d_law_ask_of d_law_row_of d_law_told d_law d_Stopped_init d_Put_init d_If_init d_Times_init d_Ask_init d_Not_init d_Program_init d_Program_call d_Walk_init d_Walk_go d_Walk_do d_Walk_put d_Walk_decide d_Walk_choose) : ∀ p ∈ wordTab, ∃ t, PySem.W.nsIn K a_WORDS p.1 = some (some (.int (p.2 : Int) t)) := by
  intro p hp
  simp only [wordTab, List.mem_cons, List.not_mem_nil, or_false] at hp
  rcases hp with rfl | rfl | rfl | rfl | rfl
  · exact T.I_WORDS_0
  · exact T.I_WORDS_1
  · exact T.I_WORDS_2
  · exact T.I_WORDS_3
  · exact T.I_WORDS_4
def nameOk (x : Str) : Prop := x.length ≤ 1000 ∧ nmOk x = true
def sp_Ask_init (K : PySem.W.Frag) (C : Addr) : Sp
  | [.ref a, .str x, .ref q], H, Q, _ => ∃ (dx : Addr) (ns : List Str), H a = some (.ins C dx []) ∧ SqT K H q (ns.map V.str) ∧ (x, ns.length) ∈ wordTab ∧ (∀ n ∈ ns, nameOk n) ∧ ∀ H1, Off a H H1 → H1 a = some (.ins C dx [("word", .str x), ("names", .ref q)]) → Q .non H1
  | _, _, _, _ => False
def bs_Ask_init : Prop := ∀ (kV doc pm : Value) (an : Option Addr) (cdv ct : Value) (us rest : List Value), us.length = ["self", "word"].length → bindArgs (PySem.W.fnOf "__init__" "Ask.__init__" (defArgs s_Ask_init) (defBody s_Ask_init) (defScope s_Ask_init) .none kV doc pm an cdv ct) ⟨us ++ rest, []⟩ = (newTuple rest >>= fun t => pure ((["self", "word"] : List Str).zip us ++ [(("names" : Str), t)]))
theorem bd_Ask_init : bs_Ask_init := fun kV doc pm an cdv ct us rest h => by
  match us, rest, h with
  | [a, b], [], _ => rfl
  | [a, b], r :: rs, _ => rfl
theorem ok_Ask_init (T : Txt w K mg a_is_integer a_is_number a_is_base a_is_name a_are_rows a_needed a_fits a_is_of a_inner a_flat a_names_in a_bare a_named a_number_of a_joined a_result a_holding a_written a_part a_of_one a_of_two a_power a_run a_came_to a_holds a_law_deal a_law_draw a_law_pick a_law_words a_law_ask_of a_law_row_of a_law_told a_law a_Stopped_init a_Put_init a_If_init a_Times_init a_Ask_init a_Not_init a_Program_init a_Program_call a_Walk_init a_Walk_go a_Walk_do a_Walk_put a_Walk_decide a_Walk_choose a_InvalidBase a_Stopped a_FigureError a_InvalidNumber a_Put a_If a_Times a_Stop a_Ask a_Not a_Row a_Test a_Program a_Walk a_DEEDS a_SIGNS a_WORDS a_If_init_d0 a_Program_init_d0 d_is_integer d_is_number d_is_base d_is_name d_are_rows d_needed d_fits d_is_of d_inner d_flat d_names_in d_bare d_named d_number_of d_joined d_result d_holding d_written d_part d_of_one d_of_two d_power d_run d_came_to d_holds d_law_deal d_law_draw d_law_pick d_law_words d_law_ask_of d_law_row_of d_law_told d_law d_Stopped_init d_Put_init d_If_init d_Times_init d_Ask_init d_Not_init d_Program_init d_Program_call d_Walk_init d_Walk_go d_Walk_do d_Walk_put d_Walk_decide d_Walk_choose) : FnR P w K mg base CX0 3 a_Ask_init (fun vs H Q E => ∃ ws rest, vs = ws ++ rest ∧ ws.length = 2 ∧ rest.length ≤ sizeLine ∧ ∀ p, H p = none → sp_Ask_init K a_Ask (ws ++ [V.ref p]) (upd H p (.tup rest)) Q E) := by
  have G_is_name := ok_is_name (P := P) (w := w) (base := base) T
  obtain ⟨oc, od, kV, doc, pm, an, cdv, ct, osl, hfd, lk, hcd⟩ := T.F_Ask_init.ex
  rw [hfd] at lk
  refine StX.fn_star (ps := ["self", "word"]) (pv := "names") lk hcd sc_Ask_init StX.cxUp_none (bd_Ask_init kV doc pm an cdv ct) fun A outer s H vs Q E hr h => ?_
  unfold sp_Ask_init at h; split at h
  case h_2 => exact h.elim
  rename_i a x q0
  obtain ⟨dx, ns, h1, h2, h3, h4, q⟩ := h
  refine ⟨_, ((pss_cons (ps_if (PW.pt (pw_or (pt_not (pt_val (pe_callB call_isiV (by rfl) T.z_isinstance (by decide +kernel) (pa_cons (pv 1) (pa_cons (pe_bltn (v := .ty "str") (by rfl) T.z_str (by decide +kernel) rfl) pa_nil))))) (pw_or1 (pt_cmpR (op_notIn_kdE T.D_WORDS) (pv 1) (pe_globE (by rfl) T.g_WORDS) (by rfl)))))
      (pss_one ps_never)
      pss_nil)
      (pss_cons (ps_if (PW.pt (pw_or (pt_cmpR op_ne (pe_callB call_len_seq (by rfl) T.z_len (by decide +kernel) (pa_cons (pv 2) pa_nil)) (pe_ixDX rfl takes0 (pe_globE (by rfl) T.g_WORDS) (pv 1) (fun _ _ => rfl)) (nomark _)) (pw_or1 (pt_not (pt_val (pe_callB (cr_all rfl) (by rfl) T.z_all (by decide +kernel) (pa_cons (pe_lc (own := [("one", 3)]) (g := gName 3) (by rfl) sc_Ask_init.nd (pi_tup (pv 2)) (blkOk_by (own := [("one", 3)]) (N := N_Ask_init) (sc := defScope s_Ask_init) (by decide +kernel)) (fun _ _ _ _ _ => (pg_name (i := 3) sc_Ask_init.nd rfl (by first | exact .inl rfl | exact .inr rfl))) (fun _ _ _ _ _ => pts_nil) (fun _ _ _ _ _ => (pe_call G_is_name (hr.mono (by decide)) (by rfl) T.g_is_name T.F_is_name.kp T.b_is_name .nil pass0 (pa_cons (pv 3) pa_nil)))) pa_nil)))))))
      (pss_one ps_never)
      pss_nil)
      (pss_cons (ps_fld (pv 0) (pv 1) (by rfl))
      (pss_one (ps_fld (pv 0) (pv 2) (by rfl))))))).nox, ?_⟩
  walk_at "st"
  walk_at "vc"
  obtain ⟨t, ht⟩ := wordAt T _ h3
  obtain ⟨es, n, D⟩ := T.D_WORDS
  refine ⟨true, by decide +kernel, ?_⟩
  rw [if_neg (by decide)]
  refine ⟨_, ht, ?_⟩
  rw [if_neg (by simp)]
  refine ⟨_, .inr h2, _, rfl, a_WORDS, x, rfl, rfl, .inl ⟨.int (ns.length : Nat), ⟨es, n, .int (ns.length : Nat) t, D.at_, D.lit, ht, ⟨t, rfl⟩⟩, rfl, ?_⟩⟩
  rw [if_neg (fun z => z (by rw [List.length_map]))]
  refine ⟨_, rfl, q0, rfl, ⟨_, h2⟩, fun D0 hD => lc_it (walk_tup (xs := ns.map V.str)) (C_ft D0 H) ⟨upd_same, Ex.new hD⟩ (fun i H' _ hP => hP.2.sqt h2) (fun i v H2 H' hi hP y => ?_) (fun H' hP => ?_)⟩
  · obtain ⟨rfl, hv⟩ := y
    rw [List.getElem?_map] at hv
    obtain ⟨z, hz, rfl⟩ := Option.map_eq_some_iff.mp hv
    have ok := h4 z (List.mem_of_getElem? hz)
    rw [List.length_map] at hi
    have hl2 : ns.length ≤ 2 := by
      simp only [wordTab, List.mem_cons, List.not_mem_nil, or_false, Prod.mk.injEq] at h3
      omega
    walk_at "vc"
    refine ⟨ok.1, fun H4 e4 => ?_⟩
    rw [ok.2]
    refine ⟨_, e4 _ _ hP.1, sz_lt (by simp; omega), ?_, (hP.2.trans e4).mut hD⟩
    rw [upd_same, List.replicate_succ', List.map_append]
    rfl
  refine ⟨D0, _, rfl, sq_of hP.1, true, by simp, ?_⟩
  rw [if_neg (by decide)]
  refine ⟨_, rfl, _, rfl, a, a_Ask, dx, [], rfl, hP.2 _ _ h1, T.oc_Ask.cl, T.nF_Ask_word, (show (0 : Nat) < 1000 by decide), ?_⟩
  refine ⟨_, rfl, _, rfl, a, a_Ask, dx, _, rfl, upd_same, T.oc_Ask.cl, T.nF_Ask_names, (show (1 : Nat) < 1000 by decide), ?_⟩
  rw [upd_upd]
  exact q _ (Off.upd hP.2) upd_same
/-- a test's own class -/
theorem TestO.cls {K : PySem.W.Frag} {A : ClsA} {H : Hp} {t : TestM} {v : V} (h : TestO K A H t v) : ∃ a dx fs, v = .ref a ∧ (H a = some (.ins A.ask dx fs) ∨ H a = some (.ins A.not dx fs)) := by
  cases t with
  | ask w ns => obtain ⟨a, dx, q, h1, h2, _⟩ := h; exact ⟨a, dx, _, h1, .inl h2⟩
  | not t => obtain ⟨a, dx, u, h1, h2, _⟩ := h; exact ⟨a, dx, _, h1, .inr h2⟩
/-- isinstance(t, Test) -/
theorem isTest (T : Txt w K mg a_is_integer a_is_number a_is_base a_is_name a_are_rows a_needed a_fits a_is_of a_inner a_flat a_names_in a_bare a_named a_number_of a_joined a_result a_holding a_written a_part a_of_one a_of_two a_power a_run a_came_to a_holds a_law_deal a_law_draw a_law_pick a_law_words a_law_ask_of a_law_row_of a_law_told a_law a_Stopped_init a_Put_init a_If_init a_Times_init a_Ask_init a_Not_init a_Program_init a_Program_call a_Walk_init a_Walk_go a_Walk_do a_Walk_put a_Walk_decide a_Walk_choose a_InvalidBase a_Stopped a_FigureError a_InvalidNumber a_Put a_If a_Times a_Stop a_Ask a_Not a_Row a_Test a_Program a_Walk a_DEEDS a_SIGNS a_WORDS a_If_init_d0 a_Program_init_d0 d_is_integer d_is_number d_is_base d_is_name d_are_rows d_needed d_fits d_is_of d_inner d_flat d_names_in d_bare d_named d_number_of d_joined d_result d_holding d_written d_part d_of_one d_of_two d_power d_run d_came_to d_holds d_law_deal d_law_draw d_law_pick d_law_words d_law_ask_of d_law_row_of d_law_told d_law d_Stopped_init d_Put_init d_If_init d_Times_init d_Ask_init d_Not_init d_Program_init d_Program_call d_Walk_init d_Walk_go d_Walk_do d_Walk_put d_Walk_decide d_Walk_choose) {H : Hp} {t : TestM} {v : V} {Q : VK} (h : TestO K ⟨a_Put, a_If, a_Times, a_Stop, a_Ask, a_Not⟩ H t v) (q : Q (.bl true) H) : rIsi K [v, .ref a_Test] H Q := by
  obtain ⟨a, dx, fs, rfl, h1 | h1⟩ := h.cls
  · exact ⟨_, _, _, _, true, rfl, .own _, T.oc_Ask.ty h1, kitO1 T.kits 4 7 (by decide) (by decide), q⟩
  · exact ⟨_, _, _, _, true, rfl, .own _, T.oc_Not.ty h1, kitO1 T.kits 5 7 (by decide) (by decide), q⟩
def sp_Not_init (K : PySem.W.Frag) (A : ClsA) : Sp
  | [.ref a, u], H, Q, _ => ∃ dx t, H a = some (.ins A.not dx []) ∧ TestO K A H t u ∧ ∀ H1, Off a H H1 → H1 a = some (.ins A.not dx [("test", u)]) → Q .non H1
  | _, _, _, _ => False
theorem ok_Not_init (T : Txt w K mg a_is_integer a_is_number a_is_base a_is_name a_are_rows a_needed a_fits a_is_of a_inner a_flat a_names_in a_bare a_named a_number_of a_joined a_result a_holding a_written a_part a_of_one a_of_two a_power a_run a_came_to a_holds a_law_deal a_law_draw a_law_pick a_law_words a_law_ask_of a_law_row_of a_law_told a_law a_Stopped_init a_Put_init a_If_init a_Times_init a_Ask_init a_Not_init a_Program_init a_Program_call a_Walk_init a_Walk_go a_Walk_do a_Walk_put a_Walk_decide a_Walk_choose a_InvalidBase a_Stopped a_FigureError a_InvalidNumber a_Put a_If a_Times a_Stop a_Ask a_Not a_Row a_Test a_Program a_Walk a_DEEDS a_SIGNS a_WORDS a_If_init_d0 a_Program_init_d0 d_is_integer d_is_number d_is_base d_is_name d_are_rows d_needed d_fits d_is_of d_inner d_flat d_names_in d_bare d_named d_number_of d_joined d_result d_holding d_written d_part d_of_one d_of_two d_power d_run d_came_to d_holds d_law_deal d_law_draw d_law_pick d_law_words d_law_ask_of d_law_row_of d_law_told d_law d_Stopped_init d_Put_init d_If_init d_Times_init d_Ask_init d_Not_init d_Program_init d_Program_call d_Walk_init d_Walk_go d_Walk_do d_Walk_put d_Walk_decide d_Walk_choose) : FnOk P w K mg base CX0 1 a_Not_init d_Not_init ["self", "test"] (sp_Not_init K ⟨a_Put, a_If, a_Times, a_Stop, a_Ask, a_Not⟩) := by
  refine T.F_Not_init.ok sc_Not_init (fun vs H Q E h => ?_) (fun cdv A outer s H vs Q E hr h => ?_)
  · unfold sp_Not_init at h; split at h; rfl; exact h.elim
  unfold sp_Not_init at h; split at h
  case h_2 => exact h.elim
  rename_i a u
  obtain ⟨dx, t, h1, h2, q⟩ := h
  refine ⟨_, (pss_cons (ps_if (pt_not (pt_val (pe_callB (call_isiK (K := K)) (by rfl) T.z_isinstance (by decide +kernel) (pa_cons (pv 1) (pa_cons (pe_glob (v := .ref a_Test) (by rfl) T.g_Test rfl) pa_nil)))))
      (pss_one ps_never)
      pss_nil)
      (pss_one (ps_fld (pv 0) (pv 1) (by rfl)))), ?_⟩
  walk_at "st"
  walk_at "vc"
  refine isTest T h2 ⟨true, rfl, ?_⟩
  rw [if_neg (by decide)]
  refine ⟨_, rfl, _, rfl, a, a_Not, dx, [], rfl, h1, T.oc_Not.cl, T.nF_Not_test, (show (0 : Nat) < 1000 by decide), q _ (Off.upd (Ex.refl H)) upd_same⟩
end
end My
set_option Elab.async false
set_option linter.all false
set_option maxRecDepth 100000
set_option maxHeartbeats 4000000
set_option exponentiation.threshold 5000
namespace My
open PySem PySem.Spec PyProof.Rows L2 Evl
local macro_rules | `(tactic| walk_at "st") => `(tactic| simp only [L2.start, List.map_cons, List.map_nil, List.length_cons, List.length_nil, Nat.reduceAdd, Nat.reduceSub, List.replicate_succ, List.replicate_zero, List.cons_append, List.nil_append, cxOf, List.append_nil])
local macro_rules | `(tactic| walk_at "vc") => `(tactic| try simp only [tSeq, tAsg, tOp, tUn, tVar, tC, tNil, tCons, gName, rI, rI0, rU, tRet, tIfS, tNot, tAnd, tOr, tB, tTest, tCB, tCall, tAndV, tOrV, tNotV, tNext, tNever, tIf, tChain, tYes, tPart, tNoPart, tPar, tDrop, q_isi, q_vn, q_vb, q_vi, q_vs, kb1, kb2, kb3, kb4, kb5, kb6, kb7, kb8, q_int1, q_int2, q_min, q_max, q_repr, tLst, tTup, rEq, rNe, q_sii, q_sss, q_sbb, q_snn, q_sns, q_ssn, q_ix, q_sl, tSl, tBM, tBM0, q_app, q_pop, gSub, rSetL, L2.wipe, eq_self, decide_true, decide_false, tRevL,
  List.getElem?_cons_succ, List.getElem?_cons_zero, List.set_cons_succ, List.set_cons_zero, Option.some.injEq, exists_eq_left', exists_eq_left, V.int.injEq, V.bl.injEq, V.ref.injEq, V.str.injEq, List.cons.injEq, and_true, true_and, List.append_nil, List.nil_append, List.cons_append, exists_and_left, and_assoc, if_true, if_false, Bool.not_true, Bool.not_false, Bool.false_eq_true, Bool.true_eq_false, reduceIte, tRevL, tPar3, tRevT, tUnl, tCKw, forall_const, Bool.not_eq_true', decide_eq_true_eq, decide_eq_false_iff_not])
section
variable {P : Program} {w : World} {K : PySem.W.Frag} {mg : Str → Option Value} {base : Heap}
variable {a_is_integer a_is_number a_is_base a_is_name a_are_rows a_needed a_fits a_is_of a_inner a_flat a_names_in a_bare a_named a_number_of a_joined a_result a_holding a_written a_part a_of_one a_of_two a_power a_run a_came_to a_holds a_law_deal a_law_draw a_law_pick a_law_words a_law_ask_of a_law_row_of a_law_told a_law a_Stopped_init a_Put_init a_If_init a_Times_init a_Ask_init a_Not_init a_Program_init a_Program_call a_Walk_init a_Walk_go a_Walk_do a_Walk_put a_Walk_decide a_Walk_choose a_InvalidBase a_Stopped a_FigureError a_InvalidNumber a_Put a_If a_Times a_Stop a_Ask a_Not a_Row a_Test a_Program a_Walk a_DEEDS a_SIGNS a_WORDS a_If_init_d0 a_Program_init_d0 : Addr} {d_is_integer d_is_number d_is_base d_is_name d_are_rows d_needed d_fits d_is_of d_inner d_flat d_names_in d_bare d_named d_number_of d_joined d_result d_holding d_written d_part d_of_one d_of_two d_power d_run d_came_to d_holds d_law_deal d_law_draw d_law_pick d_law_words d_law_ask_of d_law_row_of d_law_told d_law d_Stopped_init d_Put_init d_If_init d_Times_init d_Ask_init d_Not_init d_Program_init d_Program_call d_Walk_init d_Walk_go d_Walk_do d_Walk_put d_Walk_decide d_Walk_choose : FuncData}
/-- a row's own class -/
theorem RowO.cls {K : PySem.W.Frag} {A : ClsA} {H : Hp} {r : RowM} {v : V} (h : RowO K A H r v) : ∃ a dx fs C, v = .ref a ∧ H a = some (.ins C dx fs) ∧ (C = A.put ∨ C = A.ifr ∨ C = A.times ∨ C = A.stop) := by
  cases r with
  | stop => unfold RowO at h; obtain ⟨a, dx, h1, h2⟩ := h; exact ⟨a, dx, _, _, h1, h2, .inr (.inr (.inr rfl))⟩
  | put n d g => unfold RowO at h; obtain ⟨a, dx, q, h1, h2, _⟩ := h; exact ⟨a, dx, _, _, h1, h2, .inl rfl⟩
  | times c rs => unfold RowO at h; obtain ⟨a, dx, q, vs, h1, h2, _⟩ := h; exact ⟨a, dx, _, _, h1, h2, .inr (.inr (.inl rfl))⟩
  | ifr t rs os => unfold RowO at h; obtain ⟨a, dx, u, q, r, vs, ws, h1, h2, _⟩ := h; exact ⟨a, dx, _, _, h1, h2, .inr (.inl rfl)⟩
theorem isRow (T : Txt w K mg a_is_integer a_is_number a_is_base a_is_name a_are_rows a_needed a_fits a_is_of a_inner a_flat a_names_in a_bare a_named a_number_of a_joined a_result a_holding a_written a_part a_of_one a_of_two a_power a_run a_came_to a_holds a_law_deal a_law_draw a_law_pick a_law_words a_law_ask_of a_law_row_of a_law_told a_law a_Stopped_init a_Put_init a_If_init a_Times_init a_Ask_init a_Not_init a_Program_init a_Program_call a_Walk_init a_Walk_go a_Walk_do a_Walk_put a_Walk_decide a_Walk_choose a_InvalidBase a_Stopped a_FigureError a_InvalidNumber a_Put a_If a_Times a_Stop a_Ask a_Not a_Row a_Test a_Program a_Walk a_DEEDS a_SIGNS a_WORDS a_If_init_d0 a_Program_init_d0 d_is_integer d_is_number d_is_base d_is_name d_are_rows d_needed d_fits d_is_of d_inner d_flat d_names_in d_bare d_named d_number_of d_joined d_result d_holding d_written d_part d_of_one d_of_two d_power d_run d_came_to d_holds d_law_deal d_law_draw d_law_pick d_law_words d_law_ask_of d_law_row_of d_law_told d_law d_Stopped_init d_Put_init d_If_init d_Times_init d_Ask_init d_Not_init d_Program_init d_Program_call d_Walk_init d_Walk_go d_Walk_do d_Walk_put d_Walk_decide d_Walk_choose) {H : Hp} {r : RowM} {v : V} {Q : VK} (h : RowO K ⟨a_Put, a_If, a_Times, a_Stop, a_Ask, a_Not⟩ H r v) (q : Q (.bl true) H) : rIsi K [v, .ref a_Row] H Q := by
  obtain ⟨a, dx, fs, C, rfl, h1, rfl | rfl | rfl | rfl⟩ := h.cls
  · exact ⟨_, _, _, _, true, rfl, .own _, T.oc_Put.ty h1, kitO1 T.kits 0 6 (by decide) (by decide), q⟩
  · exact ⟨_, _, _, _, true, rfl, .own _, T.oc_If.ty h1, kitO1 T.kits 1 6 (by decide) (by decide), q⟩
  · exact ⟨_, _, _, _, true, rfl, .own _, T.oc_Times.ty h1, kitO1 T.kits 2 6 (by decide) (by decide), q⟩
  · exact ⟨_, _, _, _, true, rfl, .own _, T.oc_Stop.ty h1, kitO1 T.kits 3 6 (by decide) (by decide), q⟩
theorem RowOs.at_ {K : PySem.W.Frag} {A : ClsA} {H : Hp} : ∀ {rs : List RowM} {vs : List V} {i : Nat} {v : V}, RowOs K A H rs vs → vs[i]? = some v → ∃ r, rs[i]? = some r ∧ RowO K A H r v
  | [], vs, i, v, h, hv => by unfold RowOs at h; subst h; simp at hv
  | r :: rs, vs, i, v, h, hv => by
    unfold RowOs at h
    obtain ⟨x, ws, rfl, h1, h2⟩ := h
    cases i with
    | zero => rw [List.getElem?_cons_zero] at hv; cases hv; exact ⟨r, rfl, h1⟩
    | succ i => rw [List.getElem?_cons_succ] at hv ⊢; exact h2.at_ hv
theorem RowOs.len {K : PySem.W.Frag} {A : ClsA} {H : Hp} : ∀ {rs : List RowM} {vs : List V}, RowOs K A H rs vs → vs.length = rs.length
  | [], vs, h => by unfold RowOs at h; subst h; rfl
  | r :: rs, vs, h => by
    unfold RowOs at h
    obtain ⟨x, ws, rfl, h1, h2⟩ := h
    rw [List.length_cons, List.length_cons, h2.len]
theorem sqt_tyx {K : PySem.W.Frag} {H : Hp} {a : Addr} {xs : List V} (h : SqT K H a xs) : TyX K H (.ref a) (.type "tuple") := by
  rcases h with (h | ⟨o, h⟩) | ⟨o, its, n, l, c, _⟩
  · exact .base (.tup h)
  · exact .fTuple h
  · exact .kTuple l c
def sp_are_rows (K : PySem.W.Frag) (A : ClsA) : Sp
  | [.ref p], H, Q, _ => ∃ rs vs, (H p = some (.lst vs) ∨ SqT K H p vs) ∧ RowOs K A H rs vs ∧ vs.length ≤ 1000 ∧ ∀ H', Ex H H' → Q (.bl true) H'
  | _, _, _, _ => False
theorem ok_are_rows (T : Txt w K mg a_is_integer a_is_number a_is_base a_is_name a_are_rows a_needed a_fits a_is_of a_inner a_flat a_names_in a_bare a_named a_number_of a_joined a_result a_holding a_written a_part a_of_one a_of_two a_power a_run a_came_to a_holds a_law_deal a_law_draw a_law_pick a_law_words a_law_ask_of a_law_row_of a_law_told a_law a_Stopped_init a_Put_init a_If_init a_Times_init a_Ask_init a_Not_init a_Program_init a_Program_call a_Walk_init a_Walk_go a_Walk_do a_Walk_put a_Walk_decide a_Walk_choose a_InvalidBase a_Stopped a_FigureError a_InvalidNumber a_Put a_If a_Times a_Stop a_Ask a_Not a_Row a_Test a_Program a_Walk a_DEEDS a_SIGNS a_WORDS a_If_init_d0 a_Program_init_d0 d_is_integer d_is_number d_is_base d_is_name d_are_rows d_needed d_fits d_is_of d_inner d_flat d_names_in d_bare d_named d_number_of d_joined d_result d_holding d_written d_part d_of_one d_of_two d_power d_run d_came_to d_holds d_law_deal d_law_draw d_law_pick d_law_words d_law_ask_of d_law_row_of d_law_told d_law d_Stopped_init d_Put_init d_If_init d_Times_init d_Ask_init d_Not_init d_Program_init d_Program_call d_Walk_init d_Walk_go d_Walk_do d_Walk_put d_Walk_decide d_Walk_choose) : FnOk P w K mg base CX0 1 a_are_rows d_are_rows ["value"] (sp_are_rows K ⟨a_Put, a_If, a_Times, a_Stop, a_Ask, a_Not⟩) := by
  refine T.F_are_rows.ok sc_are_rows (fun vs H Q E h => ?_) (fun cdv A outer s H vs Q E hr h => ?_)
  · unfold sp_are_rows at h; split at h; rfl; exact h.elim
  unfold sp_are_rows at h; split at h
  case h_2 => exact h.elim
  rename_i p
  obtain ⟨rs, vs, hp, ho, hl, q⟩ := h
  refine ⟨_, (pss_one (ps_ret (pe_and (pe_callB (call_isiTK (K := K)) (by rfl) T.z_isinstance (by decide +kernel) (pa_cons (pv 0) (pa_cons (pe_tup (pa_cons (pe_bltn (v := .ty "list") (by rfl) T.z_list (by decide +kernel) rfl) (pa_cons (pe_bltn (v := .ty "tuple") (by rfl) T.z_tuple (by decide +kernel) rfl) pa_nil))) pa_nil))) (pe_one (pe_callB (cr_all rfl) (by rfl) T.z_all (by decide +kernel) (pa_cons (pe_lc (own := [("one", 1)]) (g := gName 1) (by rfl) sc_are_rows.nd (pi_lt (pv 0)) (blkOk_by (own := [("one", 1)]) (N := N_are_rows) (sc := defScope s_are_rows) (by decide +kernel)) (fun _ _ _ _ _ => (pg_name (i := 1) sc_are_rows.nd rfl (by first | exact .inl rfl | exact .inr rfl))) (fun _ _ _ _ _ => pts_nil) (fun _ _ _ _ _ => (pe_callB (call_isiK (K := K)) (by rfl) T.z_isinstance (by decide +kernel) (pa_cons (pv 1) (pa_cons (pe_glob (v := .ref a_Row) (by rfl) T.g_Row rfl) pa_nil))))) pa_nil)))))), ?_⟩
  walk_at "st"
  walk_at "vc"
  refine ⟨sz_le (by simp), fun p1 h1 => ?_⟩
  have e1 := Ex.new h1 (o := .tup [.ty "list", .ty "tuple"])
  have w1 : upd H p1 (.tup [.ty "list", .ty "tuple"]) p1 = some (.tup [.ty "list", .ty "tuple"]) := upd_same
  generalize upd H p1 (.tup [.ty "list", .ty "tuple"]) = H1 at *
  have hp1 : H1 p = some (.lst vs) ∨ SqT K H1 p vs := hp.imp (fun h => e1 _ _ h) (fun h => (Kp.of_ex e1).sqt h)
  have ho1 := ho.kp (Kp.of_ex e1)
  have body : ∀ (i : Nat) (v : V) (D : Addr) (H2 : Hp), H1 D = none → vs[i]? = some v → C_ft D H1 i H2 → rIsi K [v, .ref a_Row] H2 fun y H4 => ∃ acc, H4 D = some (.lst acc) ∧ acc.length < sizeLine ∧ C_ft D H1 (i + 1) (upd H4 D (.lst (acc ++ [y]))) := by
    intro i v D H2 hD hv hP
    obtain ⟨r, hr0, hr1⟩ := ho1.at_ hv
    have hi := (List.getElem?_eq_some_iff.mp hv).1
    refine isRow T (hr1.kp (Kp.of_ex hP.2)) ⟨_, hP.1, sz_lt (by simp; omega), ?_, hP.2.mut hD⟩
    rw [upd_same, List.replicate_succ', List.map_append]
    rfl
  have fin : ∀ (D : Addr) (H2 : Hp), C_ft D H1 vs.length H2 → rAll K [.ref D] H2 Q := fun D H2 hP => ⟨D, _, rfl, sq_of hP.1, by rw [show (List.replicate vs.length true).all id = true by simp]; exact q _ (e1.trans hP.2)⟩
  rcases hp1 with hl1 | ht1
  · refine ⟨_, p1, _, .type "list", _, true, rfl, w1, .cons (.ty _) (.cons (.ty _) .nil), .base (.lst hl1), ?_, _, rfl, ?_⟩
    · exact kitAny_cons (b := true) (kit_ty kb9) (fun z => by cases z) (fun _ => rfl)
    rw [if_pos rfl]
    refine ⟨_, rfl, p, rfl, .inl ⟨⟨_, sq_of hl1⟩, fun D hD => lc_it (walk_list (xs := vs)) (C_ft D H1) ⟨upd_same, Ex.new hD⟩ (fun i H' _ hP => hP.2.sql (sq_of hl1)) (fun i v H2 H' hi hP y => ?_) (fun H' hP => fin D H' hP)⟩⟩
    obtain ⟨rfl, hv⟩ := y
    walk_at "vc"
    exact body i v D _ hD hv hP
  · refine ⟨_, p1, _, .type "tuple", _, true, rfl, w1, .cons (.ty _) (.cons (.ty _) .nil), sqt_tyx ht1, ?_, _, rfl, ?_⟩
    · exact kitAny_cons (b := false) (kit_ty kb11) (fun _ => kitAny_cons (b := true) (kit_ty kb12) (fun z => by cases z) (fun _ => rfl)) (fun z => by cases z)
    rw [if_pos rfl]
    refine ⟨_, rfl, p, rfl, .inr ⟨⟨_, ht1⟩, fun D hD => lc_it (walk_tup (xs := vs)) (C_ft D H1) ⟨upd_same, Ex.new hD⟩ (fun i H' _ hP => hP.2.sqt ht1) (fun i v H2 H' hi hP y => ?_) (fun H' hP => fin D H' hP)⟩⟩
    obtain ⟨rfl, hv⟩ := y
    walk_at "vc"
    exact body i v D _ hD hv hP
/-- tuple(x) of what may be a list or a tuple -/
theorem tupleX {K : PySem.W.Frag} {i : Nat} {σ : L2.St} {a p C dx : Addr} {fs : List (Str × V)} {H H1 : Hp} {vs : List V} {Q : VK} (hs : σ[i]? = some (some (.ref p))) (o : Off a H H1) (h1 : H a = some (.ins C dx fs)) (h3 : H p = some (.lst vs) ∨ H p = some (.tup vs)) (ha : H1 a ≠ none)
    (q : ∀ r H2, Ex H1 H2 → H2 r = some (.tup vs) → r ≠ a → Q (.ref r) H2) : tCB (fun xs H Q => ∃ p, xs = [V.ref p] ∧ ∃ x, (SqL K H p x ∧ ∀ (l : Addr), H l = none → Q (V.ref l) (upd H l (HO.tup x))) ∨ SqT K H p x ∧ Q (V.ref p) H) (tCons (tVar i) tNil) σ H1 Q := by
  have np : p ≠ a := fun e => by
    rw [e, h1] at h3
    rcases h3 with z | z <;> cases z
  refine ⟨_, hs, p, rfl, vs, ?_⟩
  rcases h3 with h | h
  · exact .inl ⟨sq_of (o _ _ np h), fun l hl => q l _ (Ex.new hl) upd_same (fun e => by rw [e] at hl; exact ha hl)⟩
  · exact .inr ⟨st_of (o _ _ np h), q p H1 (Ex.refl _) (o _ _ np h) np⟩
theorem fldT {K : PySem.W.Frag} {i : Nat} {σ : L2.St} {a p C dx : Addr} {fs fs1 : List (Str × V)} {H H1 : Hp} {vs : List V} {f : Str} {D : Ends} (h0 : σ[0]? = some (some (.ref a))) (hs : σ[i]? = some (some (.ref p))) (o : Off a H H1) (h1 : H a = some (.ins C dx fs)) (h3 : H p = some (.lst vs) ∨ H p = some (.tup vs)) (ha : H1 a = some (.ins C dx fs1)) (cl : Cls K C) (nf : NoAttr K C f) (hl : fs1.length < 1000)
    (q : ∀ r H2, Ex H1 H2 → H2 r = some (.tup vs) → r ≠ a → D.nx σ (upd H2 a (.ins C dx (putF f (.ref r) fs1)))) : sFld K (tVar 0) (tCB (fun xs H Q => ∃ p, xs = [V.ref p] ∧ ∃ x, (SqL K H p x ∧ ∀ (l : Addr), H l = none → Q (V.ref l) (upd H l (HO.tup x))) ∨ SqT K H p x ∧ Q (V.ref p) H) (tCons (tVar i) tNil)) f D σ H1 := by
  unfold sFld
  exact tupleX hs o h1 h3 (by rw [ha]; simp) fun r H2 e2 hr nra => ⟨_, h0, a, C, dx, _, rfl, e2 _ _ ha, cl, nf, hl, q r H2 e2 hr nra⟩
def sp_Times_init (K : PySem.W.Frag) (A : ClsA) : Sp
  | [.ref a, .int c, .ref p], H, Q, _ => ∃ dx rs vs, H a = some (.ins A.times dx []) ∧ 0 ≤ c ∧ (H p = some (.lst vs) ∨ H p = some (.tup vs)) ∧ RowOs K A H rs vs ∧ vs.length ≤ 1000 ∧
      ∀ H1 q, Off a H H1 → H1 q = some (.tup vs) → H1 a = some (.ins A.times dx [("count", .int c), ("rows", .ref q)]) → Q .non H1
  | _, _, _, _ => False
theorem ok_Times_init (T : Txt w K mg a_is_integer a_is_number a_is_base a_is_name a_are_rows a_needed a_fits a_is_of a_inner a_flat a_names_in a_bare a_named a_number_of a_joined a_result a_holding a_written a_part a_of_one a_of_two a_power a_run a_came_to a_holds a_law_deal a_law_draw a_law_pick a_law_words a_law_ask_of a_law_row_of a_law_told a_law a_Stopped_init a_Put_init a_If_init a_Times_init a_Ask_init a_Not_init a_Program_init a_Program_call a_Walk_init a_Walk_go a_Walk_do a_Walk_put a_Walk_decide a_Walk_choose a_InvalidBase a_Stopped a_FigureError a_InvalidNumber a_Put a_If a_Times a_Stop a_Ask a_Not a_Row a_Test a_Program a_Walk a_DEEDS a_SIGNS a_WORDS a_If_init_d0 a_Program_init_d0 d_is_integer d_is_number d_is_base d_is_name d_are_rows d_needed d_fits d_is_of d_inner d_flat d_names_in d_bare d_named d_number_of d_joined d_result d_holding d_written d_part d_of_one d_of_two d_power d_run d_came_to d_holds d_law_deal d_law_draw d_law_pick d_law_words d_law_ask_of d_law_row_of d_law_told d_law d_Stopped_init d_Put_init d_If_init d_Times_init d_Ask_init d_Not_init d_Program_init d_Program_call d_Walk_init d_Walk_go d_Walk_do d_Walk_put d_Walk_decide d_Walk_choose) : FnOk P w K mg base CX0 3 a_Times_init d_Times_init ["self", "count", "rows"] (sp_Times_init K ⟨a_Put, a_If, a_Times, a_Stop, a_Ask, a_Not⟩) := by
  have G_is_number := ok_is_number (P := P) (w := w) (base := base) T
  have G_are_rows := ok_are_rows (P := P) (w := w) (base := base) T
  refine T.F_Times_init.ok sc_Times_init (fun vs H Q E h => ?_) (fun cdv A outer s H vs Q E hr h => ?_)
  · unfold sp_Times_init at h; split at h; rfl; exact h.elim
  unfold sp_Times_init at h; split at h
  case h_2 => exact h.elim
  rename_i a c p
  obtain ⟨dx, rs, vs, h1, h2, h3, h4, h5, q⟩ := h
  refine ⟨_, (pss_cons (ps_if (pt_not (pt_val (pe_call G_is_number (hr.mono (by decide)) (by rfl) T.g_is_number T.F_is_number.kp T.b_is_number .nil pass0 (pa_cons (pv 1) pa_nil))))
      (pss_one ps_never)
      pss_nil)
      (pss_cons (ps_if (pt_not (pt_val (pe_call G_are_rows (hr.mono (by decide)) (by rfl) T.g_are_rows T.F_are_rows.kp T.b_are_rows .nil pass0 (pa_cons (pv 2) pa_nil))))
      (pss_one ps_never)
      pss_nil)
      (pss_cons (ps_fld (pv 0) (pv 1) (by rfl))
      (pss_one (ps_fld (pv 0) (pe_callTy call_tuple_of (by rfl) T.z_tuple (by decide +kernel) (pa_cons (pv 2) pa_nil)) (by rfl)))))), ?_⟩
  walk_at "st"
  walk_at "vc"
  refine ⟨true, by rw [decide_eq_true h2], ?_⟩
  rw [if_neg (by decide)]
  refine ⟨rs, vs, h3.imp id st_of, h4, h5, fun H1 e1 => ⟨true, rfl, ?_⟩⟩
  rw [if_neg (by decide)]
  refine ⟨_, rfl, _, rfl, a, a_Times, dx, [], rfl, e1 _ _ h1, T.oc_Times.cl, T.nF_Times_count, (show (0 : Nat) < 1000 by decide), ?_⟩
  have o1 : Off a H (upd H1 a (.ins a_Times dx (putF "count" (.int c) []))) := Off.upd e1
  refine fldT rfl rfl o1 h1 h3 upd_same T.oc_Times.cl T.nF_Times_rows (show (1 : Nat) < 1000 by decide) fun r H2 e2 hr nra => ?_
  exact q _ r (o1.tex e2).set (by rw [upd_ne nra]; exact hr) upd_same
def sp_If_init (K : PySem.W.Frag) (A : ClsA) : Sp
  | [.ref a, u, .ref p, .ref r], H, Q, _ => ∃ dx t rs vs os ws, H a = some (.ins A.ifr dx []) ∧ TestO K A H t u ∧ (H p = some (.lst vs) ∨ H p = some (.tup vs)) ∧ RowOs K A H rs vs ∧ vs.length ≤ 1000 ∧ (H r = some (.lst ws) ∨ H r = some (.tup ws)) ∧ RowOs K A H os ws ∧ ws.length ≤ 1000 ∧
      ∀ H1 q q2, Off a H H1 → H1 q = some (.tup vs) → H1 q2 = some (.tup ws) → H1 a = some (.ins A.ifr dx [("test", u), ("rows", .ref q), ("others", .ref q2)]) → Q .non H1
  | _, _, _, _ => False
theorem ok_If_init (T : Txt w K mg a_is_integer a_is_number a_is_base a_is_name a_are_rows a_needed a_fits a_is_of a_inner a_flat a_names_in a_bare a_named a_number_of a_joined a_result a_holding a_written a_part a_of_one a_of_two a_power a_run a_came_to a_holds a_law_deal a_law_draw a_law_pick a_law_words a_law_ask_of a_law_row_of a_law_told a_law a_Stopped_init a_Put_init a_If_init a_Times_init a_Ask_init a_Not_init a_Program_init a_Program_call a_Walk_init a_Walk_go a_Walk_do a_Walk_put a_Walk_decide a_Walk_choose a_InvalidBase a_Stopped a_FigureError a_InvalidNumber a_Put a_If a_Times a_Stop a_Ask a_Not a_Row a_Test a_Program a_Walk a_DEEDS a_SIGNS a_WORDS a_If_init_d0 a_Program_init_d0 d_is_integer d_is_number d_is_base d_is_name d_are_rows d_needed d_fits d_is_of d_inner d_flat d_names_in d_bare d_named d_number_of d_joined d_result d_holding d_written d_part d_of_one d_of_two d_power d_run d_came_to d_holds d_law_deal d_law_draw d_law_pick d_law_words d_law_ask_of d_law_row_of d_law_told d_law d_Stopped_init d_Put_init d_If_init d_Times_init d_Ask_init d_Not_init d_Program_init d_Program_call d_Walk_init d_Walk_go d_Walk_do d_Walk_put d_Walk_decide d_Walk_choose) : FnOk P w K mg base CX0 2 a_If_init d_If_init ["self", "test", "rows", "others"] (sp_If_init K ⟨a_Put, a_If, a_Times, a_Stop, a_Ask, a_Not⟩) := by
  have G_are_rows := ok_are_rows (P := P) (w := w) (base := base) T
  refine T.F_If_init.ok sc_If_init (fun vs H Q E h => ?_) (fun cdv A outer s H vs Q E hr h => ?_)
  · unfold sp_If_init at h; split at h; rfl; exact h.elim
  unfold sp_If_init at h; split at h
  case h_2 => exact h.elim
  rename_i a u p r
  obtain ⟨dx, t, rs, vs, os, ws, h1, h2, h3, h4, h5, h6, h7, h8, q⟩ := h
  refine ⟨_, ((pss_cons (ps_if (pt_not (pt_val (pe_callB (call_isiK (K := K)) (by rfl) T.z_isinstance (by decide +kernel) (pa_cons (pv 1) (pa_cons (pe_glob (v := .ref a_Test) (by rfl) T.g_Test rfl) pa_nil)))))
      (pss_one ps_never)
      pss_nil)
      (pss_cons (ps_if (PW.pt (pw_or (pt_not (pt_val (pe_call G_are_rows (hr.mono (by decide)) (by rfl) T.g_are_rows T.F_are_rows.kp T.b_are_rows .nil pass0 (pa_cons (pv 2) pa_nil)))) (pw_or1 (pt_not (pt_val (pe_call G_are_rows (hr.mono (by decide)) (by rfl) T.g_are_rows T.F_are_rows.kp T.b_are_rows .nil pass0 (pa_cons (pv 3) pa_nil)))))))
      (pss_one ps_never)
      pss_nil)
      (pss_cons (ps_fld (pv 0) (pv 1) (by rfl))
      (pss_cons (ps_fld (pv 0) (pe_callTy call_tuple_of (by rfl) T.z_tuple (by decide +kernel) (pa_cons (pv 2) pa_nil)) (by rfl))
      (pss_one (ps_fld (pv 0) (pe_callTy call_tuple_of (by rfl) T.z_tuple (by decide +kernel) (pa_cons (pv 3) pa_nil)) (by rfl)))))))).nox, ?_⟩
  walk_at "st"
  walk_at "vc"
  refine isTest T h2 ⟨true, rfl, ?_⟩
  rw [if_neg (by decide)]
  refine ⟨rs, vs, h3.imp id st_of, h4, h5, fun H1 e1 => ⟨true, rfl, ?_⟩⟩
  rw [if_neg (by decide)]
  have h6' : H1 r = some (.lst ws) ∨ H1 r = some (.tup ws) := by
    rcases h6 with h | h
    · exact .inl (e1 _ _ h)
    · exact .inr (e1 _ _ h)
  refine ⟨os, ws, h6'.imp id st_of, h7.kp (Kp.of_ex e1), h8, fun H2 e2 => ⟨true, rfl, ?_⟩⟩
  rw [if_neg (by decide)]
  have e12 := e1.trans e2
  refine ⟨_, rfl, _, rfl, a, a_If, dx, [], rfl, e12 _ _ h1, T.oc_If.cl, T.nF_If_test, (show (0 : Nat) < 1000 by decide), ?_⟩
  have o1 : Off a H (upd H2 a (.ins a_If dx (putF "test" u []))) := Off.upd e12
  refine fldT rfl rfl o1 h1 h3 upd_same T.oc_If.cl T.nF_If_rows (show (1 : Nat) < 1000 by decide) fun r1 H3 e3 hr1 n1 => ?_
  have o2 := (o1.tex e3).set (o := .ins a_If dx (putF "rows" (.ref r1) (putF "test" u [])))
  refine fldT rfl rfl o2 h1 h6 upd_same T.oc_If.cl T.nF_If_others (show (2 : Nat) < 1000 by decide) fun r2 H4 e4 hr2 n2 => ?_
  exact q _ r1 r2 (o2.tex e4).set (by rw [upd_ne n1]; exact e4 _ _ (by rw [upd_ne n1]; exact hr1)) (by rw [upd_ne n2]; exact hr2) upd_same
end
end My
set_option Elab.async false
set_option linter.all false
set_option maxRecDepth 100000
set_option maxHeartbeats 4000000
/-! own classes whose __init__ takes a star and one keyword-only parameter with a default: the promise, the calls -/
namespace My
open PySem PySem.Spec PyProof.Rows L2 Evl
/-- a promise by positional values and keywords of these names -/
def FnKW (P : Program) (w : World) (K : PySem.W.Frag) (mg : Str → Option Value) (base : Heap) (CX : CXT) (k : Nat) (f : Addr) (ks : List Str) (sp : List V → List V → Hp → VK → XK → Prop) : Prop :=
  ∀ (A : Around) (outer : List Env) (s : Shared) (H : Hp) (us ws : List Value) (vs zs : List V) (Q : VK) (E : XK), Room k A → Env0 P w K mg base A outer s H → Vals vs us → Vals zs ws → zs.length = ks.length → sp vs zs H Q E →
    codeAny (model P w) A (.call (.ref f) ⟨us, ks.zip ws⟩) (CR CX outer P w H s Q E) s
section
variable {CX : CXT} {P : Program} {w : World} {K : PySem.W.Frag} {mg : Str → Option Value} {base : Heap} {k : Nat} {f : Addr} {name qual : Str} {params : Arguments} {body : List Stmt} {scope : Scope} {dV kV doc pm cdv ct oc : Value} {an od : Option Addr}
  {osl : Array (Option Value)} {N : List Str} {sp : Sp} {p1 pk pv : Str}
theorem bnd_star {A : Around} {outer : List Env} {s : Shared} {H : Hp} {args : Args} {E : XK} {a d : V} {rest : List V} {ua ud : Value} {ur : List Value} {fd : FuncData} (hCX : StX.CXUp CX) (e0 : Env0 P w K mg base A outer s H) (ra : RelV a ua) (rd : RelV d ud) (rr : Vals rest ur) (hz : rest.length ≤ sizeLine)
    (hb : ∀ (A' : Around) (Ex : Value → Shared → Prop) (R : List (Str × Value) → Shared → Prop), wpAny (model P w) A' (newTuple ur >>= fun t => pure [(p1, ua), (pk, ud), (pv, t)]) R Ex s → wpAny (model P w) A' (bindArgs fd args) R Ex s) :
    StX.Bnd CX P w K mg base fd args [p1, pk, pv] A outer s H E (fun xs H2 => ∃ p, H p = Option.none ∧ xs = [a, d, V.ref p] ∧ H2 = upd H p (.tup rest)) := by
  intro A' Ex Q' h
  have hn : H s.heap.objs.size = Option.none := e0.hok.fresh (Nat.le_refl _)
  have hl2 : ur.length ≤ sizeLine := by rw [← rr.length]; exact hz
  refine hb A' Ex Q' (wpAny_bind (wpAny_newTuple (wpAny_pure ?_) hl2))
  have new : ObjOk P w (upd H s.heap.objs.size (.tup rest)) (s.heap.push ({ cls := .type "tuple", data := .seq ur.toArray } : Obj)) s.heap.objs.size (.tup rest) := ⟨hz, ur, rr, ⟨_, Heap.get?_push_size _ rfl, rfl, _, rfl⟩⟩
  have un := StX.un_laid (fs := frs outer) (s := s) (o := ({ cls := .type "tuple", data := .seq ur.toArray } : Obj)) (u := .tup rest) hn
  exact h _ _ [a, d, V.ref s.heap.objs.size] [ua, ud, Value.ref s.heap.objs.size] (StX.env0_laid e0 new) un rfl (fun e s' => hCX outer s H _ _ E e s' un (fun b o q => Heap.get?_push_of_some _ q) rfl) (.cons ra (.cons rd (.cons rfl .nil))) rfl ⟨_, hn, rfl, rfl⟩
/-- def f(a, *v, k=..), called with k -/
theorem fn_starK (lk : K.lookup f = some ⟨oc, od, .func (PySem.W.fnOf name qual params body scope dV kV doc pm an cdv ct), osl⟩) (hcd : PySem.W.codeIn K cdv qual = true) (S : FnScope N [p1, pk, pv] scope) (hCX : StX.CXUp CX)
    (hb : ∀ (a v : Value) (rest : List Value), bindArgs (PySem.W.fnOf name qual params body scope dV kV doc pm an cdv ct) ⟨a :: rest, [(pk, v)]⟩ = (newTuple rest >>= fun t => pure [(p1, a), (pk, v), (pv, t)]))
    (hbody : ∀ (A : Around) (outer : List Env) (s : Shared) (H : Hp) (vs : List V) (Q : VK) (E : XK), Room k (A.deeper (envOfC qual scope s.heap.objs.size f cdv)) → sp vs H Q E →
      ∃ t, PSs (cxOf CX P w K mg base N qual scope f cdv A outer s H E) body t ∧ t { nx := fun _ H' => Q .non H', rt := Q } (start N vs) H) :
    FnKW P w K mg base CX (k + 1) f [pk] (fun vs zs H Q E => ∃ a d rest, vs = a :: rest ∧ zs = [d] ∧ rest.length ≤ sizeLine ∧ ∀ p, H p = Option.none → sp [a, d, V.ref p] (upd H p (.tup rest)) Q E) := by
  intro A outer s H us ws vs zs Q E hr e0 r rz _ hsp
  obtain ⟨a, d, rest, rfl, rfl, hz, hq⟩ := hsp
  obtain ⟨ud, rfl, rd⟩ := rz.one
  cases r with
  | cons ra rr =>
    rename_i ua ur
    refine StX.run_bnd lk hcd S hr e0 (bnd_star hCX e0 ra rd rr hz fun A' Ex R h => ?_) fun s2 H2 xs ⟨p, hp, ex, eH⟩ hr' => ?_
    · show wpAny _ _ (bindArgs _ ⟨ua :: ur, [(pk, ud)]⟩) _ _ _
      rw [hb]
      exact h
    · subst ex eH
      exact hbody A outer s2 _ _ Q E hr' (hq p hp)
/-- def f(a, *v, k=..), called without k -/
theorem fn_starD {D : Addr} {d : V} (lk : K.lookup f = some ⟨oc, od, .func (PySem.W.fnOf name qual params body scope dV (.ref D) doc pm an cdv ct), osl⟩) (hcd : PySem.W.codeIn K cdv qual = true) (S : FnScope N [p1, pk, pv] scope) (hCX : StX.CXUp CX)
    (hd : ∃ u, PySem.W.nsIn K D pk = some (some u) ∧ RelV d u)
    (hb : ∀ (a v : Value) (rest : List Value), ∃ (β γ : Type) (k1 : Option Value → Sem β) (k2 : β → Sem γ) (k3 : γ → Sem (List (Str × Value))) (b : β), bindArgs (PySem.W.fnOf name qual params body scope dV (.ref D) doc pm an cdv ct) ⟨a :: rest, []⟩ = ((nsGet D pk >>= k1) >>= k2) >>= k3 ∧ k1 (some v) = pure b ∧ (k2 b >>= k3) = (newTuple rest >>= fun t => pure [(p1, a), (pk, v), (pv, t)]))
    (hbody : ∀ (A : Around) (outer : List Env) (s : Shared) (H : Hp) (vs : List V) (Q : VK) (E : XK), Room k (A.deeper (envOfC qual scope s.heap.objs.size f cdv)) → sp vs H Q E →
      ∃ t, PSs (cxOf CX P w K mg base N qual scope f cdv A outer s H E) body t ∧ t { nx := fun _ H' => Q .non H', rt := Q } (start N vs) H) :
    FnKW P w K mg base CX (k + 1) f [] (fun vs zs H Q E => ∃ a rest, vs = a :: rest ∧ rest.length ≤ sizeLine ∧ ∀ p, H p = Option.none → sp [a, d, V.ref p] (upd H p (.tup rest)) Q E) := by
  intro A outer s H us ws vs zs Q E hr e0 r rz _ hsp
  obtain ⟨a, rest, rfl, hz, hq⟩ := hsp
  obtain ⟨ud, hud, rd⟩ := hd
  have KX : K.In s.heap := e0.mod.kin.keeps fun b o e => (e0.bs b o e).1
  cases r with
  | cons ra rr =>
    rename_i ua ur
    refine StX.run_bnd lk hcd S hr e0 (bnd_star hCX e0 ra rd rr hz fun A' Ex R h => ?_) fun s2 H2 xs ⟨p, hp, ex, eH⟩ hr' => ?_
    · show wpAny _ _ (bindArgs _ ⟨ua :: ur, []⟩) _ _ _
      obtain ⟨β, γ, k1, k2, k3, b, e1, e2, e3⟩ := hb ua ud ur
      rw [e1, bind_assoc]
      have l1 : PySem.W.Looks (model P w) s.heap (nsGet D pk >>= k1) b := (PySem.W.looks_nsIn KX hud).andThen (PySem.W.Looks.of_pure e2)
      refine wpAny_bind (l1.here ?_)
      rw [e3]
      exact h
    · subst ex eH
      exact hbody A outer s2 _ _ Q E hr' (hq p hp)
end
/-! ### the calls -/
section
variable {M : Model} {A : Around} {E : Value → Shared → Prop} {s : Shared} {K : PySem.W.Frag} {env : Env}
/-- one starred argument alone, and keywords: the keywords' values come ahead of the star's items -/
theorem args_starK {f : Value} {x : Sem Value} {pos : Pos} {kws : List (Option Str × Sem Value)} {Q : Args → Shared → Prop} (hall : kws.all (·.1.isSome) = true)
    (h : wpAny M A x (fun v s1 => wpAny M A (evalAll (kws.map (·.2))) (fun ks s2 => PySem.W.StarOf M A E v (fun vs s3 => Q ⟨vs, (kws.filterMap (·.1)).zip ks⟩ s3) s2) E s1) E s) :
    wpAny M A (evalArgs f true [(true, (do let v ← x; standAt pos; pure v))] kws) Q E s := by
  unfold evalArgs
  refine wpAny_bind (wpAny_bind (wpAny_mono h (fun v s1 h1 => wpAny_bind (wpAny_standAt (wpAny_pure ?_))) fun _ _ z => z))
  refine wpAny_holding ?_
  rw [if_pos hall]
  refine wpAny_bind (wpAny_mono h1 (fun ks s2 h2 => ?_) fun _ _ z => z)
  unfold PySem.W.StarOf at h2
  refine wpAny_bind (wpAny_bind (wpAny_mono h2 (fun b s3 h3 => ?_) fun _ _ z => z))
  obtain ⟨rfl, h3⟩ := h3
  exact wpAny_holding (wpAny_mono h3 (fun vs s4 h4 => wpAny_pure h4) fun _ _ z => z)
theorem call_starKK {f : Value} {first : List Value} {pos : Pos} {Q : Value → Shared → Prop} {args : List (Bool × Sem Value)} {kws : List (Option Str × Sem Value)} (hst : args.any (·.1) = true) (hk : PySem.W.keepIn K f = true)
    (h : wpAny M A (evalArgs f true args kws) (fun a s1 => K.In s1.heap ∧ wpAny M A (call f (first ++ a.pos) a.kw) Q E s1) E s) : wpAny M A (callWith pos f first args kws) Q E s := by
  unfold callWith
  refine wpAny_bind (wpAny_holding (wpAny_mono h (fun a s1 h1 => wpAny_bind (wpAny_standAt ?_)) fun _ _ z => z))
  obtain ⟨k, hk', L⟩ := PySem.W.keeps_K (M := M) hk _ h1.1
  simp only [hst, Bool.true_or]
  refine wpAny_bind (L.here ?_)
  have back : ∀ {t : Sem Value}, wpAny M A t Q E s1 → wpAny M A (t >>= fun r => holding [r] point >>= fun _ => pure r) Q E s1 :=
    fun ht => wpAny_bind (wpAny_mono ht (fun r s2 hr => wpAny_bind (wpAny_holding (wpAny_point (wpAny_pure hr)))) fun _ _ z => z)
  have mk (m : Value) : wpAny M A (callMarked m f (first ++ a.pos) a.kw) Q E s1 := by unfold callMarked; exact Calls.wpAny_keep h1.2
  rcases hk' with rfl | rfl | rfl <;> dsimp only <;> first | exact back (mk _) | exact back (wpAny_operating h1.2)
end
/-- C(..): the promise of __init__ by positional values and keywords -/
def tMakeW (C : Addr) (sp : List V → List V → Hp → VK → XK → Prop) (E : XK) (H : Hp) (Q : VK) (vs zs : List V) : Prop := ∀ x dx, H x = none → H dx = none → dx ≠ x →
  sp (.ref x :: vs) zs (upd (upd H dx (.own x)) x (.ins C dx [])) (fun v H3 => v = .non ∧ Q (.ref x) H3) E
section
variable {X : Cx} {CX : CXT} {k : Nat} {f C : Addr} {ks : List Str} {sp : List V → List V → Hp → VK → XK → Prop} {E : XK} {x : Str} {p pos sp_ : Pos} {e : Expr} {es : List Expr} {kws : List Keyword} {t tk : TA} {te : TE}
theorem run_makeW {pins : List (Addr × Obj)} {σ : L2.St} {H : Hp} {s : Shared} {Q : VK} {us ws : List Value} {vs zs : List V} (M : Mk X.K C f) (F : FnKW X.prog X.w X.K X.mg X.base CX k f ks sp) (hr : Room (k + 1) X.A) (hx : Passes CX X E)
    (I : Inv X pins σ H s) (r : Vals vs us) (rz : Vals zs ws) (l : zs.length = ks.length) (h : tMakeW C sp E H Q vs zs) : wpAny (model X.prog X.w) X.A (call (.ref C) us (ks.zip ws)) (EP X pins σ Q) X.xe s := by
  have hq := h (s.heap.objs.size + 1) s.heap.objs.size (I.hok.fresh (Nat.le_succ _)) (I.hok.fresh (Nat.le_refl _)) (Nat.ne_of_lt (Nat.lt_succ_self _))
  have I2 := Inv.made (C := C) I
  have r1 : Vals (V.ref (s.heap.objs.size + 1) :: vs) (Value.ref (s.heap.objs.size + 1) :: us) := .cons rfl r
  refine wpAny_call (make_map (f := f) I.kIn M.makes M.init (beq_iff_eq.mp M.fn) (codeAny_mono (F _ X.stack _ _ (Value.ref (s.heap.objs.size + 1) :: us) ws _ zs _ E (hr.make C us (ks.zip ws)) (I2.env0.make C us (ks.zip ws)) r1 rz l hq) fun r s' hq' => ?_))
  cases r with
  | error e => exact hx pins σ _ _ e s' I2 hq'
  | ok fl =>
    cases fl with
    | ret u =>
      obtain ⟨v, H', I3, rv, ev, q3⟩ := I2.after hq'
      subst ev
      exact ⟨rv, ⟨V.ref (s.heap.objs.size + 1), H', I3, rfl, q3⟩⟩
    | next => exact False.elim hq'
    | brk => exact False.elim hq'
    | cont => exact False.elim hq'
/-- C(k=e) -/
theorem pe_makeW0 (M : Mk X.K C f) (F : FnKW X.prog X.w X.K X.mg X.base CX k f ks sp) (hr : Room (k + 1) X.A) (hg : Gl X x) (hm : X.mg x = some (.ref C)) (hx : Passes CX X E) (hkw : PK X kws tk)
    (hall : (backToKw pos (keywordEach kws X.env)).all (·.1.isSome) = true := by rfl) (hks : (backToKw pos (keywordEach kws X.env)).filterMap (·.1) = ks := by rfl) (hdb : (x == ("__debug__" : Str)) = false := by decide)
    (hpl : ((backTo pos (starEach [] X.env)).any (·.1) || (backToKw pos (keywordEach kws X.env)).any (·.1.isNone)) = false := by rfl) :
    PE X (.Call (.Name x p) [] kws pos) (fun σ H Q => tk σ H fun zs H2 => zs.length = ks.length ∧ tMakeW C sp E H2 Q [] zs) := by
  refine ⟨fun pins s σ H Q I h => ?_⟩
  refine wpAny_Call_Name_kw (ld_glob I hg hm ?_ hdb)
  refine PySem.W.callWith_KW0 (h₀ := X.base) I.ok.mod.kin M.kp hall ?_ hpl
  refine thn (hkw.run pos pins s σ H _ I h) fun ws s2 ⟨zs, H2, I2, rz, l2, q2⟩ => ⟨I2.kIn, ?_⟩
  rw [hks]
  exact run_makeW (us := []) (vs := []) M F hr hx I2 .nil rz l2 q2
/-- C(e, .., k=e) -/
theorem pe_makeW (M : Mk X.K C f) (F : FnKW X.prog X.w X.K X.mg X.base CX k f ks sp) (hr : Room (k + 1) X.A) (hg : Gl X x) (hm : X.mg x = some (.ref C)) (hx : Passes CX X E) (ha : PA X (e :: es) t) (hkw : PK X kws tk)
    (hall : (backToKw pos (keywordEach kws X.env)).all (·.1.isSome) = true := by rfl) (hks : (backToKw pos (keywordEach kws X.env)).filterMap (·.1) = ks := by rfl) (hdb : (x == ("__debug__" : Str)) = false := by decide)
    (he : starEach (e :: es) X.env = (false, eval e X.env) :: starEach es X.env := by rfl) (hpl : ((backTo pos (starEach (e :: es) X.env)).any (·.1) || (backToKw pos (keywordEach kws X.env)).any (·.1.isNone)) = false := by rfl) :
    PE X (.Call (.Name x p) (e :: es) kws pos) (fun σ H Q => t σ H fun vs H1 => tk σ H1 fun zs H2 => zs.length = ks.length ∧ tMakeW C sp E H2 Q vs zs) := by
  refine ⟨fun pins s σ H Q I h => ?_⟩
  refine wpAny_Call_Name_kw (ld_glob I hg hm ?_ hdb)
  refine PySem.W.callWith_KW (h₀ := X.base) I.ok.mod.kin M.kp hall (thn (ha.run pos pins s σ H _ I h) fun us s1 ⟨vs, H1, I1, r, q⟩ => ?_) hpl he
  refine thn (hkw.run pos pins s1 σ H1 _ I1 q) fun ws s2 ⟨zs, H2, I2, rz, l2, q2⟩ => ⟨I2.kIn, ?_⟩
  rw [hks]
  exact run_makeW M F hr hx I2 r rz l2 q2
/-- C(e, ..) -/
theorem pe_makeWP (M : Mk X.K C f) (F : FnKW X.prog X.w X.K X.mg X.base CX k f [] sp) (hr : Room (k + 1) X.A) (hg : Gl X x) (hm : X.mg x = some (.ref C)) (hx : Passes CX X E) (ha : PA X (e :: es) t) (hdb : (x == ("__debug__" : Str)) = false := by decide)
    (he : starEach (e :: es) X.env = (false, eval e X.env) :: starEach es X.env := by rfl) (hpl : (backTo pos (starEach es X.env)).any (·.1) = false := by rfl) :
    PE X (.Call (.Name x p) (e :: es) [] pos) (fun σ H Q => t σ H fun vs H1 => tMakeW C sp E H1 Q vs []) := by
  refine ⟨fun pins s σ H Q I h => ?_⟩
  refine wpAny_Call_Name_kw (ld_glob I hg hm ?_ hdb)
  refine PySem.W.callWith_K (h₀ := X.base) I.ok.mod.kin M.kp (thn (ha.run pos pins s σ H _ I h) fun us s1 ⟨vs, H1, I1, r, q⟩ => ⟨I1.kIn, ?_⟩) he hpl
  exact run_makeW (ks := []) (ws := []) (zs := []) M F hr hx I1 r .nil rfl q
/-- C() -/
theorem pe_makeWN (M : Mk X.K C f) (F : FnKW X.prog X.w X.K X.mg X.base CX k f [] sp) (hr : Room (k + 1) X.A) (hg : Gl X x) (hm : X.mg x = some (.ref C)) (hx : Passes CX X E) (hdb : (x == ("__debug__" : Str)) = false := by decide) :
    PE X (.Call (.Name x p) [] [] pos) (fun σ H Q => tMakeW C sp E H Q [] []) := by
  refine ⟨fun pins s σ H Q I h => ?_⟩
  refine wpAny_Call_Name_kw (ld_glob I hg hm ?_ hdb)
  exact PySem.W.callWith_K0 I.kIn M.kp (run_makeW (ks := []) (ws := []) (zs := []) (us := []) (vs := []) M F hr hx I .nil .nil rfl h)
/-- C(*e, k=e) -/
theorem pe_makeWS (M : Mk X.K C f) (F : FnKW X.prog X.w X.K X.mg X.base CX k f ks sp) (hr : Room (k + 1) X.A) (hg : Gl X x) (hm : X.mg x = some (.ref C)) (hx : Passes CX X E) (he : PE X e te) (hkw : PK X kws tk)
    (hall : (backToKw pos (keywordEach kws X.env)).all (·.1.isSome) = true := by rfl) (hks : (backToKw pos (keywordEach kws X.env)).filterMap (·.1) = ks := by rfl) (hdb : (x == ("__debug__" : Str)) = false := by decide)
    (hst : starEach [.Starred e sp_] X.env = [(true, eval e X.env)] := by rfl) :
    PE X (.Call (.Name x p) [.Starred e sp_] kws pos) (fun σ H Q => te σ H fun y H1 => ∃ a xs, y = V.ref a ∧ tk σ H1 fun zs H2 => (SqT X.K H2 a xs ∨ SqL X.K H2 a xs) ∧ zs.length = ks.length ∧ tMakeW C sp E H2 Q xs zs) := by
  refine ⟨fun pins s σ H Q I h => ?_⟩
  refine wpAny_Call_Name_kw (ld_glob I hg hm ?_ hdb)
  rw [hst]
  refine call_starKK (K := X.K) rfl M.kp (args_starK hall (thn (he.run pins s σ H _ I h) fun v s1 ⟨y, H1, I1, ry, a, xs, ey, q⟩ => ?_))
  subst ey
  obtain rfl : v = Value.ref a := ry
  refine thn (hkw.run pos pins s1 σ H1 _ I1 q) fun ws s2 ⟨zs, H2, I2, rz, hxs, l2, q2⟩ => ?_
  refine StX.star_any I2 hxs fun us s3 I3 rv => ⟨I3.kIn, ?_⟩
  rw [hks]
  exact run_makeW M F hr hx I3 rv rz l2 q2
end
end My
set_option Elab.async false
set_option linter.all false
set_option maxRecDepth 100000
set_option maxHeartbeats 4000000
/-! operators of own classes: both of the class, with an int on either side, -a, in place -/
namespace My
open PySem PySem.Spec PyProof.Rows L2 Evl
/-! ### an int's own operator declines an object of an own class -/
section
variable {prog : Program} {w : World} {M : Model} {A : Around} {E : Value → Shared → Prop} {s : Shared} {K : PySem.W.Frag} {x C f : Addr} {ox : Obj} {od : Option Obj} {i : Int} {t : Tok}
theorem asInt_own {Q : Option Int → Shared → Prop} (I : PySem.W.InstAt s.heap x ox C od) (hd : ox.data = .plain) (q : Q none s) : wpAny M A (asInt? (.ref x)) Q E s := by
  show wpAny M A (load x >>= fun o => _) Q E s
  refine wpAny_bind (wpAny_load I.at_ ?_)
  rw [hd]
  exact wpAny_pure q
theorem int_no {name : String} {g : Int → Int → Sem Fin} {Q : Fin → Shared → Prop} (I : PySem.W.InstAt s.heap x ox C od) (hd : ox.data = .plain) (q : Q (.done (.ret .notImplemented)) s) : wpAny M A (Builtin.Int.intBinary name g false ⟨[.int i t, .ref x], []⟩) Q E s := by
  unfold Builtin.Int.intBinary
  refine wpAny_bind (wpAny_of_eq (a := (Value.int i t, [Value.ref x])) rfl ?_)
  refine wpAny_bind (wpAny_of_eq (a := i) rfl ?_)
  refine wpAny_bind (asInt_own I hd ?_)
  exact wpAny_bind (wpAny_rule (wpAny_pure q))
/-- what an int's operator is made of -/
structure IntOp (op : Operator) (id : String) : Prop where
  fills : fillsNumberSlot (.type "int") op.info.2 = pure true
  slot : Slot "int" (dunder op.info.2) id
  entry : ∃ name g, entryFor table id = some (Builtin.Int.intBinary name g false)
  args : ∀ a b, argsOk id ⟨[a, b], []⟩
theorem call_no {op : Operator} {id : String} (o : IntOp op id) {Q : Value → Shared → Prop} (I : PySem.W.InstAt s.heap x ox C od) (hd : ox.data = .plain) (q : Q .notImplemented s) : wpAny (model prog w) A (call (.builtin id) [.int i t, .ref x]) Q E s := by
  obtain ⟨name, g, e⟩ := o.entry
  exact wpAny_call (codeAny_call_builtin o.slot.plain e (o.slot.check _ _ _ _ _ _ _ _ (typeIs_int s i t) (o.args _ _) (int_no I hd q)))
theorem bin_intOwn {op : Operator} {id : String} {g0 : Addr} (o : IntOp op id) {Q : Value → Shared → Prop} (X : K.In s.heap) (I : PySem.W.InstAt s.heap x ox C od) (hd : ox.data = .plain) (hc : PySem.W.selfFirst K C = true) (hs : PySem.W.findIn K (.ref C) (PySem.dunder op.info.2) = some (some (.ref g0)))
    (hr : PySem.W.findIn K (.ref C) (dunderR op.info.2) = some (some (.ref f))) (hf : PySem.W.isFn K (.ref f) = true) (hsub : PySem.W.subIn K (.ref C) (.type "int") = some false)
    (h : wpAny (model prog w) A (call (.ref f) [.ref x, .int i t]) (PySem.W.CmpBack Q) E s) : wpAny (model prog w) A (binaryOp op (.int i t) (.ref x)) Q E s := by
  obtain ⟨cd, rest, hcd, hm⟩ := PySem.W.ksp_first hc
  have hfT := o.fills
  have hl := o.slot
  have hno := fun (Q : Value → Shared → Prop) (q : Q .notImplemented s) => call_no (prog := prog) (w := w) (A := A) (E := E) (i := i) (t := t) o I hd (Q := Q) q
  clear o
  rcases hi : op.info with ⟨sym, nm⟩
  rw [hi] at hs hr hfT hl
  dsimp only at hs hr hfT hl
  have two := PySem.W.ksp_try X I hr hf h
  have L3 : PySem.W.Looks (model prog w) s.heap (fillsNumberSlot (.ref C) nm) true := PySem.W.fills_K X hcd hm hs
  have L5 : PySem.W.Looks (model prog w) s.heap (isSubtype (.ref C) (.type "int")) false := PySem.W.looks_subIn X hsub
  have hne : (Value.type "int" == Value.ref C) = false := Bool.eq_false_iff.mpr fun q => by cases beq_iff_eq.mp q
  have hpy : numberSlotInPython (.type "int") nm = pure false := rfl
  simp only [binaryOp, hi]
  refine wpAny_holding (wpAny_bind ?_)
  unfold binaryOp1
  refine wpAny_bind (wpAny_typeOf (typeIs_int s i t) (wpAny_bind (I.type.here (wpAny_bind (wpAny_of_eq hfT ?_)))))
  simp only [hne, Bool.false_eq_true, if_false]
  refine wpAny_bind (L3.here ?_)
  simp only [Bool.and_self, if_true]
  refine wpAny_bind (L5.here ?_)
  simp only [Bool.false_eq_true, if_false, pure_bind, Bool.not_false, Bool.and_self, if_true, hpy]
  simp only [tryMethod] at two ⊢
  refine wpAny_bind (wpAny_bind (wpAny_callSpecial?_slot (typeIs_int s i t) hl (hno _ ?_)))
  refine wpAny_pure (wpAny_bind (wpAny_mono two (fun r s' hr' => ?_) fun _ _ e => e))
  obtain ⟨v, rfl, hq⟩ := hr'
  exact wpAny_bind (wpAny_rule (wpAny_pure (wpAny_pure hq)))
end
theorem int_sub0 {K : PySem.W.Frag} {C : Addr} {Q : Prop} (h : Q) : Q := h
theorem iop_add : IntOp .Add "int.__add__" := ⟨F.fills_int_add, F.slot_int_add, ⟨_, _, F.entry_int_add⟩, F.args_int_add_2⟩
theorem iop_sub : IntOp .Sub "int.__sub__" := ⟨F.fills_int_sub, F.slot_int_sub, ⟨_, _, F.entry_int_sub⟩, F.args_int_sub_2⟩
theorem iop_mul : IntOp .Mult "int.__mul__" := ⟨F.fills_int_mul, F.slot_int_mul, ⟨_, _, F.entry_int_mul⟩, F.args_int_mul_2⟩
/-! ### the rules -/
/-- what the class at C must have: the operator's own def -/
structure BinC (K : PySem.W.Frag) (op : Operator) (C g : Addr) : Prop where
  m : MethC K (PySem.dunder op.info.2) C g
  sf : PySem.W.selfFirst K C = true
  isub : PySem.W.subIn K (.type "int") (.ref C) = some false
  r : (PySem.W.findIn K (.ref C) (dunderR op.info.2) = some none ∨ ∃ f : Addr, PySem.W.findIn K (.ref C) (dunderR op.info.2) = some (some (.ref f)))
structure BinR (K : PySem.W.Frag) (op : Operator) (C g f : Addr) : Prop where
  m : MethC K (PySem.dunder op.info.2) C g
  mr : MethC K (dunderR op.info.2) C f
  sf : PySem.W.selfFirst K C = true
  csub : PySem.W.subIn K (.ref C) (.type "int") = some false
/-- a op b: both of the class at C, or an int on the right -/
def rBin (C : Addr) (sp : Sp) (E : XK) : R2 := fun x y H Q => ∃ a dx fs, x = .ref a ∧ H a = some (.ins C dx fs) ∧ ((∃ i, y = .int i) ∨ ∃ b dy gs, y = .ref b ∧ H b = some (.ins C dy gs)) ∧ sp [x, y] H Q E
/-- i op a: an int on the left -/
def rBinI (C : Addr) (sp : Sp) (E : XK) : R2 := fun x y H Q => ∃ i a dx fs, x = .int i ∧ y = .ref a ∧ H a = some (.ins C dx fs) ∧ sp [y, x] H Q E
section
variable {X : Cx} {CX : CXT} {n : Nat} {sp : Sp} {E : XK} {C g f : Addr} {op : Operator}
/-- what the library's facts say of the int's side of an operator -/
structure IntSide (op : Operator) : Prop where
  a : ∃ fo, PySem.W.findIn [] (.type "int") (PySem.dunder op.info.2) = some fo
  b : ∃ ro, PySem.W.findIn [] (.type "int") (dunderR op.info.2) = some ro
theorem op_bin (hS : BinC X.K op C g) (h1 : ∃ fo, PySem.W.findIn X.K (.type "int") (PySem.dunder op.info.2) = some fo) (h2 : ∃ ro, PySem.W.findIn X.K (.type "int") (dunderR op.info.2) = some ro) (hF : FnR X.prog X.w X.K X.mg X.base CX n g sp) (hr : Room n X.A) (hx : Passes CX X E) : OpR X (binaryOp op) (rBin C sp E) := by
  intro pins s σ H x y v u Q I rx ry h
  obtain ⟨a, dx, fs, rfl, ha, hy, q⟩ := h
  obtain rfl : v = Value.ref a := rx
  obtain ⟨od, J⟩ := ins_at I ha
  obtain ⟨m, hFr⟩ := I.fr
  have main : wpAny (model X.prog X.w) X.A (call (.ref g) [.ref a, u]) (PySem.W.CmpBack (EP X pins σ Q)) X.xe s := by
    refine wpAny_mono (wpAny_call (run_fnR (us := [.ref a, u]) (vs := [.ref a, y]) hF hr hx I (.cons rfl (.cons ry .nil)) q)) (fun w s' z => ?_) fun _ _ x => x
    obtain ⟨z', H', I', rz, qz⟩ := z
    exact SlX.cmpback rz ⟨z', H', I', rz, qz⟩
  rcases hy with ⟨i, rfl⟩ | ⟨b, dy, gs, rfl, hb⟩
  · obtain ⟨t, rfl⟩ := (show ∃ t, u = Value.int i t from ry)
    obtain ⟨fo, h1⟩ := h1
    obtain ⟨ro, h2⟩ := h2
    rcases hS.r with hr' | ⟨f', hr'⟩
    · exact PySem.W.ksp_binT hFr I.ok.mod.kin J (b := .int i t) (T := "int") rfl hS.sf hS.m.at_ hS.m.fn hr' (.inl rfl) h1 h2 hS.isub main
    · exact PySem.W.ksp_binT hFr I.ok.mod.kin J (b := .int i t) (T := "int") rfl hS.sf hS.m.at_ hS.m.fn hr' (.inr ⟨_, rfl⟩) h1 h2 hS.isub main
  · obtain rfl : u = Value.ref b := ry
    obtain ⟨od2, J2⟩ := ins_at I hb
    exact PySem.W.binop_K hFr I.ok.mod.kin J J2.type hS.sf hS.m.at_ hS.m.fn main
theorem op_binI {id : String} (o : IntOp op id) (hS : BinR X.K op C g f) (hF : FnR X.prog X.w X.K X.mg X.base CX n f sp) (hr : Room n X.A) (hx : Passes CX X E) : OpR X (binaryOp op) (rBinI C sp E) := by
  intro pins s σ H x y v u Q I rx ry h
  obtain ⟨i, a, dx, fs, rfl, rfl, ha, q⟩ := h
  obtain rfl : u = Value.ref a := ry
  obtain ⟨t, rfl⟩ := (show ∃ t, v = Value.int i t from rx)
  obtain ⟨od, J⟩ := ins_at I ha
  refine bin_intOwn o I.kIn J rfl hS.sf hS.m.at_ hS.mr.at_ hS.mr.fn hS.csub ?_
  refine wpAny_mono (wpAny_call (run_fnR (us := [.ref a, .int i t]) (vs := [.ref a, .int i]) hF hr hx I (.cons rfl (.cons ⟨_, rfl⟩ .nil)) q)) (fun w s' z => ?_) fun _ _ x => x
  obtain ⟨z', H', I', rz, qz⟩ := z
  exact SlX.cmpback rz ⟨z', H', I', rz, qz⟩
/-- -a -/
def rNegO (C : Addr) (sp : Sp) (E : XK) : V → Hp → VK → Prop := fun x H Q => ∃ a dx fs, x = .ref a ∧ H a = some (.ins C dx fs) ∧ sp [x] H Q E
theorem un_negO (hS : MethC X.K "__neg__" C g) (hF : FnR X.prog X.w X.K X.mg X.base CX n g sp) (hr : Room n X.A) (hx : Passes CX X E) : UnR X (unaryOp .USub) (rNegO C sp E) := by
  intro pins s σ H x v Q I rx h
  obtain ⟨a, dx, fs, rfl, ha, q⟩ := h
  obtain rfl : v = Value.ref a := rx
  obtain ⟨od, J⟩ := ins_at I ha
  obtain ⟨m, hFr⟩ := I.fr
  refine PySem.W.ksp_neg hFr I.ok.mod.kin J hS.at_ hS.fn ?_
  exact wpAny_mono (wpAny_call (run_fnR (us := [.ref a]) (vs := [.ref a]) hF hr hx I (.cons rfl .nil) q)) (fun w s' z => z) fun _ _ x => x
end
end My
namespace My
open PySem PySem.Spec PyProof.Rows L2 Evl
/-! ### a op= b without an own __iop__ -/
/-- a class without an own in-place def -/
structure INo (K : PySem.W.Frag) (op : Operator) (C : Addr) : Prop where
  mro : (PySem.W.clsIn K C).map (·.mro) = some [.ref C, .type "object"]
  no : PySem.W.findIn K (.ref C) (dunderI op.info.2) = some none
theorem obj_isub : typeLookup (.type "object") (dunderI "sub") = pure none := by rw [typeLookup_type, builtinLookup_eq_fast]; kernel_rfl
theorem obj_imul : typeLookup (.type "object") (dunderI "mul") = pure none := by rw [typeLookup_type, builtinLookup_eq_fast]; kernel_rfl
theorem obj_ipow : typeLookup (.type "object") (dunderI "pow") = pure none := by rw [typeLookup_type, builtinLookup_eq_fast]; kernel_rfl
theorem fills_noG {M : Model} {K : PySem.W.Frag} {h : Heap} {C : Addr} {op : Operator} {ad : Bool} (X : K.In h) (T : INo K op C) (ob : typeLookup (.type "object") (dunderI op.info.2) = pure none) : PySem.W.Looks M h (fillsInplaceSlot (.ref C) op.info.2 ad) false := by
  cases hc : PySem.W.clsIn K C with
  | none => have := T.mro; rw [hc] at this; cases this
  | some cd =>
    have hm : cd.mro = [.ref C, .type "object"] := by have := T.mro; rw [hc] at this; exact Option.some.inj this
    intro A Q E s k q
    have Lm : PySem.W.Looks M h (mroOf (.ref C)) cd.mro := (PySem.W.looks_clsIn X hc).andThen (f := fun cd => pure cd.mro) .now
    have Lm' := Lm.keeps k
    obtain ⟨hh, g, d, tt, os⟩ := s
    have X' : K.In hh := X.keeps k
    have L1 : PySem.W.Looks M hh (typeLookup (.ref C) (dunderI op.info.2)) none := PySem.W.looks_findIn X' T.no
    unfold fillsInplaceSlot
    refine wpAny_bind (Lm'.at ?_)
    rw [hm, List.anyM_cons]
    refine wpAny_bind (wpAny_bind (L1.at (wpAny_pure ?_)))
    rw [if_neg (by decide), List.anyM_cons]
    refine wpAny_bind (wpAny_bind (wpAny_of_eq ob (wpAny_pure ?_)))
    rw [if_neg (by decide), List.anyM_nil]
    exact wpAny_pure q
section
variable {prog : Program} {w : World} {A : Around} {E : Value → Shared → Prop} {s : Shared} {K : PySem.W.Frag} {x C f : Addr} {ox : Obj} {od : Option Obj} {nm T : String}
theorem bin1_same {b : Value} {Q : Value → Shared → Prop} (X : K.In s.heap) (I : PySem.W.InstAt s.heap x ox C od) (hb : PySem.W.Looks (model prog w) s.heap (typeOf b) (.ref C)) (hc : PySem.W.selfFirst K C = true) (hs : PySem.W.findIn K (.ref C) (PySem.dunder nm) = some (some (.ref f))) (hf : PySem.W.isFn K (.ref f) = true)
    (h : wpAny (model prog w) A (call (.ref f) [.ref x, b]) (PySem.W.CmpBack Q) E s) : wpAny (model prog w) A (binaryOp1 nm (.ref x) b) (fun r s' => ∃ v, r = some v ∧ Q v s') E s := by
  obtain ⟨cd, rest, hcd, hm⟩ := PySem.W.ksp_first hc
  have one := PySem.W.ksp_try X I hs hf h
  unfold binaryOp1
  refine wpAny_bind (I.type.here ?_)
  refine wpAny_bind (hb.here ?_)
  refine wpAny_bind ((PySem.W.fills_K X hcd hm hs).here ?_)
  simp only [beq_self_eq_true, if_true]
  refine wpAny_bind (wpAny_pure ?_)
  simp only [Bool.false_and, Bool.and_false, if_false, Bool.false_eq_true]
  refine wpAny_bind (wpAny_pure ?_)
  rw [if_neg Bool.false_ne_true]
  refine wpAny_bind (wpAny_mono one (fun r s' hr' => ?_) fun _ _ e => e)
  obtain ⟨v, rfl, hq⟩ := hr'
  exact wpAny_pure ⟨v, rfl, hq⟩
theorem bin1_plain {b : Value} {fo ro rc : Option Value} {Q : Value → Shared → Prop} (X : K.In s.heap) (I : PySem.W.InstAt s.heap x ox C od) (hb : typeOf b = pure (.type T)) (hc : PySem.W.selfFirst K C = true)
    (hs : PySem.W.findIn K (.ref C) (PySem.dunder nm) = some (some (.ref f))) (hf : PySem.W.isFn K (.ref f) = true) (hr : PySem.W.findIn K (.ref C) (dunderR nm) = some rc) (hp : rc = none ∨ ∃ g : Addr, rc = some (.ref g))
    (h1 : PySem.W.findIn K (.type T) (PySem.dunder nm) = some fo) (h2 : PySem.W.findIn K (.type T) (dunderR nm) = some ro) (hsub : PySem.W.subIn K (.type T) (.ref C) = some false)
    (h : wpAny (model prog w) A (call (.ref f) [.ref x, b]) (PySem.W.CmpBack Q) E s) : wpAny (model prog w) A (binaryOp1 nm (.ref x) b) (fun r s' => ∃ v, r = some v ∧ Q v s') E s := by
  obtain ⟨cd, rest, hcd, hm⟩ := PySem.W.ksp_first hc
  have one := PySem.W.ksp_try X I hs hf h
  have L3 : PySem.W.Looks (model prog w) s.heap (fillsNumberSlot (.ref C) nm) true := PySem.W.fills_K X hcd hm hs
  have L4 := PySem.W.ksp_fillsT (M := model prog w) (nm := nm) X h1 h2
  have L5 : PySem.W.Looks (model prog w) s.heap (isSubtype (.type T) (.ref C)) false := PySem.W.looks_subIn X hsub
  have L6 : PySem.W.Looks (model prog w) s.heap (numberSlotInPython (.ref C) nm) true := PySem.W.ksp_inPy X hs hr hp
  have L8 : PySem.W.Looks (model prog w) s.heap (typeLookup (.type T) (dunderR nm)) ro := PySem.W.looks_findIn X h2
  have hpy : numberSlotInPython (.type T) nm = pure false := rfl
  generalize ((fo.isSome && !isSeqSlot fo) || (ro.isSome && !isSeqSlot ro)) = right at L4
  have hne : (Value.ref C == Value.type T) = false := Bool.eq_false_iff.mpr fun q => by cases beq_iff_eq.mp q
  have fin : ∀ {t : Sem (Option Value)} {k : Option Value → Sem (Option Value)}, wpAny (model prog w) A t (fun r s' => ∃ v, r = some v ∧ Q v s') E s → (∀ v, k (some v) = pure (some v)) → wpAny (model prog w) A (t >>= k) (fun r s' => ∃ v, r = some v ∧ Q v s') E s := fun ht hk =>
    wpAny_bind (wpAny_mono ht (fun r s' hr' => by
      obtain ⟨v, rfl, hq⟩ := hr'
      rw [hk]
      exact wpAny_pure ⟨v, rfl, hq⟩) fun _ _ e => e)
  unfold binaryOp1
  refine wpAny_bind (I.type.here ?_)
  refine wpAny_bind (wpAny_of_eq hb ?_)
  refine wpAny_bind (L3.here ?_)
  simp only [hne, Bool.false_eq_true, if_false]
  refine wpAny_bind (L4.here ?_)
  cases right with
  | false =>
    simp only [Bool.and_false, Bool.false_eq_true, if_false, Bool.false_and, pure_bind, if_true]
    exact fin one fun v => rfl
  | true =>
    simp only [Bool.and_self, if_true]
    refine wpAny_bind (L5.here ?_)
    simp only [Bool.false_eq_true, if_false, pure_bind, Bool.not_false, Bool.and_self, if_true]
    refine wpAny_bind (L6.here ?_)
    simp only [if_true, hpy, pure_bind, Bool.not_false]
    refine wpAny_bind (L8.here ?_)
    exact fin one fun v => rfl
end
section
variable {X : Cx} {CX : CXT} {n : Nat} {sp : Sp} {E : XK} {C g f : Addr} {op : Operator}
theorem ip_bin (hS : BinC X.K op C g) (hI : INo X.K op C) (ob : typeLookup (.type "object") (dunderI op.info.2) = pure none) (h1 : ∃ fo, PySem.W.findIn X.K (.type "int") (PySem.dunder op.info.2) = some fo) (h2 : ∃ ro, PySem.W.findIn X.K (.type "int") (dunderR op.info.2) = some ro) (hF : FnR X.prog X.w X.K X.mg X.base CX n g sp) (hr : Room n X.A) (hx : Passes CX X E) : PIp X op (rBin C sp E) := by
  intro pins s σ H x y v u Q I rx ry h
  obtain ⟨a, dx, fs, rfl, ha, hy, q⟩ := h
  obtain rfl : v = Value.ref a := rx
  obtain ⟨od, J⟩ := ins_at I ha
  have main : wpAny (model X.prog X.w) X.A (call (.ref g) [.ref a, u]) (PySem.W.CmpBack (EP X pins σ Q)) X.xe s := by
    refine wpAny_mono (wpAny_call (run_fnR (us := [.ref a, u]) (vs := [.ref a, y]) hF hr hx I (.cons rfl (.cons ry .nil)) q)) (fun w s' z => ?_) fun _ _ x => x
    obtain ⟨z', H', I', rz, qz⟩ := z
    exact SlX.cmpback rz ⟨z', H', I', rz, qz⟩
  have bin : wpAny (model X.prog X.w) X.A (binaryOp1 op.info.2 (.ref a) u) (fun r s' => ∃ v, r = some v ∧ EP X pins σ Q v s') X.xe s := by
    rcases hy with ⟨i, rfl⟩ | ⟨b, dy, gs, rfl, hb⟩
    · obtain ⟨t, rfl⟩ := (show ∃ t, u = Value.int i t from ry)
      obtain ⟨fo, h1⟩ := h1
      obtain ⟨ro, h2⟩ := h2
      rcases hS.r with hr' | ⟨f', hr'⟩
      · exact bin1_plain I.kIn J (b := .int i t) (T := "int") rfl hS.sf hS.m.at_ hS.m.fn hr' (.inl rfl) h1 h2 hS.isub main
      · exact bin1_plain I.kIn J (b := .int i t) (T := "int") rfl hS.sf hS.m.at_ hS.m.fn hr' (.inr ⟨_, rfl⟩) h1 h2 hS.isub main
    · obtain rfl : u = Value.ref b := ry
      obtain ⟨od2, J2⟩ := ins_at I hb
      exact bin1_same I.kIn J J2.type hS.sf hS.m.at_ hS.m.fn main
  unfold inplaceOp
  refine wpAny_holding (wpAny_bind (J.type.here (wpAny_bind ((fills_noG I.kIn hI ob).here ?_))))
  rw [if_neg Bool.false_ne_true]
  refine wpAny_bind (m := binaryOp1 op.info.2 (.ref a) u) (wpAny_mono bin (fun r s' hr' => ?_) fun _ _ x => x)
  obtain ⟨z, rfl, hz⟩ := hr'
  exact wpAny_pure hz
end
end My
namespace My
open PySem PySem.Spec PyProof.Rows L2 Evl
section
variable {K : PySem.W.Frag} {C : Addr}
theorem int_f (nm : String) (h : nm = "add" ∨ nm = "sub" ∨ nm = "mul" ∨ nm = "pow") : (∃ fo, PySem.W.findIn K (.type "int") (PySem.dunder nm) = some fo) ∧ ∃ ro, PySem.W.findIn K (.type "int") (dunderR nm) = some ro := by
  rcases h with rfl | rfl | rfl | rfl
  · exact ⟨⟨some (.builtin "int.__add__"), by show PySem.fastLookup "int" _ = _; kernel_rfl⟩, ⟨some (.builtin "int.__radd__"), by show PySem.fastLookup "int" _ = _; kernel_rfl⟩⟩
  · exact ⟨⟨some (.builtin "int.__sub__"), by show PySem.fastLookup "int" _ = _; kernel_rfl⟩, ⟨some (.builtin "int.__rsub__"), by show PySem.fastLookup "int" _ = _; kernel_rfl⟩⟩
  · exact ⟨⟨some (.builtin "int.__mul__"), by show PySem.fastLookup "int" _ = _; kernel_rfl⟩, ⟨some (.builtin "int.__rmul__"), by show PySem.fastLookup "int" _ = _; kernel_rfl⟩⟩
  · exact ⟨⟨some (.builtin "int.__pow__"), by show PySem.fastLookup "int" _ = _; kernel_rfl⟩, ⟨some (.builtin "int.__rpow__"), by show PySem.fastLookup "int" _ = _; kernel_rfl⟩⟩
theorem int_noC : PySem.W.subIn K (.type "int") (.ref C) = some false := by
  have e : fastBuiltinMro "int" = some [.type "int", .type "object"] := by decide +kernel
  show (fastBuiltinMro "int").map (·.contains (.ref C)) = some false
  rw [e]
  rfl
end
end My
set_option Elab.async false
set_option linter.all false
/-! polynomials as lists of coefficients: zeros at the end taken away, lowest terms, products as loops -/
namespace My
def strip : List Int → List Int
  | [] => []
  | c :: cs => if strip cs = [] then (if c = 0 then [] else [c]) else c :: strip cs
theorem strip_cons_ne {c : Int} {cs : List Int} (h : strip cs ≠ []) : strip (c :: cs) = c :: strip cs := by rw [strip, if_neg h]
theorem strip_snoc0 : ∀ xs : List Int, strip (xs ++ [0]) = strip xs
  | [] => by simp [strip]
  | c :: cs => by rw [List.cons_append, strip, strip, strip_snoc0 cs]
theorem strip_snoc {c : Int} (h : c ≠ 0) : ∀ xs : List Int, strip (xs ++ [c]) = xs ++ [c]
  | [] => by simp [strip, h]
  | d :: ds => by
    have ih := strip_snoc h ds
    rw [List.cons_append, strip_cons_ne (by rw [ih]; simp), ih]
theorem strip_zeros (xs : List Int) : ∀ n : Nat, strip (xs ++ List.replicate n 0) = strip xs
  | 0 => by simp
  | n + 1 => by rw [List.replicate_succ', ← List.append_assoc, strip_snoc0, strip_zeros xs n]
theorem strip_len : ∀ xs : List Int, (strip xs).length ≤ xs.length
  | [] => by simp [strip]
  | c :: cs => by
    have := strip_len cs
    rw [strip]
    split
    · split <;> simp
    · simp; omega
theorem strip_mem {x : Int} : ∀ {xs : List Int}, x ∈ strip xs → x ∈ xs
  | [], h => by simp [strip] at h
  | c :: cs, h => by
    rw [strip] at h
    split at h
    · split at h
      · simp at h
      · simp at h; simp [h]
    · rcases List.mem_cons.mp h with rfl | h
      · simp
      · exact List.mem_cons_of_mem _ (strip_mem h)
theorem strip_strip : ∀ xs : List Int, strip (strip xs) = strip xs
  | [] => rfl
  | c :: cs => by
    have ih := strip_strip cs
    by_cases h : strip cs = []
    · rw [strip, if_pos h]
      split
      · rfl
      · rename_i hc
        simp [strip, hc]
    · rw [strip_cons_ne h, strip_cons_ne (by rw [ih]; exact h), ih]
/-- the end of a list that is stripped -/
theorem strip_last : ∀ {xs : List Int}, strip xs = xs → xs ≠ [] → ∃ ys c, xs = ys ++ [c] ∧ c ≠ 0
  | [], _, h => absurd rfl h
  | c :: cs, h, _ => by
    by_cases e : strip cs = []
    · rw [strip, if_pos e] at h
      split at h
      · cases h
      · rename_i hc
        cases h
        exact ⟨[], c, rfl, hc⟩
    · rw [strip_cons_ne e] at h
      obtain ⟨ys, d, e1, e2⟩ := strip_last (xs := cs) (List.cons.inj h).2 (fun z => by rw [z] at e; exact e rfl)
      exact ⟨c :: ys, d, by rw [e1]; rfl, e2⟩
/-- the common divisor, taken one by one -/
def share (o : Int) (cs : List Int) : Int := cs.foldl (fun g c => ((Nat.gcd g.natAbs c.natAbs : Nat) : Int)) o
theorem share_cons (o c : Int) (cs : List Int) : share o (c :: cs) = share ((Nat.gcd o.natAbs c.natAbs : Nat) : Int) cs := rfl
theorem share_snoc (o c : Int) (cs : List Int) : share o (cs ++ [c]) = ((Nat.gcd (share o cs).natAbs c.natAbs : Nat) : Int) := by
  unfold share
  rw [List.foldl_append]
  rfl
theorem gcd_pos {o : Int} (h : 1 ≤ o) (c : Int) : 1 ≤ ((Nat.gcd o.natAbs c.natAbs : Nat) : Int) := by
  have : 0 < Nat.gcd o.natAbs c.natAbs := Nat.gcd_pos_of_pos_left _ (by omega)
  omega
theorem gcd_le {o : Int} (h : 1 ≤ o) (c : Int) : ((Nat.gcd o.natAbs c.natAbs : Nat) : Int) ≤ o := by
  have : Nat.gcd o.natAbs c.natAbs ≤ o.natAbs := Nat.gcd_le_left _ (by omega)
  omega
theorem share_pos : ∀ {o : Int} (cs : List Int), 1 ≤ o → 1 ≤ share o cs
  | _, [], h => h
  | o, c :: cs, h => share_pos cs (gcd_pos h c)
theorem share_le : ∀ {o : Int} (cs : List Int), 1 ≤ o → share o cs ≤ o
  | _, [], h => Int.le_refl _
  | o, c :: cs, h => Int.le_trans (share_le cs (gcd_pos h c)) (gcd_le h c)
theorem share_one : ∀ cs : List Int, share 1 cs = 1
  | [] => rfl
  | c :: cs => by
    rw [share_cons]
    have : ((Nat.gcd (1 : Int).natAbs c.natAbs : Nat) : Int) = 1 := by
      show ((Nat.gcd 1 c.natAbs : Nat) : Int) = 1
      rw [Nat.gcd_one_left]
      rfl
    rw [this]
    exact share_one cs
theorem share_dvd : ∀ {o : Int} (cs : List Int), share o cs ∣ o ∧ ∀ c ∈ cs, share o cs ∣ c
  | o, [] => ⟨Int.dvd_refl _, fun c h => by cases h⟩
  | o, c :: cs => by
    obtain ⟨h1, h2⟩ := share_dvd (o := ((Nat.gcd o.natAbs c.natAbs : Nat) : Int)) cs
    have a : ((Nat.gcd o.natAbs c.natAbs : Nat) : Int) ∣ o := Int.dvd_natAbs.mp (Int.ofNat_dvd.mpr (Nat.gcd_dvd_left _ _))
    have b : ((Nat.gcd o.natAbs c.natAbs : Nat) : Int) ∣ c := Int.dvd_natAbs.mp (Int.ofNat_dvd.mpr (Nat.gcd_dvd_right _ _))
    refine ⟨Int.dvd_trans h1 a, fun d hd => ?_⟩
    rcases List.mem_cons.mp hd with rfl | hd
    · exact Int.dvd_trans h1 b
    · exact h2 d hd
/-- lowest terms -/
def lowO (o : Int) (cs : List Int) : Int := o / share o (strip cs)
def lowC (o : Int) (cs : List Int) : List Int := (strip cs).map (· / share o (strip cs))
theorem lowO_pos {o : Int} (h : 1 ≤ o) (cs : List Int) : 1 ≤ lowO o cs := by
  unfold lowO
  have h1 := share_pos (strip cs) h
  have h2 := share_le (strip cs) h
  exact (Int.le_ediv_iff_mul_le (by omega)).mpr (by omega)
theorem lowO_le {o : Int} (h : 1 ≤ o) (cs : List Int) : lowO o cs ≤ o := by
  unfold lowO
  have h1 := share_pos (strip cs) h
  exact Int.ediv_le_self _ (by omega)
theorem div_abs {c g : Int} (h : 1 ≤ g) : (c / g).natAbs ≤ c.natAbs := by
  have h1 := Int.mul_ediv_add_emod c g
  have h2 := Int.emod_nonneg c (b := g) (by omega)
  have h3 := Int.emod_lt_of_pos c (b := g) (by omega)
  by_cases hc : 0 ≤ c
  · have := Int.ediv_nonneg hc (show 0 ≤ g by omega)
    have := Int.ediv_le_self g hc
    omega
  · have a : c / g < 0 := Int.ediv_neg_of_neg_of_pos (by omega) (by omega)
    have b : c ≤ c / g := by
      refine (Int.le_ediv_iff_mul_le (by omega)).mpr ?_
      have := Int.mul_le_mul_of_nonpos_left (a := c) (show c ≤ 0 by omega) h
      omega
    omega
theorem lowC_len (o : Int) (cs : List Int) : (lowC o cs).length ≤ cs.length := by
  unfold lowC
  rw [List.length_map]
  exact strip_len cs
/-- all below a bound, without sign -/
def Bd (B : Nat) (cs : List Int) : Prop := ∀ c ∈ cs, c.natAbs ≤ B
theorem Bd.mono {A B : Nat} {cs : List Int} (h : Bd A cs) (k : A ≤ B) : Bd B cs := fun c hc => Nat.le_trans (h c hc) k
theorem lowC_bd {B : Nat} {o : Int} (h : 1 ≤ o) {cs : List Int} (k : Bd B cs) : Bd B (lowC o cs) := fun c hc => by
  unfold lowC at hc
  obtain ⟨d, hd, rfl⟩ := List.mem_map.mp hc
  exact Nat.le_trans (div_abs (share_pos (strip cs) h)) (k d (strip_mem hd))
end My
namespace My
/-- a polynomial: what its coefficients are divided by, and these -/
abbrev PM := Int × List Int
def lowM (o : Int) (cs : List Int) : PM := (lowO o cs, lowC o cs)
theorem lowM_of {o : Int} {xs ys : List Int} (h : strip xs = strip ys) : lowM o xs = lowM o ys := by unfold lowM lowO lowC; rw [h]
/-- small enough: at most n coefficients, all of it at most B -/
structure Sm (n B : Nat) (p : PM) : Prop where
  o1 : 1 ≤ p.1
  ob : p.1 ≤ B
  cb : Bd B p.2
  len : p.2.length ≤ n
theorem Sm.mono {n m A B : Nat} {p : PM} (h : Sm n A p) (hn : n ≤ m) (hB : A ≤ B) : Sm m B p := ⟨h.o1, by have := h.ob; omega, h.cb.mono hB, Nat.le_trans h.len hn⟩
theorem lowM_sm {n B : Nat} {o : Int} {cs : List Int} (o1 : 1 ≤ o) (ob : o ≤ B) (cb : Bd B cs) (hl : cs.length ≤ n) : Sm n B (lowM o cs) :=
  ⟨lowO_pos o1 cs, Int.le_trans (lowO_le o1 cs) ob, lowC_bd o1 cb, Nat.le_trans (lowC_len o cs) hl⟩
/-! ### sums -/
def pad (xs ys : List Int) : List Int := xs ++ List.replicate (ys.length - xs.length) 0
theorem pad_len (xs ys : List Int) : (pad xs ys).length = max xs.length ys.length := by
  unfold pad
  rw [List.length_append, List.length_replicate]
  omega
def addL (p q : Int) (xs ys : List Int) : List Int := List.zipWith (fun a c => a * p + c * q) (pad xs ys) (pad ys xs)
theorem addL_len (p q : Int) (xs ys : List Int) : (addL p q xs ys).length = max xs.length ys.length := by
  unfold addL
  rw [List.length_zipWith, pad_len, pad_len]
  omega
def addM (x y : PM) : PM := lowM (x.1 * y.1) (addL y.1 x.1 x.2 y.2)
def negM (x : PM) : PM := (x.1, x.2.map fun c => -c)
def subM (x y : PM) : PM := addM x (negM y)
theorem pad_neg (xs ys : List Int) : pad (ys.map fun c => -c) xs = (pad ys xs).map fun c => -c := by
  unfold pad
  rw [List.map_append, List.map_replicate, List.length_map]
  rfl
theorem pad_len2 (xs ys : List Int) : pad xs (ys.map fun c => -c) = pad xs ys := by
  unfold pad
  rw [List.length_map]
/-- the law's sum, by its way of taking the other one -/
def sumL (w p q : Int) (xs ys : List Int) : List Int := List.zipWith (fun a c => a * p + w * c * q) (pad xs ys) (pad ys xs)
theorem sumL_one (p q : Int) (xs ys : List Int) : sumL 1 p q xs ys = addL p q xs ys := by
  unfold sumL addL
  congr 1
  funext a c
  rw [Int.one_mul]
theorem sumL_neg (p q : Int) (xs ys : List Int) : sumL (-1) p q xs ys = addL p q xs (ys.map fun c => -c) := by
  unfold sumL addL
  rw [pad_neg, pad_len2, List.zipWith_map_right]
  congr 1
  funext a c
  rw [Int.neg_one_mul]
theorem bd_pad {B : Nat} {xs : List Int} (h : Bd B xs) (ys : List Int) : Bd B (pad xs ys) := fun c hc => by
  unfold pad at hc
  rcases List.mem_append.mp hc with hc | hc
  · exact h c hc
  · rw [List.eq_of_mem_replicate hc]; exact Nat.zero_le _
theorem bd_zip {A B C : Nat} {f : Int → Int → Int} (hf : ∀ a c, a.natAbs ≤ A → c.natAbs ≤ B → (f a c).natAbs ≤ C) : ∀ {xs ys : List Int}, Bd A xs → Bd B ys → Bd C (List.zipWith f xs ys)
  | [], _, _, _ => fun c hc => by simp at hc
  | _ :: _, [], _, _ => fun c hc => by simp at hc
  | x :: xs, y :: ys, h, k => fun c hc => by
    rw [List.zipWith_cons_cons] at hc
    rcases List.mem_cons.mp hc with rfl | hc
    · exact hf _ _ (h x (by simp)) (k y (by simp))
    · exact bd_zip hf (fun z hz => h z (List.mem_cons_of_mem _ hz)) (fun z hz => k z (List.mem_cons_of_mem _ hz)) c hc
theorem mul_abs {a b : Int} {A B : Nat} (h : a.natAbs ≤ A) (k : b.natAbs ≤ B) : (a * b).natAbs ≤ A * B := by
  rw [Int.natAbs_mul]
  exact Nat.mul_le_mul h k
theorem addL_bd {A B P Q : Nat} {p q : Int} {xs ys : List Int} (hp : p.natAbs ≤ P) (hq : q.natAbs ≤ Q) (h : Bd A xs) (k : Bd B ys) : Bd (A * P + B * Q) (addL p q xs ys) :=
  bd_zip (fun a c ha hc => by
    have h1 := mul_abs ha hp
    have h2 := mul_abs hc hq
    have := Int.natAbs_add_le (a * p) (c * q)
    omega) (bd_pad h ys) (bd_pad k xs)
theorem abs_le {i : Int} {B : Nat} (h0 : 1 ≤ i) (h : i ≤ B) : i.natAbs ≤ B := by omega
theorem mul_le_nat {i j : Int} {A B : Nat} (i1 : 1 ≤ i) (j1 : 1 ≤ j) (h : i ≤ A) (k : j ≤ B) : 1 ≤ i * j ∧ i * j ≤ ((A * B : Nat) : Int) := by
  have h1 : 0 < i * j := Int.mul_pos (by omega) (by omega)
  have h2 := mul_abs (abs_le i1 h) (abs_le j1 k)
  omega
theorem negM_sm {n B : Nat} {p : PM} (h : Sm n B p) : Sm n B (negM p) := ⟨h.o1, h.ob, fun c hc => by
  obtain ⟨d, hd, rfl⟩ := List.mem_map.mp hc
  rw [Int.natAbs_neg]
  exact h.cb d hd, by show (p.2.map fun c => -c).length ≤ n; rw [List.length_map]; exact h.len⟩
theorem addM_sm {n m A B : Nat} {x y : PM} (h : Sm n A x) (k : Sm m B y) : Sm (max n m) (2 * (A * B)) (addM x y) := by
  have hm := mul_le_nat h.o1 k.o1 h.ob k.ob
  refine lowM_sm hm.1 (by have := hm.2; omega) ((addL_bd (abs_le k.o1 k.ob) (abs_le h.o1 h.ob) h.cb k.cb).mono (by rw [Nat.mul_comm B A]; omega)) ?_
  rw [addL_len]
  have := h.len
  have := k.len
  omega
theorem subM_sm {n m A B : Nat} {x y : PM} (h : Sm n A x) (k : Sm m B y) : Sm (max n m) (2 * (A * B)) (subM x y) := addM_sm h (negM_sm k)
/-! ### products, as the loops make them -/
def rowL (a : Int) : Nat → List Int → List Int → List Int
  | _, [], f => f
  | k, y :: ys, f => rowL a (k + 1) ys (f.set k (f.getD k 0 + a * y))
def mulF : Nat → List Int → List Int → List Int → List Int
  | _, [], _, f => f
  | k, x :: xs, ys, f => mulF (k + 1) xs ys (rowL x k ys f)
theorem rowL_len (a : Int) : ∀ (k : Nat) (ys f : List Int), (rowL a k ys f).length = f.length
  | _, [], _ => rfl
  | k, y :: ys, f => by rw [rowL, rowL_len a (k + 1) ys, List.length_set]
theorem mulF_len : ∀ (k : Nat) (xs ys f : List Int), (mulF k xs ys f).length = f.length
  | _, [], _, _ => rfl
  | k, x :: xs, ys, f => by rw [mulF, mulF_len (k + 1) xs ys, rowL_len]
theorem rowL_snoc (a : Int) : ∀ (k : Nat) (ys : List Int) (y : Int) (f : List Int), rowL a k (ys ++ [y]) f = (rowL a k ys f).set (k + ys.length) ((rowL a k ys f).getD (k + ys.length) 0 + a * y)
  | k, [], y, f => by simp [rowL]
  | k, z :: ys, y, f => by
    rw [List.cons_append, rowL, rowL, rowL_snoc a (k + 1) ys y, List.length_cons]
    rw [show k + 1 + ys.length = k + (ys.length + 1) by omega]
theorem mulF_snoc : ∀ (k : Nat) (xs : List Int) (x : Int) (ys f : List Int), mulF k (xs ++ [x]) ys f = rowL x (k + xs.length) ys (mulF k xs ys f)
  | k, [], x, ys, f => by simp [mulF]
  | k, z :: xs, x, ys, f => by
    rw [List.cons_append, mulF, mulF, mulF_snoc (k + 1) xs x, List.length_cons]
    rw [show k + 1 + xs.length = k + (xs.length + 1) by omega]
theorem rowL_app (a : Int) (z : List Int) : ∀ (k : Nat) (ys f : List Int), k + ys.length ≤ f.length → rowL a k ys (f ++ z) = rowL a k ys f ++ z
  | _, [], _, _ => rfl
  | k, y :: ys, f, h => by
    rw [List.length_cons] at h
    have e1 : (f ++ z).getD k 0 = f.getD k 0 := by rw [List.getD_eq_getElem?_getD, List.getD_eq_getElem?_getD, List.getElem?_append_left (by omega)]
    have e2 : ∀ v, (f ++ z).set k v = f.set k v ++ z := fun v => by rw [List.set_append_left _ _ (by omega)]
    rw [rowL, rowL, e1, e2, rowL_app a z (k + 1) ys _ (by rw [List.length_set]; omega)]
theorem mulF_app (z : List Int) : ∀ (k : Nat) (xs ys f : List Int), k + xs.length + ys.length ≤ f.length → mulF k xs ys (f ++ z) = mulF k xs ys f ++ z
  | _, [], _, _, _ => rfl
  | k, x :: xs, ys, f, h => by
    rw [List.length_cons] at h
    rw [mulF, mulF, rowL_app x z k ys f (by omega), mulF_app z (k + 1) xs ys _ (by rw [rowL_len]; omega)]
theorem bd_set {B : Nat} {f : List Int} {k : Nat} {v : Int} (h : Bd B f) (hv : v.natAbs ≤ B) : Bd B (f.set k v) := fun c hc => by
  rcases List.mem_or_eq_of_mem_set hc with hc | rfl
  · exact h c hc
  · exact hv
theorem bd_getD {B : Nat} {f : List Int} (h : Bd B f) (k : Nat) : (f.getD k 0).natAbs ≤ B := by
  rw [List.getD_eq_getElem?_getD]
  cases e : f[k]? with
  | none => exact Nat.zero_le _
  | some c => exact h c (List.mem_of_getElem? e)
theorem rowL_bd {C : Nat} {a : Int} : ∀ {ys : List Int} (k : Nat) {B : Nat} {f : List Int}, (∀ y ∈ ys, (a * y).natAbs ≤ C) → Bd B f → Bd (B + ys.length * C) (rowL a k ys f)
  | [], _, B, f, _, h => by
    rw [rowL]
    exact h.mono (Nat.le_add_right _ _)
  | y :: ys, k, B, f, hy, h => by
    rw [rowL, List.length_cons, Nat.succ_mul]
    have hs : Bd (B + C) (f.set k (f.getD k 0 + a * y)) := bd_set (h.mono (Nat.le_add_right _ _)) (by
      have h1 := bd_getD h k
      have h2 := hy y (by simp)
      have := Int.natAbs_add_le (f.getD k 0) (a * y)
      omega)
    have := rowL_bd (ys := ys) (k + 1) (fun z hz => hy z (List.mem_cons_of_mem _ hz)) hs
    exact this.mono (by omega)
theorem mulF_bd {A B : Nat} {ys : List Int} (hy : Bd B ys) : ∀ {xs : List Int} (k : Nat) {D : Nat} {f : List Int}, Bd A xs → Bd D f → Bd (D + xs.length * (ys.length * (A * B))) (mulF k xs ys f)
  | [], _, D, f, _, h => by
    rw [mulF]
    exact h.mono (Nat.le_add_right _ _)
  | x :: xs, k, D, f, hx, h => by
    rw [mulF, List.length_cons, Nat.succ_mul]
    have h1 := rowL_bd (a := x) (C := A * B) (ys := ys) k (fun y hm => mul_abs (hx x (by simp)) (hy y hm)) h
    have := mulF_bd hy (xs := xs) (k + 1) (fun z hz => hx z (List.mem_cons_of_mem _ hz)) h1
    exact this.mono (by omega)
def mulZ (xs ys : List Int) : List Int := mulF 0 xs ys (List.replicate (xs.length + ys.length) 0)
theorem mulZ_more (xs ys : List Int) (n : Nat) : mulF 0 xs ys (List.replicate (xs.length + ys.length + n) 0) = mulZ xs ys ++ List.replicate n 0 := by
  rw [← List.replicate_append_replicate, mulF_app _ _ _ _ _ (by rw [List.length_replicate]; omega)]
  rfl
theorem mulZ_len (xs ys : List Int) : (mulZ xs ys).length = xs.length + ys.length := by
  unfold mulZ
  rw [mulF_len, List.length_replicate]
theorem mulZ_bd {A B : Nat} {xs ys : List Int} (h : Bd A xs) (k : Bd B ys) : Bd (xs.length * (ys.length * (A * B))) (mulZ xs ys) := by
  have := mulF_bd k (xs := xs) 0 (D := 0) (f := List.replicate (xs.length + ys.length) 0) h (fun c hc => by rw [List.eq_of_mem_replicate hc]; exact Nat.le_refl _)
  exact this.mono (by omega)
def mulM (x y : PM) : PM := lowM (x.1 * y.1) (mulZ x.2 y.2)
theorem mulM_sm {n m A B : Nat} {x y : PM} (h : Sm n A x) (k : Sm m B y) : Sm (n + m) ((n * m + 1) * (A * B)) (mulM x y) := by
  have hm := mul_le_nat h.o1 k.o1 h.ob k.ob
  have h1 : x.2.length * (y.2.length * (A * B)) ≤ (n * m + 1) * (A * B) := by
    rw [← Nat.mul_assoc]
    refine Nat.mul_le_mul_right _ ?_
    have := Nat.mul_le_mul h.len k.len
    omega
  have h2 : A * B ≤ (n * m + 1) * (A * B) := Nat.le_mul_of_pos_left _ (by omega)
  refine lowM_sm hm.1 (by have := hm.2; omega) ((mulZ_bd h.cb k.cb).mono h1) ?_
  rw [mulZ_len]
  have := h.len
  have := k.len
  omega
def powM (x : PM) : Nat → PM
  | 0 => (1, [1])
  | n + 1 => mulM (powM x n) x
/-! ### lowest terms of lowest terms -/
theorem div_zero_iff {c g : Int} (hg : 1 ≤ g) (hd : g ∣ c) : c / g = 0 ↔ c = 0 := by
  obtain ⟨k, rfl⟩ := hd
  rw [Int.mul_ediv_cancel_left _ (by omega)]
  constructor
  · rintro rfl; simp
  · intro h
    rcases Int.mul_eq_zero.mp h with h | h
    · omega
    · exact h
theorem strip_div {g : Int} (hg : 1 ≤ g) : ∀ {cs : List Int}, (∀ c ∈ cs, g ∣ c) → strip (cs.map (· / g)) = (strip cs).map (· / g)
  | [], _ => rfl
  | c :: cs, h => by
    have ih := strip_div hg (cs := cs) fun d hd => h d (List.mem_cons_of_mem _ hd)
    have hc := div_zero_iff hg (h c (by simp))
    rw [List.map_cons, strip, strip, ih]
    by_cases e : strip cs = []
    · rw [e]
      by_cases z : c = 0
      · simp [z]
      · simp [z, mt hc.mp z]
    · have e2 : (strip cs).map (· / g) ≠ [] := fun z => e (List.map_eq_nil_iff.mp z)
      rw [if_neg e2, if_neg e, List.map_cons]
theorem natAbs_div {c g : Int} (hg : 1 ≤ g) (hd : g ∣ c) : (c / g).natAbs = c.natAbs / g.natAbs := by
  obtain ⟨k, rfl⟩ := hd
  rw [Int.mul_ediv_cancel_left _ (by omega), Int.natAbs_mul, Nat.mul_div_cancel_left _ (by omega)]
theorem share_div {g : Int} (hg : 1 ≤ g) : ∀ {o : Int} {cs : List Int}, g ∣ o → (∀ c ∈ cs, g ∣ c) → share (o / g) (cs.map (· / g)) = share o cs / g
  | o, [], _, _ => rfl
  | o, c :: cs, ho, hc => by
    rw [List.map_cons, share_cons, share_cons]
    have e : ((Nat.gcd (o / g).natAbs (c / g).natAbs : Nat) : Int) = ((Nat.gcd o.natAbs c.natAbs : Nat) : Int) / g := by
      rw [natAbs_div hg ho, natAbs_div hg (hc c (by simp)), Nat.gcd_div (Int.natAbs_dvd_natAbs.mpr ho) (Int.natAbs_dvd_natAbs.mpr (hc c (by simp)))]
      obtain ⟨n, rfl⟩ := Int.eq_ofNat_of_zero_le (show 0 ≤ g by omega)
      rfl
    rw [e]
    have hd : g ∣ ((Nat.gcd o.natAbs c.natAbs : Nat) : Int) := by
      refine Int.natAbs_dvd.mp (Int.ofNat_dvd.mpr (Nat.dvd_gcd (Int.natAbs_dvd_natAbs.mpr ho) (Int.natAbs_dvd_natAbs.mpr (hc c (by simp)))))
    exact share_div hg hd fun d hd => hc d (List.mem_cons_of_mem _ hd)
/-- in lowest terms -/
structure Low (p : PM) : Prop where
  o1 : 1 ≤ p.1
  st : strip p.2 = p.2
  sh : share p.1 p.2 = 1
theorem lowM_low {o : Int} (h : 1 ≤ o) (cs : List Int) : Low (lowM o cs) := by
  have sp := share_pos (strip cs) h
  have sd := share_dvd (o := o) (strip cs)
  refine ⟨lowO_pos h cs, ?_, ?_⟩
  · show strip ((strip cs).map (· / share o (strip cs))) = (strip cs).map (· / share o (strip cs))
    rw [strip_div sp sd.2, strip_strip]
  · show share (o / share o (strip cs)) ((strip cs).map (· / share o (strip cs))) = 1
    rw [share_div sp sd.1 sd.2, Int.ediv_self (by omega)]
theorem Low.fix {p : PM} (h : Low p) : lowM p.1 p.2 = p := by
  unfold lowM lowO lowC
  rw [h.st, h.sh]
  simp
theorem low_int (k : Int) : lowM 1 [k] = (1, strip [k]) := by
  unfold lowM lowO lowC
  rw [share_one]
  simp
end My
namespace My
theorem addM_low {x y : PM} (hx : 1 ≤ x.1) (hy : 1 ≤ y.1) : Low (addM x y) := lowM_low (by have := Int.mul_pos (show 0 < x.1 by omega) (show 0 < y.1 by omega); omega) _
theorem mulM_low {x y : PM} (hx : 1 ≤ x.1) (hy : 1 ≤ y.1) : Low (mulM x y) := lowM_low (by have := Int.mul_pos (show 0 < x.1 by omega) (show 0 < y.1 by omega); omega) _
theorem one_low : Low (1, [1]) := ⟨by decide, by decide, by decide⟩
theorem powM_low {x : PM} (hx : 1 ≤ x.1) : ∀ n : Nat, Low (powM x n)
  | 0 => one_low
  | n + 1 => mulM_low (powM_low hx n).o1 hx
theorem subM_low {x y : PM} (hx : 1 ≤ x.1) (hy : 1 ≤ y.1) : Low (subM x y) := addM_low hx hy
theorem mulF_one (y : Int) : ∀ (k : Nat) (xs f : List Int), k + xs.length ≤ f.length → (∀ i, k ≤ i → f.getD i 0 = 0) → mulF k xs [y] f = f.take k ++ xs.map (· * y) ++ f.drop (k + xs.length)
  | k, [], f, _, _ => by simp [mulF]
  | k, x :: xs, f, h, hz => by
    rw [List.length_cons] at h
    have hk : k < f.length := by omega
    rw [mulF, rowL, rowL, hz k (Nat.le_refl _), Int.zero_add]
    rw [mulF_one y (k + 1) xs _ (by rw [List.length_set]; omega) (fun i hi => by
      rw [List.getD_eq_getElem?_getD, List.getElem?_set_ne (by omega), ← List.getD_eq_getElem?_getD]
      exact hz i (by omega))]
    have e1 : (f.set k (x * y)).take (k + 1) = f.take k ++ [x * y] := by
      rw [List.take_add_one, List.take_set_of_le (Nat.le_refl _), List.getElem?_set_self hk]
      rfl
    have e2 : (f.set k (x * y)).drop (k + 1 + xs.length) = f.drop (k + (xs.length + 1)) := by
      rw [List.drop_set_of_lt (by omega)]
      congr 1
      omega
    rw [e1, e2, List.map_cons, List.length_cons]
    simp
theorem mulZ_one (xs : List Int) (y : Int) : mulZ xs [y] = xs.map (· * y) ++ [0] := by
  unfold mulZ
  rw [mulF_one y 0 xs _ (by rw [List.length_replicate]; simp) (fun i _ => by
    rw [List.getD_eq_getElem?_getD, List.getElem?_replicate]
    split <;> rfl)]
  rw [List.take_zero, List.nil_append, List.length_singleton, Nat.zero_add, List.drop_replicate]
  congr 1
  rw [show xs.length + 1 - xs.length = 1 by omega]
  rfl
/-- with the other sign: as the law's product by -1 -/
theorem neg_mul (x : PM) : lowM x.1 (negM x).2 = mulM x (1, [-1]) := by
  unfold mulM
  rw [mulZ_one, Int.mul_one]
  refine lowM_of ?_
  rw [strip_snoc0]
  show strip (x.2.map fun c => -c) = _
  congr 1
  refine List.map_congr_left fun c _ => ?_
  rw [Int.mul_neg, Int.mul_one]
end My
set_option Elab.async false
set_option linter.all false
set_option maxRecDepth 100000
set_option maxHeartbeats 4000000
/-! a tuple times an int of either sign; slices of lists and tuples; polynomials and terms in the heap -/
namespace My
open PySem PySem.Spec PyProof.Rows L2 Evl
theorem tupMul0 (l : Addr) (items : Array Value) (n : Nat) (dd : Option Addr) (sl : Array (Option Value)) (x : Int) (u : Tok) (h0 : -(2 ^ 63) ≤ x) (h1 : x ≤ 0) (hi : items.isEmpty = false) :
    Meets (Builtin.«tuple.__mul__» ⟨[.ref l, .int x u], []⟩) (fun _ R s => s.heap.get? l = some { cls := .type "tuple", dict := dd, data := .seq items n, slots := sl } ∧ R (.ok (.ret (Value.ref s.heap.objs.size))) { s with heap := s.heap.push { cls := Value.type "tuple", data := Data.seq #[] }, toks := s.toks }) :=
  .of_wp fun prog w A R s h => by
    obtain ⟨hp, g, d, tk, os⟩ := s
    obtain ⟨hl, h⟩ := h
    have f1 := AutoSeq1.idx_int
    have c0 : (decide (x < -(2 ^ 63)) || decide (x ≥ 2 ^ 63)) = false := by
      rw [decide_eq_false (by omega), decide_eq_false (by omega)]
      rfl
    have c1 : (items.isEmpty || x == 1) = false := by
      rw [hi, Bool.false_or]
      exact beq_eq_false_iff_ne.mpr (by omega)
    have c2 : (decide (x ≤ 0) || items.isEmpty) = true := by
      rw [decide_eq_true h1]
      rfl
    wp_walk using wpAny_loadPart' hl
    repeat (first
      | (refine wpAny_ite_false (decide_eq_false (by rw [c0]; exact Bool.false_ne_true)) ?_; wp_walk using wpAny_loadPart' hl)
      | (refine wpAny_ite_false (decide_eq_false (by rw [c1]; exact Bool.false_ne_true)) ?_; wp_walk using wpAny_loadPart' hl)
      | (refine wpAny_ite_true (decide_eq_true (by rw [c2])) ?_; wp_walk using wpAny_loadPart' hl))
    exact ⟨_, rfl, h⟩
section
variable {X : Cx}
def rRepZ (K : PySem.W.Frag) : R2 := fun x y H Q => ∃ l k xs, x = .ref l ∧ y = .int k ∧ SqT K H l xs ∧ xs ≠ [] ∧ -1000 ≤ k ∧ k ≤ 1000 ∧ xs.length ≤ 1000 ∧ ∀ t H', Ex H H' → SqT K H' t (List.replicate k.toNat xs).flatten → Q (.ref t) H'
theorem op_repZ : OpR X (binaryOp .Mult) (rRepZ X.K) := by
  intro pins s σ H x y v u Q I rx ry h
  obtain ⟨l, k, xs, rfl, rfl, hT, hne, h0, h1, hz, q⟩ := h
  by_cases hk : 1 ≤ k
  · refine op_repT1 pins s σ H _ _ v u Q I rx ry ⟨l, k, xs, rfl, rfl, hT, ?_⟩
    by_cases h2 : k = 1
    · subst h2
      refine .inl ⟨rfl, q l H (Ex.refl _) ?_⟩
      have e : (List.replicate (1 : Int).toNat xs).flatten = xs := by simp
      rw [e]
      exact hT
    · exact .inr ⟨hne, by omega, h1, hz, fun p hp => q p _ (Ex.new hp) (st_of upd_same)⟩
  · cases rx
    obtain ⟨t, rfl⟩ := ry
    obtain ⟨its, r, ⟨⟨cls, dd, data, sl⟩, ho, hc, n, hd⟩, hs⟩ := I.tuple hT
    simp only at hc hd
    subst hc hd
    have hi : its.toArray.isEmpty = false := by
      cases its with
      | nil => cases r; exact absurd rfl hne
      | cons a b => rfl
    have e0 : (List.replicate k.toNat xs).flatten = [] := by
      rw [Int.toNat_of_nonpos (by omega)]
      rfl
    rw [e0] at q
    refine wpAny_binaryOp_repeat_ref (T := "tuple") (U := "int") (by decide) ⟨_, ho, rfl⟩ (fun s' => typeIs_int s' k t) noFill_tuple_mul F.fills_int_mul F.slot_int_rmul repeat_tuple F.slot_int_index.lookup
      (call_meets F.slot_int_rmul (typeIs_int s k t) F.entry_int_rmul (F.args_int_rmul_2 _ _) (int_rmul_tuple k t l its.toArray n dd sl)
        ⟨ho, rfl, ⟨_, ho, rfl⟩, call_meets F.slot_tuple_mul ⟨_, ho, rfl⟩ F.entry_tuple_mul (F.args_tuple_mul_2 _ _) (tupMul0 l its.toArray n dd sl k t (by omega) (by omega) hi) ⟨ho, ?_⟩⟩)
    have new : ObjOk X.prog X.w (upd H s.heap.objs.size (.tup [])) (s.heap.push ({ cls := .type "tuple", data := .seq #[] } : Obj)) s.heap.objs.size (.tup []) := ⟨Nat.zero_le _, [], .nil, ⟨_, Heap.get?_push_size _ rfl, rfl, _, rfl⟩⟩
    exact ⟨.ref _, _, I.laid (t' := s.toks) (fun _ _ q => Heap.get?_push_of_some _ q) (Nat.le_refl _) new, rfl, q _ _ (Ex.new I.fresh) (st_of upd_same)⟩
end
/-- a slice of a list or a tuple -/
def rSlLT (K : PySem.W.Frag) : V → Option Int → Option Int → Hp → VK → Prop := fun x lo hi H Q => rSlM K x lo hi H Q ∨ rSlA K x lo hi H Q
theorem sl_LT {X : Cx} : SlR X (rSlLT X.K) := by
  intro pins s σ H x v vl vu lo hi sl Q I rx hs pl pu h
  rcases h with h | h
  · exact sl_listM pins s σ H x v vl vu lo hi sl Q I rx hs pl pu h
  · exact sl_tupA pins s σ H x v vl vu lo hi sl Q I rx hs pl pu h
section
variable {K : PySem.W.Frag} {H : Hp} {Q : VK}
theorem ix_any {p : Addr} {xs : List V} {i : Int} {v : V} (hp : SqL K H p xs ∨ SqT K H p xs) (h : atI xs i = some v) (q : Q v H) : rIx K (.ref p) (.int i) H Q := by
  rcases hp with hp | hp
  · exact .inl ⟨p, xs, i, v, rfl, rfl, hp, h, q⟩
  · exact .inr (.inl ⟨p, xs, i, v, rfl, rfl, hp, h, q⟩)
theorem slA_of {a : Addr} {g : List V} {lo hi : Option Int} (ha : SqT K H a g) (q : ∀ t H', Ex H H' → SqT K H' t (cutV g lo hi) → Q (.ref t) H') : rSlA K (.ref a) lo hi H Q := by
  refine ⟨a, g, rfl, ha, fun hw => q a H (Ex.refl _) ?_, fun hw p hp => q p _ (Ex.new hp) (st_of upd_same)⟩
  unfold cutV
  rw [hw.1, hw.2, List.drop_zero, Nat.sub_zero, List.take_length]
  exact ha
theorem catT_of {a b : Addr} {xs ys : List V} (ha : SqT K H a xs) (hb : SqT K H b ys) (h0 : xs ≠ []) (hz : xs.length + ys.length ≤ sizeLine) (q : ∀ t H', Ex H H' → SqT K H' t (xs ++ ys) → Q (.ref t) H') : rCatT K (.ref a) (.ref b) H Q :=
  ⟨a, b, xs, ys, rfl, rfl, ha, hb, h0, hz, fun e => q a H (Ex.refl _) (by rw [e, List.append_nil]; exact ha), fun _ p hp => q p _ (Ex.new hp) (st_of upd_same)⟩
theorem catA_of {a b : Addr} {xs ys : List V} (ha : SqT K H a xs) (hb : SqT K H b ys) (hz : xs.length + ys.length ≤ sizeLine) (q : ∀ p H', Ex H H' → SqT K H' p (xs ++ ys) → Q (.ref p) H') : rCatA K (.ref a) (.ref b) H Q := by
  refine ⟨a, b, xs, ys, rfl, rfl, ha, hb, hz, fun e => ?_, fun _ e => ?_, fun _ _ p hp => q p _ (Ex.new hp) (st_of upd_same)⟩
  · subst e; exact q b H (Ex.refl H) hb
  · subst e; exact q a H (Ex.refl H) (by rw [List.append_nil]; exact ha)
theorem repZ_of {l : Addr} {xs : List V} {k : Int} (h : SqT K H l xs) (hne : xs ≠ []) (h0 : -1000 ≤ k) (h1 : k ≤ 1000) (hz : xs.length ≤ 1000) (q : ∀ t H', Ex H H' → SqT K H' t (List.replicate k.toNat xs).flatten → Q (.ref t) H') : rRepZ K (.ref l) (.int k) H Q := ⟨l, k, xs, rfl, rfl, h, hne, h0, h1, hz, q⟩
theorem cut_one (x : V) (xs : List V) : cutV (x :: xs) (some 1) none = xs := by
  have e1 : HT.sIx (x :: xs).length 0 (some 1) = min 1 (x :: xs).length := HT.sIx_nat _ _ 1
  have e2 : HT.sIx (x :: xs).length (x :: xs).length none = (x :: xs).length := rfl
  unfold cutV
  rw [e1, e2, List.length_cons, Nat.min_eq_left (by omega), List.drop_one, List.tail_cons, List.take_of_length_le (by omega)]
theorem cut_fst (x : V) (xs : List V) : cutV (x :: xs) none (some 1) = [x] := by
  have e1 : HT.sIx (x :: xs).length 0 none = 0 := rfl
  have e2 : HT.sIx (x :: xs).length (x :: xs).length (some 1) = min 1 (x :: xs).length := HT.sIx_nat _ _ 1
  unfold cutV
  rw [e1, e2, List.length_cons, Nat.min_eq_left (by omega), List.drop_zero]
  rfl
end
/-- x[1:] of a name -/
theorem sl1_of {K : PySem.W.Frag} {σ : L2.St} {H : Hp} {Q : VK} {i : Nat} {a : Addr} {x : V} {xs : List V} (hs : σ[i]? = some (some (.ref a))) (ha : SqT K H a (x :: xs)) (q : ∀ t H', Ex H H' → SqT K H' t xs → Q (.ref t) H') : tSl (rSlA K) (tVar i) (tPart (tC (.int 1))) tNoPart σ H Q := by
  refine ⟨_, hs, 1, rfl, ?_⟩
  show rSlA K (.ref a) (some 1) none H Q
  refine slA_of ha fun t H' e s => q t H' e ?_
  rw [cut_one] at s
  exact s
theorem sqt_mut {K : PySem.W.Frag} {H : Hp} {p t : Addr} {xs ys zs : List V} (hp : H p = some (.lst ys)) (h : SqT K H t xs) : SqT K (upd H p (.lst zs)) t xs := by
  rcases h with (h | ⟨o, h⟩) | h
  · exact .inl (.inl (by rw [upd_ne (fun e => by rw [e, hp] at h; cases h)]; exact h))
  · exact .inl (.inr ⟨o, by rw [upd_ne (fun e => by rw [e, hp] at h; cases h)]; exact h⟩)
  · exact .inr h
/-- all stays but what lies at a -/
def Els (a : Addr) (H H1 : Hp) : Prop := ∀ b o, b ≠ a → H b = some o → H1 b = some o
theorem Els.set {a : Addr} {H H1 : Hp} {o : HO} (e : Els a H H1) : Els a H (L2.upd H1 a o) := fun b u n h => by rw [upd_ne n]; exact e b u n h
theorem Els.tex {a : Addr} {H H1 H2 : Hp} (e : Els a H H1) (f : Ex H1 H2) : Els a H H2 := fun b u n h => f _ _ (e b u n h)
theorem Els.of {a : Addr} {H H1 : Hp} (e : Ex H H1) : Els a H H1 := fun b u _ h => e _ _ h
/-- a tuple does not lie at an object -/
theorem Els.sqt {K : PySem.W.Frag} {a C dx t : Addr} {fs : List (Str × V)} {H H1 : Hp} {xs : List V} (e : Els a H H1) (h : H a = some (.ins C dx fs)) (ht : SqT K H t xs) : SqT K H1 t xs := by
  rcases ht with (ht | ⟨o, ht⟩) | ht
  · exact .inl (.inl (e _ _ (fun z => by rw [z, h] at ht; cases ht) ht))
  · exact .inl (.inr ⟨o, e _ _ (fun z => by rw [z, h] at ht; cases ht) ht⟩)
  · exact .inr ht
theorem share_app (o : Int) (as bs : List Int) : share o (as ++ bs) = share (share o as) bs := by
  unfold share
  rw [List.foldl_append]
theorem zeros_flat (n : Nat) : (List.replicate n [V.int 0]).flatten = (List.replicate n (0 : Int)).map V.int := by
  rw [List.flatten_replicate_singleton, List.map_replicate]
/-- a list and zeros behind it -/
theorem repcat {H : Hp} {l p : Addr} {xs : List Int} {k : Int} {Q : VK} (hl : H l = some (.lst (xs.map V.int))) (hp : H p = some (.lst [.int 0])) (k0 : 0 ≤ k) (k1 : k ≤ 1000) (hx : xs.length ≤ 1000)
    (q : ∀ t H', Ex H H' → H t = none → H' t = some (.lst ((xs ++ List.replicate k.toNat 0).map V.int)) → Q (.ref t) H') : rRep (.ref p) (.int k) H fun y H2 => rCat (.ref l) y H2 Q := by
  refine ⟨p, k, [.int 0], rfl, rfl, hp, by omega, by omega, sz_le (by simp; omega), fun t ht => ?_⟩
  rw [zeros_flat]
  have e1 := Ex.new ht (o := .lst ((List.replicate k.toNat (0 : Int)).map V.int))
  refine ⟨l, t, _, _, rfl, rfl, e1 _ _ hl, upd_same, sz_le (by simp; omega), fun t2 ht2 => ?_⟩
  refine q t2 _ (e1.trans (Ex.new ht2)) (by rw [upd_ne (fun e => by rw [e, upd_same] at ht2; cases ht2)] at ht2; exact ht2) ?_
  rw [upd_same, List.map_append]
/-- a polynomial as the package has it -/
def PolT (K : PySem.W.Frag) (H : Hp) (a : Addr) (p : PM) : Prop := SqT K H a (.int p.1 :: p.2.map V.int)
theorem PolT.ex {K : PySem.W.Frag} {H H' : Hp} {a : Addr} {p : PM} (e : Ex H H') (h : PolT K H a p) : PolT K H' a p := e.sqt h
/-- a term -/
def TermO (K : PySem.W.Frag) (CT : Addr) (H : Hp) (p : PM) (v : V) : Prop := ∃ a dx r c, v = .ref a ∧ H a = some (.ins CT dx [("poly", .ref r), ("coefficients", .ref c), ("over", .int p.1)]) ∧ PolT K H r p ∧ SqT K H c (p.2.map V.int)
theorem TermO.ex {K : PySem.W.Frag} {CT : Addr} {H H' : Hp} {p : PM} {v : V} (e : Ex H H') (h : TermO K CT H p v) : TermO K CT H' p v := by
  obtain ⟨a, dx, r, c, rfl, h1, h2, h3⟩ := h
  exact ⟨a, dx, r, c, rfl, e _ _ h1, h2.ex e, e.sqt h3⟩
/-- what the law holds: coefficients and what they are divided by -/
def PairT (K : PySem.W.Frag) (H : Hp) (v : V) (p : PM) : Prop := ∃ a c, v = .ref a ∧ SqT K H a [.ref c, .int p.1] ∧ SqT K H c (p.2.map V.int)
theorem PairT.ex {K : PySem.W.Frag} {H H' : Hp} {p : PM} {v : V} (e : Ex H H') (h : PairT K H v p) : PairT K H' v p := by
  obtain ⟨a, c, rfl, h1, h2⟩ := h
  exact ⟨a, c, rfl, e.sqt h1, e.sqt h2⟩
/-! ### while the source of draws changes -/
theorem sqt_mv {K : PySem.W.Frag} {d L t : Addr} {H H' : Hp} {xs : List V} (D : Deal d L H) (M : Mv d L H H') (h : SqT K H t xs) : SqT K H' t xs := by
  obtain ⟨cs, z, D⟩ := D
  rcases h with (h | ⟨o, h⟩) | h
  · exact .inl (.inl (M.kp _ _ (fun e => by rw [e, D.d] at h; cases h) (fun e => by rw [e, D.l] at h; cases h) h))
  · exact .inl (.inr ⟨o, M.kp _ _ (fun e => by rw [e, D.d] at h; cases h) (fun e => by rw [e, D.l] at h; cases h) h⟩)
  · exact .inr h
theorem PairT.mv {K : PySem.W.Frag} {d L : Addr} {H H' : Hp} {v : V} {p : PM} (D : Deal d L H) (M : Mv d L H H') (h : PairT K H v p) : PairT K H' v p := by
  obtain ⟨a, c, rfl, h1, h2⟩ := h
  exact ⟨a, c, rfl, sqt_mv D M h1, sqt_mv D M h2⟩
theorem TermO.mv {K : PySem.W.Frag} {CT d L : Addr} {H H' : Hp} {v : V} {p : PM} (D : Deal d L H) (M : Mv d L H H') (h : TermO K CT H p v) : TermO K CT H' p v := by
  obtain ⟨a, dx, r, c, rfl, h1, h2, h3⟩ := h
  refine ⟨a, dx, r, c, rfl, ?_, sqt_mv D M h2, sqt_mv D M h3⟩
  obtain ⟨cs, z, D⟩ := D
  exact M.kp _ _ (fun e => by rw [e, D.d] at h1; cases h1) (fun e => by rw [e, D.l] at h1; cases h1) h1
end My
set_option Elab.async false
set_option linter.all false
set_option maxRecDepth 100000
set_option maxHeartbeats 4000000
/-! isinstance of a caught own error of any chain, two classes -/
namespace My
open PySem PySem.Spec PyProof.Rows L2 Evl
section
variable {X : Cx} {C a : Addr} {oe : Obj} {cls : Value} {d : Option Addr} {pn : List (Addr × Obj)}
/-- isinstance(e, (c1, c2)), e the error that the suite holds -/
def rIsR2 (K : PySem.W.Frag) (C a : Addr) (cls : Value) (d : Option Addr) : List V → Hp → VK → Prop := fun xs H Q => ∃ (tp dd : Addr) (fs : List (Str × V)) (c1 c2 : Addr) (b : Bool),
  xs = [.ref a, .ref tp] ∧ cls = .ref C ∧ d = some dd ∧ H dd = some (.xd fs) ∧ H tp = some (.tup [.ref c1, .ref c2]) ∧ PySem.W.kitAny K (.ref C) [.ref c1, .ref c2] = some b ∧ Q (.bl b) H
theorem call_isR2 {x f : Str} {fI : Addr} (T : ErrR X.K X.mg x f C fI) (hz : Zc cls d oe) (hf : ∃ vs, oe.data = .fields vs) : CallR (X.suite a ((a, oe) :: pn)) (.builtin "isinstance") (rIsR2 X.K C a cls d) := by
  intro pins s σ H xs us Q I r h
  obtain ⟨tp, dd, fs, c1, c2, b, rfl, ec, ed, hdd, hT, e, q⟩ := h
  subst ec ed
  obtain ⟨u1, u2, rfl, r1, r2⟩ := vals2 r
  obtain rfl : u1 = Value.ref a := r1
  obtain rfl : u2 = Value.ref tp := r2
  obtain ⟨hget, _⟩ := I.pin (a, oe) (List.mem_append.mpr (.inl List.mem_cons_self))
  obtain ⟨vs, hv⟩ := hf
  obtain ⟨mA, hns, _⟩ := (show ObjOk X.prog X.w H s.heap dd (.xd fs) from I.hok dd _ hdd)
  obtain ⟨od, ho, _⟩ := lookIn_ns hns
  have J : PySem.W.InstAt s.heap a oe C (some od) := ⟨hget, hz.1, by unfold PySem.W.notCls; rw [hv] <;> rfl, by rw [hz.2]; exact ho⟩
  obtain ⟨_, its, rv, o, h1, h2, n, h3⟩ := (show ObjOk X.prog X.w H s.heap tp (.tup [.ref c1, .ref c2]) from I.hok tp _ hT)
  obtain ⟨oc, od', dt, sl⟩ := o
  simp only at h2 h3
  subst h2 h3
  obtain ⟨w1, w2, rfl, q1, q2⟩ := vals2 rv
  obtain rfl : w1 = Value.ref c1 := q1
  obtain rfl : w2 = Value.ref c2 := q2
  exact PySem.W.kia_tup (PySem.W.kitx_exc T.F.k.isC T.xf.ga T.xf.gg T.xf.exC T.F.k.ha T.F.k.hn T.F.k.ht T.F.k.hm) I.kIn J h1 e (fun z => nomatch z) fun tk => ⟨.bl b, H, I.tok tk, rfl, q⟩
theorem kitAny2 {K : PySem.W.Frag} {t c1 c2 : Value} (h1 : PySem.W.kitOne K t c1 = some false) (h2 : PySem.W.kitOne K t c2 = some false) : PySem.W.kitAny K t [c1, c2] = some false := by
  simp [PySem.W.kitAny, h1, h2]
end
end My
set_option Elab.async false
set_option linter.all false
set_option maxRecDepth 100000
set_option maxHeartbeats 4000000
/-! match of a text with texts, and a last case that takes all -/
namespace My
open PySem PySem.Spec PyProof.Rows L2 Evl
def tCs (y : Str) : List (Option Str × TS) → TS
  | [] => fun D σ H => D.nx σ H
  | (some m, t) :: r => fun D σ H => if y = m then t D σ H else tCs y r D σ H
  | (none, t) :: _ => t
def tMatch (te : TE) (l : List (Option Str × TS)) : TS := fun D σ H => te σ H fun x H1 => ∃ y, x = .str y ∧ tCs y l D σ H1
inductive PCs (X : Cx) : List MatchCase → List (Option Str × TS) → Prop
  | nil : PCs X [] []
  | val {m : Str} {j : Nat} {p p2 : Pos} {body : List Stmt} {t : TS} {cs : List MatchCase} {l : List (Option Str × TS)} (hb : PSs X body t) (r : PCs X cs l) : PCs X (⟨.MatchValue (.Constant (.str m) j p) p2, none, body⟩ :: cs) ((some m, t) :: l)
  | all {p : Pos} {body : List Stmt} {t : TS} {cs : List MatchCase} {l : List (Option Str × TS)} (hb : PSs X body t) : PCs X (⟨.MatchAs none none p, none, body⟩ :: cs) ((none, t) :: l)
section
variable {X : Cx}
theorem cases_run {y : Str} {u : Value} {pins : List (Addr × Obj)} {σ : L2.St} {H : Hp} {D : Ends} (ru : RelV (.str y) u) : ∀ {cs : List MatchCase} {l : List (Option Str × TS)} {s : Shared} {b : Bool}, PCs X cs l → Inv X pins σ H s → tCs y l D σ H → wpAny (model X.prog X.w) X.A (matchCases cs X.env u b) (SP X pins D) X.xe s := by
  intro cs l s b hc
  induction hc generalizing s b with
  | nil => intro I h; exact wpAny_matchCases_nil ⟨σ, H, I, h⟩
  | @val m j p p2 body t cs l hb r ih =>
    intro I h
    refine wpAny_matchCases_cons (wpAny_matchPattern_Value (thn ((pe_str (X := X)).run pins s σ H (fun x H1 => x = .str m ∧ H1 = H) I ⟨rfl, rfl⟩) fun v s1 ⟨x, H1, I1, r1, ex, eH⟩ => ?_))
    subst ex eH
    refine thn (op_eq pins s1 σ H1 (.str y) (.str m) u v (fun z H2 => z = .bl (decide (y = m)) ∧ H2 = H1) I1 ru r1 ⟨rfl, by simp⟩) fun c s2 ⟨z, H2, I2, r2, ez, eH⟩ => ?_
    subst ez eH
    cases r2
    refine wpAny_truthy_bool ?_
    have h : if y = m then t D σ H2 else tCs y l D σ H2 := h
    by_cases hy : y = m
    · rw [if_pos hy] at h
      rw [decide_eq_true hy]
      refine wpAny_assignInOrder_none ?_
      exact hb.run pins s2 σ H2 D I2 h
    · rw [if_neg hy] at h
      rw [decide_eq_false hy]
      exact ih I2 h
  | @all p body t cs l hb =>
    intro I h
    refine wpAny_matchCases_cons (wpAny_matchPattern_Capture ?_)
    refine wpAny_assignInOrder_none ?_
    exact hb.run pins s σ H D I h
theorem ps_match {e : Expr} {te : TE} {cs : List MatchCase} {l : List (Option Str × TS)} {pos : Pos} (he : PE X e te) (hc : PCs X cs l) : PS X (.Match e cs pos) (tMatch te l) := by
  refine ⟨fun pins s σ H D I h => wpAny_Match (thn (he.run pins s σ H _ I h) fun u s1 ⟨x, H1, I1, r1, y, ex, q⟩ => ?_)⟩
  subst ex
  exact cases_run r1 hc I1 q
end
end My
set_option Elab.async false
set_option linter.all false
set_option maxRecDepth 100000
set_option maxHeartbeats 4000000
/-! rules for sets of bases: math.lcm, a class held by a local name, class methods without arguments, operators between own objects -/
namespace My
open PySem PySem.Spec PyProof.Rows L2 Evl
section
variable {X : Cx}
def rLcm : List V → Hp → VK → Prop := fun vs H Q => ∃ a b : Int, vs = [.int a, .int b] ∧ a.natAbs < 2 ^ 64 ∧ b.natAbs < 2 ^ 64 ∧ Q (.int ((a.natAbs.lcm b.natAbs : Nat) : Int)) H
theorem cr_lcm : CallR X (.builtin "math.lcm") rLcm := by
  intro pins s σ H vs us Q I r h
  obtain ⟨a, b, rfl, ha, hb, q⟩ := h
  obtain ⟨t, u, rfl⟩ := Vals.int2 r
  exact PySem.W.mc_lcm ha hb fun _ => ⟨.int _, H, I.tok _, ⟨_, rfl⟩, q⟩
/-- cls(e, ..), cls a local name that holds the class at C -/
def tMakeL (i : Nat) (C : Addr) (sp : Sp) (E : XK) (t : TA) : TE := fun σ H Q => σ[i]? = some (some (.ref C)) ∧ t σ H fun vs H1 => ∀ x dx, H1 x = none → H1 dx = none → dx ≠ x → sp (.ref x :: (vs ++ [])) (upd (upd H1 dx (.own x)) x (.ins C dx [])) (fun v H2 => v = .non ∧ Q (.ref x) H2) E
theorem pe_makeL {CX : CXT} {k i : Nat} {f C : Addr} {fd : FuncData} {ps : List Str} {sp : Sp} {E : XK} {x : Str} {p pos : Pos} {e : Expr} {es : List Expr} {t : TA} (M : Mk X.K C f) (F : FnOk X.prog X.w X.K X.mg X.base CX k f fd ps sp) (hr : Room (k + 1) X.A) (hN : X.N[i]? = some x) (hv : Vis X.env.scope x) (hb : Binds X.K fd ps []) (hx : Passes CX X E) (ha : PA X (e :: es) t)
    (hdb : (x == ("__debug__" : Str)) = false := by decide) (hcd : (x == ("__classdict__" : Str)) = false := by decide)
    (he : starEach (e :: es) X.env = (false, eval e X.env) :: starEach es X.env := by rfl) (hpl : (backTo pos (starEach es X.env)).any (·.1) = false := by rfl) : PE X (.Call (.Name x p) (e :: es) [] pos) (tMakeL i C sp E t) := by
  refine ⟨fun pins s σ H Q I h => ?_⟩
  obtain ⟨hs, ht⟩ := h
  refine wpAny_Call_Name_kw (thn ((pe_var (pos := p) hN hv hdb hcd).run pins s σ H (fun v H1 => v = .ref C ∧ H1 = H) I ⟨.ref C, hs, rfl, rfl⟩) fun u s1 ⟨v, H1, I1, r1, q1⟩ => ?_)
  obtain ⟨rfl, rfl⟩ := q1
  cases r1
  refine PySem.W.callWith_K (h₀ := X.base) I.ok.mod.kin M.kp (thn (ha.run pos pins s1 σ _ _ I1 ht) fun us s2 ⟨vs, H2, I2, r, q⟩ => ⟨I2.kIn, ?_⟩) he hpl
  exact run_make M F hr hb .nil hx I2 r q
end
/-! ### operators between objects of one own class -/
def rBinO (C : Addr) (sp : Sp) (E : XK) : R2 := fun x y H Q => ∃ a dx fs b dy gs, x = .ref a ∧ H a = some (.ins C dx fs) ∧ y = .ref b ∧ H b = some (.ins C dy gs) ∧ sp [x, y] H Q E
section
variable {X : Cx} {CX : CXT} {n : Nat} {sp : Sp} {E : XK} {C g : Addr} {op : Operator}
theorem op_binO (hm : MethC X.K (PySem.dunder op.info.2) C g) (sf : PySem.W.selfFirst X.K C = true) (hF : FnR X.prog X.w X.K X.mg X.base CX n g sp) (hr : Room n X.A) (hx : Passes CX X E) : OpR X (binaryOp op) (rBinO C sp E) := by
  intro pins s σ H x y v u Q I rx ry h
  obtain ⟨a, dx, fs, b, dy, gs, rfl, ha, rfl, hb, q⟩ := h
  obtain rfl : v = Value.ref a := rx
  obtain rfl : u = Value.ref b := ry
  obtain ⟨od, J⟩ := ins_at I ha
  obtain ⟨od2, J2⟩ := ins_at I hb
  obtain ⟨m, hFr⟩ := I.fr
  have main : wpAny (model X.prog X.w) X.A (call (.ref g) [.ref a, .ref b]) (PySem.W.CmpBack (EP X pins σ Q)) X.xe s := by
    refine wpAny_mono (wpAny_call (run_fnR (us := [.ref a, .ref b]) (vs := [.ref a, .ref b]) hF hr hx I (.cons rfl (.cons rfl .nil)) q)) (fun w s' z => ?_) fun _ _ x => x
    obtain ⟨z', H', I', rz, qz⟩ := z
    exact SlX.cmpback rz ⟨z', H', I', rz, qz⟩
  exact PySem.W.binop_K hFr I.ok.mod.kin J J2.type sf hm.at_ hm.fn main
end
/-! ~a -/
section
variable {X : Cx} {CX : CXT} {n : Nat} {sp : Sp} {E : XK} {C g : Addr}
theorem un_invO (hS : MethC X.K "__invert__" C g) (hF : FnR X.prog X.w X.K X.mg X.base CX n g sp) (hr : Room n X.A) (hx : Passes CX X E) : UnR X (unaryOp .Invert) (rNegO C sp E) := by
  intro pins s σ H x v Q I rx h
  obtain ⟨a, dx, fs, rfl, ha, q⟩ := h
  obtain rfl : v = Value.ref a := rx
  obtain ⟨od, J⟩ := ins_at I ha
  obtain ⟨m, hFr⟩ := I.fr
  refine PySem.W.ksp_inv hFr I.ok.mod.kin J hS.at_ hS.fn ?_
  exact wpAny_mono (wpAny_call (run_fnR (us := [.ref a]) (vs := [.ref a]) hF hr hx I (.cons rfl .nil) q)) (fun w s' z => z) fun _ _ x => x
end
/-! e.m(), e the class at C, m a classmethod -/
def tCMeth0 (C : Addr) (sp : Sp) (E : XK) (ta : TE) : TE := fun σ H Q => ta σ H fun x H1 => x = .ref C ∧ sp [.ref C] H1 Q E
section
variable {X : Cx} {CX : CXT} {k : Nat} {C p g : Addr} {mc : Value} {sp : Sp} {E : XK} {o : Expr} {m : Str} {pos apos : Pos} {ta : TE} {pl : Sem Bool}
theorem pe_cmeth0 (he : PE X o ta) (r : ClX.CRead X.K C mc) (c : ClX.CMet X.K C mc m p g) (F : FnR X.prog X.w X.K X.mg X.base CX k g sp) (hr : Room k X.A) (hx : Passes CX X E)
    (ht : eval (.Call (.Attribute o m apos) [] [] pos) X.env = (do
      let ov ← eval o X.env
      standAt apos.atName
      let (f, first) ← holding [ov] (getMethod ov m pl)
      callWith pos f first (backTo pos (starEach [] X.env)) (backToKw pos (keywordEach [] X.env))) := by rfl) :
    PE X (.Call (.Attribute o m apos) [] [] pos) (tCMeth0 C sp E ta) := by
  refine ⟨fun pins s σ H Q I h => ?_⟩
  refine PySem.W.methodCall_KW (pl := pl) (thn (he.run pins s σ H _ I h) fun u s1 ⟨x, H1, I1, rx, ex, q⟩ => ?_) ht
  subst ex
  obtain rfl : u = Value.ref C := rx
  refine ClX.getmethcm_ok I1 r c fun s2 I2 => ?_
  exact PySem.W.callWith_M0 (K := X.K) ⟨ClX.pin_at I2, I2.kIn⟩ c.fi (ClX.run_cm (us := []) (vs := []) F hr hx I2 .nil q)
end
/-! a class that is read as a class is -/
theorem cread_of {K : PySem.W.Frag} {C : Addr} (h : PySem.W.readsIn K C (.type "type") = true) : ClX.CRead K C (.type "type") := by
  refine ⟨h, ?_⟩
  unfold PySem.W.readsIn at h
  have h0 := (He.ba (He.ba h).1).1
  obtain ⟨a, b⟩ := He.ba h0
  unfold PySem.W.specialIn
  rw [beq_iff_eq.mp (He.ba a).2]
  exact beq_iff_eq.mp b
end My
set_option Elab.async false
set_option linter.all false
set_option maxRecDepth 100000
set_option maxHeartbeats 4000000
/-! own objects compared by <, <=, >, >= of their own class -/
namespace My
open PySem PySem.Spec PyProof.Rows L2 Evl
theorem op_cmpO {X : Cx} {CX : CXT} {n : Nat} {sp : Sp} {E : XK} {SF : Addr → Addr → Prop} {op : CmpOp} (ho : ∀ a b, compareOp op a b = richCompare op a b) (hS : ∀ C g, SF C g → MethC X.K (cmpInfo op).2.1 C g) (hF : ∀ C g, SF C g → FnR X.prog X.w X.K X.mg X.base CX n g (onC C sp)) (hr : Room n X.A) (hx : Passes CX X E) : OpR X (compareOp op) (rEqO X.K SF sp E) := by
  intro pins s σ H x y v u Q I rx ry h
  obtain ⟨a, C, dx, fs, g, t, rfl, ha, hg, ty, hn, q⟩ := h
  obtain rfl : v = Value.ref a := rx
  obtain ⟨od, J⟩ := ins_at I ha
  obtain ⟨m, hFr⟩ := I.fr
  obtain ⟨PP, KX, hp, _⟩ := kit_of I ry ty
  rw [ho]
  refine PySem.W.cmp_K (op := op) (tb := t) hr.units0 hFr I.ok.mod.kin J (KX.ty _ _ I.kIn hp) hn (hS C g hg).at_ (hS C g hg).fn ?_
  refine wpAny_mono (wpAny_call (run_fnR (us := [.ref a, u]) (vs := [.ref a, y]) (hF C g hg) hr hx I (.cons rfl (.cons ry .nil)) ⟨⟨_, _, _, _, rfl, ha⟩, q⟩)) (fun w s' z => ?_) fun _ _ x => x
  obtain ⟨z', H', I', rz, qz⟩ := z
  exact SlX.cmpback rz ⟨z', H', I', rz, qz⟩
theorem ho_le (a b : Value) : compareOp .LtE a b = richCompare .LtE a b := rfl
theorem ho_lt (a b : Value) : compareOp .Lt a b = richCompare .Lt a b := rfl
theorem ho_ge (a b : Value) : compareOp .GtE a b = richCompare .GtE a b := rfl
theorem ho_gt (a b : Value) : compareOp .Gt a b = richCompare .Gt a b := rfl
end My
set_option Elab.async false
set_option linter.all false
set_option maxRecDepth 100000
set_option maxHeartbeats 4000000
/-! bool(an own object) by its own __bool__ -/
namespace My
open PySem PySem.Spec PyProof.Rows L2 Evl
theorem plain_bool_new : plainId "bool.__new__" = true := by decide +kernel
theorem code_bool_new {prog : Program} {w : World} {A : Around} {s : Shared} {E Q1 : Value → Shared → Prop} (x : Value) (h : wpAny (model prog w) A.in1 (truthy x) (fun b s' => Q1 (.bool b) s') E s) :
    codeAny (model prog w) A (.call (.builtin "bool.__new__") ⟨[.type "bool", x], []⟩) (wants Q1 E) s := by
  refine codeAny_of_tree ?_
  show wpAny _ A.in1 (do checkBuiltinCall "bool.__new__" ⟨[.type "bool", x], []⟩; again (.builtin "bool.__new__" ⟨[.type "bool", x], []⟩)) _ _ s
  refine wpAny_bind (wpAny_of_eq (F.newCall_bool_1 x) (wpAny_pure ⟨plainId_quiet plain_bool_new _, codeAny_builtin F.entry_bool_new ?_⟩))
  rw [Around.under_plainId plain_bool_new _]
  have f1 := F.conv_sub_bool
  repeat (any_goals (first | assumption | (with_reducible refine wpAny_bind (wpAny_mono h (fun b s' hb => ?_) fun _ _ y => y)) | wp_step))
theorem call_bool_any {prog : Program} {w : World} {A : Around} {s : Shared} {E Q : Value → Shared → Prop} {x : Value} (h : wpAny (model prog w) A.in1.in1 (truthy x) (fun b s' => Q (.bool b) s') E s) : wpAny (model prog w) A (call (.type "bool") [x]) Q E s :=
  callType_codes (Q₁ := fun obj s1 => ∃ b, obj = .bool b ∧ Q (.bool b) s1) F.called_bool (F.typeCall_bool_1 x) F.entry_object_init (code_bool_new x (wpAny_mono h (fun b s' q => ⟨b, rfl, q⟩) fun _ _ y => y)) fun obj s1 ⟨b, e, q⟩ => by
    subst e
    exact ⟨rfl, F.args_object_init_2 _ x, object_init_meets F.called_bool.init.lookup F.called_bool.made F.newNe_bool prog w A.in1 _ s1 ⟨rfl, rfl, q⟩⟩
def rBoolO (SF : Addr → Addr → Prop) (sp : Sp) (E : XK) : List V → Hp → VK → Prop := fun xs H Q => ∃ a C dx fs g, xs = [.ref a] ∧ H a = some (.ins C dx fs) ∧ SF C g ∧ sp [.ref a] H (fun v H' => ∃ k, v = .bl k ∧ Q (.bl k) H') E
theorem call_boolO {X : Cx} {CX : CXT} {n : Nat} {sp : Sp} {E : XK} {SF : Addr → Addr → Prop} (hS : ∀ C g, SF C g → MethC X.K "__bool__" C g) (hF : ∀ C g, SF C g → FnR X.prog X.w X.K X.mg X.base CX n g (onC C sp)) (hr : Room (n + 2) X.A) (hx : Passes CX X E) : CallR X (.type "bool") (rBoolO SF sp E) := by
  intro pins s σ H xs us Q I r h
  obtain ⟨a, C, dx, fs, g, rfl, ha, hg, q⟩ := h
  obtain rfl := Vals.ref1 r
  refine call_bool_any ?_
  obtain ⟨od, J⟩ := ins_at I ha
  obtain ⟨m, hFr⟩ := I.fr
  have h2 : Room n X.A.in1.in1 := Room.in1 (Room.in1 hr)
  refine PySem.W.truthy_K hFr I.ok.mod.kin J (hS C g hg).at_ (hS C g hg).fn (wpAny_mono (wpAny_call (SlX.run_at (us := [.ref a]) (ws := [.ref a]) (hF C g hg) h2 I.env0.in1.in1 hx I (.cons rfl .nil) ⟨⟨_, _, _, _, rfl, ha⟩, q⟩)) (fun w s' z => ?_) fun _ _ x => x)
  obtain ⟨z', H', I', rz, k, ek, qz⟩ := z
  subst ek
  cases rz
  exact ⟨.bl k, H', I', rfl, qz⟩
/-- the truth of an own object by its own __bool__ -/
def rTruO (SF : Addr → Addr → Prop) (sp : Sp) (E : XK) : V → Hp → (Bool → Hp → Prop) → Prop := fun x H Q => ∃ a C dx fs g, x = .ref a ∧ H a = some (.ins C dx fs) ∧ SF C g ∧ sp [.ref a] H (fun v H' => ∃ k, v = .bl k ∧ Q k H') E
theorem tru_own {X : Cx} {CX : CXT} {n : Nat} {sp : Sp} {E : XK} {SF : Addr → Addr → Prop} (hS : ∀ C g, SF C g → MethC X.K "__bool__" C g) (hF : ∀ C g, SF C g → FnR X.prog X.w X.K X.mg X.base CX n g (onC C sp)) (hr : Room n X.A) (hx : Passes CX X E) : TruR X (rTruO SF sp E) := by
  intro pins s σ H x v Q I rx h
  obtain ⟨a, C, dx, fs, g, rfl, ha, hg, q⟩ := h
  obtain rfl : v = Value.ref a := rx
  obtain ⟨od, J⟩ := ins_at I ha
  obtain ⟨m, hFr⟩ := I.fr
  refine PySem.W.truthy_K hFr I.ok.mod.kin J (hS C g hg).at_ (hS C g hg).fn (wpAny_mono (wpAny_call (run_fnR (us := [.ref a]) (vs := [.ref a]) (hF C g hg) hr hx I (.cons rfl .nil) ⟨⟨_, _, _, _, rfl, ha⟩, q⟩)) (fun w s' z => ?_) fun _ _ x => x)
  obtain ⟨z', H', I', rz, k, ek, qz⟩ := z
  subst ek
  cases rz
  exact ⟨H', I', qz⟩
def tNotR (r : V → Hp → (Bool → Hp → Prop) → Prop) (ta : TE) : TE := fun σ H Q => ta σ H fun x H1 => r x H1 fun k H2 => Q (.bl (!k)) H2
theorem pe_notR {X : Cx} {a : Expr} {ta : TE} {pos : Pos} {r : V → Hp → (Bool → Hp → Prop) → Prop} (ha : PE X a ta) (hr : TruR X r) : PE X (.UnaryOp .Not a pos) (tNotR r ta) := by
  refine ⟨fun pins s σ H Q I h => ?_⟩
  refine UnaryOp_ (thn (ha.run pins s σ H _ I h) fun v s1 ⟨x, H1, I1, r1, q1⟩ => ?_)
  exact not_of (thn (hr pins s1 σ H1 x v _ I1 r1 q1) fun b s2 ⟨H2, I2, q2⟩ => ⟨.bl (!b), H2, I2, rfl, q2⟩)
end My
set_option Elab.async false
set_option linter.all false
set_option maxRecDepth 100000
set_option maxHeartbeats 4000000
/-! x in o by o's own __contains__; a class method in a try; isinstance of a caught error of one's own without an __init__, two classes -/
namespace My
open PySem PySem.Spec PyProof.Rows L2 Evl PySem.HandSPX
/-- x in o -/
def rInO (SF : Addr → Addr → Prop) (sp : Sp) (E : XK) (neg : Bool) : R2 := fun x y H Q => ∃ a C dx fs g, y = .ref a ∧ H a = some (.ins C dx fs) ∧ SF C g ∧ sp [.ref a, x] H (fun v H' => ∃ k, v = .bl k ∧ Q (.bl (if neg then !k else k)) H') E
theorem op_inO {X : Cx} {CX : CXT} {n : Nat} {sp : Sp} {E : XK} {SF : Addr → Addr → Prop} (hS : ∀ C g, SF C g → MethC X.K "__contains__" C g) (hF : ∀ C g, SF C g → FnR X.prog X.w X.K X.mg X.base CX n g (onC C sp)) (hr : Room n X.A) (hx : Passes CX X E) : OpR X (compareOp .In) (rInO SF sp E false) := by
  intro pins s σ H x y v u Q I rx ry h
  obtain ⟨a, C, dx, fs, g, rfl, ha, hg, q⟩ := h
  obtain rfl : u = Value.ref a := ry
  obtain ⟨od, J⟩ := ins_at I ha
  obtain ⟨m, hFr⟩ := I.fr
  show wpAny _ _ (do return Value.bool (← contains (.ref a) v)) _ _ _
  refine wpAny_bind (PySem.W.contains_K hFr I.ok.mod.kin J (hS C g hg).at_ (hS C g hg).fn (wpAny_mono (wpAny_call (run_fnR (us := [.ref a, v]) (vs := [.ref a, x]) (hF C g hg) hr hx I (.cons rfl (.cons rx .nil)) ⟨⟨_, _, _, _, rfl, ha⟩, q⟩)) (fun w s' z => ?_) fun _ _ x => x))
  obtain ⟨z', H', I', rz, k, ek, qz⟩ := z
  subst ek
  cases rz
  refine PySem.wpAny_truthy_bool (wpAny_pure (Q := EP X pins σ Q) ?_)
  exact ⟨.bl k, H', I', rfl, qz⟩
theorem op_notInO {X : Cx} {CX : CXT} {n : Nat} {sp : Sp} {E : XK} {SF : Addr → Addr → Prop} (hS : ∀ C g, SF C g → MethC X.K "__contains__" C g) (hF : ∀ C g, SF C g → FnR X.prog X.w X.K X.mg X.base CX n g (onC C sp)) (hr : Room n X.A) (hx : Passes CX X E) : OpR X (compareOp .NotIn) (rInO SF sp E true) := by
  intro pins s σ H x y v u Q I rx ry h
  obtain ⟨a, C, dx, fs, g, rfl, ha, hg, q⟩ := h
  obtain rfl : u = Value.ref a := ry
  obtain ⟨od, J⟩ := ins_at I ha
  obtain ⟨m, hFr⟩ := I.fr
  show wpAny _ _ (do return Value.bool (!(← contains (.ref a) v))) _ _ _
  refine wpAny_bind (PySem.W.contains_K hFr I.ok.mod.kin J (hS C g hg).at_ (hS C g hg).fn (wpAny_mono (wpAny_call (run_fnR (us := [.ref a, v]) (vs := [.ref a, x]) (hF C g hg) hr hx I (.cons rfl (.cons rx .nil)) ⟨⟨_, _, _, _, rfl, ha⟩, q⟩)) (fun w s' z => ?_) fun _ _ x => x))
  obtain ⟨z', H', I', rz, k, ek, qz⟩ := z
  subst ek
  cases rz
  refine PySem.wpAny_truthy_bool (wpAny_pure (Q := EP X pins σ Q) ?_)
  exact ⟨.bl (!k), H', I', rfl, qz⟩
section
variable {X : Cx} {C : Addr} {x : Str}
/-- isinstance(e, (c1, c2)) of the caught error, which has no dict yet -/
def rIsR02 (K : PySem.W.Frag) (C a : Addr) (cls : Value) (d : Option Addr) : List V → Hp → VK → Prop := fun xs H Q => ∃ (tp c1 c2 : Addr) (b : Bool),
  xs = [.ref a, .ref tp] ∧ cls = .ref C ∧ d = none ∧ H tp = some (.tup [.ref c1, .ref c2]) ∧ PySem.W.kitAny K (.ref C) [.ref c1, .ref c2] = some b ∧ Q (.bl b) H
theorem call_isR02 {a : Addr} {oe : Obj} {cls : Value} {d : Option Addr} {pn : List (Addr × Obj)} (T : ErrR0 X.K X.mg x C) (hz : Zc cls d oe) (hf : ∃ vs, oe.data = .fields vs) : CallR (X.suite a ((a, oe) :: pn)) (.builtin "isinstance") (rIsR02 X.K C a cls d) := by
  intro pins s σ H xs us Q I r h
  obtain ⟨tp, c1, c2, b, rfl, ec, ed, hT, e, q⟩ := h
  subst ec ed
  obtain ⟨u1, u2, rfl, r1, r2⟩ := vals2 r
  obtain rfl : u1 = Value.ref a := r1
  obtain rfl : u2 = Value.ref tp := r2
  obtain ⟨hget, _⟩ := I.pin (a, oe) (List.mem_append.mpr (.inl List.mem_cons_self))
  obtain ⟨vs, hv⟩ := hf
  have J : PySem.W.InstAt s.heap a oe C none := ⟨hget, hz.1, by unfold PySem.W.notCls; rw [hv] <;> rfl, by rw [hz.2]; trivial⟩
  obtain ⟨_, its, rv, o, h1, h2, n, h3⟩ := (show ObjOk X.prog X.w H s.heap tp (.tup [.ref c1, .ref c2]) from I.hok tp _ hT)
  obtain ⟨oc, od', dt, sl⟩ := o
  simp only at h2 h3
  subst h2 h3
  obtain ⟨w1, w2, rfl, q1, q2⟩ := vals2 rv
  obtain rfl : w1 = Value.ref c1 := q1
  obtain rfl : w2 = Value.ref c2 := q2
  exact PySem.W.kia_tup (PySem.W.kitx_exc T.E.k.isC T.E.k.ga T.E.k.gg T.E.k.exC T.E.k.ha T.E.k.hn T.E.k.ht T.E.k.hm) I.kIn J h1 e (fun z => nomatch z) fun tk => ⟨.bl b, H, I.tok tk, rfl, q⟩
end
/-! C.m(e, ..) of a class method, what it raises told by the slots -/
def tCMethS (C : Addr) (sp : Sp) (E : L2.St → XK) (ta : TE) (t : TA) : TE := fun σ H Q => ta σ H fun x H1 => x = .ref C ∧ t σ H1 fun vs H2 => sp (.ref C :: vs) H2 Q (E σ)
section
variable {X : Cx} {CX : CXT} {k : Nat} {C p g : Addr} {mc : Value} {sp : Sp} {E : L2.St → XK} {o e : Expr} {es : List Expr} {m : Str} {pos apos : Pos} {ta : TE} {t : TA} {pl : Sem Bool}
theorem pe_cmethS (he : PE X o ta) (r : ClX.CRead X.K C mc) (c : ClX.CMet X.K C mc m p g) (F : FnR X.prog X.w X.K X.mg X.base CX k g sp) (hr : Room k X.A) (hx : ∀ σ, PassesAt CX X σ (E σ)) (ha : PA X (e :: es) t)
    (hst : starEach (e :: es) X.env = (false, eval e X.env) :: starEach es X.env := by rfl) (hpl : (backTo pos (starEach es X.env)).any (·.1) = false := by rfl)
    (ht : eval (.Call (.Attribute o m apos) (e :: es) [] pos) X.env = (do
      let ov ← eval o X.env
      standAt apos.atName
      let (f, first) ← holding [ov] (getMethod ov m pl)
      callWith pos f first (backTo pos (starEach (e :: es) X.env)) (backToKw pos (keywordEach [] X.env))) := by rfl) :
    PE X (.Call (.Attribute o m apos) (e :: es) [] pos) (tCMethS C sp E ta t) := by
  refine ⟨fun pins s σ H Q I h => ?_⟩
  refine PySem.W.methodCall_KW (pl := pl) (thn (he.run pins s σ H _ I h) fun u s1 ⟨x, H1, I1, rx, ex, q⟩ => ?_) ht
  subst ex
  obtain rfl : u = Value.ref C := rx
  refine ClX.getmethcm_ok I1 r c fun s2 I2 => ?_
  refine ClX.callwith_cm I2 ?_ c.fi (thn (ha.run pos _ s2 σ H1 _ I2 q) fun us s3 ⟨vs, H2, I3, r3, q3⟩ => ⟨⟨ClX.pin_at I3, I3.kIn⟩, ?_⟩) hst hpl
  · obtain ⟨mA, hFr⟩ := I1.fr
    cases hb : X.base.get? s1.heap.objs.size with
    | none => rfl
    | some o =>
      have := hFr.keep _ _ hb
      exact absurd this (by simp [Heap.get?])
  · refine wpAny_mono (wpAny_call (PySem.W.method_call (ClX.pin_at I3) (run_atS (us := .ref C :: us) (ws := .ref C :: vs) F hr I3.env0 (hx σ) I3 (.cons rfl r3) q3))) (fun v s4 ⟨z, H4, I4, rz, qz⟩ => ⟨z, H4, ClX.unpin I4, rz, qz⟩) fun _ _ y => y
end
/-- a dict comprehension over a list -/
theorem dc_list {K : PySem.W.Frag} {a : Addr} {xs : List V} {g : TG} {tt : TT} {tk tv : TE} {vs : List Nat} {σ : L2.St} {H1 : Hp} {D : Addr} {Qd : Hp → Prop} (Pv : Nat → Hp → Prop) (h0 : Pv 0 (upd H1 D (.dK []))) (hl : ∀ i H, i ≤ xs.length → Pv i H → SqL K H a xs)
    (hs : ∀ i x H, xs[i]? = some x → Pv i H → g x (wipe σ vs) H fun σ2 H2 => wipe σ2 vs = wipe σ vs ∧ tt σ2 H2 fun b H3 => if b = true then tk σ2 H3 fun y H4 => tv σ2 H4 fun z H5 => ∃ kvs k, y = kV k ∧ H5 D = some (.dK kvs) ∧ kvs.length < sizeLine ∧ Pv (i + 1) (upd H5 D (.dK (putK kvs k z))) else Pv (i + 1) H3)
    (hd : ∀ H, Pv xs.length H → Qd H) : ∃ W : Nat → Nat → Hp → Prop, (∃ m, W 0 m (upd H1 D (.dK []))) ∧ ∀ i m H, W i m H → ((Itl K a).stop i H ∧ Qd H) ∨ ((Itl K a).go i H ∧ ∃ Nx : Hp → Prop, (∀ H', Nx H' → ∃ m', m' < m ∧ W (i + 1) m' H') ∧ ∀ x H', (Itl K a).yld i H x H' →
      g x (wipe σ vs) H' fun σ2 H2 => wipe σ2 vs = wipe σ vs ∧ tt σ2 H2 fun b H3 => if b = true then tk σ2 H3 fun y H4 => tv σ2 H4 fun z H5 => ∃ kvs k, y = kV k ∧ H5 D = some (.dK kvs) ∧ kvs.length < sizeLine ∧ Nx (upd H5 D (.dK (putK kvs k z))) else Nx H3) := by
  refine ⟨fun i m H => i ≤ xs.length ∧ m = xs.length - i ∧ Pv i H, ⟨_, Nat.zero_le _, rfl, h0⟩, fun i m H ⟨hi, hm, hp⟩ => ?_⟩
  by_cases hx : i < xs.length
  · refine .inr ⟨⟨xs, _, hl i H hi hp, List.getElem?_eq_getElem hx⟩, Pv (i + 1), fun H' h => ⟨xs.length - (i + 1), by omega, by omega, rfl, h⟩, fun x H' hy => ?_⟩
    obtain ⟨rfl, hy⟩ := hy
    exact hs i x _ (hy xs (hl i _ hi hp)) hp
  · have e : i = xs.length := by omega
    subst e
    exact .inl ⟨⟨xs, hl _ _ hi hp, Nat.le_refl _⟩, hd _ hp⟩
end My
set_option Elab.async false
set_option linter.all false
set_option maxRecDepth 100000
set_option maxHeartbeats 4000000
set_option exponentiation.threshold 5000
namespace My
open PySem PySem.Spec PyProof.Rows L2 Evl
local macro_rules | `(tactic| walk_at "st") => `(tactic| simp only [L2.start, List.map_cons, List.map_nil, List.length_cons, List.length_nil, Nat.reduceAdd, Nat.reduceSub, List.replicate_succ, List.replicate_zero, List.cons_append, List.nil_append, cxOf, List.append_nil])
local macro_rules | `(tactic| walk_at "vc") => `(tactic| try simp only [tSeq, tAsg, tOp, tUn, tVar, tC, tNil, tCons, gName, rI, rI0, rU, tRet, tIfS, tNot, tAnd, tOr, tB, tTest, tCB, tCall, tAndV, tOrV, tNotV, tNext, tNever, tIf, tChain, tYes, tPart, tNoPart, tPar, tDrop, q_isi, q_vn, q_vb, q_vi, q_vs, kb1, kb2, kb3, kb4, kb5, kb6, kb7, kb8, q_int1, q_int2, q_min, q_max, q_repr, tLst, tTup, rEq, rNe, q_sii, q_sss, q_sbb, q_snn, q_sns, q_ssn, q_ix, q_sl, tSl, tBM, tBM0, q_app, q_pop, gSub, rSetL, L2.wipe, eq_self, decide_true, decide_false, tRevL,
  List.getElem?_cons_succ, List.getElem?_cons_zero, List.set_cons_succ, List.set_cons_zero, Option.some.injEq, exists_eq_left', exists_eq_left, V.int.injEq, V.bl.injEq, V.ref.injEq, V.str.injEq, List.cons.injEq, and_true, true_and, List.append_nil, List.nil_append, List.cons_append, exists_and_left, and_assoc, if_true, if_false, Bool.not_true, Bool.not_false, Bool.false_eq_true, Bool.true_eq_false, reduceIte, tRevL, tPar3, tRevT, tUnl, tCKw, forall_const, Bool.not_eq_true', decide_eq_true_eq, decide_eq_false_iff_not])
section
variable {P : Program} {w : World} {K : PySem.W.Frag} {mg : Str → Option Value} {base : Heap}
variable {a_is_integer a_is_number a_is_base a_is_name a_are_rows a_needed a_fits a_is_of a_inner a_flat a_names_in a_bare a_named a_number_of a_joined a_result a_holding a_written a_part a_of_one a_of_two a_power a_run a_came_to a_holds a_law_deal a_law_draw a_law_pick a_law_words a_law_ask_of a_law_row_of a_law_told a_law a_Stopped_init a_Put_init a_If_init a_Times_init a_Ask_init a_Not_init a_Program_init a_Program_call a_Walk_init a_Walk_go a_Walk_do a_Walk_put a_Walk_decide a_Walk_choose a_InvalidBase a_Stopped a_FigureError a_InvalidNumber a_Put a_If a_Times a_Stop a_Ask a_Not a_Row a_Test a_Program a_Walk a_DEEDS a_SIGNS a_WORDS a_If_init_d0 a_Program_init_d0 : Addr} {d_is_integer d_is_number d_is_base d_is_name d_are_rows d_needed d_fits d_is_of d_inner d_flat d_names_in d_bare d_named d_number_of d_joined d_result d_holding d_written d_part d_of_one d_of_two d_power d_run d_came_to d_holds d_law_deal d_law_draw d_law_pick d_law_words d_law_ask_of d_law_row_of d_law_told d_law d_Stopped_init d_Put_init d_If_init d_Times_init d_Ask_init d_Not_init d_Program_init d_Program_call d_Walk_init d_Walk_go d_Walk_do d_Walk_put d_Walk_decide d_Walk_choose : FuncData}
def TestM.ok : TestM → Prop
  | .ask x ns => (x, ns.length) ∈ wordTab ∧ ∀ n ∈ ns, nameOk n
  | .not t => t.ok
mutual
def RowM.ok : RowM → Prop
  | .stop => True
  | .put n d g => nameOk n ∧ (∃ ks, kindsFor d g.length = some ks ∧ All2T argOk ks g) ∧ g.length ≤ 1000
  | .times c rs => c ≤ 1000 ∧ RowM.oks rs ∧ rs.length ≤ 1000
  | .ifr t rs os => t.ok ∧ t.dep < 9 ∧ RowM.oks rs ∧ rs.length ≤ 1000 ∧ RowM.oks os ∧ os.length ≤ 1000
def RowM.oks : List RowM → Prop
  | [] => True
  | r :: rs => r.ok ∧ RowM.oks rs
end
def RowM.ci : RowM → Nat
  | .put .. => 0
  | .ifr .. => 1
  | .times .. => 2
  | .stop => 3
theorem RowO.ci_of {K : PySem.W.Frag} {A : ClsA} {row test : Addr} {H : Hp} {a C dx : Addr} {fs : List (Str × V)} {r : RowM} (k : kitO K A row test = true) (hr : RowO K A H r (.ref a)) (h : H a = some (.ins C dx fs)) : r.ci < 4 ∧ C = (clsL A row test).getD r.ci 0 := by
  cases r with
  | put n d g => unfold RowO at hr; obtain ⟨b, dx2, q, e, h2, h3⟩ := hr; cases e; rw [h] at h2; exact ⟨by simp [RowM.ci], (HO.ins.inj (Option.some.inj h2)).1⟩
  | stop => unfold RowO at hr; obtain ⟨b, dx2, e, h2⟩ := hr; cases e; rw [h] at h2; exact ⟨by simp [RowM.ci], (HO.ins.inj (Option.some.inj h2)).1⟩
  | times c rs => unfold RowO at hr; obtain ⟨b, dx2, q, vs, e, h2, _⟩ := hr; cases e; rw [h] at h2; exact ⟨by simp [RowM.ci], (HO.ins.inj (Option.some.inj h2)).1⟩
  | ifr t rs os => unfold RowO at hr; obtain ⟨b, dx2, u, q, x, vs, ws, e, h2, _⟩ := hr; cases e; rw [h] at h2; exact ⟨by simp [RowM.ci], (HO.ins.inj (Option.some.inj h2)).1⟩
def argSm : V → Prop
  | .str x => x.length ≤ 4
  | .int i => 0 ≤ i ∧ i < 2 ^ 100
  | _ => False
def TestM.sm : TestM → Prop
  | .ask w ns => w.length ≤ 8 ∧ ∀ n ∈ ns, n.length ≤ 4
  | .not t => t.sm
mutual
def RowM.sm : RowM → Prop
  | .stop => True
  | .put n d g => n.length ≤ 4 ∧ d.length ≤ 8 ∧ g.length ≤ 6 ∧ ∀ v ∈ g, argSm v
  | .times _ rs => RowM.sms rs
  | .ifr t rs os => t.sm ∧ RowM.sms rs ∧ RowM.sms os
def RowM.sms : List RowM → Prop
  | [] => True
  | r :: rs => r.sm ∧ RowM.sms rs
end
/-! ### how many rows -/
mutual
def RowM.cnt : RowM → Nat
  | .stop | .put .. => 1
  | .times _ rs => 1 + RowM.cnts rs
  | .ifr _ rs os => 1 + (RowM.cnts rs + RowM.cnts os)
def RowM.cnts : List RowM → Nat
  | [] => 0
  | r :: rs => r.cnt + RowM.cnts rs
end
theorem cnts_sum : ∀ rs : List RowM, ((RowM.cnts rs : Nat) : Int) = (rs.map fun r => (r.cnt : Int)).sum
  | [] => by rw [RowM.cnts]; rfl
  | r :: rs => by rw [RowM.cnts, List.map_cons, List.sum_cons, ← cnts_sum rs]; omega
theorem cnts_app : ∀ as bs : List RowM, RowM.cnts (as ++ bs) = RowM.cnts as + RowM.cnts bs
  | [], bs => by rw [List.nil_append, RowM.cnts]; omega
  | a :: as, bs => by rw [List.cons_append, RowM.cnts, RowM.cnts, cnts_app as bs]; omega
theorem cnt_pos (r : RowM) : 1 ≤ r.cnt := by cases r <;> rw [RowM.cnt] <;> omega
theorem cnts_len : ∀ rs : List RowM, rs.length ≤ RowM.cnts rs
  | [] => Nat.zero_le _
  | r :: rs => by have := cnt_pos r; have := cnts_len rs; rw [RowM.cnts, List.length_cons]; omega
theorem RowTs.len {K : PySem.W.Frag} {H : Hp} : ∀ {rs : List RowM} {vs : List V}, RowTs K H rs vs → vs.length = rs.length
  | [], _, h => by rw [RowTs] at h; rw [h]; rfl
  | r :: rs, _, h => by
    obtain ⟨v, ws, rfl, _, h3⟩ := h
    rw [List.length_cons, List.length_cons, RowTs.len h3]
theorem RowTs.at_ {K : PySem.W.Frag} {H : Hp} : ∀ {rs : List RowM} {vs : List V} {i : Nat} {v : V}, RowTs K H rs vs → vs[i]? = some v → ∃ r, rs[i]? = some r ∧ RowT K H r v
  | [], _, _, _, h, e => by rw [RowTs] at h; rw [h] at e; simp at e
  | r :: rs, _, 0, _, h, e => by
    obtain ⟨v, ws, rfl, h2, h3⟩ := h
    cases e
    exact ⟨r, rfl, h2⟩
  | r :: rs, _, i + 1, _, h, e => by
    obtain ⟨v, ws, rfl, h2, h3⟩ := h
    rw [List.getElem?_cons_succ] at e
    obtain ⟨r', e', h'⟩ := RowTs.at_ h3 e
    exact ⟨r', by rw [List.getElem?_cons_succ]; exact e', h'⟩
theorem RowTs.app {K : PySem.W.Frag} {H : Hp} : ∀ {rs os : List RowM} {vs ws : List V}, RowTs K H rs vs → RowTs K H os ws → RowTs K H (rs ++ os) (vs ++ ws)
  | [], _, _, _, h, k => by rw [RowTs] at h; rw [h]; exact k
  | r :: rs, os, _, ws, h, k => by
    obtain ⟨v, us, rfl, h2, h3⟩ := h
    exact ⟨v, us ++ ws, rfl, h2, RowTs.app h3 k⟩
theorem RowTs.one {K : PySem.W.Frag} {H : Hp} {r : RowM} {v : V} (h : RowT K H r v) : RowTs K H [r] [v] := ⟨v, [], rfl, h, by rw [RowTs]⟩
theorem deps_app : ∀ as bs : List RowM, RowM.deps (as ++ bs) = max (RowM.deps as) (RowM.deps bs)
  | [], bs => by rw [List.nil_append, RowM.deps]; omega
  | a :: as, bs => by rw [List.cons_append, RowM.deps, RowM.deps, deps_app as bs]; omega
theorem deps_at : ∀ {rs : List RowM} {i : Nat} {r : RowM}, rs[i]? = some r → r.dep ≤ RowM.deps rs
  | [], _, _, e => by simp at e
  | r :: rs, 0, _, e => by cases e; rw [RowM.deps]; omega
  | r :: rs, i + 1, x, e => by rw [List.getElem?_cons_succ] at e; have := deps_at e; rw [RowM.deps]; omega
theorem oks_app : ∀ {as bs : List RowM}, RowM.oks as → RowM.oks bs → RowM.oks (as ++ bs)
  | [], _, _, h => h
  | a :: as, bs, h, k => by rw [RowM.oks] at h; rw [List.cons_append, RowM.oks]; exact ⟨h.1, oks_app h.2 k⟩
theorem sms_app : ∀ {as bs : List RowM}, RowM.sms as → RowM.sms bs → RowM.sms (as ++ bs)
  | [], _, _, h => h
  | a :: as, bs, h, k => by rw [RowM.sms] at h; rw [List.cons_append, RowM.sms]; exact ⟨h.1, sms_app h.2 k⟩
theorem oks_at2 : ∀ {rs : List RowM} {i : Nat} {r : RowM}, RowM.oks rs → rs[i]? = some r → r.ok
  | [], _, _, _, e => by simp at e
  | r :: rs, 0, _, h, e => by cases e; rw [RowM.oks] at h; exact h.1
  | r :: rs, i + 1, x, h, e => by rw [List.getElem?_cons_succ] at e; rw [RowM.oks] at h; exact oks_at2 h.2 e
theorem Kp.updL {H : Hp} {a : Addr} {xs ys : List V} (h : H a = some (.lst xs)) : Kp H (upd H a (.lst ys)) := fun b o no hb => by
  have e : b ≠ a := fun e => by rw [e, h] at hb; cases hb; exact no _ rfl
  rw [upd_ne e]; exact hb
theorem TestT.ex {K : PySem.W.Frag} {H H' : Hp} {t : TestM} {v : V} (e : Ex H H') (h : TestT K H t v) : TestT K H' t v := h.kp (Kp.of_ex e)
theorem RowT.ex {K : PySem.W.Frag} {H H' : Hp} {r : RowM} {v : V} (e : Ex H H') (h : RowT K H r v) : RowT K H' r v := h.kp (Kp.of_ex e)
theorem RowTs.ex {K : PySem.W.Frag} {H H' : Hp} {r : List RowM} {v : List V} (e : Ex H H') (h : RowTs K H r v) : RowTs K H' r v := h.kp (Kp.of_ex e)
theorem sms_at : ∀ {rs : List RowM} {i : Nat} {r : RowM}, RowM.sms rs → rs[i]? = some r → r.sm
  | [], _, _, _, e => by simp at e
  | r :: rs, 0, _, h, e => by cases e; rw [RowM.sms] at h; exact h.1
  | r :: rs, i + 1, x, h, e => by rw [List.getElem?_cons_succ] at e; rw [RowM.sms] at h; exact sms_at h.2 e
theorem e_none {H H' : Hp} {a : Addr} (e : Ex H H') (h : H' a = none) : H a = none := by
  cases h1 : H a with
  | none => rfl
  | some u => rw [e _ _ h1] at h; cases h
theorem isTy (T : Txt w K mg a_is_integer a_is_number a_is_base a_is_name a_are_rows a_needed a_fits a_is_of a_inner a_flat a_names_in a_bare a_named a_number_of a_joined a_result a_holding a_written a_part a_of_one a_of_two a_power a_run a_came_to a_holds a_law_deal a_law_draw a_law_pick a_law_words a_law_ask_of a_law_row_of a_law_told a_law a_Stopped_init a_Put_init a_If_init a_Times_init a_Ask_init a_Not_init a_Program_init a_Program_call a_Walk_init a_Walk_go a_Walk_do a_Walk_put a_Walk_decide a_Walk_choose a_InvalidBase a_Stopped a_FigureError a_InvalidNumber a_Put a_If a_Times a_Stop a_Ask a_Not a_Row a_Test a_Program a_Walk a_DEEDS a_SIGNS a_WORDS a_If_init_d0 a_Program_init_d0 d_is_integer d_is_number d_is_base d_is_name d_are_rows d_needed d_fits d_is_of d_inner d_flat d_names_in d_bare d_named d_number_of d_joined d_result d_holding d_written d_part d_of_one d_of_two d_power d_run d_came_to d_holds d_law_deal d_law_draw d_law_pick d_law_words d_law_ask_of d_law_row_of d_law_told d_law d_Stopped_init d_Put_init d_If_init d_Times_init d_Ask_init d_Not_init d_Program_init d_Program_call d_Walk_init d_Walk_go d_Walk_do d_Walk_put d_Walk_decide d_Walk_choose) {H : Hp} {a C dx : Addr} {fs : List (Str × V)} (h : H a = some (.ins C dx fs)) (hC : C = a_Put ∨ C = a_If ∨ C = a_Times ∨ C = a_Stop) : TyX K H (.ref a) (.ref C) := by
  rcases hC with rfl | rfl | rfl | rfl
  · exact T.oc_Put.ty h
  · exact T.oc_If.ty h
  · exact T.oc_Times.ty h
  · exact T.oc_Stop.ty h
theorem un1 {n : Nat} (h : n + 64 < cLine) : n + 1 < cLine := by omega
end
end My
set_option Elab.async false
set_option linter.all false
set_option maxRecDepth 100000
set_option maxHeartbeats 4000000
set_option exponentiation.threshold 5000
namespace My
open PySem PySem.Spec PyProof.Rows L2 Evl
local macro_rules | `(tactic| walk_at "st") => `(tactic| simp only [L2.start, List.map_cons, List.map_nil, List.length_cons, List.length_nil, Nat.reduceAdd, Nat.reduceSub, List.replicate_succ, List.replicate_zero, List.cons_append, List.nil_append, cxOf, List.append_nil])
local macro_rules | `(tactic| walk_at "vc") => `(tactic| try simp only [tSeq, tAsg, tOp, tUn, tVar, tC, tNil, tCons, gName, rI, rI0, rU, tRet, tIfS, tNot, tAnd, tOr, tB, tTest, tCB, tCall, tAndV, tOrV, tNotV, tNext, tNever, tIf, tChain, tYes, tPart, tNoPart, tPar, tDrop, q_isi, q_vn, q_vb, q_vi, q_vs, kb1, kb2, kb3, kb4, kb5, kb6, kb7, kb8, q_int1, q_int2, q_min, q_max, q_repr, tLst, tTup, rEq, rNe, q_sii, q_sss, q_sbb, q_snn, q_sns, q_ssn, q_ix, q_sl, tSl, tBM, tBM0, q_app, q_pop, gSub, rSetL, L2.wipe, eq_self, decide_true, decide_false, tRevL,
  List.getElem?_cons_succ, List.getElem?_cons_zero, List.set_cons_succ, List.set_cons_zero, Option.some.injEq, exists_eq_left', exists_eq_left, V.int.injEq, V.bl.injEq, V.ref.injEq, V.str.injEq, List.cons.injEq, and_true, true_and, List.append_nil, List.nil_append, List.cons_append, exists_and_left, and_assoc, if_true, if_false, Bool.not_true, Bool.not_false, Bool.false_eq_true, Bool.true_eq_false, reduceIte, tRevL, tPar3, tRevT, tUnl, tCKw, forall_const, Bool.not_eq_true', decide_eq_true_eq, decide_eq_false_iff_not])
section
variable {P : Program} {w : World} {K : PySem.W.Frag} {mg : Str → Option Value} {base : Heap}
variable {a_is_integer a_is_number a_is_base a_is_name a_are_rows a_needed a_fits a_is_of a_inner a_flat a_names_in a_bare a_named a_number_of a_joined a_result a_holding a_written a_part a_of_one a_of_two a_power a_run a_came_to a_holds a_law_deal a_law_draw a_law_pick a_law_words a_law_ask_of a_law_row_of a_law_told a_law a_Stopped_init a_Put_init a_If_init a_Times_init a_Ask_init a_Not_init a_Program_init a_Program_call a_Walk_init a_Walk_go a_Walk_do a_Walk_put a_Walk_decide a_Walk_choose a_InvalidBase a_Stopped a_FigureError a_InvalidNumber a_Put a_If a_Times a_Stop a_Ask a_Not a_Row a_Test a_Program a_Walk a_DEEDS a_SIGNS a_WORDS a_If_init_d0 a_Program_init_d0 : Addr} {d_is_integer d_is_number d_is_base d_is_name d_are_rows d_needed d_fits d_is_of d_inner d_flat d_names_in d_bare d_named d_number_of d_joined d_result d_holding d_written d_part d_of_one d_of_two d_power d_run d_came_to d_holds d_law_deal d_law_draw d_law_pick d_law_words d_law_ask_of d_law_row_of d_law_told d_law d_Stopped_init d_Put_init d_If_init d_Times_init d_Ask_init d_Not_init d_Program_init d_Program_call d_Walk_init d_Walk_go d_Walk_do d_Walk_put d_Walk_decide d_Walk_choose : FuncData}
/-! ### the law's own: names -/
def keptWords : List Str := ["if", "end", "else", "not", "base", "sum", "last", "many", "root", "let", "same", "stop"]
def wOk (x : Str) : Prop := x.length ≤ 4 ∧ nmOk x = true
theorem kept_ok : ∀ x ∈ keptWords, wOk x := by
  intro x hx
  simp only [keptWords, List.mem_cons, List.not_mem_nil, or_false] at hx
  rcases hx with rfl | rfl | rfl | rfl | rfl | rfl | rfl | rfl | rfl | rfl | rfl | rfl <;> exact ⟨by decide +kernel, by decide +kernel⟩
def I_wd (d L p p1 : Addr) (n : Int) (H : Hp) : Nat → L2.St → Hp → Prop := fun k σ H' => ∃ x5 x6 x7 x8, σ = [some (.ref d), some (.int n), some (.str "abcdefghijklmnopqrstuvwxyz"), some (.ref p), some (.ref p1), x5, x6, x7, x8] ∧ ∃ ns : List Str, H' p1 = some (.lst (ns.map V.str)) ∧ ns.length = k ∧ ((∀ x ∈ ns, wOk x) ∧ ns.Nodup) ∧ H' p = some (.lst (keptWords.map V.str)) ∧ Mv3 d L H H'
def C_wd (d L D0 : Addr) (H0 : Hp) : Nat → Hp → Prop := fun i H' => ∃ xs : List Str, H' D0 = some (.lst (xs.map V.str)) ∧ xs.length = i ∧ (∀ x ∈ xs, ∃ c, x = ⟨#[c]⟩ ∧ c ∈ (Str.ofString "abcdefghijklmnopqrstuvwxyz").cps.toList) ∧ Mv3 d L H0 H'
def C_fl (D0 : Addr) (cs ns : List Str) (H0 : Hp) : Nat → Hp → Prop := fun i H' => H' D0 = some (.lst (((cs.take i).filter fun x => !(ns.contains x)).map V.str)) ∧ Ex H0 H'
def sp_law_words : Sp
  | [.ref d, .int n], H, Q, _ => ∃ L, Deal3 d L H ∧ 0 ≤ n ∧ n ≤ 4 ∧ ∀ (p : Addr) (ns : List Str) (H' : Hp), Mv3 d L H H' → H p = none → p ≠ d → p ≠ L → H' p = some (.lst (ns.map V.str)) → (ns.length : Int) = n → (∀ x ∈ ns, x.length ≤ 4 ∧ nmOk x = true) → ns.Nodup → Q (.ref p) H'
  | _, _, _, _ => False
theorem ok_law_words (T : Txt w K mg a_is_integer a_is_number a_is_base a_is_name a_are_rows a_needed a_fits a_is_of a_inner a_flat a_names_in a_bare a_named a_number_of a_joined a_result a_holding a_written a_part a_of_one a_of_two a_power a_run a_came_to a_holds a_law_deal a_law_draw a_law_pick a_law_words a_law_ask_of a_law_row_of a_law_told a_law a_Stopped_init a_Put_init a_If_init a_Times_init a_Ask_init a_Not_init a_Program_init a_Program_call a_Walk_init a_Walk_go a_Walk_do a_Walk_put a_Walk_decide a_Walk_choose a_InvalidBase a_Stopped a_FigureError a_InvalidNumber a_Put a_If a_Times a_Stop a_Ask a_Not a_Row a_Test a_Program a_Walk a_DEEDS a_SIGNS a_WORDS a_If_init_d0 a_Program_init_d0 d_is_integer d_is_number d_is_base d_is_name d_are_rows d_needed d_fits d_is_of d_inner d_flat d_names_in d_bare d_named d_number_of d_joined d_result d_holding d_written d_part d_of_one d_of_two d_power d_run d_came_to d_holds d_law_deal d_law_draw d_law_pick d_law_words d_law_ask_of d_law_row_of d_law_told d_law d_Stopped_init d_Put_init d_If_init d_Times_init d_Ask_init d_Not_init d_Program_init d_Program_call d_Walk_init d_Walk_go d_Walk_do d_Walk_put d_Walk_decide d_Walk_choose) : FnOk P w K mg base CX0 3 a_law_words d_law_words ["_law_deal_here", "_law_amount"] sp_law_words := by
  have G_law_draw := ok_law_draw (P := P) (w := w) (base := base) T
  have G_law_pick := ok_law_pick (P := P) (w := w) (base := base) T
  refine T.F_law_words.ok sc_law_words (fun vs H Q E h => ?_) (fun cdv A outer s H vs Q E hr h => ?_)
  · unfold sp_law_words at h; split at h; rfl; exact h.elim
  unfold sp_law_words at h; split at h
  case h_2 => exact h.elim
  rename_i d n
  obtain ⟨L, D, n0, n4, q⟩ := h
  refine ⟨_, (pss_cons (ps_set (i := 2) sc_law_words.nd rfl (by first | exact .inl rfl | exact .inr rfl) pe_str)
      (pss_cons (ps_set (i := 3) sc_law_words.nd rfl (by first | exact .inl rfl | exact .inr rfl) (pe_lst (pa_cons pe_str (pa_cons pe_str (pa_cons pe_str (pa_cons pe_str (pa_cons pe_str (pa_cons pe_str (pa_cons pe_str (pa_cons pe_str (pa_cons pe_str (pa_cons pe_str (pa_cons pe_str (pa_cons pe_str pa_nil))))))))))))))
      (pss_cons (ps_set (i := 4) sc_law_words.nd rfl (by first | exact .inl rfl | exact .inr rfl) (pe_lst pa_nil))
      (Evl.pss_cut (ps_for PassesOwn.never rfl (pi_range1 (by rfl) T.z_range (pa_cons (pv 1) pa_nil)) (pg_name (i := 5) sc_law_words.nd rfl (by first | exact .inl rfl | exact .inr rfl))
      (pss_cons (ps_set (i := 6) sc_law_words.nd rfl (by first | exact .inl rfl | exact .inr rfl) (pe_bm PySem.F.plainAttrs_str PySem.F.slot_str_join PySem.F.type_str_join mt_join pe_str (pa_cons (pe_lc (own := [("_law_at", 7)]) (g := gName 7) (by rfl) sc_law_words.nd (pi_range1 (by rfl) T.z_range (pa_cons (pe_op op_add pe_int (pe_call G_law_draw (hr.mono (by decide)) (by rfl) T.g_law_draw T.F_law_draw.kp T.b_law_draw .nil pass0 (pa_cons (pv 0) (pa_cons pe_int pa_nil)))) pa_nil)) (blkOk_by (own := [("_law_at", 7)]) (N := N_law_words) (sc := defScope s_law_words) (by decide +kernel)) (fun _ _ _ _ _ => (pg_name (i := 7) sc_law_words.nd rfl (by first | exact .inl rfl | exact .inr rfl))) (fun _ _ _ _ _ => pts_nil) (fun _ _ _ _ _ => (pe_call G_law_pick (hr.mono (by decide)) (by rfl) T.g_law_pick T.F_law_pick.kp T.b_law_pick .nil pass0 (pa_cons (pv 0) (pa_cons (pv 2) pa_nil))))) pa_nil)))
      (Evl.pss_cut (ps_if (pt_cmpR op_eq (pe_call G_law_draw (hr.mono (by decide)) (by rfl) T.g_law_draw T.F_law_draw.kp T.b_law_draw .nil pass0 (pa_cons (pv 0) (pa_cons pe_int pa_nil))) pe_int (nomark _))
      (pss_one (ps_set (i := 6) sc_law_words.nd rfl (by first | exact .inl rfl | exact .inr rfl) (pe_call G_law_pick (hr.mono (by decide)) (by rfl) T.g_law_pick T.F_law_pick.kp T.b_law_pick .nil pass0 (pa_cons (pv 0) (pa_cons (pv 3) pa_nil)))))
      pss_nil)
      (pss_one (ps_expr (pe_bm PySem.F.plainAttrs_list PySem.F.slot_list_append PySem.F.type_list_append mt_appendM (pv 4) (pa_cons (pe_ix ix_listM (pe_lc (own := [("_law_one", 8)]) (g := gName 8) (by rfl) sc_law_words.nd (pi_list (pe_lst (pa_cons (pv 6) (pa_cons pe_str (pa_cons pe_str (pa_cons pe_str (pa_cons pe_str pa_nil))))))) (blkOk_by (own := [("_law_one", 8)]) (N := N_law_words) (sc := defScope s_law_words) (by decide +kernel)) (fun _ _ _ _ _ => (pg_name (i := 8) sc_law_words.nd rfl (by first | exact .inl rfl | exact .inr rfl))) (fun _ _ _ _ _ => (pts_one (pt_cmpR (op_notInK (K := K)) (pv 8) (pv 4) (by rfl)))) (fun _ _ _ _ _ => (pv 8))) pe_int (fun _ _ => rfl)) pa_nil)))))))
      (pss_one (ps_ret (pv 4))))))), ?_⟩
  walk_at "st"
  walk_at "vc"
  refine ⟨sz_le (by simp), fun p hp => ⟨sz_le (by simp), fun p1 hp1 => ?_⟩⟩
  have op := D.off hp
  have M1 := (Mv3.of_ex D (Ex.new hp (o := .lst (keptWords.map V.str)))).new hp1 (o := .lst [])
  have wp : upd (upd H p (.lst (keptWords.map V.str))) p1 (.lst []) p = some (.lst (keptWords.map V.str)) := Ex.new hp1 _ _ upd_same
  have wp1 : upd (upd H p (.lst (keptWords.map V.str))) p1 (.lst []) p1 = some (.lst []) := upd_same
  have hp1H : H p1 = none := by
    by_cases e : p1 = p
    · rw [e]; exact hp
    · rw [upd_ne e] at hp1; exact hp1
  have op1 := D.off hp1H
  have npp : p ≠ p1 := fun e => by rw [← e, upd_same] at hp1; cases hp1
  refine ⟨fun σ H' => I_wd d L p p1 n H n.toNat σ H', ?_, fun σ H' hm => ?_⟩
  · refine ⟨_, rfl, _, rfl, by omega, by omega, for_range (lo := 0) (n := n.toNat) (I_wd d L p p1 n H) ⟨_, _, _, _, rfl, [], wp1, rfl, by simp, wp, M1⟩ (fun k σ H2 hk hw => ?_) (fun σ H2 hw => hw)⟩
    obtain ⟨x5, x6, x7, x8, rfl, ns, h1, h2, h3, h4, M⟩ := hw
    walk_at "vc"
    refine ⟨rfl, _, rfl, L, M.dl, by decide, by decide, fun v H3 v0 v1 M3 => ?_⟩
    refine ⟨_, _, rfl, rfl, _, rfl, by omega, by omega, fun D0 hD0 => ?_⟩
    obtain ⟨m, hm⟩ : ∃ m : Nat, 1 + v = (m : Int) := ⟨(1 + v).toNat, by omega⟩
    have oD0 := M3.dl.off hD0
    rw [hm]
    refine lc_range (lo := 0) (n := m) (C_wd d L D0 H3) ⟨[], upd_same, rfl, by simp, Mv3.of_ex M3.dl (Ex.new hD0)⟩ (fun t H4 ht hI => ?_) (fun H4 hI => ?_)
    · obtain ⟨xs, g1, g2, g3, M4⟩ := hI
      walk_at "vc"
      refine ⟨L, M4.dl, .inr ⟨_, rfl, by decide, by decide, fun c H5 hc M5 => ?_⟩⟩
      refine ⟨_, M5.kp _ _ oD0.1 oD0.2 g1, sz_lt (by simp; omega), xs ++ [⟨#[c]⟩], by rw [upd_same, List.map_append]; rfl, by simp; omega, fun x hx => ?_, (M4.trans M5).mut hD0 oD0.1 oD0.2⟩
      rcases List.mem_append.mp hx with hx | hx
      · exact g3 x hx
      · rw [List.mem_singleton.mp hx]; exact ⟨c, rfl, hc⟩
    obtain ⟨xs, g1, g2, g3, M4⟩ := hI
    obtain ⟨w1, w2⟩ := word_of (fun c => c ∈ (Str.ofString "abcdefghijklmnopqrstuvwxyz").cps.toList) g3
    have hsum : (xs.map fun x => x.length).sum = xs.length := by
      clear w1 w2 g1 g2
      induction xs with
      | nil => rfl
      | cons x xs ih =>
        obtain ⟨c, rfl, _⟩ := g3 x (by simp)
        rw [List.map_cons, List.sum_cons, ih (fun y hy => g3 y (List.mem_cons_of_mem _ hy)), List.length_cons]
        show 1 + _ = _
        omega
    have hw : wOk (Txt.join (Str.ofString "") xs) := by
      refine ⟨by omega, ?_⟩
      unfold nmOk
      rw [decide_eq_true (show (1 : Int) ≤ ((Txt.join (Str.ofString "") xs).length : Int) by omega), decide_eq_true (show ((Txt.join (Str.ofString "") xs).length : Int) ≤ 4 by omega), Bool.true_and, Bool.true_and]
      exact List.all_eq_true.mpr fun c hc => decide_eq_true (w2 c hc)
    refine ⟨D0, rfl, xs, .inl (sq_of g1), by rw [hsum, em0]; omega, ?_⟩
    have M4' := (M.trans M3).trans M4
    have h1' := M4.kp _ _ op1.1 op1.2 (M3.kp _ _ op1.1 op1.2 h1)
    have h4' := M4.kp _ _ op.1 op.2 (M3.kp _ _ op.1 op.2 h4)
    generalize Txt.join (Str.ofString "") xs = wd at *
    refine ⟨fun σ H' => ∃ wd, σ = [some (.ref d), some (.int n), some (.str "abcdefghijklmnopqrstuvwxyz"), some (.ref p), some (.ref p1), some (.int (0 + (k : Int))), some (.str wd), x7, x8] ∧ wOk wd ∧ H' p1 = some (.lst (ns.map V.str)) ∧ H' p = some (.lst (keptWords.map V.str)) ∧ Mv3 d L H H', ?_, fun σ H5 hm5 => ?_⟩
    · walk_at "vc"
      refine ⟨L, M4.dl, by decide, by decide, fun c H5 c0 c1 M5 => ?_⟩
      have h1'' := M5.kp _ _ op1.1 op1.2 h1'
      have h4'' := M5.kp _ _ op.1 op.2 h4'
      walk_at "vc"
      refine ite2 (fun _ => ?_) (fun _ => ⟨hw, h1'', h4'', M4'.trans M5⟩)
      refine ⟨L, M5.dl, .inl ⟨p, _, rfl, h4'', op.1, op.2, by decide, by decide, fun v H6 hv M6 => ?_⟩⟩
      obtain ⟨x, hx, rfl⟩ := List.mem_map.mp hv
      exact ⟨x, rfl, kept_ok x hx, M6.kp _ _ op1.1 op1.2 h1'', M6.kp _ _ op.1 op.2 h4'', (M4'.trans M5).trans M6⟩
    obtain ⟨wd2, rfl, hw2, k1, k2, M5⟩ := hm5
    walk_at "vc"
    refine ⟨.inl ⟨rfl, _, sq_of k1⟩, _, rfl, sz_le (by simp), fun p5 hp5 => ⟨p5, rfl, ⟨_, sq_of upd_same⟩, fun D2 hD2 => ?_⟩⟩
    have w5 : upd H5 p5 (.lst [.str wd2, .str "a", .str "b", .str "c", .str "d"]) p5 = some (.lst (([wd2, "a", "b", "c", "d"] : List Str).map V.str)) := upd_same
    have M6 := M5.new hp5 (o := .lst [.str wd2, .str "a", .str "b", .str "c", .str "d"])
    have k1' := Ex.new hp5 (o := .lst [.str wd2, .str "a", .str "b", .str "c", .str "d"]) _ _ k1
    have k2' := Ex.new hp5 (o := .lst [.str wd2, .str "a", .str "b", .str "c", .str "d"]) _ _ k2
    generalize upd H5 p5 (.lst [.str wd2, .str "a", .str "b", .str "c", .str "d"]) = H6 at *
    refine lc_it (walk_list (xs := ([wd2, "a", "b", "c", "d"] : List Str).map V.str)) (C_fl D2 [wd2, "a", "b", "c", "d"] ns H6) ⟨upd_same, Ex.new hD2⟩ (fun t H7 _ hP => hP.2.sql (sq_of w5)) (fun t v H7 H8 ht hP y => ?_) (fun H7 hP => ?_)
    · obtain ⟨rfl, hv⟩ := y
      rw [List.getElem?_map] at hv
      obtain ⟨x, hx, rfl⟩ := Option.map_eq_some_iff.mp hv
      walk_at "vc"
      refine ⟨p1, _, rfl, .inl (sq_of (hP.2 _ _ k1')), rfl, flat_strs ns, _, rfl, ?_⟩
      rw [if_pos rfl, inV_strs]
      have ht5 : t < 5 := by simpa using ht
      have hl : (([wd2, "a", "b", "c", "d"] : List Str).take t).length ≤ 5 := by rw [List.length_take]; omega
      have hfl := Nat.le_trans (List.length_filter_le (fun x => !(ns.contains x)) (([wd2, "a", "b", "c", "d"] : List Str).take t)) hl
      by_cases hc : ns.contains x = true
      · rw [hc]
        refine iteF ⟨?_, hP.2⟩
        rw [List.take_add_one, hx, List.filter_append]
        simp only [Option.toList, List.filter_cons, hc, Bool.not_true]
        simpa using hP.1
      · rw [Bool.not_eq_true] at hc
        rw [hc]
        refine iteT ⟨_, hP.1, sz_lt (by rw [List.length_map]; omega), ?_, hP.2.mut hD2⟩
        rw [upd_same, List.take_add_one, hx, List.filter_append]
        simp only [Option.toList, List.filter_cons, hc, Bool.not_false, if_true, List.filter_nil, List.map_append, List.map_cons, List.map_nil]
    · have g1 := hP.1
      rw [List.length_map, List.take_length] at g1
      have hne := one_free wd2 ns (by omega)
      obtain ⟨x, r, hxr⟩ := List.exists_cons_of_ne_nil hne
      rw [hxr] at g1
      have hxm : x ∈ ([wd2, "a", "b", "c", "d"] : List Str) := (List.mem_filter.mp (by rw [hxr]; exact List.mem_cons_self .. : x ∈ ([wd2, "a", "b", "c", "d"] : List Str).filter fun x => !(ns.contains x))).1
      have hnx : x ∉ ns := fun h => by
        have h1 := (List.mem_filter.mp (by rw [hxr]; exact List.mem_cons_self .. : x ∈ ([wd2, "a", "b", "c", "d"] : List Str).filter fun x => !(ns.contains x))).2
        rw [List.contains_iff_mem.mpr h] at h1
        cases h1
      have hxo : wOk x := by
        simp only [List.mem_cons, List.not_mem_nil, or_false] at hxm
        rcases hxm with rfl | rfl | rfl | rfl | rfl
        · exact hw2
        · exact ⟨by decide +kernel, by decide +kernel⟩
        · exact ⟨by decide +kernel, by decide +kernel⟩
        · exact ⟨by decide +kernel, by decide +kernel⟩
        · exact ⟨by decide +kernel, by decide +kernel⟩
      refine ⟨_, .str x, sq_of g1, atI_nat (j := 0) (xs := (x :: r).map V.str) rfl, _, hP.2 _ _ k1', sz_lt (by rw [List.length_map]; omega), ?_⟩
      refine ⟨_, _, _, _, rfl, ns ++ [x], by rw [upd_same, List.map_append]; rfl, by rw [List.length_append, h2]; rfl, ⟨fun y hy => ?_, List.nodup_append.mpr ⟨h3.2, by simp, fun a ha b hb e => hnx (by rw [← List.mem_singleton.mp hb, ← e]; exact ha)⟩⟩, by rw [upd_ne npp]; exact hP.2 _ _ k2', (M6.tex hP.2).mut hp1H op1.1 op1.2⟩
      rcases List.mem_append.mp hy with hy | hy
      · exact h3.1 y hy
      · rw [List.mem_singleton.mp hy]; exact hxo
  · obtain ⟨x5, x6, x7, x8, rfl, ns, h1, h2, h3, h4, M⟩ := hm
    walk_at "vc"
    exact q p1 ns H' M hp1H op1.1 op1.2 h1 (by omega) h3.1 h3.2
end
end My
set_option Elab.async false
set_option linter.all false
set_option maxRecDepth 100000
set_option maxHeartbeats 4000000
set_option exponentiation.threshold 5000
namespace My
open PySem PySem.Spec PyProof.Rows L2 Evl
local macro_rules | `(tactic| walk_at "st") => `(tactic| simp only [L2.start, List.map_cons, List.map_nil, List.length_cons, List.length_nil, Nat.reduceAdd, Nat.reduceSub, List.replicate_succ, List.replicate_zero, List.cons_append, List.nil_append, cxOf, List.append_nil])
local macro_rules | `(tactic| walk_at "vc") => `(tactic| try simp only [tSeq, tAsg, tOp, tUn, tVar, tC, tNil, tCons, gName, rI, rI0, rU, tRet, tIfS, tNot, tAnd, tOr, tB, tTest, tCB, tCall, tAndV, tOrV, tNotV, tNext, tNever, tIf, tChain, tYes, tPart, tNoPart, tPar, tDrop, q_isi, q_vn, q_vb, q_vi, q_vs, kb1, kb2, kb3, kb4, kb5, kb6, kb7, kb8, q_int1, q_int2, q_min, q_max, q_repr, tLst, tTup, rEq, rNe, q_sii, q_sss, q_sbb, q_snn, q_sns, q_ssn, q_ix, q_sl, tSl, tBM, tBM0, q_app, q_pop, gSub, rSetL, L2.wipe, eq_self, decide_true, decide_false, tRevL,
  List.getElem?_cons_succ, List.getElem?_cons_zero, List.set_cons_succ, List.set_cons_zero, Option.some.injEq, exists_eq_left', exists_eq_left, V.int.injEq, V.bl.injEq, V.ref.injEq, V.str.injEq, List.cons.injEq, and_true, true_and, List.append_nil, List.nil_append, List.cons_append, exists_and_left, and_assoc, if_true, if_false, Bool.not_true, Bool.not_false, Bool.false_eq_true, Bool.true_eq_false, reduceIte, tRevL, tPar3, tRevT, tUnl, tCKw, forall_const, Bool.not_eq_true', decide_eq_true_eq, decide_eq_false_iff_not])
section
variable {P : Program} {w : World} {K : PySem.W.Frag} {mg : Str → Option Value} {base : Heap}
variable {a_is_integer a_is_number a_is_base a_is_name a_are_rows a_needed a_fits a_is_of a_inner a_flat a_names_in a_bare a_named a_number_of a_joined a_result a_holding a_written a_part a_of_one a_of_two a_power a_run a_came_to a_holds a_law_deal a_law_draw a_law_pick a_law_words a_law_ask_of a_law_row_of a_law_told a_law a_Stopped_init a_Put_init a_If_init a_Times_init a_Ask_init a_Not_init a_Program_init a_Program_call a_Walk_init a_Walk_go a_Walk_do a_Walk_put a_Walk_decide a_Walk_choose a_InvalidBase a_Stopped a_FigureError a_InvalidNumber a_Put a_If a_Times a_Stop a_Ask a_Not a_Row a_Test a_Program a_Walk a_DEEDS a_SIGNS a_WORDS a_If_init_d0 a_Program_init_d0 : Addr} {d_is_integer d_is_number d_is_base d_is_name d_are_rows d_needed d_fits d_is_of d_inner d_flat d_names_in d_bare d_named d_number_of d_joined d_result d_holding d_written d_part d_of_one d_of_two d_power d_run d_came_to d_holds d_law_deal d_law_draw d_law_pick d_law_words d_law_ask_of d_law_row_of d_law_told d_law d_Stopped_init d_Put_init d_If_init d_Times_init d_Ask_init d_Not_init d_Program_init d_Program_call d_Walk_init d_Walk_go d_Walk_do d_Walk_put d_Walk_decide d_Walk_choose : FuncData}
/-! ### the package's tests and rows, made of the law's own -/
theorem made_ex {H H3 : Hp} {x dx : Addr} {o1 o2 : HO} (hx : H x = none) (hd : H dx = none) (off : Off x (upd (upd H dx o1) x o2) H3) : Ex H H3 := fun b o hb => by
  have e1 : b ≠ x := ne_of_none hb hx
  have e2 : b ≠ dx := ne_of_none hb hd
  exact off b o e1 (by rw [upd_ne e1, upd_ne e2]; exact hb)
theorem TestO.ex {K : PySem.W.Frag} {A : ClsA} {H H' : Hp} {t : TestM} {v : V} (e : Ex H H') (h : TestO K A H t v) : TestO K A H' t v := h.kp (Kp.of_ex e)
theorem RowO.ex {K : PySem.W.Frag} {A : ClsA} {H H' : Hp} {t : RowM} {v : V} (e : Ex H H') (h : RowO K A H t v) : RowO K A H' t v := h.kp (Kp.of_ex e)
theorem RowOs.ex {K : PySem.W.Frag} {A : ClsA} {H H' : Hp} {t : List RowM} {v : List V} (e : Ex H H') (h : RowOs K A H t v) : RowOs K A H' t v := h.kp (Kp.of_ex e)
theorem mk_ex {H : Hp} {x dx : Addr} {o1 o2 : HO} (hx : H x = none) (hd : H dx = none) (hn : dx ≠ x) : Ex H (upd (upd H dx o1) x o2) := (Ex.new hd).trans (Ex.new (by rw [upd_ne hn.symm]; exact hx))
def sp_law_ask_of (K : PySem.W.Frag) (A : ClsA) (n : Nat) : Sp
  | [v], H, Q, _ => ∃ t, TestT K H t v ∧ t.ok ∧ t.dep < n ∧ ∀ u H', Ex H H' → TestO K A H' t u → Q u H'
  | _, _, _, _ => False
theorem ok_law_ask_of (T : Txt w K mg a_is_integer a_is_number a_is_base a_is_name a_are_rows a_needed a_fits a_is_of a_inner a_flat a_names_in a_bare a_named a_number_of a_joined a_result a_holding a_written a_part a_of_one a_of_two a_power a_run a_came_to a_holds a_law_deal a_law_draw a_law_pick a_law_words a_law_ask_of a_law_row_of a_law_told a_law a_Stopped_init a_Put_init a_If_init a_Times_init a_Ask_init a_Not_init a_Program_init a_Program_call a_Walk_init a_Walk_go a_Walk_do a_Walk_put a_Walk_decide a_Walk_choose a_InvalidBase a_Stopped a_FigureError a_InvalidNumber a_Put a_If a_Times a_Stop a_Ask a_Not a_Row a_Test a_Program a_Walk a_DEEDS a_SIGNS a_WORDS a_If_init_d0 a_Program_init_d0 d_is_integer d_is_number d_is_base d_is_name d_are_rows d_needed d_fits d_is_of d_inner d_flat d_names_in d_bare d_named d_number_of d_joined d_result d_holding d_written d_part d_of_one d_of_two d_power d_run d_came_to d_holds d_law_deal d_law_draw d_law_pick d_law_words d_law_ask_of d_law_row_of d_law_told d_law d_Stopped_init d_Put_init d_If_init d_Times_init d_Ask_init d_Not_init d_Program_init d_Program_call d_Walk_init d_Walk_go d_Walk_do d_Walk_put d_Walk_decide d_Walk_choose) : ∀ n : Nat, FnOk P w K mg base CX0 (n + 5) a_law_ask_of d_law_ask_of ["_law_test"] (sp_law_ask_of K ⟨a_Put, a_If, a_Times, a_Stop, a_Ask, a_Not⟩ n)
  | 0 => by
    refine T.F_law_ask_of.ok sc_law_ask_of (fun vs H Q E h => ?_) (fun cdv A outer s H vs Q E hr h => ?_)
    · unfold sp_law_ask_of at h; split at h; rfl; exact h.elim
    · unfold sp_law_ask_of at h; split at h
      case h_2 => exact h.elim
      obtain ⟨t, _, _, h1, _⟩ := h
      exact absurd h1 (by omega)
  | n + 1 => by
    have G_law_ask_of := ok_law_ask_of T n
    have G_Not_init := ok_Not_init (P := P) (w := w) (base := base) T
    have G_Ask_init := ok_Ask_init (P := P) (w := w) (base := base) T
    refine T.F_law_ask_of.ok sc_law_ask_of (fun vs H Q E h => ?_) (fun cdv A outer s H vs Q E hr h => ?_)
    · unfold sp_law_ask_of at h; split at h; rfl; exact h.elim
    unfold sp_law_ask_of at h; split at h
    case h_2 => exact h.elim
    rename_i v
    obtain ⟨t, hT, hok, hd, q⟩ := h
    refine ⟨_, (pss_cons (ps_if (pt_cmpR op_eq (pe_ix ix_tup (pv 0) pe_int (fun _ _ => rfl)) pe_str (nomark _))
      (pss_one (ps_ret (pe_make T.M_Not G_Not_init (hr.mono (by omega)) (by rfl) T.g_Not T.b_Not_init .nil pass0 (pa_cons (pe_call G_law_ask_of (hr.mono (by omega)) (by rfl) T.g_law_ask_of T.F_law_ask_of.kp T.b_law_ask_of .nil pass0 (pa_cons (pe_ix ix_tup (pv 0) pe_int (fun _ _ => rfl)) pa_nil)) pa_nil))))
      pss_nil)
      (pss_cons (ps_if (pt_cmpR op_eq (pe_callB call_len_seq (by rfl) T.z_len (by decide +kernel) (pa_cons (pe_ix ix_tup (pv 0) pe_int (fun _ _ => rfl)) pa_nil)) pe_int (nomark _))
      (pss_one (ps_ret (StX.pe_makeR T.M_Ask G_Ask_init (hr.mono (by omega)) (by rfl) T.g_Ask pass0 (pa_cons (pe_ix ix_tup (pv 0) pe_int (fun _ _ => rfl)) (pa_cons (pe_ix ix_tup (pe_ix ix_tup (pv 0) pe_int (fun _ _ => rfl)) pe_int (fun _ _ => rfl)) pa_nil)))))
      pss_nil)
      (pss_one (ps_ret (StX.pe_makeR T.M_Ask G_Ask_init (hr.mono (by omega)) (by rfl) T.g_Ask pass0 (pa_cons (pe_ix ix_tup (pv 0) pe_int (fun _ _ => rfl)) (pa_cons (pe_ix ix_tup (pe_ix ix_tup (pv 0) pe_int (fun _ _ => rfl)) pe_int (fun _ _ => rfl)) (pa_cons (pe_ix ix_tup (pe_ix ix_tup (pv 0) pe_int (fun _ _ => rfl)) pe_int (fun _ _ => rfl)) pa_nil)))))))), ?_⟩
    walk_at "st"
    walk_at "vc"
    cases t with
    | not t =>
      obtain ⟨a, u, rfl, h1, h2⟩ := hT
      rw [TestM.dep] at hd
      refine ⟨a, _, _, _, rfl, rfl, h1, rfl, rfl, ?_⟩
      rw [if_pos rfl]
      unfold tMake
      walk_at "vc"
      refine ⟨a, _, _, _, rfl, rfl, h1, rfl, t, h2, hok, by omega, fun u1 H1 e1 hO x1 dx hx hdx hne => ?_⟩
      have em := mk_ex (o1 := .own x1) (o2 := .ins a_Not dx []) hx hdx hne
      refine ⟨dx, t, upd_same, hO.ex em, fun H3 off h3 => ⟨rfl, ?_⟩⟩
      have e3 := made_ex hx hdx off
      exact q _ H3 (e1.trans e3) ⟨x1, dx, u1, rfl, h3, hO.ex e3⟩
    | ask x ns =>
      obtain ⟨a, q0, rfl, h1, h2⟩ := hT
      refine ⟨a, _, _, _, rfl, rfl, h1, rfl, rfl, ?_⟩
      rw [if_neg (by decide +kernel)]
      have hn : ns.length = 1 ∨ ns.length = 2 := by
        have : ∀ p ∈ wordTab, p.2 = 1 ∨ p.2 = 2 := by decide
        exact this _ hok.1
      refine ⟨a, _, _, _, rfl, rfl, h1, rfl, q0, rfl, _, .inr h2, ?_⟩
      unfold StX.tMakeR
      walk_at "vc"
      have fin : ∀ (x3 dx : Addr), H x3 = none → H dx = none → dx ≠ x3 → ∃ ws rest, (V.ref x3 :: V.str x :: ns.map V.str) = ws ++ rest ∧ ws.length = 2 ∧ rest.length ≤ sizeLine ∧ ∀ p, upd (upd H dx (.own x3)) x3 (.ins a_Ask dx []) p = none →
          sp_Ask_init K a_Ask (ws ++ [V.ref p]) (upd (upd (upd H dx (.own x3)) x3 (.ins a_Ask dx [])) p (.tup rest)) (fun v H2 => v = V.non ∧ Q (V.ref x3) H2) E0 := by
        intro x3 dx hx hdx hne
        refine ⟨[.ref x3, .str x], ns.map V.str, rfl, rfl, sz_le (by rw [List.length_map]; omega), fun p hp => ?_⟩
        have em := mk_ex (o1 := .own x3) (o2 := .ins a_Ask dx []) hx hdx hne
        have ep := Ex.new hp (o := .tup (ns.map V.str))
        refine ⟨dx, ns, ep _ _ upd_same, st_of upd_same, hok.1, hok.2, fun H3 off h3 => ⟨rfl, ?_⟩⟩
        have off2 : Off x3 (upd (upd H dx (.own x3)) x3 (.ins a_Ask dx [])) H3 := fun b o hb h => off b o hb (ep _ _ h)
        have npx : p ≠ x3 := fun e => by rw [e, upd_same] at hp; cases hp
        exact q _ H3 (made_ex hx hdx off2) ⟨x3, dx, p, rfl, h3, st_of (off p _ npx upd_same)⟩
      rcases hn with hn | hn
      · obtain ⟨y, rfl⟩ : ∃ y, ns = [y] := by
          match ns, hn with
          | [y], _ => exact ⟨y, rfl⟩
        rw [if_pos (by rfl)]
        exact ⟨a, _, _, _, rfl, rfl, h1, rfl, a, _, _, _, rfl, rfl, h1, rfl, q0, _, _, _, rfl, rfl, h2, rfl, fin⟩
      · obtain ⟨y, z, rfl⟩ : ∃ y z, ns = [y, z] := by
          match ns, hn with
          | [y, z], _ => exact ⟨y, z, rfl⟩
        rw [if_neg (by simp)]
        exact ⟨a, _, _, _, rfl, rfl, h1, rfl, a, _, _, _, rfl, rfl, h1, rfl, q0, _, _, _, rfl, rfl, h2, rfl, a, _, _, _, rfl, rfl, h1, rfl, q0, _, _, _, rfl, rfl, h2, rfl, fin⟩
theorem RowOs.snoc {K : PySem.W.Frag} {A : ClsA} {H : Hp} {r : RowM} {u : V} : ∀ {rs : List RowM} {us : List V}, RowOs K A H rs us → RowO K A H r u → RowOs K A H (rs ++ [r]) (us ++ [u])
  | [], _, h, k => by rw [RowOs] at h; subst h; exact ⟨u, [], rfl, k, by rw [RowOs]⟩
  | x :: rs, _, h, k => by
    obtain ⟨v, ws, rfl, h2, h3⟩ := h
    exact ⟨v, ws ++ [u], rfl, h2, RowOs.snoc h3 k⟩
def sp_law_row_of (K : PySem.W.Frag) (A : ClsA) (n : Nat) : Sp
  | [v], H, Q, _ => ∃ r, RowT K H r v ∧ r.ok ∧ r.sm ∧ r.dep < n ∧ ∀ u H', Ex H H' → RowO K A H' r u → (∃ b, u = .ref b ∧ H b = none) → Q u H'
  | _, _, _, _ => False
theorem ok_law_row_of (T : Txt w K mg a_is_integer a_is_number a_is_base a_is_name a_are_rows a_needed a_fits a_is_of a_inner a_flat a_names_in a_bare a_named a_number_of a_joined a_result a_holding a_written a_part a_of_one a_of_two a_power a_run a_came_to a_holds a_law_deal a_law_draw a_law_pick a_law_words a_law_ask_of a_law_row_of a_law_told a_law a_Stopped_init a_Put_init a_If_init a_Times_init a_Ask_init a_Not_init a_Program_init a_Program_call a_Walk_init a_Walk_go a_Walk_do a_Walk_put a_Walk_decide a_Walk_choose a_InvalidBase a_Stopped a_FigureError a_InvalidNumber a_Put a_If a_Times a_Stop a_Ask a_Not a_Row a_Test a_Program a_Walk a_DEEDS a_SIGNS a_WORDS a_If_init_d0 a_Program_init_d0 d_is_integer d_is_number d_is_base d_is_name d_are_rows d_needed d_fits d_is_of d_inner d_flat d_names_in d_bare d_named d_number_of d_joined d_result d_holding d_written d_part d_of_one d_of_two d_power d_run d_came_to d_holds d_law_deal d_law_draw d_law_pick d_law_words d_law_ask_of d_law_row_of d_law_told d_law d_Stopped_init d_Put_init d_If_init d_Times_init d_Ask_init d_Not_init d_Program_init d_Program_call d_Walk_init d_Walk_go d_Walk_do d_Walk_put d_Walk_decide d_Walk_choose) : ∀ n : Nat, FnOk P w K mg base CX0 (n + 15) a_law_row_of d_law_row_of ["_law_row"] (sp_law_row_of K ⟨a_Put, a_If, a_Times, a_Stop, a_Ask, a_Not⟩ n)
  | 0 => by
    refine T.F_law_row_of.ok sc_law_row_of (fun vs H Q E h => ?_) (fun cdv A outer s H vs Q E hr h => ?_)
    · unfold sp_law_row_of at h; split at h; rfl; exact h.elim
    · unfold sp_law_row_of at h; split at h
      case h_2 => exact h.elim
      obtain ⟨t, _, _, _, h1, _⟩ := h
      exact absurd h1 (by omega)
  | n + 1 => by
    have G_law_row_of := ok_law_row_of T n
    have G_law_ask_of := ok_law_ask_of (P := P) (w := w) (base := base) T 9
    have G_Put_init := ok_Put_init (P := P) (w := w) (base := base) T
    have G_Times_init := ok_Times_init (P := P) (w := w) (base := base) T
    have G_If_init := ok_If_init (P := P) (w := w) (base := base) T
    refine T.F_law_row_of.ok sc_law_row_of (fun vs H Q E h => ?_) (fun cdv A outer s H vs Q E hr h => ?_)
    · unfold sp_law_row_of at h; split at h; rfl; exact h.elim
    unfold sp_law_row_of at h; split at h
    case h_2 => exact h.elim
    rename_i v
    obtain ⟨r, hT, hok, hsm, hd, q⟩ := h
    refine ⟨_, (pss_cons (ps_if (pt_cmpR op_eq (pe_ix ix_tup (pv 0) pe_int (fun _ _ => rfl)) pe_str (nomark _))
      (pss_one (ps_ret (pe_new0 T.N_Stop (by rfl) T.g_Stop)))
      pss_nil)
      (pss_cons (ps_if (pt_cmpR op_eq (pe_ix ix_tup (pv 0) pe_int (fun _ _ => rfl)) pe_str (nomark _))
      (pss_one (ps_ret (pe_make T.M_Times G_Times_init (hr.mono (by omega)) (by rfl) T.g_Times T.b_Times_init .nil pass0 (pa_cons (pe_ix ix_tup (pv 0) pe_int (fun _ _ => rfl)) (pa_cons (pe_lc (own := [("_law_one", 3)]) (g := gName 3) (by rfl) sc_law_row_of.nd (pi_tup (pe_ix ix_tup (pv 0) pe_int (fun _ _ => rfl))) (blkOk_by (own := [("_law_one", 3)]) (N := N_law_row_of) (sc := defScope s_law_row_of) (by decide +kernel)) (fun _ _ _ _ _ => (pg_name (i := 3) sc_law_row_of.nd rfl (by first | exact .inl rfl | exact .inr rfl))) (fun _ _ _ _ _ => pts_nil) (fun _ _ _ _ _ => (pe_call G_law_row_of (hr.mono (by omega)) (by rfl) T.g_law_row_of T.F_law_row_of.kp T.b_law_row_of .nil pass0 (pa_cons (pv 3) pa_nil)))) pa_nil)))))
      pss_nil)
      (pss_cons (ps_if (pt_cmpR op_eq (pe_ix ix_tup (pv 0) pe_int (fun _ _ => rfl)) pe_str (nomark _))
      (pss_cons (ps_set (i := 1) sc_law_row_of.nd rfl (by first | exact .inl rfl | exact .inr rfl) (pe_callTy call_tuple_of (by rfl) T.z_tuple (by decide +kernel) (pa_cons (pe_lc (own := [("_law_one", 3)]) (g := gName 3) (by rfl) sc_law_row_of.nd (pi_tup (pe_ix ix_tup (pv 0) pe_int (fun _ _ => rfl))) (blkOk_by (own := [("_law_one", 3)]) (N := N_law_row_of) (sc := defScope s_law_row_of) (by decide +kernel)) (fun _ _ _ _ _ => (pg_name (i := 3) sc_law_row_of.nd rfl (by first | exact .inl rfl | exact .inr rfl))) (fun _ _ _ _ _ => pts_nil) (fun _ _ _ _ _ => (pe_call G_law_row_of (hr.mono (by omega)) (by rfl) T.g_law_row_of T.F_law_row_of.kp T.b_law_row_of .nil pass0 (pa_cons (pv 3) pa_nil)))) pa_nil)))
      (pss_one (ps_ret (pe_make T.M_If G_If_init (hr.mono (by omega)) (by rfl) T.g_If T.b_If_init .nil pass0 (pa_cons (pe_call G_law_ask_of (hr.mono (by omega)) (by rfl) T.g_law_ask_of T.F_law_ask_of.kp T.b_law_ask_of .nil pass0 (pa_cons (pe_ix ix_tup (pv 0) pe_int (fun _ _ => rfl)) pa_nil)) (pa_cons (pe_lc (own := [("_law_one", 3)]) (g := gName 3) (by rfl) sc_law_row_of.nd (pi_tup (pe_ix ix_tup (pv 0) pe_int (fun _ _ => rfl))) (blkOk_by (own := [("_law_one", 3)]) (N := N_law_row_of) (sc := defScope s_law_row_of) (by decide +kernel)) (fun _ _ _ _ _ => (pg_name (i := 3) sc_law_row_of.nd rfl (by first | exact .inl rfl | exact .inr rfl))) (fun _ _ _ _ _ => pts_nil) (fun _ _ _ _ _ => (pe_call G_law_row_of (hr.mono (by omega)) (by rfl) T.g_law_row_of T.F_law_row_of.kp T.b_law_row_of .nil pass0 (pa_cons (pv 3) pa_nil)))) (pa_cons (pv 1) pa_nil)))))))
      pss_nil)
      (pss_cons (ps_set (i := 2) sc_law_row_of.nd rfl (by first | exact .inl rfl | exact .inr rfl) (pe_ix ix_tup (pv 0) pe_int (fun _ _ => rfl)))
      (pss_cons (ps_if (pt_cmpR op_eq (pe_callB call_len_seq (by rfl) T.z_len (by decide +kernel) (pa_cons (pv 2) pa_nil)) pe_int (nomark _))
      (pss_one (ps_ret (StX.pe_makeR T.M_Put G_Put_init (hr.mono (by omega)) (by rfl) T.g_Put pass0 (pa_cons (pe_ix ix_tup (pv 0) pe_int (fun _ _ => rfl)) (pa_cons (pe_ix ix_tup (pv 0) pe_int (fun _ _ => rfl)) pa_nil)))))
      pss_nil)
      (pss_cons (ps_if (pt_cmpR op_eq (pe_callB call_len_seq (by rfl) T.z_len (by decide +kernel) (pa_cons (pv 2) pa_nil)) pe_int (nomark _))
      (pss_one (ps_ret (StX.pe_makeR T.M_Put G_Put_init (hr.mono (by omega)) (by rfl) T.g_Put pass0 (pa_cons (pe_ix ix_tup (pv 0) pe_int (fun _ _ => rfl)) (pa_cons (pe_ix ix_tup (pv 0) pe_int (fun _ _ => rfl)) (pa_cons (pe_ix ix_tup (pv 2) pe_int (fun _ _ => rfl)) pa_nil))))))
      pss_nil)
      (pss_cons (ps_if (pt_cmpR op_eq (pe_callB call_len_seq (by rfl) T.z_len (by decide +kernel) (pa_cons (pv 2) pa_nil)) pe_int (nomark _))
      (pss_one (ps_ret (StX.pe_makeR T.M_Put G_Put_init (hr.mono (by omega)) (by rfl) T.g_Put pass0 (pa_cons (pe_ix ix_tup (pv 0) pe_int (fun _ _ => rfl)) (pa_cons (pe_ix ix_tup (pv 0) pe_int (fun _ _ => rfl)) (pa_cons (pe_ix ix_tup (pv 2) pe_int (fun _ _ => rfl)) (pa_cons (pe_ix ix_tup (pv 2) pe_int (fun _ _ => rfl)) pa_nil)))))))
      pss_nil)
      (pss_cons (ps_if (pt_cmpR op_eq (pe_callB call_len_seq (by rfl) T.z_len (by decide +kernel) (pa_cons (pv 2) pa_nil)) pe_int (nomark _))
      (pss_one (ps_ret (StX.pe_makeR T.M_Put G_Put_init (hr.mono (by omega)) (by rfl) T.g_Put pass0 (pa_cons (pe_ix ix_tup (pv 0) pe_int (fun _ _ => rfl)) (pa_cons (pe_ix ix_tup (pv 0) pe_int (fun _ _ => rfl)) (pa_cons (pe_ix ix_tup (pv 2) pe_int (fun _ _ => rfl)) (pa_cons (pe_ix ix_tup (pv 2) pe_int (fun _ _ => rfl)) (pa_cons (pe_ix ix_tup (pv 2) pe_int (fun _ _ => rfl)) pa_nil))))))))
      pss_nil)
      (pss_cons (ps_if (pt_cmpR op_eq (pe_callB call_len_seq (by rfl) T.z_len (by decide +kernel) (pa_cons (pv 2) pa_nil)) pe_int (nomark _))
      (pss_one (ps_ret (StX.pe_makeR T.M_Put G_Put_init (hr.mono (by omega)) (by rfl) T.g_Put pass0 (pa_cons (pe_ix ix_tup (pv 0) pe_int (fun _ _ => rfl)) (pa_cons (pe_ix ix_tup (pv 0) pe_int (fun _ _ => rfl)) (pa_cons (pe_ix ix_tup (pv 2) pe_int (fun _ _ => rfl)) (pa_cons (pe_ix ix_tup (pv 2) pe_int (fun _ _ => rfl)) (pa_cons (pe_ix ix_tup (pv 2) pe_int (fun _ _ => rfl)) (pa_cons (pe_ix ix_tup (pv 2) pe_int (fun _ _ => rfl)) pa_nil)))))))))
      pss_nil)
      (pss_cons (ps_if (pt_cmpR op_eq (pe_callB call_len_seq (by rfl) T.z_len (by decide +kernel) (pa_cons (pv 2) pa_nil)) pe_int (nomark _))
      (pss_one (ps_ret (StX.pe_makeR T.M_Put G_Put_init (hr.mono (by omega)) (by rfl) T.g_Put pass0 (pa_cons (pe_ix ix_tup (pv 0) pe_int (fun _ _ => rfl)) (pa_cons (pe_ix ix_tup (pv 0) pe_int (fun _ _ => rfl)) (pa_cons (pe_ix ix_tup (pv 2) pe_int (fun _ _ => rfl)) (pa_cons (pe_ix ix_tup (pv 2) pe_int (fun _ _ => rfl)) (pa_cons (pe_ix ix_tup (pv 2) pe_int (fun _ _ => rfl)) (pa_cons (pe_ix ix_tup (pv 2) pe_int (fun _ _ => rfl)) (pa_cons (pe_ix ix_tup (pv 2) pe_int (fun _ _ => rfl)) pa_nil))))))))))
      pss_nil)
      (pss_one (ps_ret (StX.pe_makeR T.M_Put G_Put_init (hr.mono (by omega)) (by rfl) T.g_Put pass0 (pa_cons (pe_ix ix_tup (pv 0) pe_int (fun _ _ => rfl)) (pa_cons (pe_ix ix_tup (pv 0) pe_int (fun _ _ => rfl)) (pa_cons (pe_ix ix_tup (pv 2) pe_int (fun _ _ => rfl)) (pa_cons (pe_ix ix_tup (pv 2) pe_int (fun _ _ => rfl)) (pa_cons (pe_ix ix_tup (pv 2) pe_int (fun _ _ => rfl)) (pa_cons (pe_ix ix_tup (pv 2) pe_int (fun _ _ => rfl)) (pa_cons (pe_ix ix_tup (pv 2) pe_int (fun _ _ => rfl)) (pa_cons (pe_ix ix_tup (pv 2) pe_int (fun _ _ => rfl)) pa_nil))))))))))))))))))))), ?_⟩
    walk_at "st"
    walk_at "vc"
    cases r with
    | stop =>
      obtain ⟨a, rfl, h1⟩ := hT
      refine ⟨a, _, _, _, rfl, rfl, h1, rfl, rfl, ?_⟩
      rw [if_pos rfl]
      intro x1 dx hx hdx hne
      exact q _ _ (mk_ex hx hdx hne) ⟨x1, dx, rfl, upd_same⟩ ⟨x1, rfl, hx⟩
    | put x dd g =>
      obtain ⟨a, b, rfl, h1, h2⟩ := hT
      refine ⟨a, _, _, _, rfl, rfl, h1, rfl, rfl, ?_⟩
      rw [if_neg (by decide +kernel)]
      refine ⟨a, _, _, _, rfl, rfl, h1, rfl, rfl, ?_⟩
      rw [if_neg (by decide +kernel)]
      refine ⟨a, _, _, _, rfl, rfl, h1, rfl, rfl, ?_⟩
      rw [if_neg (by decide +kernel)]
      refine ⟨a, _, _, _, rfl, rfl, h1, rfl, b, rfl, _, .inr h2, ?_⟩
      unfold StX.tMakeR
      walk_at "vc"
      have hgl : g.length ≤ 6 := hsm.2.2.1
      have fin : ∀ (x3 dx : Addr), H x3 = none → H dx = none → dx ≠ x3 → ∃ ws rest, (V.ref x3 :: V.str x :: V.str dd :: g) = ws ++ rest ∧ ws.length = 3 ∧ rest.length ≤ sizeLine ∧ ∀ p, upd (upd H dx (.own x3)) x3 (.ins a_Put dx []) p = none →
          sp_Put_init K a_Put (ws ++ [V.ref p]) (upd (upd (upd H dx (.own x3)) x3 (.ins a_Put dx [])) p (.tup rest)) (fun v H2 => v = V.non ∧ Q (V.ref x3) H2) E0 := by
        intro x3 dx hx hdx hne
        refine ⟨[.ref x3, .str x, .str dd], g, rfl, rfl, sz_le (by omega), fun p hp => ?_⟩
        have em := mk_ex (o1 := .own x3) (o2 := .ins a_Put dx []) hx hdx hne
        have ep := Ex.new hp (o := .tup g)
        obtain ⟨hn, ⟨ks, hk1, hk2⟩, _⟩ := hok
        refine ⟨dx, g, ks, ep _ _ upd_same, st_of upd_same, hn.1, hn.2, hk1, hk2, by omega, fun H3 off h3 => ⟨rfl, ?_⟩⟩
        have off2 : Off x3 (upd (upd H dx (.own x3)) x3 (.ins a_Put dx [])) H3 := fun b o hb h => off b o hb (ep _ _ h)
        have npx : p ≠ x3 := fun e => by rw [e, upd_same] at hp; cases hp
        exact q _ H3 (made_ex hx hdx off2) ⟨x3, dx, p, rfl, h3, st_of (off p _ npx upd_same)⟩ ⟨x3, rfl, hx⟩
      match g, hgl with
      | [], _ =>
        rw [if_pos (by simp)]
        exact ⟨a, _, _, _, rfl, rfl, h1, rfl, a, _, _, _, rfl, rfl, h1, rfl, fin⟩
      | [y0], _ =>
        rw [if_neg (by simp)]
        refine ⟨_, .inr h2, ?_⟩
        rw [if_pos (by simp)]
        exact ⟨a, _, _, _, rfl, rfl, h1, rfl, a, _, _, _, rfl, rfl, h1, rfl, b, _, _, _, rfl, rfl, h2, rfl, fin⟩
      | [y0, y1], _ =>
        rw [if_neg (by simp)]
        refine ⟨_, .inr h2, ?_⟩
        rw [if_neg (by simp)]
        refine ⟨_, .inr h2, ?_⟩
        rw [if_pos (by simp)]
        exact ⟨a, _, _, _, rfl, rfl, h1, rfl, a, _, _, _, rfl, rfl, h1, rfl, b, _, _, _, rfl, rfl, h2, rfl, b, _, _, _, rfl, rfl, h2, rfl, fin⟩
      | [y0, y1, y2], _ =>
        rw [if_neg (by simp)]
        refine ⟨_, .inr h2, ?_⟩
        rw [if_neg (by simp)]
        refine ⟨_, .inr h2, ?_⟩
        rw [if_neg (by simp)]
        refine ⟨_, .inr h2, ?_⟩
        rw [if_pos (by simp)]
        exact ⟨a, _, _, _, rfl, rfl, h1, rfl, a, _, _, _, rfl, rfl, h1, rfl, b, _, _, _, rfl, rfl, h2, rfl, b, _, _, _, rfl, rfl, h2, rfl, b, _, _, _, rfl, rfl, h2, rfl, fin⟩
      | [y0, y1, y2, y3], _ =>
        rw [if_neg (by simp)]
        refine ⟨_, .inr h2, ?_⟩
        rw [if_neg (by simp)]
        refine ⟨_, .inr h2, ?_⟩
        rw [if_neg (by simp)]
        refine ⟨_, .inr h2, ?_⟩
        rw [if_neg (by simp)]
        refine ⟨_, .inr h2, ?_⟩
        rw [if_pos (by simp)]
        exact ⟨a, _, _, _, rfl, rfl, h1, rfl, a, _, _, _, rfl, rfl, h1, rfl, b, _, _, _, rfl, rfl, h2, rfl, b, _, _, _, rfl, rfl, h2, rfl, b, _, _, _, rfl, rfl, h2, rfl, b, _, _, _, rfl, rfl, h2, rfl, fin⟩
      | [y0, y1, y2, y3, y4], _ =>
        rw [if_neg (by simp)]
        refine ⟨_, .inr h2, ?_⟩
        rw [if_neg (by simp)]
        refine ⟨_, .inr h2, ?_⟩
        rw [if_neg (by simp)]
        refine ⟨_, .inr h2, ?_⟩
        rw [if_neg (by simp)]
        refine ⟨_, .inr h2, ?_⟩
        rw [if_neg (by simp)]
        refine ⟨_, .inr h2, ?_⟩
        rw [if_pos (by simp)]
        exact ⟨a, _, _, _, rfl, rfl, h1, rfl, a, _, _, _, rfl, rfl, h1, rfl, b, _, _, _, rfl, rfl, h2, rfl, b, _, _, _, rfl, rfl, h2, rfl, b, _, _, _, rfl, rfl, h2, rfl, b, _, _, _, rfl, rfl, h2, rfl, b, _, _, _, rfl, rfl, h2, rfl, fin⟩
      | [y0, y1, y2, y3, y4, y5], _ =>
        rw [if_neg (by simp)]
        refine ⟨_, .inr h2, ?_⟩
        rw [if_neg (by simp)]
        refine ⟨_, .inr h2, ?_⟩
        rw [if_neg (by simp)]
        refine ⟨_, .inr h2, ?_⟩
        rw [if_neg (by simp)]
        refine ⟨_, .inr h2, ?_⟩
        rw [if_neg (by simp)]
        refine ⟨_, .inr h2, ?_⟩
        rw [if_neg (by simp)]
        exact ⟨a, _, _, _, rfl, rfl, h1, rfl, a, _, _, _, rfl, rfl, h1, rfl, b, _, _, _, rfl, rfl, h2, rfl, b, _, _, _, rfl, rfl, h2, rfl, b, _, _, _, rfl, rfl, h2, rfl, b, _, _, _, rfl, rfl, h2, rfl, b, _, _, _, rfl, rfl, h2, rfl, b, _, _, _, rfl, rfl, h2, rfl, fin⟩
      | _ :: _ :: _ :: _ :: _ :: _ :: _ :: _, z => simp at z
    | times c rs =>
      obtain ⟨a, b, vs, rfl, h1, h2, h3⟩ := hT
      refine ⟨a, _, _, _, rfl, rfl, h1, rfl, rfl, ?_⟩
      rw [if_neg (by decide +kernel)]
      refine ⟨a, _, _, _, rfl, rfl, h1, rfl, rfl, ?_⟩
      rw [if_pos rfl]
      unfold tMake
      walk_at "vc"
      rw [RowM.ok] at hok
      rw [RowM.sm] at hsm
      rw [RowM.dep] at hd
      have hlen := h3.len
      refine ⟨a, _, _, _, rfl, rfl, h1, rfl, .ref a, rfl, a, _, _, _, rfl, rfl, h1, rfl, b, rfl, ⟨_, h2⟩, fun D0 hD0 => ?_⟩
      refine lc_tup (xs := vs) (fun i H' => ∃ us, H' D0 = some (.lst us) ∧ us.length = i ∧ RowOs K ⟨a_Put, a_If, a_Times, a_Stop, a_Ask, a_Not⟩ H' (rs.take i) us ∧ Ex H H') ⟨[], upd_same, rfl, by rw [List.take_zero, RowOs], Ex.new hD0⟩ (fun i H' _ hP => (Kp.of_ex hP.choose_spec.2.2.2).sqt h2) (fun i v H' hv hP => ?_) (fun H' hP => ?_)
      · obtain ⟨us, g1, g2, g3, g4⟩ := hP
        obtain ⟨r, hr, hrT⟩ := (h3).at_ hv
        walk_at "vc"
        refine ⟨r, hrT.ex g4, oks_at2 hok.2.1 hr, sms_at hsm hr, by have := deps_at hr; omega, fun u1 H2 e2 hu _ => ?_⟩
        have hil := (List.getElem?_eq_some_iff.mp hv).1
        refine ⟨us, e2 _ _ g1, sz_lt (by omega), us ++ [u1], upd_same, by rw [List.length_append, g2]; rfl, ?_, (g4.trans e2).mut hD0⟩
        have kpl : Kp H2 (upd H2 D0 (.lst (us ++ [u1]))) := Kp.updL (e2 _ _ g1)
        rw [List.take_add_one, hr]
        exact RowOs.snoc ((g3.ex e2).kp kpl) (hu.kp kpl)
      obtain ⟨us, g1, g2, g3, g4⟩ := hP
      rw [hlen, List.take_length] at g3
      intro x1 dx hx hdx hne
      have em := mk_ex (o1 := .own x1) (o2 := .ins a_Times dx []) hx hdx hne
      refine ⟨dx, rs, us, upd_same, by omega, .inl (em _ _ g1), g3.ex em, by omega, fun H3 qq off hq h3' => ⟨rfl, ?_⟩⟩
      have e3 := made_ex hx hdx off
      exact q _ H3 (g4.trans e3) ⟨x1, dx, qq, us, rfl, h3', st_of hq, g3.ex e3⟩ ⟨x1, rfl, e_none g4 hx⟩
    | ifr t rs os =>
      obtain ⟨a, u, b, c, vs, ws, rfl, h1, ht, h2, h3, h4, h5⟩ := hT
      refine ⟨a, _, _, _, rfl, rfl, h1, rfl, rfl, ?_⟩
      rw [if_neg (by decide +kernel)]
      refine ⟨a, _, _, _, rfl, rfl, h1, rfl, rfl, ?_⟩
      rw [if_neg (by decide +kernel)]
      refine ⟨a, _, _, _, rfl, rfl, h1, rfl, rfl, ?_⟩
      rw [if_pos rfl]
      rw [RowM.ok] at hok
      rw [RowM.sm] at hsm
      rw [RowM.dep] at hd
      have hlen := h3.len
      have hlen2 := h5.len
      refine ⟨.ref a, rfl, a, _, _, _, rfl, rfl, h1, rfl, c, rfl, ⟨_, h4⟩, fun D0 hD0 => ?_⟩
      refine lc_tup (xs := ws) (fun i H' => ∃ us, H' D0 = some (.lst us) ∧ us.length = i ∧ RowOs K ⟨a_Put, a_If, a_Times, a_Stop, a_Ask, a_Not⟩ H' (os.take i) us ∧ Ex H H') ⟨[], upd_same, rfl, by rw [List.take_zero, RowOs], Ex.new hD0⟩ (fun i H' _ hP => (Kp.of_ex hP.choose_spec.2.2.2).sqt h4) (fun i v H' hv hP => ?_) (fun H' hP => ?_)
      · obtain ⟨us, g1, g2, g3, g4⟩ := hP
        obtain ⟨r, hr, hrT⟩ := (h5).at_ hv
        walk_at "vc"
        refine ⟨r, hrT.ex g4, oks_at2 hok.2.2.2.2.1 hr, sms_at hsm.2.2 hr, by have := deps_at hr; omega, fun u1 H2 e2 hu _ => ?_⟩
        have hil := (List.getElem?_eq_some_iff.mp hv).1
        refine ⟨us, e2 _ _ g1, sz_lt (by omega), us ++ [u1], upd_same, by rw [List.length_append, g2]; rfl, ?_, (g4.trans e2).mut hD0⟩
        have kpl : Kp H2 (upd H2 D0 (.lst (us ++ [u1]))) := Kp.updL (e2 _ _ g1)
        rw [List.take_add_one, hr]
        exact RowOs.snoc ((g3.ex e2).kp kpl) (hu.kp kpl)
      obtain ⟨us1, f1, f2, f3, f4⟩ := hP
      rw [hlen2, List.take_length] at f3
      refine ⟨D0, rfl, us1, .inl ⟨sq_of f1, fun l hl => ?_⟩⟩
      have el := f4.trans (Ex.new hl (o := .tup us1))
      have wl : upd H' l (.tup us1) l = some (.tup us1) := upd_same
      have f5 := f3.ex (Ex.new hl (o := .tup us1))
      clear f1 f3 f4
      generalize upd H' l (.tup us1) = H1 at *
      unfold tMake
      walk_at "vc"
      refine ⟨a, _, _, _, rfl, rfl, (Kp.of_ex el).sqt h1, rfl, t, ht.ex el, hok.1, hok.2.1, fun u1 H2 e2 hu1 => ?_⟩
      have em2 := el.trans e2
      refine ⟨.ref a, rfl, a, _, _, _, rfl, rfl, (Kp.of_ex em2).sqt h1, rfl, b, rfl, ⟨_, (Kp.of_ex em2).sqt h2⟩, fun D0 hD0 => ?_⟩
      refine lc_tup (xs := vs) (fun i H' => ∃ us, H' D0 = some (.lst us) ∧ us.length = i ∧ RowOs K ⟨a_Put, a_If, a_Times, a_Stop, a_Ask, a_Not⟩ H' (rs.take i) us ∧ Ex H2 H') ⟨[], upd_same, rfl, by rw [List.take_zero, RowOs], Ex.new hD0⟩ (fun i H' _ hP => (Kp.of_ex hP.choose_spec.2.2.2).sqt ((Kp.of_ex em2).sqt h2)) (fun i v H' hv hP => ?_) (fun H' hP => ?_)
      · obtain ⟨us, g1, g2, g3, g4⟩ := hP
        obtain ⟨r, hr, hrT⟩ := (h3.ex em2).at_ hv
        walk_at "vc"
        refine ⟨r, hrT.ex g4, oks_at2 hok.2.2.1 hr, sms_at hsm.2.1 hr, by have := deps_at hr; omega, fun u1 H2 e2 hu _ => ?_⟩
        have hil := (List.getElem?_eq_some_iff.mp hv).1
        refine ⟨us, e2 _ _ g1, sz_lt (by omega), us ++ [u1], upd_same, by rw [List.length_append, g2]; rfl, ?_, (g4.trans e2).mut hD0⟩
        have kpl : Kp H2 (upd H2 D0 (.lst (us ++ [u1]))) := Kp.updL (e2 _ _ g1)
        rw [List.take_add_one, hr]
        exact RowOs.snoc ((g3.ex e2).kp kpl) (hu.kp kpl)
      obtain ⟨us, g1, g2, g3, g4⟩ := hP
      rw [hlen, List.take_length] at g3
      intro x1 dx hx hdx hne
      have em := mk_ex (o1 := .own x1) (o2 := .ins a_If dx []) hx hdx hne
      have e5 := e2.trans g4
      refine ⟨dx, t, rs, us, os, us1, upd_same, hu1.ex (g4.trans em), .inl (em _ _ g1), g3.ex em, by omega, .inr (em _ _ (e5 _ _ wl)), (f5.ex e5).ex em, by omega, fun H3 q1 q2 off hq1 hq2 h3' => ⟨rfl, ?_⟩⟩
      have e3 := made_ex hx hdx off
      exact q _ H3 ((el.trans e5).trans e3) ⟨x1, dx, u1, q1, q2, us, us1, rfl, h3', hu1.ex (g4.trans e3), st_of hq1, g3.ex e3, st_of hq2, f5.ex (e5.trans e3)⟩ ⟨x1, rfl, e_none (el.trans e5) hx⟩
end
end My
set_option Elab.async false
set_option linter.all false
set_option maxRecDepth 100000
set_option maxHeartbeats 4000000
/-! names in order: sorted texts are told by what they hold; dicts whose values are all True -/
namespace My
open PySem PySem.Spec PyProof.Rows L2 Evl
theorem lt_cons (a b : Nat) (r t : List Nat) : ltCps (a :: r) (b :: t) = false ↔ b ≤ a ∧ (a = b → ltCps r t = false) := by
  show (decide (a < b) || (a == b && ltCps r t)) = false ↔ _
  rw [Bool.or_eq_false_iff, decide_eq_false_iff_not]
  constructor
  · rintro ⟨h1, h2⟩
    exact ⟨by omega, fun e => by rw [e, beq_self_eq_true, Bool.true_and] at h2; exact h2⟩
  · rintro ⟨h1, h2⟩
    refine ⟨by omega, ?_⟩
    by_cases e : a = b
    · rw [h2 e, Bool.and_false]
    · rw [show (a == b) = false from beq_eq_false_iff_ne.mpr e, Bool.false_and]
theorem le_tr : ∀ {a b c : List Nat}, ltCps b a = false → ltCps c b = false → ltCps c a = false
  | [], _, [], _, _ => rfl
  | [], _, _ :: _, _, _ => rfl
  | _ :: _, [], _, h, _ => by cases h
  | _ :: _, _ :: _, [], _, h => by cases h
  | x :: a, y :: b, z :: c, h1, h2 => by
    rw [lt_cons] at h1 h2 ⊢
    refine ⟨by omega, fun e => le_tr (h1.2 (by omega)) (h2.2 (by omega))⟩
theorem le_anti : ∀ {a b : List Nat}, ltCps b a = false → ltCps a b = false → a = b
  | [], [], _, _ => rfl
  | [], _ :: _, _, h => by cases h
  | _ :: _, [], h, _ => by cases h
  | x :: a, y :: b, h1, h2 => by
    rw [lt_cons] at h1 h2
    have e : x = y := by omega
    rw [e, le_anti (h1.2 e.symm) (h2.2 e)]
theorem rising_pw : ∀ {l : List Str} {p : Str}, risingS p l = true → (p :: l).Pairwise (fun a b => ltCps b.cps.toList a.cps.toList = false)
  | [], p, _ => List.pairwise_singleton ..
  | x :: r, p, h => by
    have h' : (!ltCps x.cps.toList p.cps.toList && risingS x r) = true := h
    rw [Bool.and_eq_true, Bool.not_eq_true'] at h'
    have ih := rising_pw h'.2
    refine List.pairwise_cons.mpr ⟨fun b hb => ?_, ih⟩
    rcases List.mem_cons.mp hb with rfl | hb
    · exact h'.1
    · exact le_tr h'.1 ((List.pairwise_cons.mp ih).1 b hb)
theorem sorted_pw {l : List Str} (h : sortedS l = true) : l.Pairwise (fun a b => ltCps b.cps.toList a.cps.toList = false) := by
  cases l with
  | nil => exact List.Pairwise.nil
  | cons x r => exact rising_pw h
theorem str_ext {a b : Str} (h : a.cps.toList = b.cps.toList) : a = b := by
  cases a; cases b
  simp only [Str.mk.injEq]
  exact Array.toList_inj.mp h
/-- sorted, each once, the same members: the same list -/
theorem sorted_uniq {xs ys : List Str} (h1 : sortedS xs = true) (h2 : sortedS ys = true) (n1 : xs.Nodup) (n2 : ys.Nodup) (h : ∀ z, z ∈ xs ↔ z ∈ ys) : xs = ys := by
  refine List.Perm.eq_of_pairwise (fun a b _ _ p q => str_ext (le_anti p q)) (sorted_pw h1) (sorted_pw h2) ?_
  exact (List.perm_ext_iff_of_nodup n1 n2).mpr h
/-- a dict whose values are all True -/
def asB (ks : List Str) : List (Key × V) := ks.map fun x => (.inr x, .bl true)
def addN (ks : List Str) (x : Str) : List Str := if x ∈ ks then ks else ks ++ [x]
theorem asB_any (ks : List Str) (x : Str) : ((asB ks).any fun kv => decide (kv.1 = .inr x)) = decide (x ∈ ks) := by
  unfold asB
  rw [List.any_map]
  rw [Bool.eq_iff_iff, List.any_eq_true, decide_eq_true_iff]
  constructor
  · rintro ⟨y, hy, h⟩
    have h' := of_decide_eq_true h
    cases h'
    exact hy
  · intro h
    exact ⟨x, h, decide_eq_true rfl⟩
theorem putK_asB (ks : List Str) (x : Str) : putK (asB ks) (.inr x) (.bl true) = asB (addN ks x) := by
  unfold putK addN
  rw [asB_any]
  by_cases h : x ∈ ks
  · rw [if_pos (decide_eq_true h), if_pos h]
    unfold asB
    rw [List.map_map]
    refine List.map_congr_left fun y _ => ?_
    show (if (Sum.inr y : Key) = .inr x then ((Sum.inr y : Key), V.bl true) else (.inr y, .bl true)) = _
    split <;> rfl
  · rw [if_neg (by rw [decide_eq_false h]; decide), if_neg h]
    unfold asB
    rw [List.map_append]
    rfl
def addAll (ks xs : List Str) : List Str := xs.foldl addN ks
theorem addN_mem (ks : List Str) (x z : Str) : z ∈ addN ks x ↔ z ∈ ks ∨ z = x := by
  unfold addN
  split
  · rename_i h
    exact ⟨.inl, fun k => k.elim id fun e => e ▸ h⟩
  · rw [List.mem_append, List.mem_singleton]
theorem addN_nodup {ks : List Str} (x : Str) (h : ks.Nodup) : (addN ks x).Nodup := by
  unfold addN
  split
  · exact h
  · rename_i hn
    rw [List.nodup_append]
    exact ⟨h, by simp, fun a ha b hb e => hn (by rw [List.mem_singleton] at hb; rw [← hb, ← e]; exact ha)⟩
theorem addAll_mem : ∀ (xs ks : List Str) (z : Str), z ∈ addAll ks xs ↔ z ∈ ks ∨ z ∈ xs
  | [], ks, z => by unfold addAll; simp
  | x :: xs, ks, z => by
    show z ∈ addAll (addN ks x) xs ↔ _
    rw [addAll_mem xs, addN_mem, List.mem_cons, or_assoc]
theorem addAll_nodup : ∀ (xs : List Str) {ks : List Str}, ks.Nodup → (addAll ks xs).Nodup
  | [], _, h => h
  | x :: xs, _, h => addAll_nodup xs (addN_nodup x h)
theorem addAll_app (ks xs ys : List Str) : addAll ks (xs ++ ys) = addAll (addAll ks xs) ys := List.foldl_append
theorem addAll_len : ∀ (xs ks : List Str), (addAll ks xs).length ≤ ks.length + xs.length
  | [], ks => by unfold addAll; simp
  | x :: xs, ks => by
    have h1 := addAll_len xs (addN ks x)
    have h2 : (addN ks x).length ≤ ks.length + 1 := by unfold addN; split <;> simp <;> omega
    show (addAll (addN ks x) xs).length ≤ _
    rw [List.length_cons]
    omega
theorem addAll_snoc (ks xs : List Str) (x : Str) : addAll ks (xs ++ [x]) = addN (addAll ks xs) x := by rw [addAll_app]; rfl
theorem asB_len (ks : List Str) : (asB ks).length = ks.length := by unfold asB; rw [List.length_map]
theorem merge_asB : ∀ (xs ks : List Str), mergeK (asB ks) (asB xs) = asB (addAll ks xs)
  | [], ks => rfl
  | x :: xs, ks => by
    show mergeK (putK (asB ks) (.inr x) (.bl true)) (asB xs) = _
    rw [putK_asB, merge_asB xs]
    rfl
/-- what sorted(..) of the keys gives -/
def NmOf (xs ys : List Str) : Prop := sortedS ys = true ∧ ys.Nodup ∧ ∀ z, z ∈ ys ↔ z ∈ xs
theorem NmOf.uniq {xs xs2 ys zs : List Str} (h : NmOf xs ys) (k : NmOf xs2 zs) (e : ∀ z, z ∈ xs ↔ z ∈ xs2) : ys = zs := sorted_uniq h.1 k.1 h.2.1 k.2.1 fun z => by rw [h.2.2, k.2.2, e]
theorem NmOf.of {xs ys : List Str} (p : ys.Perm (addAll [] xs)) (s : sortedS ys = true) : NmOf xs ys := ⟨s, p.nodup_iff.mpr (addAll_nodup xs List.nodup_nil), fun z => by rw [p.mem_iff, addAll_mem]; simp⟩
/-- all but lists and dicts stays -/
def Kd (H H' : Hp) : Prop := ∀ b o, (∀ xs, o ≠ .lst xs) → (∀ ks, o ≠ .dK ks) → H b = some o → H' b = some o
theorem Kd.tup {H H' : Hp} (e : Kd H H') {a : Addr} {xs : List V} (h : H a = some (.tup xs)) : H' a = some (.tup xs) := e _ _ (fun _ z => by cases z) (fun _ z => by cases z) h
theorem Kd.ins {H H' : Hp} (e : Kd H H') {a C dx : Addr} {fs : List (Str × V)} (h : H a = some (.ins C dx fs)) : H' a = some (.ins C dx fs) := e _ _ (fun _ z => by cases z) (fun _ z => by cases z) h
theorem Kd.sqt {K : PySem.W.Frag} {H H' : Hp} (e : Kd H H') {a : Addr} {xs : List V} (h : SqT K H a xs) : SqT K H' a xs := by
  rcases h with (h | ⟨o, h⟩) | h
  · exact .inl (.inl (e.tup h))
  · exact .inl (.inr ⟨o, e _ _ (fun _ z => by cases z) (fun _ z => by cases z) h⟩)
  · exact .inr h
section
variable {K : PySem.W.Frag} {A : ClsA} {H H' : Hp}
theorem TestO.kd (e : Kd H H') : ∀ {t : TestM} {v : V}, TestO K A H t v → TestO K A H' t v
  | .ask _ _, _, ⟨a, dx, q, h1, h2, h3⟩ => ⟨a, dx, q, h1, e.ins h2, e.sqt h3⟩
  | .not _, _, ⟨a, dx, u, h1, h2, h3⟩ => ⟨a, dx, u, h1, e.ins h2, h3.kd e⟩
mutual
theorem RowO.kd (e : Kd H H') : ∀ {r : RowM} {v : V}, RowO K A H r v → RowO K A H' r v
  | .stop, _, h => by
    obtain ⟨a, dx, h1, h2⟩ := h
    exact ⟨a, dx, h1, e.ins h2⟩
  | .put _ _ _, _, h => by
    obtain ⟨a, dx, q, h1, h2, h3⟩ := h
    exact ⟨a, dx, q, h1, e.ins h2, e.sqt h3⟩
  | .times _ rs, _, h => by
    obtain ⟨a, dx, q, vs, h1, h2, h3, h4⟩ := h
    exact ⟨a, dx, q, vs, h1, e.ins h2, e.sqt h3, RowOs.kd e h4⟩
  | .ifr _ rs os, _, h => by
    obtain ⟨a, dx, u, q, r, vs, ws, h1, h2, h3, h4, h5, h6, h7⟩ := h
    exact ⟨a, dx, u, q, r, vs, ws, h1, e.ins h2, h3.kd e, e.sqt h4, RowOs.kd e h5, e.sqt h6, RowOs.kd e h7⟩
theorem RowOs.kd (e : Kd H H') : ∀ {rs : List RowM} {vs : List V}, RowOs K A H rs vs → RowOs K A H' rs vs
  | [], _, h => h
  | r :: rs, _, h => by
    obtain ⟨v, ws, h1, h2, h3⟩ := h
    exact ⟨v, ws, h1, RowO.kd e h2, RowOs.kd e h3⟩
end
end
theorem pi_listK {X : Cx} {K : PySem.W.Frag} {tg l : Expr} {tl : TE} (hK : X.K = K) (hl : PE X l tl) : PI X tg l (iList K tl) := hK ▸ pi_list hl
theorem pi_tupK {X : Cx} {K : PySem.W.Frag} {tg l : Expr} {tl : TE} (hK : X.K = K) (hl : PE X l tl) : PI X tg l (iTup K tl) := hK ▸ pi_tup hl
theorem nf_own {K : PySem.W.Frag} {C : Addr} : PySem.W.notFirst K C (.ref C) = true := by
  unfold PySem.W.notFirst
  simp
end My
set_option Elab.async false
set_option linter.all false
set_option maxRecDepth 100000
set_option maxHeartbeats 4000000
set_option exponentiation.threshold 5000
namespace My
open PySem PySem.Spec PyProof.Rows L2 Evl
local macro_rules | `(tactic| walk_at "st") => `(tactic| simp only [L2.start, List.map_cons, List.map_nil, List.length_cons, List.length_nil, Nat.reduceAdd, Nat.reduceSub, List.replicate_succ, List.replicate_zero, List.cons_append, List.nil_append, cxOf, List.append_nil])
local macro_rules | `(tactic| walk_at "vc") => `(tactic| try simp only [tSeq, tAsg, tOp, tUn, tVar, tC, tNil, tCons, gName, rI, rI0, rU, tRet, tIfS, tNot, tAnd, tOr, tB, tTest, tCB, tCall, tAndV, tOrV, tNotV, tNext, tNever, tIf, tChain, tYes, tPart, tNoPart, tPar, tDrop, q_isi, q_vn, q_vb, q_vi, q_vs, kb1, kb2, kb3, kb4, kb5, kb6, kb7, kb8, q_int1, q_int2, q_min, q_max, q_repr, tLst, tTup, rEq, rNe, q_sii, q_sss, q_sbb, q_snn, q_sns, q_ssn, q_ix, q_sl, tSl, tBM, tBM0, q_app, q_pop, gSub, rSetL, L2.wipe, eq_self, decide_true, decide_false, tRevL,
  List.getElem?_cons_succ, List.getElem?_cons_zero, List.set_cons_succ, List.set_cons_zero, Option.some.injEq, exists_eq_left', exists_eq_left, V.int.injEq, V.bl.injEq, V.ref.injEq, V.str.injEq, List.cons.injEq, and_true, true_and, List.append_nil, List.nil_append, List.cons_append, exists_and_left, and_assoc, if_true, if_false, Bool.not_true, Bool.not_false, Bool.false_eq_true, Bool.true_eq_false, reduceIte, tRevL, tPar3, tRevT, tUnl, tCKw, forall_const, Bool.not_eq_true', decide_eq_true_eq, decide_eq_false_iff_not])
section
variable {P : Program} {w : World} {K : PySem.W.Frag} {mg : Str → Option Value} {base : Heap}
variable {a_is_integer a_is_number a_is_base a_is_name a_are_rows a_needed a_fits a_is_of a_inner a_flat a_names_in a_bare a_named a_number_of a_joined a_result a_holding a_written a_part a_of_one a_of_two a_power a_run a_came_to a_holds a_law_deal a_law_draw a_law_pick a_law_words a_law_ask_of a_law_row_of a_law_told a_law a_Stopped_init a_Put_init a_If_init a_Times_init a_Ask_init a_Not_init a_Program_init a_Program_call a_Walk_init a_Walk_go a_Walk_do a_Walk_put a_Walk_decide a_Walk_choose a_InvalidBase a_Stopped a_FigureError a_InvalidNumber a_Put a_If a_Times a_Stop a_Ask a_Not a_Row a_Test a_Program a_Walk a_DEEDS a_SIGNS a_WORDS a_If_init_d0 a_Program_init_d0 : Addr} {d_is_integer d_is_number d_is_base d_is_name d_are_rows d_needed d_fits d_is_of d_inner d_flat d_names_in d_bare d_named d_number_of d_joined d_result d_holding d_written d_part d_of_one d_of_two d_power d_run d_came_to d_holds d_law_deal d_law_draw d_law_pick d_law_words d_law_ask_of d_law_row_of d_law_told d_law d_Stopped_init d_Put_init d_If_init d_Times_init d_Ask_init d_Not_init d_Program_init d_Program_call d_Walk_init d_Walk_go d_Walk_do d_Walk_put d_Walk_decide d_Walk_choose : FuncData}
theorem cnts_at : ∀ {rs : List RowM} {i : Nat} {r : RowM}, rs[i]? = some r → r.cnt ≤ RowM.cnts rs
  | [], _, _, e => by simp at e
  | r :: rs, 0, _, e => by cases e; rw [RowM.cnts]; omega
  | r :: rs, i + 1, x, e => by rw [List.getElem?_cons_succ] at e; have := cnts_at e; rw [RowM.cnts]; omega
theorem argT_all {ks : List Str} : ∀ {g : List V}, All2T argOk ks g → ∀ v ∈ g, (∃ x, v = .str x) ∨ ∃ i, v = .int i ∧ i.natAbs.log2 < 1920 := by
  intro g h v hv
  obtain ⟨i, hi⟩ := List.mem_iff_getElem?.mp hv
  obtain ⟨k, _, ok⟩ := h.at_ hi
  rcases ok with ⟨_, x, rfl, _⟩ | ⟨_, j, rfl, _, hl⟩
  · exact .inl ⟨x, rfl⟩
  · exact .inr ⟨j, rfl, hl⟩
theorem catL_of {H : Hp} {p q : Addr} {xs ys : List Str} {Q : VK} (hp : H p = some (.lst (xs.map V.str))) (hq : H q = some (.lst (ys.map V.str))) (hz : xs.length + ys.length ≤ 2000000) (k : ∀ r H', Ex H H' → H r = none → H' r = some (.lst ((xs ++ ys).map V.str)) → Q (.ref r) H') : rCat (.ref p) (.ref q) H Q :=
  ⟨p, q, _, _, rfl, rfl, hp, hq, by rw [List.length_map, List.length_map, sizeLine_eq]; omega, fun r hr => k r _ (Ex.new hr) hr (by rw [upd_same, List.map_append])⟩
/-! ### blocks: what lies in a row, all rows of a program -/
def RowM.inn : RowM → List RowM
  | .times _ rs => rs
  | .ifr _ rs os => rs ++ os
  | _ => []
mutual
def RowM.flat : RowM → List RowM
  | .stop => [.stop]
  | .put n d g => [.put n d g]
  | .times c rs => .times c rs :: RowM.flats rs
  | .ifr t rs os => .ifr t rs os :: (RowM.flats rs ++ RowM.flats os)
def RowM.flats : List RowM → List RowM
  | [] => []
  | r :: rs => r.flat ++ RowM.flats rs
end
theorem flats_app : ∀ as bs : List RowM, RowM.flats (as ++ bs) = RowM.flats as ++ RowM.flats bs
  | [], bs => by rw [List.nil_append, RowM.flats, List.nil_append]
  | a :: as, bs => by rw [List.cons_append, RowM.flats, RowM.flats, flats_app as bs, List.append_assoc]
theorem flat_inn (r : RowM) : r.flat = r :: RowM.flats r.inn := by
  cases r with
  | stop => rw [RowM.flat, show RowM.inn .stop = [] from rfl, RowM.flats]
  | put n d g => rw [RowM.flat, show RowM.inn (.put n d g) = [] from rfl, RowM.flats]
  | times c rs => rw [RowM.flat, RowM.inn]
  | ifr t rs os => rw [RowM.flat, RowM.inn, flats_app]
mutual
theorem flat_len : ∀ r : RowM, r.flat.length = r.cnt
  | .stop => by rw [RowM.flat, RowM.cnt]; rfl
  | .put _ _ _ => by rw [RowM.flat, RowM.cnt]; rfl
  | .times _ rs => by rw [RowM.flat, RowM.cnt, List.length_cons, flats_len rs]; omega
  | .ifr _ rs os => by rw [RowM.flat, RowM.cnt, List.length_cons, List.length_append, flats_len rs, flats_len os]; omega
theorem flats_len : ∀ rs : List RowM, (RowM.flats rs).length = RowM.cnts rs
  | [] => by rw [RowM.flats, RowM.cnts]; rfl
  | r :: rs => by rw [RowM.flats, RowM.cnts, List.length_append, flat_len r, flats_len rs]
end
theorem inn_cnt (r : RowM) : r.cnt = 1 + RowM.cnts r.inn := by rw [← flat_len, flat_inn, List.length_cons, flats_len]; omega
theorem inn_dep (r : RowM) : r.inn ≠ [] → RowM.deps r.inn < r.dep := by
  cases r with
  | stop => intro h; exact absurd rfl h
  | put n d g => intro h; exact absurd rfl h
  | times c rs => intro _; rw [RowM.inn, RowM.dep]; omega
  | ifr t rs os => intro _; rw [RowM.inn, RowM.dep, deps_app]; omega
theorem RowOs.app {K : PySem.W.Frag} {A : ClsA} {H : Hp} : ∀ {rs os : List RowM} {vs ws : List V}, RowOs K A H rs vs → RowOs K A H os ws → RowOs K A H (rs ++ os) (vs ++ ws)
  | [], _, _, _, h, k => by unfold RowOs at h; rw [h]; exact k
  | r :: rs, os, _, ws, h, k => by
    unfold RowOs at h
    obtain ⟨v, us, rfl, h2, h3⟩ := h
    show RowOs K A H (r :: (rs ++ os)) (v :: (us ++ ws))
    unfold RowOs
    exact ⟨v, us ++ ws, rfl, h2, RowOs.app h3 k⟩
theorem RowOs.one {K : PySem.W.Frag} {A : ClsA} {H : Hp} {r : RowM} {v : V} (h : RowO K A H r v) : RowOs K A H [r] [v] := by
  unfold RowOs
  exact ⟨v, [], rfl, h, by unfold RowOs; rfl⟩
theorem RowOs.take {K : PySem.W.Frag} {A : ClsA} {H : Hp} : ∀ {rs : List RowM} {vs : List V} (i : Nat), RowOs K A H rs vs → RowOs K A H (rs.take i) (vs.take i)
  | [], _, i, h => by unfold RowOs at h; subst h; simp [RowOs]
  | r :: rs, _, 0, h => by rw [List.take_zero, List.take_zero]; unfold RowOs; rfl
  | r :: rs, _, i + 1, h => by
    unfold RowOs at h
    obtain ⟨v, us, rfl, h2, h3⟩ := h
    rw [List.take_succ_cons, List.take_succ_cons]
    unfold RowOs
    exact ⟨v, us.take i, rfl, h2, RowOs.take i h3⟩
theorem take_flats (rs : List RowM) (i : Nat) {r : RowM} (h : rs[i]? = some r) : RowM.flats (rs.take (i + 1)) = RowM.flats (rs.take i) ++ r.flat := by
  rw [List.take_add_one, h, flats_app]
  simp [RowM.flats]
theorem cnts_take (rs : List RowM) (i : Nat) : RowM.cnts (rs.take i) ≤ RowM.cnts rs := by
  conv => rhs; rw [← List.take_append_drop i rs, cnts_app]
  omega
/-- is a row of the class at place j of A's list -/
theorem isClsR (T : Txt w K mg a_is_integer a_is_number a_is_base a_is_name a_are_rows a_needed a_fits a_is_of a_inner a_flat a_names_in a_bare a_named a_number_of a_joined a_result a_holding a_written a_part a_of_one a_of_two a_power a_run a_came_to a_holds a_law_deal a_law_draw a_law_pick a_law_words a_law_ask_of a_law_row_of a_law_told a_law a_Stopped_init a_Put_init a_If_init a_Times_init a_Ask_init a_Not_init a_Program_init a_Program_call a_Walk_init a_Walk_go a_Walk_do a_Walk_put a_Walk_decide a_Walk_choose a_InvalidBase a_Stopped a_FigureError a_InvalidNumber a_Put a_If a_Times a_Stop a_Ask a_Not a_Row a_Test a_Program a_Walk a_DEEDS a_SIGNS a_WORDS a_If_init_d0 a_Program_init_d0 d_is_integer d_is_number d_is_base d_is_name d_are_rows d_needed d_fits d_is_of d_inner d_flat d_names_in d_bare d_named d_number_of d_joined d_result d_holding d_written d_part d_of_one d_of_two d_power d_run d_came_to d_holds d_law_deal d_law_draw d_law_pick d_law_words d_law_ask_of d_law_row_of d_law_told d_law d_Stopped_init d_Put_init d_If_init d_Times_init d_Ask_init d_Not_init d_Program_init d_Program_call d_Walk_init d_Walk_go d_Walk_do d_Walk_put d_Walk_decide d_Walk_choose) {H : Hp} {r : RowM} {v : V} {Q : VK} (j : Nat) (b : Bool) (hj : j < 8) (hb : ansO r.ci j = b) (h : RowO K ⟨a_Put, a_If, a_Times, a_Stop, a_Ask, a_Not⟩ H r v) (q : ∀ a dx fs C, v = .ref a → H a = some (.ins C dx fs) → r.ci < 4 → C = (clsL ⟨a_Put, a_If, a_Times, a_Stop, a_Ask, a_Not⟩ a_Row a_Test).getD r.ci 0 → Q (.bl b) H) : rIsi K [v, .ref ((clsL ⟨a_Put, a_If, a_Times, a_Stop, a_Ask, a_Not⟩ a_Row a_Test).getD j 0)] H Q := by
  obtain ⟨a, dx, fs, C, rfl, h1, hC⟩ := h.cls
  have c2 := h.ci_of T.kits h1
  refine ⟨_, _, _, _, b, rfl, .own _, isTy T h1 hC, ?_, q a dx fs C rfl h1 c2.1 c2.2⟩
  rw [c2.2, ← hb]
  exact kitO1 T.kits r.ci j (by omega) hj
def sp_inner (K : PySem.W.Frag) (A : ClsA) : Sp
  | [v], H, Q, _ => ∃ r, RowO K A H r v ∧ r.cnt ≤ 1000 ∧ ∀ q ws H', Ex H H' → SqT K H' q ws → RowOs K A H' r.inn ws → Q (.ref q) H'
  | _, _, _, _ => False
theorem ok_inner (T : Txt w K mg a_is_integer a_is_number a_is_base a_is_name a_are_rows a_needed a_fits a_is_of a_inner a_flat a_names_in a_bare a_named a_number_of a_joined a_result a_holding a_written a_part a_of_one a_of_two a_power a_run a_came_to a_holds a_law_deal a_law_draw a_law_pick a_law_words a_law_ask_of a_law_row_of a_law_told a_law a_Stopped_init a_Put_init a_If_init a_Times_init a_Ask_init a_Not_init a_Program_init a_Program_call a_Walk_init a_Walk_go a_Walk_do a_Walk_put a_Walk_decide a_Walk_choose a_InvalidBase a_Stopped a_FigureError a_InvalidNumber a_Put a_If a_Times a_Stop a_Ask a_Not a_Row a_Test a_Program a_Walk a_DEEDS a_SIGNS a_WORDS a_If_init_d0 a_Program_init_d0 d_is_integer d_is_number d_is_base d_is_name d_are_rows d_needed d_fits d_is_of d_inner d_flat d_names_in d_bare d_named d_number_of d_joined d_result d_holding d_written d_part d_of_one d_of_two d_power d_run d_came_to d_holds d_law_deal d_law_draw d_law_pick d_law_words d_law_ask_of d_law_row_of d_law_told d_law d_Stopped_init d_Put_init d_If_init d_Times_init d_Ask_init d_Not_init d_Program_init d_Program_call d_Walk_init d_Walk_go d_Walk_do d_Walk_put d_Walk_decide d_Walk_choose) : FnOk P w K mg base CX0 1 a_inner d_inner ["row"] (sp_inner K ⟨a_Put, a_If, a_Times, a_Stop, a_Ask, a_Not⟩) := by
  refine T.F_inner.ok sc_inner (fun vs H Q E h => ?_) (fun cdv A outer s H vs Q E hr h => ?_)
  · unfold sp_inner at h; split at h; rfl; exact h.elim
  unfold sp_inner at h; split at h
  case h_2 => exact h.elim
  rename_i v
  obtain ⟨r, hO, hc, q⟩ := h
  refine ⟨_, (pss_cons (ps_if (pt_val (pe_callB (call_isiK (K := K)) (by rfl) T.z_isinstance (by decide +kernel) (pa_cons (pv 0) (pa_cons (pe_glob (v := .ref a_If) (by rfl) T.g_If rfl) pa_nil))))
      (pss_one (ps_ret (pe_op op_catA (pe_fld (pv 0) (by rfl)) (pe_fld (pv 0) (by rfl)))))
      pss_nil)
      (pss_cons (ps_if (pt_val (pe_callB (call_isiK (K := K)) (by rfl) T.z_isinstance (by decide +kernel) (pa_cons (pv 0) (pa_cons (pe_glob (v := .ref a_Times) (by rfl) T.g_Times rfl) pa_nil))))
      (pss_one (ps_ret (pe_fld (pv 0) (by rfl))))
      pss_nil)
      (pss_one (ps_ret (pe_tup pa_nil))))), ?_⟩
  walk_at "st"
  walk_at "vc"
  cases r with
  | stop =>
    refine isClsR T 1 false (by decide) rfl hO fun a dx fs C e ha _ hC => ⟨_, rfl, ?_⟩
    rw [if_neg (show ¬ false = true by decide)]
    refine isClsR T 2 false (by decide) rfl hO fun a dx fs C e ha _ hC => ⟨_, rfl, ?_⟩
    rw [if_neg (show ¬ false = true by decide)]
    exact ⟨sz_le (by simp), fun p hp => q p [] _ (Ex.new hp) (st_of upd_same) (show RowOs K _ _ [] [] by unfold RowOs; rfl)⟩
  | put n d g =>
    refine isClsR T 1 false (by decide) rfl hO fun a dx fs C e ha _ hC => ⟨_, rfl, ?_⟩
    rw [if_neg (show ¬ false = true by decide)]
    refine isClsR T 2 false (by decide) rfl hO fun a dx fs C e ha _ hC => ⟨_, rfl, ?_⟩
    rw [if_neg (show ¬ false = true by decide)]
    exact ⟨sz_le (by simp), fun p hp => q p [] _ (Ex.new hp) (st_of upd_same) (show RowOs K _ _ [] [] by unfold RowOs; rfl)⟩
  | times c rs =>
    refine isClsR T 1 false (by decide) rfl hO fun a dx fs C e ha _ hC => ⟨_, rfl, ?_⟩
    rw [if_neg (show ¬ false = true by decide)]
    refine isClsR T 2 true (by decide) rfl hO fun a dx fs C e ha _ hC => ⟨_, rfl, ?_⟩
    rw [if_pos (show true = true from rfl)]
    unfold RowO at hO
    obtain ⟨b, dy, q0, vs, rfl, h2, h3, h4⟩ := hO
    exact ⟨_, rfl, b, _, dy, _, .ref q0, rfl, h2, T.oc_Times.cl, T.nF_Times_rows, rfl, q q0 vs H (Ex.refl H) h3 h4⟩
  | ifr t rs os =>
    refine isClsR T 1 true (by decide) rfl hO fun a dx fs C e ha _ hC => ⟨_, rfl, ?_⟩
    rw [if_pos (show true = true from rfl)]
    unfold RowO at hO
    obtain ⟨b, dy, u, q0, q1, vs, ws, rfl, h2, _, h3, h4, h5, h6⟩ := hO
    rw [RowM.cnt] at hc
    have l1 := h4.len
    have l2 := h6.len
    have c1 := cnts_len rs
    have c2 := cnts_len os
    exact ⟨_, rfl, b, _, dy, _, .ref q0, rfl, h2, T.oc_If.cl, T.nF_If_rows, rfl, _, rfl, b, _, dy, _, .ref q1, rfl, h2, T.oc_If.cl, T.nF_If_others, rfl, catA_of h3 h5 (sz_le (by omega)) fun r H' e1 hr => q r (vs ++ ws) H' e1 hr ((h4.app h6).kp (Kp.of_ex e1))⟩
def sp_flat (K : PySem.W.Frag) (A : ClsA) (n : Nat) : Sp
  | [.ref p], H, Q, _ => ∃ rs vs, (H p = some (.lst vs) ∨ SqT K H p vs) ∧ RowOs K A H rs vs ∧ (RowM.deps rs + 1 < n ∨ (rs = [] ∧ 0 < n)) ∧ RowM.cnts rs ≤ 1000 ∧ ∀ D ws H', Ex H H' → H D = none → H' D = some (.lst ws) → RowOs K A H' (RowM.flats rs) ws → Q (.ref D) H'
  | _, _, _, _ => False
def C_flat (K : PySem.W.Frag) (A : ClsA) (D : Addr) (rs : List RowM) (H : Hp) : Nat → Hp → Prop := fun i H' => ∃ ws, H' D = some (.lst ws) ∧ RowOs K A H' (RowM.flats (rs.take i)) ws ∧ Ex H H'
theorem C_flat.ex {K : PySem.W.Frag} {A : ClsA} {D : Addr} {rs : List RowM} {H : Hp} {i : Nat} {H' : Hp} (h : C_flat K A D rs H i H') : Ex H H' := h.choose_spec.2.2
theorem ok_flat (T : Txt w K mg a_is_integer a_is_number a_is_base a_is_name a_are_rows a_needed a_fits a_is_of a_inner a_flat a_names_in a_bare a_named a_number_of a_joined a_result a_holding a_written a_part a_of_one a_of_two a_power a_run a_came_to a_holds a_law_deal a_law_draw a_law_pick a_law_words a_law_ask_of a_law_row_of a_law_told a_law a_Stopped_init a_Put_init a_If_init a_Times_init a_Ask_init a_Not_init a_Program_init a_Program_call a_Walk_init a_Walk_go a_Walk_do a_Walk_put a_Walk_decide a_Walk_choose a_InvalidBase a_Stopped a_FigureError a_InvalidNumber a_Put a_If a_Times a_Stop a_Ask a_Not a_Row a_Test a_Program a_Walk a_DEEDS a_SIGNS a_WORDS a_If_init_d0 a_Program_init_d0 d_is_integer d_is_number d_is_base d_is_name d_are_rows d_needed d_fits d_is_of d_inner d_flat d_names_in d_bare d_named d_number_of d_joined d_result d_holding d_written d_part d_of_one d_of_two d_power d_run d_came_to d_holds d_law_deal d_law_draw d_law_pick d_law_words d_law_ask_of d_law_row_of d_law_told d_law d_Stopped_init d_Put_init d_If_init d_Times_init d_Ask_init d_Not_init d_Program_init d_Program_call d_Walk_init d_Walk_go d_Walk_do d_Walk_put d_Walk_decide d_Walk_choose) : ∀ n : Nat, n ≤ 90 → FnOk P w K mg base CX0 (n + 1) a_flat d_flat ["rows"] (sp_flat K ⟨a_Put, a_If, a_Times, a_Stop, a_Ask, a_Not⟩ n)
  | 0, _ => by
    refine T.F_flat.ok sc_flat (fun vs H Q E h => ?_) (fun cdv A outer s H vs Q E hr h => ?_)
    · unfold sp_flat at h; split at h; rfl; exact h.elim
    · unfold sp_flat at h; split at h
      case h_2 => exact h.elim
      obtain ⟨t, _, _, _, h1, _⟩ := h
      exact absurd h1 (by omega)
  | n + 1, hn => by
    have G_flat := ok_flat T n (by omega)
    have G_inner := (ok_inner (P := P) (w := w) (base := base) T).mono (show 1 ≤ n + 1 by omega)
    refine T.F_flat.ok sc_flat (fun vs H Q E h => ?_) (fun cdv A outer s H vs Q E hr h => ?_)
    · unfold sp_flat at h; split at h; rfl; exact h.elim
    unfold sp_flat at h; split at h
    case h_2 => exact h.elim
    rename_i p
    obtain ⟨rs, vs, hp, hO, hd, hc, q⟩ := h
    refine ⟨_, (pss_cons (ps_set (i := 1) sc_flat.nd rfl (by first | exact .inl rfl | exact .inr rfl) (pe_lst pa_nil))
      (Evl.pss_cut (ps_for PassesOwn.never rfl (pi_lt (pv 0)) (pg_name (i := 2) sc_flat.nd rfl (by first | exact .inl rfl | exact .inr rfl))
      (pss_cons (ps_expr (pe_bm PySem.F.plainAttrs_list PySem.F.slot_list_append PySem.F.type_list_append mt_appendM (pv 1) (pa_cons (pv 2) pa_nil)))
      (pss_one (ps_expr (pe_bm PySem.F.plainAttrs_list PySem.F.slot_list_extend PySem.F.type_list_extend mt_extend (pv 1) (pa_cons (pe_call G_flat (hr.mono (by omega)) (by rfl) T.g_flat T.F_flat.kp T.b_flat .nil pass0 (pa_cons (pe_call G_inner (hr.mono (by omega)) (by rfl) T.g_inner T.F_inner.kp T.b_inner .nil pass0 (pa_cons (pv 2) pa_nil)) pa_nil)) pa_nil))))))
      (pss_one (ps_ret (pv 1))))), ?_⟩
    walk_at "st"
    walk_at "vc"
    refine ⟨sz_le (by simp), fun D hD => ⟨fun σ H' => ∃ x ws, σ = [some (.ref p), some (.ref D), x] ∧ H' D = some (.lst ws) ∧ RowOs K ⟨a_Put, a_If, a_Times, a_Stop, a_Ask, a_Not⟩ H' (RowM.flats rs) ws ∧ Ex H H', ?_, fun σ H' hm => ?_⟩⟩
    · refine ⟨.ref p, rfl, for_LT (xs := vs) (fun i σ H' => ∃ x, σ = [some (.ref p), some (.ref D), x] ∧ C_flat K ⟨a_Put, a_If, a_Times, a_Stop, a_Ask, a_Not⟩ D rs H i H') ⟨_, rfl, ⟨[], upd_same, by rw [List.take_zero, RowM.flats]; unfold RowOs; rfl, Ex.new hD⟩⟩ (hp.imp (fun hp i σ H' _ hv => sq_of (hv.choose_spec.2.ex _ _ hp)) (fun hp i σ H' _ hv => (Kp.of_ex hv.choose_spec.2.ex).sqt hp)) (fun i v σ H' hi hv => ?_) (fun σ H' hv => ?_)⟩
      · obtain ⟨x, rfl, hC⟩ := hv
        walk_at "vc"
        obtain ⟨ws, hD1, hW, e1⟩ := hC
        obtain ⟨r, hr0, hr1⟩ := hO.at_ hi
        have hcr := cnts_at hr0
        have hdr := deps_at hr0
        have hic := inn_cnt r
        have hLw := hW.len
        have hLt := cnts_take rs i
        rw [flats_len] at hLw
        have hne : rs ≠ [] := fun z => by rw [z] at hr0; simp at hr0
        have kp1 := Kp.updL (ys := ws ++ [v]) hD1
        refine ⟨.inl ⟨rfl, _, sq_of hD1⟩, ws, hD1, sz_lt (by omega), .inl ⟨rfl, _, sq_of upd_same⟩, ?_⟩
        refine ⟨r, (hr1.kp (Kp.of_ex e1)).kp kp1, by omega, fun q1 us H2 e2 hq1 hU => ?_⟩
        refine ⟨r.inn, us, .inr hq1, hU, ?_, by omega, fun D2 zs H3 e3 hn3 hD2 hZ => ?_⟩
        · by_cases hi0 : r.inn = []
          · refine .inr ⟨hi0, ?_⟩
            rcases hd with hd | hd
            · omega
            · exact absurd hd.1 hne
          · refine .inl ?_
            have := inn_dep r hi0
            rcases hd with hd | hd
            · omega
            · exact absurd hd.1 hne
        · have hzl := hZ.len
          rw [flats_len] at hzl
          have e23 := e2.trans e3
          have w3 := e23 _ _ (upd_same (H := H') (a := D) (o := .lst (ws ++ [v])))
          refine ⟨D, D2, _, _, rfl, rfl, w3, hD2, sz_le (by simp; omega), ws ++ [v] ++ zs, upd_same, ?_, ?_⟩
          · have kp3 := Kp.updL (ys := ws ++ [v] ++ zs) w3
            have ka := (kp1.trans (Kp.of_ex e23)).trans kp3
            rw [take_flats rs i hr0, flat_inn r]
            have h3 := ((hW.kp ka).app (RowOs.one ((hr1.kp (Kp.of_ex e1)).kp ka))).app (hZ.kp kp3)
            rw [List.append_assoc (RowM.flats _)] at h3
            exact h3
          · exact ((e1.mut hD).trans e23).mut hD
      · obtain ⟨x, rfl, hC⟩ := hv
        rw [hO.len] at hC
        obtain ⟨ws, h1, h2, h3⟩ := hC
        rw [List.take_length] at h2
        exact ⟨x, ws, rfl, h1, h2, h3⟩
    · obtain ⟨x, ws, rfl, h1, h2, h3⟩ := hm
      walk_at "vc"
      exact q D ws H' h3 hD h1 h2
/-! ### the names in rows -/
def TestM.core : TestM → Str × List Str
  | .ask x ns => (x, ns)
  | .not t => t.core
def TestM.odd : TestM → Bool
  | .ask _ _ => true
  | .not t => !t.odd
def sp_bare (K : PySem.W.Frag) (A : ClsA) : Sp
  | [u], H, Q, _ => ∃ t, TestO K A H t u ∧ t.dep < 90 ∧ ∀ q u2 H', Ex H H' → SqT K H' q [u2, .bl t.odd] → TestO K A H' (.ask t.core.1 t.core.2) u2 → Q (.ref q) H'
  | _, _, _, _ => False
theorem ok_bare (T : Txt w K mg a_is_integer a_is_number a_is_base a_is_name a_are_rows a_needed a_fits a_is_of a_inner a_flat a_names_in a_bare a_named a_number_of a_joined a_result a_holding a_written a_part a_of_one a_of_two a_power a_run a_came_to a_holds a_law_deal a_law_draw a_law_pick a_law_words a_law_ask_of a_law_row_of a_law_told a_law a_Stopped_init a_Put_init a_If_init a_Times_init a_Ask_init a_Not_init a_Program_init a_Program_call a_Walk_init a_Walk_go a_Walk_do a_Walk_put a_Walk_decide a_Walk_choose a_InvalidBase a_Stopped a_FigureError a_InvalidNumber a_Put a_If a_Times a_Stop a_Ask a_Not a_Row a_Test a_Program a_Walk a_DEEDS a_SIGNS a_WORDS a_If_init_d0 a_Program_init_d0 d_is_integer d_is_number d_is_base d_is_name d_are_rows d_needed d_fits d_is_of d_inner d_flat d_names_in d_bare d_named d_number_of d_joined d_result d_holding d_written d_part d_of_one d_of_two d_power d_run d_came_to d_holds d_law_deal d_law_draw d_law_pick d_law_words d_law_ask_of d_law_row_of d_law_told d_law d_Stopped_init d_Put_init d_If_init d_Times_init d_Ask_init d_Not_init d_Program_init d_Program_call d_Walk_init d_Walk_go d_Walk_do d_Walk_put d_Walk_decide d_Walk_choose) : FnOk P w K mg base CX0 1 a_bare d_bare ["test"] (sp_bare K ⟨a_Put, a_If, a_Times, a_Stop, a_Ask, a_Not⟩) := by
  refine T.F_bare.ok sc_bare (fun vs H Q E h => ?_) (fun cdv A outer s H vs Q E hr h => ?_)
  · unfold sp_bare at h; split at h; rfl; exact h.elim
  unfold sp_bare at h; split at h
  case h_2 => exact h.elim
  rename_i u
  obtain ⟨t, hO, hd, q⟩ := h
  refine ⟨_, (pss_cons (ps_set (i := 1) sc_bare.nd rfl (by first | exact .inl rfl | exact .inr rfl) pe_bl)
      (Evl.pss_cut (ps_while PassesOwn.never (pt_val (pe_callB (call_isiK (K := K)) (by rfl) T.z_isinstance (by decide +kernel) (pa_cons (pv 0) (pa_cons (pe_glob (v := .ref a_Not) (by rfl) T.g_Not rfl) pa_nil))))
      (pss_cons (ps_set (i := 0) sc_bare.nd rfl (by first | exact .inl rfl | exact .inr rfl) (pe_fld (pv 0) (by rfl)))
      (pss_one (ps_set (i := 1) sc_bare.nd rfl (by first | exact .inl rfl | exact .inr rfl) (pe_not (pv 1))))))
      (pss_one (ps_ret (pe_tup (pa_cons (pv 0) (pa_cons (pv 1) pa_nil))))))), ?_⟩
  walk_at "st"
  walk_at "vc"
  refine ⟨fun σ H' => H' = H ∧ ∃ u' b, σ = [some u', some (.bl b)] ∧ TestO K ⟨a_Put, a_If, a_Times, a_Stop, a_Ask, a_Not⟩ H (.ask t.core.1 t.core.2) u' ∧ b = t.odd, ⟨fun m σ H' => H' = H ∧ ∃ s u' b, σ = [some u', some (.bl b)] ∧ TestO K ⟨a_Put, a_If, a_Times, a_Stop, a_Ask, a_Not⟩ H s u' ∧ s.dep = m ∧ s.core = t.core ∧ t.odd = (b == s.odd), ⟨_, rfl, t, u, true, rfl, hO, rfl, rfl, by cases t.odd <;> rfl⟩, fun m σ H' hw => ?_⟩, fun σ H' hm => ?_⟩
  · obtain ⟨rfl, s, u', b, rfl, hs, rfl, hc, ho⟩ := hw
    walk_at "vc"
    cases s with
    | ask x ns =>
      obtain ⟨a, dx, q0, rfl, h2, h3⟩ := hs
      refine ⟨_, _, _, _, false, rfl, .own _, T.oc_Ask.ty h2, kitO1 T.kits 4 5 (by decide) (by decide), _, rfl, ?_⟩
      rw [if_neg (by decide)]
      rw [← hc]
      refine ⟨rfl, ⟨a, dx, q0, rfl, h2, h3⟩, ?_⟩
      rw [ho]
      cases b <;> rfl
    | not s =>
      obtain ⟨a, dx, v, rfl, h2, h3⟩ := hs
      refine ⟨_, _, _, _, true, rfl, .own _, T.oc_Not.ty h2, kitO1 T.kits 5 5 (by decide) (by decide), _, rfl, ?_⟩
      rw [if_pos rfl]
      refine ⟨_, fun _ _ hN => hN, _, rfl, a, _, dx, _, v, rfl, h2, T.oc_Not.cl, T.nF_Not_test, rfl, s.dep, Nat.lt_succ_self _, ?_⟩
      refine ⟨rfl, _, _, _, rfl, h3, rfl, hc, ?_⟩
      rw [ho, TestM.odd]
      cases b <;> cases s.odd <;> rfl
  · obtain ⟨rfl, u', b, rfl, h3, rfl⟩ := hm
    walk_at "vc"
    refine ⟨sz_le (by simp), fun p hp => ?_⟩
    have ep := Ex.new hp (o := .tup [u', .bl t.odd])
    exact q p u' _ ep (st_of upd_same) (h3.kp (Kp.of_ex ep))
/-- the names that a row names itself -/
def strOf : V → Option Str
  | .str x => some x
  | _ => none
def RowM.nms : RowM → List Str
  | .put n _ g => n :: g.filterMap strOf
  | .ifr t _ _ => t.core.2
  | _ => []
def sp_named (K : PySem.W.Frag) (A : ClsA) : Sp
  | [v], H, Q, _ => ∃ r, RowO K A H r v ∧ r.ok ∧ r.sm ∧ ∀ D H', Ex H H' → H D = none → H' D = some (.lst (r.nms.map V.str)) → Q (.ref D) H'
  | _, _, _, _ => False
def C_nmd (D : Addr) (g : List V) (H : Hp) : Nat → Hp → Prop := fun i H' => H' D = some (.lst (((g.take i).filterMap strOf).map V.str)) ∧ Ex H H'
theorem ok_named (T : Txt w K mg a_is_integer a_is_number a_is_base a_is_name a_are_rows a_needed a_fits a_is_of a_inner a_flat a_names_in a_bare a_named a_number_of a_joined a_result a_holding a_written a_part a_of_one a_of_two a_power a_run a_came_to a_holds a_law_deal a_law_draw a_law_pick a_law_words a_law_ask_of a_law_row_of a_law_told a_law a_Stopped_init a_Put_init a_If_init a_Times_init a_Ask_init a_Not_init a_Program_init a_Program_call a_Walk_init a_Walk_go a_Walk_do a_Walk_put a_Walk_decide a_Walk_choose a_InvalidBase a_Stopped a_FigureError a_InvalidNumber a_Put a_If a_Times a_Stop a_Ask a_Not a_Row a_Test a_Program a_Walk a_DEEDS a_SIGNS a_WORDS a_If_init_d0 a_Program_init_d0 d_is_integer d_is_number d_is_base d_is_name d_are_rows d_needed d_fits d_is_of d_inner d_flat d_names_in d_bare d_named d_number_of d_joined d_result d_holding d_written d_part d_of_one d_of_two d_power d_run d_came_to d_holds d_law_deal d_law_draw d_law_pick d_law_words d_law_ask_of d_law_row_of d_law_told d_law d_Stopped_init d_Put_init d_If_init d_Times_init d_Ask_init d_Not_init d_Program_init d_Program_call d_Walk_init d_Walk_go d_Walk_do d_Walk_put d_Walk_decide d_Walk_choose) : FnOk P w K mg base CX0 2 a_named d_named ["row"] (sp_named K ⟨a_Put, a_If, a_Times, a_Stop, a_Ask, a_Not⟩) := by
  have G_bare := ok_bare (P := P) (w := w) (base := base) T
  refine T.F_named.ok sc_named (fun vs H Q E h => ?_) (fun cdv A outer s H vs Q E hr h => ?_)
  · unfold sp_named at h; split at h; rfl; exact h.elim
  unfold sp_named at h; split at h
  case h_2 => exact h.elim
  rename_i v
  obtain ⟨r, hO, hok, hsm, q⟩ := h
  refine ⟨_, (pss_cons (ps_if (pt_val (pe_callB (call_isiK (K := K)) (by rfl) T.z_isinstance (by decide +kernel) (pa_cons (pv 0) (pa_cons (pe_glob (v := .ref a_Put) (by rfl) T.g_Put rfl) pa_nil))))
      (pss_one (ps_ret (pe_op op_cat (pe_lst (pa_cons (pe_fld (pv 0) (by rfl)) pa_nil)) (pe_lc (own := [("one", 1)]) (g := gName 1) (by rfl) sc_named.nd (pi_tup (pe_fld (pv 0) (by rfl))) (blkOk_by (own := [("one", 1)]) (N := N_named) (sc := defScope s_named) (by decide +kernel)) (fun _ _ _ _ _ => (pg_name (i := 1) sc_named.nd rfl (by first | exact .inl rfl | exact .inr rfl))) (fun _ _ _ _ _ => (pts_one (pt_val (pe_callB call_isiV (by rfl) T.z_isinstance (by decide +kernel) (pa_cons (pv 1) (pa_cons (pe_bltn (v := .ty "str") (by rfl) T.z_str (by decide +kernel) rfl) pa_nil)))))) (fun _ _ _ _ _ => (pv 1))))))
      pss_nil)
      (pss_cons (ps_if (pt_val (pe_callB (call_isiK (K := K)) (by rfl) T.z_isinstance (by decide +kernel) (pa_cons (pv 0) (pa_cons (pe_glob (v := .ref a_If) (by rfl) T.g_If rfl) pa_nil))))
      (pss_one (ps_ret (pe_callTy call_list_of (by rfl) T.z_list (by decide +kernel) (pa_cons (pe_fld (pe_ix ix_tup (pe_call G_bare (hr.mono (by omega)) (by rfl) T.g_bare T.F_bare.kp T.b_bare .nil pass0 (pa_cons (pe_fld (pv 0) (by rfl)) pa_nil)) pe_int (fun _ _ => rfl)) (by rfl)) pa_nil))))
      pss_nil)
      (pss_one (ps_ret (pe_lst pa_nil))))), ?_⟩
  walk_at "st"
  walk_at "vc"
  cases r with
  | stop =>
    refine isClsR T 0 false (by decide) rfl hO fun a dx fs C e ha _ hC => ⟨_, rfl, ?_⟩
    rw [if_neg (show ¬ false = true by decide)]
    refine isClsR T 1 false (by decide) rfl hO fun a dx fs C e ha _ hC => ⟨_, rfl, ?_⟩
    rw [if_neg (show ¬ false = true by decide)]
    exact ⟨sz_le (by simp), fun p hp => q p _ (Ex.new hp) hp upd_same⟩
  | times c rs =>
    refine isClsR T 0 false (by decide) rfl hO fun a dx fs C e ha _ hC => ⟨_, rfl, ?_⟩
    rw [if_neg (show ¬ false = true by decide)]
    refine isClsR T 1 false (by decide) rfl hO fun a dx fs C e ha _ hC => ⟨_, rfl, ?_⟩
    rw [if_neg (show ¬ false = true by decide)]
    exact ⟨sz_le (by simp), fun p hp => q p _ (Ex.new hp) hp upd_same⟩
  | ifr t rs os =>
    refine isClsR T 0 false (by decide) rfl hO fun a dx fs C e ha _ hC => ⟨_, rfl, ?_⟩
    rw [if_neg (show ¬ false = true by decide)]
    refine isClsR T 1 true (by decide) rfl hO fun a dx fs C e ha _ hC => ⟨_, rfl, ?_⟩
    rw [if_pos (show true = true from rfl)]
    unfold RowO at hO
    obtain ⟨b, dy, u, q0, q1, vs, ws, rfl, h2, ht, h3, h4, h5, h6⟩ := hO
    have htd := hok.2.1
    walk_at "vc"
    refine ⟨_, rfl, b, _, dy, _, u, rfl, h2, T.oc_If.cl, T.nF_If_test, rfl, t, ht, by omega, fun p u2 H1 e1 hp hu => ?_⟩
    obtain ⟨a3, dx3, q3, rfl, h7, h8⟩ := hu
    refine ⟨p, _, _, _, rfl, rfl, hp, rfl, a3, _, dx3, _, .ref q3, rfl, h7, T.oc_Ask.cl, T.nF_Ask_names, rfl, q3, rfl, _, .inr h8, fun l hl => q l _ (e1.trans (Ex.new hl)) ?_ upd_same⟩
    exact e_none e1 hl
  | put n d g =>
    refine isClsR T 0 true (by decide) rfl hO fun a dx fs C e ha _ hC => ⟨_, rfl, ?_⟩
    rw [if_pos (show true = true from rfl)]
    unfold RowO at hO
    obtain ⟨b, dy, q0, rfl, h2, h3⟩ := hO
    refine ⟨_, rfl, b, _, dy, _, .str n, rfl, h2, T.oc_Put.cl, T.nF_Put_name, rfl, sz_le (by simp), fun p hp => ?_⟩
    have ep := Ex.new hp (o := .lst [.str n])
    refine ⟨_, rfl, b, _, dy, _, .ref q0, rfl, ep _ _ h2, T.oc_Put.cl, T.nF_Put_given, rfl, q0, rfl, ⟨_, (Kp.of_ex ep).sqt h3⟩, fun D hD => lc_it (walk_tup (xs := g)) (C_nmd D g (upd H p (.lst [.str n]))) ⟨upd_same, Ex.new hD⟩ (fun i H' _ hP => (ep.trans hP.2).sqt h3) (fun i v H2 H' hi hP y => ?_) (fun H' hP => ?_)⟩
    · obtain ⟨rfl, hv⟩ := y
      walk_at "vc"
      rcases argT_all hok.2.1.choose_spec.2 v (List.mem_of_getElem? hv) with ⟨z, rfl⟩ | ⟨j, rfl, hj⟩
      · refine ⟨"str", rfl, true, by decide, ?_⟩
        rw [if_pos rfl]
        have hl : ((List.take i g).filterMap strOf).length ≤ 6 := by
          have h1 := List.length_filterMap_le strOf (List.take i g)
          have h2 : g.length ≤ 6 := hsm.2.2.1
          have h3 := List.length_take_le i g
          omega
        refine ⟨_, hP.1, sz_lt (by rw [List.length_map]; omega), ?_, hP.2.mut hD⟩
        rw [upd_same, List.take_add_one, hv, List.filterMap_append, List.map_append]
        rfl
      · refine ⟨"int", rfl, false, by decide, ?_⟩
        rw [if_neg (by decide)]
        refine ⟨?_, hP.2⟩
        rw [hP.1, List.take_add_one, hv, List.filterMap_append, List.map_append]
        show _ = some (HO.lst (_ ++ []))
        rw [List.append_nil]
    · have h1 := hP.1
      rw [List.take_length] at h1
      have hl : (g.filterMap strOf).length ≤ 6 := Nat.le_trans (List.length_filterMap_le strOf g) hsm.2.2.1
      have e1 := ep.trans hP.2
      exact catL_of (xs := [n]) (hP.2 _ _ upd_same) h1 (by rw [List.length_singleton]; omega) fun r H2 e2 hr wr => q r H2 (e1.trans e2) (e_none e1 hr) wr
theorem core_len : ∀ {t : TestM}, t.ok → t.core.2.length ≤ 2
  | .ask x ns, h => by
    have h1 := h.1
    simp only [wordTab, List.mem_cons, Prod.mk.injEq, List.not_mem_nil, or_false] at h1
    show ns.length ≤ 2
    omega
  | .not t, h => core_len (t := t) h
theorem arg_names : ∀ {ks : List Str} {g : List V}, All2T argOk ks g → (g.filterMap strOf).length ≤ (ks.filter fun k => decide (k = ("name" : Str))).length
  | [], [], _ => Nat.le_refl _
  | k :: ks, v :: g, ⟨h, t⟩ => by
    have ih := arg_names t
    rcases h with ⟨rfl, x, rfl, _⟩ | ⟨rfl, i, rfl, _⟩
    · rw [List.filter_cons, if_pos (decide_eq_true rfl), List.length_cons]
      show (x :: g.filterMap strOf).length ≤ _
      rw [List.length_cons]
      omega
    · rw [List.filter_cons, if_neg (by decide)]
      exact ih
  | [], _ :: _, h => h.elim
  | _ :: _, [], h => h.elim
theorem deed_names : ∀ p ∈ deedTab, (p.2.filter fun k => decide (k = ("name" : Str))).length ≤ 2 := by decide +kernel
theorem kinds_names {d : Str} {n : Nat} {ks : List Str} (h : kindsFor d n = some ks) : (ks.filter fun k => decide (k = ("name" : Str))).length ≤ 2 := by
  unfold kindsFor at h
  split at h
  · split at h
    · cases h
    · cases h
      rw [List.filter_eq_nil_iff.mpr fun a ha => by rw [(List.mem_replicate.mp ha).2]; decide]
      exact Nat.zero_le _
  · exact deed_names _ (lookup_mem h)
theorem nms_len {r : RowM} (hok : r.ok) (hsm : r.sm) : r.nms.length ≤ 3 := by
  cases r with
  | stop => exact Nat.zero_le _
  | times c rs => exact Nat.zero_le _
  | ifr t rs os => exact Nat.le_succ_of_le (core_len hok.1)
  | put n d g =>
    obtain ⟨ks, h1, h2⟩ := hok.2.1
    have := arg_names h2
    have := kinds_names h1
    show (n :: g.filterMap strOf).length ≤ 3
    rw [List.length_cons]
    omega
def RowM.nmss (rs : List RowM) : List Str := (RowM.flats rs).flatMap RowM.nms
theorem nmss_app (as bs : List RowM) : RowM.nmss (as ++ bs) = RowM.nmss as ++ RowM.nmss bs := by
  unfold RowM.nmss
  rw [flats_app, List.flatMap_append]
mutual
theorem flat_good : ∀ {r : RowM}, r.ok → r.sm → ∀ s ∈ r.flat, s.ok ∧ s.sm
  | .stop, h, k => fun s hs => by rw [RowM.flat, List.mem_singleton] at hs; rw [hs]; exact ⟨h, k⟩
  | .put _ _ _, h, k => fun s hs => by rw [RowM.flat, List.mem_singleton] at hs; rw [hs]; exact ⟨h, k⟩
  | .times _ rs, h, k => fun s hs => by
    rw [RowM.flat, List.mem_cons] at hs
    rcases hs with rfl | hs
    · exact ⟨h, k⟩
    · rw [RowM.ok] at h
      rw [RowM.sm] at k
      exact flats_good h.2.1 k s hs
  | .ifr _ rs os, h, k => fun s hs => by
    rw [RowM.flat, List.mem_cons, List.mem_append] at hs
    rcases hs with rfl | hs | hs
    · exact ⟨h, k⟩
    · rw [RowM.ok] at h
      rw [RowM.sm] at k
      exact flats_good h.2.2.1 k.2.1 s hs
    · rw [RowM.ok] at h
      rw [RowM.sm] at k
      exact flats_good h.2.2.2.2.1 k.2.2 s hs
theorem flats_good : ∀ {rs : List RowM}, RowM.oks rs → RowM.sms rs → ∀ s ∈ RowM.flats rs, s.ok ∧ s.sm
  | [], _, _ => fun s hs => by rw [RowM.flats] at hs; cases hs
  | r :: rs, h, k => fun s hs => by
    rw [RowM.flats, List.mem_append] at hs
    rw [RowM.oks] at h
    rw [RowM.sms] at k
    rcases hs with hs | hs
    · exact flat_good h.1 k.1 s hs
    · exact flats_good h.2 k.2 s hs
end
theorem nmss_len : ∀ {rs : List RowM}, (∀ s ∈ rs, s.ok ∧ s.sm) → (rs.flatMap RowM.nms).length ≤ 3 * rs.length
  | [], _ => by simp
  | r :: rs, h => by
    have h1 := nms_len (h r (by simp)).1 (h r (by simp)).2
    have h2 := nmss_len (rs := rs) fun s hs => h s (List.mem_cons_of_mem _ hs)
    rw [List.flatMap_cons, List.length_append, List.length_cons]
    omega
def sp_names_in (K : PySem.W.Frag) (A : ClsA) : Sp
  | [.ref p], H, Q, _ => ∃ rs vs, (H p = some (.lst vs) ∨ SqT K H p vs) ∧ RowOs K A H rs vs ∧ RowM.oks rs ∧ RowM.sms rs ∧ RowM.deps rs < 10 ∧ RowM.cnts rs ≤ 20 ∧ ∀ q ys H', Ex H H' → H' q = some (.tup (ys.map V.str)) → NmOf (RowM.nmss rs) ys ∧ ys.length ≤ 3 * RowM.cnts rs → Q (.ref q) H'
  | _, _, _, _ => False
theorem ok_names_in (T : Txt w K mg a_is_integer a_is_number a_is_base a_is_name a_are_rows a_needed a_fits a_is_of a_inner a_flat a_names_in a_bare a_named a_number_of a_joined a_result a_holding a_written a_part a_of_one a_of_two a_power a_run a_came_to a_holds a_law_deal a_law_draw a_law_pick a_law_words a_law_ask_of a_law_row_of a_law_told a_law a_Stopped_init a_Put_init a_If_init a_Times_init a_Ask_init a_Not_init a_Program_init a_Program_call a_Walk_init a_Walk_go a_Walk_do a_Walk_put a_Walk_decide a_Walk_choose a_InvalidBase a_Stopped a_FigureError a_InvalidNumber a_Put a_If a_Times a_Stop a_Ask a_Not a_Row a_Test a_Program a_Walk a_DEEDS a_SIGNS a_WORDS a_If_init_d0 a_Program_init_d0 d_is_integer d_is_number d_is_base d_is_name d_are_rows d_needed d_fits d_is_of d_inner d_flat d_names_in d_bare d_named d_number_of d_joined d_result d_holding d_written d_part d_of_one d_of_two d_power d_run d_came_to d_holds d_law_deal d_law_draw d_law_pick d_law_words d_law_ask_of d_law_row_of d_law_told d_law d_Stopped_init d_Put_init d_If_init d_Times_init d_Ask_init d_Not_init d_Program_init d_Program_call d_Walk_init d_Walk_go d_Walk_do d_Walk_put d_Walk_decide d_Walk_choose) : FnOk P w K mg base CX0 20 a_names_in d_names_in ["rows"] (sp_names_in K ⟨a_Put, a_If, a_Times, a_Stop, a_Ask, a_Not⟩) := by
  have G_flat := ok_flat (P := P) (w := w) (base := base) T 15 (by decide)
  have G_named := ok_named (P := P) (w := w) (base := base) T
  refine T.F_names_in.ok sc_names_in (fun vs H Q E h => ?_) (fun cdv A outer s H vs Q E hr h => ?_)
  · unfold sp_names_in at h; split at h; rfl; exact h.elim
  unfold sp_names_in at h; split at h
  case h_2 => exact h.elim
  rename_i p
  obtain ⟨rs, vs, hp, hO, hok, hsm, hd, hc, q⟩ := h
  refine ⟨_, (pss_cons (ps_set (i := 1) sc_names_in.nd rfl (by first | exact .inl rfl | exact .inr rfl) pe_dnewK)
      (Evl.pss_cut (ps_for PassesOwn.never rfl (pi_list (pe_call G_flat (hr.mono (by omega)) (by rfl) T.g_flat T.F_flat.kp T.b_flat .nil pass0 (pa_cons (pv 0) pa_nil))) (pg_name (i := 2) sc_names_in.nd rfl (by first | exact .inl rfl | exact .inr rfl))
      (pss_one (ps_for PassesOwn.never rfl (pi_list (pe_call G_named (hr.mono (by omega)) (by rfl) T.g_named T.F_named.kp T.b_named .nil pass0 (pa_cons (pv 2) pa_nil))) (pg_name (i := 3) sc_names_in.nd rfl (by first | exact .inl rfl | exact .inr rfl))
      (pss_one (ps_dput (un1 hr.units) (pv 1) (pv 3) pe_bl rfl)))))
      (pss_one (ps_ret (pe_callTy call_tuple_of (by rfl) T.z_tuple (by decide +kernel) (pa_cons (pe_callB L2.cr_sortedS (by rfl) T.z_sorted (by decide +kernel) (pa_cons (pe_lock (pe_lc (own := [("name", 3)]) (g := gName 3) (by rfl) sc_names_in.nd (pi_keys (pv 1)) (blkOk_by (own := [("name", 3)]) (N := N_names_in) (sc := defScope s_names_in) (by decide +kernel)) (fun _ _ _ _ _ => (pg_name (i := 3) sc_names_in.nd rfl (by first | exact .inl rfl | exact .inr rfl))) (fun _ _ _ _ _ => pts_nil) (fun _ _ _ _ _ => (pe_callTy call_strA (by rfl) T.z_str (by decide +kernel) (pa_cons (pv 3) pa_nil))))) pa_nil)) pa_nil)))))), ?_⟩
  walk_at "st"
  walk_at "vc"
  refine fun f hf => ⟨fun σ H' => ∃ x y ks, σ = [some (.ref p), some (.ref f), x, y] ∧ H' f = some (.dK (asB ks)) ∧ ks = addAll [] (RowM.nmss rs) ∧ Ex H H', ?_, fun σ H' hm => ?_⟩
  · have ef := Ex.new hf (o := .dK [])
    have hp1 : upd H f (.dK []) p = some (.lst vs) ∨ SqT K (upd H f (.dK [])) p vs := hp.imp (fun h => ef _ _ h) (fun h => (Kp.of_ex ef).sqt h)
    refine ⟨_, rfl, rs, vs, hp1, hO.kp (Kp.of_ex ef), .inl (by omega), by omega, fun D ws H1 e1 hD wD hW => ?_⟩
    have w1 := e1 _ _ (upd_same (H := H) (a := f) (o := .dK []))
    have nDf : D ≠ f := fun e => by rw [e, upd_same] at hD; cases hD
    have eH1 := ef.trans e1
    have hfl := hW.len
    rw [flats_len] at hfl
    refine ⟨D, rfl, ⟨_, sq_of wD⟩, for_list (xs := ws) (fun i σ H' => ∃ x y, σ = [some (.ref p), some (.ref f), x, y] ∧ H' f = some (.dK (asB (addAll [] (((RowM.flats rs).take i).flatMap RowM.nms)))) ∧ Off f H1 H') ⟨_, _, rfl, w1, fun _ _ _ h => h⟩ (fun i σ H' _ hv => sq_of (hv.choose_spec.choose_spec.2.2 _ _ nDf wD)) (fun i v σ H2 hi hv => ?_) (fun σ H' hv => ?_)⟩
    · obtain ⟨x, y, rfl, h1, h2⟩ := hv
      walk_at "vc"
      obtain ⟨r, hr0, hr1⟩ := hW.at_ hi
      have gd := flats_good hok hsm r (List.mem_of_getElem? hr0)
      have kp2 : Kd H1 H2 := fun b o _ nk hb => h2 b o (fun e => by rw [e, w1] at hb; cases hb; exact nk _ rfl) hb
      refine ⟨_, rfl, r, hr1.kd kp2, gd.1, gd.2, fun L H3 e3 hL wL => ⟨L, rfl, ⟨_, sq_of wL⟩, ?_⟩⟩
      have w3 := e3 _ _ h1
      have nLf : L ≠ f := fun e => by rw [e, h1] at hL; cases hL
      refine for_list (xs := r.nms.map V.str) (fun j σ H' => ∃ x y, σ = [some (.ref p), some (.ref f), x, y] ∧ H' f = some (.dK (asB (addAll [] (((RowM.flats rs).take i).flatMap RowM.nms ++ r.nms.take j)))) ∧ Off f H3 H') ⟨_, _, rfl, by rw [List.take_zero, List.append_nil]; exact w3, fun _ _ _ h => h⟩ (fun j σ H' _ hv => sq_of (hv.choose_spec.choose_spec.2.2 _ _ nLf wL)) (fun j v σ H4 hj hv => ?_) (fun σ H' hv => ?_)
      · obtain ⟨x, y, rfl, h3, h4⟩ := hv
        rw [List.getElem?_map] at hj
        obtain ⟨u, hu, rfl⟩ := Option.map_eq_some_iff.mp hj
        unfold sDPut
        walk_at "vc"
        refine ⟨_, DPut.k (k := .inr u) h3 ?_, ?_, h4.set⟩
        · have l1 := addAll_len (((RowM.flats rs).take i).flatMap RowM.nms ++ r.nms.take j) []
          have l2 := nmss_len (fun s hs => flats_good hok hsm s (List.mem_of_mem_take (i := i) hs)) (rs := (RowM.flats rs).take i)
          have l3 := nms_len gd.1 gd.2
          have l4 : (List.take j r.nms).length ≤ r.nms.length := by rw [List.length_take]; omega
          have l5 : (List.take i (RowM.flats rs)).length ≤ (RowM.flats rs).length := by rw [List.length_take]; omega
          rw [flats_len] at l5
          rw [List.length_append, List.length_nil] at l1
          rw [asB_len, sizeLine_eq]
          omega
        · rw [upd_same, putK_asB, List.take_add_one, hu, ← List.append_assoc]
          show _ = some (HO.dK (asB (addAll [] (_ ++ [u]))))
          rw [addAll_snoc]
      · obtain ⟨x, y, rfl, h3, h4⟩ := hv
        rw [List.length_map, List.take_length] at h3
        refine ⟨_, _, rfl, ?_, fun b o n h => h4 b o n (e3 b o (h2 b o n h))⟩
        rw [List.take_add_one, hr0, List.flatMap_append]
        simpa using h3
    · obtain ⟨x, y, rfl, h1, h2⟩ := hv
      rw [hfl, ← flats_len, List.take_length] at h1
      exact ⟨x, y, _, rfl, h1, rfl, fun b o h => h2 b o (fun e => by rw [e, hf] at h; cases h) (eH1 b o h)⟩
  · obtain ⟨x, y, ks, rfl, h1, rfl, h2⟩ := hm
    walk_at "vc"
    refine ⟨f, _, h1, trivial, fun od => ?_⟩
    walk_at "vc"
    have hks : (addAll [] (RowM.nmss rs)).length ≤ 3 * RowM.cnts rs := by
      have l1 := addAll_len (RowM.nmss rs) []
      have l2 := nmss_len (fun s hs => flats_good hok hsm s hs) (rs := RowM.flats rs)
      rw [flats_len] at l2
      rw [List.length_nil] at l1
      unfold RowM.nmss at l1 ⊢
      omega
    have eF : Ex H (upd H' f (.frz od (.dK (asB (addAll [] (RowM.nmss rs)))))) := h2.mut hf
    have hnm := @NmOf.of (RowM.nmss rs)
    generalize addAll [] (RowM.nmss rs) = ks at *
    refine ⟨.ref f, rfl, f, od, rfl, .inl ⟨_, upd_same, fun D0 hD0 => ?_⟩⟩
    have hD0H : H D0 = none := e_none eF hD0
    have npD : f ≠ D0 := fun e => by rw [← e, upd_same] at hD0; cases hD0
    refine lc_it walk_keys (fun i H' => H' D0 = some (.lst ((ks.take i).map V.str)) ∧ Ex H H' ∧ H' f = some (.frz od (.dK (asB ks)))) ⟨upd_same, eF.mut hD0H, by rw [upd_ne npD]; exact upd_same⟩ (fun i H' _ hP => hP.2.2) (fun t v H3 H4 ht hP y => ?_) (fun H3 hP => ?_)
    · obtain ⟨rfl, k, z, hkz, rfl⟩ := y
      unfold asB at hkz
      rw [List.getElem?_map] at hkz
      obtain ⟨x, hx, e⟩ := Option.map_eq_some_iff.mp hkz
      cases e
      have htl := (List.getElem?_eq_some_iff.mp hx).1
      walk_at "vc"
      show ∃ acc, H4 D0 = some (HO.lst acc) ∧ acc.length < sizeLine ∧ _ ∧ _ ∧ _
      refine ⟨_, hP.1, sz_lt (by rw [List.length_map, List.length_take]; omega), ?_, hP.2.1.mut hD0H, by rw [upd_ne npD]; exact hP.2.2⟩
      rw [upd_same, List.take_add_one, hx, List.map_append]
      rfl
    obtain ⟨g1, e3, g3⟩ := hP
    refine ⟨g3, ?_⟩
    rw [asB_len, List.take_length] at g1
    have g4 : upd H3 f (.dK (asB ks)) D0 = some (.lst (ks.map V.str)) := by rw [upd_ne npD.symm]; exact g1
    have e4 : Ex H (upd H3 f (.dK (asB ks))) := e3.mut hf
    generalize upd H3 f (.dK (asB ks)) = H4 at *
    refine ⟨D0, ks, rfl, sq_of g4, by omega, fun ys s1 perm so hs1 => ?_⟩
    exact ⟨s1, rfl, _, .inl ⟨sq_of upd_same, fun l hl => q l ys _ ((e4.trans (Ex.new hs1)).trans (Ex.new hl)) upd_same ⟨hnm perm so, by rw [perm.length_eq]; exact hks⟩⟩⟩
end
end My
set_option Elab.async false
set_option linter.all false
set_option maxRecDepth 100000
set_option maxHeartbeats 4000000
set_option exponentiation.threshold 5000
namespace My
open PySem PySem.Spec PyProof.Rows L2 Evl
local macro_rules | `(tactic| walk_at "st") => `(tactic| simp only [L2.start, List.map_cons, List.map_nil, List.length_cons, List.length_nil, Nat.reduceAdd, Nat.reduceSub, List.replicate_succ, List.replicate_zero, List.cons_append, List.nil_append, cxOf, List.append_nil])
local macro_rules | `(tactic| walk_at "vc") => `(tactic| try simp only [tSeq, tAsg, tOp, tUn, tVar, tC, tNil, tCons, gName, rI, rI0, rU, tRet, tIfS, tNot, tAnd, tOr, tB, tTest, tCB, tCall, tAndV, tOrV, tNotV, tNext, tNever, tIf, tChain, tYes, tPart, tNoPart, tPar, tDrop, q_isi, q_vn, q_vb, q_vi, q_vs, kb1, kb2, kb3, kb4, kb5, kb6, kb7, kb8, q_int1, q_int2, q_min, q_max, q_repr, tLst, tTup, rEq, rNe, q_sii, q_sss, q_sbb, q_snn, q_sns, q_ssn, q_ix, q_sl, tSl, tBM, tBM0, q_app, q_pop, gSub, rSetL, L2.wipe, eq_self, decide_true, decide_false, tRevL,
  List.getElem?_cons_succ, List.getElem?_cons_zero, List.set_cons_succ, List.set_cons_zero, Option.some.injEq, exists_eq_left', exists_eq_left, V.int.injEq, V.bl.injEq, V.ref.injEq, V.str.injEq, List.cons.injEq, and_true, true_and, List.append_nil, List.nil_append, List.cons_append, exists_and_left, and_assoc, if_true, if_false, Bool.not_true, Bool.not_false, Bool.false_eq_true, Bool.true_eq_false, reduceIte, tRevL, tPar3, tRevT, tUnl, tCKw, forall_const, Bool.not_eq_true', decide_eq_true_eq, decide_eq_false_iff_not])
section
variable {P : Program} {w : World} {K : PySem.W.Frag} {mg : Str → Option Value} {base : Heap}
variable {a_is_integer a_is_number a_is_base a_is_name a_are_rows a_needed a_fits a_is_of a_inner a_flat a_names_in a_bare a_named a_number_of a_joined a_result a_holding a_written a_part a_of_one a_of_two a_power a_run a_came_to a_holds a_law_deal a_law_draw a_law_pick a_law_words a_law_ask_of a_law_row_of a_law_told a_law a_Stopped_init a_Put_init a_If_init a_Times_init a_Ask_init a_Not_init a_Program_init a_Program_call a_Walk_init a_Walk_go a_Walk_do a_Walk_put a_Walk_decide a_Walk_choose a_InvalidBase a_Stopped a_FigureError a_InvalidNumber a_Put a_If a_Times a_Stop a_Ask a_Not a_Row a_Test a_Program a_Walk a_DEEDS a_SIGNS a_WORDS a_If_init_d0 a_Program_init_d0 : Addr} {d_is_integer d_is_number d_is_base d_is_name d_are_rows d_needed d_fits d_is_of d_inner d_flat d_names_in d_bare d_named d_number_of d_joined d_result d_holding d_written d_part d_of_one d_of_two d_power d_run d_came_to d_holds d_law_deal d_law_draw d_law_pick d_law_words d_law_ask_of d_law_row_of d_law_told d_law d_Stopped_init d_Put_init d_If_init d_Times_init d_Ask_init d_Not_init d_Program_init d_Program_call d_Walk_init d_Walk_go d_Walk_do d_Walk_put d_Walk_decide d_Walk_choose : FuncData}
/-! ### programs -/
/-- what rows a program may have here -/
def GdP (rs : List RowM) : Prop := RowM.oks rs ∧ RowM.sms rs ∧ RowM.deps rs < 4 ∧ RowM.cnts rs ≤ 20
def ProgO (K : PySem.W.Frag) (A : ClsA) (CP : Addr) (H : Hp) (rs : List RowM) (vs : List V) (v : V) : Prop := ∃ a dx q n ys, v = .ref a ∧ H a = some (.ins CP dx [("rows", .ref q), ("names", .ref n)]) ∧ SqT K H q vs ∧ RowOs K A H rs vs ∧ SqT K H n (ys.map V.str) ∧ NmOf (RowM.nmss rs) ys ∧ ys.length ≤ 3 * RowM.cnts rs
theorem SqT.off {K : PySem.W.Frag} {a C dx p : Addr} {fs : List (Str × V)} {H H1 : Hp} {vs : List V} (o : Off a H H1) (h1 : H a = some (.ins C dx fs)) (h : SqT K H p vs) : SqT K H1 p vs := by
  rcases h with (h | ⟨u, h⟩) | h
  · exact .inl (.inl (o _ _ (fun e => by rw [e, h1] at h; cases h) h))
  · exact .inl (.inr ⟨u, o _ _ (fun e => by rw [e, h1] at h; cases h) h⟩)
  · exact .inr h
theorem tupleX2 {K : PySem.W.Frag} {i : Nat} {σ : L2.St} {a p C dx : Addr} {fs : List (Str × V)} {H H1 : Hp} {vs : List V} {Q : VK} (hs : σ[i]? = some (some (.ref p))) (o : Off a H H1) (h1 : H a = some (.ins C dx fs)) (h3 : H p = some (.lst vs) ∨ SqT K H p vs) (ha : H1 a ≠ none)
    (q : ∀ r H2, Ex H1 H2 → SqT K H2 r vs → Q (.ref r) H2) : tCB (fun xs H Q => ∃ p, xs = [V.ref p] ∧ ∃ x, (SqL K H p x ∧ ∀ (l : Addr), H l = none → Q (V.ref l) (upd H l (HO.tup x))) ∨ SqT K H p x ∧ Q (V.ref p) H) (tCons (tVar i) tNil) σ H1 Q := by
  refine ⟨_, hs, p, rfl, vs, ?_⟩
  rcases h3 with h | h
  · exact .inl ⟨sq_of (o _ _ (fun e => by rw [e, h1] at h; cases h) h), fun l hl => q l _ (Ex.new hl) (st_of upd_same)⟩
  · exact .inr ⟨SqT.off o h1 h, q p H1 (Ex.refl _) (SqT.off o h1 h)⟩
/-- a heap without what stands at p -/
def delL (H : Hp) (p : Addr) : Hp := fun b => if b = p then none else H b
theorem delL_ne {H : Hp} {p b : Addr} (h : b ≠ p) : delL H p b = H b := if_neg h
theorem delL_same {H : Hp} {p : Addr} : delL H p p = none := if_pos rfl
theorem delL_off {H H1 : Hp} {p : Addr} (o : Off p H H1) : Ex (delL H p) H1 := fun b u h => by
  by_cases e : b = p
  · rw [e, delL_same] at h; cases h
  · rw [delL_ne e] at h; exact o b u e h
theorem delL_new {H : Hp} {p : Addr} {o : HO} (h : H p = none) : Ex H (delL (upd H p o) p) := fun b u hb => by
  have e : b ≠ p := fun e => by rw [e, h] at hb; cases hb
  rw [delL_ne e, upd_ne e]; exact hb
/-- made: rows, names -/
def sp_Program_init (K : PySem.W.Frag) (A : ClsA) (CP : Addr) : Sp
  | [.ref a, .ref p], H, Q, _ => ∃ dx rs vs, H a = some (.ins CP dx []) ∧ (H p = some (.lst vs) ∨ SqT K H p vs) ∧ RowOs K A (delL H a) rs vs ∧ GdP rs ∧ ∀ H1, Off a H H1 → ProgO K A CP H1 rs vs (.ref a) → Q .non H1
  | _, _, _, _ => False
theorem mkProg {K : PySem.W.Frag} {A : ClsA} {CP : Addr} {H : Hp} {x dx p : Addr} {rs : List RowM} {vs : List V} {R : VK} {E : XK} (hx : H x = none) (hdx : H dx = none) (hne : dx ≠ x) (hp : H p = some (.lst vs) ∨ SqT K H p vs) (hO : RowOs K A H rs vs) (hg : GdP rs)
    (q : ∀ H2, Ex H H2 → ProgO K A CP H2 rs vs (.ref x) → R .non H2) : sp_Program_init K A CP [.ref x, .ref p] (upd (upd H dx (.own x)) x (.ins CP dx [])) R E := by
  have e1 : Ex H (upd H dx (.own x)) := Ex.new hdx
  have h1 : upd H dx (.own x) x = none := by rw [upd_ne (Ne.symm hne)]; exact hx
  have e2 : Ex H (upd (upd H dx (.own x)) x (.ins CP dx [])) := e1.trans (Ex.new h1)
  refine ⟨dx, rs, vs, upd_same, hp.imp (fun h => e2 _ _ h) (fun h => (Kp.of_ex e2).sqt h), hO.kp (Kp.of_ex (e1.trans (delL_new h1))), hg, fun H1 o hP => q H1 (fun b u hb => ?_) hP⟩
  exact o b u (fun e => by rw [e, hx] at hb; cases hb) (e2 b u hb)
theorem ok_Program_init0 (T : Txt w K mg a_is_integer a_is_number a_is_base a_is_name a_are_rows a_needed a_fits a_is_of a_inner a_flat a_names_in a_bare a_named a_number_of a_joined a_result a_holding a_written a_part a_of_one a_of_two a_power a_run a_came_to a_holds a_law_deal a_law_draw a_law_pick a_law_words a_law_ask_of a_law_row_of a_law_told a_law a_Stopped_init a_Put_init a_If_init a_Times_init a_Ask_init a_Not_init a_Program_init a_Program_call a_Walk_init a_Walk_go a_Walk_do a_Walk_put a_Walk_decide a_Walk_choose a_InvalidBase a_Stopped a_FigureError a_InvalidNumber a_Put a_If a_Times a_Stop a_Ask a_Not a_Row a_Test a_Program a_Walk a_DEEDS a_SIGNS a_WORDS a_If_init_d0 a_Program_init_d0 d_is_integer d_is_number d_is_base d_is_name d_are_rows d_needed d_fits d_is_of d_inner d_flat d_names_in d_bare d_named d_number_of d_joined d_result d_holding d_written d_part d_of_one d_of_two d_power d_run d_came_to d_holds d_law_deal d_law_draw d_law_pick d_law_words d_law_ask_of d_law_row_of d_law_told d_law d_Stopped_init d_Put_init d_If_init d_Times_init d_Ask_init d_Not_init d_Program_init d_Program_call d_Walk_init d_Walk_go d_Walk_do d_Walk_put d_Walk_decide d_Walk_choose) : FnOk P w K mg base CX0 25 a_Program_init d_Program_init ["self", "rows"] (sp_Program_init K ⟨a_Put, a_If, a_Times, a_Stop, a_Ask, a_Not⟩ a_Program) := by
  have G_are_rows := ok_are_rows (P := P) (w := w) (base := base) T
  have G_names_in := ok_names_in (P := P) (w := w) (base := base) T
  refine T.F_Program_init.ok sc_Program_init (fun vs H Q E h => ?_) (fun cdv A outer s H vs Q E hr h => ?_)
  · unfold sp_Program_init at h; split at h; rfl; exact h.elim
  unfold sp_Program_init at h; split at h
  case h_2 => exact h.elim
  rename_i a p
  obtain ⟨dx, rs, vs, h1, h3, hO, hg, q⟩ := h
  refine ⟨_, ((pss_cons (ps_if (pt_not (pt_val (pe_call G_are_rows (hr.mono (by decide)) (by rfl) T.g_are_rows T.F_are_rows.kp T.b_are_rows .nil pass0 (pa_cons (pv 1) pa_nil))))
      (pss_one ps_never)
      pss_nil)
      (pss_cons (ps_fld (pv 0) (pe_callTy call_tuple_of (by rfl) T.z_tuple (by decide +kernel) (pa_cons (pv 1) pa_nil)) (by rfl))
      (pss_one (ps_fld (pv 0) (pe_call G_names_in (hr.mono (by decide)) (by rfl) T.g_names_in T.F_names_in.kp T.b_names_in .nil pass0 (pa_cons (pv 1) pa_nil)) (by rfl)))))).nox, ?_⟩
  walk_at "st"
  walk_at "vc"
  obtain ⟨hok, hsm, hd, hc⟩ := hg
  have hO0 := hO.kp (Kp.of_ex (delL_off (fun _ _ _ h => h)))
  have hlen := hO.len
  have hcl := cnts_len rs
  refine ⟨rs, vs, h3, hO0, by omega, fun H1 e1 => ⟨true, rfl, ?_⟩⟩
  rw [if_neg (by decide)]
  unfold sFld
  refine tupleX2 rfl (Off.of e1) h1 h3 (by rw [e1 _ _ h1]; simp) fun r H2 e2 hr => ?_
  have w2 := e2 _ _ (e1 _ _ h1)
  refine ⟨_, rfl, a, a_Program, dx, [], rfl, w2, T.oc_Program.cl, T.nF_Program_rows, (show (0 : Nat) < 1000 by decide), ?_⟩
  have o3 : Off a H (upd H2 a (.ins a_Program dx (putF "rows" (.ref r) []))) := ((Off.of e1).tex e2).set
  have r3 : SqT K (upd H2 a (.ins a_Program dx (putF "rows" (.ref r) []))) r vs := SqT.off (Off.upd (Ex.refl _)) w2 hr
  have w3 : upd H2 a (.ins a_Program dx (putF "rows" (.ref r) [])) a = some (.ins a_Program dx (putF "rows" (.ref r) [])) := upd_same
  generalize upd H2 a (.ins a_Program dx (putF "rows" (.ref r) [])) = H3 at *
  have h33 : H3 p = some (.lst vs) ∨ SqT K H3 p vs := h3.imp (fun h => o3 _ _ (fun e => by rw [e, h1] at h; cases h) h) (fun h => SqT.off o3 h1 h)
  walk_at "vc"
  refine ⟨rs, vs, h33, hO.kp (Kp.of_ex (delL_off o3)), hok, hsm, by omega, hc, fun n ys H4 e4 hn hN => ?_⟩
  have o4 := (o3.tex e4)
  refine ⟨a_Program, dx, _, e4 _ _ w3, T.oc_Program.cl, T.nF_Program_names, (show (1 : Nat) < 1000 by decide), ?_⟩
  have w4 := e4 _ _ w3
  have o5 : Off a H4 (upd H4 a (.ins a_Program dx (putF "names" (.ref n) (putF "rows" (.ref r) [])))) := Off.upd (Ex.refl _)
  exact q _ o4.set ⟨a, dx, r, n, ys, rfl, upd_same, SqT.off o5 w4 (e4.sqt r3), hO.kp (Kp.of_ex (delL_off o4.set)), SqT.off o5 w4 (st_of hn), hN⟩
theorem ok_Program_init (T : Txt w K mg a_is_integer a_is_number a_is_base a_is_name a_are_rows a_needed a_fits a_is_of a_inner a_flat a_names_in a_bare a_named a_number_of a_joined a_result a_holding a_written a_part a_of_one a_of_two a_power a_run a_came_to a_holds a_law_deal a_law_draw a_law_pick a_law_words a_law_ask_of a_law_row_of a_law_told a_law a_Stopped_init a_Put_init a_If_init a_Times_init a_Ask_init a_Not_init a_Program_init a_Program_call a_Walk_init a_Walk_go a_Walk_do a_Walk_put a_Walk_decide a_Walk_choose a_InvalidBase a_Stopped a_FigureError a_InvalidNumber a_Put a_If a_Times a_Stop a_Ask a_Not a_Row a_Test a_Program a_Walk a_DEEDS a_SIGNS a_WORDS a_If_init_d0 a_Program_init_d0 d_is_integer d_is_number d_is_base d_is_name d_are_rows d_needed d_fits d_is_of d_inner d_flat d_names_in d_bare d_named d_number_of d_joined d_result d_holding d_written d_part d_of_one d_of_two d_power d_run d_came_to d_holds d_law_deal d_law_draw d_law_pick d_law_words d_law_ask_of d_law_row_of d_law_told d_law d_Stopped_init d_Put_init d_If_init d_Times_init d_Ask_init d_Not_init d_Program_init d_Program_call d_Walk_init d_Walk_go d_Walk_do d_Walk_put d_Walk_decide d_Walk_choose) : FnR P w K mg base CX0 25 a_Program_init (sp_Program_init K ⟨a_Put, a_If, a_Times, a_Stop, a_Ask, a_Not⟩ a_Program) :=
  ((ok_Program_init0 T).raw T.b_Program_init .nil).imp fun vs H Q E h => by rw [List.append_nil]; exact h
end
end My
set_option Elab.async false
set_option linter.all false
/-! sets of bases: what comes round, and its least period -/
namespace My
/-- f comes round after p, from s on -/
def Per (f : Nat → Bool) (s p : Nat) : Prop := ∀ n, s ≤ n → f (n + p) = f n
theorem Per.mul {f : Nat → Bool} {s p : Nat} (h : Per f s p) : ∀ k, Per f s (k * p)
  | 0 => fun n _ => by rw [Nat.zero_mul, Nat.add_zero]
  | k + 1 => fun n hn => by
    rw [Nat.succ_mul, ← Nat.add_assoc, h _ (by omega), Per.mul h k n hn]
theorem Per.dvd {f : Nat → Bool} {s p q : Nat} (h : Per f s p) (d : p ∣ q) : Per f s q := by
  obtain ⟨k, rfl⟩ := d
  rw [Nat.mul_comm]
  exact h.mul k
theorem Per.later {f : Nat → Bool} {s t p : Nat} (h : Per f s p) (k : s ≤ t) : Per f t p := fun n hn => h n (by omega)
/-- two periods: a common divisor of theirs is one -/
theorem Per.common {f : Nat → Bool} {s : Nat} : ∀ (m : Nat) {p q : Nat}, p + q ≤ m → 1 ≤ p → 1 ≤ q → Per f s p → Per f s q → ∃ d, 1 ≤ d ∧ d ∣ p ∧ d ∣ q ∧ Per f s d
  | 0, p, q, hm, hp, _, _, _ => by omega
  | m + 1, p, q, hm, hp, hq, h, k => by
    rcases Nat.lt_trichotomy p q with c | c | c
    · have k2 : Per f s (q - p) := fun n hn => by
        rw [← h (n + (q - p)) (by omega), show n + (q - p) + p = n + q by omega, k n hn]
      obtain ⟨d, d1, d2, d3, d4⟩ := Per.common m (p := p) (q := q - p) (by omega) hp (by omega) h k2
      exact ⟨d, d1, d2, by have := Nat.dvd_add d2 d3; rwa [show p + (q - p) = q by omega] at this, d4⟩
    · subst c
      exact ⟨p, hp, Nat.dvd_refl _, Nat.dvd_refl _, h⟩
    · have h2 : Per f s (p - q) := fun n hn => by
        rw [← k (n + (p - q)) (by omega), show n + (p - q) + q = n + p by omega, h n hn]
      obtain ⟨d, d1, d2, d3, d4⟩ := Per.common m (p := p - q) (q := q) (by omega) (by omega) hq h2 k
      exact ⟨d, d1, by have := Nat.dvd_add d2 d3; rwa [show p - q + q = p by omega] at this, d3, d4⟩
/-- the least of the periods that divide p: none of its own divisors is one -/
def Lst (f : Nat → Bool) (s p : Nat) : Prop := 1 ≤ p ∧ Per f s p ∧ ∀ d, 1 ≤ d → d ∣ p → Per f s d → d = p
theorem Lst.same {f : Nat → Bool} {s p q : Nat} (h : Lst f s p) (k : Lst f s q) : p = q := by
  obtain ⟨d, d1, d2, d3, d4⟩ := Per.common (p + q) (Nat.le_refl _) h.1 k.1 h.2.1 k.2.1
  rw [← h.2.2 d d1 d2 d4, ← k.2.2 d d1 d3 d4]
/-- periodic from s on by p, and by d from later on: by d from s on -/
theorem Per.back {f : Nat → Bool} {s t p d : Nat} (hp : 1 ≤ p) (h : Per f s p) (k : Per f t d) : Per f s d := fun n hn => by
  have e1 := h.mul t (n + d) (by omega)
  have e2 := h.mul t n hn
  have hle : t ≤ t * p := Nat.le_mul_of_pos_right t (by omega)
  have e3 := k (n + t * p) (by omega)
  rw [← e1, ← e2, ← e3]
  congr 1
  omega
theorem Lst.later {f : Nat → Bool} {s t p : Nat} (h : Lst f s p) (k : s ≤ t) : Lst f t p := ⟨h.1, h.2.1.later k, fun d d1 d2 d3 => h.2.2 d d1 d2 (Per.back h.1 h.2.1 d3)⟩
/-! ### the loop that finds it -/
/-- nothing from 2 on below k divides n -/
def NoDiv (n k : Nat) : Prop := ∀ j, 2 ≤ j → j < k → ¬ j ∣ n
/-- a divisor with nothing smaller dividing: e is prime to it or a multiple -/
theorem cop_of {n q e : Nat} (hq : 2 ≤ q) (hn : q ∣ n) (nd : NoDiv n q) (he : ¬ q ∣ e) : Nat.Coprime e q := by
  have g1 : Nat.gcd e q ∣ q := Nat.gcd_dvd_right e q
  have g2 : Nat.gcd e q ∣ e := Nat.gcd_dvd_left e q
  have g0 : 0 < Nat.gcd e q := Nat.gcd_pos_of_pos_right e (by omega)
  have gle := Nat.le_of_dvd (by omega) g1
  by_cases h1 : Nat.gcd e q = 1
  · exact h1
  · exfalso
    by_cases h2 : Nat.gcd e q = q
    · exact he (by rw [h2] at g2; exact g2)
    · exact nd _ (by omega) (by omega) (Nat.dvd_trans g1 hn)
theorem noDiv_self {n k : Nat} (h1 : 2 ≤ n) (hk : 2 ≤ k) (nd : NoDiv n k) (h : n < k * k) : NoDiv n n := fun j hj hjn hd => by
  obtain ⟨c, rfl⟩ := hd
  have hc : 2 ≤ c := by
    rcases Nat.lt_or_ge c 2 with hc | hc
    · have : c = 0 ∨ c = 1 := by omega
      rcases this with rfl | rfl
      · omega
      · omega
    · exact hc
  have j1 : k ≤ j := by
    rcases Nat.lt_or_ge j k with x | x
    · exact absurd (Nat.dvd_mul_right j c) (nd j hj x)
    · exact x
  have c1 : k ≤ c := by
    rcases Nat.lt_or_ge c k with x | x
    · exact absurd (Nat.dvd_mul_left c j) (nd c hc x)
    · exact x
  have := Nat.mul_le_mul j1 c1
  omega
/-- one turn's step: what is left, and the period so far -/
structure Lp (f : Nat → Bool) (n left many : Nat) : Prop where
  m1 : 1 ≤ many
  l1 : 1 ≤ left
  mn : many ∣ n
  ln : left ∣ n
  per : Per f 0 many
  all : ∀ d, 1 ≤ d → d ∣ many → Per f 0 d → many / d ∣ left
  dv : left ∣ many
theorem Lp.start {f : Nat → Bool} {n : Nat} (h : 1 ≤ n) (p : Per f 0 n) : Lp f n n n := ⟨h, h, Nat.dvd_refl _, Nat.dvd_refl _, p, fun d _ hd _ => Nat.div_dvd_of_dvd hd, Nat.dvd_refl _⟩
theorem Lp.fin {f : Nat → Bool} {n many : Nat} (h : Lp f n 1 many) : Lst f 0 many := ⟨h.m1, h.per, fun d d1 hd hp => by
  have h1 := h.all d d1 hd hp
  have h2 : many / d = 1 := Nat.dvd_one.mp h1
  have h3 := Nat.div_mul_cancel hd
  rw [h2] at h3
  omega⟩
end My
set_option Elab.async false
set_option linter.all false
/-! sets of bases: the loop's steps, and the one form that each set has -/
namespace My
theorem div_pos' {a q : Nat} (h : 1 ≤ a) (hd : q ∣ a) : 1 ≤ a / q := by
  have h1 := Nat.div_mul_cancel hd
  rcases Nat.eq_zero_or_pos (a / q) with h2 | h2
  · rw [h2] at h1; omega
  · exact h2
theorem Lp.yes {f : Nat → Bool} {n left many q : Nat} (h : Lp f n left many) (q2 : 2 ≤ q) (hd : q ∣ left) (hp : Per f 0 (many / q)) : Lp f n (left / q) (many / q) := by
  have dm : q ∣ many := Nat.dvd_trans hd h.dv
  obtain ⟨l, rfl⟩ := hd
  obtain ⟨m, rfl⟩ := dm
  have q0 : 0 < q := by omega
  rw [Nat.mul_div_cancel_left _ q0] at hp ⊢
  rw [Nat.mul_div_cancel_left _ q0]
  have l1 : 1 ≤ l := by have := h.l1; rcases Nat.eq_zero_or_pos l with rfl | x <;> omega
  have m1 : 1 ≤ m := by have := h.m1; rcases Nat.eq_zero_or_pos m with rfl | x <;> omega
  refine ⟨m1, l1, Nat.dvd_trans (Nat.dvd_mul_left m q) h.mn, Nat.dvd_trans (Nat.dvd_mul_left l q) h.ln, hp, fun d d1 dd dp => ?_, Nat.dvd_of_mul_dvd_mul_left q0 h.dv⟩
  have h1 := h.all d d1 (Nat.dvd_trans dd (Nat.dvd_mul_left m q)) dp
  rw [Nat.mul_div_assoc q dd] at h1
  exact Nat.dvd_of_mul_dvd_mul_left q0 h1
theorem Lp.no {f : Nat → Bool} {n left many q : Nat} (h : Lp f n left many) (q2 : 2 ≤ q) (hd : q ∣ left) (nd : NoDiv left q) (hp : ¬ Per f 0 (many / q)) : Lp f n (left / q) many := by
  have l1 := div_pos' h.l1 hd
  obtain ⟨l, rfl⟩ := id hd
  have q0 : 0 < q := by omega
  rw [Nat.mul_div_cancel_left _ q0] at l1 ⊢
  refine ⟨h.m1, l1, h.mn, Nat.dvd_trans (Nat.dvd_mul_left l q) h.ln, h.per, fun d d1 dd dp => ?_, Nat.dvd_trans (Nat.dvd_mul_left l q) h.dv⟩
  have h1 := h.all d d1 dd dp
  by_cases hq : q ∣ many / d
  · exfalso
    refine hp (dp.dvd ?_)
    obtain ⟨c, hc⟩ := hq
    have h2 := Nat.div_mul_cancel dd
    rw [hc] at h2
    refine ⟨c, ?_⟩
    rw [← h2, Nat.mul_assoc, Nat.mul_div_cancel_left _ q0, Nat.mul_comm]
  · have cp := cop_of q2 hd nd hq
    exact Nat.Coprime.dvd_of_dvd_mul_left cp h1
theorem NoDiv.div {n q : Nat} (h : NoDiv n q) (hd : q ∣ n) : NoDiv (n / q) q := fun j h1 h2 h3 => h j h1 h2 (Nat.dvd_trans h3 (Nat.div_dvd_of_dvd hd))
theorem NoDiv.succ {n q : Nat} (h : NoDiv n q) (hd : ¬ q ∣ n) : NoDiv n (q + 1) := fun j h1 h2 => by
  by_cases e : j = q
  · rw [e]; exact hd
  · exact h j h1 (by omega)
theorem NoDiv.le {n q : Nat} (h : NoDiv n q) (h2 : 2 ≤ n) : q ≤ n := by
  rcases Nat.lt_or_ge n q with x | x
  · exact absurd (Nat.dvd_refl n) (h n h2 x)
  · exact x
/-- what a row of marks says of n -/
def mk (row : List Bool) (n : Nat) : Bool := row.getD (n % row.length) false
theorem mk_per (row : List Bool) : Per (mk row) 0 row.length := fun n _ => by unfold mk; rw [Nat.add_mod_right]
theorem rep_getD (l : List Bool) : ∀ (k i : Nat), i < k * l.length → (List.replicate k l).flatten.getD i false = l.getD (i % l.length) false
  | 0, i, h => by omega
  | k + 1, i, h => by
    rw [List.replicate_succ, List.flatten_cons, List.getD_eq_getElem?_getD]
    by_cases hi : i < l.length
    · rw [List.getElem?_append_left hi, Nat.mod_eq_of_lt hi, List.getD_eq_getElem?_getD]
    · rw [List.getElem?_append_right (by omega), ← List.getD_eq_getElem?_getD, rep_getD l k (i - l.length) (by rw [Nat.succ_mul] at h; omega)]
      congr 1
      rw [Nat.mod_eq_sub_mod (a := i) (b := l.length) (by omega)]
theorem rep_len (l : List Bool) (k : Nat) : (List.replicate k l).flatten.length = k * l.length := by
  induction k with
  | zero => simp
  | succ k ih => rw [List.replicate_succ, List.flatten_cons, List.length_append, ih, Nat.succ_mul]; omega
/-- the first part so often is the row's beginning: it comes round there -/
theorem rep_iff {row : List Bool} {many q : Nat} (q1 : 1 ≤ q) (m1 : 1 ≤ many) (hq : q ∣ many) (hm : many ∣ row.length) (hr : 1 ≤ row.length) (hp : Per (mk row) 0 many) : (List.replicate q (row.take (many / q))).flatten = row.take many ↔ Per (mk row) 0 (many / q) := by
  have hml := Nat.le_of_dvd hr hm
  have h2 := Nat.div_mul_cancel hq
  generalize hs : many / q = s at *
  have hsl : s ≤ many := by rw [← h2]; exact Nat.le_mul_of_pos_right s (by omega)
  have s1 : 1 ≤ s := by rcases Nat.eq_zero_or_pos s with x | x; · rw [x] at h2; omega
                        · exact x
  have lt : (row.take s).length = s := by rw [List.length_take]; omega
  have ll : (List.replicate q (row.take s)).flatten.length = many := by rw [rep_len, lt, Nat.mul_comm, h2]
  have sdm : s ∣ many := ⟨q, h2.symm⟩
  have at_ : ∀ i, i < many → (List.replicate q (row.take s)).flatten.getD i false = row.getD (i % s) false := fun i hi => by
    rw [rep_getD _ _ _ (by rw [lt, Nat.mul_comm, h2]; exact hi), lt, List.getD_eq_getElem?_getD, List.getElem?_take_of_lt (Nat.mod_lt _ s1), ← List.getD_eq_getElem?_getD]
  have tk : ∀ i, i < many → (row.take many).getD i false = row.getD i false := fun i hi => by
    rw [List.getD_eq_getElem?_getD, List.getElem?_take_of_lt hi, ← List.getD_eq_getElem?_getD]
  have mod_ : ∀ n, mk row n = row.getD (n % many) false := fun n => by
    have e1 := hp.mul (n / many) (n % many) (by omega)
    rw [Nat.mod_add_div' n many] at e1
    rw [e1]
    unfold mk
    rw [Nat.mod_eq_of_lt (Nat.lt_of_lt_of_le (Nat.mod_lt _ m1) hml)]
  constructor
  · intro h
    have key : ∀ n, mk row n = row.getD (n % s) false := fun n => by
      rw [mod_ n, ← tk _ (Nat.mod_lt _ m1), ← h, at_ _ (Nat.mod_lt _ m1), Nat.mod_mod_of_dvd n sdm]
    intro n _
    rw [key, key, Nat.add_mod_right]
  · intro h
    refine List.ext_getElem? fun i => ?_
    by_cases hi : i < many
    · have h1 := at_ i hi
      have h3 := tk i hi
      have h4 : row.getD i false = row.getD (i % s) false := by
        have e1 := h.mul (i / s) (i % s) (by omega)
        rw [Nat.mod_add_div' i s] at e1
        have e2 := mod_ i
        have e3 := mod_ (i % s)
        rw [Nat.mod_eq_of_lt hi] at e2
        rw [Nat.mod_eq_of_lt (Nat.lt_of_lt_of_le (Nat.mod_lt i s1) hsl)] at e3
        rw [← e2, ← e3, e1]
      rw [← h4, ← h3, List.getD_eq_getElem?_getD, List.getD_eq_getElem?_getD] at h1
      rw [List.getElem?_eq_getElem (by omega)] at h1 ⊢
      rw [List.getElem?_eq_getElem (by rw [List.length_take]; omega)] at h1 ⊢
      rw [Option.getD_some, Option.getD_some] at h1
      rw [h1]
    · rw [List.getElem?_eq_none (by omega), List.getElem?_eq_none (by rw [List.length_take]; omega)]
/-! ### strictly ascending rows -/
abbrev Asc (l : List Int) : Prop := l.Pairwise (· < ·)
theorem Asc.same : ∀ {l k : List Int}, Asc l → Asc k → (∀ z, z ∈ l ↔ z ∈ k) → l = k
  | [], [], _, _, _ => rfl
  | [], z :: k, _, _, h => absurd ((h z).mpr (by simp)) (by simp)
  | z :: l, [], _, _, h => absurd ((h z).mp (by simp)) (by simp)
  | x :: l, y :: k, hl, hk, h => by
    obtain ⟨h1, h2⟩ := List.pairwise_cons.mp hl
    obtain ⟨k1, k2⟩ := List.pairwise_cons.mp hk
    have exy : x = y := by
      have a := (h x).mp (by simp)
      have b := (h y).mpr (by simp)
      rcases List.mem_cons.mp a with a | a
      · exact a
      · rcases List.mem_cons.mp b with b | b
        · exact b.symm
        · have := h1 y b
          have := k1 x a
          omega
    subst exy
    congr 1
    refine Asc.same h2 k2 fun z => ?_
    constructor
    · intro hz
      rcases List.mem_cons.mp ((h z).mp (by simp [hz])) with e | e
      · have := h1 z hz; omega
      · exact e
    · intro hz
      rcases List.mem_cons.mp ((h z).mpr (by simp [hz])) with e | e
      · have := k1 z hz; omega
      · exact e
/-! ### a set of bases -/
structure BM where
  start : Int
  period : Int
  rests : List Int
  lone : List Int
def BM.rt (m : BM) (b : Int) : Bool := decide (b % m.period ∈ m.rests)
def BM.has (m : BM) (b : Int) : Bool := if b < m.start then decide (b ∈ m.lone) else m.rt b
structure Can (m : BM) : Prop where
  s2 : 2 ≤ m.start
  p1 : 1 ≤ m.period
  ra : Asc m.rests
  rb : ∀ r ∈ m.rests, 0 ≤ r ∧ r < m.period
  la : Asc m.lone
  lb : ∀ b ∈ m.lone, 2 ≤ b ∧ b < m.start
  ls : Lst (fun n => m.rt n) 0 m.period.toNat
  st : m.start = 2 ∨ decide (m.start - 1 ∈ m.lone) ≠ m.rt (m.start - 1)
theorem Lst.congr {f g : Nat → Bool} {s p : Nat} (h : Lst f s p) (e : ∀ n, s ≤ n → f n = g n) : Lst g s p := by
  have tr : ∀ {u v : Nat → Bool} {d : Nat}, (∀ n, s ≤ n → u n = v n) → Per u s d → Per v s d := fun {u v d} k hp n hn => by rw [← k n hn, ← k (n + d) (by omega), hp n hn]
  exact ⟨h.1, tr e h.2.1, fun d d1 d2 d3 => h.2.2 d d1 d2 (tr (fun n hn => (e n hn).symm) d3)⟩
theorem Can.uniq {m k : BM} (hm : Can m) (hk : Can k) (h : ∀ b, 2 ≤ b → m.has b = k.has b) : m = k := by
  obtain ⟨s, p, rs, lo⟩ := m
  obtain ⟨t, q, rs2, lo2⟩ := k
  obtain ⟨s2, p1, ra, rb, la, lb, ls, st⟩ := hm
  obtain ⟨t2, q1, ra2, rb2, la2, lb2, ls2, st2⟩ := hk
  dsimp only at *
  have far : ∀ n : Nat, (max s t).toNat ≤ n → BM.rt ⟨s, p, rs, lo⟩ n = BM.rt ⟨t, q, rs2, lo2⟩ n := fun n hn => by
    have h1 := h n (by omega)
    unfold BM.has at h1
    rw [if_neg (by show ¬ (n : Int) < s; omega), if_neg (by show ¬ (n : Int) < t; omega)] at h1
    exact h1
  have epq : p.toNat = q.toNat := ((ls.later (Nat.zero_le _)).congr far).same (ls2.later (Nat.zero_le _))
  obtain rfl : p = q := by omega
  have all : ∀ n : Nat, BM.rt ⟨s, p, rs, lo⟩ n = BM.rt ⟨t, p, rs2, lo2⟩ n := fun n => by
    have e1 := ls.2.1.mul (max s t).toNat n (by omega)
    have e2 := ls2.2.1.mul (max s t).toNat n (by omega)
    refine e1.symm.trans (Eq.trans ?_ e2)
    refine far _ ?_
    have : (max s t).toNat ≤ (max s t).toNat * p.toNat := Nat.le_mul_of_pos_right _ (by omega)
    omega
  have ers : rs = rs2 := ra.same ra2 fun z => by
    constructor
    · intro hz
      obtain ⟨z0, z1⟩ := rb z hz
      have := all z.toNat
      unfold BM.rt at this
      rw [Int.toNat_of_nonneg z0] at this
      dsimp only at this
      rw [Int.emod_eq_of_lt z0 z1] at this
      exact of_decide_eq_true (this ▸ decide_eq_true hz)
    · intro hz
      obtain ⟨z0, z1⟩ := rb2 z hz
      have := all z.toNat
      unfold BM.rt at this
      rw [Int.toNat_of_nonneg z0] at this
      dsimp only at this
      rw [Int.emod_eq_of_lt z0 z1] at this
      exact of_decide_eq_true (this.symm ▸ decide_eq_true hz)
  subst ers
  have ert : ∀ b, BM.rt ⟨s, p, rs, lo⟩ b = BM.rt ⟨t, p, rs, lo2⟩ b := fun b => rfl
  have est : s = t := by
    rcases Int.lt_trichotomy s t with c | c | c
    · exfalso
      have h1 := h (t - 1) (by omega)
      unfold BM.has at h1
      rw [if_neg (by show ¬ t - 1 < s; omega), if_pos (by show t - 1 < t; omega)] at h1
      rcases st2 with x | x
      · omega
      · exact x h1.symm
    · exact c
    · exfalso
      have h1 := h (s - 1) (by omega)
      unfold BM.has at h1
      rw [if_pos (by show s - 1 < s; omega), if_neg (by show ¬ s - 1 < t; omega)] at h1
      rcases st with x | x
      · omega
      · exact x h1
  subst est
  have elo : lo = lo2 := la.same la2 fun z => by
    constructor
    · intro hz
      obtain ⟨z0, z1⟩ := lb z hz
      have h1 := h z z0
      unfold BM.has at h1
      rw [if_pos (show z < s from z1), if_pos (show z < s from z1)] at h1
      exact of_decide_eq_true (h1 ▸ decide_eq_true hz)
    · intro hz
      obtain ⟨z0, z1⟩ := lb2 z hz
      have h1 := h z z0
      unfold BM.has at h1
      rw [if_pos (show z < s from z1), if_pos (show z < s from z1)] at h1
      exact of_decide_eq_true (h1.symm ▸ decide_eq_true hz)
  rw [elo]
end My
set_option Elab.async false
set_option linter.all false
set_option maxRecDepth 100000
set_option maxHeartbeats 4000000
/-! sets of bases: dicts of whole numbers, the objects -/
namespace My
open PySem PySem.Spec PyProof.Rows L2 Evl
/-- a dict of whole numbers, each to True -/
def asI (ks : List Int) : List (Key × V) := ks.map fun x => (.inl x, .bl true)
def addI (ks : List Int) (x : Int) : List Int := if x ∈ ks then ks else ks ++ [x]
theorem asI_any (ks : List Int) (x : Int) : ((asI ks).any fun kv => decide (kv.1 = .inl x)) = decide (x ∈ ks) := by
  unfold asI
  rw [List.any_map, Bool.eq_iff_iff, List.any_eq_true, decide_eq_true_iff]
  exact ⟨fun ⟨y, hy, h⟩ => Sum.inl.inj (of_decide_eq_true h) ▸ hy, fun h => ⟨x, h, decide_eq_true rfl⟩⟩
theorem putK_asI (ks : List Int) (x : Int) : putK (asI ks) (.inl x) (.bl true) = asI (addI ks x) := by
  unfold putK addI
  rw [asI_any]
  by_cases h : x ∈ ks
  · rw [if_pos (decide_eq_true h), if_pos h]
    unfold asI
    rw [List.map_map]
    refine List.map_congr_left fun y _ => ?_
    show (if (Sum.inl y : Key) = .inl x then ((Sum.inl y : Key), V.bl true) else (.inl y, .bl true)) = _
    split <;> rfl
  · rw [if_neg (by rw [decide_eq_false h]; decide), if_neg h]
    unfold asI
    rw [List.map_append]
    rfl
theorem addI_mem (ks : List Int) (x z : Int) : z ∈ addI ks x ↔ z ∈ ks ∨ z = x := by
  unfold addI
  split
  · rename_i h
    exact ⟨.inl, fun k => k.elim id fun e => e ▸ h⟩
  · rw [List.mem_append, List.mem_singleton]
theorem addI_len (ks : List Int) (x : Int) : (addI ks x).length ≤ ks.length + 1 := by unfold addI; split <;> simp
theorem addI_nodup {ks : List Int} (x : Int) (h : ks.Nodup) : (addI ks x).Nodup := by
  unfold addI
  split
  · exact h
  · rename_i hn
    rw [List.nodup_append]
    exact ⟨h, by simp, fun a ha b hb e => hn (by rw [List.mem_singleton] at hb; rw [← hb, ← e]; exact ha)⟩
theorem asI_len (ks : List Int) : (asI ks).length = ks.length := by unfold asI; rw [List.length_map]
/-- the keys are those of l -/
def DI (H : Hp) (d : Addr) (l : List Int) : Prop := ∃ ks : List Int, H d = some (.dK (asI ks)) ∧ ∀ z, z ∈ ks ↔ z ∈ l
theorem DI.ex {H H' : Hp} {d : Addr} {l : List Int} (e : Ex H H') (h : DI H d l) : DI H' d l := ⟨h.choose, e _ _ h.choose_spec.1, h.choose_spec.2⟩
theorem DI.get {H : Hp} {d : Addr} {l : List Int} (h : DI H d l) (z : Int) : ∃ o, DGet H d (.int z) o ∧ o.isSome = decide (z ∈ l) := by
  obtain ⟨ks, h1, h2⟩ := h
  refine ⟨_, DGet.k (k := .inl z) h1, ?_⟩
  unfold valV
  rw [Option.isSome_map, List.isSome_find?, asI_any, Bool.eq_iff_iff, decide_eq_true_iff, decide_eq_true_iff, h2]
theorem op_inDic {X : Cx} (hu : X.A.units + 1 < cLine) : OpR X (compareOp .In) (fun x y H Q => ∃ a o, y = .ref a ∧ DGet H a x o ∧ Q (.bl o.isSome) H) := by
  intro pins s σ H x y v u Q I rx ry h
  obtain ⟨a, o, rfl, g, q⟩ := h
  obtain rfl : u = Value.ref a := ry
  exact d_in hu I g rx fun s3 I3 => ⟨.bl o.isSome, H, I3, rfl, q⟩
/-- a set of bases as the package has it -/
def BasesO (K : PySem.W.Frag) (C : Addr) (H : Hp) (m : BM) (v : V) : Prop := ∃ a dx r l dr dl, v = .ref a ∧ H a = some (.ins C dx [("start", .int m.start), ("period", .int m.period), ("rests", .ref r), ("lone", .ref l), ("among_rests", .ref dr), ("among_lone", .ref dl)]) ∧
  SqT K H r (m.rests.map V.int) ∧ SqT K H l (m.lone.map V.int) ∧ DI H dr m.rests ∧ DI H dl m.lone
theorem BasesO.ex {K : PySem.W.Frag} {C : Addr} {H H' : Hp} {m : BM} {v : V} (e : Ex H H') (h : BasesO K C H m v) : BasesO K C H' m v := by
  obtain ⟨a, dx, r, l, dr, dl, rfl, h1, h2, h3, h4, h5⟩ := h
  exact ⟨a, dx, r, l, dr, dl, rfl, e _ _ h1, e.sqt h2, e.sqt h3, h4.ex e, h5.ex e⟩
/-! ### the form of a set -/
def restsOf (f : Nat → Bool) (p : Nat) : List Int := ((List.range p).filter f).map fun (i : Nat) => (i : Int)
theorem restsOf_mem {f : Nat → Bool} {p : Nat} {z : Int} : z ∈ restsOf f p ↔ 0 ≤ z ∧ z < p ∧ f z.toNat = true := by
  unfold restsOf
  rw [List.mem_map]
  constructor
  · rintro ⟨i, hi, rfl⟩
    rw [List.mem_filter, List.mem_range] at hi
    exact ⟨by omega, by omega, by rw [Int.toNat_natCast]; exact hi.2⟩
  · rintro ⟨h0, h1, h2⟩
    exact ⟨z.toNat, by rw [List.mem_filter, List.mem_range]; exact ⟨by omega, h2⟩, by omega⟩
theorem restsOf_asc (f : Nat → Bool) (p : Nat) : Asc (restsOf f p) := by
  unfold restsOf
  refine List.pairwise_map.mpr (List.Pairwise.filter _ ?_)
  exact List.pairwise_lt_range.imp fun h => by omega
theorem restsOf_len (f : Nat → Bool) (p : Nat) : (restsOf f p).length ≤ p := by
  unfold restsOf
  rw [List.length_map]
  have := List.length_filter_le f (List.range p)
  rw [List.length_range] at this
  exact this
theorem rt_rests {f : Nat → Bool} {p : Nat} (p1 : 1 ≤ p) (hp : Per f 0 p) (s : Int) (lo : List Int) (n : Nat) : BM.rt ⟨s, p, restsOf f p, lo⟩ n = f n := by
  unfold BM.rt
  dsimp only
  have e1 := hp.mul (n / p) (n % p) (by omega)
  rw [Nat.mod_add_div' n p] at e1
  rw [Bool.eq_iff_iff, decide_eq_true_iff, restsOf_mem]
  have h1 : ((n : Int) % (p : Int)) = ((n % p : Nat) : Int) := by omega
  rw [h1, Int.toNat_natCast, e1]
  have := Nat.mod_lt n p1
  exact ⟨fun h => h.2.2, fun h => ⟨by omega, by omega, h⟩⟩
theorem can_of {f : Nat → Bool} {p : Nat} {s : Int} {lo : List Int} (hl : Lst f 0 p) (s2 : 2 ≤ s) (la : Asc lo) (lb : ∀ b ∈ lo, 2 ≤ b ∧ b < s) (st : s = 2 ∨ decide (s - 1 ∈ lo) ≠ f (s - 1).toNat) : Can ⟨s, p, restsOf f p, lo⟩ := by
  have p1 : 1 ≤ p := hl.1
  refine ⟨s2, by show (1 : Int) ≤ p; omega, restsOf_asc f p, fun r hr => ?_, la, lb, ?_, ?_⟩
  · have := restsOf_mem.mp hr
    exact ⟨this.1, this.2.1⟩
  · show Lst _ 0 ((p : Int).toNat)
    rw [Int.toNat_natCast]
    exact hl.congr fun n _ => (rt_rests p1 hl.2.1 s lo n).symm
  · refine st.imp id fun h => ?_
    have e := rt_rests p1 hl.2.1 s lo (s - 1).toNat
    rw [Int.toNat_of_nonneg (by omega)] at e
    show decide (s - 1 ∈ lo) ≠ BM.rt ⟨s, p, restsOf f p, lo⟩ (s - 1)
    rw [e]
    exact h
theorem has_of {f : Nat → Bool} {p : Nat} {s : Int} {lo : List Int} (hl : Lst f 0 p) (s2 : 2 ≤ s) (b : Int) (b2 : 2 ≤ b) : BM.has ⟨s, p, restsOf f p, lo⟩ b = if b < s then decide (b ∈ lo) else f b.toNat := by
  unfold BM.has
  have e := rt_rests hl.1 hl.2.1 s lo b.toNat
  rw [Int.toNat_of_nonneg (by omega)] at e
  rw [e]
/-! ### settle -/
/-- start and lone brought down to t and the first k -/
structure SetI (f : Nat → Bool) (s : Int) (lo : List Int) (t : Int) (k : Nat) : Prop where
  t2 : 2 ≤ t
  ts : t ≤ s
  kl : k ≤ lo.length
  lo_ : ∀ z ∈ lo.take k, z < t
  hi : ∀ z ∈ lo.drop k, t ≤ z
  eq : ∀ b, t ≤ b → b < s → decide (b ∈ lo) = f b.toNat
section
variable {f : Nat → Bool} {s t : Int} {lo : List Int} {k : Nat}
theorem SetI.start (s2 : 2 ≤ s) (lb : ∀ b ∈ lo, 2 ≤ b ∧ b < s) : SetI f s lo s lo.length :=
  ⟨s2, Int.le_refl _, Nat.le_refl _, fun z hz => (lb z (List.take_subset _ _ hz)).2, fun z hz => (by rw [List.drop_length] at hz; cases hz), fun b h1 h2 => by omega⟩
theorem SetI.mem (h : SetI f s lo t k) {b : Int} (hb : b < t) : b ∈ lo ↔ b ∈ lo.take k := by
  constructor
  · intro hm
    rw [← List.take_append_drop k lo] at hm
    rcases List.mem_append.mp hm with h1 | h1
    · exact h1
    · have := h.hi b h1; omega
  · exact fun hm => List.take_subset _ _ hm
theorem SetI.last (h : SetI f s lo t k) (la : Asc lo) : (0 < k ∧ lo[k - 1]? = some (t - 1)) ↔ t - 1 ∈ lo := by
  rw [h.mem (by omega)]
  constructor
  · rintro ⟨k0, e⟩
    rw [List.mem_iff_getElem?]
    exact ⟨k - 1, by rw [List.getElem?_take_of_lt (by omega)]; exact e⟩
  · intro hm
    obtain ⟨i, hi⟩ := List.mem_iff_getElem?.mp hm
    have hik : i < (lo.take k).length := (List.getElem?_eq_some_iff.mp hi).1
    rw [List.length_take] at hik
    have kk := h.kl
    refine ⟨by omega, ?_⟩
    rw [List.getElem?_take_of_lt (by omega)] at hi
    by_cases e : i = k - 1
    · rw [← e]; exact hi
    · have hl : k - 1 < lo.length := by omega
      have h1 : lo[i]'(by omega) = t - 1 := (List.getElem?_eq_some_iff.mp hi).2
      have h2 := List.pairwise_iff_getElem.mp la i (k - 1) (by omega) hl (by omega)
      have h3 := h.lo_ lo[k - 1] (List.mem_iff_getElem?.mpr ⟨k - 1, by rw [List.getElem?_take_of_lt (by omega), List.getElem?_eq_getElem hl]⟩)
      omega
theorem SetI.down (h : SetI f s lo t k) (la : Asc lo) (t2 : 2 < t) (e : decide (t - 1 ∈ lo) = f (t - 1).toNat) : SetI f s lo (t - 1) (if f (t - 1).toNat = true then k - 1 else k) := by
  have hs := h.last la
  have kk := h.kl
  have tt := h.ts
  refine ⟨by omega, by omega, by split <;> omega, fun z hz => ?_, fun z hz => ?_, fun b h1 h2 => ?_⟩
  · by_cases hf : f (t - 1).toNat = true
    · rw [if_pos hf] at hz
      rw [hf] at e
      obtain ⟨k0, e1⟩ := hs.mpr (of_decide_eq_true e)
      obtain ⟨i, hi⟩ := List.mem_iff_getElem?.mp hz
      have hik : i < (lo.take (k - 1)).length := (List.getElem?_eq_some_iff.mp hi).1
      rw [List.length_take] at hik
      rw [List.getElem?_take_of_lt (by omega)] at hi
      have hl : k - 1 < lo.length := by omega
      have h2 := List.pairwise_iff_getElem.mp la i (k - 1) (by omega) hl (by omega)
      rw [(List.getElem?_eq_some_iff.mp hi).2, (List.getElem?_eq_some_iff.mp e1).2] at h2
      exact h2
    · rw [if_neg hf] at hz
      have h1 := h.lo_ z hz
      rw [Bool.not_eq_true] at hf
      rw [hf] at e
      have h2 : z ≠ t - 1 := fun c => of_decide_eq_false e (c ▸ List.take_subset _ _ hz)
      omega
  · by_cases hf : f (t - 1).toNat = true
    · rw [if_pos hf] at hz
      rw [hf] at e
      obtain ⟨k0, e1⟩ := hs.mpr (of_decide_eq_true e)
      have hl : k - 1 < lo.length := by omega
      rw [List.drop_eq_getElem_cons hl, show k - 1 + 1 = k by omega] at hz
      rcases List.mem_cons.mp hz with rfl | hz
      · rw [(List.getElem?_eq_some_iff.mp e1).2]; omega
      · have := h.hi z hz; omega
    · rw [if_neg hf] at hz
      have := h.hi z hz; omega
  · by_cases hb : b = t - 1
    · rw [hb]; exact e
    · exact h.eq b (by omega) h2
/-- the end of the loop -/
theorem SetI.end_ {p : Nat} (h : SetI f s lo t k) (hl : Lst f 0 p) (la : Asc lo) (lb : ∀ b ∈ lo, 2 ≤ b ∧ b < s) (e : t = 2 ∨ decide (t - 1 ∈ lo) ≠ f (t - 1).toNat) :
    Can ⟨t, p, restsOf f p, lo.take k⟩ ∧ ∀ b, 2 ≤ b → BM.has ⟨t, p, restsOf f p, lo.take k⟩ b = if b < s then decide (b ∈ lo) else f b.toNat := by
  refine ⟨can_of hl h.t2 (la.sublist (List.take_sublist _ _)) (fun b hb => ⟨(lb b (List.take_subset _ _ hb)).1, h.lo_ b hb⟩) (e.imp id fun hne => ?_), fun b b2 => ?_⟩
  · rw [show decide (t - 1 ∈ lo.take k) = decide (t - 1 ∈ lo) from decide_eq_decide.mpr (h.mem (by omega)).symm]
    exact hne
  · rw [has_of hl h.t2 b b2]
    have := h.ts
    by_cases h1 : b < t
    · rw [if_pos h1, if_pos (by omega)]
      exact decide_eq_decide.mpr (h.mem h1).symm
    · rw [if_neg h1]
      by_cases h2 : b < s
      · rw [if_pos h2, h.eq b (by omega) h2]
      · rw [if_neg h2]
end
end My
set_option Elab.async false
set_option linter.all false
set_option maxRecDepth 100000
set_option maxHeartbeats 4000000
/-! runs: what names hold, one row, rows that stop somewhere -/
namespace My
open PySem PySem.Spec PyProof.Rows L2 Evl
/-- a dict of names and numbers -/
def heldK (ns : List Str) (f : Str → Int) : List (Key × V) := ns.map fun n => (.inr n, .int (f n))
def setF (f : Str → Int) (n : Str) (v : Int) : Str → Int := fun x => if x = n then v else f x
theorem heldK_get {ns : List Str} {f : Str → Int} {n : Str} (h : n ∈ ns) : valV (heldK ns f) (.inr n) = some (.int (f n)) := by
  unfold valV heldK
  induction ns with
  | nil => cases h
  | cons x xs ih =>
    rw [List.map_cons, List.find?_cons]
    by_cases e : x = n
    · subst e
      simp
    · have e2 : decide ((Sum.inr x : Key) = Sum.inr n) = false := decide_eq_false fun k => e (Sum.inr.inj k)
      simp only [e2]
      exact ih ((List.mem_cons.mp h).resolve_left fun k => e k.symm)
theorem heldK_put {ns : List Str} {f : Str → Int} {n : Str} {v : Int} (h : n ∈ ns) : putK (heldK ns f) (.inr n) (.int v) = heldK ns (setF f n v) := by
  have ha : ((heldK ns f).any fun kv => decide (kv.1 = (Sum.inr n : Key))) = true := by
    unfold heldK
    rw [List.any_map, List.any_eq_true]
    exact ⟨n, h, decide_eq_true rfl⟩
  unfold putK
  rw [if_pos ha]
  unfold heldK setF
  rw [List.map_map]
  refine List.map_congr_left fun x _ => ?_
  show (if (Sum.inr x : Key) = Sum.inr n then ((Sum.inr x : Key), V.int v) else (.inr x, .int (f x))) = (.inr x, .int (if x = n then v else f x))
  by_cases e : x = n
  · subst e; rw [if_pos rfl, if_pos rfl]
  · rw [if_neg (fun k => e (Sum.inr.inj k)), if_neg e]
theorem heldK_len (ns : List Str) (f : Str → Int) : (heldK ns f).length = ns.length := List.length_map _
/-- what stands for an argument -/
def givV (f : Str → Int) : V → Int
  | .str x => f x
  | .int i => i
  | _ => 0
/-- what a deed comes to, as far as it is told here: none: not told; some none: it stops -/
def resM (d : Str) (gs : List Int) (b : Int) : Option (Option Int) :=
  if d = "number" then (match gs with | [x] => some (some x) | _ => none)
  else if d = "base" then (match gs with | [] => some (some b) | _ => none)
  else if d = "-" then (match gs with | [x, y] => some (if x ≥ y then some (x - y) else none) | _ => none)
  else if d = "//" then (match gs with | [_, y] => if y > 0 then none else some none | _ => none)
  else if d = "rest" then (match gs with | [_, y] => if y > 0 then none else some none | _ => none)
  else if d = "figures" then (if gs.all (fun g => decide (g < b)) then none else some none)
  else none
def stepM (b : Int) : RowM → (Str → Int) → Option (Option (Str → Int))
  | .stop, _ => some none
  | .put n d g, f => (resM d (g.map (givV f)) b).map fun o => o.map fun v => setF f n v
  | _, _ => none
/-- the rows stop at the k-th -/
def stopsAt (b : Int) : List RowM → (Str → Int) → Nat → Prop
  | r :: _, f, 0 => stepM b r f = some none
  | r :: rs, f, k + 1 => ∃ g, stepM b r f = some (some g) ∧ stopsAt b rs g k
  | [], _, _ => False
/-- a row that is put or stop, of names told -/
def rowN (ns : List Str) : RowM → Prop
  | .put n _ g => n ∈ ns ∧ g.length ≤ 6 ∧ ∀ v ∈ g, (∃ x, v = .str x ∧ x ∈ ns) ∨ ∃ i, v = .int i
  | .stop => True
  | _ => False
theorem stops_lt {b : Int} : ∀ {rs : List RowM} {f : Str → Int} {k : Nat}, stopsAt b rs f k → k < rs.length
  | r :: rs, f, 0, _ => by simp
  | r :: rs, f, k + 1, ⟨g, _, h⟩ => by have := stops_lt h; rw [List.length_cons]; omega
  | [], _, _, h => h.elim
/-- the state of a walk: what stays stands in G, two dicts change -/
structure WkS (CW : Addr) (G H : Hp) (w : V) (b : V) (dh dc : Addr) (ns : List Str) (f : Str → Int) (cs : List Int) : Prop where
  g : Ex G H
  h0 : G dh = none
  c0 : G dc = none
  ne : dh ≠ dc
  ob : ∃ a dx, w = .ref a ∧ G a = some (.ins CW dx [("among", b), ("held", .ref dh), ("came", .ref dc)])
  hd : H dh = some (.dK (heldK ns f))
  cm : H dc = some (.dK (asI cs))
section
variable {CW : Addr} {G H H' : Hp} {w b : V} {dh dc : Addr} {ns : List Str} {f : Str → Int} {cs : List Int}
theorem WkS.ex (s : WkS CW G H w b dh dc ns f cs) (e : Ex H H') : WkS CW G H' w b dh dc ns f cs := ⟨s.g.trans e, s.h0, s.c0, s.ne, s.ob, e _ _ s.hd, e _ _ s.cm⟩
theorem WkS.put (s : WkS CW G H w b dh dc ns f cs) {n : Str} {v : Int} (h : n ∈ ns) : WkS CW G (upd H dh (.dK (putK (heldK ns f) (.inr n) (.int v)))) w b dh dc ns (setF f n v) cs :=
  ⟨s.g.mut s.h0, s.h0, s.c0, s.ne, s.ob, by rw [upd_same, heldK_put h], by rw [upd_ne s.ne.symm]; exact s.cm⟩
theorem WkS.came (s : WkS CW G H w b dh dc ns f cs) {i : Int} : WkS CW G (upd H dc (.dK (putK (asI cs) (.inl i) (.bl true)))) w b dh dc ns f (addI cs i) :=
  ⟨s.g.mut s.c0, s.h0, s.c0, s.ne, s.ob, by rw [upd_ne s.ne]; exact s.hd, by rw [upd_same, putK_asI]⟩
end
end My
set_option Elab.async false
set_option linter.all false
set_option maxRecDepth 100000
set_option maxHeartbeats 4000000
/-! list(zip(a, b)) of two lists of one length -/
namespace My
open PySem PySem.Spec PyProof.Rows L2 Evl
theorem zip_no_len : typeLookup (.type "zip") "__len__" = pure none := am_miss_of_fast (by decide +kernel)
theorem zip_no_hint : typeLookup (.type "zip") "__length_hint__" = pure none := am_miss_of_fast (by decide +kernel)
structure ZA where
  z : Addr
  t : Addr
  o : Addr
  i : Addr
  j : Addr
  l : Addr
  k : Addr
/-- the zip after n items; S the list that takes them -/
structure ZSt (Z : ZA) (S : Addr) (xs ys : List Value) (n : Nat) (h : Heap) : Prop where
  ti : IsPair h Z.t (.ref Z.i) (.ref Z.j)
  i1 : h.IsListIter Z.i Z.l n
  i2 : h.IsListIter Z.j Z.k n
  l1 : h.IsList Z.l xs.toArray
  l2 : h.IsList Z.k ys.toArray
  own : (IsZip h Z.z Z.t Z.o .none ∧ ∃ a b, IsPair h Z.o a b) ∨ ∃ T f oT, PySem.IsZipHeld h Z.z Z.t Z.o T f ∧ h.get? T = some oT ∧ T ≠ Z.z ∧ T ≠ Z.i ∧ T ≠ Z.j ∧ T ≠ S
structure ZOk (Z : ZA) (S : Addr) : Prop where
  D : ZipApart Z.z Z.t Z.o Z.i Z.j Z.l Z.k
  sz : Z.z ≠ S
  st : Z.t ≠ S
  so : Z.o ≠ S
  si : Z.i ≠ S
  sj : Z.j ≠ S
  sl : Z.l ≠ S
  sk : Z.k ≠ S
  lz : Z.z < S
  lo : Z.o < S
  li : Z.i < S
  lj : Z.j < S
theorem ZSt.keep {Z : ZA} {S : Addr} {xs ys : List Value} {n : Nat} {h h' : Heap} (g : ZSt Z S xs ys n h) (k : ZOk Z S) (e : ∀ b o, b ≠ S → h.get? b = some o → h'.get? b = some o) : ZSt Z S xs ys n h' := by
  refine ⟨e _ _ k.st g.ti, g.i1.at fun o => e _ o k.si, g.i2.at fun o => e _ o k.sj, g.l1.at fun o => e _ o k.sl, g.l2.at fun o => e _ o k.sk, ?_⟩
  rcases g.own with ⟨z, a, b, p⟩ | ⟨T, f, oT, z, t, n1, n2, n3, n4⟩
  · exact .inl ⟨e _ _ k.sz z, a, b, e _ _ k.so p⟩
  · exact .inr ⟨T, f, oT, e _ _ k.sz z, e _ _ n4 t, n1, n2, n3, n4⟩
section
variable {P : Program} {w : World} {A : Around} {EX : Value → Shared → Prop} {s : Shared} {Z : ZA} {S : Addr} {xs ys : List Value} {n : Nat}
theorem z_item {x y : Value} {Q : Option Value → Shared → Prop} (k : ZOk Z S) (g : ZSt Z S xs ys n s.heap) (hS : S < s.heap.objs.size) (hx : xs[n]? = some x) (hy : ys[n]? = some y)
    (hQ : ∀ h', ZSt Z S xs ys (n + 1) h' → IsPair h' s.heap.objs.size x y → h'.objs.size = s.heap.objs.size + 1 → (∀ c o, c ≠ Z.z → c ≠ Z.o → c ≠ Z.i → c ≠ Z.j → s.heap.get? c = some o → h'.get? c = some o) → Q (some (.ref s.heap.objs.size)) { s with heap := h' }) :
    wpAny (model P w) A (pyNext (.ref Z.z)) Q EX s := by
  have hx' : xs.toArray[n]? = some x := by simpa using hx
  have hy' : ys.toArray[n]? = some y := by simpa using hy
  have big : ∀ {c : Addr}, c < S → s.heap.objs.size ≠ c := fun hc => Nat.ne_of_gt (Nat.lt_trans hc hS)
  rcases g.own with ⟨z, a, b, p⟩ | ⟨T, f, oT, z, t, n1, n2, n3, n4⟩
  · refine wpAny_pyNext_zip_item k.D z g.ti p g.i1 g.i2 g.l1 g.l2 hx' hy' fun h' a1 a2 a3 a4 a5 a6 a7 => hQ h' ⟨?_, a3, a4, ?_, ?_, .inr ⟨_, false, _, a1, a5, big k.lz, big k.li, big k.lj, Nat.ne_of_gt hS⟩⟩ a5 a6 a7
    · exact a7 _ _ k.D.TIz k.D.TITO k.D.TIi1 k.D.TIi2 g.ti
    · exact g.l1.at fun o => a7 _ o k.D.l1z k.D.l1TO k.D.l1i1 k.D.l1i2
    · exact g.l2.at fun o => a7 _ o k.D.l2z k.D.l2TO k.D.l2i1 k.D.l2i2
  · refine PySem.wpAny_pyNext_zip_item_held k.D z t g.ti g.i1 g.i2 g.l1 g.l2 hx' hy' fun h' a1 a3 a4 a5 a6 a7 => hQ h' ⟨?_, a3, a4, ?_, ?_, .inr ⟨T, true, oT, a1, a7 _ _ n1 n2 n3 t, n1, n2, n3, n4⟩⟩ a5 a6 fun c o c1 _ => a7 c o c1
    · exact a7 _ _ k.D.TIz k.D.TIi1 k.D.TIi2 g.ti
    · exact g.l1.at fun o => a7 _ o k.D.l1z k.D.l1i1 k.D.l1i2
    · exact g.l2.at fun o => a7 _ o k.D.l2z k.D.l2i1 k.D.l2i2
theorem z_end {Q : Option Value → Shared → Prop} (hh : A.handled = none) (k : ZOk Z S) (g : ZSt Z S xs ys n s.heap) (hx : xs.length ≤ n)
    (hQ : ∀ h', (∀ c o, c ≠ Z.z → c ≠ Z.o → c ≠ Z.i → c ≠ Z.j → s.heap.get? c = some o → h'.get? c = some o) → Q none { s with heap := h' }) : wpAny (model P w) A (pyNext (.ref Z.z)) Q EX s := by
  have he : xs.toArray[n]? = none ∨ ys.toArray[n]? = none := .inl (by simp [hx])
  rcases g.own with ⟨z, a, b, p⟩ | ⟨T, f, oT, z, t, n1, n2, n3, n4⟩
  · exact wpAny_pyNext_zip_end hh k.D z g.ti p g.i1 g.i2 g.l1 g.l2 he hQ
  · exact PySem.wpAny_pyNext_zip_end_held hh k.D z t g.ti g.i1 g.i2 g.l1 g.l2 he fun h' a => hQ h' fun c o c1 _ => a c o c1
end
/-- the pairs that have come -/
structure ZG (xs ys : List Value) (S : Addr) (h : Heap) (as : List Addr) : Prop where
  up : as.Pairwise (· < ·)
  hi : ∀ a ∈ as, S < a
  at_ : ∀ (j : Nat) (a : Addr), as[j]? = some a → ∃ x y, xs[j]? = some x ∧ ys[j]? = some y ∧ IsPair h a x y
section
variable {P : Program} {w : World} {A : Around} {s : Shared} {R : Result → Shared → Prop} {Z : ZA} {S : Addr} {xs ys : List Value}
theorem z_loop (hh : A.handled = none) (k : ZOk Z S) (hl : xs.length = ys.length) (hn : xs.length ≤ sizeLine) (res : Value) {h₁ : Heap}
    (hR : ∀ h' tk acc c as, (∀ b o, b ≠ S → b ≠ Z.z → b ≠ Z.o → b ≠ Z.i → b ≠ Z.j → h₁.get? b = some o → h'.get? b = some o) → h'.get? S = some { cls := .type "list", dict := none, data := .seq acc c, slots := #[] } → as.length = xs.length → ZG xs ys S h' as → acc.toList = as.map Value.ref → R (.ok (.ret res)) { s with heap := h', toks := tk }) :
    ∀ (m i : Nat) (h : Heap) (tk c : Nat) (acc : Array Value) (as : List Addr), xs.length - i = m → i ≤ xs.length → ZSt Z S xs ys i h → (∀ b o, b ≠ S → b ≠ Z.z → b ≠ Z.o → b ≠ Z.i → b ≠ Z.j → h₁.get? b = some o → h.get? b = some o) →
      h.get? S = some { cls := .type "list", dict := none, data := .seq acc c, slots := #[] } → acc.toList = as.map Value.ref → as.length = i → ZG xs ys S h as →
      codeAny (model P w) A (.builtin "list.extend.loop" ⟨[.ref S, .ref Z.z, res], []⟩) R { s with heap := h, toks := tk } := by
  intro m
  have nS : ∀ {b : Addr}, S < b → b ≠ S ∧ b ≠ Z.z ∧ b ≠ Z.o ∧ b ≠ Z.i ∧ b ≠ Z.j := fun {b} hb => ⟨Nat.ne_of_gt hb, Nat.ne_of_gt (Nat.lt_trans k.lz hb), Nat.ne_of_gt (Nat.lt_trans k.lo hb), Nat.ne_of_gt (Nat.lt_trans k.li hb), Nat.ne_of_gt (Nat.lt_trans k.lj hb)⟩
  induction m with
  | zero =>
    intro i h tk c acc as hk hi hst hkeep hS hacc hal hG
    refine codeAny_builtin PySem.F.entry_extend_loop (Eq.mpr (by rw [Around.under_plainId PySem.F.plain_extend_loop _]) ?_)
    show wpAny _ A.in1 (pyNext (.ref Z.z) >>= _) _ _ { s with heap := h, toks := tk }
    refine wpAny_bind (z_end (s := { s with heap := h, toks := tk }) (A := A.in1) hh k hst (by omega) fun h' he => wpAny_pure (hR h' tk acc c as (fun b o h1 h2 h3 h4 h5 e => he b o h2 h3 h4 h5 (hkeep b o h1 h2 h3 h4 h5 e)) (he S _ k.sz.symm k.so.symm k.si.symm k.sj.symm hS) (by omega) ⟨hG.up, hG.hi, fun j a hj => ?_⟩ hacc))
    obtain ⟨x, y, e1, e2, e3⟩ := hG.at_ j a hj
    obtain ⟨q1, q2, q3, q4, q5⟩ := nS (hG.hi a (List.mem_of_getElem? hj))
    exact ⟨x, y, e1, e2, he a _ q2 q3 q4 q5 e3⟩
  | succ m ih =>
    intro i h tk c acc as hk hi hst hkeep hS hacc hal hG
    have hlt : i < xs.length := by omega
    have hx : xs[i]? = some xs[i] := List.getElem?_eq_getElem hlt
    have hy : ys[i]? = some (ys[i]'(hl ▸ hlt)) := List.getElem?_eq_getElem (hl ▸ hlt)
    have hz : acc.size = i := by rw [← Array.length_toList, hacc, List.length_map, hal]
    have hSl : S < h.objs.size := Heap.lt_size hS
    refine codeAny_builtin PySem.F.entry_extend_loop (Eq.mpr (by rw [Around.under_plainId PySem.F.plain_extend_loop _]) ?_)
    show wpAny _ A.in1 (pyNext (.ref Z.z) >>= _) _ _ { s with heap := h, toks := tk }
    refine wpAny_bind (z_item (s := { s with heap := h, toks := tk }) (A := A.in1) k hst hSl hx hy fun h' st' ht hz' hkp => ?_)
    have hS' : h'.get? S = _ := hkp S _ k.sz.symm k.so.symm k.si.symm k.sj.symm hS
    have ht : IsPair h' h.objs.size xs[i] (ys[i]'(hl ▸ hlt)) := ht
    have off : ∀ b o, b ≠ S → h'.get? b = some o → (h'.update S (Obj.mapSeq (·.push (Value.ref h.objs.size)))).get? b = some o := fun b o hb => (Heap.get?_update_other _ _ hb.symm).trans
    show wpAny _ A.in1 (updateSeq S (·.push (Value.ref h.objs.size)) >>= _) _ _ _
    refine wpAny_bind (wpAny_updateSeq hS' rfl (wpAny_pure ⟨plainId_quiet PySem.F.plain_extend_loop _, ?_⟩) (by rw [hz]; omega) (by show (acc.push (Value.ref h.objs.size)).size ≤ sizeLine + 1; rw [Array.size_push, hz]; omega))
    refine ih (i + 1) _ tk _ (acc.push (Value.ref h.objs.size)) (as ++ [h.objs.size]) (by omega) hlt (st'.keep k off) (fun b o h1 h2 h3 h4 h5 e => off b o h1 (hkp b o h2 h3 h4 h5 (hkeep b o h1 h2 h3 h4 h5 e))) (Heap.get?_update_self _ hS' rfl) (by rw [Array.toList_push, hacc, List.map_append]; rfl) (by rw [List.length_append, hal]; rfl) ⟨?_, ?_, ?_⟩
    · refine List.pairwise_append.mpr ⟨hG.up, List.pairwise_singleton _ _, fun a ha b hb => ?_⟩
      rw [List.mem_singleton.mp hb]
      obtain ⟨j, hj⟩ := List.mem_iff_getElem?.mp ha
      obtain ⟨_, _, _, _, e⟩ := hG.at_ j a hj
      exact Heap.lt_size e
    · intro a ha
      rcases List.mem_append.mp ha with ha | ha
      · exact hG.hi a ha
      · rw [List.mem_singleton.mp ha]; exact hSl
    · intro j b hj
      rcases Nat.lt_trichotomy j as.length with h1 | h1 | h1
      · rw [List.getElem?_append_left h1] at hj
        obtain ⟨x, y, e1, e2, e3⟩ := hG.at_ j b hj
        obtain ⟨q1, q2, q3, q4, q5⟩ := nS (hG.hi b (List.mem_of_getElem? hj))
        exact ⟨x, y, e1, e2, off b _ q1 (hkp b _ q2 q3 q4 q5 e3)⟩
      · subst h1
        obtain rfl : h.objs.size = b := by simpa using hj
        exact ⟨_, _, by rw [hal]; exact hx, by rw [hal]; exact hy, off _ _ (Nat.ne_of_gt hSl) ht⟩
      · rw [List.getElem?_eq_none (by rw [List.length_append, List.length_singleton]; omega)] at hj
        cases hj
end
end My
set_option Elab.async false
set_option linter.all false
set_option maxRecDepth 100000
set_option maxHeartbeats 4000000
/-! list(zip(a, b)): the call -/
namespace My
open PySem PySem.Spec PyProof.Rows L2 Evl
section
variable {P : Program} {w : World} {A : Around} {s : Shared} {R : Result → Shared → Prop} {Z : ZA} {S : Addr} {xs ys : List Value}
abbrev ZR (Z : ZA) (S : Addr) (xs ys : List Value) (s : Shared) (K : Heap → Nat → Prop) : Prop :=
  ∀ h' tk acc c as, (∀ b o, b ≠ S → b ≠ Z.z → b ≠ Z.o → b ≠ Z.i → b ≠ Z.j → s.heap.get? b = some o → h'.get? b = some o) → h'.get? S = some { cls := .type "list", dict := none, data := .seq acc c, slots := #[] } → as.length = xs.length → ZG xs ys S h' as → acc.toList = as.map Value.ref → K h' tk
abbrev ZF (P : Program) (w : World) (A : Around) (R : Result → Shared → Prop) : Fin → Shared → Prop :=
  fun fin s' => match fin with | .done f => R (.ok f) s' | .again c' => c'.quiet = true ∧ codeAny (model P w) A c' R s'
theorem z_extend (hh : A.handled = none) (k : ZOk Z S) (hl : xs.length = ys.length) (hn : xs.length ≤ sizeLine) (c₀ : Nat) (g : ZSt Z S xs ys 0 s.heap) (hS : s.heap.get? S = some { cls := .type "list", data := .seq #[] c₀ })
    (hR : ZR Z S xs ys s fun h' tk => R (.ok (.ret .none)) { s with heap := h', toks := tk }) :
    wpAny (model P w) A.in1 (Builtin.List.listExtendWith (.ref S) (.ref Z.z) .none) (ZF P w A R) (fun e s' => R (.error e) s') s := by
  have hT : s.TypeIs (.ref Z.z) "zip" := by
    rcases g.own with ⟨z, _⟩ | ⟨T, f, oT, z, _⟩
    · exact ⟨_, z, rfl⟩
    · exact ⟨_, z, rfl⟩
  have hz0 : ∃ TI TO, IsZip s.heap Z.z TI TO .none ∨ ∃ T f, IsZipHeld s.heap Z.z TI TO T f := by
    rcases g.own with ⟨z, _⟩ | ⟨T, f, oT, z, _⟩
    · exact ⟨_, _, .inl z⟩
    · exact ⟨_, _, .inr ⟨T, f, z⟩⟩
  unfold Builtin.List.listExtendWith
  refine wpAny_bind (wpAny_typeOf hT ?_)
  rw [show Builtin.List.listSameRef (.ref S) (.ref Z.z) = false from by simp [Builtin.List.listSameRef, k.sz.symm]]
  rw [show (Value.type "zip" == Value.type "list") = false from by decide, show (Value.type "zip" == Value.type "tuple") = false from by decide]
  simp only [Bool.or_false, Bool.false_eq_true, if_false]
  have it : ∀ {Q : Value → Shared → Prop} {E : Value → Shared → Prop}, Q (.ref Z.z) s → wpAny (model P w) A.in1 (pyIter (.ref Z.z)) Q E s := fun {Q E} q => by
    have h1 := hT
    refine wpAny_pyIter_slot hT PySem.F.slot_zip_iter (wpAny_call_entry PySem.F.slot_zip_iter hT PySem.F.entry_zip_iter ?_ (PySem.F.args_zip_iter_1 _))
    exact wpAny_pure ⟨_, rfl, "zip", _, hT, PySem.F.slot_zip_next.lookup, q⟩
  refine wpAny_bind (it (wpAny_bind (wpAny_holding ?_)))
  unfold Builtin.List.listLengthHint
  refine wpAny_bind (wpAny_specialOf hT zip_no_len ?_)
  refine wpAny_bind (wpAny_specialOf hT zip_no_hint ?_)
  refine wpAny_pure ?_
  show wpAny _ A.in1 (rule "list.extend.makes-room" >>= fun _ => Builtin.List.listTouch (.ref S) >>= fun _ => again (.builtin "list.extend.loop" ⟨[.ref S, .ref Z.z, .none], []⟩)) _ _ s
  refine wpAny_bind (wpAny_rule (wpAny_bind ?_))
  show wpAny _ A.in1 (updateSeq S (·.push .none) >>= fun _ => updateSeq S (·.pop)) _ _ s
  have hS2 := Heap.get?_update_self (Obj.mapSeq (·.push Value.none)) hS rfl
  refine wpAny_bind (wpAny_updateSeq hS rfl (wpAny_updateSeq (hz := by seq_fits) hS2 rfl ?_))
  have hS3 := Heap.get?_update_self (Obj.mapSeq (·.pop)) hS2 rfl
  have off : ∀ b o, b ≠ S → s.heap.get? b = some o → ((s.heap.update S (Obj.mapSeq (·.push Value.none))).update S (Obj.mapSeq (·.pop))).get? b = some o := fun b o hb e =>
    ((Heap.get?_update_other _ _ hb.symm).trans (Heap.get?_update_other _ _ hb.symm)).trans e
  refine wpAny_pure ⟨plainId_quiet PySem.F.plain_extend_loop _, ?_⟩
  exact z_loop (s := s) (h₁ := s.heap) hh k hl hn .none hR xs.length 0 _ s.toks _ #[] [] (Nat.sub_zero _) (Nat.zero_le _) (g.keep k off) (fun b o h1 _ _ _ _ => off b o h1) hS3 rfl rfl ⟨.nil, fun _ ha => (nomatch ha), fun j a hj => by simp at hj⟩
theorem z_init (hh : A.handled = none) (k : ZOk Z S) (hl : xs.length = ys.length) (hn : xs.length ≤ sizeLine) (g : ZSt Z S xs ys 0 s.heap) (hS : s.heap.get? S = some { cls := .type "list", data := .seq #[] })
    (hR : ZR Z S xs ys s fun h' tk => R (.ok (.ret .none)) { s with heap := h', toks := tk }) :
    wpAny (model P w) A.in1 (Builtin.«list.__init__» ⟨[.ref S, .ref Z.z], []⟩) (ZF P w A R) (fun e s' => R (.error e) s') s := by
  show wpAny _ A.in1 (Builtin.List.listItems (.ref S) >>= fun old => Builtin.List.listUpdate (.ref S) (fun _ => #[]) >>= fun _ => letGo old.toList.reverse >>= fun _ => Builtin.List.listExtendWith (.ref S) (.ref Z.z) .none) _ _ s
  unfold Builtin.List.listItems
  refine wpAny_bind (wpAny_bind (wpAny_seqItems hS rfl (wpAny_pure ?_)))
  show wpAny _ A.in1 (updateSeq S (fun _ => #[]) >>= fun _ => letGo (#[] : Array Value).toList.reverse >>= fun _ => Builtin.List.listExtendWith (.ref S) (.ref Z.z) .none) _ _ s
  have hS2 := Heap.get?_update_self (Obj.mapSeq (fun _ => (#[] : Array Value))) hS rfl
  have off : ∀ b o, b ≠ S → s.heap.get? b = some o → (s.heap.update S (Obj.mapSeq (fun _ => (#[] : Array Value)))).get? b = some o := fun b o hb => (Heap.get?_update_other _ _ hb.symm).trans
  refine wpAny_bind (wpAny_updateSeq hS rfl (wpAny_bind (wpAny_letGo ?_)))
  refine z_extend hh k hl hn _ (g.keep k off) hS2 fun h' tk acc c as hk => hR h' tk acc c as fun b o h1 h2 h3 h4 h5 e => hk b o h1 h2 h3 h4 h5 (off b o h1 e)
theorem z_call {Q : Value → Shared → Prop} {EX : Value → Shared → Prop} (hh : A.handled = none) (k : ZOk Z s.heap.objs.size) (hl : xs.length = ys.length) (hn : xs.length ≤ sizeLine) (g : ZSt Z s.heap.objs.size xs ys 0 s.heap)
    (hQ : ZR Z s.heap.objs.size xs ys s fun h' tk => Q (.ref s.heap.objs.size) { s with heap := h', toks := tk }) : wpAny (model P w) A (call (.type "list") [.ref Z.z]) Q EX s := by
  refine callType_codes (Q₁ := fun obj s₁ => obj = .ref s.heap.objs.size ∧ s₁ = { s with heap := s.heap.push { cls := .type "list", data := .seq #[] } }) PySem.F.called_list (PySem.F.typeCall_list_1 _) PySem.F.entry_list_init (code_list_new _ ⟨rfl, rfl⟩) fun obj s₁ h₁ => ?_
  obtain ⟨rfl, rfl⟩ := h₁
  have hS : (s.heap.push { cls := .type "list", data := .seq #[] }).get? s.heap.objs.size = some { cls := .type "list", data := .seq #[] } := Heap.get?_push_size _ rfl
  have off : ∀ b o, b ≠ s.heap.objs.size → s.heap.get? b = some o → (s.heap.push { cls := .type "list", data := .seq #[] }).get? b = some o := fun b o _ => Heap.get?_push_of_some _
  refine ⟨⟨_, hS, rfl⟩, PySem.F.args_list_init_2 _ _, z_init (A := A.in1) hh k hl hn (g.keep k off) hS fun h' tk acc c as hk hS' hl' hG hacc => ⟨rfl, hQ h' tk acc c as (fun b o h1 h2 h3 h4 h5 e => hk b o h1 h2 h3 h4 h5 (off b o h1 e)) hS' hl' hG hacc⟩⟩
end
/-! as an expression -/
def putP : Hp → List Addr → List (V × V) → Hp
  | H, a :: as, p :: ps => putP (upd H a (.tup [p.1, p.2])) as ps
  | H, _, _ => H
theorem putP_off {b : Addr} : ∀ (as : List Addr) (ps : List (V × V)) (H : Hp), b ∉ as → putP H as ps b = H b
  | [], _, _, _ => rfl
  | _ :: _, [], _, _ => rfl
  | a :: as, p :: ps, H, h => (putP_off as ps _ fun z => h (List.mem_cons_of_mem _ z)).trans (upd_ne fun z => h (z ▸ List.mem_cons_self))
theorem putP_at : ∀ (as : List Addr) (ps : List (V × V)) (H : Hp), as.length = ps.length → as.Nodup → Paired (fun (t : Addr) (p : V × V) => putP H as ps t = some (.tup [p.1, p.2])) as ps
  | [], [], _, _, _ => .nil
  | [], _ :: _, _, h, _ => nomatch h
  | _ :: _, [], _, h, _ => nomatch h
  | a :: as, p :: ps, H, h, hn => .cons ((putP_off as ps _ (List.nodup_cons.mp hn).1).trans upd_same) (putP_at as ps _ (Nat.succ.inj h) (List.nodup_cons.mp hn).2)
def rZipL (K : PySem.W.Frag) : List V → Hp → VK → Prop := fun vs H Q => ∃ a b xs ys, vs = [.ref a, .ref b] ∧ SqL K H a xs ∧ SqL K H b ys ∧ xs.length = ys.length ∧
  ∀ (H' : Hp) (p : Addr) (ts : List Addr), (∀ b o, H b = some o → H' b = some o) → H p = none → (∀ t ∈ ts, H t = none) → p ∉ ts → H' p = some (.lst (ts.map V.ref)) → Paired (fun (t : Addr) (q : V × V) => H' t = some (.tup [q.1, q.2])) ts (xs.zip ys) → Q (.ref p) H'
def tZipL (K : PySem.W.Frag) (ta : TA) : TE := fun σ H Q => ta σ H fun vs H1 => rZipL K vs H1 Q
section
variable {X : Cx}
theorem zip_laid {pins : List (Addr × Obj)} {σ : L2.St} {H : Hp} {s : Shared} {h' : Heap} {tk S : Nat} {xs ys : List V} {us vs : List Value} {acc : Array Value} {c : Nat} {as : List Addr} (I : Inv X pins σ H s) (hb : s.heap.objs.size ≤ S) (hz : xs.length ≤ sizeLine) (hl : xs.length = ys.length) (ru : Vals xs us) (rv : Vals ys vs)
    (hk : ∀ b o, s.heap.get? b = some o → h'.get? b = some o) (hS : h'.get? S = some { cls := .type "list", dict := none, data := .seq acc c, slots := #[] }) (la : as.length = us.length) (hG : ZG us vs S h' as) (hacc : acc.toList = as.map Value.ref) :
    ∃ H' : Hp, (∀ b o, H b = some o → H' b = some o) ∧ H S = none ∧ (∀ t ∈ as, H t = none) ∧ S ∉ as ∧ H' S = some (.lst (as.map V.ref)) ∧ Paired (fun (t : Addr) (q : V × V) => H' t = some (.tup [q.1, q.2])) as (xs.zip ys) ∧ Inv X pins σ H' { s with heap := h', toks := tk } := by
  have lu := ru.length
  have lv := rv.length
  have lz : (xs.zip ys).length = xs.length := by rw [List.length_zip]; omega
  have hSn : S ∉ as := fun z => Nat.lt_irrefl _ (hG.hi _ z)
  have nd : as.Nodup := hG.up.imp fun h => Nat.ne_of_lt h
  have new : ∀ t ∈ as, H t = none := fun t ht => I.hok.fresh (Nat.le_trans hb (Nat.le_of_lt (hG.hi t ht)))
  have newS : H S = none := I.hok.fresh hb
  have atP := putP_at as (xs.zip ys) (upd H S (.lst (as.map V.ref))) (by omega) nd
  have off : ∀ b, b ∉ as → b ≠ S → putP (upd H S (.lst (as.map V.ref))) as (xs.zip ys) b = H b := fun b h1 h2 => by rw [putP_off as _ _ h1, upd_ne h2]
  have low : ∀ b o, s.heap.get? b = some o → b ∉ as ∧ b ≠ S := fun b o e => ⟨fun z => absurd (Heap.lt_size e) (Nat.not_lt.mpr (Nat.le_trans hb (Nat.le_of_lt (hG.hi b z)))), Nat.ne_of_lt (Nat.lt_of_lt_of_le (Heap.lt_size e) hb)⟩
  have kp : ∀ b u, H b = some u → (putP (upd H S (.lst (as.map V.ref))) as (xs.zip ys)) b = some u := fun b u e => by
    rw [off b (fun z => nomatch (new b z).symm.trans e) (fun z => nomatch ((z ▸ newS : H b = none)).symm.trans e)]
    exact e
  have eS : putP (upd H S (.lst (as.map V.ref))) as (xs.zip ys) S = some (.lst (as.map V.ref)) := by rw [putP_off as _ _ hSn, upd_same]
  refine ⟨_, kp, newS, new, hSn, eS, atP, ?_⟩
  refine I.call' (ch := []) rfl ⟨fun b o q _ _ _ => hk b o q, fun b o q _ _ _ => ⟨o.slots, hk b o q⟩, fun b o q n _ => ?_, fun b o q _ => ⟨o, hk b o q⟩, fun b xs q => kp b _ q, fun b o u q => kp b _ q, fun b ps q => ⟨#[], by rw [kp b _ q]; simp⟩⟩ (fun b u q => ?_) I.bare fun b z => by simp at z
  · rw [off b (low b o q).1 (low b o q).2]
    exact n
  · by_cases hb1 : b ∈ as
    · obtain ⟨j, pk, e1, e2, e3⟩ := LiI.paired_ix atP hb1
      cases e3.symm.trans q
      obtain ⟨x, y, f1, f2, f3⟩ := hG.at_ j b e1
      rw [List.getElem?_zip_eq_some] at e2
      obtain ⟨u1, g1, g2⟩ := ru.get e2.1
      obtain ⟨u2, g3, g4⟩ := rv.get e2.2
      cases g1.symm.trans f1
      cases g3.symm.trans f2
      exact ⟨(by decide : 2 ≤ sizeLine), [x, y], .cons g2 (.cons g4 .nil), ⟨_, f3, rfl, _, rfl⟩⟩
    · by_cases hb2 : b = S
      · subst hb2
        cases eS.symm.trans q
        refine ⟨by rw [List.length_map]; omega, acc.toList, c, by rw [hacc]; exact LiI.vals_refs as, ?_⟩
        rw [Array.toArray_toList]
        exact hS
      · rw [off b hb1 hb2] at q
        exact (I.hok b u q).stay (fun d v _ y => hk d v y) (fun d y => kp d _ y) fun d xs y => kp d _ y
theorem pe_listZip {e e2 : Expr} {ta : TA} {p pos p2 pos2 : Pos} (hc : X.calm = true) (hg : Gl X "list") (hm : X.mg "list" = none) (hg2 : Gl X "zip") (hm2 : X.mg "zip" = none) (ha : PA X [e, e2] ta)
    (hs : starEach [e, e2] X.env = (false, eval e X.env) :: starEach [e2] X.env := by rfl) (hpl : (backTo pos (starEach [e2] X.env)).any (·.1) = false := by rfl)
    (hs2 : starEach [.Call (.Name "zip" p) [e, e2] [] pos] X.env = (false, eval (.Call (.Name "zip" p) [e, e2] [] pos) X.env) :: starEach [] X.env := by rfl) :
    PE X (.Call (.Name "list" p2) [.Call (.Name "zip" p) [e, e2] [] pos] [] pos2) (tZipL X.K ta) := by
  refine ⟨fun pins s σ H Q I h => ?_⟩
  refine wpAny_Call_Name_kw (ld_blt I hg hm (show bootBuiltins "list" = some (.type "list") by decide +kernel) ?_)
  refine PyProof.Rows.callWith_type1 ?_ hs2 rfl
  rw [hs2]
  show wpAny _ _ (spliced ((false, eval (.Call (.Name "zip" p) [e, e2] [] pos) X.env) :: backTo pos2 (starEach [] X.env))) _ _ s
  refine Calls.spliced_cons ?_
  refine Call_ (ld_blt I hg2 hm2 PyProof.Rows.boot_zip (PyProof.Rows.callWith_type1 (thn (ha.run pos pins s σ H _ I h) fun us s1 ⟨vs, H1, I1, r1, q1⟩ => ?_) hs hpl))
  obtain ⟨a, b, xs, ys, rfl, hqx, hqy, hl, q⟩ := q1
  obtain ⟨u1, u2, rfl, ea, eb⟩ : ∃ u1 u2, us = [u1, u2] ∧ RelV (.ref a) u1 ∧ RelV (.ref b) u2 := by
    cases r1 with
    | cons r rr =>
      cases rr with
      | cons r' rr =>
        cases rr
        exact ⟨_, _, rfl, r, r'⟩
  cases ea
  cases eb
  obtain ⟨its, rv, p1, hz⟩ := I1.list hqx
  obtain ⟨its2, rv2, p3, _⟩ := I1.list hqy
  have la : Nat.lt a s1.heap.objs.size := p1.lt
  have lb : Nat.lt b s1.heap.objs.size := p3.lt
  have l1 := rv.length
  have l2 := rv2.length
  refine call_zip_2 p1.isList p3.isList fun h' hz1 hTI hTO h1 h2 hsz hk => Calls.spliced_nil ?_
  have I2 : Inv X pins σ H1 { s1 with heap := h' } := I1.kept (t' := s1.toks) hk
  let Z : ZA := ⟨s1.heap.objs.size + 4, s1.heap.objs.size + 2, s1.heap.objs.size + 3, s1.heap.objs.size, s1.heap.objs.size + 1, a, b⟩
  have hsz' : h'.objs.size = s1.heap.objs.size + 5 := hsz
  have hne : ∀ {c : Nat}, c < s1.heap.objs.size + 5 → c ≠ h'.objs.size := fun h => by rw [hsz']; exact Nat.ne_of_lt h
  have hlt : ∀ {c : Nat}, c < s1.heap.objs.size + 5 → c < h'.objs.size := fun h => by rw [hsz']; exact h
  have zo : ZOk Z h'.objs.size := by
    refine ⟨PySem.W.ktu_apart s1.heap.objs.size a b la lb, hne ?_, hne ?_, hne ?_, hne ?_, hne ?_, hne (Nat.lt_add_right 5 la), hne (Nat.lt_add_right 5 lb), hlt ?_, hlt ?_, hlt ?_, hlt ?_⟩ <;> simp only [Z] <;> omega
  have zs : ZSt Z h'.objs.size its its2 0 h' := ⟨hTI, h1, h2, p1.isList.at fun o => hk _ o, p3.isList.at fun o => hk _ o, .inl ⟨hz1, _, _, hTO⟩⟩
  refine z_call (s := { s1 with heap := h' }) (Z := Z) (I2.ok.hd hc) zo (by omega) (by omega) zs fun h2 tk acc c as hkk hS hl2 hG hacc => ?_
  obtain ⟨H', k1, k2, k3, k4, k5, k6, J⟩ := zip_laid (tk := tk) I1 (S := h'.objs.size) (by omega) hz hl rv rv2 (fun b o e => by
    have hb : Nat.lt b s1.heap.objs.size := Heap.lt_size e
    have hb : (show Nat from b) < s1.heap.objs.size := hb
    refine hkk b o (hne (Nat.lt_add_right 5 hb)) (Nat.ne_of_lt (Nat.lt_add_right 4 hb)) (Nat.ne_of_lt (Nat.lt_add_right 3 hb)) (Nat.ne_of_lt hb) (Nat.ne_of_lt (Nat.lt_add_right 1 hb)) (hk b o e)) hS hl2 hG hacc
  exact ⟨.ref _, H', J, rfl, q H' _ as k1 k2 k3 k4 k5 k6⟩
end
end My
set_option Elab.async false
set_option linter.all false
set_option maxRecDepth 100000
set_option maxHeartbeats 4000000
/-! == of lists of bools -/
namespace My
open PySem PySem.Spec PyProof.Rows L2 Evl
theorem canLayBls : ∀ cs : List Bool, PyData.canLayAll0 (cs.map PyData.bool) = true
  | [] => rfl
  | c :: cs => by rw [List.map_cons, PyData.canLayAll0, canLayBls cs, PyData.canLay0]; rfl
theorem depthBls : ∀ cs : List Bool, PyData.depthAll (cs.map PyData.bool) = 0
  | [] => rfl
  | c :: cs => by rw [List.map_cons, PyData.depthAll, depthBls cs, PyData.depth]; rfl
theorem shapedBls (cs : List Bool) : SeqAt.shaped (.list (cs.map PyData.bool)) = true := by
  unfold SeqAt.shaped
  rw [PyData.canLay0, PyData.depth, canLayBls, depthBls]; rfl
theorem eqvAllBls : ∀ xs ys : List Bool, PyData.eqvAll (xs.map PyData.bool) (ys.map PyData.bool) = decide (xs = ys)
  | [], [] => rfl
  | [], y :: ys => rfl
  | x :: xs, [] => rfl
  | x :: xs, y :: ys => by
    rw [List.map_cons, List.map_cons, PyData.eqvAll, eqvAllBls xs ys, PyData.eqv]
    by_cases h2 : xs = ys <;> cases x <;> cases y <;> simp [h2]
theorem dpBls {K : PySem.W.Frag} {H : Hp} : ∀ cs : List Bool, DpAll K H (cs.map V.bl) (cs.map PyData.bool)
  | [] => .nil
  | c :: cs => .cons (.bl c) (dpBls cs)
theorem eqBls {K : PySem.W.Frag} {H : Hp} {a b : Addr} {xs ys : List Bool} {Q : VK} (ha : SqL K H a (xs.map V.bl)) (hb : SqL K H b (ys.map V.bl)) (h : Q (.bl (decide (xs = ys))) H) : rEqD K (.ref a) (.ref b) H Q :=
  ⟨_, _, .lst ha (dpBls xs), .lst hb (dpBls ys), shapedBls xs, shapedBls ys, by rw [PyData.eqv, eqvAllBls]; exact h⟩
theorem cut_hiV (xs : List V) (k : Nat) : cutV xs none (some (k : Int)) = xs.take k := by
  unfold cutV
  rw [HT.sIx_none, HT.sIx_nat, List.drop_zero, Nat.sub_zero]
  by_cases h : k ≤ xs.length
  · rw [Nat.min_eq_left h]
  · rw [Nat.min_eq_right (by omega), List.take_length, List.take_of_length_le (by omega)]
theorem DI.els {x : Addr} {H H' : Hp} {d : Addr} {l : List Int} {C dx : Addr} {fs : List (Str × V)} (e : Els x H H') (hx : H x = some (.ins C dx fs)) (h : DI H d l) : DI H' d l := by
  obtain ⟨ks, h1, h2⟩ := h
  exact ⟨ks, e _ _ (fun c => by rw [c, hx] at h1; cases h1) h1, h2⟩
/-- the state of {e: True for e in a tuple} -/
def DcI (D : Addr) (H : Hp) (l : List Int) (i : Nat) (H' : Hp) : Prop := ∃ ks : List Int, H' D = some (.dK (asI ks)) ∧ (∀ z, z ∈ ks ↔ z ∈ l.take i) ∧ ks.length ≤ i ∧ Ex H H' ∧ ks.Nodup
theorem DcI.start {D : Addr} {H : Hp} {l : List Int} (hD : H D = none) : DcI D H l 0 (upd H D (.dK [])) := ⟨[], upd_same, by simp, Nat.le_refl _, Ex.new hD, .nil⟩
theorem DcI.step {D : Addr} {H H' : Hp} {l : List Int} {i : Nat} {z : Int} (hD : H D = none) (h : DcI D H l i H') (hz : l[i]? = some z) (hl : l.length ≤ 1000) :
    ∃ kvs k, V.int z = kV k ∧ H' D = some (.dK kvs) ∧ kvs.length < sizeLine ∧ DcI D H l (i + 1) (upd H' D (.dK (putK kvs k (.bl true)))) := by
  obtain ⟨ks, h1, h2, h3, h4, h5⟩ := h
  have hi := (List.getElem?_eq_some_iff.mp hz).1
  refine ⟨_, .inl z, rfl, h1, sz_lt (by rw [asI_len]; omega), addI ks z, by rw [upd_same, putK_asI], fun y => ?_, Nat.le_trans (addI_len _ _) (by omega), h4.mut hD, addI_nodup z h5⟩
  rw [addI_mem, h2, List.take_add_one, hz, List.mem_append]
  simp
theorem DcI.stepW {D : Addr} {H H' : Hp} {l : List Int} {i : Nat} {z : Int} (hD : H D = none) (h : DcI D H l i H') (hz : l[i]? = some z) (hl : l.length ≤ 10000) :
    ∃ kvs k, V.int z = kV k ∧ H' D = some (.dK kvs) ∧ kvs.length < sizeLine ∧ DcI D H l (i + 1) (upd H' D (.dK (putK kvs k (.bl true)))) := by
  obtain ⟨ks, h1, h2, h3, h4, h5⟩ := h
  have hi := (List.getElem?_eq_some_iff.mp hz).1
  refine ⟨_, .inl z, rfl, h1, sz_lt (by rw [asI_len]; omega), addI ks z, by rw [upd_same, putK_asI], fun y => ?_, Nat.le_trans (addI_len _ _) (by omega), h4.mut hD, addI_nodup z h5⟩
  rw [addI_mem, h2, List.take_add_one, hz, List.mem_append]
  simp
theorem DcI.end_ {D : Addr} {H H' : Hp} {l : List Int} (h : DcI D H l l.length H') : DI H' D l ∧ Ex H H' := by
  obtain ⟨ks, h1, h2, h3, h4, h5⟩ := h
  rw [List.take_length] at h2
  exact ⟨⟨ks, h1, h2⟩, h4⟩
theorem DcI.keys {D : Addr} {H H' : Hp} {l : List Int} (h : DcI D H l l.length H') : ∃ ks : List Int, H' D = some (.dK (asI ks)) ∧ (∀ z, z ∈ ks ↔ z ∈ l) ∧ ks.length ≤ l.length ∧ ks.Nodup ∧ Ex H H' := by
  obtain ⟨ks, h1, h2, h3, h4, h5⟩ := h
  rw [List.take_length] at h2
  exact ⟨ks, h1, h2, h3, h5, h4⟩
theorem NoDiv.big {n q : Nat} (h : NoDiv n q) (n2 : 2 ≤ n) (hq : n < q * q) : NoDiv n n := fun j j2 jn hj => by
  by_cases c : j < q
  · exact h j j2 c hj
  · obtain ⟨m, rfl⟩ := hj
    have hm : m < q := by
      rcases Nat.lt_or_ge m q with x | x
      · exact x
      · have := Nat.mul_le_mul (Nat.le_of_not_lt c) x
        omega
    have m1 : m ≠ 1 := fun e => by rw [e] at jn; omega
    have m0 : m ≠ 0 := fun e => by rw [e] at n2; omega
    exact h m (by omega) hm (Nat.dvd_mul_left m j)
theorem DcI.exx {D : Addr} {H H' : Hp} {l : List Int} {i : Nat} (h : DcI D H l i H') : Ex H H' := h.choose_spec.2.2.2.1
/-! the state of [g(e) for e in l], [g(e) for e in l if p(e)] -/
section
variable {α : Type} {D : Addr} {H H' : Hp} {g : α → V} {p : α → Bool} {l : List α} {i : Nat} {z : α}
def CpG (D : Addr) (H : Hp) (g : α → V) (l : List α) (i : Nat) (H' : Hp) : Prop := H' D = some (.lst ((l.take i).map g)) ∧ Ex H H'
theorem CpG.start (hD : H D = none) : CpG D H g l 0 (upd H D (.lst [])) := ⟨upd_same, Ex.new hD⟩
theorem CpG.step {v : V} (hD : H D = none) (h : CpG D H g l i H') (hz : l[i]? = some z) (hl : l.length ≤ 10000) (hv : v = g z) : ∃ acc, H' D = some (.lst acc) ∧ acc.length < sizeLine ∧ CpG D H g l (i + 1) (upd H' D (.lst (acc ++ [v]))) := by
  have hi := (List.getElem?_eq_some_iff.mp hz).1
  refine ⟨_, h.1, sz_lt (by rw [List.length_map, List.length_take]; omega), ?_, h.2.mut hD⟩
  rw [upd_same, List.take_add_one, hz, List.map_append, hv]
  rfl
theorem CpG.stepB {v : V} (hD : H D = none) (h : CpG D H g l i H') (hz : l[i]? = some z) (hl : l.length ≤ 90000) (hv : v = g z) : ∃ acc, H' D = some (.lst acc) ∧ acc.length < sizeLine ∧ CpG D H g l (i + 1) (upd H' D (.lst (acc ++ [v]))) := by
  have hi := (List.getElem?_eq_some_iff.mp hz).1
  refine ⟨_, h.1, sz_lt (by rw [List.length_map, List.length_take]; omega), ?_, h.2.mut hD⟩
  rw [upd_same, List.take_add_one, hz, List.map_append, hv]
  rfl
theorem CpG.end_ (h : CpG D H g l l.length H') : H' D = some (.lst (l.map g)) ∧ Ex H H' := by
  have h1 := h.1
  rw [List.take_length] at h1
  exact ⟨h1, h.2⟩
def CpF (D : Addr) (H : Hp) (g : α → V) (p : α → Bool) (l : List α) (i : Nat) (H' : Hp) : Prop := H' D = some (.lst (((l.take i).filter p).map g)) ∧ Ex H H'
theorem CpF.start (hD : H D = none) : CpF D H g p l 0 (upd H D (.lst [])) := ⟨upd_same, Ex.new hD⟩
theorem CpF.yes {v : V} (hD : H D = none) (h : CpF D H g p l i H') (hz : l[i]? = some z) (hl : l.length ≤ 10000) (hp : p z = true) (hv : v = g z) : ∃ acc, H' D = some (.lst acc) ∧ acc.length < sizeLine ∧ CpF D H g p l (i + 1) (upd H' D (.lst (acc ++ [v]))) := by
  have hi := (List.getElem?_eq_some_iff.mp hz).1
  have hf := List.length_filter_le p (l.take i)
  rw [List.length_take] at hf
  refine ⟨_, h.1, sz_lt (by rw [List.length_map]; omega), ?_, h.2.mut hD⟩
  rw [upd_same, List.take_add_one, hz, List.filter_append, List.map_append, hv]
  simp [hp]
theorem CpF.no (h : CpF D H g p l i H') (hz : l[i]? = some z) (hp : p z = false) : CpF D H g p l (i + 1) H' := by
  refine ⟨?_, h.2⟩
  rw [List.take_add_one, hz, List.filter_append, h.1]
  simp [hp]
theorem CpF.end_ (h : CpF D H g p l l.length H') : H' D = some (.lst ((l.filter p).map g)) ∧ Ex H H' := by
  have h1 := h.1
  rw [List.take_length] at h1
  exact ⟨h1, h.2⟩
end
theorem asI_keys (ks : List Int) : (asI ks).map (fun kv => kV kv.1) = ks.map V.int := by
  unfold asI
  rw [List.map_map]
  rfl
theorem asc_of {l : List Int} (h : l.Pairwise (· ≤ ·)) (n : l.Nodup) : Asc l := (List.Pairwise.and h n).imp fun ⟨a, b⟩ => by omega
theorem pe_fldK {X : Cx} {e : Expr} {f : Str} {pos : Pos} {ta : TE} {K : PySem.W.Frag} (hK : X.K = K) (he : PE X e ta) (hb : attributeBase e f X.env (eval e X.env) = eval e X.env) : PE X (.Attribute e f pos) (tFld K ta f) := by
  subst hK
  exact pe_fld he hb
theorem un1B {n : Nat} (h : n + 64 < cLine) : n + 1 < cLine := by omega
theorem fld_B {K : PySem.W.Frag} {σ : L2.St} {H : Hp} {i : Nat} {a C dx : Addr} {fs : List (Str × V)} {f : Str} {u : V} {Q : VK} (hσ : σ[i]? = some (some (.ref a))) (h1 : H a = some (.ins C dx fs)) (c : Cls K C) (n : NoAttr K C f) (l : fs.lookup f = some u) (q : Q u H) : tFld K (tVar i) f σ H Q :=
  ⟨_, hσ, a, C, dx, fs, u, rfl, h1, c, n, l, q⟩
end My
set_option Elab.async false
set_option linter.all false
set_option maxRecDepth 100000
set_option maxHeartbeats 4000000
set_option exponentiation.threshold 5000
namespace My
open PySem PySem.Spec PyProof.Rows L2 Evl
local macro_rules | `(tactic| walk_at "st") => `(tactic| simp only [L2.start, List.map_cons, List.map_nil, List.length_cons, List.length_nil, Nat.reduceAdd, Nat.reduceSub, List.replicate_succ, List.replicate_zero, List.cons_append, List.nil_append, cxOf, List.append_nil])
local macro_rules | `(tactic| walk_at "vc") => `(tactic| try simp only [tSeq, tAsg, tOp, tUn, tVar, tC, tNil, tCons, gName, rI, rI0, rU, tRet, tIfS, tNot, tAnd, tOr, tB, tTest, tCB, tCall, tAndV, tOrV, tNotV, tNext, tNever, tIf, tChain, tYes, tPart, tNoPart, tPar, tDrop, q_isi, q_vn, q_vb, q_vi, q_vs, kb1, kb2, kb3, kb4, kb5, kb6, kb7, kb8, q_int1, q_int2, q_min, q_max, q_repr, tLst, tTup, rEq, rNe, q_sii, q_sss, q_sbb, q_snn, q_sns, q_ssn, q_ix, q_sl, tSl, tBM, tBM0, q_app, q_pop, gSub, rSetL, L2.wipe, eq_self, decide_true, decide_false, tRevL,
  List.getElem?_cons_succ, List.getElem?_cons_zero, List.set_cons_succ, List.set_cons_zero, Option.some.injEq, exists_eq_left', exists_eq_left, V.int.injEq, V.bl.injEq, V.ref.injEq, V.str.injEq, List.cons.injEq, and_true, true_and, List.append_nil, List.nil_append, List.cons_append, exists_and_left, and_assoc, if_true, if_false, Bool.not_true, Bool.not_false, Bool.false_eq_true, Bool.true_eq_false, reduceIte, tRevL, tPar3, tRevT, tUnl, tCKw, forall_const, Bool.not_eq_true', decide_eq_true_eq, decide_eq_false_iff_not])
section
variable {P : Program} {w : World} {K : PySem.W.Frag} {mg : Str → Option Value} {base : Heap}
variable {a_is_integer a_is_number a_is_base a_is_name a_are_rows a_needed a_fits a_is_of a_inner a_flat a_names_in a_bare a_named a_number_of a_joined a_result a_holding a_written a_part a_of_one a_of_two a_power a_run a_came_to a_holds a_law_deal a_law_draw a_law_pick a_law_words a_law_ask_of a_law_row_of a_law_told a_law a_Stopped_init a_Put_init a_If_init a_Times_init a_Ask_init a_Not_init a_Program_init a_Program_call a_Walk_init a_Walk_go a_Walk_do a_Walk_put a_Walk_decide a_Walk_choose a_InvalidBase a_Stopped a_FigureError a_InvalidNumber a_Put a_If a_Times a_Stop a_Ask a_Not a_Row a_Test a_Program a_Walk a_DEEDS a_SIGNS a_WORDS a_If_init_d0 a_Program_init_d0 : Addr} {d_is_integer d_is_number d_is_base d_is_name d_are_rows d_needed d_fits d_is_of d_inner d_flat d_names_in d_bare d_named d_number_of d_joined d_result d_holding d_written d_part d_of_one d_of_two d_power d_run d_came_to d_holds d_law_deal d_law_draw d_law_pick d_law_words d_law_ask_of d_law_row_of d_law_told d_law d_Stopped_init d_Put_init d_If_init d_Times_init d_Ask_init d_Not_init d_Program_init d_Program_call d_Walk_init d_Walk_go d_Walk_do d_Walk_put d_Walk_decide d_Walk_choose : FuncData}
theorem ok_Stopped_init (T : Txt w K mg a_is_integer a_is_number a_is_base a_is_name a_are_rows a_needed a_fits a_is_of a_inner a_flat a_names_in a_bare a_named a_number_of a_joined a_result a_holding a_written a_part a_of_one a_of_two a_power a_run a_came_to a_holds a_law_deal a_law_draw a_law_pick a_law_words a_law_ask_of a_law_row_of a_law_told a_law a_Stopped_init a_Put_init a_If_init a_Times_init a_Ask_init a_Not_init a_Program_init a_Program_call a_Walk_init a_Walk_go a_Walk_do a_Walk_put a_Walk_decide a_Walk_choose a_InvalidBase a_Stopped a_FigureError a_InvalidNumber a_Put a_If a_Times a_Stop a_Ask a_Not a_Row a_Test a_Program a_Walk a_DEEDS a_SIGNS a_WORDS a_If_init_d0 a_Program_init_d0 d_is_integer d_is_number d_is_base d_is_name d_are_rows d_needed d_fits d_is_of d_inner d_flat d_names_in d_bare d_named d_number_of d_joined d_result d_holding d_written d_part d_of_one d_of_two d_power d_run d_came_to d_holds d_law_deal d_law_draw d_law_pick d_law_words d_law_ask_of d_law_row_of d_law_told d_law d_Stopped_init d_Put_init d_If_init d_Times_init d_Ask_init d_Not_init d_Program_init d_Program_call d_Walk_init d_Walk_go d_Walk_do d_Walk_put d_Walk_decide d_Walk_choose) : FnOk P w K mg base CX0 1 a_Stopped_init d_Stopped_init ["self", "at"] (spIniX K "at") := by
  refine T.F_Stopped_init.ok sc_Stopped_init (fun vs H Q E h => ?_) (fun cdv A outer s H vs Q E hr h => ?_)
  · unfold spIniX at h; split at h; rfl; exact h.elim
  unfold spIniX at h; split at h
  case h_2 => exact h.elim
  rename_i a v
  obtain ⟨C, fI, h1, h2, q⟩ := h
  refine ⟨_, (pss_one (ps_osX (pv 0) (pv 1))), ?_⟩
  walk_at "st"
  walk_at "vc"
  exact ⟨_, rfl, _, rfl, a, C, fI, rfl, h1, h2, q⟩
def ToldA (C : Addr) (f : Str) (v : V) (E : XK) (H : Hp) : Prop := ∀ H' d, Ex H H' → H' d = none → E (.ref C) (some d) (upd H' d (.xd [(f, v)]))
/-- what is never called here -/
def spNo : Sp := fun _ _ _ _ => False
theorem fnNo {CX : CXT} {n : Nat} {a : Addr} {d : FuncData} {ps : List Str} : FnOk P w K mg base CX n a d ps spNo :=
  ⟨fun xs G R W h => h.elim, fun B out z G ar us xs R W _ _ _ _ h => h.elim⟩
/-- a base, or what is none -/
def BaseV (K : PySem.W.Frag) (CP : Addr) (H : Hp) (v : V) (b : Bool) : Prop := (kindOk (vty H v) = true ∧ b = (isInt v && match v with | .int i => decide (2 ≤ i) | _ => false)) ∨ (∃ a dx fs, v = .ref a ∧ H a = some (.ins CP dx fs) ∧ b = false)
def sp_is_integerA (K : PySem.W.Frag) (CP : Addr) : Sp
  | [v], H, Q, _ => ∃ b, ((kindOk (vty H v) = true ∧ b = isInt v) ∨ (∃ a dx fs, v = .ref a ∧ H a = some (.ins CP dx fs) ∧ b = false)) ∧ Q (.bl b) H
  | _, _, _, _ => False
theorem ok_is_integerA (T : Txt w K mg a_is_integer a_is_number a_is_base a_is_name a_are_rows a_needed a_fits a_is_of a_inner a_flat a_names_in a_bare a_named a_number_of a_joined a_result a_holding a_written a_part a_of_one a_of_two a_power a_run a_came_to a_holds a_law_deal a_law_draw a_law_pick a_law_words a_law_ask_of a_law_row_of a_law_told a_law a_Stopped_init a_Put_init a_If_init a_Times_init a_Ask_init a_Not_init a_Program_init a_Program_call a_Walk_init a_Walk_go a_Walk_do a_Walk_put a_Walk_decide a_Walk_choose a_InvalidBase a_Stopped a_FigureError a_InvalidNumber a_Put a_If a_Times a_Stop a_Ask a_Not a_Row a_Test a_Program a_Walk a_DEEDS a_SIGNS a_WORDS a_If_init_d0 a_Program_init_d0 d_is_integer d_is_number d_is_base d_is_name d_are_rows d_needed d_fits d_is_of d_inner d_flat d_names_in d_bare d_named d_number_of d_joined d_result d_holding d_written d_part d_of_one d_of_two d_power d_run d_came_to d_holds d_law_deal d_law_draw d_law_pick d_law_words d_law_ask_of d_law_row_of d_law_told d_law d_Stopped_init d_Put_init d_If_init d_Times_init d_Ask_init d_Not_init d_Program_init d_Program_call d_Walk_init d_Walk_go d_Walk_do d_Walk_put d_Walk_decide d_Walk_choose) : FnOk P w K mg base CX0 1 a_is_integer d_is_integer ["value"] (sp_is_integerA K a_Program) := by
  refine T.F_is_integer.ok sc_is_integer (fun vs H Q E h => ?_) (fun cdv A outer s H vs Q E hr h => ?_)
  · unfold sp_is_integerA at h; split at h; rfl; exact h.elim
  unfold sp_is_integerA at h; split at h
  case h_2 => exact h.elim
  rename_i v
  obtain ⟨b, hb, q⟩ := h
  refine ⟨_, (pss_one (ps_ret (pe_and (pe_callB (call_isiK (K := K)) (by rfl) T.z_isinstance (by decide +kernel) (pa_cons (pv 0) (pa_cons (pe_bltn (v := .ty "int") (by rfl) T.z_int (by decide +kernel) rfl) pa_nil))) (pe_one (pe_not (pe_callB (call_isiK (K := K)) (by rfl) T.z_isinstance (by decide +kernel) (pa_cons (pv 0) (pa_cons (pe_bltn (v := .ty "bool") (by rfl) T.z_bool (by decide +kernel) rfl) pa_nil)))))))), ?_⟩
  walk_at "st"
  walk_at "vc"
  have go : ∀ t : String, TyX K H v (.type t) → (t, isInt v) ∈ [("int", true), ("bool", false), ("NoneType", false), ("str", false), ("list", false), ("tuple", false)] → Q (.bl (isInt v)) H → rIsi K [v, V.ty "int"] H fun x H1 => ∃ c, x = V.bl c ∧ if c = true then rIsi K [v, V.ty "bool"] H1 fun x H1 => ∃ c, x = V.bl c ∧ Q (V.bl !c) H1 else Q (V.bl false) H1 := fun t ty ht q => by
    simp only [List.mem_cons, List.not_mem_nil, or_false, Prod.mk.injEq] at ht
    rcases ht with ⟨rfl, e⟩ | ⟨rfl, e⟩ | ⟨rfl, e⟩ | ⟨rfl, e⟩ | ⟨rfl, e⟩ | ⟨rfl, e⟩ <;> rw [e] at q
    · exact ⟨_, _, _, _, true, rfl, .ty _, ty, kb1, _, rfl, by rw [if_pos rfl]; exact ⟨_, _, _, _, false, rfl, .ty _, ty, kb2, _, rfl, q⟩⟩
    · exact ⟨_, _, _, _, true, rfl, .ty _, ty, kb3, _, rfl, by rw [if_pos rfl]; exact ⟨_, _, _, _, true, rfl, .ty _, ty, kb4, _, rfl, q⟩⟩
    · exact ⟨_, _, _, _, false, rfl, .ty _, ty, kb5, _, rfl, by rw [if_neg (by decide)]; exact q⟩
    · exact ⟨_, _, _, _, false, rfl, .ty _, ty, kb6, _, rfl, by rw [if_neg (by decide)]; exact q⟩
    · exact ⟨_, _, _, _, false, rfl, .ty _, ty, kb7, _, rfl, by rw [if_neg (by decide)]; exact q⟩
    · exact ⟨_, _, _, _, false, rfl, .ty _, ty, kb8, _, rfl, by rw [if_neg (by decide)]; exact q⟩
  rcases hb with ⟨hk, rfl⟩ | ⟨a, dx, fs, rfl, ha, rfl⟩
  · cases v with
    | int i => exact go "int" (.base (.int i)) (by simp [isInt]) q
    | bl b => exact go "bool" (.base (.bl b)) (by simp [isInt]) q
    | non => exact go "NoneType" (.base .non) (by simp [isInt]) q
    | str x => exact go "str" (.base (.str x)) (by simp [isInt]) q
    | ref a =>
      cases e : H a with
      | none => simp only [vty, e] at hk; cases hk
      | some o =>
        cases o with
        | lst xs => exact go "list" (.base (.lst e)) (by simp [isInt]) q
        | tup xs => exact go "tuple" (.base (.tup e)) (by simp [isInt]) q
        | _ => simp only [vty, e] at hk; cases hk
    | _ => cases hk
  · exact ⟨_, _, _, _, false, rfl, .ty _, T.oc_Program.ty ha, T.kl_Program_int, _, rfl, by rw [if_neg (by decide)]; exact q⟩
def sp_is_baseA (K : PySem.W.Frag) (CP : Addr) : Sp
  | [v], H, Q, _ => ∃ b, BaseV K CP H v b ∧ Q (.bl b) H
  | _, _, _, _ => False
theorem ok_is_baseA (T : Txt w K mg a_is_integer a_is_number a_is_base a_is_name a_are_rows a_needed a_fits a_is_of a_inner a_flat a_names_in a_bare a_named a_number_of a_joined a_result a_holding a_written a_part a_of_one a_of_two a_power a_run a_came_to a_holds a_law_deal a_law_draw a_law_pick a_law_words a_law_ask_of a_law_row_of a_law_told a_law a_Stopped_init a_Put_init a_If_init a_Times_init a_Ask_init a_Not_init a_Program_init a_Program_call a_Walk_init a_Walk_go a_Walk_do a_Walk_put a_Walk_decide a_Walk_choose a_InvalidBase a_Stopped a_FigureError a_InvalidNumber a_Put a_If a_Times a_Stop a_Ask a_Not a_Row a_Test a_Program a_Walk a_DEEDS a_SIGNS a_WORDS a_If_init_d0 a_Program_init_d0 d_is_integer d_is_number d_is_base d_is_name d_are_rows d_needed d_fits d_is_of d_inner d_flat d_names_in d_bare d_named d_number_of d_joined d_result d_holding d_written d_part d_of_one d_of_two d_power d_run d_came_to d_holds d_law_deal d_law_draw d_law_pick d_law_words d_law_ask_of d_law_row_of d_law_told d_law d_Stopped_init d_Put_init d_If_init d_Times_init d_Ask_init d_Not_init d_Program_init d_Program_call d_Walk_init d_Walk_go d_Walk_do d_Walk_put d_Walk_decide d_Walk_choose) : FnOk P w K mg base CX0 2 a_is_base d_is_base ["value"] (sp_is_baseA K a_Program) := by
  have G_is_integer := ok_is_integerA (P := P) (w := w) (base := base) T
  refine T.F_is_base.ok sc_is_base (fun vs H Q E h => ?_) (fun cdv A outer s H vs Q E hr h => ?_)
  · unfold sp_is_baseA at h; split at h; rfl; exact h.elim
  unfold sp_is_baseA at h; split at h
  case h_2 => exact h.elim
  rename_i v
  obtain ⟨b, hb, q⟩ := h
  refine ⟨_, (pss_one (ps_ret (pe_and (pe_call G_is_integer (hr.mono (by omega)) (by rfl) T.g_is_integer T.F_is_integer.kp T.b_is_integer .nil pass0 (pa_cons (pv 0) pa_nil)) (pe_one (pe_cmpR op_ge (pv 0) pe_int (nomark _)))))), ?_⟩
  walk_at "st"
  walk_at "vc"
  rcases hb with ⟨hk, rfl⟩ | ⟨a, dx, fs, rfl, ha, rfl⟩
  · refine ⟨isInt v, .inl ⟨hk, rfl⟩, _, rfl, ?_⟩
    cases v with
    | int i => rw [if_pos (show isInt (V.int i) = true from rfl)]; exact ⟨i, rfl, q⟩
    | _ => rw [if_neg (by simp [isInt])]; exact q
  · exact ⟨false, .inr ⟨a, dx, fs, rfl, ha, rfl⟩, _, rfl, by rw [if_neg (by decide)]; exact q⟩
theorem heldK_add {l : List Str} {f : Str → Int} {n : Str} (h : n ∉ l) : putK (heldK l f) (.inr n) (.int (f n)) = heldK (l ++ [n]) f := by
  have ha : ((heldK l f).any fun kv => decide (kv.1 = (Sum.inr n : Key))) ≠ true := by
    unfold heldK
    intro h0
    rw [List.any_map, List.any_eq_true] at h0
    obtain ⟨x, hx, e⟩ := h0
    have e : decide ((Sum.inr x : Key) = Sum.inr n) = true := e
    exact h (Sum.inr.inj (of_decide_eq_true e) ▸ hx)
  unfold putK
  rw [if_neg ha]
  unfold heldK
  rw [List.map_append]
  rfl
/-! ### a walk -/
def sp_Walk_init (K : PySem.W.Frag) (CW CP CB : Addr) : Sp
  | [.ref x, .ref p, v], H, Q, E => ∃ (dx : Addr) (ns : List Str) (b : Bool), H x = some (.ins CW dx []) ∧ SqT K H p (ns.map V.str) ∧ ns.Nodup ∧ ns.length ≤ 100 ∧ BaseV K CP H v b ∧
      (b = true → ∀ H' dh dc, Els x H H' → H' x = some (.ins CW dx [("among", v), ("held", .ref dh), ("came", .ref dc)]) → H' dh = some (.dK (heldK ns fun _ => 0)) → H' dc = some (.dK []) → H dh = none → H dc = none → dh ≠ dc → Q .non H') ∧
      (b = false → ∀ H', Ex H H' → E (.ref CB) none H')
  | _, _, _, _ => False
theorem ok_Walk_init0 (T : Txt w K mg a_is_integer a_is_number a_is_base a_is_name a_are_rows a_needed a_fits a_is_of a_inner a_flat a_names_in a_bare a_named a_number_of a_joined a_result a_holding a_written a_part a_of_one a_of_two a_power a_run a_came_to a_holds a_law_deal a_law_draw a_law_pick a_law_words a_law_ask_of a_law_row_of a_law_told a_law a_Stopped_init a_Put_init a_If_init a_Times_init a_Ask_init a_Not_init a_Program_init a_Program_call a_Walk_init a_Walk_go a_Walk_do a_Walk_put a_Walk_decide a_Walk_choose a_InvalidBase a_Stopped a_FigureError a_InvalidNumber a_Put a_If a_Times a_Stop a_Ask a_Not a_Row a_Test a_Program a_Walk a_DEEDS a_SIGNS a_WORDS a_If_init_d0 a_Program_init_d0 d_is_integer d_is_number d_is_base d_is_name d_are_rows d_needed d_fits d_is_of d_inner d_flat d_names_in d_bare d_named d_number_of d_joined d_result d_holding d_written d_part d_of_one d_of_two d_power d_run d_came_to d_holds d_law_deal d_law_draw d_law_pick d_law_words d_law_ask_of d_law_row_of d_law_told d_law d_Stopped_init d_Put_init d_If_init d_Times_init d_Ask_init d_Not_init d_Program_init d_Program_call d_Walk_init d_Walk_go d_Walk_do d_Walk_put d_Walk_decide d_Walk_choose) : FnOk P w K mg base (L2.CX P w) 5 a_Walk_init d_Walk_init ["self", "names", "among"] (sp_Walk_init K a_Walk a_Program a_InvalidBase) := by
  have G_is_base := ok_is_baseA (P := P) (w := w) (base := base) T
  refine T.F_Walk_init.okX sc_Walk_init (fun vs H Q E h => ?_) (fun cdv A outer s H vs Q E hr h => ?_)
  · unfold sp_Walk_init at h; split at h; rfl; exact h.elim
  unfold sp_Walk_init at h; split at h
  case h_2 => exact h.elim
  rename_i x p v
  obtain ⟨dx, ns, b, hx, hp, nd, nl, hb, q1, q2⟩ := h
  refine ⟨_, (pss_cons (ps_if (pt_not (pt_val (pe_call G_is_base (hr.mono (by omega)) (by rfl) T.g_is_base T.F_is_base.kp T.b_is_base .nil pass0 (pa_cons (pv 2) pa_nil))))
      (pss_one (ps_raise rfl (takes_of rfl rfl rfl rfl) (pmk_own0 T.E_InvalidBase (by rfl))))
      pss_nil)
      (pss_cons (ps_fld (pv 0) (pv 2) (by rfl))
      (pss_cons (ps_fld (pv 0) (pe_dc (own := [("name", 3)]) (g := gName 3) (by rfl) sc_Walk_init.nd (pi_tup (pv 1)) (blkOk_by (own := [("name", 3)]) (N := N_Walk_init) (sc := defScope s_Walk_init) (by decide +kernel)) (fun _ _ _ _ _ => (pg_name (i := 3) sc_Walk_init.nd rfl (by first | exact .inl rfl | exact .inr rfl))) (fun _ _ _ _ _ => pts_nil) (fun _ _ _ _ _ => (pv 3)) (fun _ _ _ _ _ => pe_int)) (by rfl))
      (pss_one (ps_fld (pv 0) pe_dnewK (by rfl)))))), ?_⟩
  walk_at "st"
  walk_at "vc"
  refine ⟨b, hb, _, rfl, ?_⟩
  have b0 : b = true ∨ b = false := by cases b <;> simp
  refine ite2 (fun c => q2 c H (Ex.refl _)) (fun c => ?_)
  have q1 := q1 (b0.resolve_right c)
  refine ⟨_, rfl, _, rfl, x, a_Walk, dx, [], rfl, hx, T.oc_Walk.cl, T.nF_Walk_among, by decide, ?_⟩
  have el : Els x H (upd H x (.ins a_Walk dx [("among", v)])) := (Els.of (Ex.refl _)).set
  have hx1 : upd H x (.ins a_Walk dx [("among", v)]) x = _ := upd_same
  have r1 := el.sqt hx hp
  have fr1 : ∀ b, upd H x (.ins a_Walk dx [("among", v)]) b = none → H b = none := fun b hb => by
    have n : b ≠ x := fun e => by rw [e, hx1] at hb; cases hb
    rwa [upd_ne n] at hb
  show tSeq _ _ _ _ (upd H x (.ins a_Walk dx [("among", v)]))
  generalize upd H x (.ins a_Walk dx [("among", v)]) = H1 at *
  unfold tSeq
  refine ⟨_, rfl, p, rfl, ⟨_, r1⟩, fun D hD => dc_tup (xs := ns.map V.str) (fun i H' => H' D = some (.dK (heldK (ns.take i) fun _ => 0)) ∧ Ex H1 H') ⟨upd_same, Ex.new hD⟩ (fun i H' _ hP => hP.2.sqt r1) (fun i z H' hz hP => ?_) (fun H' hP => ?_)⟩
  · rw [List.getElem?_map] at hz
    obtain ⟨y, hy, rfl⟩ := Option.map_eq_some_iff.mp hz
    walk_at "vc"
    have hi := (List.getElem?_eq_some_iff.mp hy).1
    have et : ns.take (i + 1) = ns.take i ++ [y] := by rw [List.take_add_one, hy]; rfl
    have hn : y ∉ ns.take i := fun hm => by
      rw [← List.take_append_drop (i + 1) ns, et, List.append_assoc] at nd
      have := (List.nodup_append.mp nd).2.2 y hm y (by simp)
      exact this rfl
    refine ⟨_, .inr y, rfl, hP.1, sz_lt (by rw [heldK_len, List.length_take]; omega), ?_, hP.2.mut hD⟩
    rw [upd_same, et]
    exact congrArg (fun z => some (HO.dK z)) (heldK_add hn)
  obtain ⟨g1, e1⟩ := hP
  rw [List.length_map, List.take_length] at g1
  have hx2 := e1 _ _ hx1
  refine ⟨_, rfl, x, a_Walk, dx, _, rfl, hx2, T.oc_Walk.cl, T.nF_Walk_held, (show (1 : Nat) < 1000 by decide), ?_⟩
  dsimp only
  rw [show putF ("held" : Str) (V.ref D) [(("among" : Str), v)] = ([("among", v), ("held", .ref D)] : List (Str × V)) from rfl]
  have el2 : Els x H' (upd H' x (.ins a_Walk dx [("among", v), ("held", .ref D)])) := (Els.of (Ex.refl _)).set
  have hx3 : upd H' x (.ins a_Walk dx [("among", v), ("held", .ref D)]) x = _ := upd_same
  have nDx : D ≠ x := fun e => by rw [e, hx1] at hD; cases hD
  have g2 := el2 _ _ nDx g1
  have fr2 : ∀ b, upd H' x (.ins a_Walk dx [("among", v), ("held", .ref D)]) b = none → H' b = none := fun b hb => by
    have n : b ≠ x := fun e => by rw [e, hx3] at hb; cases hb
    rwa [upd_ne n] at hb
  have el3 : Els x H _ := fun b u n h => el2 b u n (e1 _ _ (el b u n h))
  show sFld K _ _ _ _ _ (upd H' x (.ins a_Walk dx [("among", v), ("held", .ref D)]))
  generalize upd H' x (.ins a_Walk dx [("among", v), ("held", .ref D)]) = H2 at *
  unfold sFld
  refine fun D2 hD2 => ?_
  have e5 := Ex.new hD2 (o := .dK [])
  have hx4 := e5 _ _ hx3
  have nD2x : D2 ≠ x := fun e => by rw [e, hx3] at hD2; cases hD2
  refine ⟨_, rfl, x, a_Walk, dx, _, rfl, hx4, T.oc_Walk.cl, T.nF_Walk_came, (show (2 : Nat) < 1000 by decide), ?_⟩
  have el5 : Els x (upd H2 D2 (.dK [])) (upd (upd H2 D2 (.dK [])) x (.ins a_Walk dx [("among", v), ("held", .ref D), ("came", .ref D2)])) := (Els.of (Ex.refl _)).set
  exact q1 _ D D2 (fun b u n h => el5 b u n (e5 _ _ (el3 b u n h))) upd_same (el5 _ _ nDx (e5 _ _ g2)) (el5 _ _ nD2x upd_same) (fr1 _ hD) (fr1 _ (e1.free (fr2 _ hD2))) (fun e => by rw [← e, g2] at hD2; cases hD2)
theorem ok_Walk_init (T : Txt w K mg a_is_integer a_is_number a_is_base a_is_name a_are_rows a_needed a_fits a_is_of a_inner a_flat a_names_in a_bare a_named a_number_of a_joined a_result a_holding a_written a_part a_of_one a_of_two a_power a_run a_came_to a_holds a_law_deal a_law_draw a_law_pick a_law_words a_law_ask_of a_law_row_of a_law_told a_law a_Stopped_init a_Put_init a_If_init a_Times_init a_Ask_init a_Not_init a_Program_init a_Program_call a_Walk_init a_Walk_go a_Walk_do a_Walk_put a_Walk_decide a_Walk_choose a_InvalidBase a_Stopped a_FigureError a_InvalidNumber a_Put a_If a_Times a_Stop a_Ask a_Not a_Row a_Test a_Program a_Walk a_DEEDS a_SIGNS a_WORDS a_If_init_d0 a_Program_init_d0 d_is_integer d_is_number d_is_base d_is_name d_are_rows d_needed d_fits d_is_of d_inner d_flat d_names_in d_bare d_named d_number_of d_joined d_result d_holding d_written d_part d_of_one d_of_two d_power d_run d_came_to d_holds d_law_deal d_law_draw d_law_pick d_law_words d_law_ask_of d_law_row_of d_law_told d_law d_Stopped_init d_Put_init d_If_init d_Times_init d_Ask_init d_Not_init d_Program_init d_Program_call d_Walk_init d_Walk_go d_Walk_do d_Walk_put d_Walk_decide d_Walk_choose) : FnR P w K mg base (L2.CX P w) 5 a_Walk_init (sp_Walk_init K a_Walk a_Program a_InvalidBase) :=
  ((ok_Walk_init0 T).raw T.b_Walk_init .nil).imp fun vs H Q E h => by rw [List.append_nil]; exact h
/-! ### what a deed comes to -/
def noneV : Option Int → V
  | some i => .int i
  | none => .non
def sp_result (K : PySem.W.Frag) : Sp
  | [.str d, .ref p, .int b], H, Q, _ => ∃ (gs : List Int) (o : Option Int), SqL K H p (gs.map V.int) ∧ gs.length ≤ 10 ∧ resM d gs b = some o ∧ ∀ H', Ex H H' → Q (noneV o) H'
  | _, _, _, _ => False
def sp_written (K : PySem.W.Frag) : Sp
  | [.ref p, .int b], H, Q, _ => ∃ (gs : List Int), SqL K H p (gs.map V.int) ∧ gs.length ≤ 10 ∧ gs.all (fun g => decide (g < b)) = false ∧ ∀ H', Ex H H' → Q .non H'
  | _, _, _, _ => False
theorem ok_written (T : Txt w K mg a_is_integer a_is_number a_is_base a_is_name a_are_rows a_needed a_fits a_is_of a_inner a_flat a_names_in a_bare a_named a_number_of a_joined a_result a_holding a_written a_part a_of_one a_of_two a_power a_run a_came_to a_holds a_law_deal a_law_draw a_law_pick a_law_words a_law_ask_of a_law_row_of a_law_told a_law a_Stopped_init a_Put_init a_If_init a_Times_init a_Ask_init a_Not_init a_Program_init a_Program_call a_Walk_init a_Walk_go a_Walk_do a_Walk_put a_Walk_decide a_Walk_choose a_InvalidBase a_Stopped a_FigureError a_InvalidNumber a_Put a_If a_Times a_Stop a_Ask a_Not a_Row a_Test a_Program a_Walk a_DEEDS a_SIGNS a_WORDS a_If_init_d0 a_Program_init_d0 d_is_integer d_is_number d_is_base d_is_name d_are_rows d_needed d_fits d_is_of d_inner d_flat d_names_in d_bare d_named d_number_of d_joined d_result d_holding d_written d_part d_of_one d_of_two d_power d_run d_came_to d_holds d_law_deal d_law_draw d_law_pick d_law_words d_law_ask_of d_law_row_of d_law_told d_law d_Stopped_init d_Put_init d_If_init d_Times_init d_Ask_init d_Not_init d_Program_init d_Program_call d_Walk_init d_Walk_go d_Walk_do d_Walk_put d_Walk_decide d_Walk_choose) : FnOk P w K mg base CX0 3 a_written d_written ["figures", "base"] (sp_written K) := by
  have G_number_of : FnOk P w K mg base CX0 2 a_number_of d_number_of ["figures", "base"] spNo := fnNo
  refine T.F_written.ok sc_written (fun vs H Q E h => ?_) (fun cdv A outer s H vs Q E hr h => ?_)
  · unfold sp_written at h; split at h; rfl; exact h.elim
  unfold sp_written at h; split at h
  case h_2 => exact h.elim
  rename_i p b
  obtain ⟨gs, hp, gl, ha, q⟩ := h
  refine ⟨_, (pss_cons (ps_if (pt_val (pe_callB (cr_all rfl) (by rfl) T.z_all (by decide +kernel) (pa_cons (pe_lc (own := [("one", 2)]) (g := gName 2) (by rfl) sc_written.nd (pi_list (pv 0)) (blkOk_by (own := [("one", 2)]) (N := N_written) (sc := defScope s_written) (by decide +kernel)) (fun _ _ _ _ _ => (pg_name (i := 2) sc_written.nd rfl (by first | exact .inl rfl | exact .inr rfl))) (fun _ _ _ _ _ => pts_nil) (fun _ _ _ _ _ => (pe_cmpR op_lt (pv 2) (pv 1) (nomark _)))) pa_nil)))
      (pss_one (ps_ret (pe_call G_number_of (hr.mono (by omega)) (by rfl) T.g_number_of T.F_number_of.kp T.b_number_of .nil pass0 (pa_cons (pv 0) (pa_cons (pv 1) pa_nil)))))
      pss_nil)
      (pss_one (ps_ret pe_non))), ?_⟩
  walk_at "st"
  walk_at "vc"
  refine ⟨_, rfl, p, rfl, ⟨_, hp⟩, fun D hD => lc_list (xs := gs.map V.int) (CpG D H (fun g => V.bl (decide (g < b))) gs) (CpG.start hD) (fun i H' _ hP => hP.2.sql hp) (fun i z H' hz hP => ?_) (fun H1 hP => ?_)⟩
  · rw [List.getElem?_map] at hz
    obtain ⟨y, hy, rfl⟩ := Option.map_eq_some_iff.mp hz
    walk_at "vc"
    exact hP.step hD hy (by omega) rfl
  rw [List.length_map] at hP
  obtain ⟨g1, e1⟩ := hP.end_
  refine ⟨D, gs.map (fun g => decide (g < b)), rfl, sq_of (by rw [g1, List.map_map]; rfl), false, ?_, ?_⟩
  · rw [← ha, List.all_map]; rfl
  · rw [if_neg (by decide)]
    exact q _ e1
theorem resM_sub (x y b : Int) : resM "-" [x, y] b = some (if x ≥ y then some (x - y) else none) := by unfold resM; rw [if_neg (by decide), if_neg (by decide), if_pos rfl]
theorem resM_div (x y b : Int) : resM "//" [x, y] b = if y > 0 then none else some none := by unfold resM; rw [if_neg (by decide), if_neg (by decide), if_neg (by decide), if_pos rfl]
theorem resM_rest (x y b : Int) : resM "rest" [x, y] b = if y > 0 then none else some none := by unfold resM; rw [if_neg (by decide), if_neg (by decide), if_neg (by decide), if_neg (by decide), if_pos rfl]
theorem resM_cases {d : Str} {gs : List Int} {b : Int} {o : Option Int} (h : resM d gs b = some o) : (d = "number" ∧ ∃ x, gs = [x] ∧ o = some x) ∨ (d = "base" ∧ gs = [] ∧ o = some b) ∨ ((d = "-" ∨ d = "//" ∨ d = "rest") ∧ ∃ x y, gs = [x, y] ∧ resM d [x, y] 0 = some o) ∨ (d = "figures" ∧ gs.all (fun g => decide (g < b)) = false ∧ o = none) := by
  by_cases h1 : d = "number"
  · subst h1
    unfold resM at h
    rw [if_pos rfl] at h
    match gs, h with
    | [x], h => exact .inl ⟨rfl, x, rfl, (Option.some.inj h).symm⟩
  by_cases h2 : d = "base"
  · subst h2
    unfold resM at h
    rw [if_neg h1, if_pos rfl] at h
    match gs, h with
    | [], h => exact .inr (.inl ⟨rfl, rfl, (Option.some.inj h).symm⟩)
  by_cases h3 : d = "-"
  · subst h3
    match gs, h with
    | [x, y], h => exact .inr (.inr (.inl ⟨.inl rfl, x, y, rfl, by rw [resM_sub] at h ⊢; exact h⟩))
  by_cases h4 : d = "//"
  · subst h4
    match gs, h with
    | [x, y], h => exact .inr (.inr (.inl ⟨.inr (.inl rfl), x, y, rfl, by rw [resM_div] at h ⊢; exact h⟩))
  by_cases h5 : d = "rest"
  · subst h5
    match gs, h with
    | [x, y], h => exact .inr (.inr (.inl ⟨.inr (.inr rfl), x, y, rfl, by rw [resM_rest] at h ⊢; exact h⟩))
  unfold resM at h
  rw [if_neg h1, if_neg h2, if_neg h3, if_neg h4, if_neg h5] at h
  by_cases h6 : d = "figures"
  · rw [if_pos h6] at h
    by_cases h7 : gs.all (fun g => decide (g < b)) = true
    · rw [if_pos h7] at h; cases h
    · rw [if_neg h7] at h
      exact .inr (.inr (.inr ⟨h6, by simpa using h7, (Option.some.inj h).symm⟩))
  · rw [if_neg h6] at h; cases h
def sp_of_two : Sp
  | [.str d, .int x, .int y, .int _], H, Q, _ => ∃ o : Option Int, resM d [x, y] 0 = some o ∧ (d = "-" ∨ d = "//" ∨ d = "rest") ∧ Q (noneV o) H
  | _, _, _, _ => False
theorem ok_of_two (T : Txt w K mg a_is_integer a_is_number a_is_base a_is_name a_are_rows a_needed a_fits a_is_of a_inner a_flat a_names_in a_bare a_named a_number_of a_joined a_result a_holding a_written a_part a_of_one a_of_two a_power a_run a_came_to a_holds a_law_deal a_law_draw a_law_pick a_law_words a_law_ask_of a_law_row_of a_law_told a_law a_Stopped_init a_Put_init a_If_init a_Times_init a_Ask_init a_Not_init a_Program_init a_Program_call a_Walk_init a_Walk_go a_Walk_do a_Walk_put a_Walk_decide a_Walk_choose a_InvalidBase a_Stopped a_FigureError a_InvalidNumber a_Put a_If a_Times a_Stop a_Ask a_Not a_Row a_Test a_Program a_Walk a_DEEDS a_SIGNS a_WORDS a_If_init_d0 a_Program_init_d0 d_is_integer d_is_number d_is_base d_is_name d_are_rows d_needed d_fits d_is_of d_inner d_flat d_names_in d_bare d_named d_number_of d_joined d_result d_holding d_written d_part d_of_one d_of_two d_power d_run d_came_to d_holds d_law_deal d_law_draw d_law_pick d_law_words d_law_ask_of d_law_row_of d_law_told d_law d_Stopped_init d_Put_init d_If_init d_Times_init d_Ask_init d_Not_init d_Program_init d_Program_call d_Walk_init d_Walk_go d_Walk_do d_Walk_put d_Walk_decide d_Walk_choose) : FnOk P w K mg base CX0 3 a_of_two d_of_two ["deed", "x", "y", "base"] sp_of_two := by
  have G_power : FnOk P w K mg base CX0 2 a_power d_power ["x", "k"] spNo := fnNo
  have G_joined : FnOk P w K mg base CX0 2 a_joined d_joined ["number", "other", "base"] spNo := fnNo
  refine T.F_of_two.ok sc_of_two (fun vs H Q E h => ?_) (fun cdv A outer s H vs Q E hr h => ?_)
  · unfold sp_of_two at h; split at h; rfl; exact h.elim
  unfold sp_of_two at h; split at h
  case h_2 => exact h.elim
  rename_i d x y b
  obtain ⟨o, ho, hd, q⟩ := h
  refine ⟨_, (pss_one (ps_match (pv 0) (.val (pss_one (ps_ret (pe_op op_add (pv 1) (pv 2)))) (.val (pss_one (ps_ret (pe_ifExp (pt_cmpR op_ge (pv 1) (pv 2) (nomark _)) (pe_op op_sub (pv 1) (pv 2)) pe_non))) (.val (pss_one (ps_ret (pe_op op_mulX (pv 1) (pv 2)))) (.val (pss_one (ps_ret (pe_ifExp (pt_cmpR op_gt (pv 2) pe_int (nomark _)) (pe_op op_fdivW (pv 1) (pv 2)) pe_non))) (.val (pss_one (ps_ret (pe_ifExp (pt_cmpR op_gt (pv 2) pe_int (nomark _)) (pe_op op_mod (pv 1) (pv 2)) pe_non))) (.val (pss_one (ps_ret (pe_call G_power (hr.mono (by omega)) (by rfl) T.g_power T.F_power.kp T.b_power .nil pass0 (pa_cons (pv 1) (pa_cons (pv 2) pa_nil))))) (.val (pss_one (ps_ret (pe_call G_joined (hr.mono (by omega)) (by rfl) T.g_joined T.F_joined.kp T.b_joined .nil pass0 (pa_cons (pv 1) (pa_cons (pv 2) (pa_cons (pv 3) pa_nil)))))) (.val (pss_one (ps_ret (pe_callBfun cr_gcd (by rfl) T.g_gcd (pa_cons (pv 1) (pa_cons (pv 2) pa_nil))))) (.all (l := []) (pss_one (ps_ret (pe_ifExp (pt_cmpR op_lt (pv 1) (pv 2) (nomark _)) (pv 1) (pv 2))))))))))))))), ?_⟩
  walk_at "st"
  walk_at "vc"
  refine ⟨_, rfl, d, rfl, ?_⟩
  rcases hd with rfl | rfl | rfl
  · unfold tCs; rw [if_neg (by decide)]
    unfold tCs; rw [if_pos rfl]
    walk_at "vc"
    rw [resM_sub] at ho
    obtain rfl := Option.some.inj ho
    refine ite2 (fun c => ?_) (fun c => ?_)
    · rw [if_pos c] at q; exact q
    · rw [if_neg c] at q; exact q
  · unfold tCs; rw [if_neg (by decide)]
    unfold tCs; rw [if_neg (by decide)]
    unfold tCs; rw [if_neg (by decide)]
    unfold tCs; rw [if_pos rfl]
    walk_at "vc"
    rw [resM_div] at ho
    refine ite2 (fun c => ?_) (fun c => ?_)
    · rw [if_pos c] at ho; cases ho
    · rw [if_neg c] at ho; obtain rfl := Option.some.inj ho; exact q
  · unfold tCs; rw [if_neg (by decide)]
    unfold tCs; rw [if_neg (by decide)]
    unfold tCs; rw [if_neg (by decide)]
    unfold tCs; rw [if_neg (by decide)]
    unfold tCs; rw [if_pos rfl]
    walk_at "vc"
    rw [resM_rest] at ho
    refine ite2 (fun c => ?_) (fun c => ?_)
    · rw [if_pos c] at ho; cases ho
    · rw [if_neg c] at ho; obtain rfl := Option.some.inj ho; exact q
theorem ok_result (T : Txt w K mg a_is_integer a_is_number a_is_base a_is_name a_are_rows a_needed a_fits a_is_of a_inner a_flat a_names_in a_bare a_named a_number_of a_joined a_result a_holding a_written a_part a_of_one a_of_two a_power a_run a_came_to a_holds a_law_deal a_law_draw a_law_pick a_law_words a_law_ask_of a_law_row_of a_law_told a_law a_Stopped_init a_Put_init a_If_init a_Times_init a_Ask_init a_Not_init a_Program_init a_Program_call a_Walk_init a_Walk_go a_Walk_do a_Walk_put a_Walk_decide a_Walk_choose a_InvalidBase a_Stopped a_FigureError a_InvalidNumber a_Put a_If a_Times a_Stop a_Ask a_Not a_Row a_Test a_Program a_Walk a_DEEDS a_SIGNS a_WORDS a_If_init_d0 a_Program_init_d0 d_is_integer d_is_number d_is_base d_is_name d_are_rows d_needed d_fits d_is_of d_inner d_flat d_names_in d_bare d_named d_number_of d_joined d_result d_holding d_written d_part d_of_one d_of_two d_power d_run d_came_to d_holds d_law_deal d_law_draw d_law_pick d_law_words d_law_ask_of d_law_row_of d_law_told d_law d_Stopped_init d_Put_init d_If_init d_Times_init d_Ask_init d_Not_init d_Program_init d_Program_call d_Walk_init d_Walk_go d_Walk_do d_Walk_put d_Walk_decide d_Walk_choose) : FnOk P w K mg base CX0 5 a_result d_result ["deed", "given", "base"] (sp_result K) := by
  have G_written := ok_written (P := P) (w := w) (base := base) T
  have G_of_two := ok_of_two (P := P) (w := w) (base := base) T
  have G_part : FnOk P w K mg base CX0 2 a_part d_part ["deed", "k", "x", "base"] spNo := fnNo
  have G_of_one : FnOk P w K mg base CX0 2 a_of_one d_of_one ["deed", "x", "base"] spNo := fnNo
  refine T.F_result.ok sc_result (fun vs H Q E h => ?_) (fun cdv A outer s H vs Q E hr h => ?_)
  · unfold sp_result at h; split at h; rfl; exact h.elim
  unfold sp_result at h; split at h
  case h_2 => exact h.elim
  rename_i d p b
  obtain ⟨gs, o, hp, gl, ho, q⟩ := h
  refine ⟨_, (pss_cons (ps_if (pt_cmpR op_eq (pv 0) pe_str (nomark _))
      (pss_one (ps_ret (pe_call G_written (hr.mono (by omega)) (by rfl) T.g_written T.F_written.kp T.b_written .nil pass0 (pa_cons (pv 1) (pa_cons (pv 2) pa_nil)))))
      pss_nil)
      (pss_cons (ps_if (pt_cmpR op_eq (pv 0) pe_str (nomark _))
      (pss_one (ps_ret (pv 2)))
      pss_nil)
      (pss_cons (ps_if (pt_cmpR op_in_seq (pv 0) (pe_tup (pa_cons pe_str (pa_cons pe_str pa_nil))) (by rfl))
      (pss_one (ps_ret (pe_ix ix_listM (pv 1) pe_int (fun _ _ => rfl))))
      pss_nil)
      (pss_cons (ps_if (pt_cmpR op_in_seq (pv 0) (pe_tup (pa_cons pe_str (pa_cons pe_str (pa_cons pe_str pa_nil)))) (by rfl))
      (pss_one (ps_ret (pe_call G_part (hr.mono (by omega)) (by rfl) T.g_part T.F_part.kp T.b_part .nil pass0 (pa_cons (pv 0) (pa_cons (pe_ix ix_listM (pv 1) pe_int (fun _ _ => rfl)) (pa_cons (pe_ix ix_listM (pv 1) pe_int (fun _ _ => rfl)) (pa_cons (pv 2) pa_nil)))))))
      pss_nil)
      (pss_cons (ps_if (pt_cmpR op_eq (pe_callB call_len_seq (by rfl) T.z_len (by decide +kernel) (pa_cons (pv 1) pa_nil)) pe_int (nomark _))
      (pss_one (ps_ret (pe_call G_of_one (hr.mono (by omega)) (by rfl) T.g_of_one T.F_of_one.kp T.b_of_one .nil pass0 (pa_cons (pv 0) (pa_cons (pe_ix ix_listM (pv 1) pe_int (fun _ _ => rfl)) (pa_cons (pv 2) pa_nil))))))
      pss_nil)
      (pss_one (ps_ret (pe_call G_of_two (hr.mono (by omega)) (by rfl) T.g_of_two T.F_of_two.kp T.b_of_two .nil pass0 (pa_cons (pv 0) (pa_cons (pe_ix ix_listM (pv 1) pe_int (fun _ _ => rfl)) (pa_cons (pe_ix ix_listM (pv 1) pe_int (fun _ _ => rfl)) (pa_cons (pv 2) pa_nil)))))))))))), ?_⟩
  walk_at "st"
  walk_at "vc"
  rcases resM_cases ho with ⟨rfl, x, rfl, rfl⟩ | ⟨rfl, rfl, rfl⟩ | ⟨hd, x, y, rfl, ho2⟩ | ⟨rfl, ha, rfl⟩
  · rw [if_neg (by decide), if_neg (by decide)]
    refine ⟨sz_le (by simp), fun p1 h1 => ⟨p1, _, rfl, .inr (st_of upd_same), rfl, rfl, true, rfl, ?_⟩⟩
    have e1 := Ex.new h1 (o := .tup [.str (Str.ofString "number"), .str (Str.ofString "let")])
    rw [if_pos rfl]
    exact ⟨_, e1.sql hp, .int x, rfl, q _ e1⟩
  · rw [if_neg (by decide), if_pos rfl]
    exact q _ (Ex.refl _)
  · have hn : ∀ z : Str, z ∉ ([Str.ofString "-", Str.ofString "//", Str.ofString "rest"] : List Str) → d ≠ z := fun z hz e => hz (by subst e; simpa using hd)
    rw [if_neg (hn _ (by decide)), if_neg (hn _ (by decide))]
    refine ⟨sz_le (by simp), fun p1 h1 => ⟨p1, _, rfl, .inr (st_of upd_same), rfl, rfl, false, by rcases hd with rfl | rfl | rfl <;> rfl, ?_⟩⟩
    have e1 := Ex.new h1 (o := .tup [.str (Str.ofString "number"), .str (Str.ofString "let")])
    rw [if_neg (by decide)]
    refine ⟨sz_le (by simp), fun p2 h2 => ⟨p2, _, rfl, .inr (st_of upd_same), rfl, rfl, false, by rcases hd with rfl | rfl | rfl <;> rfl, ?_⟩⟩
    have e2 := e1.trans (Ex.new h2 (o := .tup [.str (Str.ofString "figure"), .str (Str.ofString "first"), .str (Str.ofString "last")]))
    rw [if_neg (by decide)]
    refine ⟨_, .inl (e2.sql hp), ?_⟩
    rw [if_neg (by simp)]
    exact ⟨_, e2.sql hp, .int x, rfl, _, e2.sql hp, .int y, rfl, o, ho2, hd, q _ e2⟩
  · rw [if_pos rfl]
    exact ⟨gs, hp, gl, ha, fun H' e => q H' e⟩
/-- one row that puts -/
def sp_Walk_put (K : PySem.W.Frag) (A : ClsA) (CW CS : Addr) : Sp
  | [w, v, .int at_], H, Q, E => ∃ G b dh dc ns f cs n d g o, WkS CW G H w (.int b) dh dc ns f cs ∧ RowO K A G (.put n d g) v ∧ rowN ns (.put n d g) ∧ resM d (g.map (givV f)) b = some o ∧ ns.length ≤ 100 ∧
      (∀ i, o = some i → ∀ H', WkS CW G H' w (.int b) dh dc ns (setF f n i) cs → Q .non H') ∧ (o = none → ∀ H' e, WkS CW G H' w (.int b) dh dc ns f cs → H' e = none → E (.ref CS) (some e) (upd H' e (.xd [("at", .int at_)])))
  | _, _, _, _ => False
theorem ok_Walk_put (T : Txt w K mg a_is_integer a_is_number a_is_base a_is_name a_are_rows a_needed a_fits a_is_of a_inner a_flat a_names_in a_bare a_named a_number_of a_joined a_result a_holding a_written a_part a_of_one a_of_two a_power a_run a_came_to a_holds a_law_deal a_law_draw a_law_pick a_law_words a_law_ask_of a_law_row_of a_law_told a_law a_Stopped_init a_Put_init a_If_init a_Times_init a_Ask_init a_Not_init a_Program_init a_Program_call a_Walk_init a_Walk_go a_Walk_do a_Walk_put a_Walk_decide a_Walk_choose a_InvalidBase a_Stopped a_FigureError a_InvalidNumber a_Put a_If a_Times a_Stop a_Ask a_Not a_Row a_Test a_Program a_Walk a_DEEDS a_SIGNS a_WORDS a_If_init_d0 a_Program_init_d0 d_is_integer d_is_number d_is_base d_is_name d_are_rows d_needed d_fits d_is_of d_inner d_flat d_names_in d_bare d_named d_number_of d_joined d_result d_holding d_written d_part d_of_one d_of_two d_power d_run d_came_to d_holds d_law_deal d_law_draw d_law_pick d_law_words d_law_ask_of d_law_row_of d_law_told d_law d_Stopped_init d_Put_init d_If_init d_Times_init d_Ask_init d_Not_init d_Program_init d_Program_call d_Walk_init d_Walk_go d_Walk_do d_Walk_put d_Walk_decide d_Walk_choose) : FnR P w K mg base (L2.CX P w) 8 a_Walk_put (sp_Walk_put K ⟨a_Put, a_If, a_Times, a_Stop, a_Ask, a_Not⟩ a_Walk a_Stopped) := by
  have G_result := ok_result (P := P) (w := w) (base := base) T
  have G_Stopped_init := ok_Stopped_init (P := P) (w := w) (base := base) T
  have F : FnOk P w K mg base (L2.CX P w) 8 a_Walk_put d_Walk_put ["self", "row", "at"] (sp_Walk_put K ⟨a_Put, a_If, a_Times, a_Stop, a_Ask, a_Not⟩ a_Walk a_Stopped) := by
    refine T.F_Walk_put.okX sc_Walk_put (fun vs H Q E h => ?_) (fun cdv A outer s H vs Q E hr h => ?_)
    · unfold sp_Walk_put at h; split at h; rfl; exact h.elim
    unfold sp_Walk_put at h; split at h
    case h_2 => exact h.elim
    rename_i w v at_
    obtain ⟨G, b, dh, dc, ns, f, cs, n, d, g, o, S, hO, hN, ho, nl, q1, q2⟩ := h
    refine ⟨_, (pss_cons (ps_setLc (i := 3) (own := [("one", 5)]) (g := gName 5) (by rfl) sc_Walk_put.nd rfl rfl (sw_true rfl rfl rfl (by decide +kernel)) (pi_tup (pe_fld (pv 1) (by rfl))) (blkOk_by (own := [("one", 5)]) (N := N_Walk_put) (sc := defScope s_Walk_put) (by decide +kernel)) (fun _ _ _ _ _ => (pg_name (i := 5) sc_Walk_put.nd rfl (by first | exact .inl rfl | exact .inr rfl))) (fun _ _ _ _ _ => pts_nil) (fun _ _ _ _ _ => (pe_ifExp (pt_val (pe_callB call_isiV (by rfl) T.z_isinstance (by decide +kernel) (pa_cons (pv 5) (pa_cons (pe_bltn (v := .ty "str") (by rfl) T.z_str (by decide +kernel) rfl) pa_nil)))) (pe_dget (un1 hr.units) (pe_fldK (K := K) rfl (pv 0) (by rfl)) (pv 5) (fun _ _ => rfl)) (pv 5))))
      (pss_cons (ps_set (i := 4) sc_Walk_put.nd rfl (by first | exact .inl rfl | exact .inr rfl) (pe_call G_result (hr.mono (by omega)) (by rfl) T.g_result T.F_result.kp T.b_result .nil pass0 (pa_cons (pe_fld (pv 1) (by rfl)) (pa_cons (pv 3) (pa_cons (pe_fld (pv 0) (by rfl)) pa_nil)))))
      (pss_cons (ps_if (pt_cmpR op_isN (pv 4) pe_non (nomark _))
      (pss_one (ps_raise rfl (takes_of rfl rfl rfl rfl) (pmk_any T.E_Stopped G_Stopped_init (hr.mono (by omega)) T.b_Stopped_init .nil pass0 (by rfl) (pa_cons (pv 2) pa_nil))))
      pss_nil)
      (pss_one (ps_dput (un1 hr.units) (pe_fld (pv 0) (by rfl)) (pe_fld (pv 1) (by rfl)) (pv 4) rfl))))), ?_⟩
    walk_at "st"
    walk_at "vc"
    obtain ⟨a, dx, rfl, ha⟩ := S.ob
    unfold RowO at hO
    obtain ⟨rv, rdx, q, rfl, hrv, hq⟩ := hO
    obtain ⟨hn, gl, hgv⟩ := hN
    refine ⟨_, rfl, rv, a_Put, rdx, _, .ref q, rfl, S.g _ _ hrv, T.oc_Put.cl, T.nF_Put_given, rfl, q, rfl, ⟨_, (Kp.of_ex S.g).sqt hq⟩, fun D hD => lc_tup (xs := g) (CpG D H (fun v => V.int (givV f v)) g) (CpG.start hD) (fun i H' _ hP => (Kp.of_ex (S.g.trans hP.2)).sqt hq) (fun i z H' hz hP => ?_) (fun H1 hP => ?_)⟩
    · walk_at "vc"
      have S' := S.ex hP.2
      rcases hgv z (List.mem_of_getElem? hz) with ⟨x, rfl, hx⟩ | ⟨j, rfl⟩
      · refine ⟨_, rfl, true, by decide +kernel, ?_⟩
        rw [if_pos rfl]
        exact fld_B rfl (S'.g _ _ ha) T.oc_Walk.cl T.nF_Walk_held rfl ⟨_, rfl, dh, .int (f x), rfl, by rw [← heldK_get hx]; exact DGet.k (k := .inr x) S'.hd, hP.step hD hz (by omega) rfl⟩
      · refine ⟨_, rfl, false, by decide +kernel, ?_⟩
        rw [if_neg (by decide)]
        exact hP.step hD hz (by omega) rfl
    obtain ⟨g1, e1⟩ := hP.end_
    have S1 := S.ex e1
    have hr1 := S1.g _ _ hrv
    have ha1 := S1.g _ _ ha
    refine fld_B rfl hr1 T.oc_Put.cl T.nF_Put_deed rfl (fld_B rfl ha1 T.oc_Walk.cl T.nF_Walk_among rfl ⟨g.map (givV f), o, sq_of (by rw [g1, List.map_map]; rfl), by rw [List.length_map]; omega, ho, fun H2 e2 => ?_⟩)
    have S2 := S1.ex e2
    cases o with
    | none =>
      show (if V.non = V.non then _ else _)
      rw [if_pos rfl]
      exact ⟨_, rfl, mkErrR T.E_Stopped fun e he => q2 rfl H2 e S2 he⟩
    | some i =>
      show (if V.int i = V.non then _ else _)
      rw [if_neg (fun h => by cases h)]
      exact ⟨_, rfl, fld_B rfl (S2.g _ _ ha) T.oc_Walk.cl T.nF_Walk_held rfl (fld_B rfl (S2.g _ _ hrv) T.oc_Put.cl T.nF_Put_name rfl ⟨dh, _, rfl, DPut.k (k := .inr n) S2.hd (sz_lt (by rw [heldK_len]; omega)), q1 i rfl _ (S2.put hn)⟩)⟩
  exact (F.raw T.b_Walk_put .nil).imp fun vs H Q E h => by rw [List.append_nil]; exact h
end
end My
set_option Elab.async false
set_option linter.all false
set_option maxRecDepth 100000
set_option maxHeartbeats 4000000
/-! a text times 0 or 1 -/
namespace My
open PySem PySem.Spec PyProof.Rows L2 Evl
section
variable {X : Cx}
theorem op_mulS : OpR X (binaryOp .Mult) (fun x y H Q => ∃ z n, x = .str z ∧ y = .int n ∧ (n = 0 ∨ n = 1) ∧ Q (.str (if n = 1 then z else Str.empty)) H) := by
  intro pins s σ H x y v u Q I rx ry h
  obtain ⟨z, n, rfl, rfl, hn, q⟩ := h
  obtain ⟨t, rfl⟩ := rx
  obtain ⟨t', rfl⟩ := ry
  refine SB.mul ?_ fun t' k => ?_
  · rcases hn with rfl | rfl
    · exact ⟨by decide, fun h => absurd (show (0 : Int) < 1 by decide) h, fun h => absurd (show (0 : Int) < 1 by decide) h⟩
    · exact ⟨by decide, fun _ h => by simp at h, fun _ h => by simp at h⟩
  · rcases hn with rfl | rfl
    · rw [if_neg (by decide)] at q
      have e : Txt.mul z 0 = Str.empty := by unfold Txt.mul; rw [if_pos (by decide)]
      rw [e]
      exact ⟨.str Str.empty, H, I.tok _, ⟨_, rfl⟩, q⟩
    · rw [if_pos rfl] at q
      have e : Txt.mul z 1 = z := by unfold Txt.mul; rw [if_neg (by decide), if_pos (by rfl)]
      rw [e]
      exact ⟨.str z, H, I.tok _, ⟨_, rfl⟩, q⟩
end
theorem walk_enumT {K : PySem.W.Frag} {a : Addr} {xs : List V} : Walk (IteT K a) xs.length (fun H => SqT K H a xs) (YPair (fun i => some (.int (i : Nat))) (fun i => xs[i]?)) := by
  refine ⟨fun i _ hi q => ⟨xs, xs[i], q, by simp [hi]⟩, fun _ q => ⟨xs, q, Nat.le_refl _⟩, fun i H v H' _ q y => ?_⟩
  obtain ⟨T, x, h1, h2, h3, h4⟩ := y
  exact ⟨T, .int (i : Nat), x, h1, h2, h3, rfl, h4 xs q⟩
end My
set_option Elab.async false
set_option linter.all false
set_option maxRecDepth 100000
set_option maxHeartbeats 4000000
/-! t[:0:-1] of a tuple that is not empty: all but the first, backwards -/
namespace My
open PySem PySem.Spec PyProof.Rows L2 Evl
section
variable {prog : Program} {w : World} {A : Around} {E : Value → Shared → Prop} {s : Shared}
theorem fm_congr {α β : Type} {f g : α → Option β} : ∀ (l : List α), (∀ k ∈ l, f k = g k) → l.filterMap f = l.filterMap g
  | [], _ => rfl
  | k :: l, h => by
    rw [List.filterMap_cons, List.filterMap_cons, h k (by simp), fm_congr l fun z hz => h z (by simp [hz])]
theorem tailPick (v : Value) (vs : List Value) : ((List.range vs.length).filterMap fun (k : Nat) => ((v :: vs).toArray)[((((v :: vs).toArray).size : Int) - 1 + (k : Int) * (-1)).toNat]?).toArray = vs.reverse.toArray := by
  have h := revPick vs.toArray vs.length (by simp)
  have e : (fun (k : Nat) => ((v :: vs).toArray)[((((v :: vs).toArray).size : Int) - 1 + (k : Int) * (-1)).toNat]?) = fun k : Nat => if k < vs.length then (vs.toArray)[((vs.length : Int) - 1 + (k : Int) * (-1)).toNat]? else ((v :: vs).toArray)[((((v :: vs).toArray).size : Int) - 1 + (k : Int) * (-1)).toNat]? := by
    funext k
    by_cases hk : k < vs.length
    · rw [if_pos hk]
      have : ((((v :: vs).toArray).size : Int) - 1 + (k : Int) * (-1)).toNat = ((vs.length : Int) - 1 + (k : Int) * (-1)).toNat + 1 := by
        simp
        omega
      rw [this]
      simp
    · rw [if_neg hk]
  have e2 : ((List.range vs.length).filterMap fun (k : Nat) => ((v :: vs).toArray)[((((v :: vs).toArray).size : Int) - 1 + (k : Int) * (-1)).toNat]?) = ((List.range vs.length).filterMap fun (k : Nat) => (vs.toArray)[((vs.length : Int) - 1 + (k : Int) * (-1)).toNat]?) := by
    rw [e]
    refine fm_congr _ fun k hk => ?_
    rw [if_pos (List.mem_range.mp hk)]
  rw [e2, h]
theorem tupTail {t sl : Addr} {v0 : Value} {rest : List Value} {vl vu vs : Value} {R : Value → Shared → Prop} (ht : IsTup s.heap t (v0 :: rest).toArray) (hs : s.heap.IsSliceOf sl vl vu vs) (pl : IsPart vl none) (pu : IsPart vu (some 0)) (ps : IsPart vs (some (-1))) (hz : rest.length ≤ sizeLine)
    (h : R (.ref s.heap.objs.size) { s with heap := s.heap.push { cls := .type "tuple", data := .seq rest.reverse.toArray } }) : wpAny (model prog w) A (getItem (.ref t) (.ref sl)) R E s := by
  have hT : s.TypeIs (.ref sl) "slice" := by
    obtain ⟨ob, h1, h2, _⟩ := hs
    exact ⟨ob, h1, h2⟩
  have ok : sizeOk (.seq rest.reverse.toArray) := by
    show rest.reverse.toArray.size ≤ sizeLine
    rw [List.size_toArray, List.length_reverse]
    exact hz
  unfold getItem
  try with_reducible refine wpAny_holding ?_
  first | refine wpAny_bind (wpAny_pure ?_) | skip
  refine wpAny_bind (wpAny_sequenceKey ht.typeIs (by decide) ?_)
  refine wpAny_bind (wpAny_callSpecial?_slot (name := Str.ofString "__getitem__") ht.typeIs slot_tuple_getitem (wpAny_call_entry slot_tuple_getitem ht.typeIs entry_tuple_getitem ?_ (args_tuple_getitem _ _)))
  show wpAny _ _ (Builtin.Tuple.tupleItemsOf (.ref t) >>= _) _ _ s
  refine wpAny_bind (tupleItemsOf_ ht (wpAny_bind (wpAny_typeOf hT ?_)))
  rw [if_pos (by decide)]
  refine wpAny_bind (slParts (c := -1) hs pl pu ps rfl (by decide) ?_)
  have en : (((v0 :: rest).toArray.size : Nat) : Int) = (rest.length : Int) + 1 := by simp
  have e1 : Builtin.Slice.sliceAdjust none (some 0) (-1) (((v0 :: rest).toArray.size : Nat) : Int) = ((((v0 :: rest).toArray.size : Nat) : Int) - 1, 0) := by
    unfold Builtin.Slice.sliceAdjust
    rw [en]
    simp
    omega
  have e2 : Builtin.Slice.slicePlaces ((((v0 :: rest).toArray.size : Nat) : Int) - 1) 0 (-1) = rest.length := by
    rw [en]
    unfold Builtin.Slice.slicePlaces
    rw [if_neg (by decide)]
    by_cases h0 : ((rest.length : Int) + 1) - 1 > 0
    · rw [if_pos h0]
      have : (((rest.length : Int) + 1) - 1 - 0 - 1) / (- -1) = (rest.length : Int) - 1 := by
        rw [show (- -1 : Int) = 1 by decide, Int.ediv_one]; omega
      rw [this]; omega
    · rw [if_neg h0]; omega
  rw [e1]
  show wpAny _ _ (if ((((((v0 :: rest).toArray.size : Nat) : Int) - 1 == 0) && ((-1 : Int) == 1)) && (Builtin.Slice.slicePlaces ((((v0 :: rest).toArray.size : Nat) : Int) - 1) 0 (-1) == (v0 :: rest).toArray.size)) = true then _ else _) _ _ s
  have no : ¬ ((((((v0 :: rest).toArray.size : Nat) : Int) - 1 == 0) && ((-1 : Int) == 1)) && (Builtin.Slice.slicePlaces ((((v0 :: rest).toArray.size : Nat) : Int) - 1) 0 (-1) == (v0 :: rest).toArray.size)) = true := by
    rw [show ((-1 : Int) == 1) = false by decide]; simp
  rw [if_neg no, e2, tailPick]
  first
    | exact wpAny_bind (m := Builtin.Tuple.tupleExact _) (wpAny_newObj_type (wpAny_pure ⟨_, rfl, wpAny_pure h⟩) ok)
    | exact wpAny_bind (m := Builtin.Tuple.tupleExact _) (wpAny_newObj_type (wpAny_bind (wpAny_pure (wpAny_pure ⟨_, rfl, wpAny_pure h⟩))) ok)
    | exact wpAny_bind (wpAny_bind (m := Builtin.Tuple.tupleExact _) (wpAny_newObj_type (wpAny_pure (wpAny_pure ⟨_, rfl, wpAny_pure h⟩)) ok))
    | exact wpAny_bind (wpAny_bind (m := Builtin.Tuple.tupleExact _) (wpAny_newObj_type (wpAny_pure ⟨_, rfl, wpAny_pure h⟩) ok))
end
section
variable {X : Cx}
/-- t[:0:-1] of a tuple -/
def tTailT (K : PySem.W.Frag) (te : TE) : TE := fun σ H Q => te σ H fun x H1 => ∃ a y xs, x = .ref a ∧ SqT K H1 a (y :: xs) ∧ ∀ t H2, Ex H1 H2 → SqT K H2 t xs.reverse → Q (.ref t) H2
theorem pe_tailT {e : Expr} {te : TE} {k k2 : Nat} {p0 p1 p2 p3 pos : Pos} (he : PE X e te) : PE X (.Subscript e (.Slice none (some (.Constant (.int 0) k2 p0)) (some (.UnaryOp .USub (.Constant (.int 1) k p1) p2)) p3) pos) (tTailT X.K te) := by
  refine ⟨fun pins s σ H Q I h => Subscript_ (thn (he.run pins s σ H _ I h) fun v s1 ⟨x, H1, I1, r1, a, y, xs, ex, hx, q⟩ => ?_)⟩
  subst ex
  cases r1
  have step : PO X (some (.UnaryOp .USub (.Constant (.int 1) k p1) p2)) (tPart (tUn (rU fun i => .int (-i)) (tC (.int 1)))) := po_some (pe_un un_neg pe_int)
  have stop : PO X (some (.Constant (.int 0) k2 p0)) (tPart (tC (.int 0))) := po_some pe_int
  refine wpAny_Slice (thn (po_none.run pins s1 σ H1 (fun o G => o = none ∧ G = H1) I1 ⟨rfl, rfl⟩) fun vl s2 ⟨o2, H2, I2, pl, e2, g2⟩ => ?_)
  subst e2 g2
  refine thn (stop.run pins s2 σ H2 (fun o G => o = some 0 ∧ G = H2) I2 ⟨0, rfl, rfl, rfl⟩) fun vu s3 ⟨o3, H3, I3, pu, e3, g3⟩ => ?_
  subst e3 g3
  refine thn (step.run pins s3 σ H3 (fun o G => o = some (-1) ∧ G = H3) I3 ⟨1, rfl, -1, rfl, rfl, rfl⟩) fun vs s4 ⟨o4, H4, I4, ps, e4, g4⟩ => ?_
  subst e4 g4
  generalize hs5 : ({ s4 with heap := s4.heap.push { cls := .type "slice", data := .fields #[vl, vu, vs] } } : Shared) = s5
  have I5 : Inv X pins σ H4 s5 := by rw [← hs5]; exact I4.kept (t' := s4.toks) fun b ob q => Heap.get?_push_of_some _ q
  have hsl : s5.heap.IsSliceOf s4.heap.objs.size vl vu vs := by rw [← hs5]; exact Heap.IsSliceOf.new _ vl vu vs
  obtain ⟨its, r, ht, hz⟩ := I5.tuple hx
  cases r with
  | @cons _ v0 _ rest r0 rr =>
    have hlen := rr.length
    show wpAny (model X.prog X.w) X.A (subscriptTail e (.Slice none (some (.Constant (.int 0) k2 p0)) (some (.UnaryOp .USub (.Constant (.int 1) k p1) p2)) p3) (.ref a) (.ref s4.heap.objs.size)) (EP X pins σ Q) X.xe _
    have hz' : xs.length ≤ sizeLine := by simp at hz; omega
    refine tail_any (ops := [.ref a, .ref s4.heap.objs.size]) ht.typeIs slot_tuple_getitem.lookup (tupTail ht hsl pl pu ps (by omega) ?_) (by with_unfolding_all rfl)
    have hn := I5.hok.fresh (Nat.le_refl s5.heap.objs.size)
    refine ⟨.ref _, _, I5.laid (t' := s5.toks) (o := .tup xs.reverse) (fun b ob q => Heap.get?_push_of_some _ q) (Nat.le_refl _) ?_, rfl, q _ _ (Ex.new hn) (st_of upd_same)⟩
    exact ⟨by rw [List.length_reverse]; exact hz', _, (show Vals xs rest from rr).reverse, IsTup.new _ _⟩
/-- repr(b) of a bool -/
def rReprB : List V → Hp → VK → Prop := fun xs H Q => ∃ b : Bool, xs = [.bl b] ∧ Q (.str (if b then "True" else "False")) H
theorem call_reprB : CallR X (.builtin "repr") rReprB := by
  intro pins s σ H xs us Q I r h
  obtain ⟨b, rfl, q⟩ := h
  obtain ⟨u, rfl, ru⟩ := r.one
  cases ru
  exact PySem.P.repr_of_bool ⟨.str (if b then "True" else "False"), H, I.tok _, ⟨_, rfl⟩, q⟩
end
end My
set_option Elab.async false
set_option linter.all false
set_option maxRecDepth 100000
set_option maxHeartbeats 4000000
set_option exponentiation.threshold 5000
/-! f(e, ..) where f gives an object of an own class with __call__ -/
namespace My
open PySem PySem.Spec PyProof.Rows L2 Evl
theorem mulOk20 {i j : Int} (a0 : -(2 ^ 2000) < i) (a1 : i < 2 ^ 2000) (b0 : -(2 ^ 2000) < j) (b1 : j < 2 ^ 2000) : CMulX i j :=
  mulx_ok (nab a0 a1) (nab b0 b1) (by decide)
section
variable {X : Cx}
def tCallK (C : Addr) (sp : Sp) (E : XK) (tf : TE) (t : TA) : TE := fun σ H Q => tf σ H fun y H1 => ∃ a, y = V.ref a ∧ t σ H1 fun vs H2 => (∃ dx fs, H2 a = some (.ins C dx fs)) ∧ sp (V.ref a :: vs) H2 Q E
theorem pe_callK {K : PySem.W.Frag} {CX : CXT} {k : Nat} {C g : Addr} {sp : Sp} {E : XK} {fe e : Expr} {es : List Expr} {tf : TE} {t : TA} {pos : Pos} (hf : PE X fe tf) (c : StX.CallO K C g) (F : FnR X.prog X.w X.K X.mg X.base CX k g sp) (hr : Room k X.A) (hx : Passes CX X E) (ha : PA X (e :: es) t) (hK : X.K = K := by rfl)
    (ht : eval (.Call fe (e :: es) [] pos) X.env = (do callWith pos (← eval fe X.env) [] (backTo pos (starEach (e :: es) X.env)) (backToKw pos (keywordEach [] X.env))) := by rfl)
    (he : starEach (e :: es) X.env = (false, eval e X.env) :: starEach es X.env := by rfl) (hpl : (backTo pos (starEach es X.env)).any (·.1) = false := by rfl) : PE X (.Call fe (e :: es) [] pos) (tCallK C sp E tf t) := by
  subst hK
  refine ⟨fun pins s σ H Q I h => ?_⟩
  refine Call_ (thn (hf.run pins s σ H _ I h) fun u s1 ⟨y, H1, I1, ry, a, ey, q⟩ => ?_) ht
  subst ey
  obtain rfl : u = Value.ref a := ry
  refine StX.callO_with (thn (ha.run pos pins s1 σ H1 _ I1 q) fun us s2 ⟨vs, H2, I2, r, hi, q2⟩ => ?_) he hpl
  obtain ⟨dx, fs, hi⟩ := hi
  obtain ⟨ox, od, J, hd⟩ := StX.insC_at I2 (.inr ⟨dx, fs, hi⟩)
  exact ⟨⟨C, ox, od, J, hd⟩, StX.run_callO c F hr hx I2 (.inr ⟨dx, fs, hi⟩) r q2⟩
end
section
variable {X : Cx}
/-- the same, where what it raises is taken -/
def tCallS2 (C : Addr) (sp : Sp) (E : L2.St → XK) (tf : TE) (t : TA) : TE := fun σ H Q => tf σ H fun y H1 => ∃ a, y = V.ref a ∧ t σ H1 fun vs H2 => (∃ dx fs, H2 a = some (.ins C dx fs)) ∧ sp (V.ref a :: vs) H2 Q (E σ)
theorem run_callS2 {CX : CXT} {k : Nat} {C g a : Addr} {sp : Sp} {E : XK} {pins : List (Addr × Obj)} {σ : L2.St} {H : Hp} {s : Shared} {Q : VK} {us : List Value} {vs : List V} (c : StX.CallO X.K C g) (F : FnR X.prog X.w X.K X.mg X.base CX k g sp) (hr : Room k X.A) (hx : PassesAt CX X σ E) (I : Inv X pins σ H s) (hi : ∃ dx fs, H a = some (.ins C dx fs)) (r : Vals vs us)
    (h : sp (V.ref a :: vs) H Q E) : wpAny (model X.prog X.w) X.A (call (.ref a) us) (EP X pins σ Q) X.xe s := by
  obtain ⟨dx, fs, hi⟩ := hi
  obtain ⟨ox, od, J, hd⟩ := StX.insC_at I (.inr ⟨dx, fs, hi⟩)
  exact wpAny_call (PySem.W.kco_code I.kIn J hd c.at_ c.fn c.fi (run_atS (E := fun _ => E) (us := .ref a :: us) (ws := .ref a :: vs) F hr I.env0 hx I (.cons rfl r) h))
theorem pe_callS2 {K : PySem.W.Frag} {CX : CXT} {k : Nat} {C g : Addr} {sp : Sp} {E : L2.St → XK} {fe e : Expr} {es : List Expr} {tf : TE} {t : TA} {pos : Pos} (hf : PE X fe tf) (c : StX.CallO K C g) (F : FnR X.prog X.w X.K X.mg X.base CX k g sp) (hr : Room k X.A) (hx : ∀ σ, PassesAt CX X σ (E σ)) (ha : PA X (e :: es) t) (hK : X.K = K := by rfl)
    (ht : eval (.Call fe (e :: es) [] pos) X.env = (do callWith pos (← eval fe X.env) [] (backTo pos (starEach (e :: es) X.env)) (backToKw pos (keywordEach [] X.env))) := by rfl)
    (he : starEach (e :: es) X.env = (false, eval e X.env) :: starEach es X.env := by rfl) (hpl : (backTo pos (starEach es X.env)).any (·.1) = false := by rfl) : PE X (.Call fe (e :: es) [] pos) (tCallS2 C sp E tf t) := by
  subst hK
  refine ⟨fun pins s σ H Q I h => ?_⟩
  refine Call_ (thn (hf.run pins s σ H _ I h) fun u s1 ⟨y, H1, I1, ry, a, ey, q⟩ => ?_) ht
  subst ey
  obtain rfl : u = Value.ref a := ry
  refine StX.callO_with (thn (ha.run pos pins s1 σ H1 _ I1 q) fun us s2 ⟨vs, H2, I2, r, hi, q2⟩ => ?_) he hpl
  obtain ⟨dx, fs, hi'⟩ := hi
  obtain ⟨ox, od, J, hd⟩ := StX.insC_at I2 (.inr ⟨dx, fs, hi'⟩)
  exact ⟨⟨C, ox, od, J, hd⟩, run_callS2 c F hr (hx σ) I2 ⟨dx, fs, hi'⟩ r q2⟩
end
theorem callO_of {K : PySem.W.Frag} {C g : Addr} {x qual : Str} {st : Stmt} {fd : FuncData} (h : MethC K "__call__" C g) (F : Fun K x qual st g fd) : StX.CallO K C g := by
  obtain ⟨oc, od, kV, doc, pm, an, cdv, ct, osl, rfl, hl, _⟩ := F.ex
  refine ⟨h.at_, h.fn, ?_⟩
  unfold PySem.W.fnIn
  rw [hl]
end My
set_option Elab.async false
set_option linter.all false
set_option maxRecDepth 100000
set_option maxHeartbeats 4000000
/-! the same makings, where what __init__ raises is taken by the place's own wish -/
namespace My
open PySem PySem.Spec PyProof.Rows L2 Evl
section
variable {X : Cx} {CX : CXT} {k : Nat} {f C : Addr} {ks : List Str} {sp : List V → List V → Hp → VK → XK → Prop} {E : XK} {ES : L2.St → XK} {x : Str} {p pos sp_ : Pos} {e : Expr} {es : List Expr} {kws : List Keyword} {t tk : TA} {te : TE}
theorem run_makeV {pins : List (Addr × Obj)} {σ : L2.St} {H : Hp} {s : Shared} {Q : VK} {us ws : List Value} {vs zs : List V} (M : Mk X.K C f) (F : FnKW X.prog X.w X.K X.mg X.base CX k f ks sp) (hr : Room (k + 1) X.A) (hx : PassesAt CX X σ E)
    (I : Inv X pins σ H s) (r : Vals vs us) (rz : Vals zs ws) (l : zs.length = ks.length) (h : tMakeW C sp E H Q vs zs) : wpAny (model X.prog X.w) X.A (call (.ref C) us (ks.zip ws)) (EP X pins σ Q) X.xe s := by
  have hq := h (s.heap.objs.size + 1) s.heap.objs.size (I.hok.fresh (Nat.le_succ _)) (I.hok.fresh (Nat.le_refl _)) (Nat.ne_of_lt (Nat.lt_succ_self _))
  have I2 := Inv.made (C := C) I
  have r1 : Vals (V.ref (s.heap.objs.size + 1) :: vs) (Value.ref (s.heap.objs.size + 1) :: us) := .cons rfl r
  refine wpAny_call (make_map (f := f) I.kIn M.makes M.init (beq_iff_eq.mp M.fn) (codeAny_mono (F _ X.stack _ _ (Value.ref (s.heap.objs.size + 1) :: us) ws _ zs _ E (hr.make C us (ks.zip ws)) (I2.env0.make C us (ks.zip ws)) r1 rz l hq) fun r s' hq' => ?_))
  cases r with
  | error e => exact hx pins _ _ e s' I2 hq'
  | ok fl =>
    cases fl with
    | ret u =>
      obtain ⟨v, H', I3, rv, ev, q3⟩ := I2.after hq'
      subst ev
      exact ⟨rv, ⟨V.ref (s.heap.objs.size + 1), H', I3, rfl, q3⟩⟩
    | next => exact False.elim hq'
    | brk => exact False.elim hq'
    | cont => exact False.elim hq'
/-- C(k=e) -/
theorem pe_makeV0 (M : Mk X.K C f) (F : FnKW X.prog X.w X.K X.mg X.base CX k f ks sp) (hr : Room (k + 1) X.A) (hg : Gl X x) (hm : X.mg x = some (.ref C)) (hx : ∀ σ, PassesAt CX X σ (ES σ)) (hkw : PK X kws tk)
    (hall : (backToKw pos (keywordEach kws X.env)).all (·.1.isSome) = true := by rfl) (hks : (backToKw pos (keywordEach kws X.env)).filterMap (·.1) = ks := by rfl) (hdb : (x == ("__debug__" : Str)) = false := by decide)
    (hpl : ((backTo pos (starEach [] X.env)).any (·.1) || (backToKw pos (keywordEach kws X.env)).any (·.1.isNone)) = false := by rfl) :
    PE X (.Call (.Name x p) [] kws pos) (fun σ H Q => tk σ H fun zs H2 => zs.length = ks.length ∧ tMakeW C sp (ES σ) H2 Q [] zs) := by
  refine ⟨fun pins s σ H Q I h => ?_⟩
  refine wpAny_Call_Name_kw (ld_glob I hg hm ?_ hdb)
  refine PySem.W.callWith_KW0 (h₀ := X.base) I.ok.mod.kin M.kp hall ?_ hpl
  refine thn (hkw.run pos pins s σ H _ I h) fun ws s2 ⟨zs, H2, I2, rz, l2, q2⟩ => ⟨I2.kIn, ?_⟩
  rw [hks]
  exact run_makeV (us := []) (vs := []) M F hr (hx σ) I2 .nil rz l2 q2
/-- C(e, .., k=e) -/
theorem pe_makeV (M : Mk X.K C f) (F : FnKW X.prog X.w X.K X.mg X.base CX k f ks sp) (hr : Room (k + 1) X.A) (hg : Gl X x) (hm : X.mg x = some (.ref C)) (hx : ∀ σ, PassesAt CX X σ (ES σ)) (ha : PA X (e :: es) t) (hkw : PK X kws tk)
    (hall : (backToKw pos (keywordEach kws X.env)).all (·.1.isSome) = true := by rfl) (hks : (backToKw pos (keywordEach kws X.env)).filterMap (·.1) = ks := by rfl) (hdb : (x == ("__debug__" : Str)) = false := by decide)
    (he : starEach (e :: es) X.env = (false, eval e X.env) :: starEach es X.env := by rfl) (hpl : ((backTo pos (starEach (e :: es) X.env)).any (·.1) || (backToKw pos (keywordEach kws X.env)).any (·.1.isNone)) = false := by rfl) :
    PE X (.Call (.Name x p) (e :: es) kws pos) (fun σ H Q => t σ H fun vs H1 => tk σ H1 fun zs H2 => zs.length = ks.length ∧ tMakeW C sp (ES σ) H2 Q vs zs) := by
  refine ⟨fun pins s σ H Q I h => ?_⟩
  refine wpAny_Call_Name_kw (ld_glob I hg hm ?_ hdb)
  refine PySem.W.callWith_KW (h₀ := X.base) I.ok.mod.kin M.kp hall (thn (ha.run pos pins s σ H _ I h) fun us s1 ⟨vs, H1, I1, r, q⟩ => ?_) hpl he
  refine thn (hkw.run pos pins s1 σ H1 _ I1 q) fun ws s2 ⟨zs, H2, I2, rz, l2, q2⟩ => ⟨I2.kIn, ?_⟩
  rw [hks]
  exact run_makeV M F hr (hx σ) I2 r rz l2 q2
/-- C(e, ..) -/
theorem pe_makeVP (M : Mk X.K C f) (F : FnKW X.prog X.w X.K X.mg X.base CX k f [] sp) (hr : Room (k + 1) X.A) (hg : Gl X x) (hm : X.mg x = some (.ref C)) (hx : ∀ σ, PassesAt CX X σ (ES σ)) (ha : PA X (e :: es) t) (hdb : (x == ("__debug__" : Str)) = false := by decide)
    (he : starEach (e :: es) X.env = (false, eval e X.env) :: starEach es X.env := by rfl) (hpl : (backTo pos (starEach es X.env)).any (·.1) = false := by rfl) :
    PE X (.Call (.Name x p) (e :: es) [] pos) (fun σ H Q => t σ H fun vs H1 => tMakeW C sp (ES σ) H1 Q vs []) := by
  refine ⟨fun pins s σ H Q I h => ?_⟩
  refine wpAny_Call_Name_kw (ld_glob I hg hm ?_ hdb)
  refine PySem.W.callWith_K (h₀ := X.base) I.ok.mod.kin M.kp (thn (ha.run pos pins s σ H _ I h) fun us s1 ⟨vs, H1, I1, r, q⟩ => ⟨I1.kIn, ?_⟩) he hpl
  exact run_makeV (ks := []) (ws := []) (zs := []) M F hr (hx σ) I1 r .nil rfl q
/-- C() -/
theorem pe_makeVN (M : Mk X.K C f) (F : FnKW X.prog X.w X.K X.mg X.base CX k f [] sp) (hr : Room (k + 1) X.A) (hg : Gl X x) (hm : X.mg x = some (.ref C)) (hx : ∀ σ, PassesAt CX X σ (ES σ)) (hdb : (x == ("__debug__" : Str)) = false := by decide) :
    PE X (.Call (.Name x p) [] [] pos) (fun σ H Q => tMakeW C sp (ES σ) H Q [] []) := by
  refine ⟨fun pins s σ H Q I h => ?_⟩
  refine wpAny_Call_Name_kw (ld_glob I hg hm ?_ hdb)
  exact PySem.W.callWith_K0 I.kIn M.kp (run_makeV (ks := []) (ws := []) (zs := []) (us := []) (vs := []) M F hr (hx σ) I .nil .nil rfl h)
/-- C(*e, k=e) -/
theorem pe_makeVS (M : Mk X.K C f) (F : FnKW X.prog X.w X.K X.mg X.base CX k f ks sp) (hr : Room (k + 1) X.A) (hg : Gl X x) (hm : X.mg x = some (.ref C)) (hx : ∀ σ, PassesAt CX X σ (ES σ)) (he : PE X e te) (hkw : PK X kws tk)
    (hall : (backToKw pos (keywordEach kws X.env)).all (·.1.isSome) = true := by rfl) (hks : (backToKw pos (keywordEach kws X.env)).filterMap (·.1) = ks := by rfl) (hdb : (x == ("__debug__" : Str)) = false := by decide)
    (hst : starEach [.Starred e sp_] X.env = [(true, eval e X.env)] := by rfl) :
    PE X (.Call (.Name x p) [.Starred e sp_] kws pos) (fun σ H Q => te σ H fun y H1 => ∃ a xs, y = V.ref a ∧ tk σ H1 fun zs H2 => (SqT X.K H2 a xs ∨ SqL X.K H2 a xs) ∧ zs.length = ks.length ∧ tMakeW C sp (ES σ) H2 Q xs zs) := by
  refine ⟨fun pins s σ H Q I h => ?_⟩
  refine wpAny_Call_Name_kw (ld_glob I hg hm ?_ hdb)
  rw [hst]
  refine call_starKK (K := X.K) rfl M.kp (args_starK hall (thn (he.run pins s σ H _ I h) fun v s1 ⟨y, H1, I1, ry, a, xs, ey, q⟩ => ?_))
  subst ey
  obtain rfl : v = Value.ref a := ry
  refine thn (hkw.run pos pins s1 σ H1 _ I1 q) fun ws s2 ⟨zs, H2, I2, rz, hxs, l2, q2⟩ => ?_
  refine StX.star_any I2 hxs fun us s3 I3 rv => ⟨I3.kIn, ?_⟩
  rw [hks]
  exact run_makeV M F hr (hx σ) I3 rv rz l2 q2
end
end My
set_option Elab.async false
set_option linter.all false
set_option maxRecDepth 100000
set_option maxHeartbeats 4000000
set_option exponentiation.threshold 5000
namespace My
open PySem PySem.Spec PyProof.Rows L2 Evl
local macro_rules | `(tactic| walk_at "st") => `(tactic| simp only [L2.start, List.map_cons, List.map_nil, List.length_cons, List.length_nil, Nat.reduceAdd, Nat.reduceSub, List.replicate_succ, List.replicate_zero, List.cons_append, List.nil_append, cxOf, List.append_nil])
local macro_rules | `(tactic| walk_at "vc") => `(tactic| try simp only [tSeq, tAsg, tOp, tUn, tVar, tC, tNil, tCons, gName, rI, rI0, rU, tRet, tIfS, tNot, tAnd, tOr, tB, tTest, tCB, tCall, tAndV, tOrV, tNotV, tNext, tNever, tIf, tChain, tYes, tPart, tNoPart, tPar, tDrop, q_isi, q_vn, q_vb, q_vi, q_vs, kb1, kb2, kb3, kb4, kb5, kb6, kb7, kb8, q_int1, q_int2, q_min, q_max, q_repr, tLst, tTup, rEq, rNe, q_sii, q_sss, q_sbb, q_snn, q_sns, q_ssn, q_ix, q_sl, tSl, tBM, tBM0, q_app, q_pop, gSub, rSetL, L2.wipe, eq_self, decide_true, decide_false, tRevL,
  List.getElem?_cons_succ, List.getElem?_cons_zero, List.set_cons_succ, List.set_cons_zero, Option.some.injEq, exists_eq_left', exists_eq_left, V.int.injEq, V.bl.injEq, V.ref.injEq, V.str.injEq, List.cons.injEq, and_true, true_and, List.append_nil, List.nil_append, List.cons_append, exists_and_left, and_assoc, if_true, if_false, Bool.not_true, Bool.not_false, Bool.false_eq_true, Bool.true_eq_false, reduceIte, tRevL, tPar3, tRevT, tUnl, tCKw, forall_const, Bool.not_eq_true', decide_eq_true_eq, decide_eq_false_iff_not])
section
variable {P : Program} {w : World} {K : PySem.W.Frag} {mg : Str → Option Value} {base : Heap}
variable {a_is_integer a_is_number a_is_base a_is_name a_are_rows a_needed a_fits a_is_of a_inner a_flat a_names_in a_bare a_named a_number_of a_joined a_result a_holding a_written a_part a_of_one a_of_two a_power a_run a_came_to a_holds a_law_deal a_law_draw a_law_pick a_law_words a_law_ask_of a_law_row_of a_law_told a_law a_Stopped_init a_Put_init a_If_init a_Times_init a_Ask_init a_Not_init a_Program_init a_Program_call a_Walk_init a_Walk_go a_Walk_do a_Walk_put a_Walk_decide a_Walk_choose a_InvalidBase a_Stopped a_FigureError a_InvalidNumber a_Put a_If a_Times a_Stop a_Ask a_Not a_Row a_Test a_Program a_Walk a_DEEDS a_SIGNS a_WORDS a_If_init_d0 a_Program_init_d0 : Addr} {d_is_integer d_is_number d_is_base d_is_name d_are_rows d_needed d_fits d_is_of d_inner d_flat d_names_in d_bare d_named d_number_of d_joined d_result d_holding d_written d_part d_of_one d_of_two d_power d_run d_came_to d_holds d_law_deal d_law_draw d_law_pick d_law_words d_law_ask_of d_law_row_of d_law_told d_law d_Stopped_init d_Put_init d_If_init d_Times_init d_Ask_init d_Not_init d_Program_init d_Program_call d_Walk_init d_Walk_go d_Walk_do d_Walk_put d_Walk_decide d_Walk_choose : FuncData}
def sp_Walk_do (K : PySem.W.Frag) (A : ClsA) (CW CS : Addr) : Sp
  | [w, v, .int at_], H, Q, E => ∃ G b dh dc ns f cs r o, WkS CW G H w (.int b) dh dc ns f cs ∧ RowO K A G r v ∧ rowN ns r ∧ stepM b r f = some o ∧ ns.length ≤ 100 ∧
      (∀ g, o = some g → ∀ H', WkS CW G H' w (.int b) dh dc ns g cs → Q .non H') ∧ (o = none → ∀ H' e, WkS CW G H' w (.int b) dh dc ns f cs → H' e = none → E (.ref CS) (some e) (upd H' e (.xd [("at", .int at_)])))
  | _, _, _, _ => False
theorem ok_Walk_do (T : Txt w K mg a_is_integer a_is_number a_is_base a_is_name a_are_rows a_needed a_fits a_is_of a_inner a_flat a_names_in a_bare a_named a_number_of a_joined a_result a_holding a_written a_part a_of_one a_of_two a_power a_run a_came_to a_holds a_law_deal a_law_draw a_law_pick a_law_words a_law_ask_of a_law_row_of a_law_told a_law a_Stopped_init a_Put_init a_If_init a_Times_init a_Ask_init a_Not_init a_Program_init a_Program_call a_Walk_init a_Walk_go a_Walk_do a_Walk_put a_Walk_decide a_Walk_choose a_InvalidBase a_Stopped a_FigureError a_InvalidNumber a_Put a_If a_Times a_Stop a_Ask a_Not a_Row a_Test a_Program a_Walk a_DEEDS a_SIGNS a_WORDS a_If_init_d0 a_Program_init_d0 d_is_integer d_is_number d_is_base d_is_name d_are_rows d_needed d_fits d_is_of d_inner d_flat d_names_in d_bare d_named d_number_of d_joined d_result d_holding d_written d_part d_of_one d_of_two d_power d_run d_came_to d_holds d_law_deal d_law_draw d_law_pick d_law_words d_law_ask_of d_law_row_of d_law_told d_law d_Stopped_init d_Put_init d_If_init d_Times_init d_Ask_init d_Not_init d_Program_init d_Program_call d_Walk_init d_Walk_go d_Walk_do d_Walk_put d_Walk_decide d_Walk_choose) : FnR P w K mg base (L2.CX P w) 10 a_Walk_do (sp_Walk_do K ⟨a_Put, a_If, a_Times, a_Stop, a_Ask, a_Not⟩ a_Walk a_Stopped) := by
  have G_Walk_put := ok_Walk_put (P := P) (w := w) (base := base) T
  have G_Walk_go : FnR P w K mg base (L2.CX P w) 2 a_Walk_go spNo := ((fnNo (CX := L2.CX P w) (n := 2) (a := a_Walk_go) (d := d_Walk_go) (ps := ["self", "rows", "at"])).raw T.b_Walk_go .nil).imp fun vs H Q E h => h.elim
  have G_Walk_choose : FnR P w K mg base (L2.CX P w) 2 a_Walk_choose spNo := ((fnNo (CX := L2.CX P w) (n := 2) (a := a_Walk_choose) (d := d_Walk_choose) (ps := ["self", "row", "at"])).raw T.b_Walk_choose .nil).imp fun vs H Q E h => h.elim
  have G_Stopped_init := ok_Stopped_init (P := P) (w := w) (base := base) T
  have F : FnOk P w K mg base (L2.CX P w) 10 a_Walk_do d_Walk_do ["self", "row", "at"] (sp_Walk_do K ⟨a_Put, a_If, a_Times, a_Stop, a_Ask, a_Not⟩ a_Walk a_Stopped) := by
    refine T.F_Walk_do.okX sc_Walk_do (fun vs H Q E h => ?_) (fun cdv A outer s H vs Q E hr h => ?_)
    · unfold sp_Walk_do at h; split at h; rfl; exact h.elim
    unfold sp_Walk_do at h; split at h
    case h_2 => exact h.elim
    rename_i w v at_
    obtain ⟨G, b, dh, dc, ns, f, cs, r, o, S, hO, hN, ho, nl, q1, q2⟩ := h
    refine ⟨_, (pss_cons (ps_if (pt_val (pe_callB (call_isiK (K := K)) (by rfl) T.z_isinstance (by decide +kernel) (pa_cons (pv 1) (pa_cons (pe_glob (v := .ref a_Stop) (by rfl) T.g_Stop rfl) pa_nil))))
      (pss_one (ps_raise rfl (takes_of rfl rfl rfl rfl) (pmk_any T.E_Stopped G_Stopped_init (hr.mono (by omega)) T.b_Stopped_init .nil pass0 (by rfl) (pa_cons (pv 2) pa_nil))))
      pss_nil)
      (pss_one (ps_if (pt_val (pe_callB (call_isiK (K := K)) (by rfl) T.z_isinstance (by decide +kernel) (pa_cons (pv 1) (pa_cons (pe_glob (v := .ref a_Put) (by rfl) T.g_Put rfl) pa_nil))))
      (pss_one (ps_expr (pe_methS2 (pv 0) T.oc_Walk.cl T.mm_Walk_put G_Walk_put (hr.mono (by omega)) (fun σ => passAt (takes_of rfl rfl rfl rfl) σ) (pa_cons (pv 1) (pa_cons (pv 2) pa_nil)))))
      (pss_one (ps_if (pt_val (pe_callB (call_isiK (K := K)) (by rfl) T.z_isinstance (by decide +kernel) (pa_cons (pv 1) (pa_cons (pe_glob (v := .ref a_Times) (by rfl) T.g_Times rfl) pa_nil))))
      (pss_one (ps_for (passes_of rfl) rfl (pi_range1 (by rfl) T.z_range (pa_cons (pe_fld (pv 1) (by rfl)) pa_nil)) (pg_name (i := 3) sc_Walk_do.nd rfl (by first | exact .inl rfl | exact .inr rfl))
      (pss_one (ps_expr (pe_methS2 (pv 0) T.oc_Walk.cl T.mm_Walk_go G_Walk_go (hr.mono (by omega)) (fun σ => passAt (takes_of rfl rfl rfl rfl) σ) (pa_cons (pe_fld (pv 1) (by rfl)) (pa_cons (pe_op op_add (pv 2) pe_int) pa_nil)))))))
      (pss_one (ps_if (pt_val (pe_callB (call_isiK (K := K)) (by rfl) T.z_isinstance (by decide +kernel) (pa_cons (pv 1) (pa_cons (pe_glob (v := .ref a_If) (by rfl) T.g_If rfl) pa_nil))))
      (pss_one (ps_expr (pe_methS2 (pv 0) T.oc_Walk.cl T.mm_Walk_choose G_Walk_choose (hr.mono (by omega)) (fun σ => passAt (takes_of rfl rfl rfl rfl) σ) (pa_cons (pv 1) (pa_cons (pv 2) pa_nil)))))
      pss_nil))))))), ?_⟩
    walk_at "st"
    walk_at "vc"
    have hO' := hO.ex S.g
    cases r with
    | stop =>
      refine isClsR T 3 true (by decide) rfl hO' fun _ _ _ _ _ _ _ _ => ⟨true, rfl, ?_⟩
      rw [if_pos rfl]
      have ho := Option.some.inj ho
      exact ⟨_, rfl, mkErrR T.E_Stopped fun e he => q2 ho.symm H e S he⟩
    | put n d g =>
      refine isClsR T 3 false (by decide) rfl hO' fun _ _ _ _ _ _ _ _ => ⟨false, rfl, ?_⟩
      rw [if_neg (by decide)]
      refine isClsR T 0 true (by decide) rfl hO' fun _ _ _ _ _ _ _ _ => ⟨true, rfl, ?_⟩
      rw [if_pos rfl]
      obtain ⟨o2, h2, rfl⟩ := Option.map_eq_some_iff.mp ho
      obtain ⟨a, dx, rfl, ha⟩ := S.ob
      refine ⟨_, rfl, a, dx, _, rfl, S.g _ _ ha, rfl, _, rfl, _, rfl, G, b, dh, dc, ns, f, cs, n, d, g, o2, S, hO, hN, h2, nl, fun i e H' S' => q1 _ (by rw [e]; rfl) H' S', fun e H' x S' hx => q2 (by rw [e]; rfl) H' x S' hx⟩
    | _ => cases ho
  exact (F.raw T.b_Walk_do .nil).imp fun vs H Q E h => by rw [List.append_nil]; exact h
theorem addI_range {cs : List Int} {at_ : Int} {i : Nat} (h : ∀ z, z ∈ cs ↔ (at_ ≤ z ∧ z < at_ + i)) (z : Int) : z ∈ addI cs (at_ + i) ↔ (at_ ≤ z ∧ z < at_ + (i + 1 : Nat)) := by
  rw [addI_mem, h]
  constructor
  · rintro (h | h) <;> omega
  · intro h; omega
theorem rows_plain {ns : List Str} {r : RowM} (h : rowN ns r) : r.dep = 0 ∧ r.cnt = 1 := by
  cases r with
  | put => exact ⟨rfl, rfl⟩
  | stop => exact ⟨rfl, rfl⟩
  | _ => exact h.elim
/-- rows that stop at the k-th -/
def sp_Walk_go (K : PySem.W.Frag) (A : ClsA) (CW CS : Addr) : Sp
  | [w, .ref p, .int at_], H, Q, E => ∃ G b dh dc ns f rs vs k, WkS CW G H w (.int b) dh dc ns f [] ∧ SqT K G p vs ∧ RowOs K A G rs vs ∧ (∀ r ∈ rs, rowN ns r) ∧ stopsAt b rs f k ∧ ns.length ≤ 100 ∧ rs.length ≤ 100 ∧
      ∀ H' e f' cs, WkS CW G H' w (.int b) dh dc ns f' cs → (∀ z : Int, z ∈ cs ↔ at_ ≤ z ∧ z < at_ + (k + 1 : Nat)) → H' e = none → E (.ref CS) (some e) (upd H' e (.xd [("at", .int (at_ + k))]))
  | _, _, _, _ => False
theorem ok_Walk_go (T : Txt w K mg a_is_integer a_is_number a_is_base a_is_name a_are_rows a_needed a_fits a_is_of a_inner a_flat a_names_in a_bare a_named a_number_of a_joined a_result a_holding a_written a_part a_of_one a_of_two a_power a_run a_came_to a_holds a_law_deal a_law_draw a_law_pick a_law_words a_law_ask_of a_law_row_of a_law_told a_law a_Stopped_init a_Put_init a_If_init a_Times_init a_Ask_init a_Not_init a_Program_init a_Program_call a_Walk_init a_Walk_go a_Walk_do a_Walk_put a_Walk_decide a_Walk_choose a_InvalidBase a_Stopped a_FigureError a_InvalidNumber a_Put a_If a_Times a_Stop a_Ask a_Not a_Row a_Test a_Program a_Walk a_DEEDS a_SIGNS a_WORDS a_If_init_d0 a_Program_init_d0 d_is_integer d_is_number d_is_base d_is_name d_are_rows d_needed d_fits d_is_of d_inner d_flat d_names_in d_bare d_named d_number_of d_joined d_result d_holding d_written d_part d_of_one d_of_two d_power d_run d_came_to d_holds d_law_deal d_law_draw d_law_pick d_law_words d_law_ask_of d_law_row_of d_law_told d_law d_Stopped_init d_Put_init d_If_init d_Times_init d_Ask_init d_Not_init d_Program_init d_Program_call d_Walk_init d_Walk_go d_Walk_do d_Walk_put d_Walk_decide d_Walk_choose) : FnR P w K mg base (L2.CX P w) 15 a_Walk_go (sp_Walk_go K ⟨a_Put, a_If, a_Times, a_Stop, a_Ask, a_Not⟩ a_Walk a_Stopped) := by
  have G_Walk_do := ok_Walk_do (P := P) (w := w) (base := base) T
  have G_flat := ok_flat (P := P) (w := w) (base := base) T 2 (by omega)
  have F : FnOk P w K mg base (L2.CX P w) 15 a_Walk_go d_Walk_go ["self", "rows", "at"] (sp_Walk_go K ⟨a_Put, a_If, a_Times, a_Stop, a_Ask, a_Not⟩ a_Walk a_Stopped) := by
    refine T.F_Walk_go.okX sc_Walk_go (fun vs H Q E h => ?_) (fun cdv A outer s H vs Q E hr h => ?_)
    · unfold sp_Walk_go at h; split at h; rfl; exact h.elim
    unfold sp_Walk_go at h; split at h
    case h_2 => exact h.elim
    rename_i w p at_
    obtain ⟨G, b, dh, dc, ns, f, rs, vs, k, S, hp, hO, hN, hs, nl, rl, q⟩ := h
    obtain ⟨a, dx, rfl, ha⟩ := S.ob
    refine ⟨_, (pss_one (ps_for (passes_of rfl) rfl (pi_tup (pv 1)) (pg_name (i := 3) sc_Walk_go.nd rfl (by first | exact .inl rfl | exact .inr rfl))
      (pss_cons (ps_dput (un1 hr.units) (pe_fld (pv 0) (by rfl)) (pv 2) pe_bl rfl)
      (pss_cons (ps_expr (pe_methS2 (pv 0) T.oc_Walk.cl T.mm_Walk_do G_Walk_do (hr.mono (by omega)) (fun σ => passAt (takes_of rfl rfl rfl rfl) σ) (pa_cons (pv 3) (pa_cons (pv 2) pa_nil))))
      (pss_one (ps_set (i := 2) sc_Walk_go.nd rfl (by first | exact .inl rfl | exact .inr rfl) (pe_op op_add (pv 2) (pe_callB call_len_seq (by rfl) T.z_len (by decide +kernel) (pa_cons (pe_call G_flat (hr.mono (by omega)) (by rfl) T.g_flat T.F_flat.kp T.b_flat .nil pass0 (pa_cons (pe_lst (pa_cons (pv 3) pa_nil)) pa_nil)) pa_nil))))))))), ?_⟩
    walk_at "st"
    have vl := hO.len
    refine ⟨_, rfl, p, rfl, ⟨_, (Kp.of_ex S.g).sqt hp⟩, for_tup (xs := vs) (fun i σ H' => ∃ (f' : Str → Int) (cs : List Int) (x : Option V), σ = [some (.ref a), some (.ref p), some (.int (at_ + i)), x] ∧ WkS a_Walk G H' (.ref a) (.int b) dh dc ns f' cs ∧ stopsAt b (rs.drop i) f' (k - i) ∧ i ≤ k ∧ (∀ z : Int, z ∈ cs ↔ at_ ≤ z ∧ z < at_ + i) ∧ cs.length ≤ i) ⟨f, [], none, by rw [Int.natCast_zero, Int.add_zero], S, by rw [List.drop_zero, Nat.sub_zero]; exact hs, Nat.zero_le _, fun z => by simp, Nat.zero_le _⟩ (fun i σ H' _ hw => ?_) (fun i v σ H' hv hw => ?_) (fun σ H' hw => ?_)⟩
    · obtain ⟨f', cs, x, rfl, S', _⟩ := hw
      exact (Kp.of_ex S'.g).sqt hp
    · obtain ⟨f', cs, x, rfl, S', hs', ik, hcs, cl⟩ := hw
      obtain ⟨r, hr, hOr⟩ := hO.at_ hv
      have hdr : rs.drop i = r :: rs.drop (i + 1) := by
        obtain ⟨hi, e⟩ := List.getElem?_eq_some_iff.mp hr
        rw [List.drop_eq_getElem_cons hi, e]
      rw [hdr] at hs'
      have hNr := hN r (List.mem_of_getElem? hr)
      walk_at "vc"
      have ha' := S'.g _ _ ha
      have il : i < rs.length := by have := (List.getElem?_eq_some_iff.mp hr).1; exact this
      have S2 := S'.came (i := at_ + i)
      have c2 := addI_range hcs
      have cl2 := addI_len cs (at_ + i)
      refine ⟨_, rfl, a, a_Walk, dx, _, .ref dc, rfl, ha', T.oc_Walk.cl, T.nF_Walk_came, rfl, _, rfl, dc, _, rfl, DPut.k (k := .inl (at_ + i)) S'.cm (sz_lt (by rw [asI_len]; omega)), ?_⟩
      by_cases hk : i = k
      · subst hk
        rw [Nat.sub_self] at hs'
        refine ⟨_, rfl, a, dx, _, rfl, S2.g _ _ ha, rfl, _, rfl, _, rfl, G, b, dh, dc, ns, f', _, r, none, S2, hOr, hNr, hs', nl, (fun g e => (by cases e)), fun _ H3 e S3 he => q H3 e f' _ S3 c2 he⟩
      · rw [show k - i = (k - (i + 1)) + 1 by omega] at hs'
        obtain ⟨g, hg, hs2⟩ := hs'
        refine ⟨_, rfl, a, dx, _, rfl, S2.g _ _ ha, rfl, _, rfl, _, rfl, G, b, dh, dc, ns, f', _, r, some g, S2, hOr, hNr, hg, nl, fun g' e H3 S3 => ?_, fun e => (by cases e)⟩
        cases e
        walk_at "vc"
        refine ⟨sz_le (by simp), fun p1 h1 => ?_⟩
        have e4 := Ex.new h1 (o := .lst [v])
        obtain ⟨rd, rc⟩ := rows_plain hNr
        refine ⟨[r], [v], .inl upd_same, RowOs.one (hOr.ex (S3.g.trans e4)), .inl (by simp only [RowM.deps]; omega), by simp only [RowM.cnts]; omega, fun D ws H4 e5 _ hD hw => ⟨D, rfl, ws, .inl (sq_of hD), ?_⟩⟩
        have wl : ws.length = 1 := by rw [hw.len, flats_len]; simp only [RowM.cnts]; omega
        exact ⟨by rw [wl]; omega, g, _, S3.ex (e4.trans e5), hs2, by omega, c2, by omega⟩
    · obtain ⟨f', cs, x, rfl, S', hs', _⟩ := hw
      rw [List.drop_eq_nil_of_le (by omega)] at hs'
      exact hs'.elim
  exact (F.raw T.b_Walk_go .nil).imp fun vs H Q E h => by rw [List.append_nil]; exact h
/-- what happens with a program: it stops, or the base is none -/
structure StopR (ns : List Str) (rs : List RowM) (b : Int) (k : Nat) : Prop where
  b2 : 2 ≤ b
  st : stopsAt b rs (fun _ => 0) k
  rn : ∀ r ∈ rs, rowN ns r
def sp_run (K : PySem.W.Frag) (A : ClsA) (CP CS CB : Addr) : Sp
  | [v, u], H, Q, E => ∃ rs vs, ProgO K A CP H rs vs v ∧ RowM.cnts rs ≤ 20 ∧
      ((∃ b k, u = .int b ∧ (∀ ys, NmOf (RowM.nmss rs) ys → StopR ys rs b k) ∧ ToldA CS "at" (.int k) E H) ∨ (BaseV K CP H u false ∧ ∀ H', Ex H H' → E (.ref CB) none H'))
  | _, _, _, _ => False
theorem ProgO.ex {A : ClsA} {CP : Addr} {H H' : Hp} {rs : List RowM} {vs : List V} {v : V} (e : Ex H H') (h : ProgO K A CP H rs vs v) : ProgO K A CP H' rs vs v := by
  obtain ⟨a, dx, q, n, ys, rfl, h1, h2, h3, h4, h5⟩ := h
  exact ⟨a, dx, q, n, ys, rfl, e _ _ h1, (Kp.of_ex e).sqt h2, h3.ex e, (Kp.of_ex e).sqt h4, h5⟩
theorem vty_ex {H H' : Hp} {v : V} (e : Ex H H') (h : kindOk (vty H v) = true) : vty H' v = vty H v := by
  cases v with
  | ref a =>
    cases h1 : H a with
    | none => simp only [vty, h1] at h; cases h
    | some o => simp only [vty, h1, e _ _ h1]
  | _ => rfl
theorem BaseV.ex {CP : Addr} {H H' : Hp} {v : V} {b : Bool} (e : Ex H H') (h : BaseV K CP H v b) : BaseV K CP H' v b := by
  rcases h with ⟨h, k⟩ | ⟨a, dx, fs, rfl, h, k⟩
  · exact .inl ⟨by rw [vty_ex e h]; exact h, k⟩
  · exact .inr ⟨a, dx, fs, rfl, e _ _ h, k⟩
/-- a walk that is made -/
theorem mkWalk {CW CP CB : Addr} {H : Hp} {n x dx : Addr} {ns : List Str} {u : V} {b : Bool} {R : Hp → Prop} {E : XK} (hn : SqT K H n (ns.map V.str)) (nd : ns.Nodup) (nl : ns.length ≤ 100) (hb : BaseV K CP H u b) (hx : H x = none) (hd : H dx = none) (hne : dx ≠ x)
    (qb : b = false → ∀ H', Ex H H' → E (.ref CB) none H') (q : b = true → ∀ G H' dh dc, Ex H G → WkS CW G H' (.ref x) u dh dc ns (fun _ => 0) [] → R H') :
    sp_Walk_init K CW CP CB [.ref x, .ref n, u] (upd (upd H dx (.own x)) x (.ins CW dx [])) (fun v H2 => v = .non ∧ R H2) E := by
  have e1 : Ex H (upd H dx (.own x)) := Ex.new hd
  have hx1 : upd H dx (.own x) x = none := by rw [upd_ne hne.symm]; exact hx
  have e2 : Ex H (upd (upd H dx (.own x)) x (.ins CW dx [])) := e1.trans (Ex.new hx1)
  refine ⟨dx, ns, b, upd_same, (Kp.of_ex e2).sqt hn, nd, nl, hb.ex e2, fun c H' dh dc el g1 g2 g3 g4 g5 g6 => ⟨rfl, ?_⟩, fun c H' e => qb c H' (e2.trans e)⟩
  have nx1 : x ≠ dh := fun e => by rw [← e, upd_same] at g4; cases g4
  have nx2 : x ≠ dc := fun e => by rw [← e, upd_same] at g5; cases g5
  refine q c (delL (delL H' dh) dc) H' dh dc (fun y o hy => ?_) ⟨fun y o hy => ?_, ?_, delL_same, g6, ⟨x, dx, rfl, by rw [delL_ne nx2, delL_ne nx1]; exact g1⟩, g2, g3⟩
  · have n1 : y ≠ x := fun e => by rw [e, hx] at hy; cases hy
    have n2 : y ≠ dh := fun e => by have := e2 _ _ hy; rw [e, g4] at this; cases this
    have n3 : y ≠ dc := fun e => by have := e2 _ _ hy; rw [e, g5] at this; cases this
    rw [delL_ne n3, delL_ne n2]
    exact el _ _ n1 (e2 _ _ hy)
  · by_cases n3 : y = dc
    · rw [n3, delL_same] at hy; cases hy
    rw [delL_ne n3] at hy
    by_cases n2 : y = dh
    · rw [n2, delL_same] at hy; cases hy
    rwa [delL_ne n2] at hy
  · rw [delL_ne g6, delL_same]
theorem ok_run (T : Txt w K mg a_is_integer a_is_number a_is_base a_is_name a_are_rows a_needed a_fits a_is_of a_inner a_flat a_names_in a_bare a_named a_number_of a_joined a_result a_holding a_written a_part a_of_one a_of_two a_power a_run a_came_to a_holds a_law_deal a_law_draw a_law_pick a_law_words a_law_ask_of a_law_row_of a_law_told a_law a_Stopped_init a_Put_init a_If_init a_Times_init a_Ask_init a_Not_init a_Program_init a_Program_call a_Walk_init a_Walk_go a_Walk_do a_Walk_put a_Walk_decide a_Walk_choose a_InvalidBase a_Stopped a_FigureError a_InvalidNumber a_Put a_If a_Times a_Stop a_Ask a_Not a_Row a_Test a_Program a_Walk a_DEEDS a_SIGNS a_WORDS a_If_init_d0 a_Program_init_d0 d_is_integer d_is_number d_is_base d_is_name d_are_rows d_needed d_fits d_is_of d_inner d_flat d_names_in d_bare d_named d_number_of d_joined d_result d_holding d_written d_part d_of_one d_of_two d_power d_run d_came_to d_holds d_law_deal d_law_draw d_law_pick d_law_words d_law_ask_of d_law_row_of d_law_told d_law d_Stopped_init d_Put_init d_If_init d_Times_init d_Ask_init d_Not_init d_Program_init d_Program_call d_Walk_init d_Walk_go d_Walk_do d_Walk_put d_Walk_decide d_Walk_choose) : FnOk P w K mg base (L2.CX P w) 20 a_run d_run ["program", "base"] (sp_run K ⟨a_Put, a_If, a_Times, a_Stop, a_Ask, a_Not⟩ a_Program a_Stopped a_InvalidBase) := by
  have G_Walk_init := ok_Walk_init (P := P) (w := w) (base := base) T
  have G_Walk_go := ok_Walk_go (P := P) (w := w) (base := base) T
  refine T.F_run.okX sc_run (fun vs H Q E h => ?_) (fun cdv A outer s H vs Q E hr h => ?_)
  · unfold sp_run at h; split at h; rfl; exact h.elim
  unfold sp_run at h; split at h
  case h_2 => exact h.elim
  rename_i v u
  obtain ⟨rs, vs, hP, rc, h⟩ := h
  refine ⟨_, (pss_cons (ps_set (i := 2) sc_run.nd rfl (by first | exact .inl rfl | exact .inr rfl) (pe_makeS T.M_Walk G_Walk_init (hr.mono (by omega)) (by rfl) T.g_Walk (fun σ => passAt (takes_of rfl rfl rfl rfl) σ) (pa_cons (pe_fld (pv 0) (by rfl)) (pa_cons (pv 1) pa_nil))))
      (pss_cons (ps_expr (pe_methS2 (pv 2) T.oc_Walk.cl T.mm_Walk_go G_Walk_go (hr.mono (by omega)) (fun σ => passAt (takes_of rfl rfl rfl rfl) σ) (pa_cons (pe_fld (pv 0) (by rfl)) (pa_cons pe_int pa_nil))))
      (pss_one (ps_ret (pe_fld (pv 2) (by rfl)))))), ?_⟩
  walk_at "st"
  walk_at "vc"
  obtain ⟨a, dx, q0, n, ys, rfl, hp, hq, hOs, hn, hN, hyl⟩ := id hP
  have hnd : ys.Nodup := hN.2.1
  refine ⟨_, rfl, a, _, dx, _, .ref n, rfl, hp, T.oc_Program.cl, T.nF_Program_names, rfl, _, rfl, fun x dx2 hx hd hne => ?_⟩
  rcases h with ⟨b, k, rfl, hst, ht⟩ | ⟨hb, ht⟩
  · have hS := hst ys hN
    have b2 := hS.b2
    refine mkWalk hn hnd (by omega) (u := .int b) (b := true) (.inl ⟨rfl, by simp [isInt, b2]⟩) hx hd hne (fun h => by cases h) fun _ G H' dh dc eG S => ?_
    obtain ⟨a2, dx3, e, ha2⟩ := S.ob
    cases e
    have rl := cnts_len rs
    exact ⟨_, rfl, x, dx3, _, rfl, S.g _ _ ha2, rfl, fld_B rfl ((eG.trans S.g) _ _ hp) T.oc_Program.cl T.nF_Program_rows rfl ⟨G, b, dh, dc, ys, _, rs, vs, k, S, (Kp.of_ex eG).sqt hq, hOs.ex eG, hS.rn, hS.st, by omega, by omega, fun H2 e f' cs S2 _ he => by rw [Int.zero_add]; exact ht H2 e (eG.trans S2.g) he⟩⟩
  · exact mkWalk hn hnd (by omega) hb hx hd hne (fun _ => ht) (fun h => by cases h)
theorem cO_Program (T : Txt w K mg a_is_integer a_is_number a_is_base a_is_name a_are_rows a_needed a_fits a_is_of a_inner a_flat a_names_in a_bare a_named a_number_of a_joined a_result a_holding a_written a_part a_of_one a_of_two a_power a_run a_came_to a_holds a_law_deal a_law_draw a_law_pick a_law_words a_law_ask_of a_law_row_of a_law_told a_law a_Stopped_init a_Put_init a_If_init a_Times_init a_Ask_init a_Not_init a_Program_init a_Program_call a_Walk_init a_Walk_go a_Walk_do a_Walk_put a_Walk_decide a_Walk_choose a_InvalidBase a_Stopped a_FigureError a_InvalidNumber a_Put a_If a_Times a_Stop a_Ask a_Not a_Row a_Test a_Program a_Walk a_DEEDS a_SIGNS a_WORDS a_If_init_d0 a_Program_init_d0 d_is_integer d_is_number d_is_base d_is_name d_are_rows d_needed d_fits d_is_of d_inner d_flat d_names_in d_bare d_named d_number_of d_joined d_result d_holding d_written d_part d_of_one d_of_two d_power d_run d_came_to d_holds d_law_deal d_law_draw d_law_pick d_law_words d_law_ask_of d_law_row_of d_law_told d_law d_Stopped_init d_Put_init d_If_init d_Times_init d_Ask_init d_Not_init d_Program_init d_Program_call d_Walk_init d_Walk_go d_Walk_do d_Walk_put d_Walk_decide d_Walk_choose) : StX.CallO K a_Program a_Program_call := callO_of T.mt_Program_call T.F_Program_call
theorem ok_Program_call (T : Txt w K mg a_is_integer a_is_number a_is_base a_is_name a_are_rows a_needed a_fits a_is_of a_inner a_flat a_names_in a_bare a_named a_number_of a_joined a_result a_holding a_written a_part a_of_one a_of_two a_power a_run a_came_to a_holds a_law_deal a_law_draw a_law_pick a_law_words a_law_ask_of a_law_row_of a_law_told a_law a_Stopped_init a_Put_init a_If_init a_Times_init a_Ask_init a_Not_init a_Program_init a_Program_call a_Walk_init a_Walk_go a_Walk_do a_Walk_put a_Walk_decide a_Walk_choose a_InvalidBase a_Stopped a_FigureError a_InvalidNumber a_Put a_If a_Times a_Stop a_Ask a_Not a_Row a_Test a_Program a_Walk a_DEEDS a_SIGNS a_WORDS a_If_init_d0 a_Program_init_d0 d_is_integer d_is_number d_is_base d_is_name d_are_rows d_needed d_fits d_is_of d_inner d_flat d_names_in d_bare d_named d_number_of d_joined d_result d_holding d_written d_part d_of_one d_of_two d_power d_run d_came_to d_holds d_law_deal d_law_draw d_law_pick d_law_words d_law_ask_of d_law_row_of d_law_told d_law d_Stopped_init d_Put_init d_If_init d_Times_init d_Ask_init d_Not_init d_Program_init d_Program_call d_Walk_init d_Walk_go d_Walk_do d_Walk_put d_Walk_decide d_Walk_choose) : FnR P w K mg base (L2.CX P w) 25 a_Program_call (sp_run K ⟨a_Put, a_If, a_Times, a_Stop, a_Ask, a_Not⟩ a_Program a_Stopped a_InvalidBase) := by
  have G_run := ok_run (P := P) (w := w) (base := base) T
  have F : FnOk P w K mg base (L2.CX P w) 25 a_Program_call d_Program_call ["self", "base"] (sp_run K ⟨a_Put, a_If, a_Times, a_Stop, a_Ask, a_Not⟩ a_Program a_Stopped a_InvalidBase) := by
    refine T.F_Program_call.okX sc_Program_call (fun vs H Q E h => ?_) (fun cdv A outer s H vs Q E hr h => ?_)
    · unfold sp_run at h; split at h; rfl; exact h.elim
    refine ⟨_, (pss_one (ps_ret (pe_callS G_run (hr.mono (by omega)) (by rfl) T.g_run T.F_run.kp T.b_run (fun σ => passAt (takes_of rfl rfl rfl rfl) σ) (pa_cons (pv 0) (pa_cons (pv 1) pa_nil))))), ?_⟩
    unfold sp_run at h; split at h
    case h_2 => exact h.elim
    rename_i v u
    walk_at "st"
    walk_at "vc"
    exact ⟨_, rfl, _, rfl, h⟩
  exact (F.raw T.b_Program_call .nil).imp fun vs H Q E h => by rw [List.append_nil]; exact h
def sp_holds (K : PySem.W.Frag) (A : ClsA) (CP CS CB : Addr) : Sp
  | [v, u, _], H, Q, E => sp_run K A CP CS CB [v, u] H Q E
  | _, _, _, _ => False
theorem ok_holds (T : Txt w K mg a_is_integer a_is_number a_is_base a_is_name a_are_rows a_needed a_fits a_is_of a_inner a_flat a_names_in a_bare a_named a_number_of a_joined a_result a_holding a_written a_part a_of_one a_of_two a_power a_run a_came_to a_holds a_law_deal a_law_draw a_law_pick a_law_words a_law_ask_of a_law_row_of a_law_told a_law a_Stopped_init a_Put_init a_If_init a_Times_init a_Ask_init a_Not_init a_Program_init a_Program_call a_Walk_init a_Walk_go a_Walk_do a_Walk_put a_Walk_decide a_Walk_choose a_InvalidBase a_Stopped a_FigureError a_InvalidNumber a_Put a_If a_Times a_Stop a_Ask a_Not a_Row a_Test a_Program a_Walk a_DEEDS a_SIGNS a_WORDS a_If_init_d0 a_Program_init_d0 d_is_integer d_is_number d_is_base d_is_name d_are_rows d_needed d_fits d_is_of d_inner d_flat d_names_in d_bare d_named d_number_of d_joined d_result d_holding d_written d_part d_of_one d_of_two d_power d_run d_came_to d_holds d_law_deal d_law_draw d_law_pick d_law_words d_law_ask_of d_law_row_of d_law_told d_law d_Stopped_init d_Put_init d_If_init d_Times_init d_Ask_init d_Not_init d_Program_init d_Program_call d_Walk_init d_Walk_go d_Walk_do d_Walk_put d_Walk_decide d_Walk_choose) : FnOk P w K mg base (L2.CX P w) 25 a_holds d_holds ["program", "base", "test"] (sp_holds K ⟨a_Put, a_If, a_Times, a_Stop, a_Ask, a_Not⟩ a_Program a_Stopped a_InvalidBase) := by
  have G_run := ok_run (P := P) (w := w) (base := base) T
  have G_holding : FnOk P w K mg base CX0 2 a_holding d_holding ["test", "held", "base"] spNo := fnNo
  refine T.F_holds.okX sc_holds (fun vs H Q E h => ?_) (fun cdv A outer s H vs Q E hr h => ?_)
  · unfold sp_holds at h; split at h; rfl; exact h.elim
  unfold sp_holds at h; split at h
  case h_2 => exact h.elim
  rename_i v u t
  refine ⟨_, (pss_one (ps_ret (pe_call G_holding (hr.mono (by omega)) (by rfl) T.g_holding T.F_holding.kp T.b_holding .nil pass0 (pa_cons (pv 2) (pa_cons (pe_callS G_run (hr.mono (by omega)) (by rfl) T.g_run T.F_run.kp T.b_run (fun σ => passAt (takes_of rfl rfl rfl rfl) σ) (pa_cons (pv 0) (pa_cons (pv 1) pa_nil))) (pa_cons (pv 1) pa_nil)))))), ?_⟩
  walk_at "st"
  walk_at "vc"
  exact ⟨_, rfl, _, rfl, h⟩
theorem range_filter (m : Nat) : ∀ j : Nat, (List.range (m + j)).filter (fun i => decide (i < m)) = List.range m
  | 0 => List.filter_eq_self.mpr fun i hi => decide_eq_true (by simpa using hi)
  | j + 1 => by rw [← Nat.add_assoc, List.range_succ, List.filter_append, range_filter m j, List.filter_cons_of_neg (by simp), List.filter_nil, List.append_nil]
def sp_came_to (K : PySem.W.Frag) (A : ClsA) (CP CB : Addr) : Sp
  | [v, u], H, Q, E => ∃ rs vs, ProgO K A CP H rs vs v ∧ RowM.deps rs = 0 ∧ RowM.cnts rs ≤ 20 ∧
      ((∃ b k, u = .int b ∧ (∀ ys, NmOf (RowM.nmss rs) ys → StopR ys rs b k) ∧ ∀ t H', Ex H H' → SqT K H' t ((List.range (k + 1)).map fun (i : Nat) => V.int i) → Q (.ref t) H') ∨ (BaseV K CP H u false ∧ ∀ H', Ex H H' → E (.ref CB) none H'))
  | _, _, _, _ => False
theorem ok_came_to (T : Txt w K mg a_is_integer a_is_number a_is_base a_is_name a_are_rows a_needed a_fits a_is_of a_inner a_flat a_names_in a_bare a_named a_number_of a_joined a_result a_holding a_written a_part a_of_one a_of_two a_power a_run a_came_to a_holds a_law_deal a_law_draw a_law_pick a_law_words a_law_ask_of a_law_row_of a_law_told a_law a_Stopped_init a_Put_init a_If_init a_Times_init a_Ask_init a_Not_init a_Program_init a_Program_call a_Walk_init a_Walk_go a_Walk_do a_Walk_put a_Walk_decide a_Walk_choose a_InvalidBase a_Stopped a_FigureError a_InvalidNumber a_Put a_If a_Times a_Stop a_Ask a_Not a_Row a_Test a_Program a_Walk a_DEEDS a_SIGNS a_WORDS a_If_init_d0 a_Program_init_d0 d_is_integer d_is_number d_is_base d_is_name d_are_rows d_needed d_fits d_is_of d_inner d_flat d_names_in d_bare d_named d_number_of d_joined d_result d_holding d_written d_part d_of_one d_of_two d_power d_run d_came_to d_holds d_law_deal d_law_draw d_law_pick d_law_words d_law_ask_of d_law_row_of d_law_told d_law d_Stopped_init d_Put_init d_If_init d_Times_init d_Ask_init d_Not_init d_Program_init d_Program_call d_Walk_init d_Walk_go d_Walk_do d_Walk_put d_Walk_decide d_Walk_choose) : FnOk P w K mg base (L2.CX P w) 20 a_came_to d_came_to ["program", "base"] (sp_came_to K ⟨a_Put, a_If, a_Times, a_Stop, a_Ask, a_Not⟩ a_Program a_InvalidBase) := by
  have G_Walk_init := ok_Walk_init (P := P) (w := w) (base := base) T
  have G_Walk_go := ok_Walk_go (P := P) (w := w) (base := base) T
  have G_flat := ok_flat (P := P) (w := w) (base := base) T 3 (by omega)
  refine T.F_came_to.okX sc_came_to (fun vs H Q E h => ?_) (fun cdv A outer s H vs Q E hr h => ?_)
  · unfold sp_came_to at h; split at h; rfl; exact h.elim
  unfold sp_came_to at h; split at h
  case h_2 => exact h.elim
  rename_i v u
  obtain ⟨rs, vs, hP, rd, rc, h⟩ := h
  refine ⟨_, (pss_cons (ps_set (i := 2) sc_came_to.nd rfl (by first | exact .inl rfl | exact .inr rfl) (pe_makeS T.M_Walk G_Walk_init (hr.mono (by omega)) (by rfl) T.g_Walk (fun σ => passAt (takes_of rfl rfl rfl rfl) σ) (pa_cons (pe_fld (pv 0) (by rfl)) (pa_cons (pv 1) pa_nil))))
      (pss_cons (ps_try_manyA rfl rfl sc_came_to.nd takes0 (fun W pn xe tk po => (pss_one (ps_expr (pe_methS2 (pv 2) T.oc_Walk.cl T.mm_Walk_go G_Walk_go (hr.mono (by omega)) (fun σ => passAt tk σ) (pa_cons (pe_fldK (K := K) rfl (pv 0) (by rfl)) (pa_cons pe_int pa_nil)))))) (HdA.plain ⟨rfl, by decide, .inl T.E_Stopped.g⟩ (fun a oe cls d pn hz hf => (pss_one ps_pass)) HdA.nil))
      (pss_one (ps_ret (pe_callTy call_tuple_of (by rfl) T.z_tuple (by decide +kernel) (pa_cons (pe_lc (own := [("at", 3)]) (g := gName 3) (by rfl) sc_came_to.nd (pi_range1 (by rfl) T.z_range (pa_cons (pe_callB call_len_seq (by rfl) T.z_len (by decide +kernel) (pa_cons (pe_call G_flat (hr.mono (by omega)) (by rfl) T.g_flat T.F_flat.kp T.b_flat .nil pass0 (pa_cons (pe_fld (pv 0) (by rfl)) pa_nil)) pa_nil)) pa_nil)) (blkOk_by (own := [("at", 3)]) (N := N_came_to) (sc := defScope s_came_to) (by decide +kernel)) (fun _ _ _ _ _ => (pg_name (i := 3) sc_came_to.nd rfl (by first | exact .inl rfl | exact .inr rfl))) (fun _ _ _ _ _ => (pts_one (pt_cmpR (op_inDic (un1B hr.units)) (pv 3) (pe_fldK (K := K) rfl (pv 2) (by rfl)) (by rfl)))) (fun _ _ _ _ _ => (pv 3))) pa_nil)))))), ?_⟩
  walk_at "st"
  walk_at "vc"
  obtain ⟨a, dx, q0, n, ys, rfl, hp, hq, hOs, hn, hN, hyl⟩ := id hP
  have hnd : ys.Nodup := hN.2.1
  refine ⟨_, rfl, a, _, dx, _, .ref n, rfl, hp, T.oc_Program.cl, T.nF_Program_names, rfl, _, rfl, fun x dx2 hx hd hne => ?_⟩
  rcases h with ⟨b, k, rfl, hst, ht⟩ | ⟨hb, ht⟩
  · have hS := hst ys hN
    have b2 := hS.b2
    refine mkWalk hn hnd (by omega) (u := .int b) (b := true) (.inl ⟨rfl, by simp [isInt, b2]⟩) hx hd hne (fun h => by cases h) fun _ G H' dh dc eG S => ?_
    obtain ⟨a2, dx3, e, ha2⟩ := S.ob
    cases e
    have rl := cnts_len rs
    refine ⟨_, rfl, x, dx3, _, rfl, S.g _ _ ha2, rfl, fld_B rfl ((eG.trans S.g) _ _ hp) T.oc_Program.cl T.nF_Program_rows rfl ⟨G, b, dh, dc, ys, _, rs, vs, k, S, (Kp.of_ex eG).sqt hq, hOs.ex eG, hS.rn, hS.st, by omega, by omega, fun H2 e f' cs S2 hcs he => ?_⟩⟩
    refine ⟨true, T.E_Stopped.te, fun _ y hy => ?_, fun z => by cases z⟩
    have S3 := S2.ex (Ex.new he (o := .xd [("at", .int (0 + (k : Int)))]))
    generalize upd H2 e (.xd [("at", .int (0 + (k : Int)))]) = H3 at *
    walk_at "vc"
    have e03 := eG.trans S3.g
    have hkl := stops_lt hS.st
    refine fld_B rfl (e03 _ _ hp) T.oc_Program.cl T.nF_Program_rows rfl ⟨rs, vs, .inr ((Kp.of_ex e03).sqt hq), hOs.ex e03, .inl (by omega), by omega, fun D ws H4 e4 _ hD hw => ⟨D, rfl, ws, .inl (sq_of hD), ?_⟩⟩
    have wl : ws.length = RowM.cnts rs := by rw [hw.len, flats_len]
    have S4 := S3.ex e4
    refine ⟨_, rfl, by omega, by omega, fun D2 hD2 => lc_range (lo := 0) (n := ws.length) (CpF D2 H4 (fun (i : Nat) => V.int i) (fun i => decide (i < k + 1)) (List.range ws.length)) (CpF.start hD2) (fun i H' hi hP => ?_) (fun H5 hP => ?_)⟩
    · have hr := List.getElem?_range hi
      walk_at "vc"
      have S5 := S4.ex hP.2
      obtain ⟨o, g, eo⟩ := (show DI H' dc cs from ⟨cs, S5.cm, fun _ => Iff.rfl⟩).get (0 + (i : Int))
      refine fld_B rfl (S5.g _ _ ha2) T.oc_Walk.cl T.nF_Walk_came rfl ⟨dc, rfl, o, g, ite2 (fun c => ?_) (fun c => ?_)⟩
      · rw [eo, decide_eq_true_iff, hcs] at c
        exact CpF.yes hD2 hP hr (by rw [List.length_range]; omega) (decide_eq_true (by omega)) (by rw [Int.zero_add])
      · rw [eo, decide_eq_true_iff, hcs] at c
        exact CpF.no hP hr (decide_eq_false (by omega))
    have hP' : CpF D2 H4 (fun (i : Nat) => V.int i) (fun i => decide (i < k + 1)) (List.range ws.length) (List.range ws.length).length H5 := by rw [List.length_range]; exact hP
    obtain ⟨g5, e5⟩ := hP'.end_
    refine ⟨D2, rfl, _, .inl ⟨sq_of g5, fun t ht2 => ht t _ ((e03.trans e4).trans (e5.trans (Ex.new ht2))) (st_of ?_)⟩⟩
    rw [upd_same]
    obtain ⟨j, hj⟩ : ∃ j, ws.length = k + 1 + j := ⟨ws.length - (k + 1), by omega⟩
    rw [hj, range_filter]
  · exact mkWalk hn hnd (by omega) hb hx hd hne (fun _ => ht) (fun h => by cases h)
end
end My
set_option Elab.async false
set_option linter.all false
set_option maxRecDepth 100000
set_option maxHeartbeats 4000000
set_option exponentiation.threshold 5000
namespace My
open PySem PySem.Spec PyProof.Rows L2 Evl
local macro_rules | `(tactic| walk_at "st") => `(tactic| simp only [L2.start, List.map_cons, List.map_nil, List.length_cons, List.length_nil, Nat.reduceAdd, Nat.reduceSub, List.replicate_succ, List.replicate_zero, List.cons_append, List.nil_append, cxOf, List.append_nil])
local macro_rules | `(tactic| walk_at "vc") => `(tactic| try simp only [tSeq, tAsg, tOp, tUn, tVar, tC, tNil, tCons, gName, rI, rI0, rU, tRet, tIfS, tNot, tAnd, tOr, tB, tTest, tCB, tCall, tAndV, tOrV, tNotV, tNext, tNever, tIf, tChain, tYes, tPart, tNoPart, tPar, tDrop, q_isi, q_vn, q_vb, q_vi, q_vs, kb1, kb2, kb3, kb4, kb5, kb6, kb7, kb8, q_int1, q_int2, q_min, q_max, q_repr, tLst, tTup, rEq, rNe, q_sii, q_sss, q_sbb, q_snn, q_sns, q_ssn, q_ix, q_sl, tSl, tBM, tBM0, q_app, q_pop, gSub, rSetL, L2.wipe, eq_self, decide_true, decide_false, tRevL,
  List.getElem?_cons_succ, List.getElem?_cons_zero, List.set_cons_succ, List.set_cons_zero, Option.some.injEq, exists_eq_left', exists_eq_left, V.int.injEq, V.bl.injEq, V.ref.injEq, V.str.injEq, List.cons.injEq, and_true, true_and, List.append_nil, List.nil_append, List.cons_append, exists_and_left, and_assoc, if_true, if_false, Bool.not_true, Bool.not_false, Bool.false_eq_true, Bool.true_eq_false, reduceIte, tRevL, tPar3, tRevT, tUnl, tCKw, forall_const, Bool.not_eq_true', decide_eq_true_eq, decide_eq_false_iff_not])
section
variable {P : Program} {w : World} {K : PySem.W.Frag} {mg : Str → Option Value} {base : Heap}
variable {a_is_integer a_is_number a_is_base a_is_name a_are_rows a_needed a_fits a_is_of a_inner a_flat a_names_in a_bare a_named a_number_of a_joined a_result a_holding a_written a_part a_of_one a_of_two a_power a_run a_came_to a_holds a_law_deal a_law_draw a_law_pick a_law_words a_law_ask_of a_law_row_of a_law_told a_law a_Stopped_init a_Put_init a_If_init a_Times_init a_Ask_init a_Not_init a_Program_init a_Program_call a_Walk_init a_Walk_go a_Walk_do a_Walk_put a_Walk_decide a_Walk_choose a_InvalidBase a_Stopped a_FigureError a_InvalidNumber a_Put a_If a_Times a_Stop a_Ask a_Not a_Row a_Test a_Program a_Walk a_DEEDS a_SIGNS a_WORDS a_If_init_d0 a_Program_init_d0 : Addr} {d_is_integer d_is_number d_is_base d_is_name d_are_rows d_needed d_fits d_is_of d_inner d_flat d_names_in d_bare d_named d_number_of d_joined d_result d_holding d_written d_part d_of_one d_of_two d_power d_run d_came_to d_holds d_law_deal d_law_draw d_law_pick d_law_words d_law_ask_of d_law_row_of d_law_told d_law d_Stopped_init d_Put_init d_If_init d_Times_init d_Ask_init d_Not_init d_Program_init d_Program_call d_Walk_init d_Walk_go d_Walk_do d_Walk_put d_Walk_decide d_Walk_choose : FuncData}
/-- what is told of a program, asked in one of four ways -/
def sp_law_told (K : PySem.W.Frag) (A : ClsA) (CP : Addr) : Sp
  | [v, .int m, u], H, Q, _ => ∃ rs vs, ProgO K A CP H rs vs v ∧ RowM.deps rs = 0 ∧ RowM.cnts rs ≤ 20 ∧
      ((∃ b k, u = .int b ∧ (∀ ys, NmOf (RowM.nmss rs) ys → StopR ys rs b k) ∧ ∀ H', Ex H H' → Q (if m = 1 then .str "told" else .int k) H') ∨ (BaseV K CP H u false ∧ ∀ H', Ex H H' → Q (.str "base") H'))
  | _, _, _, _ => False
theorem ok_law_told (T : Txt w K mg a_is_integer a_is_number a_is_base a_is_name a_are_rows a_needed a_fits a_is_of a_inner a_flat a_names_in a_bare a_named a_number_of a_joined a_result a_holding a_written a_part a_of_one a_of_two a_power a_run a_came_to a_holds a_law_deal a_law_draw a_law_pick a_law_words a_law_ask_of a_law_row_of a_law_told a_law a_Stopped_init a_Put_init a_If_init a_Times_init a_Ask_init a_Not_init a_Program_init a_Program_call a_Walk_init a_Walk_go a_Walk_do a_Walk_put a_Walk_decide a_Walk_choose a_InvalidBase a_Stopped a_FigureError a_InvalidNumber a_Put a_If a_Times a_Stop a_Ask a_Not a_Row a_Test a_Program a_Walk a_DEEDS a_SIGNS a_WORDS a_If_init_d0 a_Program_init_d0 d_is_integer d_is_number d_is_base d_is_name d_are_rows d_needed d_fits d_is_of d_inner d_flat d_names_in d_bare d_named d_number_of d_joined d_result d_holding d_written d_part d_of_one d_of_two d_power d_run d_came_to d_holds d_law_deal d_law_draw d_law_pick d_law_words d_law_ask_of d_law_row_of d_law_told d_law d_Stopped_init d_Put_init d_If_init d_Times_init d_Ask_init d_Not_init d_Program_init d_Program_call d_Walk_init d_Walk_go d_Walk_do d_Walk_put d_Walk_decide d_Walk_choose) : FnOk P w K mg base CX0 30 a_law_told d_law_told ["_law_built", "_law_form", "_law_radix"] (sp_law_told K ⟨a_Put, a_If, a_Times, a_Stop, a_Ask, a_Not⟩ a_Program) := by
  have G_run := ok_run (P := P) (w := w) (base := base) T
  have G_came_to := ok_came_to (P := P) (w := w) (base := base) T
  have G_holds := ok_holds (P := P) (w := w) (base := base) T
  have G_Program_call := ok_Program_call (P := P) (w := w) (base := base) T
  have G_Ask_init := ok_Ask_init (P := P) (w := w) (base := base) T
  refine T.F_law_told.ok sc_law_told (fun vs H Q E h => ?_) (fun cdv A outer s H vs Q E hr h => ?_)
  · unfold sp_law_told at h; split at h; rfl; exact h.elim
  unfold sp_law_told at h; split at h
  case h_2 => exact h.elim
  rename_i v m u
  obtain ⟨rs, vs, hP, rd, rc, h⟩ := h
  refine ⟨_, (pss_cons (ps_set (i := 3) sc_law_told.nd rfl (by first | exact .inl rfl | exact .inr rfl) pe_str)
      (pss_cons (ps_try_manyA rfl rfl sc_law_told.nd takes0 (fun W pn xe tk po => (pss_one (ps_if (pt_cmpR op_eq (pv 1) pe_int (nomark _))
      (pss_one (ps_expr (pe_callS G_run (hr.mono (by omega)) (by rfl) T.g_run T.F_run.kp T.b_run (fun σ => passAt tk σ) (pa_cons (pv 0) (pa_cons (pv 2) pa_nil)))))
      (pss_one (ps_if (pt_cmpR op_eq (pv 1) pe_int (nomark _))
      (pss_one (ps_expr (pe_callS G_came_to (hr.mono (by omega)) (by rfl) T.g_came_to T.F_came_to.kp T.b_came_to (fun σ => passAt tk σ) (pa_cons (pv 0) (pa_cons (pv 2) pa_nil)))))
      (pss_one (ps_if (pt_cmpR op_eq (pv 1) pe_int (nomark _))
      (pss_one (ps_expr (pe_callS G_holds (hr.mono (by omega)) (by rfl) T.g_holds T.F_holds.kp T.b_holds (fun σ => passAt tk σ) (pa_cons (pv 0) (pa_cons (pv 2) (pa_cons (StX.pe_makeR T.M_Ask G_Ask_init (hr.mono (by omega)) (by rfl) T.g_Ask pass0 (pa_cons pe_str (pa_cons pe_str (pa_cons pe_str pa_nil)))) pa_nil))))))
      (pss_one (ps_expr (pe_callS2 (pv 0) (cO_Program T) G_Program_call (hr.mono (by omega)) (fun σ => passAt tk σ) (pa_cons (pv 2) pa_nil))))))))))) (HdA.as (i := 4) rfl rfl ⟨rfl, by decide, .inl T.E_InvalidBase.g⟩ (fun a oe cls d pn hz hf => (pss_cons (ps_set (i := 3) sc_law_told.nd rfl (by first | exact .inl rfl | exact .inr rfl) pe_str)
      (pss_one (ps_if (PW.pt (pw_or (pt_not (pt_val (pe_callB (call_isR0 T.E_InvalidBase hz hf) (by rfl) T.z_isinstance (by decide +kernel) (pa_cons (pv 4) (pa_cons (pe_glob (v := .ref a_FigureError) (by rfl) T.g_FigureError rfl) pa_nil))))) (pw_or1 (pt_val (pe_callB (call_isR02 T.E_InvalidBase hz hf) (by rfl) T.z_isinstance (by decide +kernel) (pa_cons (pv 4) (pa_cons (pe_tup (pa_cons (pe_glob (v := .ref a_InvalidNumber) (by rfl) T.g_InvalidNumber rfl) (pa_cons (pe_glob (v := .ref a_Stopped) (by rfl) T.E_Stopped.g rfl) pa_nil))) pa_nil)))))))
      (pss_one (ps_set (i := 3) sc_law_told.nd rfl (by first | exact .inl rfl | exact .inr rfl) pe_str))
      pss_nil)))) (HdA.as (i := 4) rfl rfl ⟨rfl, by decide, .inl T.E_Stopped.g⟩ (fun a oe cls d pn hz hf => (pss_one (ps_set (i := 3) sc_law_told.nd rfl (by first | exact .inl rfl | exact .inr rfl) (pe_xf T.E_Stopped.xf T.E_Stopped.F.noF hz hf (pv 4))))) HdA.nil)))
      (pss_one (ps_ret (pv 3))))), ?_⟩
  walk_at "st"
  walk_at "vc"
  refine ite2 (fun c0 => ?_) (fun c0 => ite2 (fun c1 => ?_) (fun c1 => ite2 (fun c2 => ?_) (fun c2 => ?_)))
  · refine ⟨_, rfl, _, rfl, rs, vs, hP, rc, ?_⟩
    rcases h with ⟨b, k, rfl, hst, q⟩ | ⟨hb, q⟩
    · have qs : ∀ H', Ex H H' → Q (.int k) H' := fun H' e => by have := q H' e; rw [if_neg (fun h => by omega)] at this; exact this
      refine .inl ⟨b, k, rfl, hst, fun H' e eH he => ⟨false, T.kx_Stopped_InvalidBase, (fun z => by cases z), fun _ => ⟨true, T.E_Stopped.te, fun _ y hy => ?_, fun z => by cases z⟩⟩⟩
      walk_at "vc"
      exact ⟨_, rfl, rfl, rfl, e, _, _, rfl, upd_same, rfl, qs _ ((Ex.refl H).trans (eH.trans (Ex.new he)))⟩
    · refine .inr ⟨hb, fun H' eH => ⟨true, T.E_InvalidBase.te, fun _ y hy => ?_, fun z => by cases z⟩⟩
      walk_at "vc"
      refine ⟨.ref a_FigureError, .ref a_FigureError, true, rfl, fun u h => h, fun tp z => ⟨_, rfl⟩, rfl, rfl, T.kr_InvalidBase_FigureError, _, rfl, ?_⟩
      rw [if_neg (by decide)]
      refine ⟨sz_le (by simp), fun p hp => ⟨p, _, _, false, rfl, rfl, rfl, upd_same, kitAny2 T.kr_InvalidBase_InvalidNumber T.kr_InvalidBase_Stopped, _, rfl, ?_⟩⟩
      rw [if_neg (by decide)]
      exact q _ ((Ex.refl H).trans (eH.trans (Ex.new hp)))
  · refine ⟨_, rfl, _, rfl, rs, vs, hP, rd, rc, ?_⟩
    rcases h with ⟨b, k, rfl, hst, q⟩ | ⟨hb, q⟩
    · exact .inl ⟨b, k, rfl, hst, fun t H' eH _ => by have := q H' eH; rw [if_pos c1] at this; exact this⟩
    · refine .inr ⟨hb, fun H' eH => ⟨true, T.E_InvalidBase.te, fun _ y hy => ?_, fun z => by cases z⟩⟩
      walk_at "vc"
      refine ⟨.ref a_FigureError, .ref a_FigureError, true, rfl, fun u h => h, fun tp z => ⟨_, rfl⟩, rfl, rfl, T.kr_InvalidBase_FigureError, _, rfl, ?_⟩
      rw [if_neg (by decide)]
      refine ⟨sz_le (by simp), fun p hp => ⟨p, _, _, false, rfl, rfl, rfl, upd_same, kitAny2 T.kr_InvalidBase_InvalidNumber T.kr_InvalidBase_Stopped, _, rfl, ?_⟩⟩
      rw [if_neg (by decide)]
      exact q _ ((Ex.refl H).trans (eH.trans (Ex.new hp)))
  · refine ⟨_, rfl, _, rfl, fun x3 dx hx hdx hne => ⟨[.ref x3, .str (Str.ofString "same")], [.str (Str.ofString "x"), .str (Str.ofString "x")], rfl, rfl, sz_le (by simp), fun p hp => ?_⟩⟩
    have em := mk_ex (o1 := .own x3) (o2 := .ins a_Ask dx []) hx hdx hne
    have ep := Ex.new hp (o := .tup [.str (Str.ofString "x"), .str (Str.ofString "x")])
    refine ⟨dx, [Str.ofString "x", Str.ofString "x"], ep _ _ upd_same, st_of upd_same, by decide, (fun n hn => by simp only [List.mem_cons, List.not_mem_nil, or_false, or_self] at hn; subst hn; exact ⟨by decide, by decide +kernel⟩), fun H3 off h3 => ⟨rfl, ?_⟩⟩
    have off2 : Off x3 (upd (upd H dx (.own x3)) x3 (.ins a_Ask dx [])) H3 := fun b o hb h => off b o hb (ep _ _ h)
    have eX : Ex H H3 := made_ex hx hdx off2
    refine ⟨rs, vs, hP.ex eX, rc, ?_⟩
    rcases h with ⟨b, k, rfl, hst, q⟩ | ⟨hb, q⟩
    · have qs : ∀ H', Ex H H' → Q (.int k) H' := fun H' e => by have := q H' e; rw [if_neg (fun h => by omega)] at this; exact this
      refine .inl ⟨b, k, rfl, hst, fun H' e eH he => ⟨false, T.kx_Stopped_InvalidBase, (fun z => by cases z), fun _ => ⟨true, T.E_Stopped.te, fun _ y hy => ?_, fun z => by cases z⟩⟩⟩
      walk_at "vc"
      exact ⟨_, rfl, rfl, rfl, e, _, _, rfl, upd_same, rfl, qs _ (eX.trans (eH.trans (Ex.new he)))⟩
    · refine .inr ⟨hb.ex eX, fun H' eH => ⟨true, T.E_InvalidBase.te, fun _ y hy => ?_, fun z => by cases z⟩⟩
      walk_at "vc"
      refine ⟨.ref a_FigureError, .ref a_FigureError, true, rfl, fun u h => h, fun tp z => ⟨_, rfl⟩, rfl, rfl, T.kr_InvalidBase_FigureError, _, rfl, ?_⟩
      rw [if_neg (by decide)]
      refine ⟨sz_le (by simp), fun p hp => ⟨p, _, _, false, rfl, rfl, rfl, upd_same, kitAny2 T.kr_InvalidBase_InvalidNumber T.kr_InvalidBase_Stopped, _, rfl, ?_⟩⟩
      rw [if_neg (by decide)]
      exact q _ (eX.trans (eH.trans (Ex.new hp)))
  · obtain ⟨pa, pdx, pq, pn, pys, rfl, php, _⟩ := id hP
    refine ⟨_, rfl, pa, rfl, _, rfl, ⟨_, _, php⟩, rs, vs, hP, rc, ?_⟩
    rcases h with ⟨b, k, rfl, hst, q⟩ | ⟨hb, q⟩
    · have qs : ∀ H', Ex H H' → Q (.int k) H' := fun H' e => by have := q H' e; rw [if_neg (fun h => by omega)] at this; exact this
      refine .inl ⟨b, k, rfl, hst, fun H' e eH he => ⟨false, T.kx_Stopped_InvalidBase, (fun z => by cases z), fun _ => ⟨true, T.E_Stopped.te, fun _ y hy => ?_, fun z => by cases z⟩⟩⟩
      walk_at "vc"
      exact ⟨_, rfl, rfl, rfl, e, _, _, rfl, upd_same, rfl, qs _ ((Ex.refl H).trans (eH.trans (Ex.new he)))⟩
    · refine .inr ⟨hb, fun H' eH => ⟨true, T.E_InvalidBase.te, fun _ y hy => ?_, fun z => by cases z⟩⟩
      walk_at "vc"
      refine ⟨.ref a_FigureError, .ref a_FigureError, true, rfl, fun u h => h, fun tp z => ⟨_, rfl⟩, rfl, rfl, T.kr_InvalidBase_FigureError, _, rfl, ?_⟩
      rw [if_neg (by decide)]
      refine ⟨sz_le (by simp), fun p hp => ⟨p, _, _, false, rfl, rfl, rfl, upd_same, kitAny2 T.kr_InvalidBase_InvalidNumber T.kr_InvalidBase_Stopped, _, rfl, ?_⟩⟩
      rw [if_neg (by decide)]
      exact q _ ((Ex.refl H).trans (eH.trans (Ex.new hp)))
end
end My
set_option Elab.async false
set_option linter.all false
set_option maxRecDepth 100000
set_option maxHeartbeats 4000000
set_option exponentiation.threshold 5000
namespace My
open PySem PySem.Spec PyProof.Rows L2 Evl
local macro_rules | `(tactic| walk_at "st") => `(tactic| simp only [L2.start, List.map_cons, List.map_nil, List.length_cons, List.length_nil, Nat.reduceAdd, Nat.reduceSub, List.replicate_succ, List.replicate_zero, List.cons_append, List.nil_append, cxOf, List.append_nil])
local macro_rules | `(tactic| walk_at "vc") => `(tactic| try simp only [tSeq, tAsg, tOp, tUn, tVar, tC, tNil, tCons, gName, rI, rI0, rU, tRet, tIfS, tNot, tAnd, tOr, tB, tTest, tCB, tCall, tAndV, tOrV, tNotV, tNext, tNever, tIf, tChain, tYes, tPart, tNoPart, tPar, tDrop, q_isi, q_vn, q_vb, q_vi, q_vs, kb1, kb2, kb3, kb4, kb5, kb6, kb7, kb8, q_int1, q_int2, q_min, q_max, q_repr, tLst, tTup, rEq, rNe, q_sii, q_sss, q_sbb, q_snn, q_sns, q_ssn, q_ix, q_sl, tSl, tBM, tBM0, q_app, q_pop, gSub, rSetL, L2.wipe, eq_self, decide_true, decide_false, tRevL,
  List.getElem?_cons_succ, List.getElem?_cons_zero, List.set_cons_succ, List.set_cons_zero, Option.some.injEq, exists_eq_left', exists_eq_left, V.int.injEq, V.bl.injEq, V.ref.injEq, V.str.injEq, List.cons.injEq, and_true, true_and, List.append_nil, List.nil_append, List.cons_append, exists_and_left, and_assoc, if_true, if_false, Bool.not_true, Bool.not_false, Bool.false_eq_true, Bool.true_eq_false, reduceIte, tRevL, tPar3, tRevT, tUnl, tCKw, forall_const, Bool.not_eq_true', decide_eq_true_eq, decide_eq_false_iff_not])
theorem Mv3.kpx {d L : Addr} {H H' : Hp} (D : Deal3 d L H) (M : Mv3 d L H H') : Kp H H' := fun b o no h => by
  obtain ⟨cs, c, z, D⟩ := D
  exact M.kp b o (fun e => by rw [e, D.d] at h; cases h; exact no _ rfl) (fun e => by rw [e, D.l] at h; cases h; exact no _ rfl) h
/-! the rows of this law -/
def stopR (x y : Str) : List RowM := [.put x "-" [.str y, .str x], .put x "//" [.str x, .str y], .put y "rest" [.str x, .str y], .stop, .put x "figures" [.int 1, .int 35, .int 0]]
def baseR (x : Str) : RowM := .put x "base" []
def numR (x : Str) (v : Int) : RowM := .put x "number" [.int v]
/-- all rows of a program -/
def allR (x : Str) (v : Int) (c : Nat) (r : RowM) : List RowM := numR x v :: (List.replicate c (baseR x) ++ [r, numR x 7])
theorem stepM_put (b : Int) (n d : Str) (g : List V) (f : Str → Int) : stepM b (.put n d g) f = (resM d (g.map (givV f)) b).map fun o => o.map fun v => setF f n v := rfl
theorem stop_now {x y : Str} {f : Str → Int} {b : Int} (hx : 1 ≤ f x) (hy : f y = 0) (b35 : b ≤ 35) : ∀ r ∈ stopR x y, stepM b r f = some none := by
  intro r hr
  simp only [stopR, List.mem_cons, List.not_mem_nil, or_false] at hr
  rcases hr with rfl | rfl | rfl | rfl | rfl
  · rw [stepM_put, show [V.str y, V.str x].map (givV f) = [f y, f x] from rfl, resM_sub, if_neg (by omega)]
    rfl
  · rw [stepM_put, show [V.str x, V.str y].map (givV f) = [f x, f y] from rfl, resM_div, if_neg (by omega)]
    rfl
  · rw [stepM_put, show [V.str x, V.str y].map (givV f) = [f x, f y] from rfl, resM_rest, if_neg (by omega)]
    rfl
  · rfl
  · rw [stepM_put]
    have : resM "figures" ([V.int 1, V.int 35, V.int 0].map (givV f)) b = some none := by
      unfold resM
      rw [if_neg (by decide), if_neg (by decide), if_neg (by decide), if_neg (by decide), if_neg (by decide), if_pos rfl]
      have : ([V.int 1, V.int 35, V.int 0].map (givV f)).all (fun g => decide (g < b)) = false := by
        show (decide (1 < b) && (decide (35 < b) && (decide (0 < b) && true))) = false
        rw [decide_eq_false (show ¬ (35 : Int) < b by omega)]
        simp
      rw [this, if_neg (by decide)]
    rw [this]
    rfl
theorem stops_base {x y : Str} {b : Int} {r : RowM} {rest : List RowM} (nxy : x ≠ y) (b2 : 2 ≤ b) (b35 : b ≤ 35) (hr : r ∈ stopR x y) : ∀ (c : Nat) (f : Str → Int), 1 ≤ f x → f y = 0 → stopsAt b (List.replicate c (baseR x) ++ r :: rest) f c
  | 0, f, hx, hy => stop_now hx hy b35 r hr
  | c + 1, f, hx, hy => by
    rw [List.replicate_succ, List.cons_append]
    refine ⟨setF f x b, rfl, stops_base nxy b2 b35 hr c _ ?_ ?_⟩
    · unfold setF; rw [if_pos rfl]; omega
    · unfold setF; rw [if_neg (fun e => nxy e.symm)]; exact hy
theorem stops_all {x y : Str} {b v : Int} {r : RowM} (nxy : x ≠ y) (b2 : 2 ≤ b) (b35 : b ≤ 35) (hv : 1 ≤ v) (hr : r ∈ stopR x y) (c : Nat) : stopsAt b (allR x v c r) (fun _ => 0) (c + 1) := by
  refine ⟨setF (fun _ => 0) x v, rfl, stops_base nxy b2 b35 hr c _ ?_ ?_⟩
  · unfold setF; rw [if_pos rfl]; exact hv
  · unfold setF; rw [if_neg (fun e => nxy e.symm)]
theorem rowN_of {ys : List Str} {n d : Str} {g : List V} (gl : g.length ≤ 6) (hg : ∀ v ∈ g, (∃ x, v = .str x) ∨ ∃ i, v = .int i) (h : ∀ z, z ∈ (RowM.put n d g).nms → z ∈ ys) : rowN ys (.put n d g) := by
  refine ⟨h n (by simp [RowM.nms]), gl, fun v hv => ?_⟩
  rcases hg v hv with ⟨x, rfl⟩ | h2
  · refine .inl ⟨x, rfl, h x ?_⟩
    rw [RowM.nms]
    exact List.mem_cons_of_mem _ (List.mem_filterMap.mpr ⟨_, hv, rfl⟩)
  · exact .inr h2
theorem flats_plain : ∀ {rs : List RowM}, (∀ r ∈ rs, r.inn = []) → RowM.flats rs = rs
  | [], _ => by rw [RowM.flats]
  | r :: rs, h => by
    rw [RowM.flats, flats_plain fun r hr => h r (List.mem_cons_of_mem _ hr), flat_inn, h r List.mem_cons_self, RowM.flats]
    rfl
/-- a row of this law, of small names -/
def RowL (x y : Str) (r : RowM) : Prop := r ∈ stopR x y ∨ r = baseR x ∨ ∃ v : Int, 0 ≤ v ∧ v < 200 ∧ r = numR x v
theorem RowL.plain {x y : Str} {r : RowM} (h : RowL x y r) : r.inn = [] ∧ r.dep = 0 ∧ r.cnt = 1 ∧ ∀ ys, (∀ z, z ∈ r.nms → z ∈ ys) → rowN ys r := by
  rcases h with h | rfl | ⟨v, _, _, rfl⟩
  · simp only [stopR, List.mem_cons, List.not_mem_nil, or_false] at h
    rcases h with rfl | rfl | rfl | rfl | rfl
    · exact ⟨rfl, rfl, rfl, fun ys h => rowN_of (by simp) (by simp) h⟩
    · exact ⟨rfl, rfl, rfl, fun ys h => rowN_of (by simp) (by simp) h⟩
    · exact ⟨rfl, rfl, rfl, fun ys h => rowN_of (by simp) (by simp) h⟩
    · exact ⟨rfl, rfl, rfl, fun ys h => trivial⟩
    · exact ⟨rfl, rfl, rfl, fun ys h => rowN_of (by simp) (by simp) h⟩
  · exact ⟨rfl, rfl, rfl, fun ys h => rowN_of (by simp) (by simp) h⟩
  · exact ⟨rfl, rfl, rfl, fun ys h => rowN_of (by simp) (by simp) h⟩
theorem RowL.ok {x y : Str} {r : RowM} (hx : x.length ≤ 4 ∧ nmOk x = true) (hy : y.length ≤ 4 ∧ nmOk y = true) (h : RowL x y r) : r.ok ∧ r.sm := by
  have ox : nameOk x := ⟨by omega, hx.2⟩
  have oy : nameOk y := ⟨by omega, hy.2⟩
  have ax : argOk "name" (.str x) := .inl ⟨rfl, x, rfl, ox.1, ox.2⟩
  have ay : argOk "name" (.str y) := .inl ⟨rfl, y, rfl, oy.1, oy.2⟩
  rcases h with h | rfl | ⟨v, v0, v1, rfl⟩
  · simp only [stopR, List.mem_cons, List.not_mem_nil, or_false] at h
    rcases h with rfl | rfl | rfl | rfl | rfl
    · exact ⟨⟨ox, ⟨["name", "name"], rfl, ay, ax, trivial⟩, by simp⟩, hx.1, by decide, by simp, by simp [argSm, hx.1, hy.1]⟩
    · exact ⟨⟨ox, ⟨["name", "name"], rfl, ax, ay, trivial⟩, by simp⟩, hx.1, by decide, by simp, by simp [argSm, hx.1, hy.1]⟩
    · exact ⟨⟨oy, ⟨["name", "name"], rfl, ax, ay, trivial⟩, by simp⟩, hy.1, by decide, by simp, by simp [argSm, hx.1, hy.1]⟩
    · exact ⟨trivial, trivial⟩
    · exact ⟨⟨ox, ⟨["number", "number", "number"], rfl, .inr ⟨rfl, 1, rfl, by decide, by decide +kernel⟩, .inr ⟨rfl, 35, rfl, by decide, by decide +kernel⟩, .inr ⟨rfl, 0, rfl, by decide, by decide +kernel⟩, trivial⟩, by simp⟩, hx.1, by decide, by simp, by simp [argSm]⟩
  · exact ⟨⟨ox, ⟨[], rfl, trivial⟩, by simp⟩, hx.1, by decide, by simp, by simp⟩
  · exact ⟨⟨ox, ⟨["number"], rfl, .inr ⟨rfl, v, rfl, v0, log2_small (Nat.lt_of_lt_of_le (show v.natAbs < 1000 by omega) (by decide +kernel))⟩, trivial⟩, by simp⟩, hx.1, by decide, by simp, by simp [argSm]; omega⟩
theorem allR_L {x y : Str} {v : Int} {c : Nat} {r : RowM} (v0 : 0 ≤ v) (v1 : v < 200) (hr : r ∈ stopR x y) : ∀ s ∈ allR x v c r, RowL x y s := by
  intro s hs
  unfold allR at hs
  rcases List.mem_cons.mp hs with rfl | hs
  · exact .inr (.inr ⟨v, v0, v1, rfl⟩)
  rcases List.mem_append.mp hs with hs | hs
  · rw [(List.mem_replicate.mp hs).2]; exact .inr (.inl rfl)
  · simp only [List.mem_cons, List.not_mem_nil, or_false] at hs
    rcases hs with rfl | rfl
    · exact .inl hr
    · exact .inr (.inr ⟨7, by decide, by decide, rfl⟩)
theorem rows_good {x y : Str} (hx : x.length ≤ 4 ∧ nmOk x = true) (hy : y.length ≤ 4 ∧ nmOk y = true) : ∀ {rs : List RowM}, (∀ s ∈ rs, RowL x y s) → RowM.oks rs ∧ RowM.sms rs ∧ RowM.deps rs = 0 ∧ RowM.cnts rs = rs.length
  | [], _ => ⟨by rw [RowM.oks]; trivial, by rw [RowM.sms]; trivial, by rw [RowM.deps], by rw [RowM.cnts]; rfl⟩
  | r :: rs, h => by
    obtain ⟨h1, h2, h3, h4⟩ := rows_good hx hy fun s hs => h s (List.mem_cons_of_mem _ hs)
    have k1 := (h r List.mem_cons_self).ok hx hy
    have k2 := (h r List.mem_cons_self).plain
    refine ⟨by rw [RowM.oks]; exact ⟨k1.1, h1⟩, by rw [RowM.sms]; exact ⟨k1.2, h2⟩, by rw [RowM.deps, h3, k2.2.1]; rfl, by rw [RowM.cnts, h4, k2.2.2.1, List.length_cons]; omega⟩
theorem rows_names {x y : Str} {rs : List RowM} (h : ∀ s ∈ rs, RowL x y s) {ys : List Str} (hn : NmOf (RowM.nmss rs) ys) : ∀ r ∈ rs, rowN ys r := fun r hr => by
  refine (h r hr).plain.2.2.2 ys fun z hz => (hn.2.2 z).mpr ?_
  unfold RowM.nmss
  rw [flats_plain fun s hs => (h s hs).plain.1]
  exact List.mem_flatMap.mpr ⟨r, hr, hz⟩
theorem stop_R {x y : Str} {b v : Int} {r : RowM} {c : Nat} (nxy : x ≠ y) (b2 : 2 ≤ b) (b35 : b ≤ 35) (v1 : 1 ≤ v) (v2 : v < 200) (hr : r ∈ stopR x y) : ∀ ys, NmOf (RowM.nmss (allR x v c r)) ys → StopR ys (allR x v c r) b (c + 1) := fun ys hn =>
  ⟨b2, stops_all nxy b2 b35 v1 hr c, rows_names (allR_L (by omega) v2 hr) hn⟩
end My
set_option Elab.async false
set_option linter.all false
set_option maxRecDepth 100000
set_option maxHeartbeats 4000000
set_option exponentiation.threshold 5000
namespace My
open PySem PySem.Spec PyProof.Rows L2 Evl
local macro_rules | `(tactic| walk_at "st") => `(tactic| simp only [L2.start, List.map_cons, List.map_nil, List.length_cons, List.length_nil, Nat.reduceAdd, Nat.reduceSub, List.replicate_succ, List.replicate_zero, List.cons_append, List.nil_append, cxOf, List.append_nil])
local macro_rules | `(tactic| walk_at "vc") => `(tactic| try simp only [tSeq, tAsg, tOp, tUn, tVar, tC, tNil, tCons, gName, rI, rI0, rU, tRet, tIfS, tNot, tAnd, tOr, tB, tTest, tCB, tCall, tAndV, tOrV, tNotV, tNext, tNever, tIf, tChain, tYes, tPart, tNoPart, tPar, tDrop, q_isi, q_vn, q_vb, q_vi, q_vs, kb1, kb2, kb3, kb4, kb5, kb6, kb7, kb8, q_int1, q_int2, q_min, q_max, q_repr, tLst, tTup, rEq, rNe, q_sii, q_sss, q_sbb, q_snn, q_sns, q_ssn, q_ix, q_sl, tSl, tBM, tBM0, q_app, q_pop, gSub, rSetL, L2.wipe, eq_self, decide_true, decide_false, tRevL,
  List.getElem?_cons_succ, List.getElem?_cons_zero, List.set_cons_succ, List.set_cons_zero, Option.some.injEq, exists_eq_left', exists_eq_left, V.int.injEq, V.bl.injEq, V.ref.injEq, V.str.injEq, List.cons.injEq, and_true, true_and, List.append_nil, List.nil_append, List.cons_append, exists_and_left, and_assoc, if_true, if_false, Bool.not_true, Bool.not_false, Bool.false_eq_true, Bool.true_eq_false, reduceIte, tRevL, tPar3, tRevT, tUnl, tCKw, forall_const, Bool.not_eq_true', decide_eq_true_eq, decide_eq_false_iff_not])
section
variable {P : Program} {w : World} {K : PySem.W.Frag} {mg : Str → Option Value} {base : Heap}
variable {a_is_integer a_is_number a_is_base a_is_name a_are_rows a_needed a_fits a_is_of a_inner a_flat a_names_in a_bare a_named a_number_of a_joined a_result a_holding a_written a_part a_of_one a_of_two a_power a_run a_came_to a_holds a_law_deal a_law_draw a_law_pick a_law_words a_law_ask_of a_law_row_of a_law_told a_law a_Stopped_init a_Put_init a_If_init a_Times_init a_Ask_init a_Not_init a_Program_init a_Program_call a_Walk_init a_Walk_go a_Walk_do a_Walk_put a_Walk_decide a_Walk_choose a_InvalidBase a_Stopped a_FigureError a_InvalidNumber a_Put a_If a_Times a_Stop a_Ask a_Not a_Row a_Test a_Program a_Walk a_DEEDS a_SIGNS a_WORDS a_If_init_d0 a_Program_init_d0 : Addr} {d_is_integer d_is_number d_is_base d_is_name d_are_rows d_needed d_fits d_is_of d_inner d_flat d_names_in d_bare d_named d_number_of d_joined d_result d_holding d_written d_part d_of_one d_of_two d_power d_run d_came_to d_holds d_law_deal d_law_draw d_law_pick d_law_words d_law_ask_of d_law_row_of d_law_told d_law d_Stopped_init d_Put_init d_If_init d_Times_init d_Ask_init d_Not_init d_Program_init d_Program_call d_Walk_init d_Walk_go d_Walk_do d_Walk_put d_Walk_decide d_Walk_choose : FuncData}
theorem neInt {H : Hp} {a b : Int} {Q : VK} (h : Q (.bl (!decide (a = b))) H) : rNeD K (.int a) (.int b) H Q :=
  ⟨_, _, .int a, .int b, by simp [SeqAt.shaped, PyData.canLay0, PyData.depth], by simp [SeqAt.shaped, PyData.canLay0, PyData.depth], by rw [PyData.eqv]; exact h⟩
theorem neStrS {H : Hp} {a : Str} {Q : VK} (ok : PyData.strOk a = true) (h : Q (.bl false) H) : rNeD K (.str a) (.str a) H Q :=
  ⟨_, _, .str a, .str a, by simp [SeqAt.shaped, PyData.canLay0, PyData.depth, ok], by simp [SeqAt.shaped, PyData.canLay0, PyData.depth, ok], by rw [PyData.eqv]; simpa using h⟩
theorem ne4 {H : Hp} {p q : Addr} {a : Str} {Q : VK} (ok : PyData.strOk a = true) (hp : H p = some (.lst [.str a, .str a, .str a, .str a])) (hq : H q = some (.lst [.str a, .str a, .str a, .str a])) (h : Q (.bl false) H) : rNeD K (.ref p) (.ref q) H Q :=
  ⟨_, _, .lst (sq_of hp) (.cons (.str a) (.cons (.str a) (.cons (.str a) (.cons (.str a) .nil)))), .lst (sq_of hq) (.cons (.str a) (.cons (.str a) (.cons (.str a) (.cons (.str a) .nil)))), by simp [SeqAt.shaped, PyData.canLay0, PyData.canLayAll0, PyData.depth, PyData.depthAll, ok], by simp [SeqAt.shaped, PyData.canLay0, PyData.canLayAll0, PyData.depth, PyData.depthAll, ok], by simpa [PyData.eqv, PyData.eqvAll] using h⟩
theorem RowTs.rep {H : Hp} {r : RowM} {v : V} (h : RowT K H r v) : ∀ c : Nat, RowTs K H (List.replicate c r) (List.replicate c v)
  | 0 => by rw [List.replicate_zero, List.replicate_zero, RowTs]
  | c + 1 => by rw [List.replicate_succ, List.replicate_succ]; exact ⟨v, _, rfl, h, RowTs.rep h c⟩
theorem ProgO.kp {A : ClsA} {CP : Addr} {H H' : Hp} {rs : List RowM} {vs : List V} {v : V} (e : Kp H H') (h : ProgO K A CP H rs vs v) : ProgO K A CP H' rs vs v := by
  obtain ⟨a, dx, q, n, ys, rfl, h1, h2, h3, h4, h5⟩ := h
  exact ⟨a, dx, q, n, ys, rfl, e.ins h1, e.sqt h2, h3.kp e, e.sqt h4, h5⟩
def sp_law (K : PySem.W.Frag) : Sp := fun vs H Q _ => ∃ (a : Addr) (ns : List Int), vs = [.ref a] ∧ SqL K H a (ns.map V.int) ∧ ns.length ≤ 63 ∧ ∀ H', Q (.bl true) H'
theorem ok_law (T : Txt w K mg a_is_integer a_is_number a_is_base a_is_name a_are_rows a_needed a_fits a_is_of a_inner a_flat a_names_in a_bare a_named a_number_of a_joined a_result a_holding a_written a_part a_of_one a_of_two a_power a_run a_came_to a_holds a_law_deal a_law_draw a_law_pick a_law_words a_law_ask_of a_law_row_of a_law_told a_law a_Stopped_init a_Put_init a_If_init a_Times_init a_Ask_init a_Not_init a_Program_init a_Program_call a_Walk_init a_Walk_go a_Walk_do a_Walk_put a_Walk_decide a_Walk_choose a_InvalidBase a_Stopped a_FigureError a_InvalidNumber a_Put a_If a_Times a_Stop a_Ask a_Not a_Row a_Test a_Program a_Walk a_DEEDS a_SIGNS a_WORDS a_If_init_d0 a_Program_init_d0 d_is_integer d_is_number d_is_base d_is_name d_are_rows d_needed d_fits d_is_of d_inner d_flat d_names_in d_bare d_named d_number_of d_joined d_result d_holding d_written d_part d_of_one d_of_two d_power d_run d_came_to d_holds d_law_deal d_law_draw d_law_pick d_law_words d_law_ask_of d_law_row_of d_law_told d_law d_Stopped_init d_Put_init d_If_init d_Times_init d_Ask_init d_Not_init d_Program_init d_Program_call d_Walk_init d_Walk_go d_Walk_do d_Walk_put d_Walk_decide d_Walk_choose) : FnOk P w K mg base CX0 90 a_law d_law ["_law_script"] (sp_law K) := by
  have G_law_deal := ok_law_deal (P := P) (w := w) (base := base) T
  have G_law_draw := ok_law_draw (P := P) (w := w) (base := base) T
  have G_law_pick := ok_law_pick (P := P) (w := w) (base := base) T
  have G_law_words := ok_law_words (P := P) (w := w) (base := base) T
  have G_law_row_of := ok_law_row_of (P := P) (w := w) (base := base) T 1
  have G_Program_init := ok_Program_init0 (P := P) (w := w) (base := base) T
  have G_law_told := ok_law_told (P := P) (w := w) (base := base) T
  have G_came_to := ok_came_to (P := P) (w := w) (base := base) T
  refine T.F_law.ok sc_law (fun vs H Q E h => ?_) (fun cdv A outer s H vs Q E hr h => ?_)
  · obtain ⟨a, ns, rfl, _⟩ := h; rfl
  obtain ⟨a, ns, rfl, ha, hl, q⟩ := h
  refine ⟨_, (pss_cons (ps_set (i := 1) sc_law.nd rfl (by first | exact .inl rfl | exact .inr rfl) (pe_call G_law_deal (hr.mono (by omega)) (by rfl) T.g_law_deal T.F_law_deal.kp T.b_law_deal .nil pass0 (pa_cons (pv 0) (pa_cons pe_int pa_nil))))
      (pss_cons (ps_set (i := 2) sc_law.nd rfl (by first | exact .inl rfl | exact .inr rfl) (pe_call G_law_words (hr.mono (by omega)) (by rfl) T.g_law_words T.F_law_words.kp T.b_law_words .nil pass0 (pa_cons (pv 1) (pa_cons pe_int pa_nil))))
      (pss_cons (ps_asg (pv 2) (pg_lst rfl (pgs_cons (pg_name (i := 3) sc_law.nd rfl (by first | exact .inl rfl | exact .inr rfl)) (pgs_cons (pg_name (i := 4) sc_law.nd rfl (by first | exact .inl rfl | exact .inr rfl)) pgs_nil))))
      (pss_cons (ps_set (i := 5) sc_law.nd rfl (by first | exact .inl rfl | exact .inr rfl) (pe_lst (pa_cons (pe_tup (pa_cons pe_str (pa_cons (pv 3) (pa_cons pe_str (pa_cons (pe_tup (pa_cons (pv 4) (pa_cons (pv 3) pa_nil))) pa_nil))))) (pa_cons (pe_tup (pa_cons pe_str (pa_cons (pv 3) (pa_cons pe_str (pa_cons (pe_tup (pa_cons (pv 3) (pa_cons (pv 4) pa_nil))) pa_nil))))) (pa_cons (pe_tup (pa_cons pe_str (pa_cons (pv 4) (pa_cons pe_str (pa_cons (pe_tup (pa_cons (pv 3) (pa_cons (pv 4) pa_nil))) pa_nil))))) (pa_cons (pe_tup (pa_cons pe_str pa_nil)) pa_nil))))))
      (pss_cons (ps_expr (pe_bm PySem.F.plainAttrs_list PySem.F.slot_list_append PySem.F.type_list_append mt_appendM (pv 5) (pa_cons (pe_tup (pa_cons pe_str (pa_cons (pv 3) (pa_cons pe_str (pa_cons (pe_tup (pa_cons pe_int (pa_cons pe_int (pa_cons pe_int pa_nil)))) pa_nil))))) pa_nil)))
      (Evl.pss_cut (ps_for PassesOwn.never rfl (pi_range1 (by rfl) T.z_range (pa_cons pe_int pa_nil)) (pg_name (i := 6) sc_law.nd rfl (by first | exact .inl rfl | exact .inr rfl))
      (pss_cons (ps_set (i := 7) sc_law.nd rfl (by first | exact .inl rfl | exact .inr rfl) (pe_lst (pa_cons (pe_tup (pa_cons pe_str (pa_cons (pv 3) (pa_cons pe_str (pa_cons (pe_tup (pa_cons (pe_op op_add pe_int (pe_call G_law_draw (hr.mono (by omega)) (by rfl) T.g_law_draw T.F_law_draw.kp T.b_law_draw .nil pass0 (pa_cons (pv 1) (pa_cons pe_int pa_nil)))) pa_nil)) pa_nil))))) pa_nil)))
      (pss_cons (ps_set (i := 7) sc_law.nd rfl (by first | exact .inl rfl | exact .inr rfl) (pe_op op_cat (pv 7) (pe_op op_rep (pe_lst (pa_cons (pe_tup (pa_cons pe_str (pa_cons (pv 3) (pa_cons pe_str (pa_cons (pe_tup pa_nil) pa_nil))))) pa_nil)) (pe_call G_law_draw (hr.mono (by omega)) (by rfl) T.g_law_draw T.F_law_draw.kp T.b_law_draw .nil pass0 (pa_cons (pv 1) (pa_cons pe_int pa_nil))))))
      (pss_cons (ps_set (i := 8) sc_law.nd rfl (by first | exact .inl rfl | exact .inr rfl) (pe_op op_cat (pv 7) (pe_lst (pa_cons (pe_call G_law_pick (hr.mono (by omega)) (by rfl) T.g_law_pick T.F_law_pick.kp T.b_law_pick .nil pass0 (pa_cons (pv 1) (pa_cons (pv 5) pa_nil))) (pa_cons (pe_tup (pa_cons pe_str (pa_cons (pv 3) (pa_cons pe_str (pa_cons (pe_tup (pa_cons pe_int pa_nil)) pa_nil))))) pa_nil)))))
      (pss_cons (ps_asg (pe_tup (pa_cons (pe_make T.M_Program G_Program_init (hr.mono (by omega)) (by rfl) T.g_Program T.b_Program_init .nil pass0 (pa_cons (pe_lc (own := [("_law_row", 13)]) (g := gName 13) (by rfl) sc_law.nd (pi_list (pv 8)) (blkOk_by (own := [("_law_row", 13)]) (N := N_law) (sc := defScope s_law) (by decide +kernel)) (fun _ _ _ _ _ => (pg_name (i := 13) sc_law.nd rfl (by first | exact .inl rfl | exact .inr rfl))) (fun _ _ _ _ _ => pts_nil) (fun _ _ _ _ _ => (pe_call G_law_row_of (hr.mono (by omega)) (by rfl) T.g_law_row_of T.F_law_row_of.kp T.b_law_row_of .nil pass0 (pa_cons (pv 13) pa_nil)))) pa_nil)) (pa_cons (pe_op op_add pe_int (pe_call G_law_draw (hr.mono (by omega)) (by rfl) T.g_law_draw T.F_law_draw.kp T.b_law_draw .nil pass0 (pa_cons (pv 1) (pa_cons pe_int pa_nil)))) pa_nil))) (pg_tup rfl (pgs_cons (pg_name (i := 9) sc_law.nd rfl (by first | exact .inl rfl | exact .inr rfl)) (pgs_cons (pg_name (i := 10) sc_law.nd rfl (by first | exact .inl rfl | exact .inr rfl)) pgs_nil))))
      (Evl.pss_cut (ps_for PassesOwn.never rfl (pi_tup (pe_tup (pa_cons pe_int (pa_cons pe_int (pa_cons pe_int pa_nil))))) (pg_name (i := 11) sc_law.nd rfl (by first | exact .inl rfl | exact .inr rfl))
      (pss_one (ps_if (pt_cmpR (op_neD hr.units) (pe_call G_law_told (hr.mono (by omega)) (by rfl) T.g_law_told T.F_law_told.kp T.b_law_told .nil pass0 (pa_cons (pv 9) (pa_cons (pv 11) (pa_cons (pv 10) pa_nil)))) (pe_callB call_len_seq (by rfl) T.z_len (by decide +kernel) (pa_cons (pv 7) pa_nil)) (nomark _))
      (pss_one (ps_ret pe_bl))
      pss_nil)))
      (pss_cons (ps_if (PW.pt (pw_or (pt_cmpR (op_neD hr.units) (pe_call G_law_told (hr.mono (by omega)) (by rfl) T.g_law_told T.F_law_told.kp T.b_law_told .nil pass0 (pa_cons (pv 9) (pa_cons pe_int (pa_cons (pv 10) pa_nil)))) pe_str (nomark _)) (pw_or1 (pt_cmpR (op_neD hr.units) (pe_callS G_came_to (hr.mono (by omega)) (by rfl) T.g_came_to T.F_came_to.kp T.b_came_to (fun σ => passAt takes0 σ) (pa_cons (pv 9) (pa_cons (pv 10) pa_nil))) (pe_tupRg (by rfl) (by rfl) T.z_tuple (prg_1 (by rfl) T.z_range (pe_op op_add (pe_callB call_len_seq (by rfl) T.z_len (by decide +kernel) (pa_cons (pv 7) pa_nil)) pe_int))) (nomark _)))))
      (pss_one (ps_ret pe_bl))
      pss_nil)
      (pss_one (ps_for PassesOwn.never rfl (pi_list (pe_lst (pa_cons pe_int (pa_cons pe_int (pa_cons (pe_op op_sub pe_int (pe_call G_law_draw (hr.mono (by omega)) (by rfl) T.g_law_draw T.F_law_draw.kp T.b_law_draw .nil pass0 (pa_cons (pv 1) (pa_cons pe_int pa_nil)))) (pa_cons pe_bl (pa_cons pe_non (pa_cons pe_str (pa_cons (pe_tup (pa_cons pe_int pa_nil)) (pa_cons (pe_lst (pa_cons pe_int pa_nil)) (pa_cons (pv 9) pa_nil))))))))))) (pg_name (i := 12) sc_law.nd rfl (by first | exact .inl rfl | exact .inr rfl))
      (pss_one (ps_if (pt_cmpR (op_neD hr.units) (pe_lc (own := [("_law_form", 11)]) (g := gName 11) (by rfl) sc_law.nd (pi_range1 (by rfl) T.z_range (pa_cons pe_int pa_nil)) (blkOk_by (own := [("_law_form", 11)]) (N := N_law) (sc := defScope s_law) (by decide +kernel)) (fun _ _ _ _ _ => (pg_name (i := 11) sc_law.nd rfl (by first | exact .inl rfl | exact .inr rfl))) (fun _ _ _ _ _ => pts_nil) (fun _ _ _ _ _ => (pe_call G_law_told (hr.mono (by omega)) (by rfl) T.g_law_told T.F_law_told.kp T.b_law_told .nil pass0 (pa_cons (pv 9) (pa_cons (pv 11) (pa_cons (pv 12) pa_nil)))))) (pe_op op_rep (pe_lst (pa_cons pe_str pa_nil)) pe_int) (nomark _))
      (pss_one (ps_ret pe_bl))
      pss_nil)))))))))))
      (pss_one (ps_ret pe_bl)))))))), ?_⟩
  walk_at "st"
  walk_at "vc"
  refine ⟨ns, ha, hl, by decide, by decide, fun d L H1 e1 D => ⟨L, D, by decide, by decide, fun ps nms H2 M2 hps n1 n2 hp hlen hw hnd => ?_⟩⟩
  obtain ⟨x, y, rfl⟩ : ∃ x y, nms = [x, y] := by
    match nms, hlen with
    | [x, y], _ => exact ⟨x, y, rfl⟩
    | [], h => exact absurd h (by decide)
    | [_], h => exact absurd h (by simp)
    | _ :: _ :: _ :: _, h => exact absurd h (by simp; omega)
  have hx := hw x (by simp)
  have hy := hw y (by simp)
  have nxy : x ≠ y := fun e => by rw [e] at hnd; simp at hnd
  refine ⟨ps, _, rfl, sq_of hp, rfl, ?_⟩
  simp only [gCons, gNil]
  walk_at "vc"
  have M12 := (Mv3.of_ex D (Ex.refl _)).trans M2
  have D2 := M2.dl
  clear hp M12 hlen hnd
  refine ⟨_, _, rfl, _, _, rfl, rfl, ?_⟩
  refine ⟨sz_le (by simp), fun a1 h1 => ⟨sz_le (by simp), fun b1 g1 => ⟨sz_le (by simp), fun a2 h2 => ⟨sz_le (by simp), fun b2 g2 => ⟨sz_le (by simp), fun a3 h3 => ⟨sz_le (by simp), fun b3 g3 => ⟨sz_le (by simp), fun b4 g4 => ⟨sz_le (by simp), fun lp hlp => ?_⟩⟩⟩⟩⟩⟩⟩⟩
  have i1 := Ex.new h1 (o := .tup [.str y, .str x])
  have j1 := Ex.new g1 (o := .tup [.str (Str.ofString "put"), .str x, .str (Str.ofString "-"), .ref a1])
  have i2 := Ex.new h2 (o := .tup [.str x, .str y])
  have j2 := Ex.new g2 (o := .tup [.str (Str.ofString "put"), .str x, .str (Str.ofString "//"), .ref a2])
  have i3 := Ex.new h3 (o := .tup [.str x, .str y])
  have j3 := Ex.new g3 (o := .tup [.str (Str.ofString "put"), .str y, .str (Str.ofString "rest"), .ref a3])
  have j4 := Ex.new g4 (o := .tup [.str (Str.ofString "stop")])
  have il := Ex.new hlp (o := .lst [.ref b1, .ref b2, .ref b3, .ref b4])
  have k4 := j4.trans il
  have k3 := j3.trans k4
  have k23 := i3.trans k3
  have k2 := j2.trans k23
  have k12 := i2.trans k2
  have k1 := j1.trans k12
  have k01 := i1.trans k1
  have r1 : RowT K _ (.put x "-" [.str y, .str x]) (.ref b1) := ⟨b1, a1, rfl, k12.sqt (st_of upd_same), k1.sqt (st_of upd_same)⟩
  have r2 : RowT K _ (.put x "//" [.str x, .str y]) (.ref b2) := ⟨b2, a2, rfl, k23.sqt (st_of upd_same), k2.sqt (st_of upd_same)⟩
  have r3 : RowT K _ (.put y "rest" [.str x, .str y]) (.ref b3) := ⟨b3, a3, rfl, k4.sqt (st_of upd_same), k3.sqt (st_of upd_same)⟩
  have r4 : RowT K _ .stop (.ref b4) := ⟨b4, rfl, il.sqt (st_of upd_same)⟩
  have wl := upd_same (H := upd (upd (upd (upd (upd (upd (upd H2 a1 (.tup [.str y, .str x])) b1 (.tup [.str (Str.ofString "put"), .str x, .str (Str.ofString "-"), .ref a1])) a2 (.tup [.str x, .str y])) b2 (.tup [.str (Str.ofString "put"), .str x, .str (Str.ofString "//"), .ref a2])) a3 (.tup [.str x, .str y])) b3 (.tup [.str (Str.ofString "put"), .str y, .str (Str.ofString "rest"), .ref a3])) b4 (.tup [.str (Str.ofString "stop")])) (a := lp) (o := .lst [.ref b1, .ref b2, .ref b3, .ref b4])
  have M3 := Mv3.of_ex D2 k01
  have fl : H2 lp = none := (((((((i1.trans j1).trans i2).trans j2).trans i3).trans j3).trans j4)).free hlp
  have ofl := D2.off fl
  clear h1 g1 h2 g2 h3 g3 g4 hlp i1 j1 i2 j2 i3 j3 j4 il k4 k3 k23 k2 k12 k1 k01
  generalize upd (upd (upd (upd (upd (upd (upd (upd H2 a1 _) b1 _) a2 _) b2 _) a3 _) b3 _) b4 _) lp _ = H3 at *
  refine ⟨.inl ⟨rfl, _, sq_of wl⟩, ?_⟩
  refine ⟨sz_le (by simp), fun a5 h5 => ⟨sz_le (by simp), fun b5 g5 => ?_⟩⟩
  have i5 := Ex.new h5 (o := .tup [.int 1, .int 35, .int 0])
  have j5 := Ex.new g5 (o := .tup [.str (Str.ofString "put"), .str x, .str (Str.ofString "figures"), .ref a5])
  have k5 := i5.trans j5
  have wl5 := k5 _ _ wl
  refine ⟨_, wl5, sz_lt (by simp), ?_⟩
  have r5 : RowT K _ (.put x "figures" [.int 1, .int 35, .int 0]) (.ref b5) := ⟨b5, a5, rfl, st_of upd_same, j5.sqt (st_of upd_same)⟩
  have kl := Kp.updL (ys := [.ref b1, .ref b2, .ref b3, .ref b4] ++ [.ref b5]) wl5
  have rsT : RowTs K _ (stopR x y) [.ref b1, .ref b2, .ref b3, .ref b4, .ref b5] := ⟨_, _, rfl, (r1.ex k5).kp kl, _, _, rfl, (r2.ex k5).kp kl, _, _, rfl, (r3.ex k5).kp kl, _, _, rfl, (r4.ex k5).kp kl, _, _, rfl, r5.kp kl, rfl⟩
  have wl6 := upd_same (H := upd (upd H3 a5 (.tup [.int 1, .int 35, .int 0])) b5 (.tup [.str (Str.ofString "put"), .str x, .str (Str.ofString "figures"), .ref a5])) (a := lp) (o := .lst ([.ref b1, .ref b2, .ref b3, .ref b4] ++ [.ref b5]))
  have M4 := (M3.tex k5).mut (o := .lst ([.ref b1, .ref b2, .ref b3, .ref b4] ++ [.ref b5])) fl ofl.1 ofl.2
  clear h5 g5 i5 j5 k5 wl5 wl kl r1 r2 r3 r4 r5 M3
  have D4 := M4.dl
  generalize upd (upd (upd H3 a5 _) b5 _) lp _ = H4 at *
  clear M4 D2 fl D M2 e1
  generalize hsv : ([.ref b1, .ref b2, .ref b3, .ref b4, .ref b5] : List V) = svs at *
  have svl : svs.length = 5 := by rw [← hsv]; rfl
  have wl6 : H4 lp = some (.lst svs) := by rw [← hsv]; exact wl6
  refine ⟨fun σ H' => ∃ x6 x7 x8 x9 x10 x11 x12 x13, σ = [some (.ref a), some (.ref d), some (.ref ps), some (.str x), some (.str y), some (.ref lp), x6, x7, x8, x9, x10, x11, x12, x13], ?_, fun σ H' hm => ?_⟩
  · refine ⟨_, rfl, by omega, by omega, for_range (lo := 0) (n := 4) (fun i σ H' => (∃ x6 x7 x8 x9 x10 x11 x12 x13, σ = [some (.ref a), some (.ref d), some (.ref ps), some (.str x), some (.str y), some (.ref lp), x6, x7, x8, x9, x10, x11, x12, x13]) ∧ Mv3 d L H4 H') ⟨⟨_, _, _, _, _, _, _, _, rfl⟩, Mv3.refl D4⟩ (fun i σ H5 hi hw => ?_) (fun σ H' hw => hw.1)⟩
    obtain ⟨⟨x6, x7, x8, x9, x10, x11, x12, x13, rfl⟩, M5⟩ := hw
    have D5 := M5.dl
    have wl := M5.kp _ _ ofl.1 ofl.2 wl6
    have rsT := rsT.kp (Mv3.kpx D4 M5)
    walk_at "vc"
    refine ⟨L, D5, by decide, by decide, fun v0 H6 va vb M6 => ⟨_, rfl, sz_le (by simp), fun p1 h1 => ⟨sz_le (by simp), fun p2 h2 => ⟨sz_le (by simp), fun p3 h3 => ⟨sz_le (by simp), fun p4 h4 => ⟨sz_le (by simp), fun p5 h5 => ⟨sz_le (by simp), fun p6 h6 => ?_⟩⟩⟩⟩⟩⟩⟩
    have i1 := Ex.new h1 (o := .tup [.int (1 + v0)])
    have i2 := Ex.new h2 (o := .tup [.str (Str.ofString "put"), .str x, .str (Str.ofString "number"), .ref p1])
    have i3 := Ex.new h3 (o := .lst [.ref p2])
    have i4 := Ex.new h4 (o := .tup [])
    have i5 := Ex.new h5 (o := .tup [.str (Str.ofString "put"), .str x, .str (Str.ofString "base"), .ref p4])
    have i6 := Ex.new h6 (o := .lst [.ref p5])
    have k56 := i5.trans i6
    have k46 := i4.trans k56
    have k36 := i3.trans k46
    have k26 := i2.trans k36
    have k16 := i1.trans k26
    have t1 : RowT K _ (numR x (1 + v0)) (.ref p2) := ⟨p2, p1, rfl, k36.sqt (st_of upd_same), k26.sqt (st_of upd_same)⟩
    have t2 : RowT K _ (baseR x) (.ref p5) := ⟨p5, p4, rfl, i6.sqt (st_of upd_same), k56.sqt (st_of upd_same)⟩
    have w3 := k46 _ _ (upd_same (H := upd (upd H6 p1 (.tup [.int (1 + v0)])) p2 (.tup [.str (Str.ofString "put"), .str x, .str (Str.ofString "number"), .ref p1])) (a := p3) (o := .lst [.ref p2]))
    have w6 := upd_same (H := upd (upd (upd (upd (upd H6 p1 (.tup [.int (1 + v0)])) p2 (.tup [.str (Str.ofString "put"), .str x, .str (Str.ofString "number"), .ref p1])) p3 (.lst [.ref p2])) p4 (.tup [])) p5 (.tup [.str (Str.ofString "put"), .str x, .str (Str.ofString "base"), .ref p4])) (a := p6) (o := .lst [.ref p5])
    have D6 := M6.dl
    have of3 := D6.off ((i1.trans i2).free h3)
    have of6 := D6.off ((((i1.trans i2).trans i3).trans (i4.trans i5)).free h6)
    have M7 := (M5.trans M6).tex k16
    have wl7 := M7.kp _ _ ofl.1 ofl.2 wl6
    have D7 := M7.dl
    have rs7 := rsT.kp (Mv3.kpx D5 (M6.tex k16))
    clear h1 h2 h3 h4 h5 h6 i1 i2 i3 i4 i5 i6 k56 k46 k36 k26 k16 wl rsT
    generalize upd (upd (upd (upd (upd (upd H6 p1 _) p2 _) p3 _) p4 _) p5 _) p6 _ = H7 at *
    clear D6 M6 D5 M5
    refine ⟨L, D7, by decide, by decide, fun c H8 ca cb M8 => ?_⟩
    obtain ⟨c, rfl⟩ := Int.eq_ofNat_of_zero_le ca
    have w3' := M8.kp _ _ of3.1 of3.2 w3
    have w6' := M8.kp _ _ of6.1 of6.2 w6
    have kp8 := Mv3.kpx D7 M8
    have t1 := t1.kp kp8
    have t2 := t2.kp kp8
    have rs8 := rs7.kp kp8
    have M9 := M7.trans M8
    have wl8 := M9.kp _ _ ofl.1 ofl.2 wl6
    have D8 := M9.dl
    refine ⟨p6, c, _, rfl, rfl, w6', by omega, by omega, sz_le (by simp; omega), fun q1 hq1 => ?_⟩
    rw [show (List.replicate (Int.toNat (c : Int)) [V.ref p5]).flatten = List.replicate c (V.ref p5) by rw [Int.toNat_natCast, List.flatten_replicate_singleton]]
    have e1 := Ex.new hq1 (o := .lst (List.replicate c (V.ref p5)))
    have c3 : c < 3 := by omega
    refine ⟨p3, q1, _, _, rfl, rfl, e1 _ _ w3', upd_same, sz_le (by simp; omega), fun q2 hq2 => ?_⟩
    have e2 := Ex.new hq2 (o := .lst ([V.ref p2] ++ List.replicate c (V.ref p5)))
    have wa := upd_same (H := upd H8 q1 (.lst (List.replicate c (V.ref p5)))) (a := q2) (o := .lst ([V.ref p2] ++ List.replicate c (V.ref p5)))
    have rsA : RowTs K H8 (numR x (1 + v0) :: List.replicate c (baseR x)) ([V.ref p2] ++ List.replicate c (V.ref p5)) := ⟨_, _, rfl, t1, RowTs.rep t2 c⟩
    have rsA := rsA.ex (e1.trans e2)
    have ofa := D8.off (e1.free hq2)
    have M10 := M9.tex (e1.trans e2)
    have rs10 := rs8.ex (e1.trans e2)
    have al : ([V.ref p2] ++ List.replicate c (V.ref p5)).length = c + 1 := by simp
    generalize ([V.ref p2] ++ List.replicate c (V.ref p5)) = av at *
    generalize upd (upd H8 q1 (.lst (List.replicate c (V.ref p5)))) q2 (.lst av) = H10 at *
    have D10 := M10.dl
    have wl10 := M10.kp _ _ ofl.1 ofl.2 wl6
    clear e1 e2 hq1 hq2 w3' w6' w3 w6 t1 t2 rs8 rs7 M8 kp8 wl7 wl8 D8 D7 M9 M7
    refine ⟨L, D10, .inl ⟨lp, svs, rfl, wl10, ofl.1, ofl.2, by omega, by omega, fun v H11 hv M11 => ?_⟩⟩
    have kp11 := Mv3.kpx D10 M11
    obtain ⟨r, hr, hrv⟩ : ∃ r, r ∈ stopR x y ∧ RowT K H11 r v := by
      obtain ⟨j, hj⟩ := List.mem_iff_getElem?.mp hv
      obtain ⟨r, hr, h⟩ := rs10.at_ hj
      exact ⟨r, List.mem_of_getElem? hr, h.kp kp11⟩
    have rsA := rsA.kp kp11
    have wa11 := M11.kp _ _ ofa.1 ofa.2 wa
    have M11' := M10.trans M11
    refine ⟨sz_le (by simp), fun z1 g1 => ⟨sz_le (by simp), fun z2 g2 => ⟨sz_le (by simp), fun z3 g3 => ?_⟩⟩⟩
    have i1 := Ex.new g1 (o := .tup [.int 7])
    have i2 := Ex.new g2 (o := .tup [.str (Str.ofString "put"), .str x, .str (Str.ofString "number"), .ref z1])
    have i3 := Ex.new g3 (o := .lst [v, .ref z2])
    have k23 := i2.trans i3
    have k13 := i1.trans k23
    have t7 : RowT K _ (numR x 7) (.ref z2) := ⟨z2, z1, rfl, i3.sqt (st_of upd_same), k23.sqt (st_of upd_same)⟩
    have rsB := rsA.ex k13
    have hrv2 := hrv.ex k13
    have wa12 := k13 _ _ wa11
    have wz := upd_same (H := upd (upd H11 z1 (.tup [.int 7])) z2 (.tup [.str (Str.ofString "put"), .str x, .str (Str.ofString "number"), .ref z1])) (a := z3) (o := .lst [v, .ref z2])
    have M12 := M11'.tex k13
    clear g1 g2 g3 i1 i2 i3 k23 k13
    generalize upd (upd (upd H11 z1 _) z2 _) z3 _ = H12 at *
    refine ⟨q2, z3, _, _, rfl, rfl, wa12, wz, sz_le (by simp; omega), fun q3 hq3 => ?_⟩
    have e3 := Ex.new hq3 (o := .lst (av ++ [v, .ref z2]))
    have hall : RowTs K _ (allR x (1 + v0) c r) (av ++ [v, .ref z2]) := (rsB.app (os := [r, numR x 7]) ⟨_, _, rfl, hrv2, _, _, rfl, t7, rfl⟩).ex e3
    have wr := upd_same (H := H12) (a := q3) (o := .lst (av ++ [v, .ref z2]))
    have M13 := M12.tex e3
    have wa13 := e3 _ _ wa12
    have rl : (av ++ [v, V.ref z2]).length = c + 3 := by simp; omega
    generalize upd H12 q3 (.lst (av ++ [v, .ref z2])) = H13 at *
    generalize (av ++ [v, V.ref z2]) = rv at *
    clear e3 hq3 wz wa12 t7 hrv2 rsB M12 wa11 M11' rsA hrv kp11 M11 wl10 D10 rs10 M10 wa
    have D13 := M13.dl
    have hL := allR_L (c := c) (show (0 : Int) ≤ 1 + v0 by omega) (by omega) hr
    have hG := rows_good hx hy hL
    have stp := fun (b : Int) (b2 : 2 ≤ b) (b35 : b ≤ 35) => stop_R (c := c) nxy b2 b35 (show (1 : Int) ≤ 1 + v0 by omega) (by omega) hr
    have ml : (allR x (1 + v0) c r).length = c + 3 := by unfold allR; simp
    generalize allR x (1 + v0) c r = ms at *
    unfold tMake
    walk_at "vc"
    refine ⟨_, rfl, q3, rfl, ⟨_, sq_of wr⟩, fun D0 hD0 => lc_list (xs := rv) (fun j H' => ∃ us, H' D0 = some (.lst us) ∧ RowOs K ⟨a_Put, a_If, a_Times, a_Stop, a_Ask, a_Not⟩ H' (ms.take j) us ∧ us.length = j ∧ Ex H13 H') ⟨[], upd_same, by rw [List.take_zero, RowOs], rfl, Ex.new hD0⟩ (fun j H' _ hP => by obtain ⟨us, _, _, _, e⟩ := hP; exact sq_of (e _ _ wr)) (fun j z H' hz hP => ?_) (fun H14 hP => ?_)⟩
    · obtain ⟨us, w1, w2, w3, e⟩ := hP
      obtain ⟨r2, hr2, hT2⟩ := hall.at_ hz
      have hl2 := hL r2 (List.mem_of_getElem? hr2)
      have ok2 := hl2.ok hx hy
      have hj := (List.getElem?_eq_some_iff.mp hz).1
      walk_at "vc"
      refine ⟨r2, hT2.ex e, ok2.1, ok2.2, by rw [hl2.plain.2.1]; decide, fun u H'' e2 hO _ => ?_⟩
      have w1' := e2 _ _ w1
      have kl := Kp.updL (ys := us ++ [u]) w1'
      refine ⟨us, w1', sz_lt (by omega), us ++ [u], upd_same, ?_, by rw [List.length_append, w3]; rfl, (e.trans e2).mut hD0⟩
      rw [List.take_add_one, hr2]
      exact (RowOs.snoc (w2.ex e2) hO).kp kl
    obtain ⟨us, w1, w2, w3, e14⟩ := hP
    rw [rl, ← ml, List.take_length] at w2
    have gd : GdP ms := ⟨hG.1, hG.2.1, by omega, by omega⟩
    refine fun pp pd hpp hpd hne => mkProg hpp hpd hne (.inl w1) w2 gd fun H15 e15 hP => ⟨rfl, ?_⟩
    have M15 := M13.tex (e14.trans e15)
    have wa15 := e15 _ _ (e14 _ _ wa13)
    have D15 := M15.dl
    refine ⟨L, D15, by decide, by decide, fun g H16 ga gb M16 => ⟨_, rfl, sz_le (by simp), fun p7 h7 => ⟨p7, _, rfl, st_of upd_same, rfl, ?_⟩⟩⟩
    have e17 := Ex.new h7 (o := .tup [.ref pp, .int (2 + g)])
    have hP17 := (hP.kp (Mv3.kpx D15 M16)).ex e17
    have wa17 := e17 _ _ (M16.kp _ _ ofa.1 ofa.2 wa15)
    have M17 := (M15.trans M16).tex e17
    have D17 := M17.dl
    have stb := stp (2 + g) (by omega) (by omega)
    generalize upd H16 p7 _ = H17 at *
    clear e17 h7 M16 D15 wa15 M15 hP w1 w2 hpp hpd hne e15 e14 H15 H16 hD0 wr wa13 M13 D13 hall stp
    simp only [gCons, gNil]
    walk_at "vc"
    have hG2 : RowM.cnts ms ≤ 20 := by omega
    refine ⟨fun σ H => Ex H17 H ∧ ∃ y11, σ = [some (.ref a), some (.ref d), some (.ref ps), some (.str x), some (.str y), some (.ref lp), some (.int (0 + (i : Int))), some (.ref q2), some (.ref q3), some (.ref pp), some (.int (2 + g)), y11, x12, x13], ?_, fun σ H18 hm => ?_⟩
    · refine ⟨sz_le (by simp), fun p8 h8 => ?_⟩
      have e18 := Ex.new h8 (o := .tup [.int 0, .int 2, .int 3])
      have w8 := st_of (K := K) (upd_same (H := H17) (a := p8) (o := .tup [.int 0, .int 2, .int 3]))
      generalize upd H17 p8 _ = H18 at *
      refine ⟨p8, rfl, ⟨_, w8⟩, for_tup (xs := [.int 0, .int 2, .int 3]) (fun j σ H => Ex H18 H ∧ ∃ y11, σ = [some (.ref a), some (.ref d), some (.ref ps), some (.str x), some (.str y), some (.ref lp), some (.int (0 + (i : Int))), some (.ref q2), some (.ref q3), some (.ref pp), some (.int (2 + g)), y11, x12, x13]) ⟨Ex.refl _, _, rfl⟩ (fun j σ H' _ hw => hw.1.sqt w8) (fun j z σ H' hz hw => ?_) (fun σ H' hw => ⟨e18.trans hw.1, hw.2⟩)⟩
      obtain ⟨e19, y11, rfl⟩ := hw
      obtain ⟨m, rfl, hm1⟩ : ∃ m : Int, z = .int m ∧ m ≠ 1 := by
        have := List.mem_of_getElem? hz
        simp only [List.mem_cons, List.not_mem_nil, or_false] at this
        rcases this with rfl | rfl | rfl <;> exact ⟨_, rfl, by decide⟩
      have e20 := e18.trans e19
      walk_at "vc"
      refine ⟨ms, us, hP17.ex e20, hG.2.2.1, hG2, .inl ⟨2 + g, c + 1, rfl, stb, fun H' e => ?_⟩⟩
      rw [if_neg hm1]
      refine ⟨av, .inl (sq_of (e _ _ (e20 _ _ wa17))), neInt ⟨_, rfl, ?_⟩⟩
      rw [if_neg (by rw [al]; simp)]
      exact ⟨e19.trans e, _, rfl⟩
    · obtain ⟨e18, y11, rfl⟩ := hm
      walk_at "vc"
      refine ⟨ms, us, hP17.ex e18, hG.2.2.1, hG2, .inl ⟨2 + g, c + 1, rfl, stb, fun H' e => ?_⟩⟩
      rw [if_pos rfl]
      refine neStrS (by decide +kernel) ⟨_, rfl, ?_⟩
      rw [if_neg (by decide)]
      have e19 := e18.trans e
      refine ⟨_, rfl, _, rfl, ms, us, hP17.ex e19, hG.2.2.1, hG2, .inl ⟨2 + g, c + 1, rfl, stb, fun t H20 e20 ht => ?_⟩⟩
      have e21 := e19.trans e20
      unfold tTupRg tRg1
      walk_at "vc"
      refine ⟨av, .inl (sq_of (e21 _ _ wa17)), ?_⟩
      refine ⟨⟨by omega, by omega, by omega, by omega, by omega⟩, fun q4 hq4 => ?_⟩
      have e22 := Ex.new hq4 (o := .tup (rgV 0 ((av.length : Int) + 1)))
      have erg : rgV 0 ((av.length : Int) + 1) = ((List.range (c + 1 + 1)).map fun (i : Nat) => (i : Int)).map V.int := by
        unfold rgV
        rw [List.map_map, al, show ((((c + 1 : Nat) : Int) + 1) - 0).toNat = c + 1 + 1 by omega]
        exact List.map_congr_left fun j _ => by show V.int (0 + (j : Int)) = V.int j; rw [Int.zero_add]
      refine neTups (xs := (List.range (c + 1 + 1)).map fun (i : Nat) => (i : Int)) (ys := (List.range (c + 1 + 1)).map fun (i : Nat) => (i : Int)) (by rw [List.map_map]; exact e22.sqt ht) (st_of (by rw [upd_same, erg])) ⟨_, rfl, ?_⟩
      rw [if_neg (by simp)]
      have e23 := e21.trans e22
      generalize upd H20 q4 _ = H23 at *
      have M23 := M17.tex e23
      have hP23 := hP17.ex e23
      have D23 := M23.dl
      clear erg e22 hq4 e21 e20 ht e19 e e18 e23
      refine ⟨_, rfl, L, D23, by decide, by decide, fun g2 H24 ga2 gb2 M24 => ?_⟩
      have hP24 := hP23.kp (Mv3.kpx D23 M24)
      have M24' := M23.trans M24
      refine ⟨_, _, rfl, rfl, sz_le (by simp), fun t1 k1 => ⟨sz_le (by simp), fun l2 k2 => ⟨_, rfl, sz_le (by simp), fun l9 k9 => ?_⟩⟩⟩
      have i1 := Ex.new k1 (o := .tup [.int 10])
      have i2 := Ex.new k2 (o := .lst [.int 2])
      have i9 := Ex.new k9 (o := .lst [.int 0, .int 1, .int (0 - g2), .bl true, .non, .str (Str.ofString "10"), .ref t1, .ref l2, .ref pp])
      have w1 := i9 _ _ (i2 _ _ (upd_same (H := H24) (a := t1) (o := .tup [.int 10])))
      have w2 := i9 _ _ (upd_same (H := upd H24 t1 (.tup [.int 10])) (a := l2) (o := .lst [.int 2]))
      have w9 := upd_same (H := upd (upd H24 t1 (.tup [.int 10])) l2 (.lst [.int 2])) (a := l9) (o := .lst [.int 0, .int 1, .int (0 - g2), .bl true, .non, .str (Str.ofString "10"), .ref t1, .ref l2, .ref pp])
      have i19 := (i1.trans i2).trans i9
      have M25 := M24'.tex i19
      have hP25 := hP24.ex i19
      clear i1 i2 i9 i19 k1 k2 k9 M24' hP24 hP23 M23 D23 M24 D17 M17
      generalize upd (upd (upd H24 t1 _) l2 _) l9 _ = H25 at *
      have things : ∀ z ∈ [V.int 0, .int 1, .int (0 - g2), .bl true, .non, .str (Str.ofString "10"), .ref t1, .ref l2, .ref pp], BaseV K a_Program H25 z false := by
        intro z hz
        simp only [List.mem_cons, List.not_mem_nil, or_false] at hz
        rcases hz with rfl | rfl | rfl | rfl | rfl | rfl | rfl | rfl | rfl
        · exact .inl ⟨rfl, by simp [isInt]⟩
        · exact .inl ⟨rfl, by simp [isInt]⟩
        · exact .inl ⟨rfl, by simp [isInt]; omega⟩
        · exact .inl ⟨rfl, rfl⟩
        · exact .inl ⟨rfl, rfl⟩
        · exact .inl ⟨rfl, rfl⟩
        · exact .inl ⟨by simp only [vty, w1]; rfl, rfl⟩
        · exact .inl ⟨by simp only [vty, w2]; rfl, rfl⟩
        · obtain ⟨pa, pdx, _, _, _, e, hh, _⟩ := hP25
          cases e
          exact .inr ⟨pp, pdx, _, rfl, hh, rfl⟩
      refine ⟨l9, rfl, ⟨_, sq_of w9⟩, for_list (xs := [V.int 0, .int 1, .int (0 - g2), .bl true, .non, .str (Str.ofString "10"), .ref t1, .ref l2, .ref pp]) (fun j σ H => Ex H25 H ∧ ∃ y11 y12 y13, σ = [some (.ref a), some (.ref d), some (.ref ps), some (.str x), some (.str y), some (.ref lp), some (.int (0 + (i : Int))), some (.ref q2), some (.ref q3), some (.ref pp), some (.int (2 + g)), y11, y12, y13]) ⟨Ex.refl _, _, _, _, rfl⟩ (fun j σ H' _ hw => sq_of (hw.1 _ _ w9)) (fun j z σ H' hz hw => ?_) (fun σ H' hw => ?_)⟩
      · obtain ⟨e26, y11, y12, y13, rfl⟩ := hw
        have hb := things z (List.mem_of_getElem? hz)
        walk_at "vc"
        refine ⟨_, rfl, by omega, by omega, fun D0 hD0 => lc_range (lo := 0) (n := 4) (fun k H => H D0 = some (.lst (List.replicate k (V.str (Str.ofString "base")))) ∧ Ex H' H) ⟨upd_same, Ex.new hD0⟩ (fun k H2 hk hP => ?_) (fun H2 hP => ?_)⟩
        · obtain ⟨v1, v2⟩ := hP
          have e27 := e26.trans v2
          walk_at "vc"
          refine ⟨ms, us, hP25.ex e27, hG.2.2.1, hG2, .inr ⟨hb.ex e27, fun H3 e3 => ?_⟩⟩
          refine ⟨_, e3 _ _ v1, sz_lt (by simp; omega), ?_, (v2.trans e3).mut hD0⟩
          rw [upd_same, List.replicate_succ']
        · obtain ⟨v1, v2⟩ := hP
          refine ⟨sz_le (by simp), fun p8 h8 => ?_⟩
          have i8 := Ex.new h8 (o := .lst [.str (Str.ofString "base")])
          refine ⟨p8, 4, _, rfl, rfl, upd_same, by omega, by omega, sz_le (by simp), fun p9 h9 => ?_⟩
          have i9 := Ex.new h9 (o := .lst (List.replicate (Int.toNat 4) [V.str (Str.ofString "base")]).flatten)
          refine ne4 (by decide +kernel) (i9 _ _ (i8 _ _ v1)) (by rw [upd_same]; rfl) ⟨_, rfl, ?_⟩
          rw [if_neg (by decide)]
          exact ⟨e26.trans (v2.trans (i8.trans i9)), _, rfl⟩
      · obtain ⟨e26, y11, y12, y13, rfl⟩ := hw
        exact ⟨⟨_, _, _, _, _, _, _, _, rfl⟩, M25.tex e26⟩
  · obtain ⟨x6, x7, x8, x9, x10, x11, x12, x13, rfl⟩ := hm
    walk_at "vc"
    exact q _
end
end My
set_option Elab.async false
set_option linter.all false
set_option maxRecDepth 100000
set_option maxHeartbeats 4000000
set_option exponentiation.threshold 5000
namespace My
open PySem PySem.Spec PyProof.Rows L2 Evl
local macro_rules | `(tactic| walk_at "st") => `(tactic| simp only [L2.start, List.map_cons, List.map_nil, List.length_cons, List.length_nil, Nat.reduceAdd, Nat.reduceSub, List.replicate_succ, List.replicate_zero, List.cons_append, List.nil_append, cxOf, List.append_nil])
local macro_rules | `(tactic| walk_at "vc") => `(tactic| try simp only [tSeq, tAsg, tOp, tUn, tVar, tC, tNil, tCons, gName, rI, rI0, rU, tRet, tIfS, tNot, tAnd, tOr, tB, tTest, tCB, tCall, tAndV, tOrV, tNotV, tNext, tNever, tIf, tChain, tYes, tPart, tNoPart, tPar, tDrop, q_isi, q_vn, q_vb, q_vi, q_vs, kb1, kb2, kb3, kb4, kb5, kb6, kb7, kb8, q_int1, q_int2, q_min, q_max, q_repr, tLst, tTup, rEq, rNe, q_sii, q_sss, q_sbb, q_snn, q_sns, q_ssn, q_ix, q_sl, tSl, tBM, tBM0, q_app, q_pop, gSub, rSetL, L2.wipe, eq_self, decide_true, decide_false, tRevL,
  List.getElem?_cons_succ, List.getElem?_cons_zero, List.set_cons_succ, List.set_cons_zero, Option.some.injEq, exists_eq_left', exists_eq_left, V.int.injEq, V.bl.injEq, V.ref.injEq, V.str.injEq, List.cons.injEq, and_true, true_and, List.append_nil, List.nil_append, List.cons_append, exists_and_left, and_assoc, if_true, if_false, Bool.not_true, Bool.not_false, Bool.false_eq_true, Bool.true_eq_false, reduceIte, tRevL, tPar3, tRevT, tUnl, tCKw, forall_const, Bool.not_eq_true', decide_eq_true_eq, decide_eq_false_iff_not])
theorem factsL {P : Program} {w : World} {K : PySem.W.Frag} {h : Heap} {mg : Str → Option Value} {fa : Addr} (X : K.In h) (G : h.Ns mainGlobals mg) (hfa : mg "law" = some (.ref fa)) (c : SaysL fnL tsL fsL w K) :
    ∃ fd : FuncData, (∀ (s : Shared) (v : Value), BindsTo s fd ⟨[v], []⟩ [("_law_script", v)]) ∧ ∀ base : Heap, K.In base → base.Ns mainGlobals mg → FnOk P w K mg base CX0 90 fa fd ["_law_script"] (sp_law K) := by
  have e := hfa.symm.trans (PySem.W.mg_of X G (of_decide_eq_true (bit c 1 8 rfl rfl)))
  cases e
  obtain ⟨d_is_integer, H_is_integer⟩ := (He.SaysT.d c.t).def_ 0 (d := D_is_integer) rfl
  have F_is_integer : Fun K "is_integer" "is_integer" s_is_integer (He.ga K "is_integer") d_is_integer := toFun H_is_integer
  have b_is_integer := F_is_integer.binds (ps := ["value"]) fun _ _ _ _ _ _ us hl => match us, hl with | [_], _ => rfl
  obtain ⟨d_is_number, H_is_number⟩ := (He.SaysT.d c.t).def_ 1 (d := D_is_number) rfl
  have F_is_number : Fun K "is_number" "is_number" s_is_number (He.ga K "is_number") d_is_number := toFun H_is_number
  have b_is_number := F_is_number.binds (ps := ["value"]) fun _ _ _ _ _ _ us hl => match us, hl with | [_], _ => rfl
  obtain ⟨d_is_base, H_is_base⟩ := (He.SaysT.d c.t).def_ 2 (d := D_is_base) rfl
  have F_is_base : Fun K "is_base" "is_base" s_is_base (He.ga K "is_base") d_is_base := toFun H_is_base
  have b_is_base := F_is_base.binds (ps := ["value"]) fun _ _ _ _ _ _ us hl => match us, hl with | [_], _ => rfl
  obtain ⟨d_is_name, H_is_name⟩ := (He.SaysT.d c.t).def_ 3 (d := D_is_name) rfl
  have F_is_name : Fun K "is_name" "is_name" s_is_name (He.ga K "is_name") d_is_name := toFun H_is_name
  have b_is_name := F_is_name.binds (ps := ["value"]) fun _ _ _ _ _ _ us hl => match us, hl with | [_], _ => rfl
  obtain ⟨d_are_rows, H_are_rows⟩ := (He.SaysT.d c.t).def_ 4 (d := D_are_rows) rfl
  have F_are_rows : Fun K "are_rows" "are_rows" s_are_rows (He.ga K "are_rows") d_are_rows := toFun H_are_rows
  have b_are_rows := F_are_rows.binds (ps := ["value"]) fun _ _ _ _ _ _ us hl => match us, hl with | [_], _ => rfl
  obtain ⟨d_needed, H_needed⟩ := (He.SaysT.d c.t).def_ 5 (d := D_needed) rfl
  have F_needed : Fun K "needed" "needed" s_needed (He.ga K "needed") d_needed := toFun H_needed
  have b_needed := F_needed.binds (ps := ["deed", "many"]) fun _ _ _ _ _ _ us hl => match us, hl with | [_, _], _ => rfl
  obtain ⟨d_fits, H_fits⟩ := (He.SaysT.d c.t).def_ 6 (d := D_fits) rfl
  have F_fits : Fun K "_fits" "_fits" s_fits (He.ga K "_fits") d_fits := toFun H_fits
  have b_fits := F_fits.binds (ps := ["deed", "given"]) fun _ _ _ _ _ _ us hl => match us, hl with | [_, _], _ => rfl
  obtain ⟨d_is_of, H_is_of⟩ := (He.SaysT.d c.t).def_ 7 (d := D_is_of) rfl
  have F_is_of : Fun K "_is_of" "_is_of" s_is_of (He.ga K "_is_of") d_is_of := toFun H_is_of
  have b_is_of := F_is_of.binds (ps := ["kind", "value"]) fun _ _ _ _ _ _ us hl => match us, hl with | [_, _], _ => rfl
  obtain ⟨d_inner, H_inner⟩ := (He.SaysT.d c.t).def_ 8 (d := D_inner) rfl
  have F_inner : Fun K "inner" "inner" s_inner (He.ga K "inner") d_inner := toFun H_inner
  have b_inner := F_inner.binds (ps := ["row"]) fun _ _ _ _ _ _ us hl => match us, hl with | [_], _ => rfl
  obtain ⟨d_flat, H_flat⟩ := (He.SaysT.d c.t).def_ 9 (d := D_flat) rfl
  have F_flat : Fun K "flat" "flat" s_flat (He.ga K "flat") d_flat := toFun H_flat
  have b_flat := F_flat.binds (ps := ["rows"]) fun _ _ _ _ _ _ us hl => match us, hl with | [_], _ => rfl
  obtain ⟨d_names_in, H_names_in⟩ := (He.SaysT.d c.t).def_ 10 (d := D_names_in) rfl
  have F_names_in : Fun K "names_in" "names_in" s_names_in (He.ga K "names_in") d_names_in := toFun H_names_in
  have b_names_in := F_names_in.binds (ps := ["rows"]) fun _ _ _ _ _ _ us hl => match us, hl with | [_], _ => rfl
  obtain ⟨d_bare, H_bare⟩ := (He.SaysT.d c.t).def_ 11 (d := D_bare) rfl
  have F_bare : Fun K "bare" "bare" s_bare (He.ga K "bare") d_bare := toFun H_bare
  have b_bare := F_bare.binds (ps := ["test"]) fun _ _ _ _ _ _ us hl => match us, hl with | [_], _ => rfl
  obtain ⟨d_named, H_named⟩ := (He.SaysT.d c.t).def_ 12 (d := D_named) rfl
  have F_named : Fun K "_named" "_named" s_named (He.ga K "_named") d_named := toFun H_named
  have b_named := F_named.binds (ps := ["row"]) fun _ _ _ _ _ _ us hl => match us, hl with | [_], _ => rfl
  obtain ⟨d_number_of, H_number_of⟩ := (He.SaysT.d c.t).def_ 13 (d := D_number_of) rfl
  have F_number_of : Fun K "number_of" "number_of" s_number_of (He.ga K "number_of") d_number_of := toFun H_number_of
  have b_number_of := F_number_of.binds (ps := ["figures", "base"]) fun _ _ _ _ _ _ us hl => match us, hl with | [_, _], _ => rfl
  obtain ⟨d_joined, H_joined⟩ := (He.SaysT.d c.t).def_ 14 (d := D_joined) rfl
  have F_joined : Fun K "joined" "joined" s_joined (He.ga K "joined") d_joined := toFun H_joined
  have b_joined := F_joined.binds (ps := ["number", "other", "base"]) fun _ _ _ _ _ _ us hl => match us, hl with | [_, _, _], _ => rfl
  obtain ⟨d_result, H_result⟩ := (He.SaysT.d c.t).def_ 15 (d := D_result) rfl
  have F_result : Fun K "result" "result" s_result (He.ga K "result") d_result := toFun H_result
  have b_result := F_result.binds (ps := ["deed", "given", "base"]) fun _ _ _ _ _ _ us hl => match us, hl with | [_, _, _], _ => rfl
  obtain ⟨d_holding, H_holding⟩ := (He.SaysT.d c.t).def_ 16 (d := D_holding) rfl
  have F_holding : Fun K "holding" "holding" s_holding (He.ga K "holding") d_holding := toFun H_holding
  have b_holding := F_holding.binds (ps := ["test", "held", "base"]) fun _ _ _ _ _ _ us hl => match us, hl with | [_, _, _], _ => rfl
  obtain ⟨d_written, H_written⟩ := (He.SaysT.d c.t).def_ 17 (d := D_written) rfl
  have F_written : Fun K "_written" "_written" s_written (He.ga K "_written") d_written := toFun H_written
  have b_written := F_written.binds (ps := ["figures", "base"]) fun _ _ _ _ _ _ us hl => match us, hl with | [_, _], _ => rfl
  obtain ⟨d_part, H_part⟩ := (He.SaysT.d c.t).def_ 18 (d := D_part) rfl
  have F_part : Fun K "_part" "_part" s_part (He.ga K "_part") d_part := toFun H_part
  have b_part := F_part.binds (ps := ["deed", "k", "x", "base"]) fun _ _ _ _ _ _ us hl => match us, hl with | [_, _, _, _], _ => rfl
  obtain ⟨d_of_one, H_of_one⟩ := (He.SaysT.d c.t).def_ 19 (d := D_of_one) rfl
  have F_of_one : Fun K "_of_one" "_of_one" s_of_one (He.ga K "_of_one") d_of_one := toFun H_of_one
  have b_of_one := F_of_one.binds (ps := ["deed", "x", "base"]) fun _ _ _ _ _ _ us hl => match us, hl with | [_, _, _], _ => rfl
  obtain ⟨d_of_two, H_of_two⟩ := (He.SaysT.d c.t).def_ 20 (d := D_of_two) rfl
  have F_of_two : Fun K "_of_two" "_of_two" s_of_two (He.ga K "_of_two") d_of_two := toFun H_of_two
  have b_of_two := F_of_two.binds (ps := ["deed", "x", "y", "base"]) fun _ _ _ _ _ _ us hl => match us, hl with | [_, _, _, _], _ => rfl
  obtain ⟨d_power, H_power⟩ := (He.SaysT.d c.t).def_ 21 (d := D_power) rfl
  have F_power : Fun K "_power" "_power" s_power (He.ga K "_power") d_power := toFun H_power
  have b_power := F_power.binds (ps := ["x", "k"]) fun _ _ _ _ _ _ us hl => match us, hl with | [_, _], _ => rfl
  obtain ⟨d_run, H_run⟩ := (He.SaysT.d c.t).def_ 22 (d := D_run) rfl
  have F_run : Fun K "run" "run" s_run (He.ga K "run") d_run := toFun H_run
  have b_run := F_run.binds (ps := ["program", "base"]) fun _ _ _ _ _ _ us hl => match us, hl with | [_, _], _ => rfl
  obtain ⟨d_came_to, H_came_to⟩ := (He.SaysT.d c.t).def_ 23 (d := D_came_to) rfl
  have F_came_to : Fun K "came_to" "came_to" s_came_to (He.ga K "came_to") d_came_to := toFun H_came_to
  have b_came_to := F_came_to.binds (ps := ["program", "base"]) fun _ _ _ _ _ _ us hl => match us, hl with | [_, _], _ => rfl
  obtain ⟨d_holds, H_holds⟩ := (He.SaysT.d c.t).def_ 24 (d := D_holds) rfl
  have F_holds : Fun K "holds" "holds" s_holds (He.ga K "holds") d_holds := toFun H_holds
  have b_holds := F_holds.binds (ps := ["program", "base", "test"]) fun _ _ _ _ _ _ us hl => match us, hl with | [_, _, _], _ => rfl
  obtain ⟨d_law_deal, H_law_deal⟩ := (He.SaysT.d c.t).def_ 25 (d := D_law_deal) rfl
  have F_law_deal : Fun K "_law_deal" "_law_deal" s_law_deal (He.ga K "_law_deal") d_law_deal := toFun H_law_deal
  have b_law_deal := F_law_deal.binds (ps := ["_law_script", "_law_radix"]) fun _ _ _ _ _ _ us hl => match us, hl with | [_, _], _ => rfl
  obtain ⟨d_law_draw, H_law_draw⟩ := (He.SaysT.d c.t).def_ 26 (d := D_law_draw) rfl
  have F_law_draw : Fun K "_law_draw" "_law_draw" s_law_draw (He.ga K "_law_draw") d_law_draw := toFun H_law_draw
  have b_law_draw := F_law_draw.binds (ps := ["_law_deal_here", "_law_amount"]) fun _ _ _ _ _ _ us hl => match us, hl with | [_, _], _ => rfl
  obtain ⟨d_law_pick, H_law_pick⟩ := (He.SaysT.d c.t).def_ 27 (d := D_law_pick) rfl
  have F_law_pick : Fun K "_law_pick" "_law_pick" s_law_pick (He.ga K "_law_pick") d_law_pick := toFun H_law_pick
  have b_law_pick := F_law_pick.binds (ps := ["_law_deal_here", "_law_some"]) fun _ _ _ _ _ _ us hl => match us, hl with | [_, _], _ => rfl
  obtain ⟨d_law_words, H_law_words⟩ := (He.SaysT.d c.t).def_ 28 (d := D_law_words) rfl
  have F_law_words : Fun K "_law_words" "_law_words" s_law_words (He.ga K "_law_words") d_law_words := toFun H_law_words
  have b_law_words := F_law_words.binds (ps := ["_law_deal_here", "_law_amount"]) fun _ _ _ _ _ _ us hl => match us, hl with | [_, _], _ => rfl
  obtain ⟨d_law_ask_of, H_law_ask_of⟩ := (He.SaysT.d c.t).def_ 29 (d := D_law_ask_of) rfl
  have F_law_ask_of : Fun K "_law_ask_of" "_law_ask_of" s_law_ask_of (He.ga K "_law_ask_of") d_law_ask_of := toFun H_law_ask_of
  have b_law_ask_of := F_law_ask_of.binds (ps := ["_law_test"]) fun _ _ _ _ _ _ us hl => match us, hl with | [_], _ => rfl
  obtain ⟨d_law_row_of, H_law_row_of⟩ := (He.SaysT.d c.t).def_ 30 (d := D_law_row_of) rfl
  have F_law_row_of : Fun K "_law_row_of" "_law_row_of" s_law_row_of (He.ga K "_law_row_of") d_law_row_of := toFun H_law_row_of
  have b_law_row_of := F_law_row_of.binds (ps := ["_law_row"]) fun _ _ _ _ _ _ us hl => match us, hl with | [_], _ => rfl
  obtain ⟨d_law_told, H_law_told⟩ := (He.SaysT.d c.t).def_ 31 (d := D_law_told) rfl
  have F_law_told : Fun K "_law_told" "_law_told" s_law_told (He.ga K "_law_told") d_law_told := toFun H_law_told
  have b_law_told := F_law_told.binds (ps := ["_law_built", "_law_form", "_law_radix"]) fun _ _ _ _ _ _ us hl => match us, hl with | [_, _, _], _ => rfl
  obtain ⟨d_law, H_law⟩ := (He.SaysT.d c.t).def_ 32 (d := D_law) rfl
  have F_law : Fun K "law" "law" s_law (He.ga K "law") d_law := toFun H_law
  have b_law := F_law.binds (ps := ["_law_script"]) fun _ _ _ _ _ _ us hl => match us, hl with | [_], _ => rfl
  obtain ⟨d_Stopped_init, H_Stopped_init⟩ := (He.SaysT.d c.t).def_ 33 (d := D_Stopped_init) rfl
  have F_Stopped_init : Fun K "__init__" "Stopped.__init__" s_Stopped_init (He.ma K (He.ga K "Stopped") "__init__") d_Stopped_init := toFun H_Stopped_init
  have b_Stopped_init := F_Stopped_init.binds (ps := ["self", "at"]) fun _ _ _ _ _ _ us hl => match us, hl with | [_, _], _ => rfl
  obtain ⟨d_Put_init, H_Put_init⟩ := (He.SaysT.d c.t).def_ 34 (d := D_Put_init) rfl
  have F_Put_init : Fun K "__init__" "Put.__init__" s_Put_init (He.ma K (He.ga K "Put") "__init__") d_Put_init := toFun H_Put_init
  obtain ⟨d_If_init, H_If_init⟩ := (He.SaysT.d c.t).def_ 35 (d := D_If_init) rfl
  have F_If_init : FunD K "__init__" "If.__init__" (defArgs s_If_init) (defBody s_If_init) (defScope s_If_init) [.ref (He.dflAt ("If", some "__init__") 0 K)] [] (He.ma K (He.ga K "If") "__init__") d_If_init := H_If_init
  obtain ⟨ds0_If_init, r0_If_init, b_If_init⟩ := FunD.binds1 (ps := ["self", "test", "rows", "others"]) F_If_init 4 1 (by simp) rfl (fun T kV doc pm an cdv ct us its h1 h2 => match us, h1, its, h2 with | [_, _, _, _], _, [_], _ => ⟨_, rfl, rfl⟩)
  cases (show Vals [] ds0_If_init from r0_If_init)
  obtain ⟨ds1_If_init, r1_If_init, bd_If_init⟩ := FunD.binds1 (ps := ["self", "test", "rows", "others"]) F_If_init 3 0 (by simp) rfl (fun T kV doc pm an cdv ct us its h1 h2 => match us, h1, its, h2 with | [_, _, _], _, [_], _ => ⟨_, rfl, rfl⟩)
  obtain ⟨u1_If_init, q1_If_init, q2_If_init⟩ := r1_If_init.one
  subst q1_If_init; obtain rfl : u1_If_init = Value.ref (He.dflAt ("If", some "__init__") 0 K) := q2_If_init
  obtain ⟨d_Times_init, H_Times_init⟩ := (He.SaysT.d c.t).def_ 36 (d := D_Times_init) rfl
  have F_Times_init : Fun K "__init__" "Times.__init__" s_Times_init (He.ma K (He.ga K "Times") "__init__") d_Times_init := toFun H_Times_init
  have b_Times_init := F_Times_init.binds (ps := ["self", "count", "rows"]) fun _ _ _ _ _ _ us hl => match us, hl with | [_, _, _], _ => rfl
  obtain ⟨d_Ask_init, H_Ask_init⟩ := (He.SaysT.d c.t).def_ 37 (d := D_Ask_init) rfl
  have F_Ask_init : Fun K "__init__" "Ask.__init__" s_Ask_init (He.ma K (He.ga K "Ask") "__init__") d_Ask_init := toFun H_Ask_init
  obtain ⟨d_Not_init, H_Not_init⟩ := (He.SaysT.d c.t).def_ 38 (d := D_Not_init) rfl
  have F_Not_init : Fun K "__init__" "Not.__init__" s_Not_init (He.ma K (He.ga K "Not") "__init__") d_Not_init := toFun H_Not_init
  have b_Not_init := F_Not_init.binds (ps := ["self", "test"]) fun _ _ _ _ _ _ us hl => match us, hl with | [_, _], _ => rfl
  obtain ⟨d_Program_init, H_Program_init⟩ := (He.SaysT.d c.t).def_ 39 (d := D_Program_init) rfl
  have F_Program_init : FunD K "__init__" "Program.__init__" (defArgs s_Program_init) (defBody s_Program_init) (defScope s_Program_init) [.ref (He.dflAt ("Program", some "__init__") 0 K)] [] (He.ma K (He.ga K "Program") "__init__") d_Program_init := H_Program_init
  obtain ⟨ds0_Program_init, r0_Program_init, b_Program_init⟩ := FunD.binds1 (ps := ["self", "rows"]) F_Program_init 2 1 (by simp) rfl (fun T kV doc pm an cdv ct us its h1 h2 => match us, h1, its, h2 with | [_, _], _, [_], _ => ⟨_, rfl, rfl⟩)
  cases (show Vals [] ds0_Program_init from r0_Program_init)
  obtain ⟨ds1_Program_init, r1_Program_init, bd_Program_init⟩ := FunD.binds1 (ps := ["self", "rows"]) F_Program_init 1 0 (by simp) rfl (fun T kV doc pm an cdv ct us its h1 h2 => match us, h1, its, h2 with | [_], _, [_], _ => ⟨_, rfl, rfl⟩)
  obtain ⟨u1_Program_init, q1_Program_init, q2_Program_init⟩ := r1_Program_init.one
  subst q1_Program_init; obtain rfl : u1_Program_init = Value.ref (He.dflAt ("Program", some "__init__") 0 K) := q2_Program_init
  obtain ⟨d_Program_call, H_Program_call⟩ := (He.SaysT.d c.t).def_ 40 (d := D_Program_call) rfl
  have F_Program_call : Fun K "__call__" "Program.__call__" s_Program_call (He.ma K (He.ga K "Program") "__call__") d_Program_call := toFun H_Program_call
  have b_Program_call := F_Program_call.binds (ps := ["self", "base"]) fun _ _ _ _ _ _ us hl => match us, hl with | [_, _], _ => rfl
  obtain ⟨d_Walk_init, H_Walk_init⟩ := (He.SaysT.d c.t).def_ 41 (d := D_Walk_init) rfl
  have F_Walk_init : Fun K "__init__" "Walk.__init__" s_Walk_init (He.ma K (He.ga K "Walk") "__init__") d_Walk_init := toFun H_Walk_init
  have b_Walk_init := F_Walk_init.binds (ps := ["self", "names", "among"]) fun _ _ _ _ _ _ us hl => match us, hl with | [_, _, _], _ => rfl
  obtain ⟨d_Walk_go, H_Walk_go⟩ := (He.SaysT.d c.t).def_ 42 (d := D_Walk_go) rfl
  have F_Walk_go : Fun K "go" "Walk.go" s_Walk_go (He.ma K (He.ga K "Walk") "go") d_Walk_go := toFun H_Walk_go
  have b_Walk_go := F_Walk_go.binds (ps := ["self", "rows", "at"]) fun _ _ _ _ _ _ us hl => match us, hl with | [_, _, _], _ => rfl
  obtain ⟨d_Walk_do, H_Walk_do⟩ := (He.SaysT.d c.t).def_ 43 (d := D_Walk_do) rfl
  have F_Walk_do : Fun K "do" "Walk.do" s_Walk_do (He.ma K (He.ga K "Walk") "do") d_Walk_do := toFun H_Walk_do
  have b_Walk_do := F_Walk_do.binds (ps := ["self", "row", "at"]) fun _ _ _ _ _ _ us hl => match us, hl with | [_, _, _], _ => rfl
  obtain ⟨d_Walk_put, H_Walk_put⟩ := (He.SaysT.d c.t).def_ 44 (d := D_Walk_put) rfl
  have F_Walk_put : Fun K "put" "Walk.put" s_Walk_put (He.ma K (He.ga K "Walk") "put") d_Walk_put := toFun H_Walk_put
  have b_Walk_put := F_Walk_put.binds (ps := ["self", "row", "at"]) fun _ _ _ _ _ _ us hl => match us, hl with | [_, _, _], _ => rfl
  obtain ⟨d_Walk_decide, H_Walk_decide⟩ := (He.SaysT.d c.t).def_ 45 (d := D_Walk_decide) rfl
  have F_Walk_decide : Fun K "decide" "Walk.decide" s_Walk_decide (He.ma K (He.ga K "Walk") "decide") d_Walk_decide := toFun H_Walk_decide
  have b_Walk_decide := F_Walk_decide.binds (ps := ["self", "test"]) fun _ _ _ _ _ _ us hl => match us, hl with | [_, _], _ => rfl
  obtain ⟨d_Walk_choose, H_Walk_choose⟩ := (He.SaysT.d c.t).def_ 46 (d := D_Walk_choose) rfl
  have F_Walk_choose : Fun K "choose" "Walk.choose" s_Walk_choose (He.ma K (He.ga K "Walk") "choose") d_Walk_choose := toFun H_Walk_choose
  have b_Walk_choose := F_Walk_choose.binds (ps := ["self", "row", "at"]) fun _ _ _ _ _ _ us hl => match us, hl with | [_, _, _], _ => rfl
  have K_InvalidBase : ErrK K (He.ga K "InvalidBase") := { cls := errCls tailV (bit c 3 1 rfl rfl), sa := (of_decide_eq_true (bit c 3 2 rfl rfl)), ga := (of_decide_eq_true (bit c 3 3 rfl rfl)), gg := (of_decide_eq_true (bit c 3 4 rfl rfl)), exC := (of_decide_eq_true (bit c 3 6 rfl rfl)), kC := (bit c 3 5 rfl rfl), hdC := (bit c 3 7 rfl rfl), isC := (bit c 3 8 rfl rfl), ha := (of_decide_eq_true (bit c 3 9 rfl rfl)), hn := (of_decide_eq_true (bit c 5 2 rfl rfl)), ht := (of_decide_eq_true (bit c 5 3 rfl rfl)), hm := (of_decide_eq_true (bit c 3 10 rfl rfl)) }
  have E_InvalidBase : ErrR0 K mg "InvalidBase" (He.ga K "InvalidBase") := ⟨(PySem.W.mg_of X G (of_decide_eq_true (bit c 3 0 rfl rfl))), ⟨K_InvalidBase, (bit c 3 17 rfl rfl)⟩, (of_decide_eq_true (bit c 3 11 rfl rfl)), (of_decide_eq_true (bit c 3 12 rfl rfl))⟩
  have K_Stopped : ErrK K (He.ga K "Stopped") := { cls := errCls tailV (bit c 4 1 rfl rfl), sa := (of_decide_eq_true (bit c 4 2 rfl rfl)), ga := (of_decide_eq_true (bit c 4 3 rfl rfl)), gg := (of_decide_eq_true (bit c 4 4 rfl rfl)), exC := (of_decide_eq_true (bit c 4 6 rfl rfl)), kC := (bit c 4 5 rfl rfl), hdC := (bit c 4 7 rfl rfl), isC := (bit c 4 8 rfl rfl), ha := (of_decide_eq_true (bit c 4 9 rfl rfl)), hn := (of_decide_eq_true (bit c 5 2 rfl rfl)), ht := (of_decide_eq_true (bit c 5 3 rfl rfl)), hm := (of_decide_eq_true (bit c 4 10 rfl rfl)) }
  have E_Stopped : ErrR K mg "Stopped" "at" (He.ga K "Stopped") (He.ma K (He.ga K "Stopped") "__init__") := ⟨(PySem.W.mg_of X G (of_decide_eq_true (bit c 4 0 rfl rfl))), ⟨K_Stopped, (of_decide_eq_true (bit c 4 15 rfl rfl)), (of_decide_eq_true (bit c 4 16 rfl rfl)), (of_decide_eq_true (bit c 4 14 rfl rfl))⟩, (of_decide_eq_true (bit c 4 11 rfl rfl)), (of_decide_eq_true (bit c 4 12 rfl rfl))⟩
  have T : Txt w K mg (He.ga K "is_integer") (He.ga K "is_number") (He.ga K "is_base") (He.ga K "is_name") (He.ga K "are_rows") (He.ga K "needed") (He.ga K "_fits") (He.ga K "_is_of") (He.ga K "inner") (He.ga K "flat") (He.ga K "names_in") (He.ga K "bare") (He.ga K "_named") (He.ga K "number_of") (He.ga K "joined") (He.ga K "result") (He.ga K "holding") (He.ga K "_written") (He.ga K "_part") (He.ga K "_of_one") (He.ga K "_of_two") (He.ga K "_power") (He.ga K "run") (He.ga K "came_to") (He.ga K "holds") (He.ga K "_law_deal") (He.ga K "_law_draw") (He.ga K "_law_pick") (He.ga K "_law_words") (He.ga K "_law_ask_of") (He.ga K "_law_row_of") (He.ga K "_law_told") (He.ga K "law") (He.ma K (He.ga K "Stopped") "__init__") (He.ma K (He.ga K "Put") "__init__") (He.ma K (He.ga K "If") "__init__") (He.ma K (He.ga K "Times") "__init__") (He.ma K (He.ga K "Ask") "__init__") (He.ma K (He.ga K "Not") "__init__") (He.ma K (He.ga K "Program") "__init__") (He.ma K (He.ga K "Program") "__call__") (He.ma K (He.ga K "Walk") "__init__") (He.ma K (He.ga K "Walk") "go") (He.ma K (He.ga K "Walk") "do") (He.ma K (He.ga K "Walk") "put") (He.ma K (He.ga K "Walk") "decide") (He.ma K (He.ga K "Walk") "choose") (He.ga K "InvalidBase") (He.ga K "Stopped") (He.ga K "FigureError") (He.ga K "InvalidNumber") (He.ga K "Put") (He.ga K "If") (He.ga K "Times") (He.ga K "Stop") (He.ga K "Ask") (He.ga K "Not") (He.ga K "Row") (He.ga K "Test") (He.ga K "Program") (He.ga K "Walk") (He.ga K "DEEDS") (He.ga K "SIGNS") (He.ga K "WORDS") (He.dflAt ("If", some "__init__") 0 K) (He.dflAt ("Program", some "__init__") 0 K) d_is_integer d_is_number d_is_base d_is_name d_are_rows d_needed d_fits d_is_of d_inner d_flat d_names_in d_bare d_named d_number_of d_joined d_result d_holding d_written d_part d_of_one d_of_two d_power d_run d_came_to d_holds d_law_deal d_law_draw d_law_pick d_law_words d_law_ask_of d_law_row_of d_law_told d_law d_Stopped_init d_Put_init d_If_init d_Times_init d_Ask_init d_Not_init d_Program_init d_Program_call d_Walk_init d_Walk_go d_Walk_do d_Walk_put d_Walk_decide d_Walk_choose := ⟨F_is_integer,
    b_is_integer,
    (PySem.W.mg_of X G (of_decide_eq_true (bit c 0 0 rfl rfl))),
    F_is_number,
    b_is_number,
    (PySem.W.mg_of X G (of_decide_eq_true (bit c 0 1 rfl rfl))),
    F_is_base,
    b_is_base,
    (PySem.W.mg_of X G (of_decide_eq_true (bit c 0 2 rfl rfl))),
    F_is_name,
    b_is_name,
    (PySem.W.mg_of X G (of_decide_eq_true (bit c 0 3 rfl rfl))),
    F_are_rows,
    b_are_rows,
    (PySem.W.mg_of X G (of_decide_eq_true (bit c 0 4 rfl rfl))),
    F_needed,
    b_needed,
    (PySem.W.mg_of X G (of_decide_eq_true (bit c 0 5 rfl rfl))),
    F_fits,
    b_fits,
    (PySem.W.mg_of X G (of_decide_eq_true (bit c 0 6 rfl rfl))),
    F_is_of,
    b_is_of,
    (PySem.W.mg_of X G (of_decide_eq_true (bit c 0 7 rfl rfl))),
    F_inner,
    b_inner,
    (PySem.W.mg_of X G (of_decide_eq_true (bit c 0 8 rfl rfl))),
    F_flat,
    b_flat,
    (PySem.W.mg_of X G (of_decide_eq_true (bit c 0 9 rfl rfl))),
    F_names_in,
    b_names_in,
    (PySem.W.mg_of X G (of_decide_eq_true (bit c 0 10 rfl rfl))),
    F_bare,
    b_bare,
    (PySem.W.mg_of X G (of_decide_eq_true (bit c 0 11 rfl rfl))),
    F_named,
    b_named,
    (PySem.W.mg_of X G (of_decide_eq_true (bit c 0 12 rfl rfl))),
    F_number_of,
    b_number_of,
    (PySem.W.mg_of X G (of_decide_eq_true (bit c 0 13 rfl rfl))),
    F_joined,
    b_joined,
    (PySem.W.mg_of X G (of_decide_eq_true (bit c 0 14 rfl rfl))),
    F_result,
    b_result,
    (PySem.W.mg_of X G (of_decide_eq_true (bit c 0 15 rfl rfl))),
    F_holding,
    b_holding,
    (PySem.W.mg_of X G (of_decide_eq_true (bit c 0 16 rfl rfl))),
    F_written,
    b_written,
    (PySem.W.mg_of X G (of_decide_eq_true (bit c 0 17 rfl rfl))),
    F_part,
    b_part,
    (PySem.W.mg_of X G (of_decide_eq_true (bit c 0 18 rfl rfl))),
    F_of_one,
    b_of_one,
    (PySem.W.mg_of X G (of_decide_eq_true (bit c 0 19 rfl rfl))),
    F_of_two,
    b_of_two,
    (PySem.W.mg_of X G (of_decide_eq_true (bit c 0 20 rfl rfl))),
    F_power,
    b_power,
    (PySem.W.mg_of X G (of_decide_eq_true (bit c 0 21 rfl rfl))),
    F_run,
    b_run,
    (PySem.W.mg_of X G (of_decide_eq_true (bit c 0 22 rfl rfl))),
    F_came_to,
    b_came_to,
    (PySem.W.mg_of X G (of_decide_eq_true (bit c 0 23 rfl rfl))),
    F_holds,
    b_holds,
    (PySem.W.mg_of X G (of_decide_eq_true (bit c 1 0 rfl rfl))),
    F_law_deal,
    b_law_deal,
    (PySem.W.mg_of X G (of_decide_eq_true (bit c 1 1 rfl rfl))),
    F_law_draw,
    b_law_draw,
    (PySem.W.mg_of X G (of_decide_eq_true (bit c 1 2 rfl rfl))),
    F_law_pick,
    b_law_pick,
    (PySem.W.mg_of X G (of_decide_eq_true (bit c 1 3 rfl rfl))),
    F_law_words,
    b_law_words,
    (PySem.W.mg_of X G (of_decide_eq_true (bit c 1 4 rfl rfl))),
    F_law_ask_of,
    b_law_ask_of,
    (PySem.W.mg_of X G (of_decide_eq_true (bit c 1 5 rfl rfl))),
    F_law_row_of,
    b_law_row_of,
    (PySem.W.mg_of X G (of_decide_eq_true (bit c 1 6 rfl rfl))),
    F_law_told,
    b_law_told,
    (PySem.W.mg_of X G (of_decide_eq_true (bit c 1 7 rfl rfl))),
    F_law,
    b_law,
    (PySem.W.mg_of X G (of_decide_eq_true (bit c 1 8 rfl rfl))),
    F_Stopped_init,
    b_Stopped_init,
    F_Put_init,
    F_If_init,
    b_If_init,
    bd_If_init,
    tupAt_ok (bit c 21 1 rfl rfl),
    F_Times_init,
    b_Times_init,
    F_Ask_init,
    F_Not_init,
    b_Not_init,
    F_Program_init,
    b_Program_init,
    bd_Program_init,
    tupAt_ok (bit c 21 2 rfl rfl),
    F_Program_call,
    b_Program_call,
    F_Walk_init,
    b_Walk_init,
    F_Walk_go,
    b_Walk_go,
    F_Walk_do,
    b_Walk_do,
    F_Walk_put,
    b_Walk_put,
    F_Walk_decide,
    b_Walk_decide,
    F_Walk_choose,
    b_Walk_choose,
    E_InvalidBase,
    E_Stopped,
    (of_decide_eq_true (bit c 3 13 rfl rfl)),
    (of_decide_eq_true (bit c 4 13 rfl rfl)),
    (of_decide_eq_true (bit c 3 14 rfl rfl)),
    (of_decide_eq_true (bit c 3 15 rfl rfl)),
    (of_decide_eq_true (bit c 3 16 rfl rfl)),
    valAt_mg X G (bit c 17 0 rfl rfl),
    valAt_mg X G (bit c 17 1 rfl rfl),
    valAt_mg X G (bit c 17 2 rfl rfl),
    valAt_mg X G (bit c 17 3 rfl rfl),
    valAt_mg X G (bit c 17 4 rfl rfl),
    tupAt_ok (bit c 17 5 rfl rfl),
    c.t.tab 0 rfl,
    ⟨_, (of_decide_eq_true (bit c 18 0 rfl rfl)), tupAt_ok (bit c 18 1 rfl rfl)⟩,
    ⟨_, (of_decide_eq_true (bit c 18 2 rfl rfl)), tupAt_ok (bit c 18 3 rfl rfl)⟩,
    ⟨_, (of_decide_eq_true (bit c 18 4 rfl rfl)), tupAt_ok (bit c 18 5 rfl rfl)⟩,
    ⟨_, (of_decide_eq_true (bit c 18 6 rfl rfl)), tupAt_ok (bit c 18 7 rfl rfl)⟩,
    ⟨_, (of_decide_eq_true (bit c 18 8 rfl rfl)), tupAt_ok (bit c 18 9 rfl rfl)⟩,
    ⟨_, (of_decide_eq_true (bit c 18 10 rfl rfl)), tupAt_ok (bit c 18 11 rfl rfl)⟩,
    ⟨_, (of_decide_eq_true (bit c 18 12 rfl rfl)), tupAt_ok (bit c 18 13 rfl rfl)⟩,
    ⟨_, (of_decide_eq_true (bit c 18 14 rfl rfl)), tupAt_ok (bit c 18 15 rfl rfl)⟩,
    ⟨_, (of_decide_eq_true (bit c 18 16 rfl rfl)), tupAt_ok (bit c 18 17 rfl rfl)⟩,
    ⟨_, (of_decide_eq_true (bit c 18 18 rfl rfl)), tupAt_ok (bit c 18 19 rfl rfl)⟩,
    ⟨_, (of_decide_eq_true (bit c 18 20 rfl rfl)), tupAt_ok (bit c 18 21 rfl rfl)⟩,
    ⟨_, (of_decide_eq_true (bit c 18 22 rfl rfl)), tupAt_ok (bit c 18 23 rfl rfl)⟩,
    ⟨_, (of_decide_eq_true (bit c 19 0 rfl rfl)), tupAt_ok (bit c 19 1 rfl rfl)⟩,
    ⟨_, (of_decide_eq_true (bit c 19 2 rfl rfl)), tupAt_ok (bit c 19 3 rfl rfl)⟩,
    ⟨_, (of_decide_eq_true (bit c 19 4 rfl rfl)), tupAt_ok (bit c 19 5 rfl rfl)⟩,
    ⟨_, (of_decide_eq_true (bit c 19 6 rfl rfl)), tupAt_ok (bit c 19 7 rfl rfl)⟩,
    ⟨_, (of_decide_eq_true (bit c 19 8 rfl rfl)), tupAt_ok (bit c 19 9 rfl rfl)⟩,
    ⟨_, (of_decide_eq_true (bit c 19 10 rfl rfl)), tupAt_ok (bit c 19 11 rfl rfl)⟩,
    ⟨_, (of_decide_eq_true (bit c 19 12 rfl rfl)), tupAt_ok (bit c 19 13 rfl rfl)⟩,
    ⟨_, (of_decide_eq_true (bit c 19 14 rfl rfl)), tupAt_ok (bit c 19 15 rfl rfl)⟩,
    ⟨_, (of_decide_eq_true (bit c 19 16 rfl rfl)), tupAt_ok (bit c 19 17 rfl rfl)⟩,
    ⟨_, (of_decide_eq_true (bit c 19 18 rfl rfl)), tupAt_ok (bit c 19 19 rfl rfl)⟩,
    c.t.tab 1 rfl,
    intAt_ok (bit c 20 0 rfl rfl),
    intAt_ok (bit c 20 1 rfl rfl),
    intAt_ok (bit c 20 2 rfl rfl),
    intAt_ok (bit c 20 3 rfl rfl),
    intAt_ok (bit c 20 4 rfl rfl),
    (bit c 21 0 rfl rfl),
    ⟨⟨(bit c 6 1 rfl rfl), (bit c 6 2 rfl rfl), (bit c 6 3 rfl rfl), (of_decide_eq_true (bit c 6 4 rfl rfl))⟩, (of_decide_eq_true (bit c 6 5 rfl rfl)), (of_decide_eq_true (bit c 5 2 rfl rfl)), (of_decide_eq_true (bit c 5 3 rfl rfl)), (of_decide_eq_true (bit c 6 6 rfl rfl)), (of_decide_eq_true (bit c 6 7 rfl rfl))⟩,
    (noA (bit c 6 8 rfl rfl)),
    (noA (bit c 6 9 rfl rfl)),
    (noA (bit c 6 10 rfl rfl)),
    ⟨(bit c 6 13 rfl rfl), (of_decide_eq_true (bit c 6 11 rfl rfl)), (bit c 6 12 rfl rfl), (bit c 6 14 rfl rfl)⟩,
    ⟨⟨(bit c 7 1 rfl rfl), (bit c 7 2 rfl rfl), (bit c 7 3 rfl rfl), (of_decide_eq_true (bit c 7 4 rfl rfl))⟩, (of_decide_eq_true (bit c 7 5 rfl rfl)), (of_decide_eq_true (bit c 5 2 rfl rfl)), (of_decide_eq_true (bit c 5 3 rfl rfl)), (of_decide_eq_true (bit c 7 6 rfl rfl)), (of_decide_eq_true (bit c 7 7 rfl rfl))⟩,
    (noA (bit c 7 8 rfl rfl)),
    (noA (bit c 7 9 rfl rfl)),
    (noA (bit c 7 10 rfl rfl)),
    ⟨(bit c 7 13 rfl rfl), (of_decide_eq_true (bit c 7 11 rfl rfl)), (bit c 7 12 rfl rfl), (bit c 7 14 rfl rfl)⟩,
    ⟨⟨(bit c 8 1 rfl rfl), (bit c 8 2 rfl rfl), (bit c 8 3 rfl rfl), (of_decide_eq_true (bit c 8 4 rfl rfl))⟩, (of_decide_eq_true (bit c 8 5 rfl rfl)), (of_decide_eq_true (bit c 5 2 rfl rfl)), (of_decide_eq_true (bit c 5 3 rfl rfl)), (of_decide_eq_true (bit c 8 6 rfl rfl)), (of_decide_eq_true (bit c 8 7 rfl rfl))⟩,
    (noA (bit c 8 8 rfl rfl)),
    (noA (bit c 8 9 rfl rfl)),
    ⟨(bit c 8 12 rfl rfl), (of_decide_eq_true (bit c 8 10 rfl rfl)), (bit c 8 11 rfl rfl), (bit c 8 13 rfl rfl)⟩,
    ⟨⟨(bit c 9 1 rfl rfl), (bit c 9 2 rfl rfl), (bit c 9 3 rfl rfl), (of_decide_eq_true (bit c 9 4 rfl rfl))⟩, (of_decide_eq_true (bit c 9 5 rfl rfl)), (of_decide_eq_true (bit c 5 2 rfl rfl)), (of_decide_eq_true (bit c 5 3 rfl rfl)), (of_decide_eq_true (bit c 9 6 rfl rfl)), (of_decide_eq_true (bit c 9 7 rfl rfl))⟩,
    ⟨(bit c 9 8 rfl rfl), (of_decide_eq_true (bit c 9 10 rfl rfl)), (bit c 9 9 rfl rfl)⟩,
    ⟨⟨(bit c 10 1 rfl rfl), (bit c 10 2 rfl rfl), (bit c 10 3 rfl rfl), (of_decide_eq_true (bit c 10 4 rfl rfl))⟩, (of_decide_eq_true (bit c 10 5 rfl rfl)), (of_decide_eq_true (bit c 5 2 rfl rfl)), (of_decide_eq_true (bit c 5 3 rfl rfl)), (of_decide_eq_true (bit c 10 6 rfl rfl)), (of_decide_eq_true (bit c 10 7 rfl rfl))⟩,
    (noA (bit c 10 8 rfl rfl)),
    (noA (bit c 10 9 rfl rfl)),
    ⟨(bit c 10 12 rfl rfl), (of_decide_eq_true (bit c 10 10 rfl rfl)), (bit c 10 11 rfl rfl), (bit c 10 13 rfl rfl)⟩,
    ⟨⟨(bit c 11 1 rfl rfl), (bit c 11 2 rfl rfl), (bit c 11 3 rfl rfl), (of_decide_eq_true (bit c 11 4 rfl rfl))⟩, (of_decide_eq_true (bit c 11 5 rfl rfl)), (of_decide_eq_true (bit c 5 2 rfl rfl)), (of_decide_eq_true (bit c 5 3 rfl rfl)), (of_decide_eq_true (bit c 11 6 rfl rfl)), (of_decide_eq_true (bit c 11 7 rfl rfl))⟩,
    (noA (bit c 11 8 rfl rfl)),
    ⟨(bit c 11 11 rfl rfl), (of_decide_eq_true (bit c 11 9 rfl rfl)), (bit c 11 10 rfl rfl), (bit c 11 12 rfl rfl)⟩,
    ⟨⟨(bit c 12 1 rfl rfl), (bit c 12 2 rfl rfl), (bit c 12 3 rfl rfl), (of_decide_eq_true (bit c 12 4 rfl rfl))⟩, (of_decide_eq_true (bit c 12 5 rfl rfl)), (of_decide_eq_true (bit c 5 2 rfl rfl)), (of_decide_eq_true (bit c 5 3 rfl rfl)), (of_decide_eq_true (bit c 12 6 rfl rfl)), (of_decide_eq_true (bit c 12 7 rfl rfl))⟩,
    ⟨⟨(bit c 13 1 rfl rfl), (bit c 13 2 rfl rfl), (bit c 13 3 rfl rfl), (of_decide_eq_true (bit c 13 4 rfl rfl))⟩, (of_decide_eq_true (bit c 13 5 rfl rfl)), (of_decide_eq_true (bit c 5 2 rfl rfl)), (of_decide_eq_true (bit c 5 3 rfl rfl)), (of_decide_eq_true (bit c 13 6 rfl rfl)), (of_decide_eq_true (bit c 13 7 rfl rfl))⟩,
    ⟨⟨(bit c 14 1 rfl rfl), (bit c 14 2 rfl rfl), (bit c 14 3 rfl rfl), (of_decide_eq_true (bit c 14 4 rfl rfl))⟩, (of_decide_eq_true (bit c 14 5 rfl rfl)), (of_decide_eq_true (bit c 5 2 rfl rfl)), (of_decide_eq_true (bit c 5 3 rfl rfl)), (of_decide_eq_true (bit c 14 6 rfl rfl)), (of_decide_eq_true (bit c 14 7 rfl rfl))⟩,
    (of_decide_eq_true (bit c 14 8 rfl rfl)),
    (of_decide_eq_true (bit c 14 9 rfl rfl)),
    (of_decide_eq_true (bit c 14 10 rfl rfl)),
    (noA (bit c 14 11 rfl rfl)),
    (noA (bit c 14 12 rfl rfl)),
    ⟨(of_decide_eq_true (bit c 14 15 rfl rfl)), (bit c 14 16 rfl rfl)⟩,
    ⟨(bit c 14 17 rfl rfl), (of_decide_eq_true (bit c 14 13 rfl rfl)), (bit c 14 14 rfl rfl), (bit c 14 18 rfl rfl)⟩,
    ⟨⟨(bit c 15 1 rfl rfl), (bit c 15 2 rfl rfl), (bit c 15 3 rfl rfl), (of_decide_eq_true (bit c 15 4 rfl rfl))⟩, (of_decide_eq_true (bit c 15 5 rfl rfl)), (of_decide_eq_true (bit c 5 2 rfl rfl)), (of_decide_eq_true (bit c 5 3 rfl rfl)), (of_decide_eq_true (bit c 15 6 rfl rfl)), (of_decide_eq_true (bit c 15 7 rfl rfl))⟩,
    (noA (bit c 15 8 rfl rfl)),
    (noA (bit c 15 9 rfl rfl)),
    (noA (bit c 15 10 rfl rfl)),
    ⟨(of_decide_eq_true (bit c 15 13 rfl rfl)), (bit c 15 14 rfl rfl), (bit c 15 15 rfl rfl)⟩,
    ⟨(of_decide_eq_true (bit c 15 16 rfl rfl)), (bit c 15 17 rfl rfl), (bit c 15 18 rfl rfl)⟩,
    ⟨(of_decide_eq_true (bit c 15 19 rfl rfl)), (bit c 15 20 rfl rfl), (bit c 15 21 rfl rfl)⟩,
    ⟨(of_decide_eq_true (bit c 15 22 rfl rfl)), (bit c 15 23 rfl rfl), (bit c 16 0 rfl rfl)⟩,
    ⟨(of_decide_eq_true (bit c 16 1 rfl rfl)), (bit c 16 2 rfl rfl), (bit c 16 3 rfl rfl)⟩,
    ⟨(bit c 16 4 rfl rfl), (of_decide_eq_true (bit c 15 11 rfl rfl)), (bit c 15 12 rfl rfl), (bit c 16 5 rfl rfl)⟩,
    (PySem.W.mg_of X G (of_decide_eq_true (bit c 5 0 rfl rfl))),
    (PySem.W.mg_of X G (of_decide_eq_true (bit c 5 1 rfl rfl))),
    (PySem.W.mg_of X G (of_decide_eq_true (bit c 6 0 rfl rfl))),
    (PySem.W.mg_of X G (of_decide_eq_true (bit c 7 0 rfl rfl))),
    (PySem.W.mg_of X G (of_decide_eq_true (bit c 8 0 rfl rfl))),
    (PySem.W.mg_of X G (of_decide_eq_true (bit c 9 0 rfl rfl))),
    (PySem.W.mg_of X G (of_decide_eq_true (bit c 10 0 rfl rfl))),
    (PySem.W.mg_of X G (of_decide_eq_true (bit c 11 0 rfl rfl))),
    (PySem.W.mg_of X G (of_decide_eq_true (bit c 12 0 rfl rfl))),
    (PySem.W.mg_of X G (of_decide_eq_true (bit c 13 0 rfl rfl))),
    (PySem.W.mg_of X G (of_decide_eq_true (bit c 14 0 rfl rfl))),
    (PySem.W.mg_of X G (of_decide_eq_true (bit c 15 0 rfl rfl))),
    (PySem.W.mg_of X G (of_decide_eq_true (bit c 1 9 rfl rfl))),
    (PySem.W.mg_none_of X G (of_decide_eq_true (bit c 2 0 rfl rfl))),
    (PySem.W.mg_none_of X G (of_decide_eq_true (bit c 2 1 rfl rfl))),
    (PySem.W.mg_none_of X G (of_decide_eq_true (bit c 2 2 rfl rfl))),
    (PySem.W.mg_none_of X G (of_decide_eq_true (bit c 2 3 rfl rfl))),
    (PySem.W.mg_none_of X G (of_decide_eq_true (bit c 2 4 rfl rfl))),
    (PySem.W.mg_none_of X G (of_decide_eq_true (bit c 2 5 rfl rfl))),
    (PySem.W.mg_none_of X G (of_decide_eq_true (bit c 2 6 rfl rfl))),
    (PySem.W.mg_none_of X G (of_decide_eq_true (bit c 2 7 rfl rfl))),
    (PySem.W.mg_none_of X G (of_decide_eq_true (bit c 2 8 rfl rfl))),
    (PySem.W.mg_none_of X G (of_decide_eq_true (bit c 2 9 rfl rfl))),
    (PySem.W.mg_none_of X G (of_decide_eq_true (bit c 2 10 rfl rfl))),
    (PySem.W.mg_none_of X G (of_decide_eq_true (bit c 2 11 rfl rfl))),
    (PySem.W.mg_none_of X G (of_decide_eq_true (bit c 2 12 rfl rfl)))⟩
  exact ⟨d_law, fun s v => FunD.bindsA (ps := ["_law_script"]) H_law (fun _ _ _ _ _ _ us hl => match us, hl with | [_], _ => rfl) s [v] rfl, fun base _ _ => ok_law T⟩
end My
open PySem PySem.W PySem.Calls PyProof.Rows
set_option maxHeartbeats 0 in
theorem PySem.Challenge.cw_everybase_k20_bases_refused_and_stops_holds : PySem.Challenge.rw_everybase_k20_bases_refused_and_stops.Holds := by
  w_on; o_law
  refine HandSHeadRun.head_imp (r := OpenLaw.row PySem.Challenge.rw_everybase_k20_bases_refused_and_stops) (q := PySem.W.view My.RL.prog [0, 98]) (H := My.hkL) (ob := My.obL) (M := 100000) (loose := My.looseL) (d := HandSHeadRun.topDef (OpenLaw.row PySem.Challenge.rw_everybase_k20_bases_refused_and_stops).prog 98) (kwd := []) My.obL_eq
    My.runL (by kernel_rfl) (by kernel_rfl) (by kernel_rfl) (by rfl) (by first | assumption | decide +kernel) (by decide +kernel) ⟨rfl, rfl, rfl, rfl, rfl, by decide +kernel⟩ ?hw ?hc
  case hw => w_witness2
  case hc =>
    refine L2.walk_ofE (l := PySem.Challenge.rw_everybase_k20_bases_refused_and_stops) (n := 63) (k := 90) (x := "_law_script") (CX := L2.CX0) rfl (by decide) (by kernel_rfl) ⟨rfl, by decide, by decide⟩ ?F (fun _ _ _ _ z => z)
    intro w mg fa h Y G hmg0
    obtain ⟨K, KX, c⟩ := Y
    have hmg : mg ("law" : PySem.Str) = some (.ref fa) := by
      have e : (HandSHeadRun.topDef (OpenLaw.row PySem.Challenge.rw_everybase_k20_bases_refused_and_stops).prog 98).name = ("law" : PySem.Str) := by kernel_rfl
      rw [← e]
      exact hmg0
    obtain ⟨fd, hb, hF⟩ := My.factsL (P := (PySem.Challenge.rw_everybase_k20_bases_refused_and_stops).prog) (w := w) KX G hmg c
    exact ⟨K, fd, My.sp_law K, KX, hb, fun H a ns hl _ hS => ⟨a, ns, rfl, hS, hl, fun _ => rfl⟩, hF⟩
