import PyProof.Rows.All
import Wide.All
import OpenK.AllK
import Wide.FinOn
import HandS.ForExc
import HandS.Comp
import HandS.Iter
import HandS.Conv
import HandS.Flow
import HandS.Walk
import HandS.TupAny
import HandS.TupSets
import HandS.SortInts
import HandS.TryMany
import HandS.IsInst
import HandS.Defaults
import HandS.Gcd
import HandS.ExcInit
import HandS.Text
import HandS.Head0
import HandS.Head1
import HandS.Head2
import HandS.Head3
import HandS.HeadEnd
import HandS.HeadHook1
import HandS.HeadHook2
import HandS.ExcField
import KE.GoesEnum
import HandS.Deep
import HandS.Strs
import HandS.Style
import HandS.ExcIs
import KE.GoesZip
import HandS.TupMul
import HandS.Zip
import HandS.CallSlots
import HandS.WordsDict
import HandS.Dict
import KE.GoesEnumKw
import HandS.Property
import HandS.HeadNt
import HandS.Small
import KE.KMathGC
import HandS.OwnEq
import HandS.SetBool
import HandS.FStr
import HandS.Star
import HandS.GenList
import HandS.SetFor
import KE.SortData
import KE.DataMinMax
import HandS.WideBits
import HandS.NoneIn
import KE.KxField
import PyProof.StrLawsIn
import KE.GoesMore
import KE.DataCmp
import PyProof.ReprRoads
import PySem.Challenge.RW_lostplaces_k19_whole_told_and_steep_weig
set_option Elab.async false
set_option linter.all false
set_option maxRecDepth 100000
set_option maxHeartbeats 4000000
namespace Mine
open PySem PySem.Spec PyProof.Rows L2
/-! ### own errors -/
structure OwnExc (K : PySem.W.Frag) (C : Addr) : Prop where
  ex : PySem.W.excIn K C He.veBase "ValueError.__new__" = true
  kp : PySem.W.keepIn K (.ref C) = true
  sb : PySem.W.subIn K (.ref C) (.type "BaseException") = some true
  ty : PySem.W.typeIn K (.ref C) = some (.type "type")
theorem mk0 {X : Cx} {x : Str} {C : Addr} {p pos : Pos} (e : OwnExc X.K C) (g : X.mg x = some (.ref C)) (hg : Gl X x) (hd : (x == ("__debug__" : Str)) = false := by decide) :
    PMk X (.Call (.Name x p) [] [] pos) (fun _ H Q => Q (.ref C) none H) := by
  intro pn st sg Hh Qq J hq
  refine wpAny_Call_Name_kw (ld_glob J hg g ?_ hd)
  refine PySem.W.callWith_K0 J.kIn e.kp ?_
  have J2 := J
  obtain ⟨bm, N, nm, qn, bs, hdct, sn, sub, ab, col, dd, k0, k1, k2, k3, k5, mN, hC, hN, hni, T⟩ := exc_obj J.kIn e.ex
  obtain ⟨hp, g1, d1, tk, os⟩ := st
  exact wpAny_call_exc_subT PySem.F.excBase_ValueError T hC hN hni (fun h' a hm => mk_of J hm (raises_own e.sb e.ty) hq (J.hok.gone hm.new)) (Nat.zero_le _)
/-! ### len(set(xs)), xs whole numbers -/
/-! ### rules in a form that simp can read -/
section
variable {X : Cx}
theorem OpR.weak {f : Value → Value → Sem Value} {r r' : R2} (h : OpR X f r) (m : ∀ x y H Q, r' x y H Q → r x y H Q) : OpR X f r' :=
  fun pn st sg Hh x y u v Qq J rx ry hq => h pn st sg Hh x y u v Qq J rx ry (m _ _ _ _ hq)
theorem IxR.weak {r r' : R2} (h : IxR X r) (m : ∀ x y H Q, r' x y H Q → r x y H Q) : IxR X r' :=
  fun e1 e2 pn st sg Hh x y u v Qq J rx ry hq => h e1 e2 pn st sg Hh x y u v Qq J rx ry (m _ _ _ _ hq)
theorem CallR.weak {f : Value} {r r' : List V → Hp → VK → Prop} (h : CallR X f r) (m : ∀ xs H Q, r' xs H Q → r xs H Q) : CallR X f r' :=
  fun pn st sg Hh xs us Qq J rx hq => h pn st sg Hh xs us Qq J rx (m _ _ _ hq)
theorem call_intI : CallR X (.type "int") (fun xs H Q => ∃ i, xs = [.int i] ∧ Q (.int i) H) := CallR.weak call_int1 fun _ _ _ => .inl
def rIxH : R2 := fun x y H Q => ∃ p i xs v, x = .ref p ∧ y = .int i ∧ H p = some (.lst xs) ∧ atI xs i = some v ∧ Q v H
theorem ix_H : IxR X rIxH := IxR.weak ix_list fun _ _ _ _ ⟨p, i, xs, z, e1, e2, e3, e4, q⟩ => ⟨p, xs, i, z, e1, e2, .inl (.inl e3), e4, q⟩
def rIxTH : R2 := fun x y H Q => ∃ p i xs v, x = .ref p ∧ y = .int i ∧ H p = some (.tup xs) ∧ atI xs i = some v ∧ Q v H
theorem call_lenL : CallR X (.builtin "len") (fun xs H Q => ∃ p ys, xs = [.ref p] ∧ H p = some (.lst ys) ∧ Q (.int ys.length) H) :=
  CallR.weak call_len_seq fun _ _ _ ⟨p, ys, e1, e2, q⟩ => ⟨p, ys, e1, .inl (.inl (.inl e2)), q⟩
end
theorem tyL {K : PySem.W.Frag} {H : Hp} {p : Addr} {xs : List V} (h : H p = some (.lst xs)) : tyV K "list" (.ref p) H := .inl ⟨rfl, xs, .inl (.inl h)⟩
/-! ### isinstance -/
/-- what the layer can tell the kind of -/
def Kd (K : PySem.W.Frag) (H : Hp) : V → Prop
  | .non => True
  | .bl _ => True
  | .int _ => True
  | .str _ => True
  | .ref a => (∃ xs, SqL K H a xs) ∨ ∃ xs, SqT K H a xs
  | _ => False
def isIntV : V → Bool
  | .int _ => true
  | .bl _ => true
  | _ => false
def isBlV : V → Bool
  | .bl _ => true
  | _ => false
def isStrV : V → Bool
  | .str _ => true
  | _ => false
theorem tyx_L {K : PySem.W.Frag} {H : Hp} {a : Addr} {xs : List V} (h : SqL K H a xs) : TyX K H (.ref a) (.type "list") := by
  rcases h with (h | ⟨o, h⟩) | ⟨o, its, n, h, c, _⟩
  · exact .base (.lst h)
  · exact .base (.frz h)
  · exact .kList h c
theorem tyx_T {K : PySem.W.Frag} {H : Hp} {a : Addr} {xs : List V} (h : SqT K H a xs) : TyX K H (.ref a) (.type "tuple") := by
  rcases h with (h | ⟨o, h⟩) | ⟨o, its, n, h, c, _⟩
  · exact .base (.tup h)
  · exact .fTuple h
  · exact .kTuple h c
theorem kb_NoneType_int : kitB "NoneType" "int" = some false := by decide +kernel
theorem kb_NoneType_bool : kitB "NoneType" "bool" = some false := by decide +kernel
theorem kb_NoneType_str : kitB "NoneType" "str" = some false := by decide +kernel
theorem kb_bool_int : kitB "bool" "int" = some true := by decide +kernel
theorem kb_bool_bool : kitB "bool" "bool" = some true := by decide +kernel
theorem kb_bool_str : kitB "bool" "str" = some false := by decide +kernel
theorem kb_int_int : kitB "int" "int" = some true := by decide +kernel
theorem kb_int_bool : kitB "int" "bool" = some false := by decide +kernel
theorem kb_int_str : kitB "int" "str" = some false := by decide +kernel
theorem kb_str_int : kitB "str" "int" = some false := by decide +kernel
theorem kb_str_bool : kitB "str" "bool" = some false := by decide +kernel
theorem kb_str_str : kitB "str" "str" = some true := by decide +kernel
theorem kb_list_int : kitB "list" "int" = some false := by decide +kernel
theorem kb_list_bool : kitB "list" "bool" = some false := by decide +kernel
theorem kb_list_str : kitB "list" "str" = some false := by decide +kernel
theorem kb_tuple_int : kitB "tuple" "int" = some false := by decide +kernel
theorem kb_tuple_bool : kitB "tuple" "bool" = some false := by decide +kernel
theorem kb_tuple_str : kitB "tuple" "str" = some false := by decide +kernel
theorem Kd.ty {K : PySem.W.Frag} {H : Hp} {x : V} (h : Kd K H x) : ∃ t : String, TyX K H x (.type t) ∧ kitB t "int" = some (isIntV x) ∧ kitB t "bool" = some (isBlV x) ∧ kitB t "str" = some (isStrV x) := by
  cases x with
  | non => exact ⟨_, .base .non, kb_NoneType_int, kb_NoneType_bool, kb_NoneType_str⟩
  | bl b => exact ⟨_, .base (.bl b), kb_bool_int, kb_bool_bool, kb_bool_str⟩
  | int i => exact ⟨_, .base (.int i), kb_int_int, kb_int_bool, kb_int_str⟩
  | str z => exact ⟨_, .base (.str z), kb_str_int, kb_str_bool, kb_str_str⟩
  | ref a =>
    rcases h with ⟨xs, h⟩ | ⟨xs, h⟩
    · exact ⟨_, tyx_L h, kb_list_int, kb_list_bool, kb_list_str⟩
    · exact ⟨_, tyx_T h, kb_tuple_int, kb_tuple_bool, kb_tuple_str⟩
  | byt b => cases h
  | flt b => cases h
  | ty n => cases h
section
variable {X : Cx}
end
/-! ### loops -/
def Loop (J : It) (g : TG) (tb : TS) (D : Ends) (σ : L2.St) (H1 : Hp) : Prop := ∃ W : Nat → Nat → L2.St → Hp → Prop, (∃ m, W 0 m σ H1) ∧ ∀ i m σ H, W i m σ H →
  (J.stop i H ∧ D.nx σ H) ∨ (J.go i H ∧ ∃ N : L2.St → Hp → Prop, (∀ s' H', N s' H' → ∃ m', m' < m ∧ W (i + 1) m' s' H') ∧ ∀ x H', J.yld i H x H' → g x σ H' fun σ2 H2 => tb { D with nx := N, ct := N, bk := D.nx } σ2 H2)
theorem tFor_eq (wi : TI) (g : TG) (tb : TS) (D : Ends) (σ : L2.St) (H : Hp) : tFor wi g tb D σ H = wi σ H (fun J H1 => Loop J g tb D σ H1) := rfl
def Lc (J : It) (g : TG) (tt : TT) (te : TE) (vs : List Nat) (D : Addr) (σ : L2.St) (H1 : Hp) (Q : VK) : Prop := ∃ W : Nat → Nat → Hp → Prop, (∃ m, W 0 m (upd H1 D (.lst []))) ∧ ∀ i m H, W i m H →
  (J.stop i H ∧ Q (.ref D) H) ∨ (J.go i H ∧ ∃ Nx : Hp → Prop, (∀ H', Nx H' → ∃ m', m' < m ∧ W (i + 1) m' H') ∧ ∀ x H', J.yld i H x H' → g x (wipe σ vs) H' fun s2 H2 => wipe s2 vs = wipe σ vs ∧ tt s2 H2 fun b H3 =>
    if b = true then te s2 H3 fun y H4 => ∃ acc, H4 D = some (.lst acc) ∧ acc.length < sizeLine ∧ Nx (upd H4 D (.lst (acc ++ [y]))) else Nx H3)
theorem tLc_eq (wi : TI) (g : TG) (tt : TT) (te : TE) (vs : List Nat) (σ : L2.St) (H : Hp) (Q : VK) : tLc wi g tt te vs σ H Q = wi σ H (fun J H1 => ∀ D, H1 D = none → Lc J g tt te vs D σ H1 Q) := rfl
section
variable {J : It} {n : Nat} {G : Hp → Prop} {Y : Nat → Hp → V → Hp → Prop}
theorem Loop.by (w : Walk J n G Y) {g : TG} {tb : TS} {D : Ends} {σ : L2.St} {H : Hp} (Pv : Nat → L2.St → Hp → Prop) (h0 : Pv 0 σ H) (hG : ∀ i σ H, i ≤ n → Pv i σ H → G H)
    (hs : ∀ i x σ H H', i < n → Pv i σ H → Y i H x H' → g x σ H' fun s2 H2 => tb { D with nx := Pv (i + 1), ct := Pv (i + 1), bk := D.nx } s2 H2) (hd : ∀ σ H, Pv n σ H → D.nx σ H) : Loop J g tb D σ H := for_it w Pv h0 hG hs hd
theorem Lc.by (w : Walk J n G Y) {g : TG} {tt : TT} {te : TE} {vs : List Nat} {σ : L2.St} {H1 : Hp} {D : Addr} {Q : VK} (Pv : Nat → Hp → Prop) (h0 : Pv 0 (upd H1 D (.lst []))) (hG : ∀ i H, i ≤ n → Pv i H → G H)
    (hs : ∀ i x H H', i < n → Pv i H → Y i H x H' → g x (wipe σ vs) H' fun s2 H2 => wipe s2 vs = wipe σ vs ∧ tt s2 H2 fun b H3 =>
      if b = true then te s2 H3 fun y H4 => ∃ acc, H4 D = some (.lst acc) ∧ acc.length < sizeLine ∧ Pv (i + 1) (upd H4 D (.lst (acc ++ [y]))) else Pv (i + 1) H3) (hd : ∀ H, Pv n H → Q (.ref D) H) : Lc J g tt te vs D σ H1 Q := lc_it w Pv h0 hG hs hd
end
/-! ### while; what only grows with what is wanted -/
def Mon (t : TE) : Prop := ∀ σ H (Q Q' : VK), (∀ v H', Q v H' → Q' v H') → t σ H Q → t σ H Q'
def MonT (t : TT) : Prop := ∀ σ H (Q Q' : Bool → Hp → Prop), (∀ v H', Q v H' → Q' v H') → t σ H Q → t σ H Q'
def MonR (r : R2) : Prop := ∀ x y H (Q Q' : VK), (∀ v H', Q v H' → Q' v H') → r x y H Q → r x y H Q'
theorem mon_var (i : Nat) : Mon (tVar i) := fun _ _ _ _ m ⟨v, e, q⟩ => ⟨v, e, m _ _ q⟩
theorem mon_c (v : V) : Mon (tC v) := fun _ _ _ _ m q => m _ _ q
theorem mon_op {r : R2} {ta tb : TE} (mr : MonR r) (ma : Mon ta) (mb : Mon tb) : Mon (tOp r ta tb) := fun σ H _ _ m q => ma σ H _ _ (fun _ H1 q1 => mb σ H1 _ _ (fun _ _ q2 => mr _ _ _ _ _ m q2) q1) q
theorem mon_rI (C : Int → Int → Prop) (g : Int → Int → V) : MonR (rI C g) := fun _ _ _ _ _ m ⟨i, j, e1, e2, c, q⟩ => ⟨i, j, e1, e2, c, m _ _ q⟩
theorem mon_rI0 (g : Int → Int → V) : MonR (rI0 g) := fun _ _ _ _ _ m ⟨i, j, e1, e2, q⟩ => ⟨i, j, e1, e2, m _ _ q⟩
theorem mon_rEq : MonR rEq := fun _ _ _ _ _ m ⟨e, q⟩ => ⟨e, m _ _ q⟩
theorem mon_rNe : MonR rNe := fun _ _ _ _ _ m ⟨e, q⟩ => ⟨e, m _ _ q⟩
theorem mon_test {t : TE} (h : Mon t) : MonT (tTest t) := fun σ H _ _ m q => h σ H _ _ (fun _ _ ⟨k, e, q1⟩ => ⟨k, e, m _ _ q1⟩) q
theorem mon_and {t u : TT} (h : MonT t) (k : MonT u) : MonT (tAnd t u) := fun σ H Q Q' m q => h σ H _ _ (fun b H1 q1 => by
  cases b
  · exact m _ _ q1
  · exact k σ H1 _ _ m q1) q
theorem mon_or {t u : TT} (h : MonT t) (k : MonT u) : MonT (tOr t u) := fun σ H Q Q' m q => h σ H _ _ (fun b H1 q1 => by
  cases b
  · exact k σ H1 _ _ m q1
  · exact m _ _ q1) q
def Less (W : Nat → L2.St → Hp → Prop) (m : Nat) (σ : L2.St) (H : Hp) : Prop := ∃ m', m' < m ∧ W m' σ H
theorem While.by {c : TT} {tb : TS} {D : Ends} {σ : L2.St} {H : Hp} (mc : MonT c) (W : Nat → L2.St → Hp → Prop) (m0 : Nat) (h0 : W m0 σ H)
    (hs : ∀ m σ H, W m σ H → c σ H fun b H1 => if b = true then tb { D with nx := Less W m, ct := Less W m, bk := D.nx } σ H1 else D.nx σ H1) : tWhile c tb D σ H :=
  ⟨W, ⟨m0, h0⟩, fun m σ H hw => mc σ H _ _ (fun b H1 q => by
    cases b
    · exact q
    · exact ⟨Less W m, fun _ _ h => h, q⟩) (hs m σ H hw)⟩
/-! ### heaps -/
theorem same_upd {H : Hp} {p : Addr} {o : HO} (h : H p = none) : Same H (upd H p o) := fun b x e => by
  rw [upd_ne (ne_of_none e h)]
  exact e
/-- a comprehension that changes nothing but its own list: kept i is what turn i puts into it -/
theorem Lc.gen {J : It} {n j : Nat} {G : Hp → Prop} {Y : Nat → Hp → V → Hp → Prop} {tt : TT} {te : TE} {vs : List Nat} {D : Addr} {σ : L2.St} {H1 : Hp} {Q : VK} (wk : Walk J n G Y) (it : Nat → V) (kept : Nat → Option V)
    (hY : ∀ i H x H', i < n → Y i H x H' → H' = H ∧ x = it i) (hG : ∀ H', Same H1 H' → G H') (hD : H1 D = none) (hn : n ≤ 100000) (hw : ∀ i, wipe ((wipe σ vs).set j (some (it i))) vs = wipe σ vs)
    (step : ∀ i H (Qk : VK) (Qn : Hp → Prop), i < n → Same H1 H → (∀ y H4, Same H H4 → kept i = some y → Qk y H4) → (∀ H3, Same H H3 → kept i = none → Qn H3) →
      tt ((wipe σ vs).set j (some (it i))) H fun b H3 => if b = true then te ((wipe σ vs).set j (some (it i))) H3 Qk else Qn H3)
    (fin : ∀ H', Same H1 H' → H' D = some (.lst ((List.range n).filterMap kept)) → Q (.ref D) H') : Lc J (gName j) tt te vs D σ H1 Q := by
  refine Lc.by wk (fun i H => Same H1 H ∧ H D = some (.lst ((List.range i).filterMap kept))) ⟨same_upd hD, upd_same⟩ (fun i H _ p => hG H p.1) ?_ fun H p => fin H p.1 p.2
  rintro i x H H' hi ⟨sm, hd⟩ hy
  obtain ⟨rfl, rfl⟩ := hY i H x H' hi hy
  refine ⟨hw i, step i _ _ _ hi sm (fun y H4 s4 hk => ⟨_, s4 _ _ hd, ?_, fun b o e => ?_, ?_⟩) fun H3 s3 hk => ⟨sm.trans s3, ?_⟩⟩
  · refine Nat.lt_of_le_of_lt (Nat.le_trans (List.length_filterMap_le _ _) (by rw [List.length_range]; exact Nat.le_trans (Nat.le_of_lt hi) hn)) (by rw [sizeLine_eq]; omega)
  · rw [upd_ne (ne_of_none e hD)]; exact s4 _ _ (sm _ _ e)
  · rw [upd_same, List.range_succ, List.filterMap_append, List.filterMap_cons_some hk]; rfl
  · rw [s3 _ _ hd, List.range_succ, List.filterMap_append, List.filterMap_cons_none hk]; simp
section
variable {CX : CXT} {P : Program} {w : World} {K : PySem.W.Frag} {mg : Str → Option Value} {base : Heap} {N : List Str} {q : Str} {sc : Scope} {f : Addr} {cd : Value} {A : Around} {o : List Env} {s : Shared} {H : Hp} {E : XK}
theorem cx_K : (cxOf CX P w K mg base N q sc f cd A o s H E).K = K := rfl
theorem cx_prog : (cxOf CX P w K mg base N q sc f cd A o s H E).prog = P := rfl
theorem cx_w : (cxOf CX P w K mg base N q sc f cd A o s H E).w = w := rfl
theorem cx_nK : (cxOf CX P w K mg base N q sc f cd A o s H E).nox.K = K := rfl
end
theorem rEq_int (i j : Int) (H : Hp) (Q : VK) : rEq (.int i) (.int j) H Q = Q (.bl (decide (i = j))) H := by simp [rEq, scal]
theorem rNe_int (i j : Int) (H : Hp) (Q : VK) : rNe (.int i) (.int j) H Q = Q (.bl (!decide (i = j))) H := by simp [rNe, scal]
theorem rEq_bl (i j : Bool) (H : Hp) (Q : VK) : rEq (.bl i) (.bl j) H Q = Q (.bl (decide (i = j))) H := by simp [rEq, scal]
theorem rNe_bl (i j : Bool) (H : Hp) (Q : VK) : rNe (.bl i) (.bl j) H Q = Q (.bl (!decide (i = j))) H := by simp [rNe, scal]
theorem rEq_str (i j : Str) (H : Hp) (Q : VK) : rEq (.str i) (.str j) H Q = Q (.bl (decide (i = j))) H := by simp [rEq, scal]
theorem rNe_str (i j : Str) (H : Hp) (Q : VK) : rNe (.str i) (.str j) H Q = Q (.bl (!decide (i = j))) H := by simp [rNe, scal]
theorem atI_0 {α : Type} (a : α) (r : List α) : atI (a :: r) 0 = some a := atI_nat (j := 0) rfl
theorem atI_1 {α : Type} (a b : α) (r : List α) : atI (a :: b :: r) 1 = some b := atI_nat (j := 1) rfl
theorem atI_2 {α : Type} (a b c : α) (r : List α) : atI (a :: b :: c :: r) 2 = some c := atI_nat (j := 2) rfl
theorem atI_3 {α : Type} (a b c d : α) (r : List α) : atI (a :: b :: c :: d :: r) 3 = some d := atI_nat (j := 3) rfl
theorem ixN_4_0 : ixN 4 0 = some 0 := rfl
theorem ixN_4_1 : ixN 4 1 = some 1 := rfl
theorem ixN_4_2 : ixN 4 2 = some 2 := rfl
theorem ixN_4_3 : ixN 4 3 = some 3 := rfl
theorem some_lst {a b : List V} : (some (HO.lst a) = some (HO.lst b)) = (a = b) := by simp
theorem some_tup {a b : List V} : (some (HO.tup a) = some (HO.tup b)) = (a = b) := by simp
/-! ### the head: facts by names, and one more Bool -/
theorem own_of {K : PySem.W.Frag} {x : Str} (c : (He.Fa.exc x).ok K = true) : OwnExc K (He.ga K x) := by
  obtain ⟨a, b, d, e⟩ := He.exc_ok c
  exact ⟨a, b, d, e⟩
end Mine

namespace Mine
open PySem PySem.Spec PyProof.Rows L2
/-! ### own errors that keep what they are given -/
def oexB (K : PySem.W.Frag) (C : Addr) : Bool := match K.lookup C with
  | some ⟨.type "type", _, .cls cd, sl⟩ => (match cd.mro, sl.toList with
    | .ref C' :: bm, [_, _, _, _, some (.builtin n), _] => C' == C && (n == "ValueError.__new__" && (!cd.hasDel && (cd.hasDict && PySem.HandSPX.refsVE bm)))
    | _, _ => false)
  | _ => false
theorem oexB_cls {K : PySem.W.Frag} {C : Addr} (q : oexB K C = true) : ∃ nm q N bs bm sn sub ab col dd k0 k1 k2 k3 k5, K.lookup C = some (excClassObj nm q C N bs bm true sn sub ab col dd k0 k1 k2 k3 k5 "ValueError.__new__") ∧ PySem.HandSPX.refsVE bm = true := by
  unfold oexB at q
  split at q
  · rename_i dd cd sl ho
    split at q
    · rename_i C' bm k0 k1 k2 k3 n k5 hm hs
      simp only [Bool.and_eq_true, beq_iff_eq, Bool.not_eq_true'] at q
      obtain ⟨rfl, rfl, hdel, hdict, hb⟩ := q
      obtain ⟨nm, bs, mro, ns, qn, hd, sn, sub, ab, col, del⟩ := cd
      dsimp only at hm hdel hdict
      subst hm hdel hdict
      obtain ⟨l⟩ := sl
      simp only at hs
      subst hs
      exact ⟨nm, qn, ns, bs, bm, sn, sub, ab, col, dd, k0, k1, k2, k3, k5, ho, hb⟩
    · cases q
  · cases q
/-- the class at C: its __init__ at fI puts what it is given into f -/
structure FldExc (K : PySem.W.Frag) (C fI : Addr) : Prop where
  o : OexC K C
  ini : PySem.W.findIn K (.ref C) "__init__" = some (some (.ref fI))
  ty : PySem.W.typeIn K (.ref fI) = some (.type "function")
  x : XfC K C
def fexB (K : PySem.W.Frag) (x : Str) : Bool := oexB K (He.ga K x) && (He.eqO (PySem.W.findIn K (.ref (He.ga K x)) "__setattr__") (some (some (.builtin "object.__setattr__"))) && (decide (PySem.W.subIn K (.ref (He.ga K x)) (.type "BaseException") = some true) &&
  (decide (PySem.W.typeIn K (.ref (He.ga K x)) = some (.type "type")) && (PySem.W.keepIn K (.ref (He.ga K x)) && (He.eqO (PySem.W.findIn K (.ref (He.ga K x)) "__init__") (some (some (.ref (He.ma K (He.ga K x) "__init__")))) &&
  (decide (PySem.W.typeIn K (.ref (He.ma K (He.ga K x) "__init__")) = some (.type "function")) && xfB K (He.ga K x)))))))
theorem fexB_ok {K : PySem.W.Frag} {x : Str} (h : fexB K x = true) : FldExc K (He.ga K x) (He.ma K (He.ga K x) "__init__") := by
  obtain ⟨a, h⟩ := He.ba h
  obtain ⟨b, h⟩ := He.ba h
  obtain ⟨c, h⟩ := He.ba h
  obtain ⟨d, h⟩ := He.ba h
  obtain ⟨e, h⟩ := He.ba h
  obtain ⟨f, h⟩ := He.ba h
  obtain ⟨g, i⟩ := He.ba h
  exact ⟨⟨oexB_cls a, He.eqO_ok b, of_decide_eq_true c, of_decide_eq_true d, e⟩, He.eqO_ok f, of_decide_eq_true g, xfB_ok i⟩
theorem PMk.asks {X : Cx} {e : Expr} {t t' : L2.St → Hp → XK → Prop} (h : PMk X e t) (m : ∀ σ H Q, t' σ H Q → t σ H Q) : PMk X e t' := fun pn st sg Hh Qq J hq => h pn st sg Hh Qq J (m _ _ _ hq)
/-- what such an __init__ does -/
def spFld (C : Addr) (f : Str) : Sp := fun vs H Q _ => ∃ (a : Addr) (v : V), vs = [.ref a, v] ∧ H a = some (exo a C none) ∧ ∀ dx, H dx = none → dx ≠ a → Q .non (upd (upd H dx (exd dx [(f, v)])) a (exo a C (some dx)))
/-- X(e): the error's own dict at d -/
def tMk1 (C : Addr) (f : Str) (te : TE) : L2.St → Hp → XK → Prop := fun σ H Q => te σ H fun v H1 => ∀ d H', Same H1 H' → H1 d = none → H' d = some (.xd [(f, v)]) → Q (.ref C) (some d) H'
theorem mk1 {X : Cx} {x f : Str} {C fI : Addr} {k : Nat} {fd : FuncData} {e : Expr} {te : TE} {p pos : Pos} {ps : List Str} (T : FldExc X.K C fI) (g : X.mg x = some (.ref C)) (F1 : FnOk X.prog X.w X.K X.mg X.base CX0 k fI fd ps (spFld C f)) (hb : Binds X.K fd ps []) (hr : Room (k + 1) X.A)
    (mt : Mon te) (he : PE X e te) (hg : Gl X x) (hd : (x == ("__debug__" : Str)) = false := by decide) (hs : starEach (e :: []) X.env = (false, eval e X.env) :: starEach [] X.env := by rfl) (hpl : (backTo pos (starEach [] X.env)).any (·.1) = false := by rfl) :
    PMk X (.Call (.Name x p) [e] [] pos) (tMk1 C f te) := by
  refine PMk.asks (pmk_oex (dvs := []) (ds := []) T.o T.ini T.ty F1 hr hb .nil (fun _ _ _ _ _ _ _ h => h.elim) hg g (pa_cons he pa_nil hs) hd hs hpl) fun σ H Q h => ?_
  refine mt σ H _ _ (fun v H1 q => ?_) h
  show [v].length ≤ 1000 ∧ ∀ a, H1 a = none → spFld C f (.ref a :: ([v] ++ [])) (upd H1 a (exo a C none)) _ _
  refine ⟨by show 1 ≤ 1000; decide, fun a ha => ⟨a, v, rfl, upd_same, fun dx hdx ne => ⟨rfl, dx, [(f, v)], upd_same, ?_, ?_, ?_⟩⟩⟩
  · rw [upd_ne ne, upd_same]
  · rw [upd_ne ne] at hdx; exact hdx
  · have h1 : H1 dx = none := by rw [upd_ne ne] at hdx; exact hdx
    refine q dx _ (fun b o eb => ?_) h1 upd_same
    have nb : b ≠ a := ne_of_none eb ha
    have nd : b ≠ dx := ne_of_none eb h1
    rw [upd_ne nd, del_ne nb, upd_ne nb, upd_ne nd, upd_ne nb]; exact eb
end Mine

namespace PySem
set_option maxHeartbeats 8000000 in
theorem mine_enum_newB {v : Value} {o : Obj} {H : Heap → Prop} (B : Begins v o H) :
    Meets (Builtin.«enumerate.__new__» ⟨[.type "enumerate", v], []⟩) (fun _ R s => H s.heap ∧
      R (.ok (.ret (.ref (s.heap.push o).objs.size))) { s with heap := (s.heap.push o).push { cls := .type "enumerate", data := .fields #[.none, .bool false, .ref s.heap.objs.size, rawInt 0, .none, .none] } }) :=
  .of_wp fun prog w A R s h => by
    obtain ⟨hp, g, d, tk, os⟩ := s; obtain ⟨h1, h⟩ := h
    have hsub := sub_enumerate
    have q1 : ∀ {A' : Around} {E : Value → Shared → Prop} {Q : Value → Shared → Prop}, Q (.ref hp.objs.size) ⟨hp.push o, g, d, tk, os⟩ → wpAny (model prog w) A' (pyIter v) Q E ⟨hp, g, d, tk, os⟩ :=
      fun q => B.iter prog w _ _ ⟨hp, g, d, tk, os⟩ _ h1 q
    wp_walk using q1
    refine wpAny_stack_any fun st => wpAny_pure ?_
    split
    · rename_i c _ _ _ _ _
      cases (c == Value.type "enumerate")
      · wp_walk using q1
        exact ⟨_, rfl, h⟩
      · wp_walk using q1
        exact ⟨_, rfl, h⟩
    · wp_walk using q1
      exact ⟨_, rfl, h⟩
section
variable {prog : Program} {w : World} {A : Around} {E : Value → Shared → Prop} {s : Shared}
theorem mine_enum_call {v : Value} {o : Obj} {H : Heap → Prop} {Q : Value → Shared → Prop} (B : Begins v o H) (h1 : H s.heap)
    (h : ∀ h', IsEnum h' (s.heap.objs.size + 1) s.heap.objs.size 0 .none → h'.get? s.heap.objs.size = some o → h'.objs.size = s.heap.objs.size + 2 →
      (∀ b o, s.heap.get? b = some o → h'.get? b = some o) → Q (.ref (s.heap.objs.size + 1)) { s with heap := h' }) :
    wpAny (model prog w) A (call (.type "enumerate") [v]) Q E s := by
  refine callType_new F.called_enumerate (by decide) (F.typeCall_enumerate_1 _) (F.newCall_enumerate_1 _) (fun obj => F.args_object_init_2 obj _) F.entry_enumerate_new
    (mine_enum_newB B) ⟨h1, ?_⟩
  have hz : (s.heap.push o).objs.size = s.heap.objs.size + 1 := Heap.size_push ..
  show _ ∧ _
  rw [hz]
  have he : IsEnum ((s.heap.push o).push { cls := .type "enumerate", data := .fields #[.none, .bool false, .ref s.heap.objs.size, rawInt 0, .none, .none] }) (s.heap.objs.size + 1) s.heap.objs.size 0 .none := by
    have := Heap.get?_push_size (s.heap.push o) (o := { cls := .type "enumerate", data := .fields #[.none, .bool false, .ref s.heap.objs.size, rawInt 0, .none, .none] }) rfl
    rw [hz] at this; exact this
  refine ⟨⟨_, he, rfl⟩, h _ he (Heap.get?_push_of_some _ (Heap.get?_push_size _ B.free)) (by rw [Heap.size_push, hz]) fun b o x => Heap.get?_push_of_some _ (Heap.get?_push_of_some _ x)⟩
end
end PySem
namespace Mine
open PySem PySem.Spec PyProof.Rows L2
/-! ### enumerate over a tuple -/
def IteT (K : PySem.W.Frag) (a : Addr) : It :=
  ⟨fun i H => ∃ (xs : List V) (x : V), SqT K H a xs ∧ xs[i]? = some x, fun i H v H' => ∃ T x, v = .ref T ∧ H T = none ∧ H' = upd H T (.tup [.int (i : Nat), x]) ∧ ∀ xs, SqT K H a xs → xs[i]? = some x, fun i H => ∃ xs : List V, SqT K H a xs ∧ xs.length ≤ i⟩
theorem turn_enumT {P : Program} {w : World} {K : PySem.W.Frag} {elts : List Expr} {kk : Nat} {tpos : Pos} (a e it : Addr) (ha : a ≠ it) (hae : e ≠ a) :
    Turn P w K (.Tuple elts kk tpos) (IteT K a) [e, it] e (fun i h => (∃ old, IsEnum h e it ((i : Nat) : Int) old) ∧ h.IsTupleIter it a i ∧ e ≠ it) where
  mem := by simp
  obj := fun i h st b hb => by
    obtain ⟨⟨old, he⟩, ⟨o, ho, hc, hd⟩, _⟩ := st
    have e' : b = e ∨ b = it := by simpa using hb
    rcases e' with z | z
    · rw [z]; exact ⟨_, he, fun v q => nomatch q⟩
    · rw [z]; exact ⟨o, ho, fun v q => by rw [hd] at q; cases q⟩
  keep := fun i h h' st k => let ⟨⟨old, he⟩, hi, hne⟩ := st; ⟨⟨old, k e (by simp) _ he⟩, hi.at fun o q => k it (by simp) o q, hne⟩
  item := by
    intro X hP hw hK hc i pins s σ H E I hf st hg
    subst hP hw hK
    obtain ⟨⟨old, he⟩, hit, hne⟩ := st
    obtain ⟨xs, x, hq, hx⟩ := hg
    obtain ⟨its, rv, p, hz⟩ := I.tuple hq
    obtain ⟨u, hu, ru⟩ := rv.get hx
    have hel : e < s.heap.objs.size := Heap.lt_size he
    have hil : it < s.heap.objs.size := by obtain ⟨_, q, _⟩ := hit; exact Heap.lt_size q
    have pt : s.heap.IsTuple a its.toArray := p
    have hlt : i < its.toArray.size := by
      have := List.getElem?_eq_some_iff.mp hu
      obtain ⟨h, _⟩ := this
      simpa using h
    refine wpAny_pyNext_enum_itemD (i := i) (Draws.tuple (A := X.A.in1) (I.ok.hd hc) it a ha its.toArray) he ⟨hit, pt⟩ hlt hne (by simp [hne, hae]) fun x' h' tk hP ho hs' hT hsz hk => ?_
    have ex : x' = u := by
      have z : its.toArray[i]? = some u := by simpa using hu
      rw [hP] at z; exact Option.some.inj z
    subst ex
    refine ⟨_, rfl, wpAny_letOwnedTupleGo_enum (s := { s with heap := h', toks := tk + 1 }) ho fun h'' he' sb => ?_⟩
    have hT2 : h''.get? s.heap.objs.size = some { cls := .type "tuple", data := .seq #[.int i tk, x'] } := (sb.2 _ (Nat.ne_of_gt hel)).trans hT
    have new : ObjOk X.prog X.w (upd H s.heap.objs.size (.tup [.int (i : Nat), x])) h'' s.heap.objs.size (.tup [.int (i : Nat), x]) :=
      ⟨by show 2 ≤ sizeLine; decide, [.int i tk, x'], .cons ⟨_, rfl⟩ (.cons ru .nil), ⟨_, hT2, rfl, _, rfl⟩⟩
    have I1 : Inv X pins σ (upd H s.heap.objs.size (.tup [.int (i : Nat), x])) { s with heap := h'', toks := tk + 1 } :=
      I.turnedNew (ch := [e, it]) (fun b ob hb q => (sb.2 b (fun z => hb (by simp [z]))).trans (hk b ob (fun z => hb (by simp [z])) (fun z => hb (by simp [z])) q)) hf (Nat.le_refl _) new
    refine ⟨.ref s.heap.objs.size, _, I1, rfl, ⟨_, x, rfl, I.hok.fresh (Nat.le_refl _), rfl, fun ys hy => by rw [I.tuple_inj hy hq]; exact hx⟩, ⟨⟨x', ?_⟩, hs'.1.at fun o q => (sb.2 it (Ne.symm hne)).trans q, hne⟩, fun b hb => ?_⟩
    · have e1 : ((i + 1 : Nat) : Int) = (i : Int) + 1 := by omega
      rw [e1]; exact he'
    · have hb' : b < s.heap.objs.size := by
        have e' : b = e ∨ b = it := by simpa using hb
        rcases e' with z | z
        · rw [z]; exact hel
        · rw [z]; exact hil
      rw [upd_ne (Nat.ne_of_lt hb')]
      exact (hf b hb).1
  done := by
    intro X hP hw hK hc i pins s σ H E I hf st hg
    subst hP hw hK
    obtain ⟨⟨old, he⟩, hit, hne⟩ := st
    obtain ⟨xs, hq, hx⟩ := hg
    obtain ⟨its, rv, p, hz⟩ := I.tuple hq
    obtain ⟨f0, f1, f2, f3, f4, f5⟩ := hf it (by simp)
    have hl := rv.length
    have pt : s.heap.IsTuple a its.toArray := p
    have hT : s.TypeIs (.ref e) "enumerate" := ⟨_, he, rfl⟩
    unfold pyNext
    refine wpAny_bind (wpAny_attempt (wpAny_callSpecial?_slot (name := Str.ofString "__next__") hT F.slot_enumerate_next
      (wpAny_call_entry F.slot_enumerate_next hT F.entry_enumerate_next ?_ (F.args_enumerate_next_1 _))))
    show wpAny _ _ (field (.ref e) 2 >>= _) _ _ _
    refine wpAny_bind (wpAny_field he rfl (x := .ref it) rfl ?_)
    refine wpAny_bind (wpAny_nextOf_tuple_end (I.ok.hd hc) hit pt (by simp; omega) fun h' x he' hx' => ?_)
    obtain ⟨o, ho, hc⟩ := hx'
    refine wpAny_bind (wpAny_isInstance (T := "StopIteration") (b := true) ⟨o, ho, hc⟩ isSubtype_stop ?_)
    exact wpAny_pure ⟨rfl, I.turned (t' := s.toks) (fun b o hb q => he' b o hb q) f0 f1 f3 f4 f5⟩
  self := fun A i s Q E st h => let ⟨⟨_, he⟩, _⟩ := st; wpAny_pyIter_enum he h
def iEnumA (K : PySem.W.Frag) (ta : TA) : TI := fun σ H R => ta σ H fun vs H1 => ∃ a xs, vs = [.ref a] ∧ ((SqL K H1 a xs ∧ R (Ite K a) H1) ∨ (SqT K H1 a xs ∧ R (IteT K a) H1))
theorem pi_enumA {X : Cx} {e : Expr} {ta : TA} {p pos tpos : Pos} {elts : List Expr} {kk : Nat} (hg : Gl X "enumerate") (hm : X.mg "enumerate" = none) (ha : PA X [e] ta) (hs : starEach [e] X.env = [(false, eval e X.env)] := by rfl) :
    PI X (.Tuple elts kk tpos) (.Call (.Name "enumerate" p) [e] [] pos) (iEnumA X.K ta) := by
  refine ⟨fun pins s σ H R I h => ?_⟩
  refine Call_ (ld_blt I hg hm boot_enumerate (PyProof.Rows.callWith_type1 (thn (ha.run pos pins s σ H _ I h) fun us s1 ⟨vs, H1, I1, r1, q1⟩ => ?_) hs rfl))
  obtain ⟨a, xs, ex, q1⟩ := q1
  subst ex
  cases r1 with
  | cons r rr =>
    cases rr
    cases r
    have fp2 : ∀ b ∈ [s1.heap.objs.size + 1, s1.heap.objs.size], FpOk X pins H1 b := fun b hb => by
      have e' : b = s1.heap.objs.size + 1 ∨ b = s1.heap.objs.size := by simpa using hb
      have hle : s1.heap.objs.size ≤ b := by
        rcases e' with z | z
        · rw [z]; exact Nat.le_add_right _ _
        · rw [z]; exact Nat.le_refl _
      exact I1.fpOk hle (I1.hok.fresh hle)
    rcases q1 with ⟨hq, q⟩ | ⟨hq, q⟩
    · obtain ⟨its, rv, p', hz⟩ := I1.list hq
      refine call_enumerate_list p'.isList fun h' he hit hsz hk => wpAny_pyIter_enum he ?_
      have I2 : Inv X pins σ H1 { s1 with heap := h' } := I1.kept (t' := s1.toks) hk
      exact ⟨s1.heap.objs.size + 1, [s1.heap.objs.size + 1, s1.heap.objs.size], _, _, H1, rfl, I2, turn_enum a (s1.heap.objs.size + 1) s1.heap.objs.size, ⟨⟨.none, he⟩, hit, Nat.succ_ne_self _⟩, fp2, q⟩
    · obtain ⟨its, rv, p', hz⟩ := I1.tuple hq
      have pt : s1.heap.IsTuple a its.toArray := p'
      have hlt : a < s1.heap.objs.size := by
        obtain ⟨o, ho, _⟩ := id pt
        exact Heap.lt_size ho
      refine mine_enum_call (begins_tuple a its.toArray) pt fun h' he hit hsz hk => wpAny_pyIter_enum he ?_
      have I2 : Inv X pins σ H1 { s1 with heap := h' } := I1.kept (t' := s1.toks) hk
      exact ⟨s1.heap.objs.size + 1, [s1.heap.objs.size + 1, s1.heap.objs.size], _, _, H1, rfl, I2, turn_enumT a (s1.heap.objs.size + 1) s1.heap.objs.size (Nat.ne_of_lt hlt) (Nat.ne_of_gt (Nat.lt_succ_of_lt hlt)), ⟨⟨.none, he⟩, ⟨_, hit, rfl, rfl⟩, Nat.succ_ne_self _⟩, fp2, q⟩
theorem walk_enumT {K : PySem.W.Frag} {a : Addr} {xs : List V} : Walk (IteT K a) xs.length (fun H => SqT K H a xs) (YPair (fun i => some (.int (i : Nat))) (fun i => xs[i]?)) := by
  refine ⟨fun i _ hi q => ⟨xs, xs[i], q, by simp [hi]⟩, fun _ q => ⟨xs, q, Nat.le_refl _⟩, fun i H v H' _ q y => ?_⟩
  obtain ⟨T, x, h1, h2, h3, h4⟩ := y
  exact ⟨T, .int (i : Nat), x, h1, h2, h3, rfl, h4 xs q⟩
/-! ### a list or a tuple -/
def iSeq (K : PySem.W.Frag) (tl : TE) : TI := fun σ H R => tl σ H fun x H1 => ∃ a xs, x = .ref a ∧ ((SqL K H1 a xs ∧ R (Itl K a) H1) ∨ (SqT K H1 a xs ∧ R (Itt K a) H1))
theorem pi_seq {X : Cx} {tg l : Expr} {tl : TE} (hl : PE X l tl) : PI X tg l (iSeq X.K tl) := by
  refine ⟨fun pins s σ H R I h => ?_⟩
  refine thn (hl.run pins s σ H _ I h) fun v s1 ⟨x, H1, I1, r1, q1⟩ => ?_
  obtain ⟨a, xs, e, q1⟩ := q1
  subst e
  cases r1
  have fp1 : ∀ b ∈ [s1.heap.objs.size], FpOk X pins H1 b := fun b hb => by
    have e : b = s1.heap.objs.size := by simpa using hb
    subst e
    exact I1.fpOk (Nat.le_refl _) (I1.hok.fresh (Nat.le_refl _))
  rcases q1 with ⟨hq, q⟩ | ⟨hq, q⟩
  · obtain ⟨its, rv, p, hz⟩ := I1.list hq
    refine wpAny_pyIter_list p.isList ?_
    exact ⟨s1.heap.objs.size, [s1.heap.objs.size], _, _, H1, rfl, I1.kept (t' := s1.toks) fun b o e => Heap.get?_push_of_some _ e, turn_list a _, ⟨_, Heap.get?_push_size _ rfl, rfl, rfl⟩, fp1, q⟩
  · obtain ⟨its, rv, p, hz⟩ := I1.tuple hq
    refine wpAny_pyIter_tuple (show s1.heap.IsTuple a its.toArray from p) ?_
    exact ⟨s1.heap.objs.size, [s1.heap.objs.size], _, _, H1, rfl, I1.kept (t' := s1.toks) fun b o e => Heap.get?_push_of_some _ e, turn_tuple a _, ⟨_, Heap.get?_push_size _ rfl, rfl, rfl⟩, fp1, q⟩
section
variable {X : Cx}
end
end Mine

namespace L2
open PySem PySem.Spec PyProof.Rows
section
variable {P : Program} {w : World} {A : Around} {E : Value → Shared → Prop} {s : Shared}
end
end L2

namespace Mine
open PySem PySem.Spec PyProof.Rows L2
/-- at p: a list of tuples, the words ws -/
def Rows (H : Hp) (p : Addr) (ws : List (List Int)) : Prop := ∃ ks : List (Addr × List Int), H p = some (.lst (ks.map fun k => V.ref k.1)) ∧ ks.map (·.2) = ws ∧ ∀ k ∈ ks, H k.1 = some (.tup (k.2.map V.int))
theorem Rows.same {H H' : Hp} {p : Addr} {ws : List (List Int)} (r : Rows H p ws) (s : Same H H') : Rows H' p ws := by
  obtain ⟨ks, a, b, c⟩ := r
  exact ⟨ks, s _ _ a, b, fun k hk => s _ _ (c k hk)⟩
end Mine

namespace Mine
open PySem PySem.Spec PyProof.Rows L2
def MonU (r : V → Hp → VK → Prop) : Prop := ∀ x H (Q Q' : VK), (∀ v H', Q v H' → Q' v H') → r x H Q → r x H Q'
theorem mon_rU (g : Int → V) : MonU (rU g) := fun _ _ _ _ m ⟨i, e, q⟩ => ⟨i, e, m _ _ q⟩
theorem mon_un {r : V → Hp → VK → Prop} {ta : TE} (mr : MonU r) (ma : Mon ta) : Mon (tUn r ta) := fun σ H _ _ m q => ma σ H _ _ (fun _ _ q2 => mr _ _ _ _ m q2) q
end Mine

namespace L2
open PySem PySem.Spec PyProof.Rows
section
variable {P : Program} {w : World} {A : Around} {E : Value → Shared → Prop} {s : Shared}
/-- sum(t) of a tuple of whole numbers -/
theorem mine_sum_tup {l : Addr} {items : Array Value} {ns : List Int} {Q : Value → Shared → Prop} (hh : A.handled = none) (hl : s.heap.IsTuple l items) (hit : IntsAre items.toList ns)
    (h : ∀ h' tk t', (∀ b o, s.heap.get? b = some o → h'.get? b = some o) → Q (.int ns.sum t') { s with heap := h', toks := tk }) : wpAny (model P w) A (call (.builtin "sum") [.ref l]) Q E s := by
  have len : items.size = ns.length := by rw [← hit.length, Array.length_toList]
  have lt : l < s.heap.objs.size := by obtain ⟨_, e, _⟩ := id hl; exact Heap.lt_size e
  have pre : ∀ n, n ≤ ns.length → preSum (fun i => ns.getD i 0) n = (ns.take n).sum := by
    intro n
    induction n with
    | zero => intro _; rfl
    | succ n ih =>
      intro hn
      show preSum _ n + ns.getD n 0 = _
      rw [ih (by omega), PySem.sum_take_succ]
  refine call_sum_walkG (wpAny_pyIter_tuple hl ?_)
  refine ⟨s.heap.objs.size, _, _, _, _, _, fun i => ns.getD i 0, rfl, Walks.tuple (A := A.in1) (by simpa using hh) _ l (Nat.ne_of_lt lt) items, ⟨⟨_, Heap.get?_push_size _ rfl, rfl, rfl⟩, hl.push _⟩, fun b hb => ?_, fun i v hv => hit.int_at i v (by rw [Array.getElem?_toList]; exact hv), fun h' tk t' k => ?_⟩
  · have e : b = s.heap.objs.size ∨ b = l := by simpa using hb
    show b < (s.heap.push _).objs.size
    rw [Heap.size_push]
    rcases e with e | e
    · rw [e]; exact Nat.lt_succ_self _
    · rw [e]; exact Nat.lt_succ_of_lt lt
  · rw [len, pre _ (Nat.le_refl _), List.take_of_length_le (Nat.le_refl _)]
    exact h h' tk t' fun b o e => k b o (by simpa using Nat.ne_of_lt (Heap.lt_size e)) (Heap.get?_push_of_some _ e)
end
end L2
namespace Mine
open PySem PySem.Spec PyProof.Rows L2
section
variable {X : Cx}
def rSumT (K : PySem.W.Frag) : List V → Hp → VK → Prop := fun vs H Q => ∃ (a : Addr) (ns : List Int), vs = [V.ref a] ∧ SqT K H a (ns.map V.int) ∧ Q (.int ns.sum) H
theorem cr_sumT (hc : X.calm = true) : CallR X (.builtin "sum") (rSumT X.K) := by
  intro pins s σ H vs us Q I r h
  obtain ⟨a, ns, rfl, ha, q⟩ := h
  rw [Vals.ref1 r]
  obtain ⟨its, rv, pl, hz⟩ := I.tuple ha
  refine mine_sum_tup (items := its.toArray) (I.ok.hd hc) pl (by simpa using Vals.ints rv) fun h' tk t' k => ?_
  exact ⟨.int ns.sum, H, I.kept (t' := tk) k, ⟨t', rfl⟩, q⟩
end
end Mine

namespace Mine
open PySem PySem.Spec PyProof.Rows L2
theorem getD_at {w : List Int} {i : Nat} (h : i < w.length) : w[i]? = some (w.getD i 0) := by rw [List.getD_eq_getElem?_getD, List.getElem?_eq_getElem h]; rfl
section
variable {j : Nat} {tt : TT} {te : TE} {vs : List Nat} {D : Addr} {σ : L2.St} {H1 : Hp} {Q : VK}
/-- .. over a tuple of whole numbers -/
theorem Lc.ints {K : PySem.W.Frag} {a : Addr} {w : List Int} (kept : Nat → Option V) (hs : SqT K H1 a (w.map V.int)) (hD : H1 D = none) (hn : w.length ≤ 100000) (hw : ∀ x : V, wipe ((wipe σ vs).set j (some x)) vs = wipe σ vs)
    (step : ∀ i H (Qk : VK) (Qn : Hp → Prop), i < w.length → Same H1 H → (∀ y H4, Same H H4 → kept i = some y → Qk y H4) → (∀ H3, Same H H3 → kept i = none → Qn H3) →
      tt ((wipe σ vs).set j (some (.int (w.getD i 0)))) H fun b H3 => if b = true then te ((wipe σ vs).set j (some (.int (w.getD i 0)))) H3 Qk else Qn H3)
    (fin : ∀ H', Same H1 H' → H' D = some (.lst ((List.range w.length).filterMap kept)) → Q (.ref D) H') : Lc (Itt K a) (gName j) tt te vs D σ H1 Q := by
  have wk := walk_tup (K := K) (a := a) (xs := w.map V.int)
  rw [List.length_map] at wk
  refine Lc.gen wk (fun i => V.int (w.getD i 0)) kept ?_ (fun H' s => ?_) hD hn (fun i => hw _) step fin
  · rintro i H x H' hi ⟨rfl, hx⟩
    rw [List.getElem?_map, getD_at hi] at hx
    exact ⟨rfl, (Option.some.inj hx).symm⟩
  · rcases hs with (h | ⟨o, h⟩) | h
    · exact .inl (.inl (s _ _ h))
    · exact .inl (.inr ⟨o, s _ _ h⟩)
    · exact .inr h
/-- a comprehension that makes tuples of whole numbers: f i at turn i -/
theorem Lc.rows {J : It} {n : Nat} {G : Hp → Prop} {Y : Nat → Hp → V → Hp → Prop} (wk : Walk J n G Y) (it : Nat → V) (f : Nat → List Int)
    (hY : ∀ i H x H', i < n → Y i H x H' → H' = H ∧ x = it i) (hG : ∀ H', Same H1 H' → G H') (hD : H1 D = none) (hn : n ≤ 100000) (hw : ∀ x : V, wipe ((wipe σ vs).set j (some x)) vs = wipe σ vs)
    (step : ∀ i H (Qk : VK), i < n → Same H1 H → (∀ p H4, Same H H4 → H4 p = some (.tup ((f i).map V.int)) → Qk (.ref p) H4) → te ((wipe σ vs).set j (some (it i))) H Qk)
    (fin : ∀ H', Same H1 H' → Rows H' D ((List.range n).map f) → Q (.ref D) H') : Lc J (gName j) tYes te vs D σ H1 Q := by
  refine Lc.by wk (fun i H => Same H1 H ∧ Rows H D ((List.range i).map f)) ⟨same_upd hD, [], upd_same, rfl, fun k hk => by cases hk⟩ (fun i H _ p => hG H p.1) ?_ fun H p => fin H p.1 p.2
  rintro i x H H' hi ⟨sm, ks, h1, h2, h3⟩ hy
  obtain ⟨rfl, rfl⟩ := hY i H x H' hi hy
  refine ⟨hw _, ?_⟩
  unfold tYes
  dsimp only
  rw [if_pos rfl]
  refine step i H' _ hi sm fun p H4 s4 hp => ⟨_, s4 _ _ h1, ?_, fun b o e => ?_, ks ++ [(p, f i)], ?_, ?_, fun k hk => ?_⟩
  · have : ks.length = i := by have := congrArg List.length h2; simpa using this
    rw [List.length_map, this, sizeLine_eq]; omega
  · rw [upd_ne (ne_of_none e hD)]; exact s4 _ _ (sm _ _ e)
  · rw [upd_same, List.map_append]; rfl
  · rw [List.map_append, h2, List.range_succ, List.map_append]; rfl
  · have kt : H4 k.1 = some (.tup (k.2.map V.int)) := by
      rcases List.mem_append.mp hk with m | m
      · exact s4 _ _ (h3 k m)
      · have : k = (p, f i) := by simpa using m
        rw [this]; exact hp
    have ne : k.1 ≠ D := fun e => by rw [e, s4 _ _ h1] at kt; cases kt
    rw [upd_ne ne]; exact kt
end
/-! ### rules that name the fragment, within a comprehension -/
theorem CallR.k {X : Cx} {f : Value} {r : PySem.W.Frag → List V → Hp → VK → Prop} (h : CallR X f (r X.K)) {K : PySem.W.Frag} (e : X.K = K) : CallR X f (r K) := e ▸ h
theorem OpR.k {X : Cx} {f : Value → Value → Sem Value} {r : PySem.W.Frag → R2} (h : OpR X f (r X.K)) {K : PySem.W.Frag} (e : X.K = K) : OpR X f (r K) := e ▸ h
theorem SlR.k {X : Cx} {r : PySem.W.Frag → V → Option Int → Option Int → Hp → VK → Prop} (h : SlR X (r X.K)) {K : PySem.W.Frag} (e : X.K = K) : SlR X (r K) := e ▸ h
/-! ### pieces of tuples, tuples put together -/
theorem cut_all {xs : List V} {lo hi : Option Int} (h1 : HT.sIx xs.length 0 lo = 0) (h2 : HT.sIx xs.length xs.length hi = xs.length) : cutV xs lo hi = xs := by
  unfold cutV
  rw [h1, h2, List.drop_zero, Nat.sub_zero, List.take_of_length_le (Nat.le_refl _)]
section
variable {K : PySem.W.Frag} {H : Hp} {Q : VK} {a b : Addr} {xs ys : List V}
end
/-! ### equality of words, of rows of words -/
section
variable {K : PySem.W.Frag} {H : Hp} {Q : VK} {a b : Addr} {x y : List Int} {xs ys : List (List Int)}
end
end Mine

namespace Mine
open PySem PySem.Spec PyProof.Rows L2
/-! ### several except clauses, with names -/
abbrev Suit := Addr → Value → Option Addr → TS
def endsAs (D : Ends) : Option Nat → Ends
  | none => D
  | some i => { nx := fun σ H => D.nx (σ.set i none) H, rt := D.rt, bk := fun σ H => D.bk (σ.set i none) H, ct := fun σ H => D.ct (σ.set i none) H }
def bindAs (σ : L2.St) (a : Addr) : Option Nat → L2.St
  | none => σ
  | some i => σ.set i (some (.ref a))
/-- what the clauses wish of an exception of the body -/
def wNamed (K : PySem.W.Frag) (Wout : WX) (D : Ends) : List (Value × Option Nat × Suit) → WX
  | [] => Wout
  | (c, o, ts) :: r => fun cls d σ H => ∃ b, PySem.W.exmOne K cls c = some b ∧ (b = true → ∀ a, H a = none → ts a cls d (endsAs D o) (bindAs σ a o) H) ∧ (b = false → wNamed K Wout D r cls d σ H)
def SuitOk (X : Cx) (body : List Stmt) (ts : Suit) : Prop := ∀ (a : Addr) (oe : Obj) (cls : Value) (d : Option Addr) (pn : List (Addr × Obj)), Zc cls d oe → (∃ vs, oe.data = .fields vs) → PSs (X.suite a ((a, oe) :: pn)) body (ts a cls d)
inductive HdsN (X : Cx) : List ExceptHandler → List (Value × Option Nat × Suit) → Prop
  | nil : HdsN X [] []
  | bare {x : Str} {c : Value} {ts : Suit} {b₀ : Stmt} {suite : List Stmt} {np pos' : Pos} {hds : List ExceptHandler} {l : List (Value × Option Nat × Suit)} (hc : Names X x c) (hsu : SuitOk X (b₀ :: suite) ts) (r : HdsN X hds l) :
      HdsN X (.ExceptHandler (some (.Name x np)) none (b₀ :: suite) pos' :: hds) ((c, none, ts) :: l)
  | named {x n : Str} {i : Nat} {c : Value} {ts : Suit} {b₀ : Stmt} {suite : List Stmt} {np pos' : Pos} {hds : List ExceptHandler} {l : List (Value × Option Nat × Suit)} (hi : X.N[i]? = some n) (hln : X.env.kindOf n = some .local)
      (hc : Names X x c) (hsu : SuitOk X (b₀ :: suite) ts) (r : HdsN X hds l) : HdsN X (.ExceptHandler (some (.Name x np)) (some n) (b₀ :: suite) pos' :: hds) ((c, some i, ts) :: l)
section
variable {X : Cx} {pins : List (Addr × Obj)}
/-- an exception in hand, at the clauses -/
structure Hand (X : Cx) (pins : List (Addr × Obj)) (σ : L2.St) (H : Hp) (a : Addr) (cls : Value) (d : Option Addr) (s : Shared) : Prop where
  ob : ∃ oe vs, s.heap.get? a = some oe ∧ Zc cls d oe ∧ oe.data = .fields vs
  inv : Inv X pins σ H s
  nH : H a = none
  nL : a ≠ X.env.locals
  nF : a ∉ X.fs
theorem Hand.suite {σ : L2.St} {H : Hp} {a : Addr} {cls : Value} {d : Option Addr} {s : Shared} (h : Hand X pins σ H a cls d s) : ∃ oe, Zc cls d oe ∧ (∃ vs, oe.data = .fields vs) ∧ Inv (X.suite a ((a, oe) :: (X.pn ++ pins))) [] σ H s := by
  obtain ⟨oe, vs, he, hz, hd⟩ := h.ob
  exact ⟨oe, hz, ⟨vs, hd⟩, h.inv.suite he hd h.nH h.nL h.nF⟩
theorem Hand.asks {σ : L2.St} {H : Hp} {a : Addr} {cls c : Value} {d : Option Addr} {s : Shared} {b : Bool} (h : Hand X pins σ H a cls d s) (e : PySem.W.exmOne X.K cls c = some b) : PySem.W.Looks (model X.prog X.w) s.heap (excMatches (.ref a) c) b := by
  obtain ⟨oe, vs, he, hz, hd⟩ := h.ob
  exact PySem.W.exm_one (M := model X.prog X.w) h.inv.kIn (fun A Q E s k q => wpAny_typeOf_ref (k _ _ he) (by rw [hz.1]; exact q)) e
theorem Hand.names {σ : L2.St} {H : Hp} {a : Addr} {cls c : Value} {d : Option Addr} {s : Shared} {x : Str} {np : Pos} (h : Hand X pins σ H a cls d s) (hc : Names X x c) {Q : Value → Shared → Prop} {E : Value → Shared → Prop} (q : Q c s) :
    wpAny (model X.prog X.w) (X.A.mark (some (.ref a))) (eval (.Name x np) X.env) Q E s := by
  obtain ⟨oe, hz, hd, S⟩ := h.suite
  obtain ⟨hg, hdbg, hm | ⟨hm, hv, hnn⟩⟩ := hc
  · exact ld_glob (X := X.suite a ((a, oe) :: (X.pn ++ pins))) S hg hm q hdbg
  · exact ld_blt (X := X.suite a ((a, oe) :: (X.pn ++ pins))) S hg hm hv q hnn hdbg
/-- the exception on its way, landed in this frame -/
structure Flown (X : Cx) (pins : List (Addr × Obj)) (σ : L2.St) (H : Hp) (a : Addr) (cls : Value) (d : Option Addr) (B : Heap) (sI s : Shared) : Prop where
  inv : Inv X pins σ H sI
  nb : ∀ b o, sI.heap.get? b = some o → b ∉ frs X.stack → B.get? b = some o
  up : sI.heap.UpToSlots s.heap
  fl : HandSPX.FlyingZ B (X.env :: X.outer) a (Zc cls d) s.heap
  na : H a = none
  os : s.os = sI.os
  ag : AllBare s.gens
section
variable {σ : L2.St} {H : Hp} {a : Addr} {cls : Value} {d : Option Addr} {B : Heap} {sI s : Shared}
theorem Flown.move {h : Heap} (f : Flown X pins σ H a cls d B sI s) (fl : HandSPX.FlyingZ B (X.env :: X.outer) a (Zc cls d) h) (up : s.heap.UpToSlots h) : Flown X pins σ H a cls d B sI { s with heap := h } :=
  ⟨f.inv, f.nb, f.up.trans up, fl, f.na, f.os, f.ag⟩
theorem Flown.hand (hf : X.env.frame = some X.env.locals) (f : Flown X pins σ H a cls d B sI s) : Hand X pins σ H a cls d s := by
  obtain ⟨oe, vs, he, hz, hd⟩ := f.fl.there
  have out : a ∉ frs (X.env :: X.outer) := fun hm => by
    obtain ⟨_, o', e', hnf⟩ := f.fl.2.2.1.mem hm
    rw [he] at e'
    cases e'
    exact hnf _ hd
  refine ⟨⟨oe, vs, he, hz, hd⟩, f.inv.landed f.nb f.fl.1 f.up f.os f.ag, f.na, fun z => out (List.mem_filterMap.mpr ⟨X.env, List.mem_cons_self, by rw [hf, z]⟩), fun hm => ?_⟩
  obtain ⟨e, he, q⟩ := List.mem_filterMap.mp hm
  exact out (List.mem_filterMap.mpr ⟨e, List.mem_cons_of_mem _ he, q⟩)
/-- the clauses, one after the other -/
theorem clauses_run {Wout : WX} {D : Ends} (ok : X.Ok) (hs : X.stack = X.env :: X.outer) (hf : X.env.frame = some X.env.locals) (hN : X.N.Nodup) (tk : Takes X Wout) :
    ∀ {hds : List ExceptHandler} {l : List (Value × Option Nat × Suit)}, HdsN X hds l → Flown X pins σ H a cls d B sI s → wNamed X.K Wout D l cls d σ H → wpAny (model X.prog X.w) X.A (handleBy (.ref a) X.env hds) (SP X pins D) X.xe s := by
  intro hds l hk
  induction hk with
  | nil =>
    intro f w
    refine wpAny_handleBy_nil ?_
    have fl := f.fl
    obtain ⟨_, _, _, oe, vs, T, oT, ts', he, hz, hd, h1, hr⟩ := id fl
    unfold PySem.passOn
    refine wpAny_bind (wpAny_field he hd h1 ?_)
    rw [if_neg (show ¬ ((Value.ref T == Value.none) = true) from by simp)]
    have out : wpAny (model X.prog X.w) X.A (setFlight (.ref a) X.env.frame) (fun _ s4 => wpAny (model X.prog X.w) X.A (throw (.ref a) : Sem Flow) (SP X pins D) X.xe s4) X.xe s := by
      rw [hf]
      exact HandSPX.setFlight_upZ fl fun h4 hh4 up4 => wpAny_throw (tk _ _ ⟨a, B, sI, pins, σ, H, cls, d, rfl, f.inv, f.nb, f.up.trans up4, .inr (.inr (by rw [hs]; exact hh4)), f.na, f.os, f.ag, w⟩)
    first
      | exact wpAny_bind (wpAny_pure (wpAny_bind out))
      | exact wpAny_bind out
  | bare hc hsu r ih =>
    intro f ⟨b, e, yes, no⟩
    have hand := f.hand hf
    refine wpAny_handleBy_cons (codeAny_handlers_test (hand.names hc ((hand.asks e).here ?_))) (by intro q; cases q)
    cases b with
    | false => exact ih f (no rfl)
    | true =>
      refine codeAny_handlers_suite (HandSPX.lands_againZ f.fl fun h4 fl4 up4 => ?_)
      obtain ⟨oe, hz, hd, S⟩ := ((f.move fl4 up4).hand hf).suite
      refine wpAny_mono ((hsu a oe cls d (X.pn ++ pins) hz hd).run [] _ _ H _ S (yes rfl a f.na)) (fun g s6 hsp => ?_) (fun _ _ z => False.elim z)
      cases g with
      | next => obtain ⟨σ6, H6, S6, q6⟩ := hsp; exact ⟨_, _, S6.unsuite ok, q6⟩
      | brk => obtain ⟨σ6, H6, S6, q6⟩ := hsp; exact ⟨_, _, S6.unsuite ok, q6⟩
      | cont => obtain ⟨σ6, H6, S6, q6⟩ := hsp; exact ⟨_, _, S6.unsuite ok, q6⟩
      | ret u => obtain ⟨v6, σ6, H6, S6, r6, q6⟩ := hsp; exact ⟨_, _, _, S6.unsuite ok, r6, q6⟩
  | named hi hln hc hsu r ih =>
    intro f ⟨b, e, yes, no⟩
    have hand := f.hand hf
    refine wpAny_handleBy_cons (codeAny_handlers_test (hand.names hc ((hand.asks e).here ?_))) (by intro q; cases q)
    cases b with
    | false => exact ih f (no rfl)
    | true =>
      refine codeAny_handlers_suite_as (HandSPX.lands_againZ f.fl fun h4 fl4 up4 => ?_)
      obtain ⟨oe, hz, hd, S⟩ := ((f.move fl4 up4).hand hf).suite
      refine store_ok (X := X.suite a ((a, oe) :: (X.pn ++ pins))) (v := .ref a) S hN hi (.inl hln) rfl (fun s5 S5 => ?_) (.inr hln)
      refine wpAny_mono ((hsu a oe cls d (X.pn ++ pins) hz hd).run [] s5 _ H _ S5 (yes rfl a f.na)) (fun g s6 hsp => ?_) (fun _ _ z => False.elim z)
      cases g with
      | next => obtain ⟨σ6, H6, S6, q6⟩ := hsp; exact gone_ok (S6.unsuite ok) hN hi hln fun s7 J7 => ⟨_, _, J7, q6⟩
      | brk => obtain ⟨σ6, H6, S6, q6⟩ := hsp; exact gone_ok (S6.unsuite ok) hN hi hln fun s7 J7 => ⟨_, _, J7, q6⟩
      | cont => obtain ⟨σ6, H6, S6, q6⟩ := hsp; exact gone_ok (S6.unsuite ok) hN hi hln fun s7 J7 => ⟨_, _, J7, q6⟩
      | ret u => obtain ⟨v6, σ6, H6, S6, r6, q6⟩ := hsp; exact gone_ok (S6.unsuite ok) hN hi hln fun s7 J7 => ⟨_, _, _, J7, r6, q6⟩
end
/-- try with any number of clauses, each with a name or without -/
theorem ps_try_named {body : List Stmt} {h₀ : ExceptHandler} {hds : List ExceptHandler} {l : List (Value × Option Nat × Suit)} {pos : Pos} {tb : WX → TS} {Wout : WX} (hs : X.stack = X.env :: X.outer) (hf : X.env.frame = some X.env.locals) (hN : X.N.Nodup) (tk : Takes X Wout)
    (hb : ∀ (W : WX) (pn : List (Addr × Obj)) (xe : Value → Shared → Prop), Takes (X.tr pn xe) W → PassesOwn (model X.prog X.w) X.A X.env xe → PSs (X.tr pn xe) body (tb W)) (hh : HdsN X (h₀ :: hds) l) :
    PS X (.Try body (h₀ :: hds) [] [] pos) (fun D σ H => tb (wNamed X.K Wout D l) D σ H) := by
  refine ⟨fun pins s σ H D I h => ?_⟩
  have ok := I.ok
  have hfr : X.A.frames = some (X.env :: X.outer) := by rw [ok.frames, hs]
  refine wpAny_Try_except (wpAny_mono ((hb (wNamed X.K Wout D l) (X.pn ++ pins) (fun e s₁ => wpAny (model X.prog X.w) X.A (noteFrame e X.env) (fun _ s₂ => wpAny (model X.prog X.w) X.A (setFlight e none) (fun _ s₃ =>
    wpAny (model X.prog X.w) X.A (handleBy e X.env (h₀ :: hds)) (SP X pins D) X.xe s₃) X.xe s₂) X.xe s₁) (fun u s' xx => ?_) PassesOwn.looking).run [] s σ H D (I.toTry _) h) (fun f s1 hsp => ?_) (fun e s1 he => he))
  · obtain ⟨a, B, sI, pins', σ', H', cls, d, rfl, J, nb, up, sky, na, os, ag, w⟩ := xx
    rw [show (X.tr (X.pn ++ pins) _).stack = X.env :: X.outer from hs] at sky
    exact Sky.land Zc.steady hfr hf sky fun h3 fl3 up3 => clauses_run ok hs hf hN tk hh ⟨J.ofTry ok, nb, up.trans up3, fl3, na, os, ag⟩ w
  · cases f with
    | next => obtain ⟨σ', H', J, q⟩ := hsp; exact wpAny_execs_nil ⟨σ', H', J.ofTry ok, q⟩
    | brk => obtain ⟨σ', H', J, q⟩ := hsp; exact ⟨σ', H', J.ofTry ok, q⟩
    | cont => obtain ⟨σ', H', J, q⟩ := hsp; exact ⟨σ', H', J.ofTry ok, q⟩
    | ret u => obtain ⟨v, σ', H', J, r, q⟩ := hsp; exact ⟨v, σ', H', J.ofTry ok, r, q⟩
end
end Mine

namespace PySem.W
open PySem PySem.Spec PySem.Calls PyProof.Rows
section
variable {prog : Program} {w : World} {A : Around} {E : Value → Shared → Prop} {s : Shared} {K : Frag} {x D : Addr} {ox : Obj} {od : Option Obj}
end
end PySem.W
namespace Mine
open PySem PySem.Spec PyProof.Rows L2
end Mine

namespace L2
open PySem PySem.Spec PyProof.Rows
/-- t * 1 is t itself -/
theorem mine_mul_one (l : Addr) (items : Array Value) (n : Nat) (dd : Option Addr) (sl : Array (Option Value)) (u : Tok) :
    Meets (Builtin.«tuple.__mul__» ⟨[.ref l, .int 1 u], []⟩) (fun _ R s => s.heap.get? l = some { cls := .type "tuple", dict := dd, data := .seq items n, slots := sl } ∧ R (.ok (.ret (Value.ref l))) s) :=
  .of_wp fun prog w A R s h => by
    obtain ⟨hp, g, d, tk, os⟩ := s
    obtain ⟨hl, h⟩ := h
    have f1 := AutoSeq1.idx_int
    wp_walk using wpAny_loadPart' hl
    exact ⟨_, rfl, h⟩
end L2
namespace Mine
open PySem PySem.Spec PyProof.Rows L2
section
variable {X : Cx}
/-- t * k, k from 1 on -/
def rRepA : R2 := fun x y H Q => ∃ l k xs, x = .ref l ∧ y = .int k ∧ H l = some (.tup xs) ∧ xs ≠ [] ∧ 1 ≤ k ∧ k ≤ 1000 ∧ xs.length ≤ 1000 ∧ ∀ p H', Same H H' → H' p = some (.tup (List.replicate k.toNat xs).flatten) → Q (.ref p) H'
/-- sum of a list or a tuple of whole numbers -/
def rSumA (K : PySem.W.Frag) : List V → Hp → VK → Prop := fun vs H Q => ∃ (a : Addr) (ns : List Int), vs = [V.ref a] ∧ (SqL K H a (ns.map V.int) ∨ SqT K H a (ns.map V.int)) ∧ Q (.int ns.sum) H
theorem cr_sumA (hc : X.calm = true) : CallR X (.builtin "sum") (rSumA X.K) := by
  intro pins s σ H vs us Q I r ⟨a, ns, e, h, q⟩
  rcases h with h | h
  · exact cr_sum hc pins s σ H vs us Q I r ⟨a, ns, e, h, q⟩
  · exact cr_sumT hc pins s σ H vs us Q I r ⟨a, ns, e, h, q⟩
end
/-! ### zip of a tuple and a list -/
def ItzM (K : PySem.W.Frag) (a b : Addr) : It :=
  ⟨fun i H => ∃ (xs ys : List V) (x y : V), SqT K H a xs ∧ SqL K H b ys ∧ xs[i]? = some x ∧ ys[i]? = some y,
    fun i H v H' => ∃ T x y, v = .ref T ∧ H T = none ∧ H' = upd H T (.tup [x, y]) ∧ (∀ xs, SqT K H a xs → xs[i]? = some x) ∧ ∀ ys, SqL K H b ys → ys[i]? = some y,
    fun i H => ∃ xs ys : List V, SqT K H a xs ∧ SqL K H b ys ∧ (xs.length = i ∨ ys.length = i) ∧ i ≤ xs.length ∧ i ≤ ys.length⟩
/-- zip(a, b), a a tuple, b a list or a tuple -/
def iZipS (K : PySem.W.Frag) (ta : TA) : TI := fun σ H R => ta σ H fun vs H1 => ∃ a b xs ys, vs = [.ref a, .ref b] ∧ SqT K H1 a xs ∧ ((SqL K H1 b ys ∧ R (ItzM K a b) H1) ∨ (SqT K H1 b ys ∧ R (RZ.ItzT K a b) H1))
theorem pg_tupK {X : Cx} {es : List Expr} {k : Nat} {t : TGs} {n : Nat} {K : PySem.W.Frag} {pos : Pos} (eK : X.K = K) (hc : X.calm = true) (h : PGs X es t)
    (hn : (assignEach es X.env).length = n := by rfl) (hst : (assignEach es X.env).findIdx? (·.1) = none := by rfl) : PG X (.Tuple es k pos) (gTup K n t) := eK ▸ pg_tup hc h hn hst
/-! ### x[i], x[lo:hi], list(x) of a list or a tuple -/
section
variable {X : Cx}
def rIxA : R2 := fun x y H Q => ∃ p i xs v, x = .ref p ∧ y = .int i ∧ (H p = some (.lst xs) ∨ H p = some (.tup xs)) ∧ atI xs i = some v ∧ Q v H
def rSlS (K : PySem.W.Frag) : V → Option Int → Option Int → Hp → VK → Prop := fun x lo hi H Q => ∃ a xs, x = .ref a ∧ ((H a = some (.lst xs) ∧ ∀ p H', Same H H' → H' p = some (.lst (cutV xs lo hi)) → Q (.ref p) H') ∨ (H a = some (.tup xs) ∧ ∀ p H', Same H H' → H' p = some (.tup (cutV xs lo hi)) → Q (.ref p) H'))
end
theorem map_set {w : List Int} {i : Nat} {z : Int} : (w.map V.int).set i (V.int z) = (w.set i z).map V.int := List.map_set.symm
end Mine

namespace Mine
open PySem PySem.Spec PyProof.Rows L2
/-! ### data, without the heap -/
inductive Dt where
  | non | bl (b : Bool) | int (i : Int) | str (x : Str)
  | tup (xs : List Dt) | lst (xs : List Dt)
  | dk (ks : List Key) (vs : List Dt)
  | dt (ks : List (List Key)) (vs : List Dt)
  | ins (C : Str) (ns : List Str) (vs : List Dt)
  | raw (v : V)
mutual
/-- in the heap H the value v is this data -/
inductive Den (K : PySem.W.Frag) (H : Hp) : V → Dt → Prop
  | non : Den K H .non .non
  | bl (b : Bool) : Den K H (.bl b) (.bl b)
  | int (i : Int) : Den K H (.int i) (.int i)
  | str (x : Str) : Den K H (.str x) (.str x)
  | tup {a : Addr} {xs : List V} {ds : List Dt} : H a = some (.tup xs) → DenAll K H xs ds → Den K H (.ref a) (.tup ds)
  | lst {a : Addr} {xs : List V} {ds : List Dt} : H a = some (.lst xs) → DenAll K H xs ds → Den K H (.ref a) (.lst ds)
  | dk {a : Addr} {ks : List Key} {vs : List V} {ds : List Dt} : H a = some (.dK (ks.zip vs)) → ks.length = vs.length → DenAll K H vs ds → Den K H (.ref a) (.dk ks ds)
  | dt {a : Addr} {ks : List (List Key)} {vs : List V} {ds : List Dt} : H a = some (.dT (ks.zip vs)) → ks.length = vs.length → DenAll K H vs ds → Den K H (.ref a) (.dt ks ds)
  | ins {a dx : Addr} {C : Str} {ns : List Str} {vs : List V} {ds : List Dt} : H a = some (.ins (He.ga K C) dx (ns.zip vs)) → ns.length = vs.length → DenAll K H vs ds → Den K H (.ref a) (.ins C ns ds)
  | raw (v : V) : Den K H v (.raw v)
inductive DenAll (K : PySem.W.Frag) (H : Hp) : List V → List Dt → Prop
  | nil : DenAll K H [] []
  | cons {v : V} {vs : List V} {d : Dt} {ds : List Dt} : Den K H v d → DenAll K H vs ds → DenAll K H (v :: vs) (d :: ds)
end
section
variable {K : PySem.W.Frag} {H H' : Hp}
mutual
theorem Den.mono (s : Same H H') : ∀ {v : V} {d : Dt}, Den K H v d → Den K H' v d
  | _, _, .non => .non
  | _, _, .bl b => .bl b
  | _, _, .int i => .int i
  | _, _, .str x => .str x
  | _, _, .tup h a => .tup (s _ _ h) (DenAll.mono s a)
  | _, _, .lst h a => .lst (s _ _ h) (DenAll.mono s a)
  | _, _, .dk h l a => .dk (s _ _ h) l (DenAll.mono s a)
  | _, _, .dt h l a => .dt (s _ _ h) l (DenAll.mono s a)
  | _, _, .ins h l a => .ins (s _ _ h) l (DenAll.mono s a)
  | _, _, .raw v => .raw v
theorem DenAll.mono (s : Same H H') : ∀ {vs : List V} {ds : List Dt}, DenAll K H vs ds → DenAll K H' vs ds
  | _, _, .nil => .nil
  | _, _, .cons a b => .cons (Den.mono s a) (DenAll.mono s b)
end
theorem DenAll.length : ∀ {vs : List V} {ds : List Dt}, DenAll K H vs ds → vs.length = ds.length
  | _, _, .nil => rfl
  | _, _, .cons _ b => by rw [List.length_cons, List.length_cons, b.length]
theorem DenAll.append : ∀ {vs us : List V} {ds es : List Dt}, DenAll K H vs ds → DenAll K H us es → DenAll K H (vs ++ us) (ds ++ es)
  | _, _, _, _, .nil, b => b
  | _, _, _, _, .cons a r, b => .cons a (r.append b)
theorem DenAll.snoc {vs : List V} {ds : List Dt} {v : V} {d : Dt} (a : DenAll K H vs ds) (b : Den K H v d) : DenAll K H (vs ++ [v]) (ds ++ [d]) := a.append (.cons b .nil)
theorem DenAll.get : ∀ {vs : List V} {ds : List Dt} {i : Nat} {d : Dt}, DenAll K H vs ds → ds[i]? = some d → ∃ v, vs[i]? = some v ∧ Den K H v d
  | _, _, _, _, .nil, e => by simp at e
  | _, _, 0, _, .cons a _, e => by
    simp at e; subst e
    exact ⟨_, rfl, a⟩
  | _, _, i + 1, d, .cons _ r, e => by
    obtain ⟨v, h1, h2⟩ := DenAll.get (i := i) (d := d) r (by simpa using e)
    exact ⟨v, by simpa using h1, h2⟩
theorem DenAll.getV : ∀ {vs : List V} {ds : List Dt} {i : Nat} {v : V}, DenAll K H vs ds → vs[i]? = some v → ∃ d, ds[i]? = some d ∧ Den K H v d
  | _, _, _, _, .nil, e => by simp at e
  | _, _, 0, _, .cons a _, e => by
    simp at e; subst e
    exact ⟨_, rfl, a⟩
  | _, _, i + 1, d, .cons _ r, e => by
    obtain ⟨v, h1, h2⟩ := DenAll.getV (i := i) (v := d) r (by simpa using e)
    exact ⟨v, by simpa using h1, h2⟩
theorem DenAll.set : ∀ {vs : List V} {ds : List Dt} {v : V} {d : Dt} (i : Nat), DenAll K H vs ds → Den K H v d → DenAll K H (vs.set i v) (ds.set i d)
  | _, _, _, _, _, .nil, _ => .nil
  | _, _, _, _, 0, .cons _ r, b => .cons b r
  | _, _, _, _, i + 1, .cons a r, b => .cons a (DenAll.set i r b)
theorem DenAll.take : ∀ {vs : List V} {ds : List Dt} (n : Nat), DenAll K H vs ds → DenAll K H (vs.take n) (ds.take n)
  | _, _, 0, _ => by simp; exact .nil
  | _, _, _ + 1, .nil => .nil
  | _, _, n + 1, .cons a r => .cons a (DenAll.take n r)
theorem DenAll.drop : ∀ {vs : List V} {ds : List Dt} (n : Nat), DenAll K H vs ds → DenAll K H (vs.drop n) (ds.drop n)
  | _, _, 0, r => r
  | _, _, _ + 1, .nil => .nil
  | _, _, n + 1, .cons _ r => DenAll.drop n r
theorem DenAll.dropLast : ∀ {vs : List V} {ds : List Dt}, DenAll K H vs ds → DenAll K H vs.dropLast ds.dropLast := by
  intro vs ds h
  rw [List.dropLast_eq_take, List.dropLast_eq_take, h.length]
  exact h.take _
theorem DenAll.reverse : ∀ {vs : List V} {ds : List Dt}, DenAll K H vs ds → DenAll K H vs.reverse ds.reverse
  | _, _, .nil => .nil
  | _, _, .cons a r => by
    rw [List.reverse_cons, List.reverse_cons]
    exact r.reverse.snoc a
theorem DenAll.replicate {vs : List V} {ds : List Dt} (h : DenAll K H vs ds) : ∀ n : Nat, DenAll K H (List.replicate n vs).flatten (List.replicate n ds).flatten
  | 0 => .nil
  | n + 1 => by
    rw [List.replicate_succ, List.replicate_succ, List.flatten_cons, List.flatten_cons]
    exact h.append (DenAll.replicate h n)
theorem DenAll.ints : ∀ w : List Int, DenAll K H (w.map V.int) (w.map Dt.int)
  | [] => .nil
  | x :: w => .cons (.int x) (DenAll.ints w)
end
/-- things whose value says all -/
def Dt.flat : Dt → Option V
  | .non => some .non
  | .bl b => some (.bl b)
  | .int i => some (.int i)
  | .str x => some (.str x)
  | .raw v => some v
  | _ => none
theorem Den.flat {K : PySem.W.Frag} {H : Hp} {v u : V} {d : Dt} (h : Den K H v d) (e : d.flat = some u) : v = u := by
  cases h <;> first
    | (injection e with e; try exact e)
    | cases e
theorem Den.of_flat {K : PySem.W.Frag} {H : Hp} {u : V} {d : Dt} (e : d.flat = some u) : Den K H u d := by
  cases d <;> first
    | (injection e with e; subst e; first | exact .non | exact .bl _ | exact .int _ | exact .str _ | exact .raw _)
    | cases e
/-! ### hidden things -/
open Classical in
/-- the heap without what X hides -/
noncomputable def vis (H : Hp) (X : Addr → Prop) : Hp := fun a => if X a then none else H a
theorem vis_of {H : Hp} {X : Addr → Prop} {a : Addr} {o : HO} (h : vis H X a = some o) : ¬ X a ∧ H a = some o := by
  unfold vis at h
  split at h
  · cases h
  · exact ⟨by assumption, h⟩
theorem vis_mk {H : Hp} {X : Addr → Prop} {a : Addr} {o : HO} (n : ¬ X a) (h : H a = some o) : vis H X a = some o := by
  unfold vis
  rw [if_neg n]; exact h
theorem vis_sub {H : Hp} {X : Addr → Prop} : Same (vis H X) H := fun _ _ h => (vis_of h).2
theorem vis_anti {H : Hp} {X Y : Addr → Prop} (h : ∀ a, X a → Y a) : Same (vis H Y) (vis H X) := fun _ _ e => vis_mk (fun x => (vis_of e).1 (h _ x)) (vis_of e).2
/-- the hand at h, its cells at c -/
def HandC (H : Hp) (h c : Addr) : Prop := ∃ (cells : List Int) (at_ : Nat) (big mix : Int), H h = some (.lst [.ref c, .int at_, .int big, .int mix]) ∧ H c = some (.lst (cells.map V.int)) ∧
  (∀ z ∈ cells, 0 ≤ z) ∧ at_ ≤ cells.length ∧ cells.length ≤ 63 ∧ 0 ≤ big ∧ 0 ≤ mix ∧ mix < 2147483563
abbrev Hnd := Option (Addr × Addr)
/-- all stands but the hand, which is a hand still -/
def Frm (hd : Hnd) (H H' : Hp) : Prop := (∀ a o, H a = some o → (∀ h c, hd = some (h, c) → a ≠ h) → H' a = some o) ∧ ∀ h c, hd = some (h, c) → HandC H h c → HandC H' h c
theorem HandC.same {H H' : Hp} {h c : Addr} (x : HandC H h c) (s : Same H H') : HandC H' h c := by
  obtain ⟨cells, at_, big, mix, a, b, r⟩ := x
  exact ⟨cells, at_, big, mix, s _ _ a, s _ _ b, r⟩
theorem Frm.refl {hd : Hnd} (H : Hp) : Frm hd H H := ⟨fun _ _ e _ => e, fun _ _ _ x => x⟩
theorem Frm.trans {hd : Hnd} {H H1 H2 : Hp} (a : Frm hd H H1) (b : Frm hd H1 H2) : Frm hd H H2 := ⟨fun p o e n => b.1 p o (a.1 p o e n) n, fun h c e x => b.2 h c e (a.2 h c e x)⟩
theorem Frm.same {hd : Hnd} {H H' : Hp} (s : Same H H') : Frm hd H H' := ⟨fun _ _ e _ => s _ _ e, fun _ _ _ x => x.same s⟩
theorem Frm.out {H H' : Hp} (f : Frm Option.none H H') : Same H H' := fun a o e => f.1 a o e fun _ _ z => by cases z
theorem Frm.upd {hd : Hnd} {H : Hp} {p : Addr} {o : HO} (h : H p = Option.none) : Frm hd H (upd H p o) := .same (same_upd h)
/-! ### where one stands -/
/-- fixed through a body: the facts' part, the heap and what is hidden at its entry, the hand, the exception in hand, what is wished of an exception -/
structure Bc where
  K : PySem.W.Frag
  H0 : Hp
  X0 : Addr → Prop
  hd : Hnd
  ex : Option (Addr × Value × Option Addr)
  E : L2.St → XK
  /-- self while it is made -/
  me : Option Addr
/-- a list, a dict of one's own -/
inductive Ow where
  | lst (xs : List Dt) | dk (ks : List Key) (vs : List Dt) | dt (ks : List (List Key)) (vs : List Dt)
def Ow.fz : Ow → Dt
  | .lst xs => .lst xs
  | .dk ks vs => .dk ks vs
  | .dt ks vs => .dt ks vs
inductive DenO (K : PySem.W.Frag) (H : Hp) : HO → Ow → Prop
  | lst {vs : List V} {xs : List Dt} : DenAll K H vs xs → DenO K H (.lst vs) (.lst xs)
  | dk {ks : List Key} {vs : List V} {xs : List Dt} : ks.length = vs.length → DenAll K H vs xs → DenO K H (.dK (ks.zip vs)) (.dk ks xs)
  | dt {ks : List (List Key)} {vs : List V} {xs : List Dt} : ks.length = vs.length → DenAll K H vs xs → DenO K H (.dT (ks.zip vs)) (.dt ks xs)
theorem DenO.mono {K : PySem.W.Frag} {H H' : Hp} (s : Same H H') {u : HO} {o : Ow} (h : DenO K H u o) : DenO K H' u o := by
  cases h with
  | lst a => exact .lst (a.mono s)
  | dk l a => exact .dk l (a.mono s)
  | dt l a => exact .dt l (a.mono s)
theorem DenO.fz {K : PySem.W.Frag} {H : Hp} {u : HO} {o : Ow} {p : Addr} (h : DenO K H u o) (e : H p = some u) : Den K H (.ref p) o.fz := by
  cases h with
  | lst a => exact .lst e a
  | dk l a => exact .dk e l a
  | dt l a => exact .dt e l a
theorem DenO.noins {K : PySem.W.Frag} {H : Hp} {C dx : Addr} {fs : List (Str × V)} {o : Ow} (h : DenO K H (.ins C dx fs) o) : False := by cases h
/-- what a slot holds: nothing that is known, data, a list of one's own, the hand, an exception in hand -/
inductive Sl where
  | no | d (x : Dt) | own (o : Ow) | hand | exc (c : Str) (fs : List (Str × V))
  /-- an instance of one's own: self while it is made -/
  | ins (C : Str) (ns : List Str) (ds : List Dt)
  /-- a list of one's own at p of lists of one's own at qs -/
  | tab (p : Addr) (qs : List Addr) (rows : List (List Dt))
def IsIns (env : List Sl) (i : Nat) : Prop := ∃ C ns ds, env[i]? = some (.ins C ns ds)
/-- only the first slot holds an instance of one's own -/
def One (env : List Sl) : Prop := ∀ i, IsIns env i → i = 0
theorem One.set {env : List Sl} (h : One env) {j : Nat} {s : Sl} (hs : ∀ C ns ds, s ≠ .ins C ns ds) : One (env.set j s) := fun i ⟨C, ns, ds, e⟩ => by
  rw [List.getElem?_set] at e
  split at e
  · split at e
    · injection e with e; exact absurd e (hs C ns ds)
    · cases e
  · exact h i ⟨C, ns, ds, e⟩
theorem One.map {env : List Sl} (h : One env) {f : Sl → Sl} (hf : ∀ s C ns ds, f s = .ins C ns ds → s = .ins C ns ds) : One (env.map f) := fun i ⟨C, ns, ds, e⟩ => by
  rw [List.getElem?_map, Option.map_eq_some_iff] at e
  obtain ⟨s, e1, e2⟩ := e
  exact h i ⟨C, ns, ds, by rw [e1, hf _ _ _ _ e2]⟩
/-- lists of one's own at qs -/
def RowsAt (K : PySem.W.Frag) (V H : Hp) (qs : List Addr) (rows : List (List Dt)) : Prop :=
  qs.length = rows.length ∧ ∀ (j : Nat) (q : Addr) (ds : List Dt), qs[j]? = some q → rows[j]? = some ds → ∃ us, H q = some (.lst us) ∧ DenAll K V us ds
/-- the things of one's own that a slot holds -/
def Foot : Sl → Option V → Addr → Prop
  | .own _, o, a => o = some (.ref a)
  | .tab p qs _, _, a => a ∈ p :: qs
  | _, _, _ => False
/-- no thing of one's own is held by two slots -/
def Apt (env : List Sl) (σ : L2.St) : Prop := ∀ (i j : Nat) (s t : Sl) (o u : Option V) (a : Addr), i ≠ j → env[i]? = some s → env[j]? = some t → σ[i]? = some o → σ[j]? = some u → Foot s o a → ¬ Foot t u a
theorem Apt.setF {env : List Sl} {σ : L2.St} {j : Nat} {s : Sl} {o : Option V} (h : Apt env σ) (n : ∀ (i : Nat) (t : Sl) (u : Option V) (a : Addr), i ≠ j → env[i]? = some t → σ[i]? = some u → Foot s o a → ¬ Foot t u a) : Apt (env.set j s) (σ.set j o) := by
  intro i k s1 t1 o1 u1 a ne e1 e2 e3 e4 f1 f2
  rw [List.getElem?_set] at e1 e2 e3 e4
  by_cases c : j = i
  · subst c
    rw [if_neg ne] at e2 e4
    rw [if_pos rfl] at e1 e3
    split at e1
    · split at e3
      · cases e1; cases e3
        exact n k t1 u1 a (Ne.symm ne) e2 e4 f1 f2
      · cases e3
    · cases e1
  · rw [if_neg c] at e1 e3
    by_cases c2 : j = k
    · subst c2
      rw [if_pos rfl] at e2 e4
      split at e2
      · split at e4
        · cases e2; cases e4
          exact n i s1 o1 a ne e1 e3 f2 f1
        · cases e4
      · cases e2
    · rw [if_neg c2] at e2 e4
      exact h i k s1 t1 o1 u1 a ne e1 e2 e3 e4 f1 f2
theorem Apt.set {env : List Sl} {σ : L2.St} {j : Nat} {s : Sl} {o : Option V} (h : Apt env σ) (n : ∀ a, ¬ Foot s o a) : Apt (env.set j s) (σ.set j o) := h.setF fun _ _ _ a _ _ _ f => absurd f (n a)
theorem Apt.setS {env : List Sl} {σ : L2.St} {j : Nat} {s : Sl} (h : Apt env σ) (n : ∀ (o : Option V) (a : Addr), σ[j]? = some o → Foot s o a → ∃ t, env[j]? = some t ∧ Foot t o a) : Apt (env.set j s) σ := by
  intro i k s1 t1 o1 u1 a ne e1 e2 e3 e4 f1 f2
  have g : ∀ (m : Nat) (s2 : Sl) (o2 : Option V), (env.set j s)[m]? = some s2 → σ[m]? = some o2 → Foot s2 o2 a → ∃ s3, env[m]? = some s3 ∧ Foot s3 o2 a := fun m s2 o2 e q f => by
    rw [List.getElem?_set] at e
    by_cases c : j = m
    · subst c
      rw [if_pos rfl] at e
      split at e
      · cases e; exact n o2 a q f
      · cases e
    · rw [if_neg c] at e
      exact ⟨s2, e, f⟩
  obtain ⟨s3, a1, b1⟩ := g i s1 o1 e1 e3 f1
  obtain ⟨t3, a2, b2⟩ := g k t1 u1 e2 e4 f2
  exact h i k s3 t3 o1 u1 a ne a1 a2 e3 e4 b1 b2
theorem Apt.map {env : List Sl} {σ : L2.St} (h : Apt env σ) {f : Sl → Sl} (hf : ∀ s o a, Foot (f s) o a → Foot s o a) : Apt (env.map f) σ := by
  intro i k s1 t1 o1 u1 a ne e1 e2 e3 e4 f1 f2
  rw [List.getElem?_map, Option.map_eq_some_iff] at e1 e2
  obtain ⟨s3, a1, rfl⟩ := e1
  obtain ⟨t3, a2, rfl⟩ := e2
  exact h i k s3 t3 o1 u1 a ne a1 a2 e3 e4 (hf _ _ _ f1) (hf _ _ _ f2)
theorem Apt.none {env : List Sl} {σ : L2.St} (h : ∀ (i : Nat) (s : Sl), env[i]? = some s → ∀ o a, ¬ Foot s o a) : Apt env σ := fun i _ s _ o _ a _ e1 _ _ _ f1 => absurd f1 (h i s e1 o a)
def SlRep (C : Bc) (X : Addr → Prop) (H : Hp) : Sl → Option V → Prop
  | .no, _ => True
  | .d x, o => ∃ v, o = some v ∧ Den C.K (vis H X) v x
  | .own w, o => ∃ p u, o = some (.ref p) ∧ X p ∧ ¬ C.X0 p ∧ H p = some u ∧ DenO C.K (vis H X) u w
  | .hand, o => ∃ h c, o = some (.ref h) ∧ C.hd = some (h, c)
  | .tab p qs rows, o => o = some (.ref p) ∧ (∀ a ∈ p :: qs, X a ∧ ¬ C.X0 a) ∧ (p :: qs).Nodup ∧ H p = some (.lst (qs.map V.ref)) ∧ RowsAt C.K (vis H X) H qs rows
  | .ins C0 ns ds, o => ∃ p dx vs, o = some (.ref p) ∧ X p ∧ ¬ C.X0 p ∧ H p = some (.ins (He.ga C.K C0) dx (ns.zip vs)) ∧ (ns.length = vs.length ∧ C.me = some p) ∧ DenAll C.K (vis H X) vs ds
  | .exc c fs, o => match C.ex with
    | none => True
    | some (a, cls, dx) => o = some (.ref a) ∧ cls = .ref (He.ga C.K c) ∧ ((fs = [] ∧ dx = none) ∨ ∃ dd, dx = some dd ∧ vis H X dd = some (.xd fs))
theorem SlRep.exc {C : Bc} {X Y : Addr → Prop} {H H' : Hp} {c : Str} {fs : List (Str × V)} {o : Option V} (h : SlRep C X H (.exc c fs) o) (s : Same (vis H X) (vis H' Y)) : SlRep C Y H' (.exc c fs) o := by
  unfold SlRep at h ⊢
  dsimp only at h ⊢
  split at h
  · trivial
  · exact ⟨h.1, h.2.1, h.2.2.imp id fun ⟨dd, e, q⟩ => ⟨dd, e, s _ _ q⟩⟩
theorem SlRep.tab_to {C : Bc} {X Y : Addr → Prop} {H H' : Hp} {p : Addr} {qs : List Addr} {rows : List (List Dt)} {o : Option V} (h : SlRep C X H (.tab p qs rows) o) (hX : ∀ a ∈ p :: qs, X a → Y a) (hH : ∀ a ∈ p :: qs, ∀ u, H a = some u → H' a = some u) (s : Same (vis H X) (vis H' Y)) : SlRep C Y H' (.tab p qs rows) o := by
  obtain ⟨e, h1, h2, h3, h4, h5⟩ := h
  refine ⟨e, fun a ha => ⟨hX a ha (h1 a ha).1, (h1 a ha).2⟩, h2, hH p List.mem_cons_self _ h3, h4, fun j q ds e1 e2 => ?_⟩
  obtain ⟨us, a, b⟩ := h5 j q ds e1 e2
  exact ⟨us, hH q (List.mem_cons_of_mem _ (List.mem_of_getElem? e1)) _ a, b.mono s⟩
theorem SlRep.tab_lst {C : Bc} {X : Addr → Prop} {H : Hp} {p : Addr} {qs : List Addr} {rows : List (List Dt)} {o : Option V} (h : SlRep C X H (.tab p qs rows) o) : ∀ a ∈ p :: qs, ∃ us, H a = some (.lst us) := by
  obtain ⟨e, h1, h2, h3, h4, h5⟩ := h
  intro a ha
  rcases List.mem_cons.mp ha with rfl | ha
  · exact ⟨_, h3⟩
  · obtain ⟨j, hj, e⟩ := List.getElem_of_mem ha
    obtain ⟨us, g, _⟩ := h5 j a (rows[j]'(by rw [← h4]; exact hj)) (by rw [List.getElem?_eq_getElem hj, e]) (List.getElem?_eq_getElem _)
    exact ⟨us, g⟩
structure Rep (C : Bc) (X : Addr → Prop) (env : List Sl) (σ : L2.St) (H : Hp) : Prop where
  len : env.length = σ.length
  sup : ∀ a, C.X0 a → X a
  new : ∀ a, X a → C.X0 a ∨ C.H0 a = none
  al : ∀ a, X a → ∃ o, H a = some o
  frm : Frm C.hd C.H0 H
  hands : ∀ h c, C.hd = some (h, c) → C.X0 h ∧ HandC C.H0 h c ∧ HandC H h c
  slot : ∀ (i : Nat) (s : Sl), env[i]? = some s → ∃ o, σ[i]? = some o ∧ SlRep C X H s o
  ap : Apt env σ
  one : One env
section
variable {C : Bc} {X : Addr → Prop} {env : List Sl} {σ : L2.St} {H H' : Hp}
theorem vis_frm (hX : ∀ h c, C.hd = some (h, c) → X h) (f : Frm C.hd H H') : Same (vis H X) (vis H' X) := fun a o e => by
  obtain ⟨n, h⟩ := vis_of e
  exact vis_mk n (f.1 a o h fun h c z q => n (q ▸ hX h c z))
theorem Rep.inj (r : Rep C X env σ H) (i j : Nat) (xs ys : Ow) (ne : i ≠ j) (e1 : env[i]? = some (.own xs)) (e2 : env[j]? = some (.own ys)) : σ[i]? ≠ σ[j]? := fun z => by
  obtain ⟨o, q1, p, u, rfl, _⟩ := r.slot i _ e1
  exact r.ap i j _ _ _ _ p ne e1 e2 q1 (z ▸ q1) rfl rfl
/-- what a slot holds of its own is hidden, new and there -/
theorem Rep.foot (r : Rep C X env σ H) {i : Nat} {s : Sl} {o : Option V} {a : Addr} (e1 : env[i]? = some s) (e2 : σ[i]? = some o) (f : Foot s o a) : X a ∧ ¬ C.X0 a ∧ ∃ u, H a = some u := by
  obtain ⟨o', q1, q⟩ := r.slot i s e1
  rw [q1] at e2; cases e2
  cases s with
  | own w =>
    obtain ⟨p, u, rfl, x1, x2, h, _⟩ := q
    have : a = p := by injection f with f; injection f with f; exact f.symm
    subst this
    exact ⟨x1, x2, u, h⟩
  | tab p qs rows =>
    obtain ⟨us, h⟩ := q.tab_lst a f
    exact ⟨(q.2.1 a f).1, (q.2.1 a f).2, _, h⟩
  | no => exact f.elim
  | d x => exact f.elim
  | hand => exact f.elim
  | exc c fs => exact f.elim
  | ins C0 ns ds => exact f.elim
/-- a free address is held by no slot -/
theorem Rep.nofoot (r : Rep C X env σ H) {p : Addr} (n : H p = none) (i : Nat) (s : Sl) (o : Option V) (e1 : env[i]? = some s) (e2 : σ[i]? = some o) : ¬ Foot s o p := fun f => by
  obtain ⟨_, _, u, h⟩ := r.foot e1 e2 f
  rw [n] at h; cases h
theorem Rep.hX (r : Rep C X env σ H) : ∀ h c, C.hd = some (h, c) → X h := fun h c e => r.sup h (r.hands h c e).1
theorem Rep.vs (r : Rep C X env σ H) (f : Frm C.hd H H') : Same (vis H X) (vis H' X) := vis_frm r.hX f
theorem Rep.nh (r : Rep C X env σ H) {p : Addr} (n : ¬ C.X0 p) : ∀ h c, C.hd = some (h, c) → p ≠ h := fun h c e z => n (z ▸ (r.hands h c e).1)
theorem Frm.there (f : Frm C.hd H H') (hh : ∀ h c, C.hd = some (h, c) → HandC H h c) {a : Addr} {o : HO} (e : H a = some o) : ∃ o', H' a = some o' := by
  by_cases z : ∃ h c, C.hd = some (h, c) ∧ a = h
  · obtain ⟨h, c, e1, rfl⟩ := z
    obtain ⟨_, _, _, _, q, _⟩ := f.2 a c e1 (hh a c e1)
    exact ⟨_, q⟩
  · exact ⟨o, f.1 a o e fun h c e1 q => z ⟨h, c, e1, q⟩⟩
theorem Frm.free (f : Frm C.hd H H') (hh : ∀ h c, C.hd = some (h, c) → HandC H h c) {a : Addr} (e : H' a = none) : H a = none := by
  cases q : H a with
  | none => rfl
  | some o =>
    obtain ⟨o', e'⟩ := f.there hh q
    rw [e] at e'; cases e'
/-- nothing but the hand has changed -/
theorem Rep.step (r : Rep C X env σ H) (f : Frm C.hd H H') : Rep C X env σ H' where
  len := r.len
  sup := r.sup
  new := r.new
  al := fun a x => let ⟨_, e⟩ := r.al a x; f.there (fun h c e => (r.hands h c e).2.2) e
  frm := r.frm.trans f
  hands := fun h c e => ⟨(r.hands h c e).1, (r.hands h c e).2.1, f.2 h c e (r.hands h c e).2.2⟩
  slot := fun i s e => by
    obtain ⟨o, e1, q⟩ := r.slot i s e
    refine ⟨o, e1, ?_⟩
    cases s with
    | no => trivial
    | d x => obtain ⟨v, e2, h⟩ := q; exact ⟨v, e2, h.mono (r.vs f)⟩
    | own xs =>
      obtain ⟨p, vs, e2, x1, x2, h1, h2⟩ := q
      exact ⟨p, vs, e2, x1, x2, f.1 p _ h1 (r.nh x2), h2.mono (r.vs f)⟩
    | hand => exact q
    | exc c fs => exact q.exc (r.vs f)
    | ins C0 ns ds =>
      obtain ⟨p, dx, vs, e2, x1, x2, h1, l, h2⟩ := q
      exact ⟨p, dx, vs, e2, x1, x2, f.1 p _ h1 (r.nh x2), l, h2.mono (r.vs f)⟩
    | tab p qs rows => exact q.tab_to (fun _ _ x => x) (fun a ha u h => f.1 a u h (r.nh (q.2.1 a ha).2)) (r.vs f)
  ap := r.ap
  one := r.one
theorem Rep.free (r : Rep C X env σ H) {p : Addr} (e : H p = none) : ¬ X p := fun x => by
  obtain ⟨o, q⟩ := r.al p x
  rw [e] at q; cases q
theorem Rep.h0 (r : Rep C X env σ H) {p : Addr} (e : H p = none) : C.H0 p = none := r.frm.free (fun h c e => (r.hands h c e).2.1) e
end
end Mine

namespace Mine
open PySem PySem.Spec PyProof.Rows L2
/-! ### what is wanted of expressions, by data -/
/-- an exception: its class, its attributes -/
structure Xc where
  cls : Str
  fs : List (Str × V)
abbrev DX := List Sl → (Dt → Prop) → (Xc → Prop) → Prop
abbrev DTX := List Sl → (Bool → Prop) → (Xc → Prop) → Prop
abbrev DAX := List Sl → (List Dt → Prop) → (Xc → Prop) → Prop
abbrev DSX := List Sl → (List Sl → Prop) → (Xc → Prop) → Prop
def XRep (K : PySem.W.Frag) (H : Hp) (cls : Value) (d : Option Addr) (x : Xc) : Prop := cls = .ref (He.ga K x.cls) ∧ match x.fs with
  | [] => d = none
  | f :: r => ∃ a, d = some a ∧ H a = some (.xd (f :: r))
theorem XRep.mono {K : PySem.W.Frag} {H H' : Hp} {cls : Value} {d : Option Addr} {x : Xc} (h : XRep K H cls d x) (s : Same H H') : XRep K H' cls d x := by
  obtain ⟨e, q⟩ := h
  refine ⟨e, ?_⟩
  obtain ⟨c, fs⟩ := x
  cases fs with
  | nil => exact q
  | cons f r => obtain ⟨a, e1, e2⟩ := q; exact ⟨a, e1, s _ _ e2⟩
def XOk (C : Bc) (X : Addr → Prop) (σ : L2.St) (H : Hp) (Qx : Xc → Prop) : Prop := ∀ x cls dx H', Frm C.hd H H' → XRep C.K (vis H' X) cls dx x → Qx x → C.E σ cls dx H'
/-- how a value stands for data: with all that is let; a list of one's own that is read; a new list -/
abbrev RR := Bc → (Addr → Prop) → Hp → Hp → V → Dt → Prop
def Cln : RR := fun C X _ H v d => Den C.K (vis H X) v d
def Bor : RR := fun C X _ H v d => Den C.K (vis H X) v d ∨ ∃ p vs ds, v = .ref p ∧ d = .lst ds ∧ (∀ h c, C.hd = some (h, c) → p ≠ h) ∧ H p = some (.lst vs) ∧ DenAll C.K (vis H X) vs ds
def Fsh : RR := fun C X H0 H v d => ∃ p vs ds, v = .ref p ∧ d = .lst ds ∧ H0 p = none ∧ H p = some (.lst vs) ∧ DenAll C.K (vis H fun a => X a ∨ a = p) vs ds
def DEg (R : RR) (C : Bc) (t : TE) (e : DX) : Prop := ∀ X env σ H (Q : VK) (Qd : Dt → Prop) (Qx : Xc → Prop), Rep C X env σ H → e env Qd Qx → (∀ d v H', Frm C.hd H H' → R C X H H' v d → Qd d → Q v H') → XOk C X σ H Qx → t σ H Q
abbrev DE := DEg Cln
abbrev DB := DEg Bor
abbrev DF := DEg Fsh
section
variable {C : Bc} {X : Addr → Prop} {env : List Sl} {σ : L2.St} {H H1 H' : Hp} {v : V} {d : Dt} {t : TE} {e : DX} {Qx : Xc → Prop}
theorem XOk.step (x : XOk C X σ H Qx) (f : Frm C.hd H H') : XOk C X σ H' Qx := fun y cls dx H2 f2 r q => x y cls dx H2 (f.trans f2) r q
theorem Bor.frm (r : Rep C X env σ H) (f : Frm C.hd H H') (h : Bor C X H1 H v d) : Bor C X H1 H' v d := by
  rcases h with h | ⟨p, vs, ds, e1, e2, n, h1, h2⟩
  · exact .inl (h.mono (r.vs f))
  · exact .inr ⟨p, vs, ds, e1, e2, n, f.1 p _ h1 n, h2.mono (r.vs f)⟩
theorem Cln.bor (h : Cln C X H1 H v d) : Bor C X H1 H v d := .inl h
theorem Fsh.cln (r : Rep C X env σ H1) (h : Fsh C X H1 H v d) : Cln C X H1 H v d := by
  obtain ⟨p, vs, ds, rfl, rfl, n, h1, h2⟩ := h
  exact .lst (vis_mk (r.free n) h1) (h2.mono (vis_anti fun _ => .inl))
theorem Fsh.frm (r : Rep C X env σ H) (f : Frm C.hd H H1) (h : Fsh C X H1 H' v d) : Fsh C X H H' v d := by
  obtain ⟨p, vs, ds, e1, e2, n, h1⟩ := h
  exact ⟨p, vs, ds, e1, e2, f.free (fun h c e => (r.hands h c e).2.2) n, h1⟩
theorem DEg.bor (h : DE C t e) : DB C t e := fun X env σ H Q Qd Qx r he q x => h X env σ H Q Qd Qx r he (fun d v H' f h => q d v H' f (.inl h)) x
theorem DEg.cln (h : DF C t e) : DE C t e := fun X env σ H Q Qd Qx r he q x => h X env σ H Q Qd Qx r he (fun d v H' f h => q d v H' f (h.cln r)) x
theorem Bor.flat {u : V} (h : Bor C X H1 H v d) (e : d.flat = some u) : v = u := by
  rcases h with h | ⟨p, vs, ds, e1, rfl, _⟩
  · exact h.flat e
  · cases e
theorem Bor.int {i : Int} (h : Bor C X H1 H v (.int i)) : v = .int i := h.flat rfl
theorem Bor.bl {i : Bool} (h : Bor C X H1 H v (.bl i)) : v = .bl i := h.flat rfl
theorem Bor.str {i : Str} (h : Bor C X H1 H v (.str i)) : v = .str i := h.flat rfl
theorem Bor.non (h : Bor C X H1 H v .non) : v = .non := h.flat rfl
theorem Bor.raw {u : V} (h : Bor C X H1 H v (.raw u)) : v = u := h.flat rfl
theorem Bor.lst {ds : List Dt} (h : Bor C X H1 H v (.lst ds)) : ∃ p vs, v = .ref p ∧ H p = some (.lst vs) ∧ DenAll C.K (vis H X) vs ds := by
  rcases h with h | ⟨p, vs, ds, e1, e2, n, h1, h2⟩
  · cases h with
    | lst h a => exact ⟨_, _, rfl, vis_sub _ _ h, a⟩
  · cases e2; exact ⟨p, vs, e1, h1, h2⟩
theorem Bor.tup {ds : List Dt} (h : Bor C X H1 H v (.tup ds)) : ∃ p vs, v = .ref p ∧ H p = some (.tup vs) ∧ DenAll C.K (vis H X) vs ds := by
  rcases h with h | ⟨p, vs, ds, e1, e2, n, h1, h2⟩
  · cases h with
    | tup h a => exact ⟨_, _, rfl, vis_sub _ _ h, a⟩
  · cases e2
theorem Bor.dk {ks : List Key} {ds : List Dt} (h : Bor C X H1 H v (.dk ks ds)) : ∃ p vs, v = .ref p ∧ H p = some (.dK (ks.zip vs)) ∧ ks.length = vs.length ∧ DenAll C.K (vis H X) vs ds := by
  rcases h with h | ⟨p, vs, ds, e1, e2, n, h1, h2⟩
  · cases h with
    | dk h l a => exact ⟨_, _, rfl, vis_sub _ _ h, l, a⟩
  · cases e2
theorem Bor.dt {ks : List (List Key)} {ds : List Dt} (h : Bor C X H1 H v (.dt ks ds)) : ∃ p vs, v = .ref p ∧ H p = some (.dT (ks.zip vs)) ∧ ks.length = vs.length ∧ DenAll C.K (vis H X) vs ds := by
  rcases h with h | ⟨p, vs, ds, e1, e2, n, h1, h2⟩
  · cases h with
    | dt h l a => exact ⟨_, _, rfl, vis_sub _ _ h, l, a⟩
  · cases e2
theorem Bor.ins {c : Str} {ns : List Str} {ds : List Dt} (h : Bor C X H1 H v (.ins c ns ds)) : ∃ p dx vs, v = .ref p ∧ H p = some (.ins (He.ga C.K c) dx (ns.zip vs)) ∧ ns.length = vs.length ∧ DenAll C.K (vis H X) vs ds := by
  rcases h with h | ⟨p, vs, ds, e1, e2, n, h1, h2⟩
  · cases h with
    | ins h l a => exact ⟨_, _, _, rfl, vis_sub _ _ h, l, a⟩
  · cases e2
/-- a new thing is laid -/
theorem Rep.laid {p : Addr} {o : HO} (r : Rep C X env σ H) (n : H p = none) : Frm C.hd H (upd H p o) := .upd n
theorem cln_new {p : Addr} {vs : List V} {ds : List Dt} (r : Rep C X env σ H) (n : H p = none) (h : DenAll C.K (vis H X) vs ds) : Cln C X H1 (upd H p (.tup vs)) (.ref p) (.tup ds) :=
  .tup (vis_mk (r.free n) upd_same) (h.mono (r.vs (.upd n)))
theorem fsh_new {p : Addr} {vs : List V} {ds : List Dt} (r : Rep C X env σ H) (n : H p = none) (h : DenAll C.K (vis H X) vs ds) : Fsh C X H (upd H p (.lst vs)) (.ref p) (.lst ds) :=
  ⟨p, vs, ds, rfl, rfl, n, upd_same, h.mono fun a o e => by
    obtain ⟨n1, e1⟩ := vis_of e
    have ne : a ≠ p := ne_of_none e1 n
    exact vis_mk (fun z => z.elim n1 ne) (by rw [upd_ne ne]; exact e1)⟩
end
/-! ### names, constants -/
def eVar (i : Nat) : DX := fun env Q _ => match env[i]? with
  | some (.d x) => Q x
  | _ => False
def eVarB (i : Nat) : DX := fun env Q _ => match env[i]? with
  | some (.d x) => Q x
  | some (.own (.lst xs)) => Q (.lst xs)
  | _ => False
def eC (d : Dt) : DX := fun _ Q _ => Q d
section
variable {C : Bc} {X : Addr → Prop} {env : List Sl} {σ : L2.St} {H : Hp}
theorem Rep.at (r : Rep C X env σ H) {i : Nat} {x : Dt} (e : env[i]? = some (.d x)) : ∃ v, σ[i]? = some (some v) ∧ Den C.K (vis H X) v x := by
  obtain ⟨o, e1, v, rfl, h⟩ := r.slot i _ e
  exact ⟨v, e1, h⟩
theorem de_var (i : Nat) : DE C (tVar i) (eVar i) := by
  intro X env σ H Q Qd Qx r he q x
  unfold eVar at he
  split at he
  · rename_i y e
    obtain ⟨v, e1, h⟩ := r.at e
    exact ⟨v, e1, q _ v H (.refl H) h he⟩
  · exact he.elim
theorem db_var (i : Nat) : DB C (tVar i) (eVarB i) := by
  intro X env σ H Q Qd Qx r he q x
  unfold eVarB at he
  split at he
  · rename_i y e
    obtain ⟨v, e1, h⟩ := r.at e
    exact ⟨v, e1, q _ v H (.refl H) (.inl h) he⟩
  · rename_i y e
    obtain ⟨o, e1, p, u, rfl, x1, x2, h1, h2⟩ := r.slot i _ e
    cases h2 with
    | @lst vs _ h2 => exact ⟨.ref p, e1, q _ _ H (.refl H) (.inr ⟨p, vs, _, rfl, rfl, r.nh x2, h1, h2⟩) he⟩
  · exact he.elim
theorem de_c {v : V} {d : Dt} (e : d.flat = some v) : DE C (tC v) (eC d) := fun X env σ H Q Qd Qx r he q x => q d v H (.refl H) (.of_flat e) he
theorem de_int (i : Int) : DE C (tC (.int i)) (eC (.int i)) := de_c rfl
theorem de_str (i : Str) : DE C (tC (.str i)) (eC (.str i)) := de_c rfl
theorem de_bl (i : Bool) : DE C (tC (.bl i)) (eC (.bl i)) := de_c rfl
theorem de_non : DE C (tC .non) (eC .non) := de_c rfl
theorem de_raw (v : V) : DE C (tC v) (eC (.raw v)) := de_c rfl
end
/-! ### operators -/
abbrev D2 := Dt → Dt → (Dt → Prop) → Prop
abbrev D1 := Dt → (Dt → Prop) → Prop
def OpG (R : RR) (C : Bc) (r : R2) (f : D2) : Prop := ∀ X env σ H H1 x y a b (Q : VK) (Qd : Dt → Prop), Rep C X env σ H → Bor C X H1 H x a → Bor C X H1 H y b → f a b Qd → (∀ d v H', Frm C.hd H H' → R C X H H' v d → Qd d → Q v H') → r x y H Q
abbrev OpD := OpG Cln
def eOp (f : D2) (a b : DX) : DX := fun env Q E => a env (fun x => b env (fun y => f x y Q) E) E
/-- what a reading may be weakened by: an earlier start -/
class RRs (R : RR) : Prop where
  st : ∀ {C : Bc} {X : Addr → Prop} {env : List Sl} {σ : L2.St} {H H1 H' : Hp} {v : V} {d : Dt}, Rep C X env σ H → Frm C.hd H H1 → R C X H1 H' v d → R C X H H' v d
instance : RRs Cln := ⟨fun _ _ h => h⟩
instance : RRs Bor := ⟨fun _ _ h => h⟩
instance : RRs Fsh := ⟨fun r f h => h.frm r f⟩
section
variable {C : Bc} {r r' : R2} {f : D2} {ta tb : TE} {a b : DX} {R : RR}
theorem dg_op [RRs R] (ho : OpG R C r f) (ha : DB C ta a) (hb : DB C tb b) : DEg R C (tOp r ta tb) (eOp f a b) := by
  intro X env σ H Q Qd Qx rp he q x
  refine ha X env σ H _ _ Qx rp he (fun d v H1 f1 r1 he1 => ?_) x
  have rp1 := rp.step f1
  refine hb X env σ H1 _ _ Qx rp1 he1 (fun d2 v2 H2 f2 r2 he2 => ?_) (x.step f1)
  exact ho X env σ H2 H1 v v2 d d2 Q Qd (rp1.step f2) (r1.frm rp1 f2) r2 he2 fun d3 v3 H3 f3 r3 => q d3 v3 H3 (f1.trans (f2.trans f3)) (RRs.st rp (f1.trans f2) r3)
end
section
variable {C : Bc} {r r' : R2} {f g : D2}
/-- one rule or the other -/
theorem OpG.left {R : RR} (h : OpG R C r f) : OpG R C (fun x y H Q => r x y H Q ∨ r' x y H Q) f := fun X env σ H H1 x y a b Q Qd rp r1 r2 he q => .inl (h X env σ H H1 x y a b Q Qd rp r1 r2 he q)
theorem OpG.right {R : RR} (h : OpG R C r' f) : OpG R C (fun x y H Q => r x y H Q ∨ r' x y H Q) f := fun X env σ H H1 x y a b Q Qd rp r1 r2 he q => .inr (h X env σ H H1 x y a b Q Qd rp r1 r2 he q)
end
/-- whole numbers -/
def dI (c : Int → Int → Prop) (g : Int → Int → Dt) : D2 := fun a b Q => match a, b with
  | .int i, .int j => c i j ∧ Q (g i j)
  | _, _ => False
def dI0 (g : Int → Int → Dt) : D2 := fun a b Q => match a, b with
  | .int i, .int j => Q (g i j)
  | _, _ => False
section
variable {C : Bc}
theorem od_I0 {g : Int → Int → V} {g' : Int → Int → Dt} (e : ∀ i j, (g' i j).flat = some (g i j)) : OpD C (rI0 g) (dI0 g') := by
  intro X env σ H H1 x y a b Q Qd rp r1 r2 he q
  unfold dI0 at he
  split at he
  · exact ⟨_, _, r1.int, r2.int, q _ _ H (.refl H) (.of_flat (e _ _)) he⟩
  · exact he.elim
end
abbrev LINE : Nat := 16777216
/-! + -/
def rAddIB : R2 := fun x y H Q => ∃ i k, x = .int i ∧ y = .bl k ∧ Q (.int (i + b2i k)) H
def rAddS : R2 := fun x y H Q => ∃ i j, x = .str i ∧ y = .str j ∧ i.length + j.length ≤ sizeLine ∧ Q (.str (i ++ j)) H
def rAddU (K : PySem.W.Frag) : R2 := fun x y H Q => rI0 (fun i j => .int (i + j)) x y H Q ∨ (rCat x y H Q ∨ (rCatA K x y H Q ∨ (rAddS x y H Q ∨ rAddIB x y H Q)))
theorem op_addU {X : Cx} {K : PySem.W.Frag} (e : X.K = K) : OpR X (binaryOp .Add) (rAddU K) := op_add.or (op_cat.or ((OpR.k (r := rCatA) (K := K) op_catA e).or (OpR.or (r := rAddS) op_add_str op_add_ib)))
def dAdd : D2 := fun a b Q => match a, b with
  | .int i, .int j => Q (.int (i + j))
  | .lst xs, .lst ys => xs.length + ys.length ≤ LINE ∧ Q (.lst (xs ++ ys))
  | .tup xs, .tup ys => xs.length + ys.length ≤ LINE ∧ Q (.tup (xs ++ ys))
  | .str x, .str y => x.length + y.length ≤ LINE ∧ Q (.str (x ++ y))
  | .int i, .bl k => Q (.int (i + b2i k))
  | _, _ => False
def dAddL : D2 := fun a b Q => match a, b with
  | .lst xs, .lst ys => xs.length + ys.length ≤ LINE ∧ Q (.lst (xs ++ ys))
  | _, _ => False
section
variable {C : Bc}
theorem od_addL : OpG Fsh C (rAddU C.K) dAddL := by
  intro X env σ H H1 x y a b Q Qd rp r1 r2 he q
  unfold dAddL at he
  split at he
  · obtain ⟨p, vs, rfl, h1, a1⟩ := r1.lst
    obtain ⟨p2, vs2, rfl, h2, a2⟩ := r2.lst
    refine .inr (.inl ⟨p, p2, vs, vs2, rfl, rfl, h1, h2, by rw [a1.length, a2.length, sizeLine_eq]; exact he.1, fun pn hp => ?_⟩)
    exact q _ _ _ (.upd hp) (fsh_new rp hp (a1.append a2)) he.2
  · exact he.elim
theorem od_add : OpD C (rAddU C.K) dAdd := by
  intro X env σ H H1 x y a b Q Qd rp r1 r2 he q
  unfold dAdd at he
  split at he
  · exact .inl ⟨_, _, r1.int, r2.int, q _ _ H (.refl H) (.int _) he⟩
  · exact od_addL X env σ H H1 x y _ _ Q Qd rp r1 r2 he fun d v H' f h => q d v H' f (h.cln rp)
  · obtain ⟨p, vs, rfl, h1, a1⟩ := r1.tup
    obtain ⟨p2, vs2, rfl, h2, a2⟩ := r2.tup
    have al := a1.append a2
    refine .inr (.inr (.inl ⟨p, p2, vs, vs2, rfl, rfl, .inl (.inl h1), .inl (.inl h2), by rw [a1.length, a2.length, sizeLine_eq]; exact he.1, fun e => ?_, fun _ e => ?_, fun _ _ pn hp => ?_⟩))
    · subst e
      refine q _ _ H (.refl H) ?_ he.2
      rcases r2 with r2 | ⟨_, _, _, _, e2, _⟩
      · cases r2 with
        | @tup _ xs' _ g g2 =>
          have e : xs' = vs2 := by simpa using (vis_sub _ _ g).symm.trans h2
          subst e
          exact .tup g al
      · cases e2
    · subst e
      refine q _ _ H (.refl H) ?_ he.2
      rcases r1 with r1 | ⟨_, _, _, _, e2, _⟩
      · cases r1 with
        | @tup _ xs' _ g g2 =>
          have e : xs' = vs := by simpa using (vis_sub _ _ g).symm.trans h1
          subst e
          rw [List.append_nil] at al
          exact .tup g al
      · cases e2
    · exact q _ _ _ (.upd hp) (cln_new rp hp al) he.2
  · exact .inr (.inr (.inr (.inl ⟨_, _, r1.str, r2.str, by rw [sizeLine_eq]; exact he.1, q _ _ H (.refl H) (.str _) he.2⟩)))
  · exact .inr (.inr (.inr (.inr ⟨_, _, r1.int, r2.bl, q _ _ H (.refl H) (.int _) he⟩)))
  · exact he.elim
end
/-! * -/
/-- t * k, k from 1 on: t itself, or a new tuple -/
def rRepB : R2 := fun x y H Q => ∃ l k xs, x = .ref l ∧ y = .int k ∧ H l = some (.tup xs) ∧ xs ≠ [] ∧ 1 ≤ k ∧ k ≤ 1000 ∧ xs.length ≤ 1000 ∧ (k = 1 → Q (.ref l) H) ∧ ∀ p, H p = none → Q (.ref p) (upd H p (.tup (List.replicate k.toNat xs).flatten))
theorem op_repB {X : Cx} : OpR X (binaryOp .Mult) rRepB := by
  intro pins s σ H x y v u Q I rx ry h
  obtain ⟨l, k, xs, rfl, rfl, hl, hne, h1, h2, hz, q1, q⟩ := h
  by_cases e : 2 ≤ k
  · exact op_repT pins s σ H _ _ v u Q I rx ry ⟨l, k, xs, rfl, rfl, .inl (.inl hl), hne, e, h2, hz, q⟩
  · obtain rfl : k = 1 := by omega
    cases rx
    obtain ⟨t, rfl⟩ := ry
    obtain ⟨its, r, ⟨⟨cls, dd, data, sl⟩, ho, hc, n, hd⟩, hs⟩ := I.tuple (.inl (.inl hl) : SqT X.K H l xs)
    simp only at hc hd
    subst hc hd
    refine wpAny_binaryOp_repeat_ref (T := "tuple") (U := "int") (by decide) ⟨_, ho, rfl⟩ (fun s' => typeIs_int s' 1 t) noFill_tuple_mul F.fills_int_mul F.slot_int_rmul repeat_tuple F.slot_int_index.lookup
      (call_meets F.slot_int_rmul (typeIs_int s 1 t) F.entry_int_rmul (F.args_int_rmul_2 _ _) (int_rmul_tuple 1 t l its.toArray n dd sl)
        ⟨ho, rfl, ⟨_, ho, rfl⟩, call_meets F.slot_tuple_mul ⟨_, ho, rfl⟩ F.entry_tuple_mul (F.args_tuple_mul_2 _ _) (mine_mul_one l its.toArray n dd sl t) ⟨ho, ?_⟩⟩)
    exact ⟨.ref l, H, I, rfl, q1 rfl⟩
theorem mine_mul_zero (l : Addr) (items : Array Value) (n : Nat) (dd : Option Addr) (sl : Array (Option Value)) (x : Int) (u : Tok) (c0 : (decide (x < -(2 ^ 63)) || decide (x ≥ 2 ^ 63)) = false) (c1 : (items.isEmpty || x == 1) = false) (c2 : (decide (x ≤ 0) || items.isEmpty) = true) :
    Meets (Builtin.«tuple.__mul__» ⟨[.ref l, .int x u], []⟩) (fun _ R s => s.heap.get? l = some { cls := .type "tuple", dict := dd, data := .seq items n, slots := sl } ∧
      R (.ok (.ret (Value.ref s.heap.objs.size))) { s with heap := s.heap.push { cls := Value.type "tuple", data := Data.seq #[] }, toks := s.toks }) :=
  .of_wp fun prog w A R s h => by
    obtain ⟨hp, g, d, tk, os⟩ := s
    obtain ⟨hl, h⟩ := h
    have f1 := AutoSeq1.idx_int
    wp_walk using wpAny_loadPart' hl
    repeat (first
      | (refine wpAny_ite_false (decide_eq_false (by rw [c0]; exact Bool.false_ne_true)) ?_; wp_walk using wpAny_loadPart' hl)
      | (refine wpAny_ite_false (decide_eq_false (by rw [c1]; exact Bool.false_ne_true)) ?_; wp_walk using wpAny_loadPart' hl)
      | (refine wpAny_ite_true (decide_eq_true c2) ?_; wp_walk using wpAny_loadPart' hl))
    exact ⟨_, rfl, h⟩
/-- t * k, k up to 0: a new tuple of nothing -/
def rRepZ : R2 := fun x y H Q => ∃ l k xs, x = .ref l ∧ y = .int k ∧ H l = some (.tup xs) ∧ xs ≠ [] ∧ k ≤ 0 ∧ -(2 ^ 62) ≤ k ∧ ∀ p, H p = none → Q (.ref p) (upd H p (.tup []))
theorem op_repZ {X : Cx} : OpR X (binaryOp .Mult) rRepZ := by
  intro pins s σ H x y v u Q I rx ry h
  obtain ⟨l, k, xs, rfl, rfl, hl, hne, h1, h2, q⟩ := h
  cases rx
  obtain ⟨t, rfl⟩ := ry
  obtain ⟨its, r, ⟨⟨cls, dd, data, sl⟩, ho, hc, n, hd⟩, hs⟩ := I.tuple (.inl (.inl hl) : SqT X.K H l xs)
  simp only at hc hd
  subst hc hd
  have hn : its.toArray.isEmpty = false := by
    cases its with
    | nil => cases r; exact absurd rfl hne
    | cons a b => rfl
  have c0 : (decide (k < -(2 ^ 63)) || decide (k ≥ 2 ^ 63)) = false := by
    rw [decide_eq_false (by omega), decide_eq_false (by omega)]; rfl
  have c1 : (its.toArray.isEmpty || k == 1) = false := by
    rw [hn, show (k == 1) = false from beq_eq_false_iff_ne.mpr (by omega)]; rfl
  have c2 : (decide (k ≤ 0) || its.toArray.isEmpty) = true := by rw [decide_eq_true h1]; rfl
  refine wpAny_binaryOp_repeat_ref (T := "tuple") (U := "int") (by decide) ⟨_, ho, rfl⟩ (fun s' => typeIs_int s' k t) noFill_tuple_mul F.fills_int_mul F.slot_int_rmul repeat_tuple F.slot_int_index.lookup
    (call_meets F.slot_int_rmul (typeIs_int s k t) F.entry_int_rmul (F.args_int_rmul_2 _ _) (int_rmul_tuple k t l its.toArray n dd sl)
      ⟨ho, rfl, ⟨_, ho, rfl⟩, call_meets F.slot_tuple_mul ⟨_, ho, rfl⟩ F.entry_tuple_mul (F.args_tuple_mul_2 _ _) (mine_mul_zero l its.toArray n dd sl k t c0 c1 c2) ⟨ho, ?_⟩⟩)
  refine ⟨.ref _, _, I.laid (t' := s.toks) (o := .tup []) (fun b ob q => Heap.get?_push_of_some _ q) (Nat.le_refl _) ?_, rfl, q _ (I.hok.fresh (Nat.le_refl _))⟩
  exact ⟨Nat.zero_le _, _, .nil, IsTup.new _ _⟩
def rMulU : R2 := fun x y H Q => rI CMul (fun i j => .int (i * j)) x y H Q ∨ (rRep x y H Q ∨ (rRepB x y H Q ∨ rRepZ x y H Q))
theorem op_mulU {X : Cx} : OpR X (binaryOp .Mult) rMulU := op_mul.or (op_rep.or (op_repB.or op_repZ))
def dMul : D2 := fun a b Q => match a, b with
  | .int i, .int j => CMul i j ∧ Q (.int (i * j))
  | .lst xs, .int k => (-(2 ^ 63) ≤ k ∧ k < 2 ^ 63 ∧ xs.length * k.toNat ≤ LINE) ∧ Q (.lst (List.replicate k.toNat xs).flatten)
  | .tup xs, .int k => (xs ≠ [] ∧ -(2 ^ 62) ≤ k ∧ k ≤ 1000 ∧ xs.length ≤ 1000) ∧ Q (.tup (List.replicate k.toNat xs).flatten)
  | _, _ => False
def dMulL : D2 := fun a b Q => match a, b with
  | .lst xs, .int k => (-(2 ^ 63) ≤ k ∧ k < 2 ^ 63 ∧ xs.length * k.toNat ≤ LINE) ∧ Q (.lst (List.replicate k.toNat xs).flatten)
  | _, _ => False
section
variable {C : Bc}
theorem od_mulL : OpG Fsh C rMulU dMulL := by
  intro X env σ H H1 x y a b Q Qd rp r1 r2 he q
  unfold dMulL at he
  split at he
  · obtain ⟨p, vs, rfl, h1, a1⟩ := r1.lst
    obtain ⟨⟨c1, c2, c3⟩, he⟩ := he
    refine .inr (.inl ⟨p, _, vs, rfl, r2.int, h1, c1, c2, by rw [a1.length, sizeLine_eq]; exact c3, fun pn hp => ?_⟩)
    exact q _ _ _ (.upd hp) (fsh_new rp hp (a1.replicate _)) he
  · exact he.elim
theorem od_mul : OpD C rMulU dMul := by
  intro X env σ H H1 x y a b Q Qd rp r1 r2 he q
  unfold dMul at he
  split at he
  · exact .inl ⟨_, _, r1.int, r2.int, he.1, q _ _ H (.refl H) (.int _) he.2⟩
  · exact od_mulL X env σ H H1 x y _ _ Q Qd rp r1 r2 he fun d v H' f h => q d v H' f (h.cln rp)
  · obtain ⟨p, vs, rfl, h1, a1⟩ := r1.tup
    rename_i xs0 k0
    obtain ⟨⟨c1, c2, c3, c4⟩, he⟩ := he
    have al := a1.replicate (K := C.K)
    by_cases kz : k0 ≤ 0
    · refine .inr (.inr (.inr ⟨p, _, vs, rfl, r2.int, h1, fun e => c1 ?_, kz, c2, fun pn hp => ?_⟩))
      · subst e; cases a1; rfl
      · rw [show k0.toNat = 0 from Int.toNat_eq_zero.mpr kz] at he
        exact q _ _ _ (.upd hp) (cln_new rp hp .nil) he
    refine .inr (.inr (.inl ⟨p, _, vs, rfl, r2.int, h1, fun e => c1 ?_, by omega, c3, by rw [a1.length]; exact c4, fun e => ?_, fun pn hp => ?_⟩))
    · subst e; cases a1; rfl
    · subst e
      refine q _ _ H (.refl H) ?_ he
      rcases r1 with r1 | ⟨_, _, _, _, e2, _⟩
      · have e : ∀ zs : List Dt, (List.replicate (1 : Int).toNat zs).flatten = zs := fun zs => by simp
        rw [e]; exact r1
      · cases e2
    · exact q _ _ _ (.upd hp) (cln_new rp hp (al _)) he
  · exact he.elim
end
end Mine

namespace HT
open PySem PySem.Spec PyProof.Rows L2
section
variable {prog : Program} {w : World} {A : Around} {E : Value → Shared → Prop} {s : Shared}
theorem mine_adjust_rev (n : Nat) : Builtin.Slice.sliceAdjust none none (-1) (n : Int) = ((n : Int) - 1, -1) := by
  unfold Builtin.Slice.sliceAdjust
  have h1 : ((-1 : Int) < 0) := by omega
  simp [h1]
theorem mine_places_rev (n : Nat) : Builtin.Slice.slicePlaces ((n : Int) - 1) (-1) (-1) = n := by
  unfold Builtin.Slice.slicePlaces
  have h1 : ¬ ((-1 : Int) > 0) := by omega
  simp only [h1, if_false]
  split
  all_goals first | omega | (simp <;> omega)
theorem mine_applied_rev {sl : Addr} {t : Tok} {n : Nat} {Q : Int × Int × Nat → Shared → Prop} {vs : Value} (hs : s.heap.IsSliceOf sl .none .none vs) (ps : IsPart vs (some (-1)))
    (h : Q ((n : Int) - 1, -1, n) s) : wpAny (model prog w) A (Builtin.Slice.sliceApplied (.ref sl) (pure (n : Int))) Q E s := by
  obtain ⟨os, hos, hcs, hds⟩ := id hs
  unfold Builtin.Slice.sliceApplied Builtin.Slice.sliceFields
  refine wpAny_bind (wpAny_bind (wpAny_field hos hds (x := .none) rfl (wpAny_bind (wpAny_field hos hds (x := .none) rfl (wpAny_bind (wpAny_field hos hds (x := vs) rfl (wpAny_pure ?_)))))))
  refine wpAny_bind (slicePart_ ps ?_)
  show wpAny _ _ (if ((-1 : Int) == 0) = true then _ else _) _ _ s
  rw [if_neg (by decide)]
  refine wpAny_bind (slicePart_ .none (wpAny_bind (slicePart_ .none (wpAny_bind (wpAny_pure ?_)))))
  show wpAny _ _ (match Builtin.Slice.sliceAdjust none none (-1) (n : Int) with | (lo, hi) => pure (lo, (-1 : Int), Builtin.Slice.slicePlaces lo hi (-1))) _ _ s
  rw [mine_adjust_rev n]
  show wpAny _ _ (pure ((n : Int) - 1, (-1 : Int), Builtin.Slice.slicePlaces ((n : Int) - 1) (-1) (-1))) _ _ s
  rw [mine_places_rev]
  exact wpAny_pure h
theorem fm_congr {α β : Type} {f g : α → Option β} : ∀ {l : List α}, (∀ x ∈ l, f x = g x) → l.filterMap f = l.filterMap g
  | [], _ => rfl
  | a :: l, h => by
    rw [List.filterMap_cons, List.filterMap_cons, h a List.mem_cons_self, fm_congr fun x hx => h x (List.mem_cons_of_mem _ hx)]
theorem mine_pick_rev (xs : Array Value) : ((List.range xs.size).filterMap fun (m : Nat) => xs[((xs.size : Int) - 1 + (m : Int) * (-1)).toNat]?).toArray = xs.toList.reverse.toArray := by
  congr 1
  have h2 := PySem.W.krv_all xs
  have h3 : ((List.range xs.size).map fun k => xs.size - 1 - k).filterMap (xs[·]?) = xs.toList.reverse := by
    rw [PySem.W.krv_range, List.filterMap_reverse, h2]
  rw [← h3, List.filterMap_map]
  refine fm_congr fun m hm => ?_
  have := List.mem_range.mp hm
  show xs[((xs.size : Int) - 1 + (m : Int) * (-1)).toNat]? = xs[xs.size - 1 - m]?
  congr 1; omega
theorem mine_getItem_tuple_rev {t sl : Addr} {items : Array Value} {vs : Value} {Q : Value → Shared → Prop} (ht : IsTup s.heap t items) (hs : s.heap.IsSliceOf sl .none .none vs) (ps : IsPart vs (some (-1)))
    (h : Q (.ref s.heap.objs.size) { s with heap := s.heap.push { cls := .type "tuple", data := .seq items.toList.reverse.toArray } })
    (hsz : items.size ≤ sizeLine) : wpAny (model prog w) A (getItem (.ref t) (.ref sl)) Q E s := by
  have htake : sizeOk (.seq items.toList.reverse.toArray) := by
    show items.toList.reverse.toArray.size ≤ sizeLine
    rw [List.size_toArray, List.length_reverse, Array.length_toList]
    omega
  obtain ⟨os, hos, hcs, hds⟩ := id hs
  have hTs : s.TypeIs (.ref sl) "slice" := ⟨os, hos, hcs⟩
  unfold getItem
  try with_reducible refine wpAny_holding ?_
  first | refine wpAny_bind (wpAny_pure ?_) | skip
  refine wpAny_bind (wpAny_sequenceKey ht.typeIs (by decide) ?_)
  refine wpAny_bind (wpAny_callSpecial?_slot (name := Str.ofString "__getitem__") ht.typeIs PyProof.Rows.slot_tuple_getitem
    (wpAny_call_entry PyProof.Rows.slot_tuple_getitem ht.typeIs entry_tuple_getitem ?_ (args_tuple_getitem _ _)))
  show wpAny _ _ (Builtin.Tuple.tupleItemsOf (.ref t) >>= _) _ _ s
  refine wpAny_bind (tupleItemsOf_ ht ?_)
  refine wpAny_bind (wpAny_typeOf hTs ?_)
  rw [if_pos (by decide)]
  refine wpAny_bind (mine_applied_rev (t := 0) hs ps ?_)
  have hno : ¬ ((((items.size : Int) - 1) == 0 && (-1 : Int) == 1 && items.size == items.size) = true) := by
    intro q
    rw [Bool.and_eq_true, Bool.and_eq_true] at q
    exact absurd q.1.2 (by decide)
  show wpAny _ _ (if (((items.size : Int) - 1) == 0 && (-1 : Int) == 1 && items.size == items.size) = true then _ else _) _ _ s
  rw [if_neg hno, mine_pick_rev]
  first
    | exact wpAny_bind (m := Builtin.Tuple.tupleExact _) (wpAny_newObj_type (wpAny_pure ⟨_, rfl, wpAny_pure h⟩) htake)
    | exact wpAny_bind (m := Builtin.Tuple.tupleExact _) (wpAny_newObj_type (wpAny_bind (wpAny_pure (wpAny_pure ⟨_, rfl, wpAny_pure h⟩))) htake)
    | exact wpAny_bind (wpAny_bind (m := Builtin.Tuple.tupleExact _) (wpAny_newObj_type (wpAny_pure (wpAny_pure ⟨_, rfl, wpAny_pure h⟩)) htake))
    | exact wpAny_bind (wpAny_bind (m := Builtin.Tuple.tupleExact _) (wpAny_newObj_type (wpAny_pure ⟨_, rfl, wpAny_pure h⟩) htake))
end
end HT
namespace Mine
open PySem PySem.Spec PyProof.Rows L2
section
variable {X : Cx}
/-- x[::-1] of a list or a tuple -/
def tRevU (te : TE) : TE := fun σ H Q => te σ H fun x H1 => ∃ a xs, x = .ref a ∧ ((H1 a = some (.lst xs) ∧ ∀ p, H1 p = none → Q (.ref p) (upd H1 p (.lst xs.reverse))) ∨ (H1 a = some (.tup xs) ∧ ∀ p, H1 p = none → Q (.ref p) (upd H1 p (.tup xs.reverse))))
theorem pe_revU {e : Expr} {te : TE} {k : Nat} {p1 p2 p3 pos : Pos} (he : PE X e te) : PE X (.Subscript e (.Slice none none (some (.UnaryOp .USub (.Constant (.int 1) k p1) p2)) p3) pos) (tRevU te) := by
  refine ⟨fun pins s σ H Q I h => ?_⟩
  refine Subscript_ (thn (he.run pins s σ H _ I h) fun v s1 ⟨x, H1, I1, r1, q1⟩ => ?_)
  obtain ⟨a, xs, ex, q1⟩ := q1
  subst ex
  cases r1
  have hst : PO X (some (.UnaryOp .USub (.Constant (.int 1) k p1) p2)) (tPart (tUn (rU fun i => .int (-i)) (tC (.int 1)))) := po_some (pe_un un_neg pe_int)
  refine wpAny_Slice (thn (po_none.run pins s1 σ H1 (fun o H2 => o = none ∧ H2 = H1) I1 ⟨rfl, rfl⟩) fun vl s2 ⟨l, H2, I2, pl, el, e2⟩ => ?_)
  subst el e2
  refine thn (po_none.run pins s2 σ H2 (fun o H3 => o = none ∧ H3 = H2) I2 ⟨rfl, rfl⟩) fun vu s3 ⟨u, H3, I3, pu, eu, e3⟩ => ?_
  subst eu e3
  refine thn (hst.run pins s3 σ H3 (fun o H4 => o = some (-1) ∧ H4 = H3) I3 ⟨1, rfl, -1, rfl, rfl, rfl⟩) fun vs s4 ⟨o, H4, I4, ps, eo, e4⟩ => ?_
  subst eo e4
  have I5 : Inv X pins σ H4 { s4 with heap := s4.heap.push { cls := .type "slice", data := .fields #[vl, vu, vs] } } := I4.kept (t' := s4.toks) fun b ob q => Heap.get?_push_of_some _ q
  show wpAny (model X.prog X.w) X.A (subscriptTail e (.Slice none none (some (.UnaryOp .USub (.Constant (.int 1) k p1) p2)) p3) (.ref a) (.ref s4.heap.objs.size)) (EP X pins σ Q) X.xe { s4 with heap := s4.heap.push { cls := .type "slice", data := .fields #[vl, vu, vs] } }
  rcases q1 with ⟨hx, q⟩ | ⟨hx, q⟩
  · obtain ⟨its, r, ht, hz⟩ := I5.list (.inl (.inl hx))
    have hlen := r.length
    refine tail_any (ops := [.ref a, .ref s4.heap.objs.size]) ht.isList.typeIs (PySem.slot_list_getitem.lookup) ?_ (by with_unfolding_all rfl)
    refine wpAny_getItem_list_slice ht.isList (Heap.IsSliceOf.new _ vl vu vs) pl pu ps (by decide) ?_ (by rw [List.size_toArray]; omega)
    rw [PySem.W.krv_pick]
    refine ⟨.ref _, _, I5.laid (t' := s4.toks) (o := .lst xs.reverse) (fun b ob q => Heap.get?_push_of_some _ q) (Nat.le_refl _) ?_, rfl, q _ (I5.hok.fresh (Nat.le_refl _))⟩
    exact ⟨by rw [List.length_reverse]; exact hz, _, 0, r.reverse, Heap.get?_push_size _ rfl⟩
  · obtain ⟨its, r, ht, hz⟩ := I5.tuple (.inl (.inl hx))
    have hlen := r.length
    refine tail_any (ops := [.ref a, .ref s4.heap.objs.size]) ht.typeIs (PyProof.Rows.slot_tuple_getitem.lookup) ?_ (by with_unfolding_all rfl)
    cases pl
    cases pu
    refine HT.mine_getItem_tuple_rev ht (Heap.IsSliceOf.new _ .none .none vs) ps ?_ (by rw [List.size_toArray]; omega)
    refine ⟨.ref _, _, I5.laid (t' := s4.toks) (o := .tup xs.reverse) (fun b ob q => Heap.get?_push_of_some _ q) (Nat.le_refl _) ?_, rfl, q _ (I5.hok.fresh (Nat.le_refl _))⟩
    exact ⟨by rw [List.length_reverse]; exact hz, _, r.reverse, IsTup.new _ _⟩
end
end Mine

namespace Mine
open PySem PySem.Spec PyProof.Rows L2
/-! ### data as the library's data -/
mutual
def Dt.py : Dt → Option PyData
  | .non => some .none
  | .bl b => some (.bool b)
  | .int i => some (.int i)
  | .str x => some (.str x)
  | .tup xs => (Dt.pys xs).map .tuple
  | .lst xs => (Dt.pys xs).map .list
  | _ => none
def Dt.pys : List Dt → Option (List PyData)
  | [] => some []
  | x :: xs => match Dt.py x, Dt.pys xs with
    | some p, some ps => some (p :: ps)
    | _, _ => none
end
section
variable {K : PySem.W.Frag} {H : Hp}
mutual
theorem Den.dp : ∀ {v : V} {d : Dt} {p : PyData}, Den K H v d → d.py = some p → Dp K H v p
  | _, _, _, .non, e => by rw [Dt.py] at e; injection e with e; subst e; exact .non
  | _, _, _, .bl b, e => by rw [Dt.py] at e; injection e with e; subst e; exact .bl b
  | _, _, _, .int i, e => by rw [Dt.py] at e; injection e with e; subst e; exact .int i
  | _, _, _, .str x, e => by rw [Dt.py] at e; injection e with e; subst e; exact .str x
  | _, _, _, .tup h a, e => by
    rw [Dt.py, Option.map_eq_some_iff] at e
    obtain ⟨ps, e1, rfl⟩ := e
    exact .tup (.inl (.inl h)) (DenAll.dp a e1)
  | _, _, _, .lst h a, e => by
    rw [Dt.py, Option.map_eq_some_iff] at e
    obtain ⟨ps, e1, rfl⟩ := e
    exact .lst (.inl (.inl h)) (DenAll.dp a e1)
  | _, _, _, .dk _ _ _, e => by rw [Dt.py] at e <;> cases e
  | _, _, _, .ins _ _ _, e => by rw [Dt.py] at e <;> cases e
  | _, _, _, .raw v, e => by rw [Dt.py] at e <;> cases e
theorem DenAll.dp : ∀ {vs : List V} {ds : List Dt} {ps : List PyData}, DenAll K H vs ds → Dt.pys ds = some ps → DpAll K H vs ps
  | _, _, _, .nil, e => by rw [Dt.pys] at e; injection e with e; subst e; exact .nil
  | _, _, _, @DenAll.cons _ _ _ _ d ds a b, e => by
    rw [Dt.pys] at e
    cases h1 : Dt.py d with
    | none => rw [h1] at e; cases e
    | some p =>
      cases h2 : Dt.pys ds with
      | none => rw [h1, h2] at e; cases e
      | some ps =>
        rw [h1, h2] at e
        injection e with e
        subst e
        exact .cons (Den.dp a h1) (DenAll.dp b h2)
end
end
/-- equal, as Python has it; of a shape that may be asked -/
def Dt.eqv (a b : Dt) : Bool := match a.py, b.py with
  | some p, some q => PyData.eqv p q
  | _, _ => false
def Dt.sh (a : Dt) : Prop := ∃ p, a.py = some p ∧ SeqAt.shaped p = true
theorem Dt.eqv_of {a b : Dt} {p q : PyData} (h : a.py = some p) (h' : b.py = some q) : a.eqv b = PyData.eqv p q := by
  unfold Dt.eqv
  rw [h, h']
theorem Bor.dp {C : Bc} {X : Addr → Prop} {H H1 : Hp} {v : V} {d : Dt} {p : PyData} (h : Bor C X H1 H v d) (e : d.py = some p) : Dp C.K H v p := by
  rcases h with h | ⟨a, vs, ds, rfl, rfl, n, h1, h2⟩
  · exact (h.mono vis_sub).dp e
  · rw [Dt.py, Option.map_eq_some_iff] at e
    obtain ⟨ps, e1, rfl⟩ := e
    exact .lst (.inl (.inl h1)) ((h2.mono vis_sub).dp e1)
def dEq : D2 := fun a b Q => a.sh ∧ b.sh ∧ Q (.bl (a.eqv b))
def dNe : D2 := fun a b Q => a.sh ∧ b.sh ∧ Q (.bl (!a.eqv b))
section
variable {C : Bc}
theorem od_eq : OpD C (rEqD C.K) dEq := by
  intro X env σ H H1 x y a b Q Qd rp r1 r2 ⟨⟨p, e1, s1⟩, ⟨q, e2, s2⟩, he⟩ qq
  rw [Dt.eqv_of e1 e2] at he
  exact ⟨p, q, r1.dp e1, r2.dp e2, s1, s2, qq _ _ H (.refl H) (.bl _) he⟩
theorem od_ne : OpD C (rNeD C.K) dNe := by
  intro X env σ H H1 x y a b Q Qd rp r1 r2 ⟨⟨p, e1, s1⟩, ⟨q, e2, s2⟩, he⟩ qq
  rw [Dt.eqv_of e1 e2] at he
  exact ⟨p, q, r1.dp e1, r2.dp e2, s1, s2, qq _ _ H (.refl H) (.bl _) he⟩
end
/-! is None -/
def Dt.isN : Dt → Bool
  | .non => true
  | .raw .non => true
  | _ => false
def dIsN : D2 := fun a b Q => match b with
  | .non => Q (.bl a.isN)
  | _ => False
def dNotN : D2 := fun a b Q => match b with
  | .non => Q (.bl (!a.isN))
  | _ => False
section
variable {C : Bc} {X : Addr → Prop} {H H1 : Hp} {v : V}
theorem Bor.isN {a : Dt} (h : Bor C X H1 H v a) : decide (v = .non) = a.isN := by
  rcases h with h | ⟨_, _, _, rfl, rfl, _⟩
  · cases h with
    | raw v => cases v <;> rfl
    | _ => rfl
  · rfl
theorem od_isN : OpD C (fun x y H Q => y = .non ∧ Q (.bl (decide (x = .non))) H) dIsN := by
  intro X env σ H H1 x y a b Q Qd rp r1 r2 he q
  unfold dIsN at he
  split at he
  · exact ⟨r2.non, q _ _ H (.refl H) (by rw [r1.isN]; exact .bl _) he⟩
  · exact he.elim
end
/-! in -/
section
variable {X : Cx}
end
section
variable {C : Bc}
end
/-! the operators of whole numbers -/
abbrev dSub : D2 := dI0 fun i j => .int (i - j)
abbrev dFdiv : D2 := dI CDiv fun i j => .int (i / j)
abbrev dMod : D2 := dI (fun _ j => 0 < j) fun i j => .int (i % j)
abbrev dPow : D2 := dI CPow fun i j => .int (i ^ j.toNat)
abbrev dShl : D2 := dI CPow fun i j => .int (i * 2 ^ j.toNat)
abbrev dShr : D2 := dI (fun _ j => 0 ≤ j) fun i j => .int (i / 2 ^ j.toNat)
abbrev dLe : D2 := dI0 fun i j => .bl (decide (i ≤ j))
abbrev dGt : D2 := dI0 fun i j => .bl (decide (j < i))
abbrev dGe : D2 := dI0 fun i j => .bl (decide (j ≤ i))
def rLtSt : R2 := fun x y H Q => ∃ i j, x = .str i ∧ y = .str j ∧ Q (.bl (decide (i.cps.toList < j.cps.toList))) H
def rLtU (K : PySem.W.Frag) : R2 := fun x y H Q => rI0 (fun i j => .bl (decide (i < j))) x y H Q ∨ (rLtT K x y H Q ∨ rLtSt x y H Q)
theorem op_ltU {X : Cx} {K : PySem.W.Frag} (e : X.K = K) (hu : X.A.units < cLine) : OpR X (compareOp .Lt) (rLtU K) := e ▸ op_lt.or ((op_ltT hu).or (OpR.weak op_lt_str fun _ _ _ _ h => h))
def dLt : D2 := fun a b Q => match a, b with
  | .int i, .int j => Q (.bl (decide (i < j)))
  | .tup xs, .tup ys => ∃ ns ms : List Int, xs = ns.map .int ∧ ys = ms.map .int ∧ Q (.bl (HT.lexLt ns ms))
  | .str x, .str y => Q (.bl (decide (x.cps.toList < y.cps.toList)))
  | _, _ => False
theorem DenAll.ints_of {K : PySem.W.Frag} {H : Hp} : ∀ {vs : List V} {ns : List Int}, DenAll K H vs (ns.map .int) → vs = ns.map V.int
  | _, [], .nil => rfl
  | _, n :: ns, .cons a b => by rw [List.map_cons, a.flat rfl, DenAll.ints_of b]
section
variable {C : Bc}
theorem od_sub : OpD C (rI0 fun i j => .int (i - j)) dSub := od_I0 fun _ _ => rfl
theorem od_le : OpD C (rI0 fun i j => .bl (decide (i ≤ j))) dLe := od_I0 fun _ _ => rfl
theorem od_gt : OpD C (rI0 fun i j => .bl (decide (j < i))) dGt := od_I0 fun _ _ => rfl
theorem od_ge : OpD C (rI0 fun i j => .bl (decide (j ≤ i))) dGe := od_I0 fun _ _ => rfl
theorem od_lt : OpD C (rLtU C.K) dLt := by
  intro X env σ H H1 x y a b Q Qd rp r1 r2 he q
  unfold dLt at he
  split at he
  · exact .inl ⟨_, _, r1.int, r2.int, q _ _ H (.refl H) (.bl _) he⟩
  · obtain ⟨ns, ms, rfl, rfl, he⟩ := he
    obtain ⟨p, vs, rfl, h1, a1⟩ := r1.tup
    obtain ⟨p2, vs2, rfl, h2, a2⟩ := r2.tup
    rw [a1.ints_of] at h1
    rw [a2.ints_of] at h2
    exact .inr (.inl ⟨p, p2, ns, ms, rfl, rfl, .inl (.inl h1), .inl (.inl h2), q _ _ H (.refl H) (.bl _) he⟩)
  · exact .inr (.inr ⟨_, _, r1.str, r2.str, q _ _ H (.refl H) (.bl _) he⟩)
  · exact he.elim
end
/-! ### one thing -/
def UnD (C : Bc) (r : V → Hp → VK → Prop) (f : D1) : Prop := ∀ X env σ H H1 x a (Q : VK) (Qd : Dt → Prop), Rep C X env σ H → Bor C X H1 H x a → f a Qd → (∀ d v H', Frm C.hd H H' → Cln C X H H' v d → Qd d → Q v H') → r x H Q
def eUn (f : D1) (a : DX) : DX := fun env Q E => a env (fun x => f x Q) E
def dNeg : D1 := fun a Q => match a with
  | .int i => Q (.int (-i))
  | _ => False
section
variable {C : Bc} {r : V → Hp → VK → Prop} {f : D1} {ta : TE} {a : DX}
theorem de_un (ho : UnD C r f) (ha : DB C ta a) : DE C (tUn r ta) (eUn f a) := by
  intro X env σ H Q Qd Qx rp he q x
  refine ha X env σ H _ _ Qx rp he (fun d v H1 f1 r1 he1 => ?_) x
  exact ho X env σ H1 H v d Q Qd (rp.step f1) r1 he1 fun d3 v3 H3 f3 r3 => q d3 v3 H3 (f1.trans f3) r3
theorem ud_neg : UnD C (rU fun i => .int (-i)) dNeg := by
  intro X env σ H H1 x a Q Qd rp r1 he q
  unfold dNeg at he
  split at he
  · exact ⟨_, r1.int, q _ _ H (.refl H) (.int _) he⟩
  · exact he.elim
end
/-! ### tests -/
def DT (C : Bc) (t : TT) (e : DTX) : Prop := ∀ X env σ H (Q : Bool → Hp → Prop) (Qd : Bool → Prop) (Qx : Xc → Prop), Rep C X env σ H → e env Qd Qx → (∀ b H', Frm C.hd H H' → Qd b → Q b H') → XOk C X σ H Qx → t σ H Q
def eTest (e : DX) : DTX := fun env Q E => e env (fun d => match d with
  | .bl b => Q b
  | _ => False) E
def eNotT (t : DTX) : DTX := fun env Q E => t env (fun b => Q (!b)) E
def eAndT (t u : DTX) : DTX := fun env Q E => t env (fun b => if b = true then u env Q E else Q false) E
def eOrT (t u : DTX) : DTX := fun env Q E => t env (fun b => if b = true then Q true else u env Q E) E
def dTru (d : Dt) (Q : Bool → Prop) : Prop := match d with
  | .non => Q false
  | .bl b => Q b
  | .int i => Q (i != 0)
  | .str y => y.length ≤ LINE ∧ Q ((y.length : Int) != 0)
  | .lst xs => Q (!xs.isEmpty)
  | .tup xs => Q (!xs.isEmpty)
  | .dk ks _ => Q (!ks.isEmpty)
  | _ => False
def eTru (e : DX) : DTX := fun env Q E => e env (fun d => dTru d Q) E
/-- a test by truth, the fragment by name -/
def tTru (K : PySem.W.Frag) (ta : TE) : TT := fun σ H Q => ta σ H fun x H' => ∃ k, TruV K x H' k ∧ Q k H'
theorem pt_tru {X : Cx} {K : PySem.W.Frag} {a : Expr} {ta : TE} (e : X.K = K) (ha : PE X a ta) (he : ∀ whole, isTrue a X.env whole = (do let v ← whole; standAt a.pos; holding [v] (truthy v))) : PT X a (tTru K ta) := e ▸ pt_truth ha he
section
variable {C : Bc} {t u : TT} {a b : DTX} {ta tb : TE} {ea eb : DX}
theorem dt_test (h : DE C ta ea) : DT C (tTest ta) (eTest ea) := by
  intro X env σ H Q Qd Qx rp he q x
  refine h X env σ H _ _ Qx rp he (fun d v H1 f1 r1 he1 => ?_) x
  split at he1
  · exact ⟨_, r1.flat rfl, q _ _ f1 he1⟩
  · exact he1.elim
theorem dt_not (h : DT C t a) : DT C (tNot t) (eNotT a) := fun X env σ H Q Qd Qx rp he q x => h X env σ H _ _ Qx rp he (fun b H1 f1 he1 => q _ _ f1 he1) x
theorem dt_and (h : DT C t a) (k : DT C u b) : DT C (tAnd t u) (eAndT a b) := by
  intro X env σ H Q Qd Qx rp he q x
  refine h X env σ H _ _ Qx rp he (fun c H1 f1 he1 => ?_) x
  cases c with
  | true => rw [if_pos rfl] at he1 ⊢; exact k X env σ H1 Q Qd Qx (rp.step f1) he1 (fun b H2 f2 h2 => q b H2 (f1.trans f2) h2) (x.step f1)
  | false => rw [if_neg (by decide)] at he1 ⊢; exact q _ _ f1 he1
theorem dt_or (h : DT C t a) (k : DT C u b) : DT C (tOr t u) (eOrT a b) := by
  intro X env σ H Q Qd Qx rp he q x
  refine h X env σ H _ _ Qx rp he (fun c H1 f1 he1 => ?_) x
  cases c with
  | false => rw [if_neg (by decide)] at he1 ⊢; exact k X env σ H1 Q Qd Qx (rp.step f1) he1 (fun b H2 f2 h2 => q b H2 (f1.trans f2) h2) (x.step f1)
  | true => rw [if_pos rfl] at he1 ⊢; exact q _ _ f1 he1
theorem Bor.tru {X : Addr → Prop} {env : List Sl} {σ : L2.St} {H H1 : Hp} {v : V} {d : Dt} {Qd : Bool → Prop} (rp : Rep C X env σ H) (h : Bor C X H1 H v d) (he : dTru d Qd) : ∃ k, TruV C.K v H k ∧ Qd k := by
  cases d with
  | non => rw [h.non]; exact ⟨_, rfl, he⟩
  | bl b => rw [h.bl]; exact ⟨_, rfl, he⟩
  | int i => rw [h.int]; exact ⟨_, rfl, he⟩
  | str y => rw [h.str]; exact ⟨_, ⟨by rw [sizeLine_eq]; exact he.1, rfl⟩, he.2⟩
  | lst xs =>
    obtain ⟨p, vs, rfl, h1, a1⟩ := h.lst
    refine ⟨_, .inl ⟨vs, .inl (.inl h1), rfl⟩, ?_⟩
    have : vs.isEmpty = xs.isEmpty := by cases a1 <;> rfl
    rw [this]; exact he
  | tup xs =>
    obtain ⟨p, vs, rfl, h1, a1⟩ := h.tup
    refine ⟨_, .inr (.inl ⟨vs, .inl (.inl h1), rfl⟩), ?_⟩
    have : vs.isEmpty = xs.isEmpty := by cases a1 <;> rfl
    rw [this]; exact he
  | dt _ _ => exact he.elim
  | dk ks ds =>
    obtain ⟨p, vs, rfl, h1, l, a1⟩ := h.dk
    refine ⟨_, .inr (.inr ⟨_, h1, rfl⟩), ?_⟩
    have : (ks.zip vs).isEmpty = ks.isEmpty := by
      cases ks with
      | nil => rfl
      | cons k ks =>
        cases vs with
        | nil => cases l
        | cons v vs => rfl
    rw [this]; exact he
  | ins _ _ _ => exact he.elim
  | raw _ => exact he.elim
theorem dt_tru (h : DB C ta ea) : DT C (tTru C.K ta) (eTru ea) := by
  intro X env σ H Q Qd Qx rp he q x
  refine h X env σ H _ _ Qx rp he (fun d v H1 f1 r1 he1 => ?_) x
  obtain ⟨k, h1, h2⟩ := r1.tru (rp.step f1) he1
  exact ⟨k, h1, q _ _ f1 h2⟩
/-! as values -/
def eBool (d : Dt) (Q : Bool → Prop) : Prop := match d with
  | .bl b => Q b
  | _ => False
def eAndV (a b : DX) : DX := fun env Q E => a env (fun d => eBool d fun c => if c = true then b env Q E else Q (.bl false)) E
def eOrV (a b : DX) : DX := fun env Q E => a env (fun d => eBool d fun c => if c = true then Q (.bl true) else b env Q E) E
def eNotV (a : DX) : DX := fun env Q E => a env (fun d => eBool d fun c => Q (.bl (!c))) E
def eIf (t : DTX) (a b : DX) : DX := fun env Q E => t env (fun c => if c = true then a env Q E else b env Q E) E
theorem eBool_of {d : Dt} {Q : Bool → Prop} (h : eBool d Q) : ∃ c, d = .bl c ∧ Q c := by
  cases d <;> first | exact ⟨_, rfl, h⟩ | exact h.elim
theorem de_andV (h : DE C ta ea) (k : DE C tb eb) : DE C (tAndV ta tb) (eAndV ea eb) := by
  intro X env σ H Q Qd Qx rp he q x
  refine h X env σ H _ _ Qx rp he (fun d v H1 f1 r1 he1 => ?_) x
  obtain ⟨c, rfl, he2⟩ := eBool_of he1
  refine ⟨c, r1.flat rfl, ?_⟩
  cases c with
  | true => rw [if_pos rfl] at he2 ⊢; exact k X env σ H1 Q Qd Qx (rp.step f1) he2 (fun d v H2 f2 h2 => q d v H2 (f1.trans f2) h2) (x.step f1)
  | false => rw [if_neg (by decide)] at he2 ⊢; exact q _ _ _ f1 (.bl _) he2
theorem de_orV (h : DE C ta ea) (k : DE C tb eb) : DE C (tOrV ta tb) (eOrV ea eb) := by
  intro X env σ H Q Qd Qx rp he q x
  refine h X env σ H _ _ Qx rp he (fun d v H1 f1 r1 he1 => ?_) x
  obtain ⟨c, rfl, he2⟩ := eBool_of he1
  refine ⟨c, r1.flat rfl, ?_⟩
  cases c with
  | false => rw [if_neg (by decide)] at he2 ⊢; exact k X env σ H1 Q Qd Qx (rp.step f1) he2 (fun d v H2 f2 h2 => q d v H2 (f1.trans f2) h2) (x.step f1)
  | true => rw [if_pos rfl] at he2 ⊢; exact q _ _ _ f1 (.bl _) he2
theorem dg_if {R : RR} [RRs R] (h : DT C t a) (k : DEg R C ta ea) (l : DEg R C tb eb) : DEg R C (tIf t ta tb) (eIf a ea eb) := by
  intro X env σ H Q Qd Qx rp he q x
  refine h X env σ H _ _ Qx rp he (fun c H1 f1 he1 => ?_) x
  cases c with
  | true => rw [if_pos rfl] at he1 ⊢; exact k X env σ H1 Q Qd Qx (rp.step f1) he1 (fun d v H2 f2 h2 => q d v H2 (f1.trans f2) (RRs.st rp f1 h2)) (x.step f1)
  | false => rw [if_neg (by decide)] at he1 ⊢; exact l X env σ H1 Q Qd Qx (rp.step f1) he1 (fun d v H2 f2 h2 => q d v H2 (f1.trans f2) (RRs.st rp f1 h2)) (x.step f1)
/-- a < b < c -/
def eChain (f g : D2) (a b c : DX) : DX := fun env Q E => a env (fun x => b env (fun y => f x y fun d => eBool d fun k => if k = true then c env (fun z => g y z Q) E else Q (.bl false)) E) E
end
end Mine

namespace Mine
open PySem PySem.Spec PyProof.Rows L2
/-! ### rows of expressions -/
inductive BorAll (C : Bc) (X : Addr → Prop) (H : Hp) : List V → List Dt → Prop
  | nil : BorAll C X H [] []
  | cons {v : V} {vs : List V} {d : Dt} {ds : List Dt} : Bor C X H H v d → BorAll C X H vs ds → BorAll C X H (v :: vs) (d :: ds)
inductive SlAll (K : PySem.W.Frag) (hd : Hnd) (X : Addr → Prop) (H : Hp) : List V → List Sl → Prop
  | nil : SlAll K hd X H [] []
  | d {v : V} {vs : List V} {x : Dt} {ss : List Sl} : Den K (vis H X) v x → SlAll K hd X H vs ss → SlAll K hd X H (v :: vs) (.d x :: ss)
  | hand {h c : Addr} {vs : List V} {ss : List Sl} : hd = some (h, c) → SlAll K hd X H vs ss → SlAll K hd X H (.ref h :: vs) (.hand :: ss)
theorem Bor.frm1 {C : Bc} {X : Addr → Prop} {env : List Sl} {σ : L2.St} {H H1 H2 H' : Hp} {v : V} {d : Dt} (r : Rep C X env σ H) (f : Frm C.hd H H') (h : Bor C X H1 H v d) : Bor C X H2 H' v d := h.frm r f
theorem SlAll.length {K : PySem.W.Frag} {hd : Hnd} {X : Addr → Prop} {H : Hp} : ∀ {vs : List V} {ss : List Sl}, SlAll K hd X H vs ss → vs.length = ss.length
  | _, _, .nil => rfl
  | _, _, .d _ r => by rw [List.length_cons, List.length_cons, r.length]
  | _, _, .hand _ r => by rw [List.length_cons, List.length_cons, r.length]
theorem SlAll.append {K : PySem.W.Frag} {hd : Hnd} {X : Addr → Prop} {H : Hp} : ∀ {vs us : List V} {ss ts : List Sl}, SlAll K hd X H vs ss → SlAll K hd X H us ts → SlAll K hd X H (vs ++ us) (ss ++ ts)
  | _, _, _, _, .nil, b => b
  | _, _, _, _, .d a r, b => .d a (r.append b)
  | _, _, _, _, .hand a r, b => .hand a (r.append b)
/-- args, by how they stand -/
def DAg {δ : Type} (A : Bc → (Addr → Prop) → Hp → List V → List δ → Prop) (C : Bc) (t : TA) (e : List Sl → (List δ → Prop) → (Xc → Prop) → Prop) : Prop :=
  ∀ X env σ H (Q : List V → Hp → Prop) (Qd : List δ → Prop) (Qx : Xc → Prop), Rep C X env σ H → e env Qd Qx → (∀ ds vs H', Frm C.hd H H' → A C X H' vs ds → Qd ds → Q vs H') → XOk C X σ H Qx → t σ H Q
def AC (C : Bc) (X : Addr → Prop) (H : Hp) (vs : List V) (ds : List Dt) : Prop := DenAll C.K (vis H X) vs ds
def AS (C : Bc) (X : Addr → Prop) (H : Hp) (vs : List V) (ss : List Sl) : Prop := SlAll C.K C.hd X H vs ss
abbrev DA := DAg AC
abbrev DAb := DAg BorAll
abbrev DAs := DAg AS
def eNil {δ : Type} : List Sl → (List δ → Prop) → (Xc → Prop) → Prop := fun _ Q _ => Q []
def eCons (a : DX) (r : DAX) : DAX := fun env Q E => a env (fun d => r env (fun ds => Q (d :: ds)) E) E
def eConsS (a : DX) (r : DSX) : DSX := fun env Q E => a env (fun d => r env (fun ds => Q (.d d :: ds)) E) E
def eConsH (i : Nat) (r : DSX) : DSX := fun env Q E => match env[i]? with
  | some .hand => r env (fun ds => Q (.hand :: ds)) E
  | _ => False
section
variable {C : Bc} {ta : TE} {tr : TA} {a : DX} {r : DAX} {rs : DSX}
theorem da_nil : DA C tNil eNil := fun X env σ H Q Qd Qx rp he q x => q [] [] H (.refl H) .nil he
theorem db_nil : DAb C tNil eNil := fun X env σ H Q Qd Qx rp he q x => q [] [] H (.refl H) .nil he
theorem ds_nil : DAs C tNil eNil := fun X env σ H Q Qd Qx rp he q x => q [] [] H (.refl H) .nil he
theorem da_cons (ha : DE C ta a) (hr : DA C tr r) : DA C (tCons ta tr) (eCons a r) := by
  intro X env σ H Q Qd Qx rp he q x
  refine ha X env σ H _ _ Qx rp he (fun d v H1 f1 r1 he1 => ?_) x
  have rp1 := rp.step f1
  exact hr X env σ H1 _ _ Qx rp1 he1 (fun ds vs H2 f2 r2 he2 => q _ _ H2 (f1.trans f2) (.cons (Den.mono (rp1.vs f2) r1) r2) he2) (x.step f1)
theorem db_cons (ha : DB C ta a) (hr : DAb C tr r) : DAb C (tCons ta tr) (eCons a r) := by
  intro X env σ H Q Qd Qx rp he q x
  refine ha X env σ H _ _ Qx rp he (fun d v H1 f1 r1 he1 => ?_) x
  have rp1 := rp.step f1
  exact hr X env σ H1 _ _ Qx rp1 he1 (fun ds vs H2 f2 r2 he2 => q _ _ H2 (f1.trans f2) (.cons (r1.frm1 rp1 f2) r2) he2) (x.step f1)
theorem ds_cons (ha : DE C ta a) (hr : DAs C tr rs) : DAs C (tCons ta tr) (eConsS a rs) := by
  intro X env σ H Q Qd Qx rp he q x
  refine ha X env σ H _ _ Qx rp he (fun d v H1 f1 r1 he1 => ?_) x
  have rp1 := rp.step f1
  exact hr X env σ H1 _ _ Qx rp1 he1 (fun ds vs H2 f2 r2 he2 => q _ _ H2 (f1.trans f2) (.d (Den.mono (rp1.vs f2) r1) r2) he2) (x.step f1)
theorem ds_hand {i : Nat} (hr : DAs C tr rs) : DAs C (tCons (tVar i) tr) (eConsH i rs) := by
  intro X env σ H Q Qd Qx rp he q x
  unfold eConsH at he
  split at he
  · rename_i e
    obtain ⟨o, e1, h, c, rfl, e2⟩ := rp.slot i _ e
    refine ⟨.ref h, e1, ?_⟩
    exact hr X env σ H _ _ Qx rp he (fun ds vs H2 f2 r2 he2 => q _ _ H2 f2 (.hand e2 r2) he2) x
  · exact he.elim
/-! ### displays -/
def eTup (r : DAX) : DX := fun env Q E => r env (fun ds => ds.length ≤ LINE ∧ Q (.tup ds)) E
def eLst (r : DAX) : DX := fun env Q E => r env (fun ds => ds.length ≤ LINE ∧ Q (.lst ds)) E
theorem de_tup (hr : DA C tr r) : DE C (tTup tr) (eTup r) := by
  intro X env σ H Q Qd Qx rp he q x
  refine hr X env σ H _ _ Qx rp he (fun ds vs H1 f1 r1 he1 => ?_) x
  have r1 : DenAll C.K (vis H1 X) vs ds := r1
  exact ⟨by rw [r1.length, sizeLine_eq]; exact he1.1, fun p hp => q _ _ _ (f1.trans (.upd hp)) (cln_new (H1 := H1) (rp.step f1) hp r1) he1.2⟩
theorem df_lst (hr : DA C tr r) : DF C (tLst tr) (eLst r) := by
  intro X env σ H Q Qd Qx rp he q x
  refine hr X env σ H _ _ Qx rp he (fun ds vs H1 f1 r1 he1 => ?_) x
  have r1 : DenAll C.K (vis H1 X) vs ds := r1
  exact ⟨by rw [r1.length, sizeLine_eq]; exact he1.1, fun p hp => q _ _ _ (f1.trans (.upd hp)) ((fsh_new (rp.step f1) hp r1).frm rp f1) he1.2⟩
end
/-! ### the empty dict -/
def eDk0 : DX := fun _ Q _ => Q (.dk [] [])
/-! ### x[i] -/
theorem IxR.k {X : Cx} {r : PySem.W.Frag → R2} (h : IxR X (r X.K)) {K : PySem.W.Frag} (e : X.K = K) : IxR X (r K) := e ▸ h
def dIx : D2 := fun a b Q => match a, b with
  | .lst xs, .int k => ∃ x, atI xs k = some x ∧ Q x
  | .tup xs, .int k => ∃ x, atI xs k = some x ∧ Q x
  | .str z, .int k => z.length ≤ LINE ∧ ∃ c, atI z.cps.toList k = some c ∧ Q (.str ⟨#[c]⟩)
  | _, _ => False
theorem DenAll.atI {K : PySem.W.Frag} {H : Hp} {vs : List V} {ds : List Dt} {k : Int} {x : Dt} (h : DenAll K H vs ds) (e : L2.atI ds k = some x) : ∃ v, L2.atI vs k = some v ∧ Den K H v x := by
  unfold L2.atI at e ⊢
  rw [h.length]
  cases q : ixN ds.length k with
  | none => rw [q] at e; cases e
  | some j =>
    rw [q] at e
    obtain ⟨v, h1, h2⟩ := h.get (show ds[j]? = some x from e)
    exact ⟨v, h1, h2⟩
section
variable {C : Bc}
theorem od_ix : OpD C (rIx C.K) dIx := by
  intro X env σ H H1 x y a b Q Qd rp r1 r2 he q
  unfold dIx at he
  split at he
  · obtain ⟨d, e, he⟩ := he
    obtain ⟨p, vs, rfl, h1, a1⟩ := r1.lst
    obtain ⟨v, e2, h2⟩ := a1.atI e
    exact .inl ⟨p, vs, _, v, rfl, r2.int, .inl (.inl h1), e2, q _ _ H (.refl H) h2 he⟩
  · obtain ⟨d, e, he⟩ := he
    obtain ⟨p, vs, rfl, h1, a1⟩ := r1.tup
    obtain ⟨v, e2, h2⟩ := a1.atI e
    exact .inr (.inl ⟨p, vs, _, v, rfl, r2.int, .inl (.inl h1), e2, q _ _ H (.refl H) h2 he⟩)
  · obtain ⟨hz, c, e, he⟩ := he
    exact .inr (.inr ⟨_, _, c, r1.str, r2.int, by rw [sizeLine_eq]; exact hz, e, q _ _ H (.refl H) (.str _) he⟩)
  · exact he.elim
end
/-! ### slices -/
def cutG {α : Type} (xs : List α) (lo hi : Option Int) : List α := (xs.drop (HT.sIx xs.length 0 lo)).take (HT.sIx xs.length xs.length hi - HT.sIx xs.length 0 lo)
theorem DenAll.cut {K : PySem.W.Frag} {H : Hp} {vs : List V} {ds : List Dt} (h : DenAll K H vs ds) (lo hi : Option Int) : DenAll K H (cutV vs lo hi) (cutG ds lo hi) := by
  unfold cutV cutG
  rw [h.length]
  exact (h.drop _).take _
theorem SlR.or {X : Cx} {r r' : V → Option Int → Option Int → Hp → VK → Prop} (h : SlR X r) (h' : SlR X r') : SlR X (fun x lo hi H Q => r x lo hi H Q ∨ r' x lo hi H Q) := by
  intro pins s σ H x v vl vu lo hi sl Q I rx hs pl pu q
  rcases q with q | q
  · exact h pins s σ H x v vl vu lo hi sl Q I rx hs pl pu q
  · exact h' pins s σ H x v vl vu lo hi sl Q I rx hs pl pu q
abbrev D3 := Dt → Option Int → Option Int → (Dt → Prop) → Prop
def rSlU (K : PySem.W.Frag) : V → Option Int → Option Int → Hp → VK → Prop := fun x lo hi H Q => rSlL K x lo hi H Q ∨ (rSlA K x lo hi H Q ∨ L2.rSlS x lo hi H Q)
theorem sl_U {X : Cx} {K : PySem.W.Frag} (e : X.K = K) : SlR X (rSlU K) := e ▸ sl_list.or (sl_tupA.or L2.sl_str)
def dSl : D3 := fun a lo hi Q => match a with
  | .lst xs => Q (.lst (cutG xs lo hi))
  | .tup xs => Q (.tup (cutG xs lo hi))
  | .str z => z.length ≤ LINE ∧ Q (.str (cutS z lo hi))
  | _ => False
def dSlL : D3 := fun a lo hi Q => match a with
  | .lst xs => Q (.lst (cutG xs lo hi))
  | _ => False
def DOX := List Sl → (Option Int → Prop) → (Xc → Prop) → Prop
def eNoPart : DOX := fun _ Q _ => Q none
def ePart (e : DX) : DOX := fun env Q E => e env (fun d => match d with
  | .int i => Q (some i)
  | _ => False) E
def DO (C : Bc) (t : TO) (e : DOX) : Prop := ∀ X env σ H (Q : Option Int → Hp → Prop) (Qd : Option Int → Prop) (Qx : Xc → Prop), Rep C X env σ H → e env Qd Qx → (∀ o H', Frm C.hd H H' → Qd o → Q o H') → XOk C X σ H Qx → t σ H Q
def eSl (f : D3) (a : DX) (lo hi : DOX) : DX := fun env Q E => a env (fun d => lo env (fun l => hi env (fun u => f d l u Q) E) E) E
def SlG (R : RR) (C : Bc) (r : V → Option Int → Option Int → Hp → VK → Prop) (f : D3) : Prop := ∀ X env σ H H1 x a lo hi (Q : VK) (Qd : Dt → Prop), Rep C X env σ H → Bor C X H1 H x a → f a lo hi Qd → (∀ d v H', Frm C.hd H H' → R C X H H' v d → Qd d → Q v H') → r x lo hi H Q
section
variable {C : Bc} {te tl : TE} {ea el : DX} {lo hi : DOX} {t1 t2 : TO} {r : V → Option Int → Option Int → Hp → VK → Prop} {f : D3}
theorem do_none : DO C tNoPart eNoPart := fun X env σ H Q Qd Qx rp he q x => q _ H (.refl H) he
theorem do_some (h : DE C te ea) : DO C (tPart te) (ePart ea) := by
  intro X env σ H Q Qd Qx rp he q x
  refine h X env σ H _ _ Qx rp he (fun d v H1 f1 r1 he1 => ?_) x
  split at he1
  · exact ⟨_, r1.flat rfl, q _ _ f1 he1⟩
  · exact he1.elim
theorem dg_sl {R : RR} [RRs R] (hr : SlG R C r f) (he : DB C te ea) (h1 : DO C t1 lo) (h2 : DO C t2 hi) : DEg R C (tSl r te t1 t2) (eSl f ea lo hi) := by
  intro X env σ H Q Qd Qx rp he' q x
  refine he X env σ H _ _ Qx rp he' (fun d v H1 f1 r1 he1 => ?_) x
  have rp1 := rp.step f1
  refine h1 X env σ H1 _ _ Qx rp1 he1 (fun l H2 f2 he2 => ?_) (x.step f1)
  have rp2 := rp1.step f2
  refine h2 X env σ H2 _ _ Qx rp2 he2 (fun u H3 f3 he3 => ?_) ((x.step f1).step f2)
  have rp3 := rp2.step f3
  exact hr X env σ H3 H v d l u Q Qd rp3 ((r1.frm rp1 f2).frm rp2 f3) he3 fun d v H4 f4 r4 => q d v H4 (f1.trans (f2.trans (f3.trans f4))) (RRs.st rp (f1.trans (f2.trans f3)) r4)
theorem sg_L : SlG Fsh C (rSlU C.K) dSlL := by
  intro X env σ H H1 x a lo hi Q Qd rp r1 he q
  unfold dSlL at he
  split at he
  · obtain ⟨p, vs, rfl, h1, a1⟩ := r1.lst
    exact .inl ⟨p, vs, rfl, .inl (.inl h1), fun pn hp => q _ _ _ (.upd hp) (fsh_new rp hp (a1.cut lo hi)) he⟩
  · exact he.elim
theorem sg_U : SlG Cln C (rSlU C.K) dSl := by
  intro X env σ H H1 x a lo hi Q Qd rp r1 he q
  unfold dSl at he
  split at he
  · exact sg_L X env σ H H1 x _ lo hi Q Qd rp r1 he fun d v H' f h => q d v H' f (h.cln rp)
  · obtain ⟨p, vs, rfl, h1, a1⟩ := r1.tup
    refine .inr (.inl ⟨p, vs, rfl, .inl (.inl h1), fun ⟨c1, c2⟩ => ?_, fun _ pn hp => q _ _ _ (.upd hp) (cln_new rp hp (a1.cut lo hi)) he⟩)
    refine q _ _ H (.refl H) ?_ he
    have e := a1.cut lo hi
    rw [cut_all c1 c2] at e
    rcases r1 with r1 | ⟨_, _, _, _, e2, _⟩
    · cases r1 with
      | @tup _ xs' _ g g2 =>
        have e' : xs' = vs := by simpa using (vis_sub _ _ g).symm.trans h1
        subst e'
        exact .tup g e
    · cases e2
  · obtain ⟨hz, he⟩ := he
    exact .inr (.inr ⟨_, r1.str, by rw [sizeLine_eq]; exact hz, q _ _ H (.refl H) (.str _) he⟩)
  · exact he.elim
/-! x[::-1] -/
def eRev (a : DX) : DX := fun env Q E => a env (fun d => match d with
  | .lst xs => Q (.lst xs.reverse)
  | .tup xs => Q (.tup xs.reverse)
  | _ => False) E
def eRevL (a : DX) : DX := fun env Q E => a env (fun d => match d with
  | .lst xs => Q (.lst xs.reverse)
  | _ => False) E
theorem de_rev (he : DB C te ea) : DE C (tRevU te) (eRev ea) := by
  intro X env σ H Q Qd Qx rp he' q x
  refine he X env σ H _ _ Qx rp he' (fun d v H1 f1 r1 he1 => ?_) x
  split at he1
  · obtain ⟨p, vs, rfl, h1, a1⟩ := r1.lst
    exact ⟨p, vs, rfl, .inl ⟨h1, fun pn hp => q _ _ _ (f1.trans (.upd hp)) (Fsh.cln (H1 := H1) (rp.step f1) (fsh_new (rp.step f1) hp a1.reverse)) he1⟩⟩
  · obtain ⟨p, vs, rfl, h1, a1⟩ := r1.tup
    exact ⟨p, vs, rfl, .inr ⟨h1, fun pn hp => q _ _ _ (f1.trans (.upd hp)) (cln_new (H1 := H) (rp.step f1) hp a1.reverse) he1⟩⟩
  · exact he1.elim
end
/-! ### built-ins -/
abbrev DL := List Dt → (Dt → Prop) → Prop
def CallG (R : RR) (C : Bc) (r : List V → Hp → VK → Prop) (f : DL) : Prop := ∀ X env σ H vs ds (Q : VK) (Qd : Dt → Prop), Rep C X env σ H → BorAll C X H vs ds → f ds Qd → (∀ d v H', Frm C.hd H H' → R C X H H' v d → Qd d → Q v H') → r vs H Q
def eCB (f : DL) (a : DAX) : DX := fun env Q E => a env (fun ds => f ds Q) E
theorem dg_cb {R : RR} [RRs R] {C : Bc} {r : List V → Hp → VK → Prop} {f : DL} {t : TA} {a : DAX} (hr : CallG R C r f) (ha : DAb C t a) : DEg R C (tCB r t) (eCB f a) := by
  intro X env σ H Q Qd Qx rp he q x
  refine ha X env σ H _ _ Qx rp he (fun ds vs H1 f1 r1 he1 => ?_) x
  exact hr X env σ H1 vs ds Q Qd (rp.step f1) r1 he1 fun d v H2 f2 h => q d v H2 (f1.trans f2) (RRs.st rp f1 h)
theorem CallR.or {X : Cx} {f : Value} {r r' : List V → Hp → VK → Prop} (h : CallR X f r) (h' : CallR X f r') : CallR X f (fun xs H Q => r xs H Q ∨ r' xs H Q) := fun pins s σ H xs us Q I rx q =>
  q.elim (h pins s σ H xs us Q I rx) (h' pins s σ H xs us Q I rx)
theorem BorAll.one {C : Bc} {X : Addr → Prop} {H : Hp} {vs : List V} {a : Dt} (h : BorAll C X H vs [a]) : ∃ v, vs = [v] ∧ Bor C X H H v a := by
  cases h with
  | cons a r => cases r; exact ⟨_, rfl, a⟩
theorem BorAll.two {C : Bc} {X : Addr → Prop} {H : Hp} {vs : List V} {a b : Dt} (h : BorAll C X H vs [a, b]) : ∃ v u, vs = [v, u] ∧ Bor C X H H v a ∧ Bor C X H H u b := by
  cases h with
  | cons a r =>
    obtain ⟨u, rfl, b⟩ := r.one
    exact ⟨_, _, rfl, a, b⟩
/-! len -/
def rLenD : List V → Hp → VK → Prop := fun xs H Q => ∃ a kvs, xs = [V.ref a] ∧ H a = some (.dK kvs) ∧ Q (.int kvs.length) H
def rLenSeq (K : PySem.W.Frag) : List V → Hp → VK → Prop := fun xs H Q => ∃ p ys, xs = [.ref p] ∧ (SqL K H p ys ∨ SqT K H p ys) ∧ Q (.int ys.length) H
def rLenStr : List V → Hp → VK → Prop := fun xs H Q => ∃ z, xs = [.str z] ∧ z.length ≤ sizeLine ∧ Q (.int z.length) H
def rLenU (K : PySem.W.Frag) : List V → Hp → VK → Prop := fun xs H Q => rLenSeq K xs H Q ∨ (rLenStr xs H Q ∨ rLenD xs H Q)
theorem call_lenU {X : Cx} {K : PySem.W.Frag} (e : X.K = K) : CallR X (.builtin "len") (rLenU K) := e ▸ CallR.or (r := rLenSeq X.K) call_len_seq (CallR.or (r := rLenStr) call_len_str call_lenD)
def dLen : DL := fun ds Q => match ds with
  | [.lst xs] => Q (.int xs.length)
  | [.tup xs] => Q (.int xs.length)
  | [.str z] => z.length ≤ LINE ∧ Q (.int z.length)
  | [.dk ks _] => Q (.int ks.length)
  | _ => False
section
variable {C : Bc}
theorem cg_len : CallG Cln C (rLenU C.K) dLen := by
  intro X env σ H vs ds Q Qd rp ra he q
  unfold dLen at he
  split at he
  · obtain ⟨v, rfl, r1⟩ := ra.one
    obtain ⟨p, vs, rfl, h1, a1⟩ := r1.lst
    exact .inl ⟨p, vs, rfl, .inl (.inl (.inl h1)), by rw [a1.length]; exact q _ _ H (.refl H) (.int _) he⟩
  · obtain ⟨v, rfl, r1⟩ := ra.one
    obtain ⟨p, vs, rfl, h1, a1⟩ := r1.tup
    exact .inl ⟨p, vs, rfl, .inr (.inl (.inl h1)), by rw [a1.length]; exact q _ _ H (.refl H) (.int _) he⟩
  · obtain ⟨v, rfl, r1⟩ := ra.one
    exact .inr (.inl ⟨_, by rw [r1.str], by rw [sizeLine_eq]; exact he.1, q _ _ H (.refl H) (.int _) he.2⟩)
  · obtain ⟨v, rfl, r1⟩ := ra.one
    obtain ⟨p, vs, rfl, h1, l, a1⟩ := r1.dk
    refine .inr (.inr ⟨p, _, rfl, h1, ?_⟩)
    rw [List.length_zip, l, Nat.min_self, ← l]
    exact q _ _ H (.refl H) (.int _) he
  · exact he.elim
end
/-! int, bool, str, abs -/
def dInt : DL := fun ds Q => match ds with
  | [.int i] => Q (.int i)
  | [.bl k] => Q (.int (if k then 1 else 0))
  | [.str z] => z.length ≤ 640 ∧ ∃ n, PySem.intText? z = some n ∧ Q (.int n)
  | _ => False
def dStr : DL := fun ds Q => match ds with
  | [.int i] => i.natAbs.log2 < 1920 ∧ Q (.str (toString i))
  | _ => False
def dAbs : DL := fun ds Q => match ds with
  | [.int i] => Q (.int (if i < 0 then -i else i))
  | _ => False
def rMax2 : List V → Hp → VK → Prop := fun xs H Q => ∃ i j, xs = [.int i, .int j] ∧ Q (.int (if j > i then j else i)) H
def rMin2 : List V → Hp → VK → Prop := fun xs H Q => ∃ i j, xs = [.int i, .int j] ∧ Q (.int (if j < i then j else i)) H
def dMax2 : DL := fun ds Q => match ds with
  | [.int i, .int j] => Q (.int (if j > i then j else i))
  | _ => False
def dMin2 : DL := fun ds Q => match ds with
  | [.int i, .int j] => Q (.int (if j < i then j else i))
  | _ => False
theorem call_max2U {X : Cx} (hc : X.calm = true) : CallR X (.builtin "max") rMax2 := call_max2 hc
theorem call_min2U {X : Cx} (hc : X.calm = true) : CallR X (.builtin "min") rMin2 := call_min2 hc
section
variable {C : Bc}
theorem cg_max2 : CallG Cln C rMax2 dMax2 := by
  intro X env σ H vs ds Q Qd rp ra he q
  unfold dMax2 at he
  split at he
  · obtain ⟨v, u, rfl, r1, r2⟩ := ra.two
    exact ⟨_, _, by rw [r1.int, r2.int], q _ _ H (.refl H) (.int _) he⟩
  · exact he.elim
theorem cg_min2 : CallG Cln C rMin2 dMin2 := by
  intro X env σ H vs ds Q Qd rp ra he q
  unfold dMin2 at he
  split at he
  · obtain ⟨v, u, rfl, r1, r2⟩ := ra.two
    exact ⟨_, _, by rw [r1.int, r2.int], q _ _ H (.refl H) (.int _) he⟩
  · exact he.elim
end
/-! tuple, list -/
def rTupOf (K : PySem.W.Frag) : List V → Hp → VK → Prop := fun xs H Q => ∃ p ys, xs = [.ref p] ∧ ((SqL K H p ys ∧ ∀ l, H l = none → Q (.ref l) (upd H l (.tup ys))) ∨ (SqT K H p ys ∧ Q (.ref p) H))
theorem call_tupU {X : Cx} {K : PySem.W.Frag} (e : X.K = K) : CallR X (.type "tuple") (rTupOf K) := e ▸ call_tuple_of
def dTupOf : DL := fun ds Q => match ds with
  | [.lst xs] => Q (.tup xs)
  | [.tup xs] => Q (.tup xs)
  | _ => False
def rLstOf (K : PySem.W.Frag) : List V → Hp → VK → Prop := fun xs H Q => ∃ p ys, xs = [.ref p] ∧ (SqL K H p ys ∨ SqT K H p ys) ∧ ∀ l, H l = none → Q (.ref l) (upd H l (.lst ys))
theorem call_lstU {X : Cx} {K : PySem.W.Frag} (e : X.K = K) : CallR X (.type "list") (rLstOf K) := e ▸ call_list_of
def dLstOf : DL := fun ds Q => match ds with
  | [.lst xs] => Q (.lst xs)
  | [.tup xs] => Q (.lst xs)
  | _ => False
section
variable {C : Bc}
theorem cg_tup : CallG Cln C (rTupOf C.K) dTupOf := by
  intro X env σ H vs ds Q Qd rp ra he q
  unfold dTupOf at he
  split at he
  · obtain ⟨v, rfl, r1⟩ := ra.one
    obtain ⟨p, vs, rfl, h1, a1⟩ := r1.lst
    exact ⟨p, vs, rfl, .inl ⟨.inl (.inl h1), fun l hl => q _ _ _ (.upd hl) (cln_new rp hl a1) he⟩⟩
  · obtain ⟨v, rfl, r1⟩ := ra.one
    obtain ⟨p, vs, rfl, h1, a1⟩ := r1.tup
    refine ⟨p, vs, rfl, .inr ⟨.inl (.inl h1), q _ _ H (.refl H) ?_ he⟩⟩
    rcases r1 with r1 | ⟨_, _, _, _, e2, _⟩
    · exact r1
    · cases e2
  · exact he.elim
theorem cg_lst : CallG Fsh C (rLstOf C.K) dLstOf := by
  intro X env σ H vs ds Q Qd rp ra he q
  unfold dLstOf at he
  split at he
  · obtain ⟨v, rfl, r1⟩ := ra.one
    obtain ⟨p, vs, rfl, h1, a1⟩ := r1.lst
    exact ⟨p, vs, rfl, .inl (.inl (.inl h1)), fun l hl => q _ _ _ (.upd hl) (fsh_new rp hl a1) he⟩
  · obtain ⟨v, rfl, r1⟩ := ra.one
    obtain ⟨p, vs, rfl, h1, a1⟩ := r1.tup
    exact ⟨p, vs, rfl, .inr (.inl (.inl h1)), fun l hl => q _ _ _ (.upd hl) (fsh_new rp hl a1) he⟩
  · exact he.elim
end
/-! sum -/
def dSum : DL := fun ds Q => match ds with
  | [.lst xs] => ∃ ns : List Int, xs = ns.map .int ∧ Q (.int ns.sum)
  | [.tup xs] => ∃ ns : List Int, xs = ns.map .int ∧ Q (.int ns.sum)
  | _ => False
section
variable {C : Bc}
theorem cg_sum : CallG Cln C (rSumA C.K) dSum := by
  intro X env σ H vs ds Q Qd rp ra he q
  unfold dSum at he
  split at he
  · obtain ⟨v, rfl, r1⟩ := ra.one
    obtain ⟨ns, rfl, he⟩ := he
    obtain ⟨p, vs, rfl, h1, a1⟩ := r1.lst
    rw [a1.ints_of] at h1
    exact ⟨p, ns, rfl, .inl (.inl (.inl h1)), q _ _ H (.refl H) (.int _) he⟩
  · obtain ⟨v, rfl, r1⟩ := ra.one
    obtain ⟨ns, rfl, he⟩ := he
    obtain ⟨p, vs, rfl, h1, a1⟩ := r1.tup
    rw [a1.ints_of] at h1
    exact ⟨p, ns, rfl, .inr (.inl (.inl h1)), q _ _ H (.refl H) (.int _) he⟩
  · exact he.elim
end
/-! max, min, sorted of a list of whole numbers -/
section
variable {C : Bc}
end
/-! isinstance -/
def Dt.kind : Dt → Option String
  | .non => some "NoneType"
  | .bl _ => some "bool"
  | .int _ => some "int"
  | .str _ => some "str"
  | .tup _ => some "tuple"
  | .lst _ => some "list"
  | .dk _ _ => some "dict"
  | .dt _ _ => some "dict"
  | _ => none
theorem Bor.tyx {C : Bc} {X : Addr → Prop} {H H1 : Hp} {v : V} {d : Dt} {n : String} (h : Bor C X H1 H v d) (e : d.kind = some n) : TyX C.K H v (.type n) := by
  cases d with
  | non => cases e; rw [h.non]; exact .base .non
  | bl b => cases e; rw [h.bl]; exact .base (.bl b)
  | int b => cases e; rw [h.int]; exact .base (.int b)
  | str b => cases e; rw [h.str]; exact .base (.str b)
  | tup xs => cases e; obtain ⟨p, vs, rfl, h1, _⟩ := h.tup; exact .base (.tup h1)
  | lst xs => cases e; obtain ⟨p, vs, rfl, h1, _⟩ := h.lst; exact .base (.lst h1)
  | dk ks ds => cases e; obtain ⟨p, vs, rfl, h1, _⟩ := h.dk; exact .base (.dK h1)
  | dt ks ds => cases e; obtain ⟨p, vs, rfl, h1, _⟩ := h.dt; exact .base (.dT h1)
  | ins _ _ _ => cases e
  | raw _ => cases e
/-- is of this built-in kind -/
def Dt.isa (T : String) (d : Dt) : Bool := match d.kind with
  | some n => n == T || (n == "bool" && T == "int")
  | none => false
def Known (T : String) : Prop := ∀ n, n ∈ ["NoneType", "bool", "int", "str", "tuple", "list", "dict"] → kitB n T = some (n == T || (n == "bool" && T == "int"))
theorem Dt.kind_mem {d : Dt} {n : String} (e : d.kind = some n) : n ∈ ["NoneType", "bool", "int", "str", "tuple", "list", "dict"] := by
  cases d <;> first | (cases e; done) | (injection e with e; subst e; decide)
theorem known_int : Known "int" := by unfold Known; decide +kernel
theorem known_bool : Known "bool" := by unfold Known; decide +kernel
theorem known_tuple : Known "tuple" := by unfold Known; decide +kernel
theorem known_list : Known "list" := by unfold Known; decide +kernel
def dIsi (T : String) : DL := fun ds Q => match ds with
  | [x, .raw (.ty T')] => T' = T ∧ x.kind.isSome = true ∧ Q (.bl (x.isa T))
  | _ => False
def dIsi2 (T U : String) : DL := fun ds Q => match ds with
  | [x, .tup [.raw (.ty T'), .raw (.ty U')]] => T' = T ∧ U' = U ∧ x.kind.isSome = true ∧ Q (.bl (x.isa T || x.isa U))
  | _ => False
theorem call_isiU {X : Cx} {K : PySem.W.Frag} (e : X.K = K) : CallR X (.builtin "isinstance") (rIsi K) := e ▸ call_isi
theorem call_isiTU {X : Cx} {K : PySem.W.Frag} (e : X.K = K) : CallR X (.builtin "isinstance") (rIsiT K) := e ▸ call_isiT
section
variable {C : Bc}
theorem cg_isi {T : String} (k : Known T) : CallG Cln C (rIsi C.K) (dIsi T) := by
  intro X env σ H vs ds Q Qd rp ra he q
  unfold dIsi at he
  split at he
  · rename_i x T'
    obtain ⟨rfl, hk, he⟩ := he
    obtain ⟨v, u, rfl, r1, r2⟩ := ra.two
    obtain ⟨n, hn⟩ := Option.isSome_iff_exists.mp hk
    have k1 := k n (Dt.kind_mem hn)
    have e : ∀ T, x.isa T = (n == T || (n == "bool" && T == "int")) := fun T => by unfold Dt.isa; rw [hn]
    rw [e] at he
    refine ⟨v, _, _, _, _, by rw [r2.raw], .ty _, r1.tyx hn, kit_ty k1, q _ _ H (.refl H) (.bl _) he⟩
  · exact he.elim
theorem cg_isi2 {T U : String} (k : Known T) (k2 : Known U) : CallG Cln C (rIsiT C.K) (dIsi2 T U) := by
  intro X env σ H vs ds Q Qd rp ra he q
  unfold dIsi2 at he
  split at he
  · obtain ⟨rfl, rfl, hk, he⟩ := he
    obtain ⟨v, u, rfl, r1, r2⟩ := ra.two
    obtain ⟨n, hn⟩ := Option.isSome_iff_exists.mp hk
    obtain ⟨p, vs, rfl, h1, a1⟩ := r2.tup
    cases a1 with
    | cons d1 a1 =>
      cases a1 with
      | cons d2 a2 =>
        cases a2
        rw [d1.flat rfl, d2.flat rfl] at h1
        have k1 := k n (Dt.kind_mem hn)
        have k3 := k2 n (Dt.kind_mem hn)
        refine ⟨v, p, _, _, _, _, rfl, h1, .cons (.ty _) (.cons (.ty _) .nil), r1.tyx hn, kitAny_cons (b := _) (kit_ty k1) (fun e1 => kitAny_cons (kit_ty k3) (r := _) (fun e2 => ?_) fun e2 => ?_) fun e1 => ?_, q _ _ H (.refl H) (.bl _) he⟩
        · unfold Dt.isa; rw [hn]; dsimp only; rw [e1, e2]; rfl
        · unfold Dt.isa; rw [hn]; dsimp only; rw [e1, e2]; rfl
        · unfold Dt.isa; rw [hn]; dsimp only; rw [e1]; rfl
  · exact he.elim
end
end Mine

namespace Mine
open PySem PySem.Spec PyProof.Rows L2
/-! ### what is walked -/
/-- where what was seen at an iterator's making is seen still: in loops, in comprehensions -/
abbrev SS := Bc → (Addr → Prop) → Hp → (Addr → Prop) → Hp → Prop
def Strong : SS := fun C X H1 Y H => Same (vis H1 X) (vis H Y) ∧ ∀ a, Y a → ∃ o, H a = some o
def Weak : SS := fun C X H1 Y H => Frm C.hd H1 H ∧ (∀ h c, C.hd = some (h, c) → X h) ∧ (∀ a, Y a → X a ∨ H1 a = none) ∧ ∀ a, Y a → ∃ o, H a = some o
theorem Weak.strong {C : Bc} {X Y : Addr → Prop} {H1 H : Hp} (w : Weak C X H1 Y H) : Strong C X H1 Y H := by
  obtain ⟨f, hx, hy, al⟩ := w
  refine ⟨fun a o e => ?_, al⟩
  obtain ⟨n, h⟩ := vis_of e
  refine vis_mk (fun y => (hy a y).elim n fun z => by rw [z] at h; cases h) (f.1 a o h fun h' c e' q => n (q ▸ hx h' c e'))
/-- the iterator J yields the data ds -/
def WalkD (S : SS) (C : Bc) (X : Addr → Prop) (H1 : Hp) (J : It) (ds : List Dt) : Prop := ∀ (Y : Addr → Prop) (i : Nat) (H : Hp), S C X H1 Y H →
  (i < ds.length → J.go i H ∧ ∀ x H', J.yld i H x H' → Same H H' ∧ ∃ d, ds[i]? = some d ∧ Den C.K (vis H' Y) x d) ∧ (i = ds.length → J.stop i H)
theorem WalkD.weak {C : Bc} {X : Addr → Prop} {H1 : Hp} {J : It} {ds : List Dt} (w : WalkD Strong C X H1 J ds) : WalkD Weak C X H1 J ds := fun Y i H s => w Y i H s.strong
def DIg (S : SS) (C : Bc) (wi : TI) (e : DAX) : Prop := ∀ X env σ H (R : It → Hp → Prop) (Qd : List Dt → Prop) (Qx : Xc → Prop), Rep C X env σ H → e env Qd Qx →
  (∀ ds J H1, Frm C.hd H H1 → WalkD S C X H1 J ds → Qd ds → R J H1) → XOk C X σ H Qx → wi σ H R
theorem DIg.weak {C : Bc} {wi : TI} {e : DAX} (h : DIg Strong C wi e) : DIg Weak C wi e := fun X env σ H R Qd Qx rp he q x => h X env σ H R Qd Qx rp he (fun ds J H1 f w h => q ds J H1 f w.weak h) x
def eSeq (a : DX) : DAX := fun env Q E => a env (fun d => match d with
  | .lst xs => Q xs
  | .tup xs => Q xs
  | _ => False) E
def eRng1 (a : DAX) : DAX := fun env Q E => a env (fun ds => match ds with
  | [.int j] => (-(2 ^ 62) ≤ j ∧ j < 2 ^ 62) ∧ Q ((List.range j.toNat).map fun i => .int (i : Nat))
  | _ => False) E
def eRng2 (a : DAX) : DAX := fun env Q E => a env (fun ds => match ds with
  | [.int i, .int j] => (-(2 ^ 62) ≤ i ∧ i < 2 ^ 62 ∧ -(2 ^ 62) ≤ j ∧ j < 2 ^ 62) ∧ Q ((List.range (j - i).toNat).map fun k => .int (i + (k : Nat)))
  | _ => False) E
def eEnum (a : DAX) : DAX := fun env Q E => a env (fun ds => match ds with
  | [.lst xs] => Q (xs.mapIdx fun i x => .tup [.int (i : Nat), x])
  | [.tup xs] => Q (xs.mapIdx fun i x => .tup [.int (i : Nat), x])
  | _ => False) E
section
variable {C : Bc} {X : Addr → Prop} {H1 : Hp}
theorem walk_lst {S : SS} {p : Addr} {vs : List V} {ds : List Dt} (h : ∀ Y H, S C X H1 Y H → H p = some (.lst vs) ∧ DenAll C.K (vis H Y) vs ds) : WalkD S C X H1 (Itl C.K p) ds := by
  intro Y i H s
  obtain ⟨h1, a⟩ := h Y H s
  have hl := a.length
  refine ⟨fun hi => ⟨⟨vs, vs[i], .inl (.inl h1), by simp [hl ▸ hi]⟩, fun x H' ⟨e, hx⟩ => ?_⟩, fun hi => ⟨vs, .inl (.inl h1), by omega⟩⟩
  subst e
  exact ⟨Same.refl _, a.getV (hx vs (.inl (.inl h1)))⟩
theorem walk_tpl {S : SS} {p : Addr} {vs : List V} {ds : List Dt} (h : ∀ Y H, S C X H1 Y H → H p = some (.tup vs) ∧ DenAll C.K (vis H Y) vs ds) : WalkD S C X H1 (Itt C.K p) ds := by
  intro Y i H s
  obtain ⟨h1, a⟩ := h Y H s
  have hl := a.length
  refine ⟨fun hi => ⟨⟨vs, vs[i], .inl (.inl h1), by simp [hl ▸ hi]⟩, fun x H' ⟨e, hx⟩ => ?_⟩, fun hi => ⟨vs, .inl (.inl h1), by omega⟩⟩
  subst e
  exact ⟨Same.refl _, a.getV (hx vs (.inl (.inl h1)))⟩
/-- how a seen list, a seen tuple stays -/
theorem cln_lst {v : V} {ds : List Dt} (h : Den C.K (vis H1 X) v (.lst ds)) : ∃ p vs, v = .ref p ∧ H1 p = some (.lst vs) ∧ ∀ Y H, Strong C X H1 Y H → H p = some (.lst vs) ∧ DenAll C.K (vis H Y) vs ds := by
  cases h with
  | lst h a => exact ⟨_, _, rfl, vis_sub _ _ h, fun Y H s => ⟨vis_sub _ _ (s.1 _ _ h), a.mono s.1⟩⟩
theorem cln_tup {v : V} {ds : List Dt} (h : Den C.K (vis H1 X) v (.tup ds)) : ∃ p vs, v = .ref p ∧ H1 p = some (.tup vs) ∧ ∀ Y H, Strong C X H1 Y H → H p = some (.tup vs) ∧ DenAll C.K (vis H Y) vs ds := by
  cases h with
  | tup h a => exact ⟨_, _, rfl, vis_sub _ _ h, fun Y H s => ⟨vis_sub _ _ (s.1 _ _ h), a.mono s.1⟩⟩
theorem bor_lst {H0 : Hp} {v : V} {ds : List Dt} (h : Bor C X H0 H1 v (.lst ds)) : ∃ p vs, v = .ref p ∧ H1 p = some (.lst vs) ∧ ∀ Y H, Weak C X H1 Y H → H p = some (.lst vs) ∧ DenAll C.K (vis H Y) vs ds := by
  rcases h with h | ⟨p, vs, ds, rfl, e2, n, h1, h2⟩
  · obtain ⟨p, vs, e1, h1, k⟩ := cln_lst h
    exact ⟨p, vs, e1, h1, fun Y H s => k Y H s.strong⟩
  · cases e2
    exact ⟨p, vs, rfl, h1, fun Y H s => ⟨s.1.1 p _ h1 n, h2.mono s.strong.1⟩⟩
theorem bor_tup {H0 : Hp} {v : V} {ds : List Dt} (h : Bor C X H0 H1 v (.tup ds)) : ∃ p vs, v = .ref p ∧ H1 p = some (.tup vs) ∧ ∀ Y H, Weak C X H1 Y H → H p = some (.tup vs) ∧ DenAll C.K (vis H Y) vs ds := by
  rcases h with h | ⟨p, vs, ds, rfl, e2, n, h1, h2⟩
  · obtain ⟨p, vs, e1, h1, k⟩ := cln_tup h
    exact ⟨p, vs, e1, h1, fun Y H s => k Y H s.strong⟩
  · cases e2
end
/-- what a source must be: with all that is let, or a list of one's own -/
class Src (R : RR) (S : SS) : Prop where
  lst : ∀ {C : Bc} {X : Addr → Prop} {H0 H1 : Hp} {v : V} {ds : List Dt}, R C X H0 H1 v (.lst ds) → ∃ p vs, v = .ref p ∧ H1 p = some (.lst vs) ∧ ∀ Y H, S C X H1 Y H → H p = some (.lst vs) ∧ DenAll C.K (vis H Y) vs ds
  tup : ∀ {C : Bc} {X : Addr → Prop} {H0 H1 : Hp} {v : V} {ds : List Dt}, R C X H0 H1 v (.tup ds) → ∃ p vs, v = .ref p ∧ H1 p = some (.tup vs) ∧ ∀ Y H, S C X H1 Y H → H p = some (.tup vs) ∧ DenAll C.K (vis H Y) vs ds
  al : ∀ {C : Bc} {X Y : Addr → Prop} {H1 H : Hp}, S C X H1 Y H → ∀ a, Y a → ∃ o, H a = some o
instance : Src Cln Strong := ⟨fun h => cln_lst h, fun h => cln_tup h, fun s => s.2⟩
instance : Src Bor Weak := ⟨fun h => bor_lst h, fun h => bor_tup h, fun s => s.2.2.2⟩
section
variable {C : Bc} {R : RR} {S : SS} {tl : TE} {ta : TA} {el : DX} {ea : DAX}
theorem di_seq [Src R S] (h : DEg R C tl el) : DIg S C (iSeq C.K tl) (eSeq el) := by
  intro X env σ H Rr Qd Qx rp he q x
  refine h X env σ H _ _ Qx rp he (fun d v H1 f1 r1 he1 => ?_) x
  split at he1
  · obtain ⟨p, vs, rfl, h1, k⟩ := Src.lst (S := S) r1
    exact ⟨p, vs, rfl, .inl ⟨.inl (.inl h1), q _ _ H1 f1 (walk_lst k) he1⟩⟩
  · obtain ⟨p, vs, rfl, h1, k⟩ := Src.tup (S := S) r1
    exact ⟨p, vs, rfl, .inr ⟨.inl (.inl h1), q _ _ H1 f1 (walk_tpl k) he1⟩⟩
  · exact he1.elim
theorem walk_rng {X : Addr → Prop} {H1 : Hp} (lo : Int) (n : Nat) : WalkD S C X H1 (Itr lo n) ((List.range n).map fun k => .int (lo + (k : Nat))) := by
  intro Y i H s
  rw [List.length_map, List.length_range]
  refine ⟨fun hi => ⟨hi, fun x H' ⟨e, hx⟩ => ?_⟩, fun hi => Nat.le_of_eq hi.symm⟩
  subst e hx
  exact ⟨Same.refl _, _, by rw [List.getElem?_map, List.getElem?_range hi]; rfl, .int _⟩
theorem di_rng1 (h : DAb C ta ea) : DIg S C (iRng1 ta) (eRng1 ea) := by
  intro X env σ H Rr Qd Qx rp he q x
  refine h X env σ H _ _ Qx rp he (fun ds vs H1 f1 ra he1 => ?_) x
  split at he1
  · obtain ⟨v, rfl, r1⟩ := ra.one
    obtain ⟨⟨c1, c2⟩, he1⟩ := he1
    refine ⟨_, by rw [r1.int], c1, c2, q _ _ H1 f1 ?_ he1⟩
    have e : ∀ n : Nat, WalkD S C X H1 (Itr 0 n) ((List.range n).map fun i => .int (i : Nat)) := fun n => by
      have := walk_rng (S := S) (C := C) (X := X) (H1 := H1) 0 n
      simpa using this
    exact e _
  · exact he1.elim
theorem di_rng2 (h : DAb C ta ea) : DIg S C (iRng2 ta) (eRng2 ea) := by
  intro X env σ H Rr Qd Qx rp he q x
  refine h X env σ H _ _ Qx rp he (fun ds vs H1 f1 ra he1 => ?_) x
  split at he1
  · obtain ⟨v, u, rfl, r1, r2⟩ := ra.two
    obtain ⟨c, he1⟩ := he1
    exact ⟨_, _, by rw [r1.int, r2.int], c, q _ _ H1 f1 (walk_rng _ _) he1⟩
  · exact he1.elim
theorem walk_pair {X : Addr → Prop} {H1 : Hp} {J : It} {n : Nat} {G : Hp → Prop} {xs : List V} {ds : List Dt} (hal : ∀ {Y : Addr → Prop} {H : Hp}, S C X H1 Y H → ∀ a, Y a → ∃ o, H a = some o) (hn : ds.length = n)
    (w : Walk J n G (YPair (fun i => some (.int (i : Nat))) (fun i => xs[i]?))) (hs : ∀ i H, n ≤ i → G H → J.stop i H) (k : ∀ Y H, S C X H1 Y H → G H ∧ DenAll C.K (vis H Y) xs ds) :
    WalkD S C X H1 J (ds.mapIdx fun i x => .tup [.int (i : Nat), x]) := by
  intro Y i H s
  obtain ⟨g, a⟩ := k Y H s
  rw [List.length_mapIdx]
  refine ⟨fun hi => ⟨w.goes i H (hn ▸ hi) g, fun x H' hy => ?_⟩, fun hi => hs i H (by omega) g⟩
  obtain ⟨T, v, y, rfl, hT, rfl, ev, ey⟩ := w.yields i H x H' (hn ▸ hi) g hy
  dsimp only at ev ey
  cases ev
  obtain ⟨d, e, den⟩ := a.getV ey
  have nT : ¬ Y T := fun y => by
    obtain ⟨o, q⟩ := hal s T y
    rw [hT] at q; cases q
  refine ⟨same_upd hT, _, by rw [List.getElem?_mapIdx, e]; rfl, .tup (vis_mk nT upd_same) (.cons (.int _) (.cons (den.mono fun b o e => ?_) .nil))⟩
  obtain ⟨n1, e1⟩ := vis_of e
  exact vis_mk n1 (same_upd hT _ _ e1)
theorem di_enum [Src R S] (h : DEg R C tl el) : DIg S C (iEnumA C.K (tCons tl tNil)) (eEnum (eCons el eNil)) := by
  intro X env σ H Rr Qd Qx rp he q x
  refine h X env σ H _ _ Qx rp he (fun d v H1 f1 r1 he1 => ?_) x
  show ∃ a xs, [v] = [.ref a] ∧ _
  have he1 : (match [d] with
    | [.lst xs] => Qd (xs.mapIdx fun i x => .tup [.int (i : Nat), x])
    | [.tup xs] => Qd (xs.mapIdx fun i x => .tup [.int (i : Nat), x])
    | _ => False) := he1
  split at he1
  · rename_i e
    cases e
    obtain ⟨p, vs, rfl, h1, k⟩ := Src.lst (S := S) r1
    refine ⟨p, vs, rfl, .inl ⟨.inl (.inl h1), q _ _ H1 f1 ?_ he1⟩⟩
    intro Y i H2 s
    exact walk_pair (G := fun H => SqL C.K H p vs) (fun s => Src.al (R := R) s) (k Y H2 s).2.length.symm walk_enum (fun i H hi g => ⟨vs, g, hi⟩) (fun Y H s => ⟨.inl (.inl (k Y H s).1), (k Y H s).2⟩) Y i H2 s
  · rename_i e
    cases e
    obtain ⟨p, vs, rfl, h1, k⟩ := Src.tup (S := S) r1
    refine ⟨p, vs, rfl, .inr ⟨.inl (.inl h1), q _ _ H1 f1 ?_ he1⟩⟩
    intro Y i H2 s
    exact walk_pair (G := fun H => SqT C.K H p vs) (fun s => Src.al (R := R) s) (k Y H2 s).2.length.symm walk_enumT (fun i H hi g => ⟨vs, g, hi⟩) (fun Y H s => ⟨.inl (.inl (k Y H s).1), (k Y H s).2⟩) Y i H2 s
  · exact he1.elim
end
/-! ### targets -/
abbrev DGX := Dt → List Sl → (List Sl → Prop) → Prop
def DG (C : Bc) (g : TG) (js : List Nat) (f : DGX) : Prop := ∀ X env σ H x d (Q : L2.St → Hp → Prop) (Qd : List Sl → Prop), Rep C X env σ H → Den C.K (vis H X) x d → f d env Qd →
  (∀ env' σ', Rep C X env' σ' H → Qd env' → σ'.length = σ.length → (∀ k, k ∉ js → σ'[k]? = σ[k]?) → (∀ (k : Nat) (s : Sl), env'[k]? = some s → (∃ o a, Foot s o a) → env[k]? = some s ∧ σ'[k]? = σ[k]?) → Q σ' H) → g x σ H Q
def gD (j : Nat) : DGX := fun d env Q => Q (env.set j (.d d))
def gD2 (i j : Nat) : DGX := fun d env Q => match d with
  | .tup [a, b] => Q ((env.set i (.d a)).set j (.d b))
  | _ => False
def gD3 (i j k : Nat) : DGX := fun d env Q => match d with
  | .tup [a, b, c] => Q (((env.set i (.d a)).set j (.d b)).set k (.d c))
  | _ => False
section
variable {C : Bc} {X : Addr → Prop} {env : List Sl} {σ : L2.St} {H : Hp}
theorem Rep.set (r : Rep C X env σ H) (j : Nat) {x : V} {d : Dt} (h : Den C.K (Mine.vis H X) x d) : Rep C X (env.set j (.d d)) (σ.set j (.some x)) H where
  len := by rw [List.length_set, List.length_set, r.len]
  sup := r.sup
  new := r.new
  al := r.al
  frm := r.frm
  hands := r.hands
  slot := fun i s e => by
    rw [List.getElem?_set] at e ⊢
    by_cases c : j = i
    · subst c
      rw [if_pos rfl] at e ⊢
      by_cases hl : j < env.length
      · rw [if_pos hl] at e
        rw [if_pos (r.len ▸ hl)]
        cases e
        exact ⟨_, rfl, x, rfl, h⟩
      · rw [if_neg hl] at e; cases e
    · rw [if_neg c] at e ⊢
      exact r.slot i s e
  ap := r.ap.set fun _ f => f
  one := r.one.set fun _ _ _ z => by cases z
theorem own_set {env : List Sl} {σ : L2.St} {j : Nat} {x : Dt} {o : Option V} (k : Nat) (s : Sl) (e : (env.set j (.d x))[k]? = some s) (f : ∃ o a, Foot s o a) : env[k]? = some s ∧ (σ.set j o)[k]? = σ[k]? := by
  rw [List.getElem?_set] at e
  have a : j ≠ k := fun c => by
    subst c
    rw [if_pos rfl] at e
    split at e
    · cases e
      obtain ⟨_, _, f⟩ := f
      exact f
    · cases e
  rw [if_neg a] at e
  exact ⟨e, by rw [List.getElem?_set, if_neg a]⟩
theorem dg_name (j : Nat) : DG C (gName j) [j] (gD j) := by
  intro X env σ H x d Q Qd rp hd he q
  refine q _ _ (rp.set j hd) he (by rw [List.length_set]) (fun k hk => ?_) own_set
  have : j ≠ k := fun z => hk (by simp [z])
  rw [List.getElem?_set, if_neg this]
theorem Den.tupI {K : PySem.W.Frag} {H : Hp} {v : V} {ds : List Dt} (h : Den K H v (.tup ds)) : ∃ p vs, v = .ref p ∧ H p = some (.tup vs) ∧ DenAll K H vs ds := by
  cases h with
  | tup h a => exact ⟨_, _, rfl, h, a⟩
theorem dg_two (i j : Nat) : DG C (gTup C.K 2 (gCons (gName i) (gCons (gName j) gNil))) [i, j] (gD2 i j) := by
  intro X env σ H x d Q Qd rp hd he q
  unfold gD2 at he
  split at he
  · obtain ⟨p, vs, rfl, h1, a⟩ := hd.tupI
    cases a with
    | @cons v1 _ _ _ a1 a =>
      cases a with
      | @cons v2 _ _ _ a2 a =>
        cases a
        refine ⟨p, _, rfl, .inl (.inl (vis_sub _ _ h1)), rfl, v1, _, rfl, v2, _, rfl, rfl, ?_⟩
        refine q _ _ ((rp.set i a1).set j a2) he (by rw [List.length_set, List.length_set]) (fun k hk => ?_) (fun k xs e hf => by
          obtain ⟨a1, b1⟩ := own_set (σ := σ.set i (some v1)) (o := some v2) k xs e hf
          obtain ⟨a2, b2⟩ := own_set (σ := σ) (o := some v1) k xs a1 hf
          exact ⟨a2, b1.trans b2⟩)
        have e1 : i ≠ k := fun z => hk (by simp [z])
        have e2 : j ≠ k := fun z => hk (by simp [z])
        rw [List.getElem?_set, if_neg e2, List.getElem?_set, if_neg e1]
  · exact he.elim
/-! ### comprehensions -/
def wipeS (env : List Sl) : List Nat → List Sl
  | [] => env
  | v :: vs => (wipeS env vs).set v .no
theorem Rep.unset (r : Rep C X env σ H) (j : Nat) (o : Option V) : Rep C X (env.set j .no) (σ.set j o) H where
  len := by rw [List.length_set, List.length_set, r.len]
  sup := r.sup
  new := r.new
  al := r.al
  frm := r.frm
  hands := r.hands
  slot := fun i s e => by
    rw [List.getElem?_set] at e ⊢
    by_cases c : j = i
    · subst c
      rw [if_pos rfl] at e ⊢
      by_cases hl : j < env.length
      · rw [if_pos hl] at e
        rw [if_pos (r.len ▸ hl)]
        cases e
        exact ⟨_, rfl, trivial⟩
      · rw [if_neg hl] at e; cases e
    · rw [if_neg c] at e ⊢
      exact r.slot i s e
  ap := r.ap.set fun _ f => f
  one := r.one.set fun _ _ _ z => by cases z
theorem Rep.wiped (r : Rep C X env σ H) : ∀ vs : List Nat, Rep C X (wipeS env vs) (wipe σ vs) H
  | [] => r
  | v :: vs => (r.wiped vs).unset v none
theorem wipe_at (σ : L2.St) : ∀ (vs : List Nat) (k : Nat), (wipe σ vs)[k]? = if k ∈ vs ∧ k < σ.length then some none else σ[k]?
  | [], k => by simp [wipe]
  | v :: vs, k => by
    show ((wipe σ vs).set v none)[k]? = _
    rw [List.getElem?_set, wipe_length, wipe_at σ vs k]
    by_cases c : v = k
    · subst c
      by_cases hl : v < σ.length
      · rw [if_pos rfl, if_pos hl, if_pos ⟨List.mem_cons_self, hl⟩]
      · rw [if_pos rfl, if_neg hl, if_neg fun z => hl z.2]
        exact (List.getElem?_eq_none_iff.mpr (by omega)).symm
    · rw [if_neg c]
      have e : (k ∈ v :: vs ∧ k < σ.length) ↔ (k ∈ vs ∧ k < σ.length) := by
        rw [List.mem_cons]
        constructor
        · rintro ⟨z | z, h⟩
          · exact absurd z.symm c
          · exact ⟨z, h⟩
        · rintro ⟨z, h⟩; exact ⟨.inr z, h⟩
      simp only [e]
theorem wipe_of {σ σ' : L2.St} {vs : List Nat} (hl : σ'.length = (wipe σ vs).length) (hk : ∀ k, k ∉ vs → σ'[k]? = (wipe σ vs)[k]?) : wipe σ' vs = wipe σ vs := by
  refine List.ext_getElem? fun k => ?_
  rw [wipe_length] at hl
  rw [wipe_at, wipe_at]
  by_cases c : k ∈ vs
  · by_cases h : k < σ.length
    · rw [if_pos ⟨c, by omega⟩, if_pos ⟨c, h⟩]
    · rw [if_neg fun z => h (by omega), if_neg fun z => h z.2, List.getElem?_eq_none_iff.mpr (by omega), List.getElem?_eq_none_iff.mpr (by omega)]
  · rw [if_neg fun z => c z.1, if_neg fun z => c z.1, hk k c, wipe_at, if_neg fun z => c z.1]
/-- a new thing is hidden -/
theorem Rep.hide {D : Addr} {H2 : Hp} (r : Rep C X env σ H) (n : H D = none) (f : Frm C.hd H H2) (t : ∃ o, H2 D = some o) : Rep C (fun a => X a ∨ a = D) env σ H2 := by
  have r2 := r.step f
  have nD : ∀ a o, H a = some o → a ≠ D := fun a o e => ne_of_none e n
  have sm : Same (Mine.vis H X) (Mine.vis H2 fun a => X a ∨ a = D) := fun a o e => by
    obtain ⟨n1, e1⟩ := vis_of e
    exact vis_mk (fun z => z.elim n1 (nD a o e1)) (f.1 a o e1 fun h c e' q => n1 (q ▸ r.hX h c e'))
  refine ⟨r.len, fun a z => .inl (r.sup a z), fun a z => ?_, fun a z => ?_, r2.frm, r2.hands, fun i s e => ?_, r.ap, r.one⟩
  · rcases z with z | rfl
    · exact r.new a z
    · exact .inr (r.h0 n)
  · rcases z with z | rfl
    · exact r2.al a z
    · exact t
  · obtain ⟨o, e1, q⟩ := r.slot i s e
    refine ⟨o, e1, ?_⟩
    cases s with
    | no => trivial
    | d x => obtain ⟨v, e2, h⟩ := q; exact ⟨v, e2, h.mono sm⟩
    | own xs =>
      obtain ⟨p, vs, e2, x1, x2, h1, h2⟩ := q
      exact ⟨p, vs, e2, .inl x1, x2, f.1 p _ h1 (r.nh x2), h2.mono sm⟩
    | hand => exact q
    | exc c fs => exact q.exc sm
    | ins C0 ns ds =>
      obtain ⟨p, dx, vs, e2, x1, x2, h1, l, h2⟩ := q
      exact ⟨p, dx, vs, e2, .inl x1, x2, f.1 p _ h1 (r.nh x2), l, h2.mono sm⟩
    | tab p qs rows => exact q.tab_to (fun _ _ x => .inl x) (fun a ha u h => f.1 a u h (r.nh (q.2.1 a ha).2)) sm
end
def lcGo (f : DGX) (tt : DTX) (te : DX) (env : List Sl) (Q : Dt → Prop) : List Dt → List Dt → Prop
  | [], acc => Q (.lst acc)
  | x :: xs, acc => f x env fun env' => tt env' (fun b => if b = true then te env' (fun y => acc.length < LINE ∧ lcGo f tt te env Q xs (acc ++ [y])) (fun _ => False) else lcGo f tt te env Q xs acc) fun _ => False
def eLc (src : DAX) (f : DGX) (tt : DTX) (te : DX) (vs : List Nat) : DX := fun env Q E => src env (fun ds => lcGo f tt te (wipeS env vs) Q ds []) E
theorem xok_no {C : Bc} {X : Addr → Prop} {σ : L2.St} {H : Hp} : XOk C X σ H fun _ => False := fun _ _ _ _ _ _ z => z.elim
theorem frm_put {C : Bc} {X : Addr → Prop} {env : List Sl} {σ : L2.St} {H1 H : Hp} {D : Addr} {o : HO} (r : Rep C X env σ H1) (n : H1 D = none) (f : Frm C.hd H1 H) : Frm C.hd H1 (upd H D o) := by
  refine ⟨fun a u e k => ?_, fun h c e x => ?_⟩
  · rw [upd_ne (ne_of_none e n)]; exact f.1 a u e k
  · have x2 := f.2 h c e x
    obtain ⟨_, _, _, _, a1, a2, _⟩ := x
    obtain ⟨cells, at_, big, mix, b1, b2, b3⟩ := x2
    exact ⟨cells, at_, big, mix, by rw [upd_ne (ne_of_none a1 n)]; exact b1, by rw [upd_ne (ne_of_none a2 n)]; exact b2, b3⟩
theorem df_lc {C : Bc} {wi : TI} {g : TG} {tt : TT} {te : TE} {vs : List Nat} {src : DAX} {f : DGX} {et : DTX} {ee : DX} (hi : DIg Weak C wi src) (hg : DG C g vs f) (ht : DT C tt et) (he : DE C te ee) : DF C (tLc wi g tt te vs) (eLc src f et ee vs) := by
  intro X env σ H Q Qd Qx rp h q x
  refine hi X env σ H _ _ Qx rp h (fun ds J H1 f1 w h1 => ?_) x
  show ∀ D, H1 D = none → Lc J g tt te vs D σ H1 Q
  intro D hD
  have rp1 := rp.step f1
  let W : Nat → Nat → Hp → Prop := fun i m H2 => m + i = ds.length ∧ Frm C.hd H1 H2 ∧ ∃ acc us, H2 D = some (.lst us) ∧ DenAll C.K (vis H2 fun a => X a ∨ a = D) us acc ∧ lcGo f et ee (wipeS env vs) Qd (ds.drop i) acc
  refine ⟨W, ⟨ds.length, rfl, .upd hD, [], [], upd_same, .nil, h1⟩, fun i m H2 ⟨hm, f2, acc, us, hD2, a2, go⟩ => ?_⟩
  have rpY : Rep C (fun a => X a ∨ a = D) env σ H2 := rp1.hide hD f2 ⟨_, hD2⟩
  have rpW := rpY.wiped vs
  have sW : Weak C X H1 (fun a => X a ∨ a = D) H2 := ⟨f2, rp1.hX, fun a z => z.imp id fun (e : a = D) => by rw [e]; exact hD, rpY.al⟩
  have hw := w _ i H2 sW
  have nh : ∀ h c, C.hd = some (h, c) → D ≠ h := fun h c e z => by
    obtain ⟨_, _, _, _, q, _⟩ := (rp1.hands h c e).2.2
    rw [z, q] at hD; cases hD
  by_cases c : i < ds.length
  · obtain ⟨g1, g2⟩ := hw.1 c
    refine .inr ⟨g1, W (i + 1) (m - 1), fun H' hW => ⟨m - 1, by omega, hW⟩, fun y H3 hy => ?_⟩
    obtain ⟨s3, d, hd, den⟩ := g2 y H3 hy
    have ed : ds.drop i = d :: ds.drop (i + 1) := by
      rw [List.drop_eq_getElem_cons c]
      congr 1
      rw [List.getElem?_eq_getElem c] at hd
      exact Option.some.inj hd
    rw [ed] at go
    have step : ∀ H5, Frm C.hd H3 H5 → Frm C.hd H1 H5 ∧ H5 D = some (.lst us) ∧ DenAll C.K (vis H5 fun a => X a ∨ a = D) us acc := fun H5 f5 => by
      have f25 : Frm C.hd H2 H5 := (Frm.same s3).trans f5
      exact ⟨f2.trans f25, f25.1 D _ hD2 nh, a2.mono (rpY.vs f25)⟩
    refine hg _ _ _ H3 y d _ _ (rpW.step (.same s3)) den go fun env' σ' rp' he' hl hk _ => ⟨wipe_of hl hk, ?_⟩
    refine ht _ env' σ' H3 _ _ _ rp' he' (fun b H4 f4 hb => ?_) xok_no
    cases b with
    | false =>
      rw [if_neg (by decide)] at hb ⊢
      obtain ⟨k1, k2, k3⟩ := step H4 f4
      exact ⟨by omega, k1, acc, us, k2, k3, hb⟩
    | true =>
      rw [if_pos rfl] at hb ⊢
      refine he _ env' σ' H4 _ _ _ (rp'.step f4) hb (fun y2 v2 H5 f5 den5 hb5 => ?_) xok_no
      obtain ⟨k1, k2, k3⟩ := step H5 (f4.trans f5)
      have sv : Same (vis H5 fun a => X a ∨ a = D) (vis (upd H5 D (.lst (us ++ [v2]))) fun a => X a ∨ a = D) := fun a o e => by
        obtain ⟨n1, e1⟩ := vis_of e
        exact vis_mk n1 (by rw [upd_ne fun z => n1 (.inr z)]; exact e1)
      refine ⟨us, k2, by rw [k3.length, sizeLine_eq]; exact hb5.1, by omega, frm_put rp1 hD k1, acc ++ [y2], us ++ [v2], upd_same, (k3.snoc den5).mono sv, hb5.2⟩
  · have e : ds.drop i = [] := List.drop_eq_nil_of_le (by omega)
    rw [e] at go
    exact .inl ⟨hw.2 (by omega), q _ _ H2 (f1.trans f2) ⟨D, us, acc, rfl, rfl, f1.free (fun h c e => (rp.hands h c e).2.2) hD, hD2, a2⟩ go⟩
def eYes : DTX := fun _ Q _ => Q true
theorem dt_yes {C : Bc} : DT C tYes eYes := fun X env σ H Q Qd Qx rp he q x => q true H (.refl H) he
/-! ### calls of defs of one's own -/
abbrev DFn := List Sl → (Dt → Prop) → (Xc → Prop) → Prop
def spD (K : PySem.W.Frag) (F : DFn) : Sp := fun vs H Q E => ∃ (X : Addr → Prop) (hd : Hnd) (args : List Sl) (Qd : Dt → Prop) (Qx : Xc → Prop), (∀ a, X a → ∃ o, H a = some o) ∧ (∀ h c, hd = some (h, c) → X h ∧ HandC H h c) ∧ SlAll K hd X H vs args ∧ F args Qd Qx ∧
  (∀ d v H', Frm hd H H' → Den K (vis H' X) v d → Qd d → Q v H') ∧ (∀ x cls dx H', Frm hd H H' → XRep K (vis H' X) cls dx x → Qx x → E cls dx H')
def Dvs (dvs : List V) (dd : List Sl) : Prop := ∀ (K : PySem.W.Frag) (hd : Hnd) (X : Addr → Prop) (H : Hp), SlAll K hd X H dvs dd
theorem dv_nil : Dvs [] [] := fun _ _ _ _ => .nil
def eCall (F : DFn) (dd : List Sl) (a : DSX) : DX := fun env Q E => a env (fun ss => F (ss ++ dd) Q E) E
def eCall0 (F : DFn) (dd : List Sl) (a : DSX) : DX := fun env Q E => a env (fun ss => F (ss ++ dd) Q fun _ => False) E
section
variable {C : Bc} {F : DFn} {dvs : List V} {dd : List Sl} {t : TA} {a : DSX}
theorem spD_use {X : Addr → Prop} {env : List Sl} {σ : L2.St} {H : Hp} {vs : List V} {ss : List Sl} {Q : VK} {E : XK} {Qd : Dt → Prop} {Qx : Xc → Prop} (rp : Rep C X env σ H) (r : SlAll C.K C.hd X H vs ss) (h : F ss Qd Qx)
    (q : ∀ d v H', Frm C.hd H H' → Den C.K (vis H' X) v d → Qd d → Q v H') (x : ∀ x cls dx H', Frm C.hd H H' → XRep C.K (vis H' X) cls dx x → Qx x → E cls dx H') : spD C.K F vs H Q E :=
  ⟨X, C.hd, ss, Qd, Qx, rp.al, fun h c e => ⟨rp.hX h c e, (rp.hands h c e).2.2⟩, r, h, q, x⟩
theorem de_call0 (hd : Dvs dvs dd) (ha : DAs C t a) : DE C (tCall (spD C.K F) dvs E0 t) (eCall0 F dd a) := by
  intro X env σ H Q Qd Qx rp he q x
  refine ha X env σ H _ _ Qx rp he (fun ss vs H1 f1 r1 he1 => ?_) x
  exact spD_use (rp.step f1) (SlAll.append r1 (hd C.K C.hd X H1)) he1 (fun d v H' f h => q d v H' (f1.trans f) h) fun _ _ _ _ _ _ z => z.elim
theorem de_call {E : XK} (hE : C.E = fun _ => E) (hd : Dvs dvs dd) (ha : DAs C t a) : DE C (tCall (spD C.K F) dvs E t) (eCall F dd a) := by
  intro X env σ H Q Qd Qx rp he q x
  refine ha X env σ H _ _ Qx rp he (fun ss vs H1 f1 r1 he1 => ?_) x
  exact spD_use (rp.step f1) (SlAll.append r1 (hd C.K C.hd X H1)) he1 (fun d v H' f h => q d v H' (f1.trans f) h) fun y cls dx H' f r z => by
    have := x y cls dx H' (f1.trans f) r z
    rw [hE] at this
    exact this
theorem de_callS {E : L2.St → XK} (hE : C.E = E) (ha : DAs C t a) : DE C (tCallS (spD C.K F) E t) (eCall F [] a) := by
  intro X env σ H Q Qd Qx rp he q x
  refine ha X env σ H _ _ Qx rp he (fun ss vs H1 f1 r1 he1 => ?_) x
  rw [List.append_nil] at he1
  exact spD_use (rp.step f1) r1 he1 (fun d v H' f h => q d v H' (f1.trans f) h) fun y cls dx H' f r z => by
    have := x y cls dx H' (f1.trans f) r z
    rw [hE] at this
    exact this
end
end Mine

namespace Mine
open PySem PySem.Spec PyProof.Rows L2
/-! ### statements, by data -/
structure DEn where
  nx : List Sl → Prop
  rt : Dt → Prop
  bk : List Sl → Prop
  ct : List Sl → Prop
  xc : List Sl → Xc → Prop
abbrev DSt := DEn → List Sl → Prop
/-- what is wanted at the ends, from a place on -/
structure Lnk (C : Bc) (X : Addr → Prop) (H : Hp) (D : Ends) (d : DEn) : Prop where
  nx : ∀ X' env σ H', Rep C X' env σ H' → Same (vis H X) (vis H' X') → d.nx env → D.nx σ H'
  rt : ∀ X' env σ H' v x, Rep C X' env σ H' → Same (vis H X) (vis H' X') → Den C.K (vis H' X') v x → d.rt x → D.rt v H'
  bk : ∀ X' env σ H', Rep C X' env σ H' → Same (vis H X) (vis H' X') → d.bk env → D.bk σ H'
  ct : ∀ X' env σ H', Rep C X' env σ H' → Same (vis H X) (vis H' X') → d.ct env → D.ct σ H'
  xc : ∀ X' env σ H' x cls dx, Rep C X' env σ H' → Same (vis H X) (vis H' X') → XRep C.K (vis H' X') cls dx x → d.xc env x → C.E σ cls dx H'
def DS (C : Bc) (t : TS) (s : DSt) : Prop := ∀ X env σ H D d, Rep C X env σ H → Lnk C X H D d → s d env → t D σ H
section
variable {C : Bc} {X X1 : Addr → Prop} {env : List Sl} {σ : L2.St} {H H1 : Hp} {D : Ends} {d : DEn}
theorem Lnk.step (l : Lnk C X H D d) (s : Same (vis H X) (vis H1 X1)) : Lnk C X1 H1 D d where
  nx := fun X' env σ H' r k h => l.nx X' env σ H' r (s.trans k) h
  rt := fun X' env σ H' v x r k a h => l.rt X' env σ H' v x r (s.trans k) a h
  bk := fun X' env σ H' r k h => l.bk X' env σ H' r (s.trans k) h
  ct := fun X' env σ H' r k h => l.ct X' env σ H' r (s.trans k) h
  xc := fun X' env σ H' x cls dx r k a h => l.xc X' env σ H' x cls dx r (s.trans k) a h
theorem Lnk.xok (l : Lnk C X H D d) (r : Rep C X env σ H) : XOk C X σ H (d.xc env) := fun x cls dx H' f a h => l.xc X env σ H' x cls dx (r.step f) (r.vs f) a h
end
def sNext : DSt := fun d env => d.nx env
def sSeq (a b : DSt) : DSt := fun d env => a { d with nx := b d } env
def sDrop (e : DX) : DSt := fun d env => e env (fun _ => d.nx env) (d.xc env)
def sRet (e : DX) : DSt := fun d env => e env d.rt (d.xc env)
def sRetN : DSt := fun d _ => d.rt .non
def sIf (c : DTX) (a b : DSt) : DSt := fun d env => c env (fun k => if k = true then a d env else b d env) (d.xc env)
def sBreak : DSt := fun d env => d.bk env
def sCont : DSt := fun d env => d.ct env
def sAsg (e : DX) (f : DGX) : DSt := fun d env => e env (fun x => f x env d.nx) (d.xc env)
/-- name = a new list, a list of one's own from now on -/
def sOwn (j : Nat) (e : DX) : DSt := fun d env => e env (fun x => match x with
  | .lst xs => d.nx (env.set j (.own (.lst xs)))
  | _ => False) (d.xc env)
def sPar (i j : Nat) (a : DAX) : DSt := fun d env => a env (fun ds => match ds with
  | [x, y] => d.nx ((env.set i (.d x)).set j (.d y))
  | _ => False) (d.xc env)
def sPar3 (i j l : Nat) (a : DAX) : DSt := fun d env => a env (fun ds => match ds with
  | [x, y, z] => d.nx (((env.set i (.d x)).set j (.d y)).set l (.d z))
  | _ => False) (d.xc env)
def frz (env : List Sl) (i : Nat) : List Sl := match env[i]? with
  | some (.own w) => env.set i (.d w.fz)
  | _ => env
def sFrz (i : Nat) (s : DSt) : DSt := fun d env => s d (frz env i)
section
variable {C : Bc} {t u : TS} {a b : DSt} {te : TE} {e : DX} {c : TT} {ec : DTX} {ta : TA} {ea : DAX} {g : TG} {f : DGX} {js : List Nat}
theorem dst_next : DS C tNext sNext := fun X env σ H D d r l h => l.nx X env σ H r (Same.refl _) h
theorem dst_seq (ha : DS C t a) (hb : DS C u b) : DS C (tSeq t u) (sSeq a b) := by
  intro X env σ H D d r l h
  refine ha X env σ H { D with nx := u D } { d with nx := b d } r ⟨fun X' env' σ' H' r' k h' => ?_, l.rt, l.bk, l.ct, l.xc⟩ h
  exact hb X' env' σ' H' D d r' (l.step k) h'
theorem dst_drop (he : DE C te e) : DS C (tDrop te) (sDrop e) := fun X env σ H D d r l h =>
  he X env σ H _ _ _ r h (fun x v H1 f1 _ h1 => l.nx X env σ H1 (r.step f1) (r.vs f1) h1) (l.xok r)
theorem dst_ret (he : DE C te e) : DS C (tRet te) (sRet e) := fun X env σ H D d r l h =>
  he X env σ H _ _ _ r h (fun x v H1 f1 r1 h1 => l.rt X env σ H1 v x (r.step f1) (r.vs f1) r1 h1) (l.xok r)
theorem dst_if (hc : DT C c ec) (ha : DS C t a) (hb : DS C u b) : DS C (tIfS c t u) (sIf ec a b) := by
  intro X env σ H D d r l h
  refine hc X env σ H _ _ _ r h (fun k H1 f1 h1 => ?_) (l.xok r)
  cases k with
  | true => rw [if_pos rfl] at h1 ⊢; exact ha X env σ H1 D d (r.step f1) (l.step (r.vs f1)) h1
  | false => rw [if_neg (by decide)] at h1 ⊢; exact hb X env σ H1 D d (r.step f1) (l.step (r.vs f1)) h1
theorem dst_asg (he : DE C te e) (hg : DG C g js f) : DS C (tAsg te g) (sAsg e f) := by
  intro X env σ H D d r l h
  refine he X env σ H _ _ _ r h (fun x v H1 f1 r1 h1 => ?_) (l.xok r)
  exact hg X env σ H1 v x _ _ (r.step f1) r1 h1 fun env' σ' r' h' _ _ _ => l.nx X env' σ' H1 r' (r.vs f1) h'
theorem dst_par {i j : Nat} (ha : DA C ta ea) : DS C (tPar i j ta) (sPar i j ea) := by
  intro X env σ H D d r l h
  refine ha X env σ H _ _ _ r h (fun ds vs H1 f1 r1 h1 => ?_) (l.xok r)
  split at h1
  · have r1 : DenAll C.K (vis H1 X) vs _ := r1
    cases r1 with
    | cons a1 r1 =>
      cases r1 with
      | cons a2 r1 =>
        cases r1
        exact ⟨_, _, rfl, l.nx X _ _ H1 (((r.step f1).set i a1).set j a2) (r.vs f1) h1⟩
  · exact h1.elim
theorem dst_par3 {i j k : Nat} (ha : DA C ta ea) : DS C (tPar3 i j k ta) (sPar3 i j k ea) := by
  intro X env σ H D d r l h
  refine ha X env σ H _ _ _ r h (fun ds vs H1 f1 r1 h1 => ?_) (l.xok r)
  split at h1
  · have r1 : DenAll C.K (vis H1 X) vs _ := r1
    cases r1 with
    | cons a1 r1 =>
      cases r1 with
      | cons a2 r1 =>
        cases r1 with
        | cons a3 r1 =>
          cases r1
          exact ⟨_, _, _, rfl, l.nx X _ _ H1 ((((r.step f1).set i a1).set j a2).set k a3) (r.vs f1) h1⟩
  · exact h1.elim
end
/-! ### lists of one's own -/
section
variable {C : Bc} {X : Addr → Prop} {env : List Sl} {σ : L2.St} {H : Hp}
/-- slot j holds the new list p -/
theorem Rep.setOwn {H1 : Hp} {p : Addr} {vs : HO} {xs : Ow} (r : Rep C X env σ H) (f : Frm C.hd H H1) (n : H p = none) (j : Nat) (h1 : H1 p = some vs) (h2 : DenO C.K (vis H1 fun a => X a ∨ a = p) vs xs) :
    Rep C (fun a => X a ∨ a = p) (env.set j (.own xs)) (σ.set j (some (.ref p))) H1 := by
  have r0 := r.hide n f ⟨_, h1⟩
  refine ⟨by rw [List.length_set, List.length_set, r.len], r0.sup, r0.new, r0.al, r0.frm, r0.hands, fun i s e => ?_, r.ap.setF fun i t u a ne e1 e2 f1 f2 => ?_, r0.one.set fun _ _ _ z => by cases z⟩
  · rw [List.getElem?_set] at e ⊢
    by_cases c : j = i
    · subst c
      rw [if_pos rfl] at e ⊢
      by_cases hl : j < env.length
      · rw [if_pos hl] at e
        rw [if_pos (r.len ▸ hl)]
        cases e
        refine ⟨_, rfl, p, vs, rfl, .inr rfl, fun z => ?_, h1, h2⟩
        obtain ⟨o, e⟩ := r.al p (r.sup p z)
        rw [n] at e; cases e
      · rw [if_neg hl] at e; cases e
    · rw [if_neg c] at e ⊢
      exact r0.slot i s e
  · have : a = p := by injection f1 with f1; injection f1 with f1; exact f1.symm
    subst this
    exact r.nofoot n i t u e1 e2 f2
/-- the list in slot i is changed -/
theorem Rep.own {i : Nat} {p : Addr} {vs' : HO} {xs xs' : Ow} (r : Rep C X env σ H) (e : env[i]? = some (.own xs)) (es : σ[i]? = some (some (.ref p))) (x1 : X p) (x2 : ¬ C.X0 p) (h2 : DenO C.K (vis H X) vs' xs') :
    Rep C X (env.set i (.own xs')) σ (upd H p vs') ∧ Same (vis H X) (vis (upd H p vs') X) := by
  have sm : Same (vis H X) (vis (upd H p vs') X) := fun a o q => by
    obtain ⟨n1, e1⟩ := vis_of q
    exact vis_mk n1 (by rw [upd_ne (fun (z : a = p) => n1 (by rw [z]; exact x1))]; exact e1)
  have h0 : C.H0 p = none := (r.new p x1).resolve_left x2
  have fm : Frm C.hd C.H0 (upd H p vs') := by
    refine ⟨fun a u q k => ?_, fun h c q x => ?_⟩
    · rw [upd_ne (ne_of_none q h0)]; exact r.frm.1 a u q k
    · have y := r.frm.2 h c q x
      obtain ⟨_, _, _, _, a1, a2, _⟩ := x
      obtain ⟨cells, at_, big, mix, b1, b2, b3⟩ := y
      exact ⟨cells, at_, big, mix, by rw [upd_ne (ne_of_none a1 h0)]; exact b1, by rw [upd_ne (ne_of_none a2 h0)]; exact b2, b3⟩
  refine ⟨⟨by rw [List.length_set, r.len], r.sup, r.new, fun a z => ?_, fm, fun h c q => ⟨(r.hands h c q).1, (r.hands h c q).2.1, fm.2 h c q (r.hands h c q).2.1⟩, fun j s q => ?_, r.ap.setS fun o a e1 f => ⟨_, e, f⟩, r.one.set fun _ _ _ z => by cases z⟩, sm⟩
  · by_cases c : a = p
    · subst c; exact ⟨_, upd_same⟩
    · obtain ⟨o, q⟩ := r.al a z
      exact ⟨o, by rw [upd_ne c]; exact q⟩
  · rw [List.getElem?_set] at q
    by_cases c : i = j
    · subst c
      have hl : i < env.length := (List.getElem?_eq_some_iff.mp e).1
      rw [if_pos rfl, if_pos hl] at q
      cases q
      exact ⟨_, es, p, vs', rfl, x1, x2, upd_same, h2.mono sm⟩
    · rw [if_neg c] at q
      obtain ⟨o, e1, w⟩ := r.slot j s q
      refine ⟨o, e1, ?_⟩
      cases s with
      | no => trivial
      | d x => obtain ⟨v, e2, h⟩ := w; exact ⟨v, e2, h.mono sm⟩
      | own ys =>
        obtain ⟨p', us, rfl, y1, y2, y3, y4⟩ := w
        have ne : p' ≠ p := fun z => r.inj i j xs ys c e q (by rw [es, e1, z])
        exact ⟨p', us, rfl, y1, y2, by rw [upd_ne ne]; exact y3, y4.mono sm⟩
      | hand => exact w
      | exc c' fs => exact w.exc sm
      | ins C0 ns ds =>
        obtain ⟨p', dx, us, rfl, y1, y2, y3, yl, y4⟩ := w
        have ne : p' ≠ p := fun z => by
          obtain ⟨o2, es2, p2, us2, rfl, _, _, k2, k3⟩ := r.slot i _ e
          rw [es] at es2; cases es2
          rw [z, k2] at y3; cases y3; exact k3.noins
        exact ⟨p', dx, us, rfl, y1, y2, by rw [upd_ne ne]; exact y3, yl, y4.mono sm⟩
      | tab p2 qs rows => exact w.tab_to (fun _ _ x => x) (fun a ha u h => by rw [upd_ne (show a ≠ p from fun z => r.ap i j _ _ _ _ p c e q es e1 rfl (show p ∈ p2 :: qs from z ▸ ha))]; exact h) sm
/-- the list in slot i is no longer one's own -/
theorem Rep.frz (r : Rep C X env σ H) (i : Nat) : ∃ X', Rep C X' (frz env i) σ H ∧ Same (vis H X) (vis H X') := by
  unfold Mine.frz
  split
  · rename_i xs e
    obtain ⟨o, es, p, vs, rfl, x1, x2, h1, h2⟩ := r.slot i _ e
    have hl : i < env.length := (List.getElem?_eq_some_iff.mp e).1
    have sm : Same (vis H X) (vis H fun a => X a ∧ a ≠ p) := vis_anti fun a z => z.1
    refine ⟨fun a => X a ∧ a ≠ p, ⟨by rw [List.length_set, r.len], fun a z => ⟨r.sup a z, fun q => x2 (q ▸ z)⟩, fun a z => r.new a z.1, fun a z => r.al a z.1, r.frm, r.hands, fun j s q => ?_, r.ap.setS fun _ _ _ f => f.elim, r.one.set fun _ _ _ z => by cases z⟩, sm⟩
    · rw [List.getElem?_set] at q
      by_cases c : i = j
      · subst c
        rw [if_pos rfl, if_pos hl] at q
        cases q
        exact ⟨_, es, _, rfl, (h2.mono sm).fz (vis_mk (fun z => z.2 rfl) h1)⟩
      · rw [if_neg c] at q
        obtain ⟨o, e1, w⟩ := r.slot j s q
        refine ⟨o, e1, ?_⟩
        cases s with
        | no => trivial
        | d x => obtain ⟨v, e2, h⟩ := w; exact ⟨v, e2, h.mono sm⟩
        | own ys =>
          obtain ⟨p', us, rfl, y1, y2, y3, y4⟩ := w
          have ne : p' ≠ p := fun z => r.inj i j xs ys c e q (by rw [es, e1, z])
          exact ⟨p', us, rfl, ⟨y1, ne⟩, y2, y3, y4.mono sm⟩
        | hand => exact w
        | exc c' fs => exact w.exc sm
        | ins C0 ns ds =>
          obtain ⟨p', dx, us, rfl, y1, y2, y3, yl, y4⟩ := w
          have ne : p' ≠ p := fun z => by rw [z, h1] at y3; cases y3; exact h2.noins
          exact ⟨p', dx, us, rfl, ⟨y1, ne⟩, y2, y3, yl, y4.mono sm⟩
        | tab p2 qs rows => exact w.tab_to (fun a ha x => ⟨x, fun z => r.ap i j _ _ _ _ p c e q es e1 rfl (show p ∈ p2 :: qs from z ▸ ha)⟩) (fun _ _ _ h => h) sm
  · exact ⟨X, r, Same.refl _⟩
theorem Rep.ownAt (r : Rep C X env σ H) {i : Nat} {xs : List Dt} (e : env[i]? = some (.own (.lst xs))) : ∃ p vs, σ[i]? = some (some (.ref p)) ∧ X p ∧ ¬ C.X0 p ∧ H p = some (.lst vs) ∧ DenAll C.K (vis H X) vs xs := by
  obtain ⟨o, es, p, u, rfl, x1, x2, h1, h2⟩ := r.slot i _ e
  cases h2 with
  | @lst vs _ a => exact ⟨p, vs, es, x1, x2, h1, a⟩
end
/-- x.append(e) -/
def sApp (i : Nat) (e : DX) : DSt := fun d env => match env[i]? with
  | some (.own (.lst xs)) => e env (fun y => xs.length < LINE ∧ d.nx (env.set i (.own (.lst (xs ++ [y]))))) (d.xc env)
  | _ => False
/-- x.extend(e), e a list -/
def sExt (i : Nat) (e : DX) : DSt := fun d env => match env[i]? with
  | some (.own (.lst xs)) => e env (fun y => match y with
    | .lst ys => xs.length + ys.length ≤ LINE ∧ d.nx (env.set i (.own (.lst (xs ++ ys))))
    | _ => False) (d.xc env)
  | _ => False
/-- x.pop() -/
def sPop (i : Nat) : DSt := fun d env => match env[i]? with
  | some (.own (.lst xs)) => xs ≠ [] ∧ d.nx (env.set i (.own (.lst xs.dropLast)))
  | _ => False
/-- y = x.pop() -/
def sPopTo (i j : Nat) : DSt := fun d env => match env[i]? with
  | some (.own (.lst xs)) => ∃ y, xs[xs.length - 1]? = some y ∧ d.nx ((env.set i (.own (.lst xs.dropLast))).set j (.d y))
  | _ => False
/-- x[k] = e -/
def sPut (i : Nat) (ek e : DX) : DSt := fun d env => match env[i]? with
  | some (.own (.lst xs)) => e env (fun y => ek env (fun k => match k with
    | .int k => ∃ j, ixN xs.length k = some j ∧ d.nx (env.set i (.own (.lst (xs.set j y))))
    | _ => False) (d.xc env)) (d.xc env)
  | _ => False
/-- x[k] += e -/
def sAugP (f : Int → Int → Int) (i : Nat) (ek e : DX) : DSt := fun d env => match env[i]? with
  | some (.own (.lst xs)) => ek env (fun k => match k with
    | .int k => ∃ j z, ixN xs.length k = some j ∧ xs[j]? = some (.int z) ∧ e env (fun y => match y with
      | .int y => d.nx (env.set i (.own (.lst (xs.set j (.int (f z y))))))
      | _ => False) (d.xc env)
    | _ => False) (d.xc env)
  | _ => False
/-- x += e at a name that holds a whole number -/
def sAug (f : Int → Int → Int) (i : Nat) (e : DX) : DSt := fun d env => match env[i]? with
  | some (.d (.int x)) => e env (fun y => match y with
    | .int y => d.nx (env.set i (.d (.int (f x y))))
    | _ => False) (d.xc env)
  | _ => False
section
variable {C : Bc} {te tk : TE} {e ek : DX} {i : Nat}
theorem dst_own {j : Nat} (he : DF C te e) : DS C (tAsg te (gName j)) (sOwn j e) := by
  intro X env σ H D d r l h
  refine he X env σ H _ _ _ r h (fun x v H1 f1 r1 h1 => ?_) (l.xok r)
  obtain ⟨p, vs, ds, rfl, rfl, n, h2, h3⟩ := r1
  refine l.nx _ _ _ H1 (r.setOwn f1 n j h2 (.lst h3)) (fun a o q => ?_) h1
  obtain ⟨n1, e1⟩ := vis_of q
  exact vis_mk (fun z => z.elim n1 (ne_of_none e1 n)) (vis_of (r.vs f1 _ _ q)).2
theorem dst_frz {t : TS} {s : DSt} (i : Nat) (h : DS C t s) : DS C t (sFrz i s) := by
  intro X env σ H D d r l q
  obtain ⟨X', r', sm⟩ := r.frz i
  exact h X' _ σ H D d r' (l.step sm) q
theorem tyv_lst {K : PySem.W.Frag} {H : Hp} {p : Addr} {xs : List V} (h : H p = some (.lst xs)) : tyV K "list" (.ref p) H := .inl ⟨rfl, xs, .inl (.inl h)⟩
theorem dst_app (he : DE C te e) : DS C (tDrop (tBM C.K "list" rAppend (tVar i) (tCons te tNil))) (sApp i e) := by
  intro X env σ H D d r l h
  unfold sApp at h
  split at h
  · rename_i xs e1
    obtain ⟨p, vs, es, x1, x2, h1, h2⟩ := r.ownAt e1
    refine ⟨.ref p, es, tyv_lst h1, ?_⟩
    refine he X env σ H _ _ _ r h (fun y v H1 f1 r1 hy => ?_) (l.xok r)
    have k2 := h2.mono (r.vs f1)
    refine ⟨p, vs, v, rfl, rfl, f1.1 p _ h1 (r.nh x2), by rw [h2.length, sizeLine_eq]; exact hy.1, ?_⟩
    obtain ⟨r3, sm⟩ := (r.step f1).own e1 es x1 x2 (.lst (k2.snoc r1))
    exact l.nx _ _ _ _ r3 ((r.vs f1).trans sm) hy.2
  · exact h.elim
theorem dst_put (he : DE C te e) (hk : DE C tk ek) : DS C (tAsg te (gSub (tVar i) tk rSetL)) (sPut i ek e) := by
  intro X env σ H D d r l h
  unfold sPut at h
  split at h
  · rename_i xs e1
    refine he X env σ H _ _ _ r h (fun y v H1 f1 r1 hy => ?_) (l.xok r)
    have rp1 := r.step f1
    obtain ⟨p, vs, es, x1, x2, h1, h2⟩ := rp1.ownAt e1
    refine ⟨.ref p, es, ?_⟩
    refine hk X env σ H1 _ _ _ rp1 hy (fun k u H2 f2 r2 hk2 => ?_) ((l.xok r).step f1)
    split at hk2
    · obtain ⟨j, hj, hk2⟩ := hk2
      have k2 := h2.mono (rp1.vs f2)
      refine ⟨p, vs, _, j, rfl, r2.flat rfl, f2.1 p _ h1 (rp1.nh x2), by rw [h2.length]; exact hj, ?_⟩
      obtain ⟨r3, sm⟩ := (rp1.step f2).own e1 es x1 x2 (.lst (k2.set j (Den.mono (rp1.vs f2) r1)))
      exact l.nx _ _ _ _ r3 ((r.vs f1).trans ((rp1.vs f2).trans sm)) hk2
    · exact hk2.elim
  · exact h.elim
theorem dst_aug {f : Int → Int → Int} (he : DE C te e) : DS C (tAug i te (ipI f)) (sAug f i e) := by
  intro X env σ H D d r l h
  unfold sAug at h
  split at h
  · rename_i x e1
    obtain ⟨v, es, dv⟩ := r.at e1
    have ev : v = .int x := dv.flat rfl
    subst ev
    refine ⟨_, es, ?_⟩
    refine he X env σ H _ _ _ r h (fun y v H1 f1 r1 hy => ?_) (l.xok r)
    split at hy
    · exact ⟨x, _, rfl, r1.flat rfl, l.nx _ _ _ _ ((r.step f1).set i (.int _)) (r.vs f1) hy⟩
    · exact hy.elim
  · exact h.elim
end
/-! ### loops -/
def dFor (f : DGX) (b : DSt) (d : DEn) : List Dt → List Sl → Prop
  | [], env => d.nx env
  | x :: xs, env => f x env fun env' => b { d with nx := dFor f b d xs, ct := dFor f b d xs, bk := d.nx } env'
def sFor (src : DAX) (f : DGX) (b : DSt) : DSt := fun d env => src env (fun ds => dFor f b d ds env) (d.xc env)
/-- what a while is asked: an invariant that falls -/
def sWhile (c : DTX) (b : DSt) : DSt := fun d env => ∃ (I : Nat → List Sl → Prop) (m0 : Nat), I m0 env ∧ ∀ m env, I m env → c env (fun k => if k = true then b { d with nx := fun e => ∃ m', m' < m ∧ I m' e, ct := fun e => ∃ m', m' < m ∧ I m' e, bk := d.nx } env else d.nx env) (d.xc env)
section
variable {C : Bc} {wi : TI} {g : TG} {tb : TS} {src : DAX} {f : DGX} {b : DSt} {js : List Nat} {tc : TT} {ec : DTX}
theorem dst_for (hi : DIg Strong C wi src) (hg : DG C g js f) (hb : DS C tb b) : DS C (tFor wi g tb) (sFor src f b) := by
  intro X env σ H D d r l h
  refine hi X env σ H _ _ _ r h (fun ds J H1 f1 w h1 => ?_) (l.xok r)
  have rp1 := r.step f1
  have l1 := l.step (r.vs f1)
  let W : Nat → Nat → L2.St → Hp → Prop := fun i m σ2 H2 => m + i = ds.length ∧ ∃ X2 env2, Rep C X2 env2 σ2 H2 ∧ Same (vis H1 X) (vis H2 X2) ∧ dFor f b d (ds.drop i) env2
  refine ⟨W, ⟨ds.length, rfl, X, env, rp1, Same.refl _, h1⟩, fun i m σ2 H2 ⟨hm, X2, env2, r2, s2, go⟩ => ?_⟩
  have hw := w X2 i H2 ⟨s2, r2.al⟩
  by_cases c : i < ds.length
  · obtain ⟨g1, g2⟩ := hw.1 c
    refine .inr ⟨g1, W (i + 1) (m - 1), fun σ' H' hW => ⟨m - 1, by omega, hW⟩, fun y H3 hy => ?_⟩
    obtain ⟨s3, x, hx, den⟩ := g2 y H3 hy
    have ed : ds.drop i = x :: ds.drop (i + 1) := by
      rw [List.drop_eq_getElem_cons c]
      congr 1
      rw [List.getElem?_eq_getElem c] at hx
      exact Option.some.inj hx
    rw [ed] at go
    have r3 := r2.step (.same s3)
    have s13 : Same (vis H1 X) (vis H3 X2) := s2.trans (r2.vs (.same s3))
    refine hg X2 env2 σ2 H3 y x _ _ r3 den go fun env' σ' r' h' _ _ _ => ?_
    refine hb X2 env' σ' H3 _ { d with nx := dFor f b d (ds.drop (i + 1)), ct := dFor f b d (ds.drop (i + 1)), bk := d.nx } r' ⟨fun X4 env4 σ4 H4 r4 s4 h4 => ⟨by omega, X4, env4, r4, s13.trans s4, h4⟩, fun X4 env4 σ4 H4 v z r4 s4 a h4 => l1.rt X4 env4 σ4 H4 v z r4 (s13.trans s4) a h4,
      fun X4 env4 σ4 H4 r4 s4 h4 => l1.nx X4 env4 σ4 H4 r4 (s13.trans s4) h4, fun X4 env4 σ4 H4 r4 s4 h4 => ⟨by omega, X4, env4, r4, s13.trans s4, h4⟩, fun X4 env4 σ4 H4 z cls dx r4 s4 a h4 => l1.xc X4 env4 σ4 H4 z cls dx r4 (s13.trans s4) a h4⟩ h'
  · have e : ds.drop i = [] := List.drop_eq_nil_of_le (by omega)
    rw [e] at go
    exact .inl ⟨hw.2 (by omega), l1.nx X2 env2 σ2 H2 r2 s2 go⟩
theorem dst_while (hc : DT C tc ec) (hb : DS C tb b) : DS C (tWhile tc tb) (sWhile ec b) := by
  intro X env σ H D d r l ⟨I, m0, i0, turn⟩
  let W : Nat → L2.St → Hp → Prop := fun m σ2 H2 => ∃ X2 env2, Rep C X2 env2 σ2 H2 ∧ Same (vis H X) (vis H2 X2) ∧ I m env2
  refine ⟨W, ⟨m0, X, env, r, Same.refl _, i0⟩, fun m σ2 H2 ⟨X2, env2, r2, s2, i2⟩ => ?_⟩
  have l2 := l.step s2
  refine hc X2 env2 σ2 H2 _ _ _ r2 (turn m env2 i2) (fun k H3 f3 h3 => ?_) (l2.xok r2)
  have r3 := r2.step f3
  have s13 : Same (vis H X) (vis H3 X2) := s2.trans (r2.vs f3)
  cases k with
  | false => rw [if_neg (by decide)] at h3 ⊢; exact l.nx X2 env2 σ2 H3 r3 s13 h3
  | true =>
    rw [if_pos rfl] at h3 ⊢
    refine ⟨fun σ' H' => ∃ m', m' < m ∧ W m' σ' H', fun σ' H' h => h, ?_⟩
    exact hb X2 env2 σ2 H3 _ { d with nx := fun e => ∃ m', m' < m ∧ I m' e, ct := fun e => ∃ m', m' < m ∧ I m' e, bk := d.nx } r3 ⟨fun X4 env4 σ4 H4 r4 s4 ⟨m', a, h4⟩ => ⟨m', a, X4, env4, r4, s13.trans s4, h4⟩, fun X4 env4 σ4 H4 v z r4 s4 a h4 => l.rt X4 env4 σ4 H4 v z r4 (s13.trans s4) a h4,
      fun X4 env4 σ4 H4 r4 s4 h4 => l.nx X4 env4 σ4 H4 r4 (s13.trans s4) h4, fun X4 env4 σ4 H4 r4 s4 ⟨m', a, h4⟩ => ⟨m', a, X4, env4, r4, s13.trans s4, h4⟩, fun X4 env4 σ4 H4 z cls dx r4 s4 a h4 => l.xc X4 env4 σ4 H4 z cls dx r4 (s13.trans s4) a h4⟩ h3
end
end Mine

namespace Mine
open PySem PySem.Spec PyProof.Rows L2
/-! ### raise -/
def sRaise (c : Str) : DSt := fun d env => d.xc env ⟨c, []⟩
def sRaise1 (c f : Str) (e : DX) : DSt := fun d env => e env (fun x => match x.flat with
  | some u => d.xc env ⟨c, [(f, u)]⟩
  | none => False) (d.xc env)
section
variable {C : Bc} {W : WX} {te : TE} {e : DX} {c f : Str}
theorem dst_raise (hW : C.E = WE W) : DS C (fun _ σ H => W (.ref (He.ga C.K c)) none σ H) (sRaise c) := by
  intro X env σ H D d r l h
  have := l.xc X env σ H ⟨c, []⟩ (.ref (He.ga C.K c)) none r (Same.refl _) ⟨rfl, rfl⟩ h
  rw [hW] at this
  exact this
theorem dst_raise1 (hW : C.E = WE W) (he : DE C te e) : DS C (fun _ σ H => tMk1 (He.ga C.K c) f te σ H fun cls d H' => W cls d σ H') (sRaise1 c f e) := by
  intro X env σ H D d r l h
  refine he X env σ H _ _ _ r h (fun x v H1 f1 r1 h1 => ?_) (l.xok r)
  split at h1
  · rename_i u eu
    have ev : v = u := Den.flat r1 eu
    subst ev
    intro dd H' s n hd
    have r2 := r.step f1
    have r3 : Rep C X env σ H' := r2.step (.same s)
    have := l.xc X env σ H' ⟨c, [(f, v)]⟩ (.ref (He.ga C.K c)) (some dd) r3 ((r.vs f1).trans (r2.vs (.same s))) ⟨rfl, dd, rfl, vis_mk (r2.free n) hd⟩ h1
    rw [hW] at this
    exact this
  · exact h1.elim
end
/-! ### try -/
def clr : Sl → Sl
  | .exc _ _ => .no
  | s => s
def bindS (env : List Sl) (o : Option Nat) (x : Xc) : List Sl := match o with
  | none => env.map clr
  | some i => (env.map clr).set i (.exc x.cls x.fs)
def endS (d : DEn) : Option Nat → DEn
  | none => { d with xc := fun _ _ => False }
  | some i => { nx := fun e => d.nx (e.set i .no), rt := d.rt, bk := fun e => d.bk (e.set i .no), ct := fun e => d.ct (e.set i .no), xc := fun _ _ => False }
/-- the clauses; mt: what is an instance of what -/
def dHs (mt : Str → Str → Option Bool) : List (Str × Option Nat × DSt) → DEn → List Sl → Xc → Prop
  | [], d, env, x => d.xc env x
  | (c, o, s) :: r, d, env, x => ∃ b, mt x.cls c = some b ∧ (if b = true then s (endS d o) (bindS env o x) else dHs mt r d env x)
def sTry (mt : Str → Str → Option Bool) (b : DSt) (hs : List (Str × Option Nat × DSt)) : DSt := fun d env => b { d with xc := fun e x => dHs mt hs d e x } env
abbrev Bc.wE (C : Bc) (E : L2.St → XK) : Bc := { C with E := E }
abbrev Bc.wX (C : Bc) (a : Addr) (cls : Value) (d : Option Addr) : Bc := { C with ex := some (a, cls, d) }
inductive HsOk (C : Bc) : List (Value × Option Nat × Suit) → List (Str × Option Nat × DSt) → Prop
  | nil : HsOk C [] []
  | cons {c : Str} {o : Option Nat} {ts : Suit} {s : DSt} {l : List (Value × Option Nat × Suit)} {hs : List (Str × Option Nat × DSt)} (h : ∀ a cls d, DS (C.wX a cls d) (ts a cls d) s) (r : HsOk C l hs) : HsOk C ((.ref (He.ga C.K c), o, ts) :: l) ((c, o, s) :: hs)
section
variable {C : Bc} {X : Addr → Prop} {env : List Sl} {σ : L2.St} {H : Hp}
theorem Rep.inE (r : Rep C X env σ H) (E : L2.St → XK) : Rep (C.wE E) X env σ H := ⟨r.len, r.sup, r.new, r.al, r.frm, r.hands, r.slot, r.ap, r.one⟩
theorem Rep.outE {E : L2.St → XK} (r : Rep (C.wE E) X env σ H) : Rep C X env σ H := ⟨r.len, r.sup, r.new, r.al, r.frm, r.hands, r.slot, r.ap, r.one⟩
theorem Rep.outX {a : Addr} {cls : Value} {d : Option Addr} (hex : C.ex = none) (r : Rep (C.wX a cls d) X env σ H) : Rep C X env σ H := by
  refine ⟨r.len, r.sup, r.new, r.al, r.frm, r.hands, fun i s e => ?_, r.ap, r.one⟩
  obtain ⟨o, e1, q⟩ := r.slot i s e
  refine ⟨o, e1, ?_⟩
  cases s with
  | exc c fs => unfold SlRep; rw [hex]; trivial
  | no => trivial
  | d x => exact q
  | own xs => exact q
  | hand => exact q
  | ins _ _ _ => exact q
  | tab _ _ _ => exact q
theorem Rep.inX (r : Rep C X env σ H) (a : Addr) (cls : Value) (d : Option Addr) : Rep (C.wX a cls d) X (env.map clr) σ H := by
  refine ⟨by rw [List.length_map]; exact r.len, r.sup, r.new, r.al, r.frm, r.hands, fun i s e => ?_, r.ap.map (fun s o a f => by cases s <;> first | exact f | exact f.elim), r.one.map fun s C ns ds z => by cases s <;> first | exact z | cases z⟩
  · rw [List.getElem?_map, Option.map_eq_some_iff] at e
    obtain ⟨s0, e, rfl⟩ := e
    obtain ⟨o, e1, q⟩ := r.slot i s0 e
    refine ⟨o, e1, ?_⟩
    cases s0 with
    | exc c fs => trivial
    | no => trivial
    | d x => exact q
    | own xs => exact q
    | hand => exact q
    | ins _ _ _ => exact q
    | tab _ _ _ => exact q
theorem Rep.excAt {a : Addr} {cls : Value} {d : Option Addr} (r : Rep (C.wX a cls d) X env σ H) (j : Nat) {c : Str} {fs : List (Str × V)} (h : SlRep (C.wX a cls d) X H (.exc c fs) (some (.ref a))) : Rep (C.wX a cls d) X (env.set j (.exc c fs)) (σ.set j (some (.ref a))) H where
  len := by rw [List.length_set, List.length_set, r.len]
  sup := r.sup
  new := r.new
  al := r.al
  frm := r.frm
  hands := r.hands
  slot := fun i s e => by
    rw [List.getElem?_set] at e ⊢
    by_cases c : j = i
    · subst c
      rw [if_pos rfl] at e ⊢
      by_cases hl : j < env.length
      · rw [if_pos hl] at e
        rw [if_pos (r.len ▸ hl)]
        cases e
        exact ⟨_, rfl, h⟩
      · rw [if_neg hl] at e; cases e
    · rw [if_neg c] at e ⊢
      exact r.slot i s e
  ap := r.ap.set fun _ f => f
  one := r.one.set fun _ _ _ z => by cases z
theorem hs_run {Wout : WX} {D : Ends} {d : DEn} {mt : Str → Str → Option Bool} (hW : C.E = WE Wout) (hex : C.ex = none) (hm : ∀ a b r, mt a b = some r → PySem.W.exmOne C.K (.ref (He.ga C.K a)) (.ref (He.ga C.K b)) = some r) :
    ∀ {l : List (Value × Option Nat × Suit)} {hs : List (Str × Option Nat × DSt)}, HsOk C l hs → ∀ {x : Xc} {cls : Value} {dx : Option Addr}, Rep C X env σ H → Lnk C X H D d → XRep C.K (vis H X) cls dx x → dHs mt hs d env x → wNamed C.K Wout D l cls dx σ H
  | _, _, .nil, x, cls, dx, r, k, xr, h => by
    have := k.xc X env σ H x cls dx r (Same.refl _) xr h
    rw [hW] at this
    exact this
  | _, _, @HsOk.cons _ c o ts s l hs hts rest, x, cls, dx, r, k, xr, ⟨b, hb, h⟩ => by
    obtain ⟨ec, ed⟩ := xr
    refine ⟨b, by rw [ec]; exact hm _ _ _ hb, fun eb a na => ?_, fun eb => ?_⟩
    · rw [if_pos eb] at h
      have rx := r.inX a cls dx
      cases o with
      | none =>
        refine hts a cls dx X _ σ H D (endS d none) rx ⟨fun X' env' σ' H' r' s' h' => k.nx X' env' σ' H' (r'.outX hex) s' h', fun X' env' σ' H' v z r' s' w h' => k.rt X' env' σ' H' v z (r'.outX hex) s' w h',
          fun X' env' σ' H' r' s' h' => k.bk X' env' σ' H' (r'.outX hex) s' h', fun X' env' σ' H' r' s' h' => k.ct X' env' σ' H' (r'.outX hex) s' h', fun _ _ _ _ _ _ _ _ _ _ h' => h'.elim⟩ h
      | some i =>
        have re : Rep (C.wX a cls dx) X (bindS env (some i) x) (σ.set i (some (.ref a))) H := by
          refine rx.excAt i ⟨rfl, ec, ?_⟩
          obtain ⟨xc, xf⟩ := x
          cases xf with
          | nil => exact .inl ⟨rfl, ed⟩
          | cons f fr => obtain ⟨a, e1, e2⟩ := ed; exact .inr ⟨a, e1, e2⟩
        refine hts a cls dx X _ (σ.set i (some (.ref a))) H _ (endS d (some i)) re ⟨fun X' env' σ' H' r' s' h' => k.nx X' _ _ H' ((r'.outX hex).unset i none) s' h', fun X' env' σ' H' v z r' s' w h' => k.rt X' env' σ' H' v z (r'.outX hex) s' w h',
          fun X' env' σ' H' r' s' h' => k.bk X' _ _ H' ((r'.outX hex).unset i none) s' h', fun X' env' σ' H' r' s' h' => k.ct X' _ _ H' ((r'.outX hex).unset i none) s' h', fun _ _ _ _ _ _ _ _ _ _ h' => h'.elim⟩ h
    · rw [if_neg (by rw [eb]; decide)] at h
      exact hs_run hW hex hm rest r k ⟨ec, ed⟩ h
theorem dst_try {Wout : WX} {tb : WX → TS} {l : List (Value × Option Nat × Suit)} {sb : DSt} {hs : List (Str × Option Nat × DSt)} {mt : Str → Str → Option Bool} (hW : C.E = WE Wout) (hex : C.ex = none)
    (hm : ∀ a b r, mt a b = some r → PySem.W.exmOne C.K (.ref (He.ga C.K a)) (.ref (He.ga C.K b)) = some r) (hb : ∀ W, DS (C.wE (WE W)) (tb W) sb) (hh : HsOk C l hs) : DS C (fun D σ H => tb (wNamed C.K Wout D l) D σ H) (sTry mt sb hs) := by
  intro X env σ H D d r k h
  refine hb _ X env σ H D { d with xc := fun e x => dHs mt hs d e x } (r.inE _) ⟨fun X' env' σ' H' r' s' h' => k.nx X' env' σ' H' r'.outE s' h', fun X' env' σ' H' v z r' s' w h' => k.rt X' env' σ' H' v z r'.outE s' w h',
    fun X' env' σ' H' r' s' h' => k.bk X' env' σ' H' r'.outE s' h', fun X' env' σ' H' r' s' h' => k.ct X' env' σ' H' r'.outE s' h', fun X' env' σ' H' x cls dx r' s' w h' => ?_⟩ h
  exact hs_run hW hex hm hh r'.outE (k.step s') w h'
/-! ### the exception in hand -/
def Dt.ofV : V → Dt
  | .non => .non
  | .bl b => .bl b
  | .int i => .int i
  | .str x => .str x
  | v => .raw v
theorem den_ofV {K : PySem.W.Frag} {H : Hp} : ∀ v : V, Den K H v (Dt.ofV v)
  | .non => .non
  | .bl b => .bl b
  | .int i => .int i
  | .str x => .str x
  | .byt b => .raw _
  | .flt b => .raw _
  | .ref b => .raw _
  | .ty b => .raw _
/-- e.f, e of the class c -/
def eXf (i : Nat) (c f : Str) : DX := fun env Q _ => match env[i]? with
  | some (.exc c' fs) => c' = c ∧ ∃ u, fs.lookup f = some u ∧ Q (Dt.ofV u)
  | _ => False
theorem de_xf {i : Nat} {c f : Str} {a : Addr} {cls : Value} {d : Option Addr} : DE (C.wX a cls d) (tXf a cls d (He.ga C.K c) f (tVar i)) (eXf i c f) := by
  intro X env σ H Q Qd Qx r he q x
  unfold eXf at he
  split at he
  · rename_i c' fs e
    obtain ⟨rfl, u, hu, he⟩ := he
    obtain ⟨o, e1, rfl, e2, e3⟩ := r.slot i _ e
    rcases e3 with ⟨rfl, _⟩ | ⟨dd, e4, e5⟩
    · cases hu
    · exact ⟨_, e1, rfl, e2, dd, fs, u, e4, vis_sub _ _ e5, hu, q _ _ H (.refl H) (den_ofV u) he⟩
  · exact he.elim
/-- isinstance(e, C) -/
def eIsX (i : Nat) (tab : Str → Option Bool) : DX := fun env Q _ => match env[i]? with
  | some (.exc c fs) => ∃ b, tab c = some b ∧ Q (.bl b)
  | _ => False
end
/-! ### a def by its data -/
/-- np parameters, N names in all -/
def mkD (np N : Nat) (s : DSt) : DFn := fun args Q E => args.length = np ∧ s ⟨fun _ => Q .non, Q, fun _ => False, fun _ => False, fun _ x => E x⟩ (args ++ List.replicate (N - np) .no)
def mkD0 (np N : Nat) (s : DSt) : DFn := fun args Q E => args.length = np ∧ s ⟨fun _ => Q .non, Q, fun _ => False, fun _ => False, fun _ _ => False⟩ (args ++ List.replicate (N - np) .no)
theorem spD_len {K : PySem.W.Frag} {F : DFn} {np : Nat} (hF : ∀ args Q E, F args Q E → args.length = np) : ∀ vs H Q E, spD K F vs H Q E → vs.length = np := by
  rintro vs H Q E ⟨X, hd, args, Qd, Qx, _, _, sl, h, _⟩
  rw [sl.length]; exact hF _ _ _ h
/-- where a body begins -/
theorem rep_start {K : PySem.W.Frag} {X : Addr → Prop} {hd : Hnd} {H : Hp} {E : L2.St → XK} {vs : List V} {args : List Sl} {N : List Str} (al : ∀ a, X a → ∃ o, H a = some o) (hh : ∀ h c, hd = some (h, c) → X h ∧ HandC H h c) (sl : SlAll K hd X H vs args) :
    Rep ⟨K, H, X, hd, none, E, none⟩ X (args ++ List.replicate (N.length - args.length) .no) (L2.start N vs) H := by
  have hl := sl.length
  have slots : ∀ {vs : List V} {args : List Sl}, SlAll K hd X H vs args → ∀ (i : Nat) (s : Sl), args[i]? = some s → (∃ o, (vs.map some)[i]? = some o ∧ SlRep ⟨K, H, X, hd, none, E, none⟩ X H s o) ∧ ∀ o a, ¬ Foot s o a := by
    intro vs args sl
    induction sl with
    | nil => intro i s e; simp at e
    | d a r ih =>
      intro i s e
      cases i with
      | zero => simp at e; subst e; exact ⟨⟨_, rfl, _, rfl, a⟩, fun _ _ f => f⟩
      | succ i =>
        obtain ⟨⟨o, q⟩, n⟩ := ih i s (by simpa using e)
        exact ⟨⟨o, by simpa using q⟩, n⟩
    | hand a r ih =>
      intro i s e
      cases i with
      | zero => simp at e; subst e; exact ⟨⟨_, rfl, _, _, rfl, a⟩, fun _ _ f => f⟩
      | succ i =>
        obtain ⟨⟨o, q⟩, n⟩ := ih i s (by simpa using e)
        exact ⟨⟨o, by simpa using q⟩, n⟩
  have slotsI : ∀ {vs : List V} {args : List Sl}, SlAll K hd X H vs args → ∀ (i : Nat) (C0 : Str) (ns : List Str) (ds : List Dt), args[i]? ≠ some (.ins C0 ns ds) := by
    intro vs args sl
    induction sl with
    | nil => intro i C0 ns ds e; simp at e
    | d a r ih =>
      intro i C0 ns ds e
      cases i with
      | zero => simp at e
      | succ i => exact ih i C0 ns ds (by simpa using e)
    | hand a r ih =>
      intro i C0 ns ds e
      cases i with
      | zero => simp at e
      | succ i => exact ih i C0 ns ds (by simpa using e)
  have noins : ∀ (i : Nat) (C0 : Str) (ns : List Str) (ds : List Dt), (args ++ List.replicate (N.length - args.length) Sl.no)[i]? ≠ some (.ins C0 ns ds) := fun i C0 ns ds e => by
    rw [List.getElem?_append] at e
    split at e
    · exact slotsI sl i C0 ns ds e
    · rw [List.getElem?_replicate] at e
      split at e <;> cases e
  have noown : ∀ (i : Nat) (s : Sl), (args ++ List.replicate (N.length - args.length) Sl.no)[i]? = some s → ∀ o a, ¬ Foot s o a := fun i s e => by
    rw [List.getElem?_append] at e
    split at e
    · exact (slots sl i _ e).2
    · rw [List.getElem?_replicate] at e
      split at e
      · cases e; exact fun _ _ f => f
      · cases e
  refine ⟨?_, fun a z => z, fun a z => .inl z, al, .refl H, fun h c e => ⟨(hh h c e).1, (hh h c e).2, (hh h c e).2⟩, fun i s e => ?_, .none noown, fun i ⟨C0, ns, ds, e⟩ => absurd e (noins i C0 ns ds)⟩
  · unfold L2.start
    rw [List.length_append, List.length_append, List.length_replicate, List.length_replicate, List.length_map, hl]
  · unfold L2.start
    rw [List.getElem?_append] at e ⊢
    rw [List.length_map, hl]
    split at e
    · rename_i c
      rw [if_pos c]
      obtain ⟨⟨o, q⟩, _⟩ := slots sl i s e
      exact ⟨o, q⟩
    · rename_i c
      rw [if_neg c]
      rw [List.getElem?_replicate] at e ⊢
      split at e
      · rename_i c2
        cases e
        rw [if_pos c2]
        exact ⟨_, rfl, trivial⟩
      · cases e
/-- the reading of a whole body -/
theorem body_of {K : PySem.W.Frag} {N : List Str} {np n : Nat} {sb : DSt} {t : TS} {vs : List V} {H : Hp} {Q : VK} {E : XK} (hn : N.length = n) (h : spD K (mkD np n sb) vs H Q E)
    (hb : ∀ X hd, DS ⟨K, H, X, hd, none, fun _ => E, none⟩ t sb) : t { nx := fun _ H' => Q .non H', rt := Q } (L2.start N vs) H := by
  obtain ⟨X, hd, args, Qd, Qx, al, hh, sl, ⟨ha, h⟩, q, x⟩ := h
  have r := rep_start (N := N) (E := fun _ => E) al hh sl
  rw [ha, hn] at r
  refine hb X hd X _ _ H _ _ r ⟨fun X' env σ H' r' s' h' => q _ _ H' r'.frm .non h', fun X' env σ H' v z r' s' w h' => q z v H' r'.frm (w.mono (vis_anti r'.sup)) h', fun _ _ _ _ _ _ (h' : False) => h'.elim, fun _ _ _ _ _ _ (h' : False) => h'.elim, fun X' env σ H' z cls dx r' s' w h' => x z cls dx H' r'.frm (w.mono (vis_anti r'.sup)) h'⟩ h
theorem body_of0 {K : PySem.W.Frag} {N : List Str} {np n : Nat} {sb : DSt} {t : TS} {vs : List V} {H : Hp} {Q : VK} {E : XK} (hn : N.length = n) (h : spD K (mkD0 np n sb) vs H Q E)
    (hb : ∀ X hd, DS ⟨K, H, X, hd, none, fun _ _ _ _ => False, none⟩ t sb) : t { nx := fun _ H' => Q .non H', rt := Q } (L2.start N vs) H := by
  obtain ⟨X, hd, args, Qd, Qx, al, hh, sl, ⟨ha, h⟩, q, x⟩ := h
  have r := rep_start (N := N) (E := fun _ _ _ _ => False) al hh sl
  rw [ha, hn] at r
  refine hb X hd X _ _ H _ _ r ⟨fun X' env σ H' r' s' h' => q _ _ H' r'.frm .non h', fun X' env σ H' v z r' s' w h' => q z v H' r'.frm (w.mono (vis_anti r'.sup)) h', fun _ _ _ _ _ _ (h' : False) => h'.elim, fun _ _ _ _ _ _ (h' : False) => h'.elim, fun _ _ _ _ _ _ _ _ _ _ (h' : False) => h'.elim⟩ h
end Mine

namespace Mine
open PySem PySem.Spec PyProof.Rows L2
/-! ### comprehensions of two clauses -/
def lcIn (f : DGX) (tt : DTX) (te : DX) (env : List Sl) (K : List Dt → Prop) : List Dt → List Dt → Prop
  | [], acc => K acc
  | x :: xs, acc => f x env fun env' => tt env' (fun b => if b = true then te env' (fun y => acc.length < LINE ∧ lcIn f tt te env K xs (acc ++ [y])) (fun _ => False) else lcIn f tt te env K xs acc) fun _ => False
def lcGo2 (f : DGX) (tt : DTX) (src1 : DAX) (f1 : DGX) (tt1 : DTX) (te : DX) (vs1 : List Nat) (env : List Sl) (Q : Dt → Prop) : List Dt → List Dt → Prop
  | [], acc => Q (.lst acc)
  | x :: xs, acc => f x env fun env' => tt env' (fun b => if b = true then src1 env' (fun ds1 => lcIn f1 tt1 te (wipeS env' vs1) (fun acc' => lcGo2 f tt src1 f1 tt1 te vs1 env Q xs acc') ds1 acc) (fun _ => False)
      else lcGo2 f tt src1 f1 tt1 te vs1 env Q xs acc) fun _ => False
def eLc2 (src : DAX) (f : DGX) (tt : DTX) (src1 : DAX) (f1 : DGX) (tt1 : DTX) (te : DX) (vs1 vs : List Nat) : DX := fun env Q E => src env (fun ds => lcGo2 f tt src1 f1 tt1 te vs1 (wipeS env vs) Q ds []) E
section
variable {C : Bc} {X : Addr → Prop} {env : List Sl} {σ : L2.St} {H : Hp}
end
/-! ### not, by truth -/
def eNotVT (a : DX) : DX := fun env Q E => a env (fun d => dTru d fun c => Q (.bl (!c))) E
end Mine

namespace Mine
open PySem PySem.Spec PyProof.Rows L2
/-! ### the hand -/
/-- the hand at h: its cells at c -/
def HandAt (H : Hp) (h : Addr) : Prop := ∃ (c : Addr) (cells : List Int) (at_ : Nat) (big mix : Int), H h = some (.lst [.ref c, .int at_, .int big, .int mix]) ∧ H c = some (.lst (cells.map V.int)) ∧
  (∀ z ∈ cells, 0 ≤ z) ∧ at_ ≤ cells.length ∧ cells.length ≤ 63 ∧ 0 ≤ big ∧ 0 ≤ mix ∧ mix < 2147483563
def sp_hand (K : PySem.W.Frag) : Sp := fun vs H Q _ => ∃ (a : Addr) (ns : List Int), vs = [.ref a] ∧ SqL K H a (ns.map V.int) ∧ ns.length ≤ 63 ∧ ∀ H' h, Same H H' → H h = none → HandAt H' h → Q (.ref h) H'
def i_hand (H : Hp) (a c : Addr) (i : Nat) (σ : L2.St) (H' : Hp) : Prop := ∃ (tot : Int) (v3 : Option V) (cells : List Int), σ = [some (.ref a), some (.int tot), some (.ref c), v3] ∧ cells.length = i ∧ H' c = some (.lst (cells.map V.int)) ∧
  (∀ z ∈ cells, 0 ≤ z) ∧ Same H H' ∧ 0 ≤ tot ∧ tot < 2147483563
def mixedN (n t : Int) : Int :=
  ((((n * 39373 + t * 6151 + 50021) % 2147483399 * ((n * 39373 + t * 6151 + 50021) % 2147483399) + t * 81071 + (n * 39373 + t * 6151 + 50021) % 2147483399 / 137) % 2147483629 * 62089 +
    (n * 39373 + t * 6151 + 50021) % 2147483399 / 11) % 2147483587) / 64
theorem mixedN_pos (n t : Int) : 0 ≤ mixedN n t := Int.ediv_nonneg (Int.emod_nonneg _ (by decide)) (by decide)
def sp_mixed : Sp := fun vs H Q _ => ∃ n t : Int, vs = [.int n, .int t] ∧ (-(2 ^ 40) < n ∧ n < 2 ^ 40 ∧ -(2 ^ 40) < t ∧ t < 2 ^ 40) ∧ ∀ r, 0 ≤ r → Q (.int r) H
/-- what a drawing may make of the hand -/
def HandN (H : Hp) (h : Addr) (o : HO) : Prop := HandAt (upd H h o) h ∧ ∃ c r r', H h = some (.lst (V.ref c :: r)) ∧ o = .lst (V.ref c :: r')
def sp_take : Sp := fun vs H Q _ => ∃ (h : Addr) (m : Int), vs = [.ref h, .int m] ∧ HandAt H h ∧ 0 < m ∧ m < 115792089237316195423570985008687907853269984665640564039457584007913129639936 ∧ ∀ r o, 0 ≤ r → r < m → HandN H h o → Q (.int r) (upd H h o)
/-- a drawing, by data: any number below m -/
def F_law_take : DFn := fun args Q _ => match args with
  | [.hand, .d (.int m)] => (0 < m ∧ m < 115792089237316195423570985008687907853269984665640564039457584007913129639936) ∧ ∀ r : Nat, (r : Int) < m → Q (.int r)
  | _ => False
theorem take_spD {K : PySem.W.Frag} : ∀ vs H Q E, spD K F_law_take vs H Q E → sp_take vs H Q E := by
  rintro vs H Q E ⟨X, hd, args, Qd, Qx, al, hh, sl, hF, q, _⟩
  unfold F_law_take at hF
  split at hF
  · obtain ⟨⟨h1, h2⟩, hr⟩ := hF
    cases sl with
    | @hand h c vs ss e sl =>
      cases sl with
      | d den sl =>
        cases sl
        have ev := den.flat rfl
        subst ev
        obtain ⟨xh, cells, at_, big, mix, hH, hC, r⟩ := hh h c e
        refine ⟨h, _, rfl, ⟨c, cells, at_, big, mix, hH, hC, r⟩, h1, h2, fun z o z1 z2 hn => ?_⟩
        obtain ⟨⟨c2, cells2, at2, big2, mix2, hH2, hC2, rr⟩, c3, r1, r2, e1, rfl⟩ := hn
        rw [hH] at e1
        rw [upd_same] at hH2
        cases e1
        cases hH2
        have := q (.int z) (.int z) (upd H h (.lst [V.ref c, .int at2, .int big2, .int mix2])) ⟨fun b u eb nb => by rw [upd_ne (nb h c e)]; exact eb, fun h' c' e' _ => by
          rw [e] at e'
          cases e'
          exact ⟨cells2, at2, big2, mix2, upd_same, hC2, rr⟩⟩ (.int _) (by have := hr z.toNat (by omega); rwa [Int.toNat_of_nonneg z1] at this)
        exact this
  · exact hF.elim
/-! ### the law itself -/
def sp_law (K : PySem.W.Frag) : Sp := fun vs H Q _ => ∃ (a : Addr) (ns : List Int), vs = [.ref a] ∧ SqL K H a (ns.map V.int) ∧ ns.length ≤ 63 ∧ ∀ H', Q (.bl true) H'
/-- what is left of a law: its text behind the hand's making gives True, whatever is drawn -/
def LawGoal (n : Nat) (s : DSt) : Prop := s ⟨fun _ => False, fun d => d = .bl true, fun _ => False, fun _ => False, fun _ _ => False⟩ (.no :: .hand :: List.replicate n .no)
theorem body_law {K : PySem.W.Frag} {N : List Str} {n : Nat} {sb : DSt} {t : TS} {vs : List V} {H : Hp} {Q : VK} {E : XK} (hn : N.length = n + 2) (h : sp_law K vs H Q E) (g : LawGoal n sb)
    (hb : ∀ H X hd, DS ⟨K, H, X, hd, none, fun _ _ _ _ => False, none⟩ t sb) : tSeq (tAsg (tCall (sp_hand K) [] E0 (tCons (tVar 0) tNil)) (gName 1)) t { nx := fun _ H' => Q .non H', rt := Q } (L2.start N vs) H := by
  obtain ⟨a, ns, rfl, hS, hl, q⟩ := h
  refine ⟨.ref a, rfl, a, ns, rfl, hS, hl, fun H' h s hn' hA => ?_⟩
  obtain ⟨c, cells, at_, big, mix, hH, hC, r⟩ := hA
  have hc : HandC H' h c := ⟨cells, at_, big, mix, hH, hC, r⟩
  have es : (L2.start N [V.ref a]).set 1 (some (.ref h)) = some (.ref a) :: some (.ref h) :: List.replicate n none := by
    unfold L2.start
    have e : N.length - 1 = n + 1 := by omega
    show (some (V.ref a) :: List.replicate (N.length - 1) none).set 1 _ = _
    rw [e]
    rfl
  have rp : Rep ⟨K, H', fun z => z = h, some (h, c), none, fun _ _ _ _ => False, none⟩ (fun z => z = h) (.no :: .hand :: List.replicate n .no) ((L2.start N [V.ref a]).set 1 (some (.ref h))) H' := by
    rw [es]
    refine ⟨by simp, fun z e => e, fun z e => .inl e, fun z e => ⟨.lst [V.ref c, V.int ↑at_, V.int big, V.int mix], by rw [show z = h from e]; exact hH⟩, .refl _, fun h' c' e => ?_, fun i sl e => ?_, .none fun i s e1 => ?_, fun i ⟨C0, ns0, ds0, e1⟩ => ?_⟩
    · cases e; exact ⟨rfl, hc, hc⟩
    · match i, e with
      | 0, e => cases e; exact ⟨_, rfl, trivial⟩
      | 1, e => cases e; exact ⟨_, rfl, h, c, rfl, rfl⟩
      | i + 2, e =>
        have e : (List.replicate n Sl.no)[i]? = some sl := e
        rw [List.getElem?_replicate] at e
        split at e
        · rename_i hi
          cases e
          exact ⟨none, by show (List.replicate n none)[i]? = _; rw [List.getElem?_replicate, if_pos hi], trivial⟩
        · cases e
    · match i, e1 with
      | 0, e1 => cases e1; exact fun _ _ f => f
      | 1, e1 => cases e1; exact fun _ _ f => f
      | i + 2, e1 =>
        have e1 : (List.replicate n Sl.no)[i]? = some s := e1
        rw [List.getElem?_replicate] at e1
        split at e1
        · cases e1; exact fun _ _ f => f
        · cases e1
    · match i, e1 with
      | 0, e1 => rfl
      | 1, e1 => cases e1
      | i + 2, e1 =>
        have e1 : (List.replicate n Sl.no)[i]? = some (.ins C0 ns0 ds0) := e1
        rw [List.getElem?_replicate] at e1
        split at e1 <;> cases e1
  refine hb _ _ _ _ _ _ _ { nx := fun _ H' => Q .non H', rt := Q } _ rp ⟨fun _ _ _ _ _ _ (h' : False) => h'.elim, fun X' env σ H2 v z r' s' w h' => ?_, fun _ _ _ _ _ _ (h' : False) => h'.elim, fun _ _ _ _ _ _ (h' : False) => h'.elim, fun _ _ _ _ _ _ _ _ _ _ (h' : False) => h'.elim⟩ g
  have h' : z = .bl true := h'
  subst h'
  have ev := w.flat rfl
  subst ev
  exact q H2
/-! ### monotone, for errors' fields -/
end Mine

namespace Mine
open PySem PySem.Spec PyProof.Rows L2
/-! ### zip of two lists, two tuples, a tuple and a list -/
/-- by data; two lists, two tuples, a tuple and a list -/
def eZip (a b : DX) : DAX := fun env Q E => a env (fun d1 => b env (fun d2 => match d1, d2 with
  | .lst xs, .lst ys => Q (List.zipWith (fun x y => .tup [x, y]) xs ys)
  | .tup xs, .lst ys => xs.length = ys.length ∧ Q (List.zipWith (fun x y => .tup [x, y]) xs ys)
  | .tup xs, .tup ys => xs.length = ys.length ∧ Q (List.zipWith (fun x y => .tup [x, y]) xs ys)
  | _, _ => False) E) E
section
variable {C : Bc}
end
end Mine
namespace Mine
open PySem PySem.Spec PyProof.Rows L2
theorem ix_U {X : Cx} {K : PySem.W.Frag} (e : X.K = K) : IxR X (rIx K) := e ▸ ix_seq
end Mine
namespace Mine
open PySem PySem.Spec PyProof.Rows L2
theorem op_eqU {X : Cx} {K : PySem.W.Frag} (e : X.K = K) (hu : X.A.units + 64 < cLine) : OpR X (compareOp .Eq) (rEqD K) := e ▸ op_eqD hu
theorem op_neU {X : Cx} {K : PySem.W.Frag} (e : X.K = K) (hu : X.A.units + 64 < cLine) : OpR X (compareOp .NotEq) (rNeD K) := e ▸ op_neD hu
end Mine
namespace Mine
open PySem PySem.Spec PyProof.Rows L2
theorem dst_of {C : Bc} {t : TS} {s s' : DSt} (e : s = s') (h : DS C t s') : DS C t s := e ▸ h
end Mine

namespace L2
open PySem PySem.Spec PyProof.Rows
end L2
namespace Mine
open PySem PySem.Spec PyProof.Rows L2
/-! ### enumerate(t, start=k), t a tuple -/
end Mine
namespace Mine
open PySem PySem.Spec PyProof.Rows L2
def eEnumK (k : Nat) (a : DAX) : DAX := fun env Q E => a env (fun ds => match ds with
  | [.tup xs] => Q (xs.mapIdx fun i x => .tup [.int ((k : Int) + (i : Nat)), x])
  | _ => False) E
section
variable {C : Bc} {R : RR} {S : SS} {tl : TE} {el : DX}
end
/-! ### all, any -/
def rAllU (K : PySem.W.Frag) : List V → Hp → VK → Prop := rAll K
theorem call_allU {X : Cx} {K : PySem.W.Frag} (hc : X.calm = true) (e : X.K = K) : CallR X (.builtin "all") (rAllU K) := e ▸ cr_all hc
def dAll : DL := fun ds Q => match ds with
  | [.lst xs] => ∃ bs : List Bool, xs = bs.map .bl ∧ Q (.bl (bs.all id))
  | _ => False
theorem DenAll.bls_of {K : PySem.W.Frag} {H : Hp} : ∀ {vs : List V} {bs : List Bool}, DenAll K H vs (bs.map .bl) → vs = bs.map V.bl
  | _, [], .nil => rfl
  | _, n :: ns, .cons a b => by rw [List.map_cons, a.flat rfl, DenAll.bls_of b]
section
variable {C : Bc}
theorem cg_all : CallG Cln C (rAllU C.K) dAll := by
  intro X env σ H vs ds Q Qd rp ra he q
  unfold dAll at he
  split at he
  · obtain ⟨v, rfl, r1⟩ := ra.one
    obtain ⟨bs, rfl, he⟩ := he
    obtain ⟨p, vs, rfl, h1, a1⟩ := r1.lst
    rw [a1.bls_of] at h1
    exact ⟨p, bs, rfl, .inl (.inl h1), q _ _ H (.refl H) (.bl _) he⟩
  · exact he.elim
end
/-! ### a written dict of one pair of whole numbers -/
def eDk1 (k v : Int) : DX := fun _ Q _ => Q (.dk [.inl k] [.int v])
/-! ### sorted(set(rows)), sorted(rows): words of one length -/
end Mine
namespace Mine
open PySem PySem.Spec PyProof.Rows L2
theorem DenAll.rows {K : PySem.W.Frag} {H : Hp} : ∀ {vs : List V} {ws : List (List Int)}, DenAll K H vs (ws.map fun w => Dt.tup (w.map .int)) → ∃ L : List (Addr × List Int), vs = L.map (fun q => V.ref q.1) ∧ L.map (·.2) = ws ∧ ∀ q ∈ L, H q.1 = some (.tup (q.2.map V.int))
  | _, [], .nil => ⟨[], rfl, rfl, fun _ h => by cases h⟩
  | _, w :: ws, .cons a b => by
    obtain ⟨L, e1, e2, h⟩ := DenAll.rows b
    obtain ⟨p, vs, rfl, hp, av⟩ := a.tupI
    rw [av.ints_of] at hp
    exact ⟨(p, w) :: L, by rw [List.map_cons, e1], by rw [List.map_cons, e2], fun q hq => by
      rcases List.mem_cons.mp hq with e | e
      · rw [e]; exact hp
      · exact h q e⟩
section
variable {C : Bc} {X : Addr → Prop} {env : List Sl} {σ : L2.St} {H H1 : Hp}
theorem Bor.rows {v : V} {ws : List (List Int)} {H0 : Hp} (h : Bor C X H0 H v (.lst (ws.map fun w => Dt.tup (w.map .int)))) : ∃ (p : Addr) (L : List (Addr × List Int)), v = .ref p ∧ H p = some (.lst (L.map fun q => V.ref q.1)) ∧ L.map (·.2) = ws ∧ ∀ q ∈ L, vis H X q.1 = some (.tup (q.2.map V.int)) := by
  obtain ⟨p, vs, rfl, h1, a⟩ := h.lst
  obtain ⟨L, rfl, e, hL⟩ := a.rows
  exact ⟨p, L, rfl, h1, e, hL⟩
end
end Mine
namespace Mine
open PySem PySem.Spec PyProof.Rows L2
/-! ### sorted(xs): whole numbers (any number of them), words of one length -/
section
variable {C : Bc}
end
end Mine
namespace Mine
open PySem PySem.Spec PyProof.Rows L2
theorem funD_inj {K : PySem.W.Frag} {name qual : Str} {params : Arguments} {body : List Stmt} {scope : Scope} {dvs dvs' : List V} {kws kws' : List (Str × V)} {f : Addr} {fd fd' : FuncData}
    (D : FunD K name qual params body scope dvs kws f fd) (D' : FunD K name qual params body scope dvs' kws' f fd') : fd = fd' := by
  obtain ⟨_, _, _, _, _, _, _, _, _, _, rfl, l1, _⟩ := D.ex
  obtain ⟨_, _, _, _, _, _, _, _, _, _, rfl, l0, _⟩ := D'.ex
  have z := l1.symm.trans l0
  injection z with z
  injection z with z1 z2 z3
  injection z3
end Mine
namespace Mine
open PySem PySem.Spec PyProof.Rows L2
/-- a written power -/
theorem de_powC {C : Bc} {a b c : Int} (h : CPow a b) (e : a ^ b.toNat = c) : DE C (tOp (rI CPow fun i j => .int (i ^ j.toNat)) (tC (.int a)) (tC (.int b))) (eC (.int c)) := by
  intro X env σ H Q Qd Qx rp he q x
  subst e
  exact ⟨_, _, rfl, rfl, h, q _ _ H (.refl H) (.int _) he⟩
theorem cpow_of {a b : Int} (h : decide (0 ≤ b) && decide (b ≤ 1000000) && decide (a.natAbs < 2 ^ 64) = true) : CPow a b := by
  simp only [Bool.and_eq_true, decide_eq_true_eq] at h
  exact ⟨h.1.1, h.1.2, h.2⟩
end Mine

namespace Mine
open PySem PySem.Spec PyProof.Rows L2
theorem mkD_W (np N : Nat) (s : DSt) {args} {Q} {E} : mkD np N s args Q E = (args.length = np ∧ s ⟨fun _ => Q .non, Q, fun _ => False, fun _ => False, fun _ x => E x⟩ (args ++ List.replicate (N - np) .no)) := rfl
theorem mkD0_W (np N : Nat) (s : DSt) {args} {Q} {E} : mkD0 np N s args Q E = (args.length = np ∧ s ⟨fun _ => Q .non, Q, fun _ => False, fun _ => False, fun _ _ => False⟩ (args ++ List.replicate (N - np) .no)) := rfl
theorem sSeq_W (a b : DSt) {d} {env} : sSeq a b d env = (a { d with nx := b d } env) := rfl
theorem sAsg_W (e : DX) (f : DGX) {d} {env} : sAsg e f d env = (e env (fun x => f x env d.nx) (d.xc env)) := rfl
theorem sRet_W (e : DX) {d} {env} : sRet e d env = (e env d.rt (d.xc env)) := rfl
theorem sRetN_W {d} {u1} : sRetN d u1 = (d.rt .non) := rfl
theorem sIf_W (c : DTX) (a b : DSt) {d} {env} : sIf c a b d env = (c env (fun k => if k = true then a d env else b d env) (d.xc env)) := rfl
theorem sNext_W {d} {env} : sNext d env = (d.nx env) := rfl
theorem sDrop_W (e : DX) {d} {env} : sDrop e d env = (e env (fun _ => d.nx env) (d.xc env)) := rfl
theorem sBreak_W {d} {env} : sBreak d env = (d.bk env) := rfl
theorem sCont_W {d} {env} : sCont d env = (d.ct env) := rfl
theorem sOwn_W (j : Nat) (e : DX) {d} {env} : sOwn j e d env = (e env (fun x => match x with
  | .lst xs => d.nx (env.set j (.own (.lst xs)))
  | _ => False) (d.xc env)) := rfl
theorem sPar_W (i j : Nat) (a : DAX) {d} {env} : sPar i j a d env = (a env (fun ds => match ds with
  | [x, y] => d.nx ((env.set i (.d x)).set j (.d y))
  | _ => False) (d.xc env)) := rfl
theorem sPar3_W (i j l : Nat) (a : DAX) {d} {env} : sPar3 i j l a d env = (a env (fun ds => match ds with
  | [x, y, z] => d.nx (((env.set i (.d x)).set j (.d y)).set l (.d z))
  | _ => False) (d.xc env)) := rfl
theorem sFrz_W (i : Nat) (s : DSt) {d} {env} : sFrz i s d env = (s d (frz env i)) := rfl
theorem sApp_W (i : Nat) (e : DX) {d} {env} : sApp i e d env = (match env[i]? with
  | some (.own (.lst xs)) => e env (fun y => xs.length < LINE ∧ d.nx (env.set i (.own (.lst (xs ++ [y]))))) (d.xc env)
  | _ => False) := rfl
theorem sExt_W (i : Nat) (e : DX) {d} {env} : sExt i e d env = (match env[i]? with
  | some (.own (.lst xs)) => e env (fun y => match y with
    | .lst ys => xs.length + ys.length ≤ LINE ∧ d.nx (env.set i (.own (.lst (xs ++ ys))))
    | _ => False) (d.xc env)
  | _ => False) := rfl
theorem sPop_W (i : Nat) {d} {env} : sPop i d env = (match env[i]? with
  | some (.own (.lst xs)) => xs ≠ [] ∧ d.nx (env.set i (.own (.lst xs.dropLast)))
  | _ => False) := rfl
theorem sPopTo_W (i j : Nat) {d} {env} : sPopTo i j d env = (match env[i]? with
  | some (.own (.lst xs)) => ∃ y, xs[xs.length - 1]? = some y ∧ d.nx ((env.set i (.own (.lst xs.dropLast))).set j (.d y))
  | _ => False) := rfl
theorem sPut_W (i : Nat) (ek e : DX) {d} {env} : sPut i ek e d env = (match env[i]? with
  | some (.own (.lst xs)) => e env (fun y => ek env (fun k => match k with
    | .int k => ∃ j, ixN xs.length k = some j ∧ d.nx (env.set i (.own (.lst (xs.set j y))))
    | _ => False) (d.xc env)) (d.xc env)
  | _ => False) := rfl
theorem sAugP_W (f : Int → Int → Int) (i : Nat) (ek e : DX) {d} {env} : sAugP f i ek e d env = (match env[i]? with
  | some (.own (.lst xs)) => ek env (fun k => match k with
    | .int k => ∃ j z, ixN xs.length k = some j ∧ xs[j]? = some (.int z) ∧ e env (fun y => match y with
      | .int y => d.nx (env.set i (.own (.lst (xs.set j (.int (f z y))))))
      | _ => False) (d.xc env)
    | _ => False) (d.xc env)
  | _ => False) := rfl
theorem sAug_W (f : Int → Int → Int) (i : Nat) (e : DX) {d} {env} : sAug f i e d env = (match env[i]? with
  | some (.d (.int x)) => e env (fun y => match y with
    | .int y => d.nx (env.set i (.d (.int (f x y))))
    | _ => False) (d.xc env)
  | _ => False) := rfl
theorem sFor_W (src : DAX) (f : DGX) (b : DSt) {d} {env} : sFor src f b d env = (src env (fun ds => dFor f b d ds env) (d.xc env)) := rfl
theorem sRaise_W (c : Str) {d} {env} : sRaise c d env = (d.xc env ⟨c, []⟩) := rfl
theorem sRaise1_W (c f : Str) (e : DX) {d} {env} : sRaise1 c f e d env = (e env (fun x => match x.flat with
  | some u => d.xc env ⟨c, [(f, u)]⟩
  | none => False) (d.xc env)) := rfl
theorem gD_W (j : Nat) {d} {env} {Q} : gD j d env Q = (Q (env.set j (.d d))) := rfl
theorem gD2_W (i j : Nat) {d} {env} {Q} : gD2 i j d env Q = (match d with
  | .tup [a, b] => Q ((env.set i (.d a)).set j (.d b))
  | _ => False) := rfl
theorem gD3_W (i j k : Nat) {d} {env} {Q} : gD3 i j k d env Q = (match d with
  | .tup [a, b, c] => Q (((env.set i (.d a)).set j (.d b)).set k (.d c))
  | _ => False) := rfl
theorem eVar_W (i : Nat) {env} {Q} {u2} : eVar i env Q u2 = (match env[i]? with
  | some (.d x) => Q x
  | _ => False) := rfl
theorem eVarB_W (i : Nat) {env} {Q} {u2} : eVarB i env Q u2 = (match env[i]? with
  | some (.d x) => Q x
  | some (.own (.lst xs)) => Q (.lst xs)
  | _ => False) := rfl
theorem eC_W (d : Dt) {u0} {Q} {u2} : eC d u0 Q u2 = (Q d) := rfl
theorem eOp_W (f : D2) (a b : DX) {env} {Q} {E} : eOp f a b env Q E = (a env (fun x => b env (fun y => f x y Q) E) E) := rfl
theorem eUn_W (f : D1) (a : DX) {env} {Q} {E} : eUn f a env Q E = (a env (fun x => f x Q) E) := rfl
theorem eCB_W (f : DL) (a : DAX) {env} {Q} {E} : eCB f a env Q E = (a env (fun ds => f ds Q) E) := rfl
theorem eCons_W (a : DX) (r : DAX) {env} {Q} {E} : eCons a r env Q E = (a env (fun d => r env (fun ds => Q (d :: ds)) E) E) := rfl
theorem eConsS_W (a : DX) (r : DSX) {env} {Q} {E} : eConsS a r env Q E = (a env (fun d => r env (fun ds => Q (.d d :: ds)) E) E) := rfl
theorem eConsH_W (i : Nat) (r : DSX) {env} {Q} {E} : eConsH i r env Q E = (match env[i]? with
  | some .hand => r env (fun ds => Q (.hand :: ds)) E
  | _ => False) := rfl
theorem eTup_W (r : DAX) {env} {Q} {E} : eTup r env Q E = (r env (fun ds => ds.length ≤ LINE ∧ Q (.tup ds)) E) := rfl
theorem eLst_W (r : DAX) {env} {Q} {E} : eLst r env Q E = (r env (fun ds => ds.length ≤ LINE ∧ Q (.lst ds)) E) := rfl
theorem eCall_W (F : DFn) (dd : List Sl) (a : DSX) {env} {Q} {E} : eCall F dd a env Q E = (a env (fun ss => F (ss ++ dd) Q E) E) := rfl
theorem eCall0_W (F : DFn) (dd : List Sl) (a : DSX) {env} {Q} {E} : eCall0 F dd a env Q E = (a env (fun ss => F (ss ++ dd) Q fun _ => False) E) := rfl
theorem eTest_W (e : DX) {env} {Q} {E} : eTest e env Q E = (e env (fun d => match d with
  | .bl b => Q b
  | _ => False) E) := rfl
theorem eNotT_W (t : DTX) {env} {Q} {E} : eNotT t env Q E = (t env (fun b => Q (!b)) E) := rfl
theorem eAndT_W (t u : DTX) {env} {Q} {E} : eAndT t u env Q E = (t env (fun b => if b = true then u env Q E else Q false) E) := rfl
theorem eOrT_W (t u : DTX) {env} {Q} {E} : eOrT t u env Q E = (t env (fun b => if b = true then Q true else u env Q E) E) := rfl
theorem eTru_W (e : DX) {env} {Q} {E} : eTru e env Q E = (e env (fun d => dTru d Q) E) := rfl
theorem eAndV_W (a b : DX) {env} {Q} {E} : eAndV a b env Q E = (a env (fun d => eBool d fun c => if c = true then b env Q E else Q (.bl false)) E) := rfl
theorem eOrV_W (a b : DX) {env} {Q} {E} : eOrV a b env Q E = (a env (fun d => eBool d fun c => if c = true then Q (.bl true) else b env Q E) E) := rfl
theorem eNotV_W (a : DX) {env} {Q} {E} : eNotV a env Q E = (a env (fun d => eBool d fun c => Q (.bl (!c))) E) := rfl
theorem eNotVT_W (a : DX) {env} {Q} {E} : eNotVT a env Q E = (a env (fun d => dTru d fun c => Q (.bl (!c))) E) := rfl
theorem eIf_W (t : DTX) (a b : DX) {env} {Q} {E} : eIf t a b env Q E = (t env (fun c => if c = true then a env Q E else b env Q E) E) := rfl
theorem eChain_W (f g : D2) (a b c : DX) {env} {Q} {E} : eChain f g a b c env Q E = (a env (fun x => b env (fun y => f x y fun d => eBool d fun k => if k = true then c env (fun z => g y z Q) E else Q (.bl false)) E) E) := rfl
theorem eLc_W (src : DAX) (f : DGX) (tt : DTX) (te : DX) (vs : List Nat) {env} {Q} {E} : eLc src f tt te vs env Q E = (src env (fun ds => lcGo f tt te (wipeS env vs) Q ds []) E) := rfl
theorem eLc2_W (src : DAX) (f : DGX) (tt : DTX) (src1 : DAX) (f1 : DGX) (tt1 : DTX) (te : DX) (vs1 vs : List Nat) {env} {Q} {E} : eLc2 src f tt src1 f1 tt1 te vs1 vs env Q E = (src env (fun ds => lcGo2 f tt src1 f1 tt1 te vs1 (wipeS env vs) Q ds []) E) := rfl
theorem eYes_W {u0} {Q} {u2} : eYes u0 Q u2 = (Q true) := rfl
theorem eSeq_W (a : DX) {env} {Q} {E} : eSeq a env Q E = (a env (fun d => match d with
  | .lst xs => Q xs
  | .tup xs => Q xs
  | _ => False) E) := rfl
theorem eRng1_W (a : DAX) {env} {Q} {E} : eRng1 a env Q E = (a env (fun ds => match ds with
  | [.int j] => (-(2 ^ 62) ≤ j ∧ j < 2 ^ 62) ∧ Q ((List.range j.toNat).map fun i => .int (i : Nat))
  | _ => False) E) := rfl
theorem eRng2_W (a : DAX) {env} {Q} {E} : eRng2 a env Q E = (a env (fun ds => match ds with
  | [.int i, .int j] => (-(2 ^ 62) ≤ i ∧ i < 2 ^ 62 ∧ -(2 ^ 62) ≤ j ∧ j < 2 ^ 62) ∧ Q ((List.range (j - i).toNat).map fun k => .int (i + (k : Nat)))
  | _ => False) E) := rfl
theorem eEnum_W (a : DAX) {env} {Q} {E} : eEnum a env Q E = (a env (fun ds => match ds with
  | [.lst xs] => Q (xs.mapIdx fun i x => .tup [.int (i : Nat), x])
  | [.tup xs] => Q (xs.mapIdx fun i x => .tup [.int (i : Nat), x])
  | _ => False) E) := rfl
theorem eEnumK_W (k : Nat) (a : DAX) {env} {Q} {E} : eEnumK k a env Q E = (a env (fun ds => match ds with
  | [.tup xs] => Q (xs.mapIdx fun i x => .tup [.int ((k : Int) + (i : Nat)), x])
  | _ => False) E) := rfl
theorem eZip_W (a b : DX) {env} {Q} {E} : eZip a b env Q E = (a env (fun d1 => b env (fun d2 => match d1, d2 with
  | .lst xs, .lst ys => Q (List.zipWith (fun x y => .tup [x, y]) xs ys)
  | .tup xs, .lst ys => xs.length = ys.length ∧ Q (List.zipWith (fun x y => .tup [x, y]) xs ys)
  | .tup xs, .tup ys => xs.length = ys.length ∧ Q (List.zipWith (fun x y => .tup [x, y]) xs ys)
  | _, _ => False) E) E) := rfl
theorem eSl_W (f : D3) (a : DX) (lo hi : DOX) {env} {Q} {E} : eSl f a lo hi env Q E = (a env (fun d => lo env (fun l => hi env (fun u => f d l u Q) E) E) E) := rfl
theorem ePart_W (e : DX) {env} {Q} {E} : ePart e env Q E = (e env (fun d => match d with
  | .int i => Q (some i)
  | _ => False) E) := rfl
theorem eNoPart_W {u0} {Q} {u2} : eNoPart u0 Q u2 = (Q none) := rfl
theorem eRev_W (a : DX) {env} {Q} {E} : eRev a env Q E = (a env (fun d => match d with
  | .lst xs => Q (.lst xs.reverse)
  | .tup xs => Q (.tup xs.reverse)
  | _ => False) E) := rfl
theorem eRevL_W (a : DX) {env} {Q} {E} : eRevL a env Q E = (a env (fun d => match d with
  | .lst xs => Q (.lst xs.reverse)
  | _ => False) E) := rfl
theorem eDk0_W {u0} {Q} {u2} : eDk0 u0 Q u2 = (Q (.dk [] [])) := rfl
theorem eDk1_W (k v : Int) {u0} {Q} {u2} : eDk1 k v u0 Q u2 = (Q (.dk [.inl k] [.int v])) := rfl
theorem eXf_W (i : Nat) (c f : Str) {env} {Q} {u2} : eXf i c f env Q u2 = (match env[i]? with
  | some (.exc c' fs) => c' = c ∧ ∃ u, fs.lookup f = some u ∧ Q (Dt.ofV u)
  | _ => False) := rfl
theorem eIsX_W (i : Nat) (tab : Str → Option Bool) {env} {Q} {u2} : eIsX i tab env Q u2 = (match env[i]? with
  | some (.exc c fs) => ∃ b, tab c = some b ∧ Q (.bl b)
  | _ => False) := rfl
theorem dIsN_W {a} {b} {Q} : dIsN a b Q = (match b with
  | .non => Q (.bl a.isN)
  | _ => False) := rfl
theorem dNotN_W {a} {b} {Q} : dNotN a b Q = (match b with
  | .non => Q (.bl (!a.isN))
  | _ => False) := rfl
theorem dIx_W {a} {b} {Q} : dIx a b Q = (match a, b with
  | .lst xs, .int k => ∃ x, atI xs k = some x ∧ Q x
  | .tup xs, .int k => ∃ x, atI xs k = some x ∧ Q x
  | .str z, .int k => z.length ≤ LINE ∧ ∃ c, atI z.cps.toList k = some c ∧ Q (.str ⟨#[c]⟩)
  | _, _ => False) := rfl
theorem dSl_W {a} {lo} {hi} {Q} : dSl a lo hi Q = (match a with
  | .lst xs => Q (.lst (cutG xs lo hi))
  | .tup xs => Q (.tup (cutG xs lo hi))
  | .str z => z.length ≤ LINE ∧ Q (.str (cutS z lo hi))
  | _ => False) := rfl
theorem dSlL_W {a} {lo} {hi} {Q} : dSlL a lo hi Q = (match a with
  | .lst xs => Q (.lst (cutG xs lo hi))
  | _ => False) := rfl
theorem dLen_W {ds} {Q} : dLen ds Q = (match ds with
  | [.lst xs] => Q (.int xs.length)
  | [.tup xs] => Q (.int xs.length)
  | [.str z] => z.length ≤ LINE ∧ Q (.int z.length)
  | [.dk ks _] => Q (.int ks.length)
  | _ => False) := rfl
theorem dInt_W {ds} {Q} : dInt ds Q = (match ds with
  | [.int i] => Q (.int i)
  | [.bl k] => Q (.int (if k then 1 else 0))
  | [.str z] => z.length ≤ 640 ∧ ∃ n, PySem.intText? z = some n ∧ Q (.int n)
  | _ => False) := rfl
theorem dStr_W {ds} {Q} : dStr ds Q = (match ds with
  | [.int i] => i.natAbs.log2 < 1920 ∧ Q (.str (toString i))
  | _ => False) := rfl
theorem dAbs_W {ds} {Q} : dAbs ds Q = (match ds with
  | [.int i] => Q (.int (if i < 0 then -i else i))
  | _ => False) := rfl
theorem dMax2_W {ds} {Q} : dMax2 ds Q = (match ds with
  | [.int i, .int j] => Q (.int (if j > i then j else i))
  | _ => False) := rfl
theorem dMin2_W {ds} {Q} : dMin2 ds Q = (match ds with
  | [.int i, .int j] => Q (.int (if j < i then j else i))
  | _ => False) := rfl
theorem dTupOf_W {ds} {Q} : dTupOf ds Q = (match ds with
  | [.lst xs] => Q (.tup xs)
  | [.tup xs] => Q (.tup xs)
  | _ => False) := rfl
theorem dLstOf_W {ds} {Q} : dLstOf ds Q = (match ds with
  | [.lst xs] => Q (.lst xs)
  | [.tup xs] => Q (.lst xs)
  | _ => False) := rfl
theorem dIsi_W (T : String) {ds} {Q} : dIsi T ds Q = (match ds with
  | [x, .raw (.ty T')] => T' = T ∧ x.kind.isSome = true ∧ Q (.bl (x.isa T))
  | _ => False) := rfl
theorem dIsi2_W (T U : String) {ds} {Q} : dIsi2 T U ds Q = (match ds with
  | [x, .tup [.raw (.ty T'), .raw (.ty U')]] => T' = T ∧ U' = U ∧ x.kind.isSome = true ∧ Q (.bl (x.isa T || x.isa U))
  | _ => False) := rfl
theorem sTry_W (mt : Str → Str → Option Bool) (b : DSt) (hs : List (Str × Option Nat × DSt)) {d} {env} : sTry mt b hs d env = (b { d with xc := fun e x => dHs mt hs d e x } env) := rfl
theorem eNil_W {δ : Type} {u0 : List Sl} {Q : List δ → Prop} {u2 : Xc → Prop} : (eNil (δ := δ)) u0 Q u2 = Q [] := rfl
theorem eBool_W {d : Dt} {Q : Bool → Prop} : eBool d Q = (match d with
  | .bl b => Q b
  | _ => False) := rfl
theorem frz_W {env : List Sl} {i : Nat} : frz env i = (match env[i]? with
  | some (.own w) => env.set i (.d w.fz)
  | _ => env) := rfl
theorem fz_lst {xs : List Dt} : (Ow.lst xs).fz = .lst xs := rfl
theorem fz_dk {ks : List Key} {xs : List Dt} : (Ow.dk ks xs).fz = .dk ks xs := rfl
theorem fz_dt {ks : List (List Key)} {xs : List Dt} : (Ow.dt ks xs).fz = .dt ks xs := rfl
theorem LINE_W : LINE = 16777216 := rfl
theorem take_W {m : Int} {Q : Dt → Prop} {E : Xc → Prop} : F_law_take [.hand, .d (.int m)] Q E = ((0 < m ∧ m < 115792089237316195423570985008687907853269984665640564039457584007913129639936) ∧ ∀ r : Nat, (r : Int) < m → Q (.int r)) := rfl
end Mine

namespace Mine
open PySem PySem.Spec PyProof.Rows L2
/-! ### instances of one's own classes: fields -/
def eFld (tab : Str → Str → Bool) (f : Str) (a : DX) : DX := fun env Q E => a env (fun d => match d with
  | .ins C ns ds => tab C f = true ∧ ∃ x, (ns.zip ds).lookup f = some x ∧ Q x
  | _ => False) E
/-- self.f while self is made -/
def eFldS (tab : Str → Str → Bool) (f : Str) (i : Nat) : DX := fun env Q _ => match env[i]? with
  | some (.ins C ns ds) => tab C f = true ∧ ∃ x, (ns.zip ds).lookup f = some x ∧ Q x
  | _ => False
/-- self.f = e: a new field, or an old one anew -/
def putNs (f : Str) : List Str → List Str
  | [] => [f]
  | n :: ns => if n = f then n :: ns else n :: putNs f ns
def putDs (f : Str) (y : Dt) : List Str → List Dt → List Dt
  | n :: ns, d :: ds => if n = f then y :: ds else d :: putDs f y ns ds
  | _, _ => [y]
def sSetF (tab : Str → Str → Bool) (f : Str) (i : Nat) (e : DX) : DSt := fun d env => match env[i]? with
  | some (.ins C ns ds) => e env (fun y => tab C f = true ∧ i = 0 ∧ ns.length < 900 ∧ d.nx (env.set i (.ins C (putNs f ns) (putDs f y ns ds)))) (d.xc env)
  | _ => False
section
variable {C : Bc} {X : Addr → Prop} {env : List Sl} {σ : L2.St} {H : Hp} {te : TE} {ea e : DX} {f : Str} {tab : Str → Str → Bool}
end
end Mine

namespace Mine
open PySem PySem.Spec PyProof.Rows L2
/-! ### C(..): __init__ by data; what it wants is the instance -/
/-- np parameters with self, N names in all -/
def mkI (cls : Str) (np N : Nat) (s : DSt) : DFn := fun args Q E => args.length + 1 = np ∧ s ⟨fun (env : List Sl) => match env[0]? with
  | some (Sl.ins C ns ds) => Q (.ins C ns ds)
  | _ => False, fun _ => False, fun _ => False, fun _ => False, fun _ x => E x⟩ (.ins cls [] [] :: (args ++ List.replicate (N - np) .no))
def mkI0 (cls : Str) (np N : Nat) (s : DSt) : DFn := fun args Q E => args.length + 1 = np ∧ s ⟨fun (env : List Sl) => match env[0]? with
  | some (Sl.ins C ns ds) => Q (.ins C ns ds)
  | _ => False, fun _ => False, fun _ => False, fun _ => False, fun _ _ => False⟩ (.ins cls [] [] :: (args ++ List.replicate (N - np) .no))
section
variable {C : Bc} {F : DFn} {cls : Str} {dvs : List V} {dd : List Sl} {t : TA} {a : DSX}
end
/-! ### o.m(..), o.p -/
def eMeth (c m : Str) (F : DFn) (dd : List Sl) (a : DX) (r : DSX) : DX := fun env Q E => a env (fun d => match d with
  | .ins c' ns ds => c' = c ∧ (ns.zip ds).lookup m = none ∧ r env (fun ss => F (.d (.ins c' ns ds) :: (ss ++ dd)) Q E) E
  | _ => False) E
def eMeth0 (c m : Str) (F : DFn) (dd : List Sl) (a : DX) (r : DSX) : DX := fun env Q E => a env (fun d => match d with
  | .ins c' ns ds => c' = c ∧ (ns.zip ds).lookup m = none ∧ r env (fun ss => F (.d (.ins c' ns ds) :: (ss ++ dd)) Q fun _ => False) E
  | _ => False) E
def eProp (c : Str) (F : DFn) (a : DX) : DX := fun env Q E => a env (fun d => match d with
  | .ins c' ns ds => c' = c ∧ F [.d (.ins c' ns ds)] Q fun _ => False
  | _ => False) E
section
variable {C : Bc} {F : DFn} {c m : Str} {dvs : List V} {dd : List Sl} {te : TE} {ea : DX} {t : TA} {a : DSX}
end
/-! ### isinstance(x, C), C a class of one's own -/
/-- what of the text isinstance asks: instances of the classes in the table, and the built-in kinds -/
structure IsOk (K : PySem.W.Frag) (cn : Str) (tab : Str → Option Bool) : Prop where
  ins : ∀ c b, tab c = some b → PySem.W.kitOne K (.ref (He.ga K c)) (.ref (He.ga K cn)) = some b ∧ ∀ (H : Hp) (a dx : Addr) (fs : List (Str × V)), H a = some (.ins (He.ga K c) dx fs) → TyX K H (.ref a) (.ref (He.ga K c))
  kin : ∀ n, n ∈ ["NoneType", "bool", "int", "str", "tuple", "list", "dict"] → PySem.W.kitOne K (.type n) (.ref (He.ga K cn)) = some false
section
variable {C : Bc} {te : TE} {ea : DX} {cn : Str} {tab : Str → Option Bool}
end
end Mine

namespace Mine
open PySem PySem.Spec PyProof.Rows L2
/-! ### the head's own hook: defs at any address, facts, one more Bool -/
/-! ### a property: its record, its getter -/
end Mine

namespace Mine
open PySem PySem.Spec PyProof.Rows L2
/-! ### dicts: keys whole numbers and texts, or tuples of them -/
section
variable {κ : Type} [DecidableEq κ]
def valD : List κ → List Dt → κ → Option Dt
  | k :: ks, d :: ds, j => if k = j then some d else valD ks ds j
  | _, _, _ => none
def putKs : List κ → κ → List κ
  | [], j => [j]
  | k :: ks, j => if k = j then k :: ks else k :: putKs ks j
def putVs : List κ → List Dt → κ → Dt → List Dt
  | k :: ks, d :: ds, j, y => if k = j then y :: ds else d :: putVs ks ds j y
  | _, _, _, y => [y]
theorem DenAll.val {K : PySem.W.Frag} {H : Hp} {j : κ} : ∀ {ks : List κ} {vs : List V} {ds : List Dt}, ks.length = vs.length → DenAll K H vs ds →
    (valD ks ds j = none ∧ valV (ks.zip vs) j = none) ∨ ∃ d v, valD ks ds j = some d ∧ valV (ks.zip vs) j = some v ∧ Den K H v d
  | [], [], _, _, .nil => .inl ⟨rfl, rfl⟩
  | k :: ks, v :: vs, d :: ds, l, .cons a r => by
    rw [List.zip_cons_cons]
    unfold valD
    by_cases c : k = j
    · rw [if_pos c, valV_pos (p := (k, v)) c]
      exact .inr ⟨d, v, rfl, rfl, a⟩
    · rw [if_neg c, valV_neg (p := (k, v)) c]
      exact DenAll.val (by simpa using l) r
theorem putK_pos {k j : κ} {u v : V} {r : List (κ × V)} (c : k = j) (nd : ∀ p ∈ r, p.1 ≠ j) : putK ((k, u) :: r) j v = (k, v) :: r := by
  unfold putK
  rw [if_pos (by simp [c]), List.map_cons]
  simp only [c, if_true]
  congr 1
  refine (List.map_congr_left fun p hp => ?_).trans (List.map_id r)
  rw [if_neg (nd p hp)]; rfl
theorem putK_neg {k j : κ} {u v : V} {r : List (κ × V)} (c : ¬ k = j) : putK ((k, u) :: r) j v = (k, u) :: putK r j v := by
  unfold putK
  rw [List.any_cons]
  simp only [c, decide_false, Bool.false_or, List.map_cons, if_false]
  split <;> rfl
/-- what stands in a dict of one's own: no key twice -/
theorem putF_K {K : PySem.W.Frag} {H : Hp} {j : κ} {v : V} {y : Dt} (hv : Den K H v y) : ∀ {ks : List κ} {vs : List V} {ds : List Dt}, ks.Nodup → ks.length = vs.length → DenAll K H vs ds →
    ∃ vs', putK (ks.zip vs) j v = (putKs ks j).zip vs' ∧ (putKs ks j).length = vs'.length ∧ DenAll K H vs' (putVs ks ds j y)
  | [], [], _, _, _, .nil => ⟨[v], rfl, rfl, .cons hv .nil⟩
  | k :: ks, u :: vs, d :: ds, nd, l, .cons a r => by
    have nd2 := List.nodup_cons.mp nd
    by_cases c : k = j
    · refine ⟨v :: vs, ?_, ?_, ?_⟩
      · unfold putKs
        rw [if_pos c, List.zip_cons_cons, List.zip_cons_cons]
        exact putK_pos c fun p hp z => nd2.1 (by rw [c, ← z]; exact (List.of_mem_zip hp).1)
      · unfold putKs; rw [if_pos c]; exact l
      · unfold putVs; rw [if_pos c]; exact .cons hv r
    · obtain ⟨vs', h1, h2, h3⟩ := putF_K (j := j) hv (ks := ks) nd2.2 (by simpa using l) r
      refine ⟨u :: vs', ?_, ?_, ?_⟩
      · unfold putKs
        rw [if_neg c, List.zip_cons_cons, putK_neg c, h1]; rfl
      · unfold putKs; rw [if_neg c, List.length_cons, List.length_cons, h2]
      · unfold putVs; rw [if_neg c]; exact .cons a h3
end
def keyOf : Dt → Option Key
  | .int i => some (.inl i)
  | .str x => some (.inr x)
  | _ => none
def keysOf : List Dt → Option (List Key)
  | [] => some []
  | d :: ds => match keyOf d, keysOf ds with
    | some k, some ks => some (k :: ks)
    | _, _ => none
theorem Den.key {K : PySem.W.Frag} {H : Hp} {v : V} {d : Dt} {k : Key} (h : Den K H v d) (e : keyOf d = some k) : v = kV k := by
  cases d <;> first
    | (injection e with e; subst e; exact h.flat rfl)
    | cases e
theorem DenAll.keys {K : PySem.W.Frag} {H : Hp} : ∀ {ds : List Dt} {vs : List V} {ks : List Key}, DenAll K H vs ds → keysOf ds = some ks → vs = ks.map kV
  | [], _, _, .nil, e => by cases e; rfl
  | d :: ds, _, ks, .cons a r, e => by
    unfold keysOf at e
    split at e
    · rename_i k ks' e1 e2
      cases e
      rw [List.map_cons, a.key e1, r.keys e2]
    · cases e
/-- a dict's thing at a key; a dict with a thing more -/
def Ow.get : Ow → Dt → Option (Option Dt)
  | .dk ks ds, y => (keyOf y).map fun k => valD ks ds k
  | .dt ks ds, .tup xs => (keysOf xs).map fun k => valD ks ds k
  | _, _ => none
def Ow.put : Ow → Dt → Dt → Option Ow
  | .dk ks ds, y, z => (keyOf y).map fun k => .dk (putKs ks k) (putVs ks ds k z)
  | .dt ks ds, .tup xs, z => (keysOf xs).map fun k => .dt (putKs ks k) (putVs ks ds k z)
  | _, _, _ => none
def Ow.keysN : Ow → Prop
  | .lst _ => True
  | .dk ks _ => ks.Nodup ∧ ks.length < LINE
  | .dt ks _ => ks.Nodup ∧ ks.length < LINE
/-- data that is a dict -/
def Dt.ow : Dt → Option Ow
  | .dk ks ds => some (.dk ks ds)
  | .dt ks ds => some (.dt ks ds)
  | _ => none
theorem DenO.get {K : PySem.W.Frag} {H H' : Hp} {p : Addr} {u : HO} {w : Ow} {v : V} {y : Dt} {r : Option Dt} (h : DenO K H' u w) (s : Same H' H) (e : H p = some u) (hy : Den K H' v y) (g : w.get y = some r) :
    IsD H p ∧ ((r = none ∧ DGet H p v none) ∨ ∃ d x, r = some d ∧ DGet H p v (some x) ∧ Den K H' x d) := by
  cases h with
  | lst a => cases g
  | @dk ks vs ds l a =>
    obtain ⟨k, e1, rfl⟩ := Option.map_eq_some_iff.mp g
    have ev := hy.key e1
    subst ev
    refine ⟨.inl ⟨_, .inl e⟩, ?_⟩
    rcases a.val (j := k) l with ⟨h1, h2⟩ | ⟨d, x, h1, h2, h3⟩
    · exact .inl ⟨h1, by rw [← h2]; exact .k e⟩
    · exact .inr ⟨d, x, h1, by rw [← h2]; exact .k e, h3⟩
  | @dt ks vs ds l a =>
    cases y with
    | tup xs =>
      obtain ⟨k, e1, rfl⟩ := Option.map_eq_some_iff.mp g
      cases hy with
      | tup hb ax =>
        have ev := ax.keys e1
        subst ev
        refine ⟨.inr ⟨_, .inl e⟩, ?_⟩
        rcases a.val (j := k) l with ⟨h1, h2⟩ | ⟨d, x, h1, h2, h3⟩
        · exact .inl ⟨h1, by rw [← h2]; exact .t e (s _ _ hb)⟩
        · exact .inr ⟨d, x, h1, by rw [← h2]; exact .t e (s _ _ hb), h3⟩
    | _ => cases g
theorem DenO.put {K : PySem.W.Frag} {H H' : Hp} {p : Addr} {u : HO} {w w' : Ow} {v x : V} {y z : Dt} (h : DenO K H' u w) (s : Same H' H) (e : H p = some u) (hy : Den K H' v y) (hz : Den K H' x z) (hn : w.keysN) (g : w.put y z = some w') :
    ∃ u', DPut H p v x (upd H p u') ∧ DenO K H' u' w' := by
  cases h with
  | lst a => cases g
  | @dk ks vs ds l a =>
    obtain ⟨k, e1, rfl⟩ := Option.map_eq_some_iff.mp g
    have ev := hy.key e1
    subst ev
    obtain ⟨vs', h1, h2, h3⟩ := putF_K (j := k) hz hn.1 l a
    refine ⟨_, .k e (by rw [List.length_zip, sizeLine_eq]; exact Nat.lt_of_le_of_lt (Nat.min_le_left _ _) hn.2), ?_⟩
    rw [h1]; exact .dk h2 h3
  | @dt ks vs ds l a =>
    cases y with
    | tup xs =>
      obtain ⟨k, e1, rfl⟩ := Option.map_eq_some_iff.mp g
      cases hy with
      | tup hb ax =>
        have ev := ax.keys e1
        subst ev
        obtain ⟨vs', h1, h2, h3⟩ := putF_K (j := k) hz hn.1 l a
        refine ⟨_, .t e (s _ _ hb) (by rw [List.length_zip, sizeLine_eq]; exact Nat.lt_of_le_of_lt (Nat.min_le_left _ _) hn.2), ?_⟩
        rw [h1]; exact .dt h2 h3
    | _ => cases g
end Mine

namespace Mine
open PySem PySem.Spec PyProof.Rows L2
/-! ### dicts that are read -/
def BorD : RR := fun C X _ H v d => ∃ w p u, d.ow = some w ∧ v = .ref p ∧ (∀ h c, C.hd = some (h, c) → p ≠ h) ∧ H p = some u ∧ DenO C.K (vis H X) u w
/-- a dict by its name, one's own or not -/
def eVarD (i : Nat) : DX := fun env Q _ => match env[i]? with
  | some (.d x) => x.ow.isSome = true ∧ Q x
  | some (.own w) => w.fz.ow.isSome = true ∧ Q w.fz
  | _ => False
/-- any dict -/
def eDic (a : DX) : DX := fun env Q E => a env (fun x => x.ow.isSome = true ∧ Q x) E
def eGet1 (ed ek : DX) : DX := fun env Q E => ed env (fun d => ek env (fun k => ∃ w r, d.ow = some w ∧ w.get k = some r ∧ Q (r.getD .non)) E) E
def eGet2 (ed ek ez : DX) : DX := fun env Q E => ed env (fun d => ek env (fun k => ez env (fun z => ∃ w r, d.ow = some w ∧ w.get k = some r ∧ Q (r.getD z)) E) E) E
def eAtD (ed ek : DX) : DX := fun env Q E => ed env (fun d => ek env (fun k => ∃ w r, d.ow = some w ∧ w.get k = some (some r) ∧ Q r) E) E
def eInD (ek ed : DX) : DX := fun env Q E => ek env (fun k => ed env (fun d => ∃ w r, d.ow = some w ∧ w.get k = some r ∧ Q (.bl r.isSome)) E) E
def eNotInD (ek ed : DX) : DX := fun env Q E => ek env (fun k => ed env (fun d => ∃ w r, d.ow = some w ∧ w.get k = some r ∧ Q (.bl (!r.isSome))) E) E
/-- x = {} -/
def sOwnD (j : Nat) (t : Bool) : DSt := fun d env => d.nx (env.set j (.own (if t = true then .dt [] [] else .dk [] [])))
/-- x[k] = e -/
def sPutD (i : Nat) (ek e : DX) : DSt := fun d env => match env[i]? with
  | some (.own w) => e env (fun y => ek env (fun k => w.keysN ∧ ∃ w', w.put k y = some w' ∧ d.nx (env.set i (.own w'))) (d.xc env)) (d.xc env)
  | _ => False
theorem Den.ow {C : Bc} {X : Addr → Prop} {env : List Sl} {σ : L2.St} {H H1 : Hp} {v : V} {x : Dt} (rp : Rep C X env σ H) (h : Den C.K (vis H X) v x) (e : x.ow.isSome = true) : BorD C X H1 H v x := by
  cases h with
  | dk h l a => exact ⟨_, _, _, rfl, rfl, fun y c q z => (vis_of h).1 (z ▸ rp.hX y c q), vis_sub _ _ h, .dk l a⟩
  | dt h l a => exact ⟨_, _, _, rfl, rfl, fun y c q z => (vis_of h).1 (z ▸ rp.hX y c q), vis_sub _ _ h, .dt l a⟩
  | _ => cases e
section
variable {C : Bc} {td ty tx : TE} {ed ek ez : DX}
end
end Mine

namespace Mine
open PySem PySem.Spec PyProof.Rows L2
theorem mkI_W (cls : Str) (np N : Nat) (s : DSt) {args} {Q} {E} : mkI cls np N s args Q E = (args.length + 1 = np ∧ s ⟨fun (env : List Sl) => match env[0]? with
  | some (Sl.ins C ns ds) => Q (.ins C ns ds)
  | _ => False, fun _ => False, fun _ => False, fun _ => False, fun _ x => E x⟩ (.ins cls [] [] :: (args ++ List.replicate (N - np) .no))) := rfl
theorem mkI0_W (cls : Str) (np N : Nat) (s : DSt) {args} {Q} {E} : mkI0 cls np N s args Q E = (args.length + 1 = np ∧ s ⟨fun (env : List Sl) => match env[0]? with
  | some (Sl.ins C ns ds) => Q (.ins C ns ds)
  | _ => False, fun _ => False, fun _ => False, fun _ => False, fun _ _ => False⟩ (.ins cls [] [] :: (args ++ List.replicate (N - np) .no))) := rfl
theorem eFld_W (tab : Str → Str → Bool) (f : Str) (a : DX) {env} {Q} {E} : eFld tab f a env Q E = (a env (fun d => match d with
  | .ins C ns ds => tab C f = true ∧ ∃ x, (ns.zip ds).lookup f = some x ∧ Q x
  | _ => False) E) := rfl
theorem eFldS_W (tab : Str → Str → Bool) (f : Str) (i : Nat) {env} {Q} {u2} : eFldS tab f i env Q u2 = (match env[i]? with
  | some (.ins C ns ds) => tab C f = true ∧ ∃ x, (ns.zip ds).lookup f = some x ∧ Q x
  | _ => False) := rfl
theorem sSetF_W (tab : Str → Str → Bool) (f : Str) (i : Nat) (e : DX) {d} {env} : sSetF tab f i e d env = (match env[i]? with
  | some (.ins C ns ds) => e env (fun y => tab C f = true ∧ i = 0 ∧ ns.length < 900 ∧ d.nx (env.set i (.ins C (putNs f ns) (putDs f y ns ds)))) (d.xc env)
  | _ => False) := rfl
theorem eMeth_W (c m : Str) (F : DFn) (dd : List Sl) (a : DX) (r : DSX) {env} {Q} {E} : eMeth c m F dd a r env Q E = (a env (fun d => match d with
  | .ins c' ns ds => c' = c ∧ (ns.zip ds).lookup m = none ∧ r env (fun ss => F (.d (.ins c' ns ds) :: (ss ++ dd)) Q E) E
  | _ => False) E) := rfl
theorem eMeth0_W (c m : Str) (F : DFn) (dd : List Sl) (a : DX) (r : DSX) {env} {Q} {E} : eMeth0 c m F dd a r env Q E = (a env (fun d => match d with
  | .ins c' ns ds => c' = c ∧ (ns.zip ds).lookup m = none ∧ r env (fun ss => F (.d (.ins c' ns ds) :: (ss ++ dd)) Q fun _ => False) E
  | _ => False) E) := rfl
theorem eProp_W (c : Str) (F : DFn) (a : DX) {env} {Q} {E} : eProp c F a env Q E = (a env (fun d => match d with
  | .ins c' ns ds => c' = c ∧ F [.d (.ins c' ns ds)] Q fun _ => False
  | _ => False) E) := rfl
theorem eVarD_W (i : Nat) {env} {Q} {u2} : eVarD i env Q u2 = (match env[i]? with
  | some (.d x) => x.ow.isSome = true ∧ Q x
  | some (.own w) => w.fz.ow.isSome = true ∧ Q w.fz
  | _ => False) := rfl
theorem eDic_W (a : DX) {env} {Q} {E} : eDic a env Q E = (a env (fun x => x.ow.isSome = true ∧ Q x) E) := rfl
theorem eGet1_W (ed ek : DX) {env} {Q} {E} : eGet1 ed ek env Q E = (ed env (fun d => ek env (fun k => ∃ w r, d.ow = some w ∧ w.get k = some r ∧ Q (r.getD .non)) E) E) := rfl
theorem eGet2_W (ed ek ez : DX) {env} {Q} {E} : eGet2 ed ek ez env Q E = (ed env (fun d => ek env (fun k => ez env (fun z => ∃ w r, d.ow = some w ∧ w.get k = some r ∧ Q (r.getD z)) E) E) E) := rfl
theorem eAtD_W (ed ek : DX) {env} {Q} {E} : eAtD ed ek env Q E = (ed env (fun d => ek env (fun k => ∃ w r, d.ow = some w ∧ w.get k = some (some r) ∧ Q r) E) E) := rfl
theorem eInD_W (ek ed : DX) {env} {Q} {E} : eInD ek ed env Q E = (ek env (fun k => ed env (fun d => ∃ w r, d.ow = some w ∧ w.get k = some r ∧ Q (.bl r.isSome)) E) E) := rfl
theorem eNotInD_W (ek ed : DX) {env} {Q} {E} : eNotInD ek ed env Q E = (ek env (fun k => ed env (fun d => ∃ w r, d.ow = some w ∧ w.get k = some r ∧ Q (.bl (!r.isSome))) E) E) := rfl
theorem sOwnD_W (j : Nat) (t : Bool) {d} {env} : sOwnD j t d env = (d.nx (env.set j (.own (if t = true then .dt [] [] else .dk [] [])))) := rfl
theorem sPutD_W (i : Nat) (ek e : DX) {d} {env} : sPutD i ek e d env = (match env[i]? with
  | some (.own w) => e env (fun y => ek env (fun k => w.keysN ∧ ∃ w', w.put k y = some w' ∧ d.nx (env.set i (.own w'))) (d.xc env)) (d.xc env)
  | _ => False) := rfl
end Mine

namespace Mine
open PySem PySem.Spec PyProof.Rows L2
/-! ### C.m(..), m a static method -/
/-- C's attributes are read the usual way; C.m is a static method, its def at g -/
structure StaOf (K : PySem.W.Frag) (C : Addr) (m : Str) (g : Addr) : Prop where
  rd : PySem.W.readsIn K C (.type "type") = true
  ga : PySem.W.specialIn K (.ref C) "__getattribute__" = some (some (.builtin "type.__getattribute__"))
  at_ : ∃ p, PySem.W.findCls K (.ref C) (.type "type") m = some (.get (.builtin "staticmethod.__get__") (.ref p) .none (.ref C)) ∧ ∃ rest, PySem.W.recIn K p "staticmethod" = some (.ref g :: rest)
section
variable {X : Cx} {CX : CXT} {k : Nat} {C g : Addr} {sp : Sp} {E : XK} {e : Expr} {es : List Expr} {x m : Str} {pos apos p0 : Pos} {t : TA} {pl : Sem Bool} {fd : FuncData} {ps : List Str} {ds : List Value} {dvs : List V}
end
end Mine

namespace Mine
open PySem PySem.Spec PyProof.Rows L2
/-! ### range(a, b, -1) -/
section
variable {C : Bc} {S : SS} {ta : TA} {ea : DAX}
end
/-! ### isinstance of one's own classes: what of the text it asks -/
structure InsK (K : PySem.W.Frag) (C : Addr) : Prop where
  ha : PySem.W.findIn K (.ref C) "__class__" = some (some (.builtin "object.__class__"))
  hn : PySem.W.specialIn K (.builtin "object.__class__") "__get__" = some (some (.builtin "getset_descriptor.__get__"))
  htk : PySem.W.takesIn K (.builtin "object.__class__") = some true
  hm : PySem.W.mroIn K C (.type "object") = some true
/-! ### within a try: makings, methods, static methods -/
section
variable {X : Cx} {CX : CXT} {k : Nat} {f C g : Addr} {fd : FuncData} {ps : List Str} {sp : Sp} {dvs : List V} {ds : List Value} {E : L2.St → XK} {x m : Str} {p pos apos p0 : Pos} {e o : Expr} {es : List Expr} {ta : TE} {t : TA} {pl : Sem Bool}
end
section
variable {C : Bc} {F : DFn} {cls c m : Str} {dvs : List V} {dd : List Sl} {t : TA} {a : DSX} {te : TE} {ea : DX}
end
end Mine

namespace Mine
open PySem PySem.Spec PyProof.Rows L2
/-! ### math.gcd, math.comb -/
section
variable {C : Bc}
end
/-! ### sep.join(a list of texts) -/
/-! ### a text walked through, and numbered -/
section
variable {C : Bc} {S : SS} {ta : TA} {ea : DAX} {tl : TE} {el : DX}
end
/-! ### a text times a number -/
end Mine

namespace Mine
open PySem PySem.Spec PyProof.Rows L2
/-! ### == of instances whose class has its own __eq__ -/
/-- what of the text == of the classes in the table asks -/
structure EqTab (K : PySem.W.Frag) (tabE : Str → Option DFn) (tabC : Str → Bool) : Prop where
  kin : ∀ c F, tabE c = some F → ∀ n, n ∈ ["NoneType", "bool", "int", "str", "tuple", "list", "dict"] → PySem.W.notFirst K (He.ga K c) (.type n) = true
  own : ∀ c F c', tabE c = some F → tabC c' = true → PySem.W.notFirst K (He.ga K c) (.ref (He.ga K c')) = true
  ins : ∀ c', tabC c' = true → ∀ (H : Hp) (a dx : Addr) (fs : List (Str × V)), H a = some (.ins (He.ga K c') dx fs) → TyX K H (.ref a) (.ref (He.ga K c'))
end Mine

namespace PySem
open PySem.SeqAt AutoSeq1 MeetsSeq PySem.W
section
variable {prog : Program} {w : World} {A : Around} {E : Value → Shared → Prop} {s : Shared} {K : Frag} {x C L f : Addr} {h₀ : Heap} {m : Str → Option Value} {ox : Obj} {od : Option Obj} {a : Value} {Ta ida : String}
end
end PySem

namespace Mine
open PySem PySem.Spec PyProof.Rows L2
/-! ### a built-in value == an instance whose class has its own __eq__ -/
inductive TyP (H : Hp) : V → String → Prop
  | non : TyP H .non "NoneType"
  | bl (b : Bool) : TyP H (.bl b) "bool"
  | int (i : Int) : TyP H (.int i) "int"
  | str (s : Str) : TyP H (.str s) "str"
  | lst {a : Addr} {xs : List V} (e : H a = some (.lst xs)) : TyP H (.ref a) "list"
  | tup {a : Addr} {xs : List V} (e : H a = some (.tup xs)) : TyP H (.ref a) "tuple"
abbrev kinds6 : List String := ["NoneType", "bool", "int", "str", "tuple", "list"]
theorem TyP.mem {H : Hp} {x : V} {n : String} (h : TyP H x n) : n ∈ kinds6 := by cases h <;> decide
structure EqTab2 (K : PySem.W.Frag) (tabE : Str → Option DFn) (tabC : Str → Bool) : Prop extends EqTab K tabE tabC where
  sub : ∀ c F, tabE c = some F → ∀ n, n ∈ kinds6 → PySem.W.subIn K (.ref (He.ga K c)) (.type n) = some false
end Mine

namespace Mine
open PySem PySem.Spec PyProof.Rows L2
/-! ### the tables for == of own classes -/
structure EqsOk (K : PySem.W.Frag) (cs : List Str) : Prop where
  kin : ∀ c, c ∈ cs → ∀ n, n ∈ ["NoneType", "bool", "int", "str", "tuple", "list", "dict"] → PySem.W.notFirst K (He.ga K c) (.type n) = true
  sub : ∀ c, c ∈ cs → ∀ n, n ∈ kinds6 → PySem.W.subIn K (.ref (He.ga K c)) (.type n) = some false
  own : ∀ c, c ∈ cs → ∀ c', c' ∈ cs → PySem.W.notFirst K (He.ga K c) (.ref (He.ga K c')) = true
/-! what == says in the pure part -/
section
variable {tabE : Str → Option DFn} {tabC : Str → Bool} {Q : Dt → Prop}
end
end Mine

namespace Mine
open PySem PySem.Spec PyProof.Rows L2
/-! ### len(set(xs)) of whole numbers; targets of four and five names -/
section
variable {C : Bc}
end
end Mine

namespace Mine
open PySem PySem.Spec PyProof.Rows L2
/-! ### list(range(..)), tuple(range(..)) -/
def eRgL (a b : DX) (k : List Dt → Dt) : DX := fun env Q E => a env (fun x => b env (fun y => match x, y with
  | .int i, .int j => (-(2 ^ 62) ≤ i ∧ i < 2 ^ 62 ∧ -(2 ^ 62) ≤ j ∧ j < 2 ^ 62 ∧ (j - i).toNat ≤ 16777216) ∧ Q (k ((List.range (j - i).toNat).map fun n : Nat => Dt.int (i + (n : Nat))))
  | _, _ => False) E) E
theorem eRgL_W (a b : DX) (k : List Dt → Dt) {env} {Q} {E} : eRgL a b k env Q E = a env (fun x => b env (fun y => match x, y with
  | .int i, .int j => (-(2 ^ 62) ≤ i ∧ i < 2 ^ 62 ∧ -(2 ^ 62) ≤ j ∧ j < 2 ^ 62 ∧ (j - i).toNat ≤ 16777216) ∧ Q (k ((List.range (j - i).toNat).map fun n : Nat => Dt.int (i + (n : Nat))))
  | _, _ => False) E) E := rfl
theorem den_rg {K : PySem.W.Frag} {H : Hp} (i j : Int) : DenAll K H (rgV i j) ((List.range (j - i).toNat).map fun n : Nat => Dt.int (i + (n : Nat))) := by
  unfold rgV
  generalize List.range (j - i).toNat = l
  induction l with
  | nil => exact .nil
  | cons x l ih => exact .cons (.int _) ih
section
variable {C : Bc} {ta tb : TE} {a b : DX}
theorem rg_core (ha : DE C ta a) (hb : DE C tb b) {X env σ H} {Qd : Dt → Prop} {Qx : Xc → Prop} {k : List Dt → Dt} {R : Int → Int → Hp → Prop} (rp : Rep C X env σ H) (h : eRgL a b k env Qd Qx) (x : XOk C X σ H Qx)
    (q : ∀ i j H', Frm C.hd H H' → Rep C X env σ H' → RgOk i j → Qd (k ((List.range (j - i).toNat).map fun n : Nat => Dt.int (i + (n : Nat)))) → R i j H') : tRg2 ta tb σ H R := by
  refine ha X env σ H _ _ Qx rp h (fun d v H1 f1 r1 h1 => ?_) x
  have rp1 := rp.step f1
  refine hb X env σ H1 _ _ Qx rp1 h1 (fun d2 v2 H2 f2 r2 h2 => ?_) (x.step f1)
  have r1 : Den C.K (vis H2 X) v d := Den.mono (rp1.vs f2) r1
  have r2 : Den C.K (vis H2 X) v2 d2 := r2
  split at h2
  · exact ⟨_, _, r1.flat rfl, r2.flat rfl, q _ _ _ (f1.trans f2) (rp1.step f2) h2.1 h2.2⟩
  · exact h2.elim
theorem df_listRg (ha : DE C ta a) (hb : DE C tb b) : DF C (tLstRg (tRg2 ta tb)) (eRgL a b .lst) := by
  intro X env σ H Q Qd Qx rp h q x
  exact rg_core ha hb rp h x fun i j H' f r ok h' => ⟨ok, fun p hp => q _ _ _ (f.trans (.upd hp)) (Fsh.frm rp f (fsh_new r hp (den_rg i j))) h'⟩
end
end Mine

namespace Mine
open PySem PySem.Spec PyProof.Rows L2 PpSet
/-! ### a set comprehension whose items are tuples of whole numbers -/
section
variable {P : Program} {w : World} {A : Around} {E : Value → Shared → Prop} {s : Shared} {a : Addr} {L : List (Addr × List Int)} {es : Array (Int × Value)} {ep : Nat} {t : SetTable}
end
section
variable {X : Cx}
end
end Mine

namespace Mine
open PySem PySem.Spec PyProof.Rows L2 PpSet
/-! ### sorted({e for x in xs}), e tuples of whole numbers -/
end Mine

namespace Mine
open PySem PySem.Spec PyProof.Rows L2
/-! ### f'..{e}..' of texts and whole numbers -/
/-- the parts one by one -/
inductive DJ (C : Bc) : List TE → List DX → Prop where
  | nil : DJ C [] []
  | cons {t : TE} {a : DX} {ts : List TE} {as : List DX} (h : DE C t a) (r : DJ C ts as) : DJ C (t :: ts) (a :: as)
section
variable {C : Bc}
end
/-! ### text.find(sign), text.count(sign), text.startswith(..) -/
def eTm (k : Str → Str → Dt) (a b : DX) : DX := fun env Q E => a env (fun x => match x with
  | .str u => b env (fun y => match y with
    | .str z => Q (k u z)
    | _ => False) E
  | _ => False) E
theorem eTm_W (k : Str → Str → Dt) (a b : DX) {env} {Q} {E} : eTm k a b env Q E = a env (fun x => match x with
  | .str u => b env (fun y => match y with
    | .str z => Q (k u z)
    | _ => False) E
  | _ => False) E := rfl
end Mine

namespace Mine
open PySem PySem.Spec PyProof.Rows L2
/-! ### a comprehension within a comprehension -/
end Mine

namespace Mine
open PySem PySem.Spec PyProof.Rows L2
/-! ### a or b, a a text -/
end Mine

namespace ZN
open PySem
section
variable {M : Model} {A : Around} {E : Value → Shared → Prop}
end
structure Ap (z TI TO : Addr) (p : List (Addr × Addr)) : Prop where
  TIz : TI ≠ z
  TOz : TO ≠ z
  TITO : TI ≠ TO
  nd : (p.map (·.1)).Nodup
  iz : ∀ q ∈ p, q.1 ≠ z
  iTI : ∀ q ∈ p, TI ≠ q.1
  iTO : ∀ q ∈ p, TO ≠ q.1
  lz : ∀ q ∈ p, q.2 ≠ z
  lTO : ∀ q ∈ p, q.2 ≠ TO
  li : ∀ q ∈ p, ∀ r ∈ p, q.2 ≠ r.1
section
variable {prog : Program} {w : World} {A : Around} {E : Value → Shared → Prop} {s : Shared}
/-! made of four lists -/
abbrev li (l : Addr) : Obj := { cls := .type "list_iterator", data := .fields #[.ref l, .int 0 0] }
end
end ZN

namespace Mine
open PySem PySem.Spec PyProof.Rows L2 ZN
/-! ### zip(*xs) of four lists, one name for what it gives -/
def eZipS (a : DX) : DAX := fun env Q E => a env (fun d => ∃ (n : Nat) (xs : List (List Dt)), d = .lst (xs.map .lst) ∧ xs.length = 4 ∧ (∀ l ∈ xs, l.length = n) ∧ Q ((List.range n).map fun i => .tup (xs.map fun l => l.getD i .non))) E
theorem eZipS_W (a : DX) {env} {Q} {E} : eZipS a env Q E = a env (fun d => ∃ (n : Nat) (xs : List (List Dt)), d = .lst (xs.map .lst) ∧ xs.length = 4 ∧ (∀ l ∈ xs, l.length = n) ∧ Q ((List.range n).map fun i => .tup (xs.map fun l => l.getD i .non))) E := rfl
theorem Den.lstI {K : PySem.W.Frag} {H : Hp} {v : V} {ds : List Dt} (h : Den K H v (.lst ds)) : ∃ a xs, v = .ref a ∧ H a = some (.lst xs) ∧ DenAll K H xs ds := by
  cases h with
  | lst e a => exact ⟨_, _, rfl, e, a⟩
theorem DenAll.cons_inv {K : PySem.W.Frag} {H : Hp} {vs : List V} {d : Dt} {ds : List Dt} (h : DenAll K H vs (d :: ds)) : ∃ v vs', vs = v :: vs' ∧ Den K H v d ∧ DenAll K H vs' ds := by
  cases h with
  | cons a b => exact ⟨_, _, rfl, a, b⟩
theorem DenAll.nil_inv {K : PySem.W.Frag} {H : Hp} {vs : List V} (h : DenAll K H vs []) : vs = [] := by
  cases h; rfl
end Mine

namespace Mine
open PySem PySem.Spec PyProof.Rows L2
/-! ### a list of one's own handed to a def that only reads it: it stays one's own -/
section
variable {C : Bc} {X : Addr → Prop} {env : List Sl} {σ : L2.St} {H H1 : Hp}
theorem Rep.frz2 (r : Rep C X env σ H) {i : Nat} {xs : Ow} (e : env[i]? = some (.own xs)) : ∃ p vs, σ[i]? = some (some (.ref p)) ∧ X p ∧ ¬ C.X0 p ∧ H p = some vs ∧ DenO C.K (vis H X) vs xs ∧ Rep C (fun a => X a ∧ a ≠ p) (Mine.frz env i) σ H := by
  unfold Mine.frz
  rw [e]
  obtain ⟨o, es, p, vs, rfl, x1, x2, h1, h2⟩ := r.slot i _ e
  have hl : i < env.length := (List.getElem?_eq_some_iff.mp e).1
  have sm : Same (vis H X) (vis H fun a => X a ∧ a ≠ p) := vis_anti fun a z => z.1
  refine ⟨p, vs, es, x1, x2, h1, h2, ⟨by rw [List.length_set, r.len], fun a z => ⟨r.sup a z, fun q => x2 (q ▸ z)⟩, fun a z => r.new a z.1, fun a z => r.al a z.1, r.frm, r.hands, fun j s q => ?_, r.ap.setS fun _ _ _ f => f.elim, r.one.set fun _ _ _ z => by cases z⟩⟩
  · rw [List.getElem?_set] at q
    by_cases c : i = j
    · subst c
      rw [if_pos rfl, if_pos hl] at q
      cases q
      exact ⟨_, es, _, rfl, (h2.mono sm).fz (vis_mk (fun z => z.2 rfl) h1)⟩
    · rw [if_neg c] at q
      obtain ⟨o, e1, w⟩ := r.slot j s q
      refine ⟨o, e1, ?_⟩
      cases s with
      | no => trivial
      | d x => obtain ⟨v, e2, h⟩ := w; exact ⟨v, e2, h.mono sm⟩
      | own ys =>
        obtain ⟨p', us, rfl, y1, y2, y3, y4⟩ := w
        have ne : p' ≠ p := fun z => r.inj i j xs ys c e q (by rw [es, e1, z])
        exact ⟨p', us, rfl, ⟨y1, ne⟩, y2, y3, y4.mono sm⟩
      | hand => exact w
      | exc c' fs => exact w.exc sm
      | ins C0 ns ds =>
        obtain ⟨p', dx, us, rfl, y1, y2, y3, yl, y4⟩ := w
        have ne : p' ≠ p := fun z => by rw [z, h1] at y3; cases y3; exact h2.noins
        exact ⟨p', dx, us, rfl, ⟨y1, ne⟩, y2, y3, yl, y4.mono sm⟩
      | tab p2 qs rows => exact w.tab_to (fun a ha x => ⟨x, fun z => r.ap i j _ _ _ _ p c e q es e1 rfl (show p ∈ p2 :: qs from z ▸ ha)⟩) (fun _ _ _ h => h) sm
end
/-- x = e, the list of one's own in slot i is handed on within e: what comes back is no part of it -/
def sKeep (i j : Nat) (e : DX) : DSt := fun d env => match env[i]? with
  | some (.own w) => e (frz env i) (fun x => ((∃ z, x = .int z) ∨ ∃ (ns : List Int) (xs : List Dt), x = .lst (ns.map .int) ∧ w = .lst xs ∧ ∃ y ∈ xs, y.flat = none) ∧ d.nx (env.set j (.d x))) (d.xc (frz env i))
  | _ => False
theorem sKeep_W (i j : Nat) (e : DX) {d} {env} : sKeep i j e d env = (match env[i]? with
  | some (.own w) => e (frz env i) (fun x => ((∃ z, x = .int z) ∨ ∃ (ns : List Int) (xs : List Dt), x = .lst (ns.map .int) ∧ w = .lst xs ∧ ∃ y ∈ xs, y.flat = none) ∧ d.nx (env.set j (.d x))) (d.xc (frz env i))
  | _ => False) := rfl
theorem DenAll.intsV {K : PySem.W.Frag} {H : Hp} {ns : List Int} : ∀ {vs : List V}, DenAll K H vs (ns.map .int) → vs = ns.map V.int := by
  induction ns with
  | nil => intro vs h; exact h.nil_inv
  | cons n ns ih =>
    intro vs h
    rw [List.map_cons] at h
    obtain ⟨v, vs', rfl, a, b⟩ := h.cons_inv
    rw [ih b, a.flat (u := .int n) rfl]; rfl
theorem dst_keep {C : Bc} {te : TE} {e : DX} {i j : Nat} (he : DE C te e) : DS C (tAsg te (gName j)) (sKeep i j e) := by
  intro X env σ H D d r l h
  unfold sKeep at h
  split at h
  · rename_i w e1
    obtain ⟨p, u, es, x1, x2, h1, h2, r2⟩ := r.frz2 e1
    have sm : Same (vis H X) (vis H fun a => X a ∧ a ≠ p) := vis_anti fun a z => z.1
    refine he _ _ σ H _ _ _ r2 h (fun x v H1 f1 r1 q => ?_) ((l.step sm).xok r2)
    have r1 : Den C.K (vis H1 fun a => X a ∧ a ≠ p) v x := r1
    have h1' : H1 p = some u := f1.1 p _ h1 (r.nh x2)
    have den : Den C.K (vis H1 X) v x := by
      rcases q.1 with ⟨z, rfl⟩ | ⟨ns, xs, rfl, rfl, y, hy, hf⟩
      · rw [r1.flat (u := .int z) rfl]; exact .int z
      · obtain ⟨a, vs, rfl, g, den⟩ := r1.lstI
        obtain ⟨n1, g1⟩ := vis_of g
        have hv := den.intsV
        have nX : ¬ X a := fun xa => by
          by_cases c : a = p
          · subst c
            rw [g1] at h1'
            cases h1'
            cases h2 with
            | lst da =>
              obtain ⟨k, hk⟩ := List.mem_iff_getElem?.mp hy
              obtain ⟨v0, ev, dv⟩ := da.get hk
              rw [hv, List.getElem?_map, Option.map_eq_some_iff] at ev
              obtain ⟨z, _, rfl⟩ := ev
              cases dv <;> first | cases hf
          · exact n1 ⟨xa, c⟩
        rw [hv] at g1
        exact .lst (vis_mk nX g1) (DenAll.ints ns)
    exact l.nx X _ _ H1 ((r.step f1).set j den) (r.vs f1) q.2
  · exact h.elim
end Mine

namespace Mine
open PySem PySem.Spec PyProof.Rows L2 GenW
/-! ### generators: if and for around a yield -/
section
variable {prog : Program} {w : World} {A : Around} {R : GenEnd} {Y : Protocol} {n : Nat} {s₀ : Shared} {fs : List Frame} {s : Shared} {env : Env}
end
section
variable {X : Cx} {pos : Pos}
end
/-! ### generators over data -/
structure GDn where
  nx : List Dt → List Sl → Prop
  xc : List Sl → Xc → Prop
abbrev DGt := GDn → List Dt → List Sl → Prop
structure GLnk (C : Bc) (X : Addr → Prop) (H : Hp) (D : GEnds) (d : GDn) : Prop where
  nx : ∀ X' env σ H' ys ds, Rep C X' env σ H' → Same (vis H X) (vis H' X') → DenAll C.K (vis H' X') ys ds → d.nx ds env → D.nx ys σ H'
  xc : ∀ X' env σ H' x cls dx, Rep C X' env σ H' → Same (vis H X) (vis H' X') → XRep C.K (vis H' X') cls dx x → d.xc env x → C.E σ cls dx H'
section
variable {C : Bc} {X X1 : Addr → Prop} {env : List Sl} {σ : L2.St} {H H1 : Hp} {D : GEnds} {d : GDn}
theorem GLnk.step (l : GLnk C X H D d) (s : Same (vis H X) (vis H1 X1)) : GLnk C X1 H1 D d where
  nx := fun X' env σ H' ys ds r k a h => l.nx X' env σ H' ys ds r (s.trans k) a h
  xc := fun X' env σ H' x cls dx r k a h => l.xc X' env σ H' x cls dx r (s.trans k) a h
theorem GLnk.xok (l : GLnk C X H D d) (r : Rep C X env σ H) : XOk C X σ H (d.xc env) := fun x cls dx H' f a h => l.xc X env σ H' x cls dx (r.step f) (r.vs f) a h
end
def gPlain (s : DSt) : DGt := fun d acc env => s ⟨fun e => d.nx acc e, fun _ => False, fun _ => False, fun _ => False, d.xc⟩ env
def gSeq (a b : DGt) : DGt := fun d acc env => a { d with nx := fun acc' e => b d acc' e } acc env
def gNext : DGt := fun d acc env => d.nx acc env
def gIf (c : DTX) (a b : DGt) : DGt := fun d acc env => c env (fun k => if k = true then a d acc env else b d acc env) (d.xc env)
def gYield (e : DX) : DGt := fun d acc env => acc.length < LINE ∧ e env (fun x => d.nx (acc ++ [x]) env) (d.xc env)
def dGFor (f : DGX) (b : DGt) (d : GDn) : List Dt → List Dt → List Sl → Prop
  | [], acc, env => d.nx acc env
  | x :: xs, acc, env => f x env fun env' => b { d with nx := dGFor f b d xs } acc env'
def gFor (src : DAX) (f : DGX) (b : DGt) : DGt := fun d acc env => src env (fun ds => dGFor f b d ds acc env) (d.xc env)
section
variable {C : Bc} {t : TS} {s : DSt} {tc : TT} {ec : DTX} {te : TE} {e : DX} {tu tv : TGn} {a b : DGt} {wi : TI} {g : TG} {src : DAX} {f : DGX} {js : List Nat}
end
def mkG (np N : Nat) (s : DGt) : DFn := fun args Q E => args.length = np ∧ s ⟨fun acc _ => Q (.lst acc), fun _ x => E x⟩ [] (args ++ List.replicate (N - np) .no)
section
variable {P : Program} {w : World} {K : PySem.W.Frag} {mg : Str → Option Value} {base : Heap} {x qual : Str} {params : Arguments} {body : List Stmt} {scope : Scope} {dvs : List V} {kws : List (Str × V)} {f : Addr} {fd : FuncData}
end
section
variable {C : Bc} {F : DFn} {dvs : List V} {dd : List Sl} {t : TA} {a : DSX}
end
/-! ### monotone: calls, fields -/
/-! ### equations -/
theorem mkG_W {np N : Nat} {s : DGt} {args : List Sl} {Q : Dt → Prop} {E : Xc → Prop} : mkG np N s args Q E = (args.length = np ∧ s ⟨fun acc _ => Q (.lst acc), fun _ x => E x⟩ [] (args ++ List.replicate (N - np) .no)) := rfl
theorem gPlain_W {s : DSt} {d : GDn} {acc : List Dt} {env : List Sl} : gPlain s d acc env = s ⟨fun e => d.nx acc e, fun _ => False, fun _ => False, fun _ => False, d.xc⟩ env := rfl
theorem gSeq_W {a b : DGt} {d : GDn} {acc : List Dt} {env : List Sl} : gSeq a b d acc env = a { d with nx := fun acc' e => b d acc' e } acc env := rfl
theorem gNext_W {d : GDn} {acc : List Dt} {env : List Sl} : gNext d acc env = d.nx acc env := rfl
theorem gIf_W {c : DTX} {a b : DGt} {d : GDn} {acc : List Dt} {env : List Sl} : gIf c a b d acc env = c env (fun k => if k = true then a d acc env else b d acc env) (d.xc env) := rfl
theorem gYield_W {e : DX} {d : GDn} {acc : List Dt} {env : List Sl} : gYield e d acc env = (acc.length < LINE ∧ e env (fun x => d.nx (acc ++ [x]) env) (d.xc env)) := rfl
theorem gFor_W {src : DAX} {f : DGX} {b : DGt} {d : GDn} {acc : List Dt} {env : List Sl} : gFor src f b d acc env = src env (fun ds => dGFor f b d ds acc env) (d.xc env) := rfl
end Mine

namespace Mine
open PySem PySem.Spec PyProof.Rows L2
/-! ### rows = [a new list for ..]; rows[k1][k2] = a whole number, right behind: both rows together -/
section
variable {C : Bc} {X : Addr → Prop} {env : List Sl} {σ : L2.St} {H H1 H2 : Hp}
end
theorem rows_den {K : PySem.W.Frag} {H : Hp} : ∀ {qs : List Addr} {dss : List (List Dt)}, qs.length = dss.length → (∀ (j : Nat) (q : Addr) (ds : List Dt), qs[j]? = some q → dss[j]? = some ds → ∃ us, H q = some (.lst us) ∧ DenAll K H us ds) → DenAll K H (qs.map V.ref) (dss.map Dt.lst)
  | [], [], _, _ => .nil
  | [], _ :: _, h, _ => by cases h
  | _ :: _, [], h, _ => by cases h
  | q :: qs, ds :: dss, hl, h => by
    obtain ⟨us, h1, h2⟩ := h 0 q ds rfl rfl
    exact .cons (.lst h1 h2) (rows_den (by simpa using hl) fun j q' ds' e1 e2 => h (j + 1) q' ds' (by simpa using e1) (by simpa using e2))
def sRowPut (i : Nat) (lc ev e1 e2 : DX) : DSt := fun d env => i < env.length ∧ lc env (fun r => match r with
  | .lst rows => ev (env.set i .no) (fun v => match v with
    | .int z => e1 (env.set i .no) (fun a => match a with
      | .int m => ∃ m' : Nat, ixN rows.length m = some m' ∧ e2 (env.set i .no) (fun b => match b with
        | .int j => ∃ (j' : Nat) (ds : List Dt), rows[m']? = some (.lst ds) ∧ ixN ds.length j = some j' ∧ d.nx (env.set i (.d (.lst (rows.set m' (.lst (ds.set j' (.int z)))))))
        | _ => False) (d.xc (env.set i .no))
      | _ => False) (d.xc (env.set i .no))
    | _ => False) (d.xc (env.set i .no))
  | _ => False) (d.xc env)
section
variable {C : Bc} {wi : TI} {g : TG} {tt : TT} {te tv t1 t2 : TE} {vs : List Nat} {src : DAX} {f : DGX} {et : DTX} {ee ev e1 e2 : DX} {u : TS} {s : DSt} {i : Nat}
end
theorem sRowPut_W {i : Nat} {lc ev e1 e2 : DX} {d : DEn} {env : List Sl} : sRowPut i lc ev e1 e2 d env = (i < env.length ∧ lc env (fun r => match r with
  | .lst rows => ev (env.set i .no) (fun v => match v with
    | .int z => e1 (env.set i .no) (fun a => match a with
      | .int m => ∃ m' : Nat, ixN rows.length m = some m' ∧ e2 (env.set i .no) (fun b => match b with
        | .int j => ∃ (j' : Nat) (ds : List Dt), rows[m']? = some (.lst ds) ∧ ixN ds.length j = some j' ∧ d.nx (env.set i (.d (.lst (rows.set m' (.lst (ds.set j' (.int z)))))))
        | _ => False) (d.xc (env.set i .no))
      | _ => False) (d.xc (env.set i .no))
    | _ => False) (d.xc (env.set i .no))
  | _ => False) (d.xc env)) := rfl
end Mine

namespace Mine
open PySem PySem.Spec PyProof.Rows L2
/-! ### l.count(x) of any plain things -/
def eCnt (a b : DX) : DX := fun env Q E => a env (fun x => match x with
  | .lst ys => b env (fun z => z.sh ∧ Dt.sh (.lst ys) ∧ Q (.int ((ys.countP fun y => y.eqv z : Nat)))) E
  | _ => False) E
theorem eCnt_W (a b : DX) {env} {Q} {E} : eCnt a b env Q E = a env (fun x => match x with
  | .lst ys => b env (fun z => z.sh ∧ Dt.sh (.lst ys) ∧ Q (.int ((ys.countP fun y => y.eqv z : Nat)))) E
  | _ => False) E := rfl
end Mine

namespace Mine
open PySem PySem.Spec PyProof.Rows L2
/-! ### sorted(set(xs)) of whole numbers -/
def eSortedSetI (a : DX) : DX := fun env Q E => a env (fun d => ∃ ns : List Int, d = .lst (ns.map Dt.int) ∧ ns.length < 64 ∧ ∀ ms : List Int, ms.Pairwise (· < ·) → (∀ x, x ∈ ms ↔ x ∈ ns) → Q (.lst (ms.map Dt.int))) E
theorem eSortedSetI_W (a : DX) {env} {Q} {E} : eSortedSetI a env Q E = a env (fun d => ∃ ns : List Int, d = .lst (ns.map Dt.int) ∧ ns.length < 64 ∧ ∀ ms : List Int, ms.Pairwise (· < ·) → (∀ x, x ∈ ms ↔ x ∈ ns) → Q (.lst (ms.map Dt.int))) E := rfl
end Mine

namespace Mine
open PySem PySem.Spec PyProof.Rows L2
/-! ### tables of sets, of any mask 2 ^ e - 1: the way x -> 5 x + 1 meets each slot -/
def five : Nat → Nat → Nat
  | 0, x => x
  | n + 1, x => five n x * 5 + 1
theorem five_add (a x : Nat) : ∀ b, five (a + b) x = five b (five a x)
  | 0 => rfl
  | b + 1 => by show five (a + b) x * 5 + 1 = five b (five a x) * 5 + 1; rw [five_add a x b]
theorem five_pow : ∀ k, ∃ s t, ∀ x, five (2 ^ k) x = (1 + 4 * 2 ^ k * s) * x + 2 ^ k * (2 * t + 1)
  | 0 => ⟨1, 0, fun x => by show x * 5 + 1 = (1 + 4 * 1 * 1) * x + 1 * (2 * 0 + 1); omega⟩
  | k + 1 => by
    obtain ⟨s, t, h⟩ := five_pow k
    refine ⟨s + 2 * 2 ^ k * (s * s), t + 2 ^ k * s * (2 * t + 1), fun x => ?_⟩
    rw [Nat.pow_succ, Nat.mul_two, five_add, h, h]
    generalize 2 ^ k = K
    grind
theorem five_all : ∀ k i j, j < 2 ^ k → ∃ n, n < 2 ^ k ∧ five n i % 2 ^ k = j
  | 0, i, j, h => ⟨0, by decide, by rw [Nat.pow_zero, Nat.mod_one]; omega⟩
  | k + 1, i, j, h => by
    have pk : 0 < 2 ^ k := Nat.pow_pos (by decide)
    obtain ⟨n, hn, e⟩ := five_all k i (j % 2 ^ k) (Nat.mod_lt _ pk)
    obtain ⟨s, t, h5⟩ := five_pow k
    have e2 : 2 ^ (k + 1) = 2 * 2 ^ k := by rw [Nat.pow_succ, Nat.mul_comm]
    rw [e2] at h ⊢
    by_cases c : five n i % (2 * 2 ^ k) = j
    · exact ⟨n, by omega, c⟩
    · refine ⟨n + 2 ^ k, by omega, ?_⟩
      rw [five_add, h5]
      generalize five n i = y at e c
      generalize 2 ^ k = K at *
      have r1 := Nat.div_add_mod y K
      have r2 := Nat.div_add_mod j K
      have hb : j / K < 2 := Nat.div_lt_of_lt_mul (by rw [Nat.mul_comm]; exact h)
      have hq := Nat.div_add_mod (y / K) 2
      have hr := Nat.mod_lt (y / K) (show 0 < 2 by decide)
      rw [e] at r1
      -- y = K q + r, j = K b + r, q and b of unlike parity
      have ne : y / K % 2 ≠ j / K := fun z => c (by
        rw [← r1, ← hq, z, Nat.mul_add, ← Nat.mul_assoc, Nat.mul_comm K 2, Nat.add_assoc, Nat.mul_add_mod, r2]
        exact Nat.mod_eq_of_lt h)
      have main : ∃ m, (1 + 4 * K * s) * y + K * (2 * t + 1) = 2 * K * m + j := by
        generalize y / K = q at *
        generalize j / K = b at *
        generalize j % K = r at *
        have q1 : q % 2 = 0 ∧ b = 1 ∨ q % 2 = 1 ∧ b = 0 := by omega
        rcases q1 with ⟨a1, a2⟩ | ⟨a1, a2⟩
        · refine ⟨q / 2 + 2 * s * y + t, ?_⟩
          rw [a1] at hq; rw [a2] at r2
          generalize q / 2 = u at *
          subst hq; subst r2; subst r1
          grind
        · refine ⟨q / 2 + 1 + 2 * s * y + t, ?_⟩
          rw [a1] at hq; rw [a2] at r2
          generalize q / 2 = u at *
          subst hq; subst r2; subst r1
          grind
      obtain ⟨m, hm⟩ := main
      rw [hm, Nat.mul_add_mod]
      exact Nat.mod_eq_of_lt h
/-- the masks -/
def MaskG (m : Nat) : Prop := ∃ e, m + 1 = 2 ^ e ∧ (e = 3 ∨ e = 5 ∨ e = 7 ∨ e = 9 ∨ e = 11 ∨ e = 13)
theorem MaskG.six {m : Nat} (h : MaskG m) : m = 7 ∨ m = 31 ∨ m = 127 ∨ m = 511 ∨ m = 2047 ∨ m = 8191 := by
  obtain ⟨e, h1, rfl | rfl | rfl | rfl | rfl | rfl⟩ := h <;> omega
theorem MaskG.odd {m : Nat} (h : MaskG m) : m % 2 = 1 ∧ 7 ≤ m ∧ m ≤ 8191 := by
  have := h.six
  omega
theorem lcg_five {m i : Nat} (hi : i ≤ m) : ∀ n, lcgI m i n = five n i % (m + 1)
  | 0 => (Nat.mod_eq_of_lt (Nat.lt_succ_of_le hi)).symm
  | n + 1 => by
    show (lcgI m i n * 5 + 1) % (m + 1) = (five n i * 5 + 1) % (m + 1)
    rw [lcg_five hi n, Nat.add_mod, Nat.mul_mod, Nat.mod_mod, ← Nat.mul_mod, ← Nat.add_mod]
theorem MaskG.all {m : Nat} (h : MaskG m) {i j : Nat} (hi : i ≤ m) (hj : j ≤ m) : ∃ k, k ≤ m ∧ lcgI m i k = j := by
  obtain ⟨e, he, _⟩ := h
  obtain ⟨n, hn, en⟩ := five_all e i j (by omega)
  exact ⟨n, by omega, by rw [lcg_five hi, he]; exact en⟩
theorem MaskG.run {m : Nat} (hm : MaskG m) (h : Int) {j : Nat} (hj : j ≤ m) : ∃ n, n ≤ m + 12 ∧ runI m (SetTable.bits h) n = j := by
  obtain ⟨k, hk, e⟩ := hm.all (runI_le m (SetTable.bits h) 12) hj
  refine ⟨12 + k, by omega, ?_⟩
  rw [runI_tail (bits_lt h)]; exact e
theorem way_top {m : Nat} (h : Int) (k : Nat) : way m h k ≤ m := by
  have lt : SetTable.bits h % (m + 1) ≤ m := Nat.le_of_lt_succ (Nat.mod_lt _ (Nat.succ_pos _))
  obtain ⟨r1, r2, _⟩ := runEnd_bd lt
  have := nth_in (m := m) k (runAt m (SetTable.bits h % (m + 1)) (SetTable.bits h)) (by unfold runAt; dsimp only; omega)
  exact Nat.le_trans (Nat.le_add_right _ _) this
end Mine

namespace Mine
open PySem PySem.Spec PyProof.Rows L2
/-- places and hashes: each hash finds its place by its way, over taken ones -/
structure Placed (m : Nat) (ps : List Nat) (hs : List Int) : Prop where
  asc : Ris ps
  len : ps.length = hs.length
  top : ∀ x ∈ ps, x ≤ m
  got : ∀ q ∈ ps.zip hs, ∃ k, way m q.2 k = q.1 ∧ ∀ i, i < k → way m q.2 i ∈ ps
structure TabG (t : SetTable) (hs : List Int) : Prop where
  mask : MaskG t.mask
  bare : t.dummies = #[]
  pl : Placed t.mask t.place.toList hs
theorem zip_ins {α β : Type} {l : List α} {l' : List β} {p : Nat} (e : l.length = l'.length) (x : α) (y : β) {q : α × β} (hq : q ∈ (l.take p ++ x :: l.drop p).zip (l'.take p ++ y :: l'.drop p)) : q = (x, y) ∨ q ∈ l.zip l' := by
  rw [List.zip_append (by rw [List.length_take, List.length_take, e]), List.zip_cons_cons, List.mem_append, List.mem_cons] at hq
  have ez : l.zip l' = (l.take p).zip (l'.take p) ++ (l.drop p).zip (l'.drop p) := by
    rw [← List.zip_append (by rw [List.length_take, List.length_take, e]), List.take_append_drop, List.take_append_drop]
  rw [ez, List.mem_append]
  rcases hq with h | h | h
  · exact .inr (.inl h)
  · exact .inl h
  · exact .inr (.inr h)
/-- one more in the table -/
theorem TabG.more {t : SetTable} {hs : List Int} (T : TabG t hs) {h : Int} {K : Nat} (hK : way t.mask h K ∉ t.place.toList) (hb : ∀ k, k < K → way t.mask h k ∈ t.place.toList) {t' : SetTable} {p : Nat} (e : t.put (way t.mask h K) = (t', p)) :
    p ≤ hs.length ∧ TabG t' (hs.take p ++ h :: hs.drop p) ∧ t'.mask = t.mask ∧ t'.led = t.led ∧ t'.plain = t.plain ∧ t'.fill = hs.length + 1 := by
  have top := way_top (m := t.mask) h K
  obtain ⟨j, ej⟩ : ∃ j, way t.mask h K = j := ⟨_, rfl⟩
  rw [ej] at e hK top
  obtain ⟨c1, _, _⟩ := below_cut T.pl.asc j
  have ep : SetTable.below t.place j = p := congrArg Prod.snd e
  have et : (t.put j).1 = t' := congrArg Prod.fst e
  have pp := put_place t j
  have pd := put_dm T.bare j
  have pa : Ris (t.put j).1.place.toList := ris_insert T.pl.asc fun z => hK (List.mem_of_getElem? (by rw [Array.getElem?_toList]; exact z))
  have pm : (t.put j).1.mask = t.mask ∧ (t.put j).1.led = t.led ∧ (t.put j).1.plain = t.plain := ⟨rfl, rfl, rfl⟩
  rw [ep] at pp c1
  rw [et] at pp pd pa pm
  have hl := T.pl.len
  rw [Array.length_toList] at hl
  have lp : t'.place.toList.length = hs.length + 1 := by
    rw [pp, List.length_append, List.length_cons, List.length_take, List.length_drop, Array.length_toList]; omega
  have inn : ∀ {x : Nat}, x ∈ t'.place.toList ↔ x = j ∨ x ∈ t.place.toList := fun {x} => by rw [pp]; exact mem_ins
  refine ⟨by omega, ⟨by rw [pm.1]; exact T.mask, pd, pa, ?_, fun x hx => ?_, fun q hq => ?_⟩, pm.1, pm.2.1, pm.2.2, ?_⟩
  · rw [lp, List.length_append, List.length_cons, List.length_take, List.length_drop]; omega
  · rw [pm.1]
    rcases inn.mp hx with z | z
    · omega
    · exact T.pl.top x z
  · rw [pm.1]
    rw [pp] at hq
    rcases zip_ins T.pl.len j h hq with rfl | z
    · exact ⟨K, ej, fun i hi => inn.mpr (.inr (hb i hi))⟩
    · obtain ⟨k, a, b⟩ := T.pl.got q z
      exact ⟨k, a, fun i hi => inn.mpr (.inr (b i hi))⟩
  · unfold SetTable.fill
    rw [pd, ← Array.length_toList, lp]; rfl
/-- a place for one more when all is laid anew -/
theorem MaskG.free {m : Nat} (hm : MaskG m) (owner : Array (Option Nat)) (h : Int) {j : Nat} (hj : j ≤ m) (hf : oAt owner j = none) :
    ∃ K, SetTable.layClean.free m owner (SetTable.turns m) (SetTable.bits h % (m + 1)) (SetTable.bits h) = some (way m h K) ∧ oAt owner (way m h K) = none ∧ ∀ k, k < K → oAt owner (way m h k) ≠ none := by
  obtain ⟨n, hn, e⟩ := hm.run h hj
  obtain ⟨N, eN⟩ : ∃ N, off m (SetTable.bits h % (m + 1)) (SetTable.bits h) n = N := ⟨_, rfl⟩
  have at_ : way m h N = j := by
    unfold way
    rw [← eN, nth_off, itL_run]; exact e
  obtain ⟨K, a, b, c⟩ := st_least (p := fun i => oAt owner (way m h i) = none) N (by rw [at_]; exact hf)
  refine ⟨K, free_spec m owner (SetTable.turns m) n _ _ K (by unfold SetTable.turns; omega) (by rw [eN]; exact a) (fun i hi => ?_) ?_, b, c⟩
  · have := c i hi
    exact Option.isNone_eq_false_iff.mpr (Option.isSome_iff_ne_none.mpr this)
  · exact Option.isNone_iff_eq_none.mpr b
end Mine

namespace Mine
open PySem PySem.Spec PyProof.Rows L2
/-- a set of tuples of whole numbers at a: its rows, its table -/
structure SetG (P : Program) (w : World) (h : Heap) (a : Addr) (L : List (Addr × List Int)) (es : Array (Int × Value)) (ep : Nat) (t : SetTable) : Prop where
  at_ : ∃ o, h.get? a = some o ∧ o.ExactSet ∧ o.data = .set es ep t
  ents : es.toList = rowsOf P w L
  tab : TabG t (L.map fun p => thash P w p.2)
  keys : (L.map (·.2)).Nodup
  tups : ∀ p ∈ L, IsT P w h p.2 p.1
  byv : t.plain = true
  ldg : w.params.followText "set-order" = true ∨ t.led = true
  free : L.length * 5 < t.mask * 3
section
variable {P : Program} {w : World} {A : Around} {E : Value → Shared → Prop} {s : Shared} {a : Addr} {L : List (Addr × List Int)} {es : Array (Int × Value)} {ep : Nat} {t : SetTable}
theorem ents_len {L : List (Addr × List Int)} {es : Array (Int × Value)} (h : es.toList = rowsOf P w L) : es.size = L.length := by
  rw [← Array.length_toList, h]; exact List.length_map ..
theorem TabG.size {t : SetTable} {hs : List Int} (T : TabG t hs) : t.place.size = hs.length := by rw [← Array.length_toList]; exact T.pl.len
theorem SetG.size (R : SetG P w s.heap a L es ep t) : es.size = L.length := ents_len R.ents
theorem SetG.stays (R : SetG P w s.heap a L es ep t) : ¬ t.gaveWay = true := by
  unfold SetTable.gaveWay
  rw [(MaskG.odd R.tab.mask).1]; decide
end
end Mine

namespace Mine
open PySem PySem.Spec PyProof.Rows L2
section
variable {P : Program} {w : World} {A : Around} {E : Value → Shared → Prop} {s : Shared} {a : Addr} {L : List (Addr × List Int)} {es : Array (Int × Value)} {ep : Nat} {t : SetTable}
end
end Mine

namespace Mine
open PySem PySem.Spec PyProof.Rows L2
def Few (n : Nat) (ws : List (List Int)) : Prop := ∀ us : List (List Int), us.Nodup → (∀ x ∈ us, x ∈ ws) → us.length < n
section
variable {P : Program} {w : World} {A : Around} {E : Value → Shared → Prop} {s : Shared}
end
end Mine

namespace Mine
open PySem PySem.Spec PyProof.Rows L2
/-! ### sorting rows, any number of them -/
section
variable {P : Program} {w : World} {A : Around} {E : Value → Shared → Prop} {s : Shared}
end
end Mine

namespace Mine
open PySem PySem.Spec PyProof.Rows L2
/-! ### set(xs), sorted(set(xs)), sorted(xs) of tuples of whole numbers, any number of them -/
/-- the set, without the tuples themselves -/
def SetG0 (P : Program) (w : World) (h : Heap) (a : Addr) (L : List (Addr × List Int)) : Prop := ∃ (es : Array (Int × Value)) (ep : Nat) (t : SetTable), (∃ o, h.get? a = some o ∧ o.ExactSet ∧ o.data = .set es ep t) ∧
  (es.toList = rowsOf P w L ∧ TabG t (L.map fun p => thash P w p.2) ∧ (L.map (·.2)).Nodup ∧ t.plain = true ∧ (w.params.followText "set-order" = true ∨ t.led = true) ∧ L.length * 5 < t.mask * 3)
theorem SetG.g0 {P : Program} {w : World} {h : Heap} {a : Addr} {L : List (Addr × List Int)} {es : Array (Int × Value)} {ep : Nat} {t : SetTable} (R : SetG P w h a L es ep t) : SetG0 P w h a L :=
  ⟨es, ep, t, R.at_, R.ents, R.tab, R.keys, R.byv, R.ldg, R.free⟩
theorem SetG0.all {P : Program} {w : World} {h : Heap} {a : Addr} {L : List (Addr × List Int)} (R : SetG0 P w h a L) (tup : ∀ p ∈ L, IsT P w h p.2 p.1) : ∃ es ep t, SetG P w h a L es ep t := by
  obtain ⟨es, ep, t, q0, q1, q2, q3, q4, q5, q6⟩ := R
  exact ⟨es, ep, t, q0, q1, q2, q3, tup, q4, q5, q6⟩
section
variable {X : Cx}
end
/-! over data -/
abbrev rowsD (ws : List (List Int)) : Dt := .lst (ws.map fun w => Dt.tup (w.map .int))
/-- rows of one kind: none is empty, or all are -/
def Plain (ws : List (List Int)) : Prop := (∀ x ∈ ws, x ≠ []) ∨ ∀ x ∈ ws, x = []
def eSortedSetG (a : DX) : DX := fun env Q E => a env (fun d => ∃ ws : List (List Int), d = rowsD ws ∧ Few 3999 ws ∧ Plain ws ∧ ∀ us : List (List Int), us.Pairwise (· < ·) → (∀ x, x ∈ us ↔ x ∈ ws) → Q (rowsD us)) E
theorem eSortedSetG_W (a : DX) {env} {Q} {E} : eSortedSetG a env Q E = a env (fun d => ∃ ws : List (List Int), d = rowsD ws ∧ Few 3999 ws ∧ Plain ws ∧ ∀ us : List (List Int), us.Pairwise (· < ·) → (∀ x, x ∈ us ↔ x ∈ ws) → Q (rowsD us)) E := rfl
end Mine

namespace Mine
open PySem PySem.Spec PyProof.Rows L2 PpSet
/-! ### a set comprehension whose items are tuples of whole numbers -/
section
variable {P : Program} {w : World} {A : Around} {E : Value → Shared → Prop} {s : Shared} {a : Addr} {L : List (Addr × List Int)} {es : Array (Int × Value)} {ep : Nat} {t : SetTable}
end
section
variable {X : Cx}
end

/-! ### sorted({e for x in xs if ..}), e tuples of whole numbers -/
def scGoG (f : DGX) (tt : DTX) (te : DX) (env : List Sl) (Q : List (List Int) → Prop) : List Dt → List (List Int) → Prop
  | [], acc => Q acc
  | x :: xs, acc => f x env fun env' => tt env' (fun b => if b = true then te env' (fun y => ∃ w : List Int, y = .tup (w.map .int) ∧ Few 3999 acc ∧ scGoG f tt te env Q xs (acc ++ [w])) (fun _ => False) else scGoG f tt te env Q xs acc) (fun _ => False)
def scEndG (Q : Dt → Prop) (ws : List (List Int)) : Prop := Few 4000 ws ∧ Plain ws ∧ ∀ us : List (List Int), us.Pairwise (· < ·) → (∀ x, x ∈ us ↔ x ∈ ws) → Q (rowsD us)
def eSortScG (src : DAX) (f : DGX) (tt : DTX) (te : DX) (vs : List Nat) : DX := fun env Q E => src env (fun ds => scGoG f tt te (wipeS env vs) (scEndG Q) ds []) E
theorem eSortScG_W (src : DAX) (f : DGX) (tt : DTX) (te : DX) (vs : List Nat) {env} {Q} {E} : eSortScG src f tt te vs env Q E = src env (fun ds => scGoG f tt te (wipeS env vs) (scEndG Q) ds []) E := rfl
end Mine

namespace Mine
open PySem PySem.Spec PyProof.Rows L2
/-! ### the least of rows; the least and the greatest of whole numbers, or a default -/
section
variable {X : Cx}
end
/-! over data -/
end Mine

namespace Mine
open PySem PySem.Spec PyProof.Rows L2
/-! ### a method without arguments that may raise, within a try -/
section
variable {X : Cx} {CX : CXT} {k : Nat} {f C g : Addr} {fd : FuncData} {ps : List Str} {sp : Sp} {dvs : List V} {ds : List Value} {E : L2.St → XK} {x m : Str} {p pos apos p0 : Pos} {e o : Expr} {es : List Expr} {ta : TE} {t : TA} {pl : Sem Bool}
end
end Mine

namespace Mine
open PySem PySem.Spec PyProof.Rows L2
/-! ### min(ints, default=d), max(ints, default=d) -/
section
variable {X : Cx} {id : String} {x : Str} {ks : List Str} {p pos : Pos} {e : Expr} {es : List Expr} {kws : List Keyword} {t tk : TA} {r : List V → List V → Hp → VK → Prop}
end
/-! over data -/
def eMinDf (a d : DX) : DX := fun env Q E => a env (fun x => d env (fun z => ∃ ns : List Int, (x = .lst (ns.map .int) ∨ x = .tup (ns.map .int)) ∧ (ns = [] → Q z) ∧ ∀ m ∈ ns, (∀ y ∈ ns, m ≤ y) → Q (.int m)) E) E
def eMaxDf (a d : DX) : DX := fun env Q E => a env (fun x => d env (fun z => ∃ ns : List Int, (x = .lst (ns.map .int) ∨ x = .tup (ns.map .int)) ∧ (ns = [] → Q z) ∧ ∀ m ∈ ns, (∀ y ∈ ns, y ≤ m) → Q (.int m)) E) E
theorem eMinDf_W (a d : DX) {env} {Q} {E} : eMinDf a d env Q E = a env (fun x => d env (fun z => ∃ ns : List Int, (x = .lst (ns.map .int) ∨ x = .tup (ns.map .int)) ∧ (ns = [] → Q z) ∧ ∀ m ∈ ns, (∀ y ∈ ns, m ≤ y) → Q (.int m)) E) E := rfl
theorem eMaxDf_W (a d : DX) {env} {Q} {E} : eMaxDf a d env Q E = a env (fun x => d env (fun z => ∃ ns : List Int, (x = .lst (ns.map .int) ∨ x = .tup (ns.map .int)) ∧ (ns = [] → Q z) ∧ ∀ m ∈ ns, (∀ y ∈ ns, y ≤ m) → Q (.int m)) E) E := rfl
section
variable {C : Bc} {ta td : TE} {a d : DX}
end
end Mine

namespace Mine
open PySem PySem.Spec PyProof.Rows L2
/-! ### x.bit_length() -/
def eBits (a : DX) : DX := fun env Q E => a env (fun d => match d with
  | .int i => Q (.int (Builtin.Int.intBits i : Nat))
  | _ => False) E
theorem eBits_W (a : DX) {env} {Q} {E} : eBits a env Q E = a env (fun d => match d with
  | .int i => Q (.int (Builtin.Int.intBits i : Nat))
  | _ => False) E := rfl
end Mine

namespace Mine
open PySem PySem.Spec PyProof.Rows L2
/-! ### len(set(xs)) of tuples of whole numbers -/
section
variable {X : Cx}
end
def eLenSetG (a : DX) : DX := fun env Q E => a env (fun d => ∃ ws : List (List Int), d = rowsD ws ∧ Few 3999 ws ∧ ∀ us : List (List Int), us.Nodup → (∀ x, x ∈ us ↔ x ∈ ws) → Q (.int us.length)) E
theorem eLenSetG_W (a : DX) {env} {Q} {E} : eLenSetG a env Q E = a env (fun d => ∃ ws : List (List Int), d = rowsD ws ∧ Few 3999 ws ∧ ∀ us : List (List Int), us.Nodup → (∀ x, x ∈ us ↔ x ∈ ws) → Q (.int us.length)) E := rfl
/-! wide numbers to the left -/
abbrev dShlW : D2 := dI CShl fun i j => .int (i * 2 ^ j.toNat)
theorem dShlW_int {i j : Int} {Q : Dt → Prop} : dShlW (.int i) (.int j) Q = (CShl i j ∧ Q (.int (i * 2 ^ j.toNat))) := rfl
end Mine

namespace Mine
open PySem PySem.Spec PyProof.Rows L2
/-! ### a, b, c = a tuple or a list of that length -/
def gD3L (i j k : Nat) : DGX := fun d env Q => match d with
  | .tup [a, b, c] => Q (((env.set i (.d a)).set j (.d b)).set k (.d c))
  | .lst [a, b, c] => Q (((env.set i (.d a)).set j (.d b)).set k (.d c))
  | _ => False
theorem gD3L_W (i j k : Nat) {d} {env} {Q} : gD3L i j k d env Q = (match d with
  | .tup [a, b, c] => Q (((env.set i (.d a)).set j (.d b)).set k (.d c))
  | .lst [a, b, c] => Q (((env.set i (.d a)).set j (.d b)).set k (.d c))
  | _ => False) := rfl
end Mine

namespace Mine
open PySem PySem.Spec PyProof.Rows L2
/-! ### x is True, x is False, of truth values -/
def dIsB : D2 := fun a b Q => match a, b with
  | .bl i, .bl j => Q (.bl (decide (i = j)))
  | _, _ => False
def dNotB : D2 := fun a b Q => match a, b with
  | .bl i, .bl j => Q (.bl (!decide (i = j)))
  | _, _ => False
theorem dIsB_bl {i j : Bool} {Q : Dt → Prop} : dIsB (.bl i) (.bl j) Q = Q (.bl (decide (i = j))) := rfl
theorem dNotB_bl {i j : Bool} {Q : Dt → Prop} : dNotB (.bl i) (.bl j) Q = Q (.bl (!decide (i = j))) := rfl
section
variable {C : Bc}
end
end Mine

namespace Mine
open PySem PySem.Spec PyProof.Rows L2
/-! ### f'{x:b}' of a whole number that is not below nought -/
def binS (n : Nat) : Str := ⟨((Nat.toDigits 2 n).map Char.toNat).toArray⟩
section
variable {prog : Program} {w : World} {A : Around} {E : Value → Shared → Prop} {s : Shared}
end
/-! over data -/
def eFmtB (a : DX) : DX := fun env Q E => a env (fun d => match d with
  | .int i => ∃ n : Nat, i = n ∧ (binS n).length ≤ sizeLine ∧ Q (.str (binS n))
  | _ => False) E
theorem eFmtB_W (a : DX) {env} {Q} {E} : eFmtB a env Q E = a env (fun d => match d with
  | .int i => ∃ n : Nat, i = n ∧ (binS n).length ≤ sizeLine ∧ Q (.str (binS n))
  | _ => False) E := rfl
/-! x.count(y) of a text, y one sign -/
end Mine

namespace Mine
open PySem PySem.Spec PyProof.Rows L2 PpSet
/-! ### a set comprehension of two clauses whose items are tuples of whole numbers -/
section
variable {prog : Program} {w : World} {A : Around} {R : Result → Shared → Prop} {s : Shared} {el a0 b0 a1 b1 : Expr} {f0 f1 : List Expr} {sp : Scope} {po : Pos} {i acc : Value} {ev : Env}
abbrev tests (fs : List Expr) (ev : Env) : Sem Bool := forIn fs true fun c r => if r = true then do let ok ← isTrue c ev (eval c ev); pure (ForInStep.yield ok) else pure (ForInStep.yield r)
end
section
variable {X : Cx}
end
/-! ### sorted({e for x in xs for y in ys}) over data -/
def scGo2G (f : DGX) (tt : DTX) (src1 : DAX) (f1 : DGX) (tt1 : DTX) (te : DX) (vs1 : List Nat) (env : List Sl) (Q : List (List Int) → Prop) : List Dt → List (List Int) → Prop
  | [], acc => Q acc
  | x :: xs, acc => f x env fun env' => tt env' (fun b => if b = true then src1 env' (fun ds1 => scGoG f1 tt1 te (wipeS env' vs1) (fun acc' => scGo2G f tt src1 f1 tt1 te vs1 env Q xs acc') ds1 acc) (fun _ => False) else scGo2G f tt src1 f1 tt1 te vs1 env Q xs acc) fun _ => False
def eSortScG2 (src : DAX) (f : DGX) (tt : DTX) (src1 : DAX) (f1 : DGX) (tt1 : DTX) (te : DX) (vs1 vs : List Nat) : DX := fun env Q E => src env (fun ds => scGo2G f tt src1 f1 tt1 te vs1 (wipeS env vs) (scEndG Q) ds []) E
theorem eSortScG2_W (src : DAX) (f : DGX) (tt : DTX) (src1 : DAX) (f1 : DGX) (tt1 : DTX) (te : DX) (vs1 vs : List Nat) {env} {Q} {E} : eSortScG2 src f tt src1 f1 tt1 te vs1 vs env Q E = src env (fun ds => scGo2G f tt src1 f1 tt1 te vs1 (wipeS env vs) (scEndG Q) ds []) E := rfl
end Mine

namespace Mine
open PySem PySem.Spec PyProof.Rows L2
/-! ### sorted(xs) of at most one tuple, that may be the empty one -/
section
variable {X : Cx}
end
end Mine

/-! ### zip(*rows), any number of tuples -/
namespace ZT
open PySem ZN
section
variable {prog : Program} {w : World} {A : Around} {E : Value → Shared → Prop} {s : Shared}
end
end ZT
namespace ZT
open PySem ZN
section
variable {prog : Program} {w : World} {A : Around} {E : Value → Shared → Prop} {s : Shared}
end
section
variable {prog : Program} {w : World} {A : Around} {E : Value → Shared → Prop} {s : Shared}
end
end ZT
namespace Mine
open PySem PySem.Spec PyProof.Rows L2 ZN
end Mine
namespace Mine
open PySem PySem.Spec PyProof.Rows L2 ZN
/-- zip(*rows) of a list of tuples of one length -/
def eZipT (a : DX) : DAX := fun env Q E => a env (fun d => ∃ (n : Nat) (xs : List (List Dt)), d = .lst (xs.map .tup) ∧ xs ≠ [] ∧ xs.length ≤ 100 ∧ (∀ l ∈ xs, l.length = n) ∧ Q ((List.range n).map fun i => .tup (xs.map fun l => l.getD i .non))) E
theorem eZipT_W (a : DX) {env} {Q} {E} : eZipT a env Q E = a env (fun d => ∃ (n : Nat) (xs : List (List Dt)), d = .lst (xs.map .tup) ∧ xs ≠ [] ∧ xs.length ≤ 100 ∧ (∀ l ∈ xs, l.length = n) ∧ Q ((List.range n).map fun i => .tup (xs.map fun l => l.getD i .non))) E := rfl
end Mine
namespace Mine
open PySem PySem.Spec PyProof.Rows L2
/-! ### the least of a tuple of whole numbers -/
end Mine

namespace Mine
open PySem PySem.Spec PyProof.Rows L2 GenW
/-! ### list(g(..)) of a generator def that lets an exception of one class out -/
section
variable {C : Bc} {F : DFn} {dvs : List V} {dd : List Sl} {t : TA} {a : DSX}
end
end Mine

namespace Mine
open PySem PySem.Spec PyProof.Rows L2 GenW
/-! ### a, b = .., new list: the second one own -/
section
variable {C : Bc} {te tk : TE} {e ek : DX}
end
/-! ### x in range(n), x not in range(n): whole numbers -/
def eInRg (neg : Bool) (a b : DX) : DX := fun env Q E => a env (fun x => b env (fun y => match x, y with
  | .int i, .int n => Q (.bl (neg != decide (0 ≤ i ∧ i < n)))
  | _, _ => False) E) E
theorem eInRg_W {neg : Bool} {a b : DX} {env : List Sl} {Q : Dt → Prop} {E : Xc → Prop} : eInRg neg a b env Q E = a env (fun x => b env (fun y => match x, y with
  | .int i, .int n => Q (.bl (neg != decide (0 ≤ i ∧ i < n)))
  | _, _ => False) E) E := rfl
section
variable {C : Bc} {ta tb : TE} {a b : DX} {neg : Bool}
end
end Mine

namespace Mine
open PySem PySem.Spec PyProof.Rows L2
/-! ### rows = [a new list for ..]: a list of one's own of lists of one's own -/
def sTab (i : Nat) (lc : DX) : DSt := fun d env => lc env (fun r => match r with
  | .lst rs => ∃ rows : List (List Dt), rs = rows.map .lst ∧ ∀ p qs, d.nx (env.set i (.tab p qs rows))
  | _ => False) (d.xc env)
/-- rows[k1][k2] -/
def eTab (i : Nat) (e1 e2 : DX) : DX := fun env Q E => match env[i]? with
  | some (.tab _ _ rows) => e1 env (fun a => match a with
    | .int m => ∃ (m' : Nat) (ds : List Dt), ixN rows.length m = some m' ∧ rows[m']? = some ds ∧ e2 env (fun b => match b with
      | .int j => ∃ x, atI ds j = some x ∧ Q x
      | _ => False) E
    | _ => False) E
  | _ => False
/-- rows[k1][k2] = e -/
def sTabPut (i : Nat) (ev e1 e2 : DX) : DSt := fun d env => match env[i]? with
  | some (.tab p qs rows) => ev env (fun v => e1 env (fun a => match a with
    | .int m => ∃ (m' : Nat) (ds : List Dt), ixN rows.length m = some m' ∧ rows[m']? = some ds ∧ e2 env (fun b => match b with
      | .int j => ∃ j' : Nat, ixN ds.length j = some j' ∧ d.nx (env.set i (.tab p qs (rows.set m' (ds.set j' v))))
      | _ => False) (d.xc env)
    | _ => False) (d.xc env)) (d.xc env)
  | _ => False
/-- rows[k].append(e) -/
def sTabApp (i : Nat) (e1 ev : DX) : DSt := fun d env => match env[i]? with
  | some (.tab p qs rows) => e1 env (fun a => match a with
    | .int m => ∃ (m' : Nat) (ds : List Dt), ixN rows.length m = some m' ∧ rows[m']? = some ds ∧ ds.length < LINE ∧ ev env (fun v => d.nx (env.set i (.tab p qs (rows.set m' (ds ++ [v]))))) (d.xc env)
    | _ => False) (d.xc env)
  | _ => False
/-- from here on the rows are data -/
def frzT (env : List Sl) (i : Nat) : List Sl := match env[i]? with
  | some (.tab _ _ rows) => env.set i (.d (.lst (rows.map .lst)))
  | _ => env
def sFrzT (i : Nat) (s : DSt) : DSt := fun d env => s d (frzT env i)
theorem sTab_W {i : Nat} {lc : DX} {d : DEn} {env : List Sl} : sTab i lc d env = lc env (fun r => match r with
  | .lst rs => ∃ rows : List (List Dt), rs = rows.map .lst ∧ ∀ p qs, d.nx (env.set i (.tab p qs rows))
  | _ => False) (d.xc env) := rfl
theorem eTab_W {i : Nat} {e1 e2 : DX} {env : List Sl} {Q : Dt → Prop} {E : Xc → Prop} : eTab i e1 e2 env Q E = (match env[i]? with
  | some (.tab _ _ rows) => e1 env (fun a => match a with
    | .int m => ∃ (m' : Nat) (ds : List Dt), ixN rows.length m = some m' ∧ rows[m']? = some ds ∧ e2 env (fun b => match b with
      | .int j => ∃ x, atI ds j = some x ∧ Q x
      | _ => False) E
    | _ => False) E
  | _ => False) := rfl
theorem sTabPut_W {i : Nat} {ev e1 e2 : DX} {d : DEn} {env : List Sl} : sTabPut i ev e1 e2 d env = (match env[i]? with
  | some (.tab p qs rows) => ev env (fun v => e1 env (fun a => match a with
    | .int m => ∃ (m' : Nat) (ds : List Dt), ixN rows.length m = some m' ∧ rows[m']? = some ds ∧ e2 env (fun b => match b with
      | .int j => ∃ j' : Nat, ixN ds.length j = some j' ∧ d.nx (env.set i (.tab p qs (rows.set m' (ds.set j' v))))
      | _ => False) (d.xc env)
    | _ => False) (d.xc env)) (d.xc env)
  | _ => False) := rfl
theorem sTabApp_W {i : Nat} {e1 ev : DX} {d : DEn} {env : List Sl} : sTabApp i e1 ev d env = (match env[i]? with
  | some (.tab p qs rows) => e1 env (fun a => match a with
    | .int m => ∃ (m' : Nat) (ds : List Dt), ixN rows.length m = some m' ∧ rows[m']? = some ds ∧ ds.length < LINE ∧ ev env (fun v => d.nx (env.set i (.tab p qs (rows.set m' (ds ++ [v]))))) (d.xc env)
    | _ => False) (d.xc env)
  | _ => False) := rfl
theorem sFrzT_W {i : Nat} {s : DSt} {d : DEn} {env : List Sl} : sFrzT i s d env = s d (match env[i]? with
  | some (.tab _ _ rows) => env.set i (.d (.lst (rows.map .lst)))
  | _ => env) := rfl
section
variable {C : Bc} {X : Addr → Prop} {env : List Sl} {σ : L2.St} {H H1 : Hp}
theorem Rep.tabAt (r : Rep C X env σ H) {i : Nat} {p : Addr} {qs : List Addr} {rows : List (List Dt)} (e : env[i]? = some (.tab p qs rows)) : σ[i]? = some (some (.ref p)) ∧ (∀ a ∈ p :: qs, X a ∧ ¬ C.X0 a) ∧ (p :: qs).Nodup ∧ H p = some (.lst (qs.map V.ref)) ∧ RowsAt C.K (Mine.vis H X) H qs rows := by
  obtain ⟨o, es, rfl, h1, h2, h3, h4⟩ := r.slot i _ e
  exact ⟨es, h1, h2, h3, h4⟩
/-- the rows are no longer one's own -/
theorem Rep.frzT (r : Rep C X env σ H) (i : Nat) : ∃ X', Rep C X' (Mine.frzT env i) σ H ∧ Same (Mine.vis H X) (Mine.vis H X') := by
  unfold Mine.frzT
  split
  · rename_i p qs rows e
    obtain ⟨es, own, nd, hp, hl, hr⟩ := r.tabAt e
    have hlt : i < env.length := (List.getElem?_eq_some_iff.mp e).1
    have sm : Same (Mine.vis H X) (Mine.vis H fun a => X a ∧ a ∉ p :: qs) := vis_anti fun a z => z.1
    refine ⟨fun a => X a ∧ a ∉ p :: qs, ⟨by rw [List.length_set, r.len], fun a z => ⟨r.sup a z, fun m => (own a m).2 z⟩, fun a z => r.new a z.1, fun a z => r.al a z.1, r.frm, r.hands, fun j s z => ?_, r.ap.setS fun _ _ _ f => f.elim, r.one.set fun _ _ _ z => by cases z⟩, sm⟩
    rw [List.getElem?_set] at z
    by_cases c : i = j
    · subst c
      rw [if_pos rfl, if_pos hlt] at z
      cases z
      refine ⟨_, es, _, rfl, .lst (vis_mk (fun z => z.2 List.mem_cons_self) hp) (rows_den hl fun k q ds e1 e2 => ?_)⟩
      obtain ⟨us, g1, g2⟩ := hr k q ds e1 e2
      exact ⟨us, vis_mk (fun z => z.2 (List.mem_cons_of_mem _ (List.mem_of_getElem? e1))) g1, g2.mono sm⟩
    · rw [if_neg c] at z
      obtain ⟨o, e1, w⟩ := r.slot j s z
      refine ⟨o, e1, ?_⟩
      have no : ∀ a ∈ p :: qs, ¬ Foot s o a := fun a ha => r.ap i j _ _ _ _ a c e z es e1 ha
      cases s with
      | no => trivial
      | d x => obtain ⟨v, e2, h⟩ := w; exact ⟨v, e2, h.mono sm⟩
      | own ys =>
        obtain ⟨p', us, rfl, y1, y2, y3, y4⟩ := w
        exact ⟨p', us, rfl, ⟨y1, fun m => no p' m rfl⟩, y2, y3, y4.mono sm⟩
      | hand => exact w
      | exc c' fs => exact w.exc sm
      | ins C0 ns ds =>
        obtain ⟨p', dx, us, rfl, y1, y2, y3, yl, y4⟩ := w
        have ne : p' ∉ p :: qs := fun m => by
          obtain ⟨us2, g⟩ := (show SlRep C X H (.tab p qs rows) _ from (r.slot i _ e).choose_spec.2).tab_lst p' m
          rw [g] at y3; cases y3
        exact ⟨p', dx, us, rfl, ⟨y1, ne⟩, y2, y3, yl, y4.mono sm⟩
      | tab p2 qs2 rows2 => exact w.tab_to (fun a ha x => ⟨x, fun m => no a m ha⟩) (fun _ _ _ h => h) sm
  · exact ⟨X, r, Same.refl _⟩
end
section
variable {C : Bc} {wi : TI} {g : TG} {tt : TT} {te tv t1 t2 : TE} {vs : List Nat} {src : DAX} {f : DGX} {et : DTX} {ee ev e1 e2 : DX} {u : TS} {s : DSt} {i : Nat}
end
end Mine

namespace Mine
open PySem PySem.Spec PyProof.Rows L2
/-! ### a < b of data of any depth, alike -/
end Mine

namespace Mine
open PySem PySem.Spec PyProof.Rows L2
/-! ### the pure part: rules -/
theorem iteQ {c : Prop} [Decidable c] {a b : Prop} (h : c → a) (k : ¬ c → b) : if c then a else b := by
  split
  · exact h (by assumption)
  · exact k (by assumption)
/-- a loop by an invariant over the number of turns; K: what is wanted behind the turn, B: behind a break -/
theorem dFor_inv {f : DGX} {b : DSt} {nx bk ct : List Sl → Prop} {rt : Dt → Prop} {xc : List Sl → Xc → Prop} (I : Nat → List Sl → Prop) : ∀ {xs : List Dt} {env : List Sl}, I 0 env →
    (∀ (i : Nat) (x : Dt) (e : List Sl) (K : List Sl → Prop) (B : { B : List Sl → Prop // ∀ e', nx e' → B e' }), xs[i]? = some x → I i e → (∀ e', I (i + 1) e' → K e') → f x e fun e' => b ⟨K, rt, B.1, K, xc⟩ e') → (∀ e, I xs.length e → nx e) → dFor f b ⟨nx, rt, bk, ct, xc⟩ xs env := by
  intro xs
  induction xs generalizing I with
  | nil => intro env h0 _ fin; exact fin _ h0
  | cons x xs ih =>
    intro env h0 step fin
    refine step 0 x env _ ⟨nx, fun _ h => h⟩ rfl h0 fun e' h1 => ?_
    exact ih (fun i => I (i + 1)) h1 (fun i y e K B e1 => step (i + 1) y e K B (by simpa using e1)) fin
/-- a comprehension: which items stay, what becomes of them -/
theorem lc_ok {α : Type} {f : DGX} {tt : DTX} {te : DX} {env : List Sl} {Q : Dt → Prop} (e : α → Dt) (p : α → Bool) (g : α → Dt) : ∀ {xs : List α} {acc : List Dt},
    (∀ x ∈ xs, ∀ (K1 : Dt → Prop) (K0 : Prop), (p x = true → K1 (g x)) → (p x = false → K0) → f (e x) env fun env' => tt env' (fun b => if b = true then te env' K1 (fun _ => False) else K0) fun _ => False) →
    acc.length + xs.length ≤ 16777216 → Q (.lst (acc ++ (xs.filter p).map g)) → lcGo f tt te env Q (xs.map e) acc := by
  intro xs
  induction xs with
  | nil => intro acc _ _ q; show Q (.lst acc); simpa using q
  | cons x xs ih =>
    intro acc step hl q
    refine step x List.mem_cons_self _ _ (fun hp => ?_) fun hp => ?_
    · rw [List.length_cons] at hl
      refine ⟨by show acc.length < 16777216; omega, ih (fun y hy => step y (List.mem_cons_of_mem _ hy)) (by rw [List.length_append]; show acc.length + 1 + _ ≤ _; omega) ?_⟩
      rw [List.filter_cons, if_pos hp, List.map_cons] at q
      simpa using q
    · rw [List.length_cons] at hl
      refine ih (fun y hy => step y (List.mem_cons_of_mem _ hy)) (by omega) ?_
      rw [List.filter_cons, if_neg (by rw [hp]; decide)] at q
      exact q
/-- without a test -/
theorem lc_map {α : Type} {f : DGX} {te : DX} {env : List Sl} {Q : Dt → Prop} (e : α → Dt) (g : α → Dt) {xs : List α}
    (step : ∀ x ∈ xs, ∀ K1 : Dt → Prop, K1 (g x) → f (e x) env fun env' => te env' K1 (fun _ => False)) (hl : xs.length ≤ 16777216) (q : Q (.lst (xs.map g))) : lcGo f eYes te env Q (xs.map e) [] := by
  refine lc_ok e (fun _ => true) g (fun x hx K1 K0 h1 _ => ?_) (by simpa using hl) (by rw [List.filter_eq_self.mpr fun _ _ => rfl]; exact q)
  exact step x hx K1 (h1 rfl)
/-- a comprehension whose items are any of their kind -/
theorem lc_any {f : DGX} {te : DX} {env : List Sl} {Q : Dt → Prop} (G : Dt → Prop) : ∀ {ds : List Dt} {acc : List Dt}, (∀ x ∈ ds, ∀ K1 : Dt → Prop, (∀ y, G y → K1 y) → f x env fun env' => te env' K1 (fun _ => False)) →
    acc.length + ds.length ≤ 16777216 → (∀ y ∈ acc, G y) → (∀ ys, ys.length = acc.length + ds.length → (∀ y ∈ ys, G y) → Q (.lst ys)) → lcGo f eYes te env Q ds acc := by
  intro ds
  induction ds with
  | nil => intro acc _ _ ha q; exact q acc rfl ha
  | cons x ds ih =>
    intro acc step hl ha q
    rw [List.length_cons] at hl q
    refine step x List.mem_cons_self _ fun y hy => ⟨by show acc.length < 16777216; omega, ih (fun z hz => step z (List.mem_cons_of_mem _ hz)) (by rw [List.length_append]; show acc.length + 1 + _ ≤ _; omega) (fun z hz => ?_) fun ys e h => q ys ?_ h⟩
    · rcases List.mem_append.mp hz with h | h
      · exact ha z h
      · rw [List.mem_singleton.mp h]; exact hy
    · rw [e, List.length_append]; show acc.length + 1 + _ = _; omega
/-! ### data of a type -/
abbrev iT (w : List Int) : Dt := .tup (w.map .int)
abbrev iL (w : List Int) : Dt := .lst (w.map .int)
def Dt.shN (n : Nat) (a : Dt) : Prop := ∃ p, a.py = some p ∧ p.canLay0 = true ∧ p.depth ≤ n
theorem Dt.shN.sh {n : Nat} {a : Dt} (h : a.shN n) (hn : n ≤ 64 := by decide) : a.sh := by
  obtain ⟨p, e, c, d⟩ := h
  exact ⟨p, e, by unfold SeqAt.shaped; rw [c, decide_eq_true (by omega)]; rfl⟩
theorem shN_int (i : Int) : (Dt.int i).shN 0 := ⟨.int i, by rw [Dt.py], by rw [PyData.canLay0], by rw [PyData.depth]; exact Nat.le_refl _⟩
theorem shN_all {n : Nat} : ∀ {xs : List Dt}, (∀ x ∈ xs, x.shN n) → ∃ ps, Dt.pys xs = some ps ∧ PyData.canLayAll0 ps = true ∧ PyData.depthAll ps ≤ n
  | [], _ => ⟨[], by rw [Dt.pys], by rw [PyData.canLayAll0], by rw [PyData.depthAll]; exact Nat.zero_le _⟩
  | x :: xs, h => by
    obtain ⟨p, e, c, d⟩ := h x List.mem_cons_self
    obtain ⟨ps, e2, c2, d2⟩ := shN_all fun y hy => h y (List.mem_cons_of_mem _ hy)
    exact ⟨p :: ps, by rw [Dt.pys, e, e2], by rw [PyData.canLayAll0, c, c2]; rfl, by rw [PyData.depthAll]; omega⟩
theorem shN_tup {n : Nat} {xs : List Dt} (h : ∀ x ∈ xs, x.shN n) : (Dt.tup xs).shN (n + 1) := by
  obtain ⟨ps, e, c, d⟩ := shN_all h
  exact ⟨.tuple ps, by rw [Dt.py, e]; rfl, by rw [PyData.canLay0]; exact c, by rw [PyData.depth]; omega⟩
theorem shN_lst {n : Nat} {xs : List Dt} (h : ∀ x ∈ xs, x.shN n) : (Dt.lst xs).shN (n + 1) := by
  obtain ⟨ps, e, c, d⟩ := shN_all h
  exact ⟨.list ps, by rw [Dt.py, e]; rfl, by rw [PyData.canLay0]; exact c, by rw [PyData.depth]; omega⟩
theorem shN_str {z : Str} (h : PyData.strOk z = true) : (Dt.str z).shN 0 := ⟨.str z, by rw [Dt.py], by rw [PyData.canLay0]; exact h, by rw [PyData.depth]; exact Nat.le_refl _⟩
/-! equality -/
def eqvL : List Dt → List Dt → Bool
  | [], [] => true
  | x :: xs, y :: ys => x.eqv y && eqvL xs ys
  | _, _ => false
theorem eqvL_of {n m : Nat} : ∀ {xs ys : List Dt} {ps qs : List PyData}, Dt.pys xs = some ps → Dt.pys ys = some qs → PyData.eqvAll ps qs = eqvL xs ys
  | [], [], _, _, e1, e2 => by
    rw [Dt.pys] at e1 e2; cases e1; cases e2; rw [PyData.eqvAll]; rfl
  | [], y :: ys, _, _, e1, e2 => by
    rw [Dt.pys] at e1
    rw [Dt.pys] at e2
    cases e1
    split at e2
    · cases e2; rw [PyData.eqvAll]; rfl
    · cases e2
  | x :: xs, [], _, _, e1, e2 => by
    rw [Dt.pys] at e1
    rw [Dt.pys] at e2
    cases e2
    split at e1
    · cases e1; rw [PyData.eqvAll]; rfl
    · cases e1
  | x :: xs, y :: ys, _, _, e1, e2 => by
    rw [Dt.pys] at e1
    rw [Dt.pys] at e2
    split at e1
    · rename_i p ps h1 h2
      cases e1
      split at e2
      · rename_i q qs h3 h4
        cases e2
        rw [PyData.eqvAll, eqvL_of (n := n) (m := m) h2 h4, ← Dt.eqv_of h1 h3]; rfl
      · cases e2
    · cases e1
theorem eqv_seq {xs ys : List Dt} (h1 : ∃ ps, Dt.pys xs = some ps) (h2 : ∃ ps, Dt.pys ys = some ps) : (Dt.tup xs).eqv (.tup ys) = eqvL xs ys ∧ (Dt.lst xs).eqv (.lst ys) = eqvL xs ys ∧ (Dt.tup xs).eqv (.lst ys) = false ∧ (Dt.lst xs).eqv (.tup ys) = false := by
  obtain ⟨ps, e1⟩ := h1
  obtain ⟨qs, e2⟩ := h2
  have a : (Dt.tup xs).py = some (.tuple ps) := by rw [Dt.py, e1]; rfl
  have b : (Dt.tup ys).py = some (.tuple qs) := by rw [Dt.py, e2]; rfl
  have c : (Dt.lst xs).py = some (.list ps) := by rw [Dt.py, e1]; rfl
  have d : (Dt.lst ys).py = some (.list qs) := by rw [Dt.py, e2]; rfl
  rw [Dt.eqv_of a b, Dt.eqv_of c d, Dt.eqv_of a d, Dt.eqv_of c b]
  refine ⟨?_, ?_, ?_, ?_⟩
  · rw [PyData.eqv]; exact eqvL_of (n := 0) (m := 0) e1 e2
  · rw [PyData.eqv]; exact eqvL_of (n := 0) (m := 0) e1 e2
  · rw [PyData.eqv]
  · rw [PyData.eqv]
theorem eqv_int (i j : Int) : (Dt.int i).eqv (.int j) = decide (i = j) := by
  rw [Dt.eqv_of (a := .int i) (b := .int j) (by rw [Dt.py]) (by rw [Dt.py]), PyData.eqv]; rfl
/-- a type whose things are data, equal exactly if they are -/
structure EqE {α : Type} [DecidableEq α] (e : α → Dt) (n : Nat) : Prop where
  sh : ∀ a, (e a).shN n
  eq : ∀ a b, (e a).eqv (e b) = decide (a = b)
theorem eqE_int : EqE Dt.int 0 := ⟨shN_int, eqv_int⟩
section
variable {α : Type} [DecidableEq α] {e : α → Dt} {n : Nat}
theorem EqE.pys (h : EqE e n) (xs : List α) : ∃ ps, Dt.pys (xs.map e) = some ps := by
  obtain ⟨ps, e1, _⟩ := shN_all (n := n) (xs := xs.map e) fun x hx => by
    obtain ⟨a, _, rfl⟩ := List.mem_map.mp hx
    exact h.sh a
  exact ⟨ps, e1⟩
theorem EqE.eqvL (h : EqE e n) : ∀ xs ys : List α, Mine.eqvL (xs.map e) (ys.map e) = decide (xs = ys)
  | [], [] => by simp [Mine.eqvL]
  | [], y :: ys => by simp [Mine.eqvL]
  | x :: xs, [] => by simp [Mine.eqvL]
  | x :: xs, y :: ys => by
    rw [List.map_cons, List.map_cons, Mine.eqvL, h.eq, EqE.eqvL h xs ys]
    by_cases a : x = y <;> by_cases b : xs = ys <;> simp [a, b]
theorem EqE.tup (h : EqE e n) : EqE (fun xs : List α => Dt.tup (xs.map e)) (n + 1) :=
  ⟨fun xs => shN_tup fun x hx => by obtain ⟨a, _, rfl⟩ := List.mem_map.mp hx; exact h.sh a, fun xs ys => by
    show (Dt.tup (xs.map e)).eqv (.tup (ys.map e)) = _
    rw [(eqv_seq (h.pys xs) (h.pys ys)).1]; exact h.eqvL xs ys⟩
theorem EqE.lst (h : EqE e n) : EqE (fun xs : List α => Dt.lst (xs.map e)) (n + 1) :=
  ⟨fun xs => shN_lst fun x hx => by obtain ⟨a, _, rfl⟩ := List.mem_map.mp hx; exact h.sh a, fun xs ys => by
    show (Dt.lst (xs.map e)).eqv (.lst (ys.map e)) = _
    rw [(eqv_seq (h.pys xs) (h.pys ys)).2.1]; exact h.eqvL xs ys⟩
theorem EqE.dEq (h : EqE e n) {a b : α} {Q : Dt → Prop} (q : Q (.bl (decide (a = b)))) (hn : n ≤ 64 := by decide) : dEq (e a) (e b) Q :=
  ⟨(h.sh a).sh hn, (h.sh b).sh hn, by rw [h.eq]; exact q⟩
theorem EqE.dNe (h : EqE e n) {a b : α} {Q : Dt → Prop} (q : Q (.bl (!decide (a = b)))) (hn : n ≤ 64 := by decide) : dNe (e a) (e b) Q :=
  ⟨(h.sh a).sh hn, (h.sh b).sh hn, by rw [h.eq]; exact q⟩
end
theorem eqE_L : EqE iL 1 := eqE_int.lst
theorem dEq_int {i j : Int} {Q : Dt → Prop} : dEq (.int i) (.int j) Q = Q (.bl (decide (i = j))) := by
  refine propext ⟨fun h => ?_, fun h => eqE_int.dEq h⟩
  have := h.2.2
  rwa [eqv_int] at this
theorem dNe_int {i j : Int} {Q : Dt → Prop} : dNe (.int i) (.int j) Q = Q (.bl (!decide (i = j))) := by
  refine propext ⟨fun h => ?_, fun h => eqE_int.dNe h⟩
  have := h.2.2
  rwa [eqv_int] at this
/-! items -/
end Mine
namespace Mine
open PySem PySem.Spec PyProof.Rows L2
/-- a comprehension by an invariant over what is made so far -/
theorem lc_inv {f : DGX} {tt : DTX} {te : DX} {env : List Sl} {Q : Dt → Prop} (I : Nat → List Dt → Prop) : ∀ {xs : List Dt} {acc : List Dt}, I 0 acc →
    (∀ (i : Nat) (x : Dt) (acc : List Dt) (K : List Dt → Prop), xs[i]? = some x → I i acc → (∀ a, I (i + 1) a → K a) → f x env fun env' => tt env' (fun b => if b = true then te env' (fun y => acc.length < 16777216 ∧ K (acc ++ [y])) (fun _ => False) else K acc) fun _ => False) →
    (∀ a, I xs.length a → Q (.lst a)) → lcGo f tt te env Q xs acc := by
  intro xs
  induction xs generalizing I with
  | nil => intro acc h0 _ fin; exact fin _ h0
  | cons x xs ih =>
    intro acc h0 step fin
    exact step 0 x acc (fun a => lcGo f tt te env Q xs a) rfl h0 fun a h1 => ih (fun i => I (i + 1)) h1 (fun i y acc K e1 => step (i + 1) y acc K (by simpa using e1)) fin
mutual
theorem Dt.eqv_self0 : ∀ {a : Dt} {p : PyData}, a.py = some p → PyData.eqv p p = true
  | .non, _, e => by rw [Dt.py] at e; cases e; rw [PyData.eqv]
  | .bl b, _, e => by rw [Dt.py] at e; cases e; rw [PyData.eqv]; simp
  | .int b, _, e => by rw [Dt.py] at e; cases e; rw [PyData.eqv]; simp
  | .str b, _, e => by rw [Dt.py] at e; cases e; rw [PyData.eqv]; simp
  | .tup xs, _, e => by
    rw [Dt.py, Option.map_eq_some_iff] at e
    obtain ⟨ps, e1, rfl⟩ := e
    rw [PyData.eqv]; exact Dt.eqv_selfs e1
  | .lst xs, _, e => by
    rw [Dt.py, Option.map_eq_some_iff] at e
    obtain ⟨ps, e1, rfl⟩ := e
    rw [PyData.eqv]; exact Dt.eqv_selfs e1
  | .dk _ _, _, e => by rw [Dt.py] at e <;> cases e
  | .ins _ _ _, _, e => by rw [Dt.py] at e <;> cases e
  | .raw _, _, e => by rw [Dt.py] at e <;> cases e
theorem Dt.eqv_selfs : ∀ {xs : List Dt} {ps : List PyData}, Dt.pys xs = some ps → PyData.eqvAll ps ps = true
  | [], _, e => by rw [Dt.pys] at e; cases e; rw [PyData.eqvAll]
  | x :: xs, _, e => by
    rw [Dt.pys] at e
    split at e
    · rename_i p ps h1 h2
      cases e
      rw [PyData.eqvAll, Dt.eqv_self0 h1, Dt.eqv_selfs h2]; rfl
    · cases e
end
theorem Dt.eqv_self {a : Dt} (h : a.sh) : a.eqv a = true := by
  obtain ⟨p, e, _⟩ := h
  rw [Dt.eqv_of e e]; exact Dt.eqv_self0 e
theorem dEq_self {a : Dt} {Q : Dt → Prop} (h : a.sh) (q : Q (.bl true)) : dEq a a Q := ⟨h, h, by rw [Dt.eqv_self h]; exact q⟩
theorem dNe_self {a : Dt} {Q : Dt → Prop} (h : a.sh) (q : Q (.bl false)) : dNe a a Q := ⟨h, h, by rw [Dt.eqv_self h]; exact q⟩
theorem map_get {α : Type} {e : α → Dt} {xs : List α} {i : Nat} {x : Dt} (h : (xs.map e)[i]? = some x) : ∃ a, xs[i]? = some a ∧ x = e a := by
  rw [List.getElem?_map, Option.map_eq_some_iff] at h
  obtain ⟨a, h1, h2⟩ := h
  exact ⟨a, h1, h2.symm⟩
theorem ix_get {xs : List Dt} {k : Int} {n : Nat} {x : Dt} {Q : Dt → Prop} (e : k = n) (h : xs[n]? = some x) (q : Q x) : ∃ x, atI xs k = some x ∧ Q x :=
  ⟨x, by rw [e]; exact atI_nat h, q⟩
theorem ix_mget {α : Type} {f : α → Dt} {xs : List α} {k : Int} {n : Nat} {a : α} {Q : Dt → Prop} (e : k = n) (h : xs[n]? = some a) (q : Q (f a)) : ∃ x, atI (xs.map f) k = some x ∧ Q x :=
  ix_get e (by rw [List.getElem?_map, h]; rfl) q
end Mine
namespace Mine
open PySem PySem.Spec PyProof.Rows L2
theorem cutG_take {α : Type} {xs : List α} {z : Int} {k : Nat} (e : z = k) : cutG xs none (some z) = xs.take k := by
  subst e
  unfold cutG
  rw [HT.sIx_none, HT.sIx_nat, List.drop_zero, Nat.sub_zero]
  by_cases h : k ≤ xs.length
  · rw [Nat.min_eq_left h]
  · rw [Nat.min_eq_right (by omega), List.take_length, List.take_of_length_le (by omega)]
theorem cutG_drop {α : Type} {xs : List α} {z : Int} {k : Nat} (e : z = k) : cutG xs (some z) none = xs.drop k := by
  subst e
  unfold cutG
  rw [HT.sIx_none, HT.sIx_nat]
  by_cases h : k ≤ xs.length
  · rw [Nat.min_eq_left h, List.take_of_length_le (by rw [List.length_drop]; omega)]
  · rw [Nat.min_eq_right (by omega), List.drop_of_length_le (Nat.le_refl _), List.drop_of_length_le (by omega), List.take_nil]
end Mine
namespace Mine
open PySem PySem.Spec PyProof.Rows L2
theorem ix_mem {xs : List Dt} {k : Nat} {Q : Dt → Prop} (h : k < xs.length) (q : ∀ x ∈ xs, Q x) : ∃ x, atI xs (k : Int) = some x ∧ Q x :=
  ix_get rfl (List.getElem?_eq_getElem h) (q _ (List.getElem_mem h))
end Mine

namespace Mine
open PySem PySem.Spec PyProof.Rows L2
/-! ### any thing: its kind -/
/-- a thing whose kind is known -/
def Dt.kn (a : Dt) : Prop := a.kind.isSome = true
theorem kn_int (i : Int) : (Dt.int i).kind.isSome = true := rfl
theorem kn_bl (i : Bool) : (Dt.bl i).kind.isSome = true := rfl
theorem kn_non : (Dt.non).kind.isSome = true := rfl
theorem kn_str (i : Str) : (Dt.str i).kind.isSome = true := rfl
theorem kn_tup (i : List Dt) : (Dt.tup i).kind.isSome = true := rfl
theorem kn_lst (i : List Dt) : (Dt.lst i).kind.isSome = true := rfl
theorem kn_dt (i : List (List Key)) (j : List Dt) : (Dt.dt i j).kind.isSome = true := rfl
theorem isN_dt (i : List (List Key)) (j : List Dt) : Dt.isN (.dt i j) = false := rfl
theorem kn_dk (i : List Key) (j : List Dt) : (Dt.dk i j).kind.isSome = true := rfl
def isW : Dt → Bool
  | .int _ => true
  | _ => false
def isSeq : Dt → Bool
  | .lst _ => true
  | .tup _ => true
  | _ => false
def isTp : Dt → Bool
  | .tup _ => true
  | _ => false
def isSt : Dt → Bool
  | .str _ => true
  | _ => false
def isLs : Dt → Bool
  | .lst _ => true
  | _ => false
def itemsOf : Dt → List Dt
  | .lst xs => xs
  | .tup xs => xs
  | _ => []
/-- a whole number within bounds -/
def inB (lo hi : Int) : Dt → Bool
  | .int i => decide (lo ≤ i) && decide (i ≤ hi)
  | _ => false
theorem isa_int (a : Dt) : a.isa "int" = (isW a || (match a with | .bl _ => true | _ => false)) := by cases a <;> (unfold Dt.isa; rfl)
theorem isa_bool (a : Dt) : a.isa "bool" = (match a with | .bl _ => true | _ => false) := by cases a <;> (unfold Dt.isa; rfl)
theorem isa_tup (a : Dt) : a.isa "tuple" = isTp a := by cases a <;> (unfold Dt.isa; rfl)
theorem isa_str (a : Dt) : a.isa "str" = isSt a := by cases a <;> (unfold Dt.isa; rfl)
theorem isa_lst (a : Dt) : a.isa "list" = isLs a := by cases a <;> (unfold Dt.isa; rfl)
theorem isa_seq (a : Dt) : (a.isa "list" || a.isa "tuple") = isSeq a := by cases a <;> (unfold Dt.isa; rfl)
theorem isa_int_int (i : Int) : (Dt.int i).isa "int" = true := rfl
theorem isa_int_bool (i : Int) : (Dt.int i).isa "bool" = false := rfl
theorem isa_tup_tup (i : List Dt) : (Dt.tup i).isa "tuple" = true := rfl
theorem isa_bl_bool (i : Bool) : (Dt.bl i).isa "bool" = true := rfl
theorem isa_seq_tup (i : List Dt) : ((Dt.tup i).isa "list" || (Dt.tup i).isa "tuple") = true := rfl
theorem isa_seq_lst (i : List Dt) : ((Dt.lst i).isa "list" || (Dt.lst i).isa "tuple") = true := rfl
theorem isa_seq2 (a : Dt) : (isLs a || isTp a) = isSeq a := by cases a <;> rfl
section
variable {i j : Int} {x y : List Dt} {u v : Str} {Q : Dt → Prop}
theorem dAdd_int : dAdd (.int i) (.int j) Q = Q (.int (i + j)) := rfl
theorem dAdd_lst : dAdd (.lst x) (.lst y) Q = (x.length + y.length ≤ 16777216 ∧ Q (.lst (x ++ y))) := rfl
theorem dAdd_tup : dAdd (.tup x) (.tup y) Q = (x.length + y.length ≤ 16777216 ∧ Q (.tup (x ++ y))) := rfl
theorem dAdd_str : dAdd (.str u) (.str v) Q = (u.length + v.length ≤ 16777216 ∧ Q (.str (u ++ v))) := rfl
theorem dAddL_lst : dAddL (.lst x) (.lst y) Q = (x.length + y.length ≤ 16777216 ∧ Q (.lst (x ++ y))) := rfl
theorem dSub_int : dSub (.int i) (.int j) Q = Q (.int (i - j)) := rfl
theorem dMul_int : dMul (.int i) (.int j) Q = (CMul i j ∧ Q (.int (i * j))) := rfl
theorem dMul_lst : dMul (.lst x) (.int j) Q = ((-(2 ^ 63) ≤ j ∧ j < 2 ^ 63 ∧ x.length * j.toNat ≤ 16777216) ∧ Q (.lst (List.replicate j.toNat x).flatten)) := rfl
theorem dMulL_lst : dMulL (.lst x) (.int j) Q = ((-(2 ^ 63) ≤ j ∧ j < 2 ^ 63 ∧ x.length * j.toNat ≤ 16777216) ∧ Q (.lst (List.replicate j.toNat x).flatten)) := rfl
theorem dMul_tup : dMul (.tup x) (.int j) Q = ((x ≠ [] ∧ -(2 ^ 62) ≤ j ∧ j ≤ 1000 ∧ x.length ≤ 1000) ∧ Q (.tup (List.replicate j.toNat x).flatten)) := rfl
theorem dFdiv_int : dFdiv (.int i) (.int j) Q = (CDiv i j ∧ Q (.int (i / j))) := rfl
theorem dMod_int : dMod (.int i) (.int j) Q = (0 < j ∧ Q (.int (i % j))) := rfl
theorem dPow_int : dPow (.int i) (.int j) Q = (CPow i j ∧ Q (.int (i ^ j.toNat))) := rfl
theorem dShl_int : dShl (.int i) (.int j) Q = (CPow i j ∧ Q (.int (i * 2 ^ j.toNat))) := rfl
theorem dShr_int : dShr (.int i) (.int j) Q = (0 ≤ j ∧ Q (.int (i / 2 ^ j.toNat))) := rfl
theorem dLe_int : dLe (.int i) (.int j) Q = Q (.bl (decide (i ≤ j))) := rfl
theorem dLt_int : dLt (.int i) (.int j) Q = Q (.bl (decide (i < j))) := rfl
theorem dGt_int : dGt (.int i) (.int j) Q = Q (.bl (decide (j < i))) := rfl
theorem dGe_int : dGe (.int i) (.int j) Q = Q (.bl (decide (j ≤ i))) := rfl
theorem dNeg_int : dNeg (.int i) Q = Q (.int (-i)) := rfl
end
theorem isSeq_lst (x : List Dt) : isSeq (.lst x) = true := rfl
theorem isSeq_tup (x : List Dt) : isSeq (.tup x) = true := rfl
theorem isTp_tup (x : List Dt) : isTp (.tup x) = true := rfl
theorem isTp_lst (x : List Dt) : isTp (.lst x) = false := rfl
theorem isLs_lst (x : List Dt) : isLs (.lst x) = true := rfl
theorem isLs_tup (x : List Dt) : isLs (.tup x) = false := rfl
theorem isN_non : Dt.isN .non = true := rfl
theorem isN_int (i : Int) : Dt.isN (.int i) = false := rfl
theorem isN_bl (i : Bool) : Dt.isN (.bl i) = false := rfl
theorem isN_str (i : Str) : Dt.isN (.str i) = false := rfl
theorem isN_tup (i : List Dt) : Dt.isN (.tup i) = false := rfl
theorem isN_lst (i : List Dt) : Dt.isN (.lst i) = false := rfl
theorem isN_dk (i : List Key) (j : List Dt) : Dt.isN (.dk i j) = false := rfl
theorem isN_ins (c : Str) (i : List Str) (j : List Dt) : Dt.isN (.ins c i j) = false := rfl
theorem line0 : ((0 : Nat) ≤ 16777216) = True := eq_true (by decide)
theorem line1 : ((1 : Nat) ≤ 16777216) = True := eq_true (by decide)
theorem line2 : ((2 : Nat) ≤ 16777216) = True := eq_true (by decide)
theorem line3 : ((3 : Nat) ≤ 16777216) = True := eq_true (by decide)
theorem line4 : ((4 : Nat) ≤ 16777216) = True := eq_true (by decide)
theorem line5 : ((5 : Nat) ≤ 16777216) = True := eq_true (by decide)
theorem line6 : ((6 : Nat) ≤ 16777216) = True := eq_true (by decide)
theorem line7 : ((7 : Nat) ≤ 16777216) = True := eq_true (by decide)
theorem line8 : ((8 : Nat) ≤ 16777216) = True := eq_true (by decide)
theorem line9 : ((9 : Nat) ≤ 16777216) = True := eq_true (by decide)
theorem line10 : ((10 : Nat) ≤ 16777216) = True := eq_true (by decide)
theorem line11 : ((11 : Nat) ≤ 16777216) = True := eq_true (by decide)
theorem line12 : ((12 : Nat) ≤ 16777216) = True := eq_true (by decide)
theorem dTru_non {Q : Bool → Prop} : dTru .non Q = Q false := rfl
theorem dTru_bl {b : Bool} {Q : Bool → Prop} : dTru (.bl b) Q = Q b := rfl
theorem dTru_int {i : Int} {Q : Bool → Prop} : dTru (.int i) Q = Q (i != 0) := rfl
theorem dTru_lst {x : List Dt} {Q : Bool → Prop} : dTru (.lst x) Q = Q (!x.isEmpty) := rfl
theorem dTru_tup {x : List Dt} {Q : Bool → Prop} : dTru (.tup x) Q = Q (!x.isEmpty) := rfl
theorem dTru_str {x : Str} {Q : Bool → Prop} : dTru (.str x) Q = (x.length ≤ 16777216 ∧ Q ((x.length : Int) != 0)) := rfl
theorem dTru_dk {x : List Key} {y : List Dt} {Q : Bool → Prop} : dTru (.dk x y) Q = Q (!x.isEmpty) := rfl
theorem isTp_non : isTp .non = false := rfl
theorem isTp_int (i : Int) : isTp (.int i) = false := rfl
theorem isTp_str (i : Str) : isTp (.str i) = false := rfl
theorem isW_int (i : Int) : isW (.int i) = true := rfl
/-- a thing that may be asked for its items -/
theorem seq_or {a : Dt} : (∃ xs, a = .lst xs) ∨ (∃ xs, a = .tup xs) ∨ isSeq a = false := by
  cases a <;> first | exact .inl ⟨_, rfl⟩ | exact .inr (.inl ⟨_, rfl⟩) | exact .inr (.inr rfl)
/-- the first place of an item that is not as it should be -/
def badAt (p : Dt → Bool) (xs : List Dt) : Option Nat := xs.findIdx? fun x => !p x
theorem badAt_none {p : Dt → Bool} {xs : List Dt} (h : ∀ (j : Nat) x, xs[j]? = some x → p x = true) : badAt p xs = none := by
  unfold badAt
  rw [List.findIdx?_eq_none_iff]
  intro x hx
  obtain ⟨j, hj⟩ := List.mem_iff_getElem?.mp hx
  rw [h j x hj]; rfl
theorem badAt_some {p : Dt → Bool} {xs : List Dt} {i : Nat} {y : Dt} (h : ∀ (j : Nat) x, j < i → xs[j]? = some x → p x = true) (hy : xs[i]? = some y) (hp : p y = false) : badAt p xs = some i := by
  unfold badAt
  rw [List.findIdx?_eq_some_iff_getElem]
  obtain ⟨hl, he⟩ := List.getElem?_eq_some_iff.mp hy
  refine ⟨hl, by rw [he, hp]; rfl, fun j hj => ?_⟩
  rw [h j _ hj (List.getElem?_eq_getElem (Nat.lt_trans hj hl))]; decide
theorem badAt_map {p : Dt → Bool} {α : Type} {e : α → Dt} {xs : List α} (h : ∀ a ∈ xs, p (e a) = true) : badAt p (xs.map e) = none :=
  badAt_none fun j x hx => by
    obtain ⟨a, ha, rfl⟩ := List.mem_map.mp (List.mem_of_getElem? hx)
    exact h a ha
theorem enum_get {xs : List Dt} {i : Nat} {x : Dt} (h : (xs.mapIdx fun i x => Dt.tup [.int (i : Nat), x])[i]? = some x) : ∃ y, xs[i]? = some y ∧ x = .tup [.int (i : Nat), y] := by
  rw [List.getElem?_mapIdx, Option.map_eq_some_iff] at h
  obtain ⟨y, h1, h2⟩ := h
  exact ⟨y, h1, h2.symm⟩
theorem rng_get {n i : Nat} {x : Dt} (h : ((List.range n).map fun i => Dt.int (i : Nat))[i]? = some x) : i < n ∧ x = .int (i : Nat) := by
  rw [List.getElem?_map, Option.map_eq_some_iff] at h
  obtain ⟨y, h1, h2⟩ := h
  obtain ⟨hl, e⟩ := List.getElem?_eq_some_iff.mp h1
  rw [List.length_range] at hl
  rw [List.getElem_range] at e
  exact ⟨hl, by rw [← h2, e]⟩
end Mine

namespace Mine
open PySem PySem.Spec PyProof.Rows L2
/-! ### dicts as tables -/
section
variable {κ : Type} [DecidableEq κ]
theorem putKs_mem {j k : κ} : ∀ {ks : List κ}, k ∈ putKs ks j ↔ k ∈ ks ∨ k = j
  | [] => by simp [putKs]
  | a :: ks => by
    unfold putKs
    by_cases c : a = j
    · rw [if_pos c]
      refine ⟨.inl, fun h => h.elim id fun e => ?_⟩
      rw [e, ← c]; exact List.mem_cons_self
    · rw [if_neg c, List.mem_cons, List.mem_cons, putKs_mem (ks := ks), or_assoc]
theorem putKs_nodup {j : κ} : ∀ {ks : List κ}, ks.Nodup → (putKs ks j).Nodup
  | [], _ => by simp [putKs]
  | a :: ks, h => by
    have h2 := List.nodup_cons.mp h
    unfold putKs
    by_cases c : a = j
    · rw [if_pos c]; exact h
    · rw [if_neg c]
      refine List.nodup_cons.mpr ⟨fun m => ?_, putKs_nodup h2.2⟩
      rcases putKs_mem.mp m with m | m
      · exact h2.1 m
      · exact c m
theorem putKs_len {j : κ} : ∀ {ks : List κ}, (putKs ks j).length ≤ ks.length + 1
  | [] => Nat.le_refl _
  | a :: ks => by
    unfold putKs
    split
    · exact Nat.le_succ _
    · rw [List.length_cons, List.length_cons]; exact Nat.succ_le_succ putKs_len
theorem put_len {j : κ} {y : Dt} : ∀ {ks : List κ} {ds : List Dt}, ks.length = ds.length → (putKs ks j).length = (putVs ks ds j y).length
  | [], [], _ => rfl
  | a :: ks, d :: ds, h => by
    unfold putKs putVs
    split
    · simpa using h
    · rw [List.length_cons, List.length_cons, put_len (by simpa using h)]
theorem valD_put {j k : κ} {y : Dt} : ∀ {ks : List κ} {ds : List Dt}, ks.length = ds.length → valD (putKs ks j) (putVs ks ds j y) k = if k = j then some y else valD ks ds k
  | [], [], _ => by
    show (if j = k then some y else none) = if k = j then some y else none
    by_cases c : k = j
    · rw [if_pos c, if_pos c.symm]
    · rw [if_neg c, if_neg fun e => c e.symm]
  | a :: ks, d :: ds, h => by
    unfold putKs putVs
    by_cases c : a = j
    · rw [if_pos c, if_pos c]
      unfold valD
      by_cases c2 : a = k
      · rw [if_pos c2, if_pos (c2 ▸ c)]
      · rw [if_neg c2, if_neg fun e => c2 (c.trans e.symm), if_neg c2]
    · rw [if_neg c, if_neg c]
      show (if a = k then some d else valD (putKs ks j) (putVs ks ds j y) k) = _
      rw [valD_put (by simpa using h)]
      show _ = if k = j then some y else if a = k then some d else valD ks ds k
      by_cases c2 : a = k
      · rw [if_pos c2, if_pos c2, if_neg fun e => c (c2.trans e)]
      · rw [if_neg c2, if_neg c2]
/-- the dict ks, ds is this table, with at most n keys -/
structure Tb (ks : List κ) (ds : List Dt) (f : κ → Option Dt) (n : Nat) : Prop where
  nd : ks.Nodup
  len : ks.length = ds.length
  few : ks.length ≤ n
  val : ∀ k, valD ks ds k = f k
theorem Tb.nil : Tb ([] : List κ) [] (fun _ => none) 0 := ⟨List.nodup_nil, rfl, Nat.le_refl _, fun _ => rfl⟩
theorem Tb.put {ks : List κ} {ds : List Dt} {f : κ → Option Dt} {n : Nat} (h : Tb ks ds f n) (j : κ) (y : Dt) : Tb (putKs ks j) (putVs ks ds j y) (fun k => if k = j then some y else f k) (n + 1) :=
  ⟨putKs_nodup h.nd, put_len h.len, Nat.le_trans putKs_len (Nat.succ_le_succ h.few), fun k => by rw [valD_put h.len, h.val]⟩
theorem Tb.congr {ks : List κ} {ds : List Dt} {f g : κ → Option Dt} {n m : Nat} (h : Tb ks ds f n) (e : ∀ k, f k = g k) (l : n ≤ m) : Tb ks ds g m := ⟨h.nd, h.len, Nat.le_trans h.few l, fun k => (h.val k).trans (e k)⟩
end
end Mine

namespace Mine
open PySem PySem.Spec PyProof.Rows L2
/-! ### a comprehension of two walks within another's element -/
end Mine

namespace Mine
open PySem PySem.Spec PyProof.Rows L2
/-! ### defs that hand out a list of the caller's own -/
def spO (K : PySem.W.Frag) (F : DFn) : Sp := fun vs H Q E => ∃ (X : Addr → Prop) (hd : Hnd) (args : List Sl) (Qd : Dt → Prop) (Qx : Xc → Prop), (∀ a, X a → ∃ o, H a = some o) ∧ (∀ h c, hd = some (h, c) → X h ∧ HandC H h c) ∧ SlAll K hd X H vs args ∧ F args Qd Qx ∧
  (∀ ds p us H', Frm hd H H' → H p = none → H' p = some (.lst us) → DenAll K (vis H' fun a => X a ∨ a = p) us ds → Qd (.lst ds) → Q (.ref p) H') ∧ (∀ x cls dx H', Frm hd H H' → XRep K (vis H' X) cls dx x → Qx x → E cls dx H')
theorem spO_len {K : PySem.W.Frag} {F : DFn} {np : Nat} (hF : ∀ args Q E, F args Q E → args.length = np) : ∀ vs H Q E, spO K F vs H Q E → vs.length = np := by
  rintro vs H Q E ⟨X, hd, args, Qd, Qx, _, _, sl, h, _⟩
  rw [sl.length]; exact hF _ _ _ h
section
variable {C : Bc} {F : DFn} {dvs : List V} {dd : List Sl} {t : TA} {a : DSX}
theorem df_callO0 (hd : Dvs dvs dd) (ha : DAs C t a) : DF C (tCall (spO C.K F) dvs E0 t) (eCall0 F dd a) := by
  intro X env σ H Q Qd Qx rp he q x
  refine ha X env σ H _ _ Qx rp he (fun ss vs H1 f1 r1 he1 => ?_) x
  have rp1 := rp.step f1
  exact ⟨X, C.hd, ss ++ dd, Qd, fun _ => False, rp1.al, fun h c e => ⟨rp1.hX h c e, (rp1.hands h c e).2.2⟩, SlAll.append r1 (hd C.K C.hd X H1), he1,
    fun ds p us H2 f2 n h2 a2 q2 => q _ _ _ (f1.trans f2) (Fsh.frm rp f1 ⟨p, us, ds, rfl, rfl, n, h2, a2⟩) q2, fun _ _ _ _ _ _ z => z.elim⟩
end
/-- what the last row hands out is new since the entry, and nothing hangs on it -/
structure LnkO (C : Bc) (X : Addr → Prop) (H : Hp) (D : Ends) (d : DEn) : Prop where
  rt : ∀ X' env σ H' p us ds, Rep C X' env σ H' → C.H0 p = none → H' p = some (.lst us) → DenAll C.K (vis H' fun a => C.X0 a ∨ a = p) us ds → d.rt (.lst ds) → D.rt (.ref p) H'
  xc : ∀ X' env σ H' x cls dx, Rep C X' env σ H' → Same (vis H X) (vis H' X') → XRep C.K (vis H' X') cls dx x → d.xc env x → C.E σ cls dx H'
def DSO (C : Bc) (t : TS) (s : DSt) : Prop := ∀ X env σ H D d, Rep C X env σ H → LnkO C X H D d → s d env → t D σ H
/-- rows with no return, then the last one -/
def sOut (a b : DSt) : DSt := fun d env => a ⟨fun e => b d e, fun _ => False, fun _ => False, fun _ => False, d.xc⟩ env
def sRetO (e : DX) : DSt := fun d env => e env d.rt (d.xc env)
def sRetOwn (i : Nat) : DSt := fun d env => match env[i]? with
  | some (.own (.lst xs)) => d.rt (.lst xs)
  | _ => False
section
variable {C : Bc} {t u : TS} {a b : DSt} {te : TE} {e : DX}
theorem LnkO.step {X X1 : Addr → Prop} {H H1 : Hp} {D : Ends} {d : DEn} (l : LnkO C X H D d) (s : Same (vis H X) (vis H1 X1)) : LnkO C X1 H1 D d where
  rt := l.rt
  xc := fun X' env σ H' x cls dx r k a h => l.xc X' env σ H' x cls dx r (s.trans k) a h
theorem dso_seq (ha : DS C t a) (hb : DSO C u b) : DSO C (tSeq t u) (sOut a b) := by
  intro X env σ H D d r l h
  refine ha X env σ H { D with nx := u D } ⟨fun e => b d e, fun _ => False, fun _ => False, fun _ => False, d.xc⟩ r ⟨fun X' env' σ' H' r' k h' => ?_, fun _ _ _ _ _ _ _ _ _ (h' : False) => h'.elim, fun _ _ _ _ _ _ (h' : False) => h'.elim, fun _ _ _ _ _ _ (h' : False) => h'.elim, l.xc⟩ h
  exact hb X' env' σ' H' D d r' (l.step k) h'
theorem dso_own (i : Nat) : DSO C (tRet (tVar i)) (sRetOwn i) := by
  intro X env σ H D d r l h
  unfold sRetOwn at h
  split at h
  · rename_i xs e1
    obtain ⟨o, e2, p, w, rfl, xp, x0, hp, dn⟩ := r.slot i _ e1
    cases dn with
    | lst a =>
      refine ⟨.ref p, e2, ?_⟩
      refine l.rt X env σ H p _ xs r ((r.new p xp).resolve_left x0) hp (a.mono (vis_anti fun a z => ?_)) h
      rcases z with z | rfl
      · exact r.sup a z
      · exact xp
  · exact h.elim
end
theorem body_ofO0 {K : PySem.W.Frag} {N : List Str} {np n : Nat} {sb : DSt} {t : TS} {vs : List V} {H : Hp} {Q : VK} {E : XK} (hn : N.length = n) (h : spO K (mkD0 np n sb) vs H Q E)
    (hb : ∀ X hd, DSO ⟨K, H, X, hd, none, fun _ _ _ _ => False, none⟩ t sb) : t { nx := fun _ H' => Q .non H', rt := Q } (L2.start N vs) H := by
  obtain ⟨X, hd, args, Qd, Qx, al, hh, sl, ⟨ha, h⟩, q, x⟩ := h
  have r := rep_start (N := N) (E := fun _ _ _ _ => False) al hh sl
  rw [ha, hn] at r
  refine hb X hd X _ _ H _ _ r ⟨fun X' env σ H' p us ds r' n h2 a2 h' => q ds p us H' r'.frm n h2 a2 h', fun _ _ _ _ _ _ _ _ _ _ (h' : False) => h'.elim⟩ h
theorem sOut_W {a b : DSt} {d : DEn} {env : List Sl} : sOut a b d env = a ⟨fun e => b d e, fun _ => False, fun _ => False, fun _ => False, d.xc⟩ env := rfl
theorem sRetO_W {e : DX} {d : DEn} {env : List Sl} : sRetO e d env = e env d.rt (d.xc env) := rfl
theorem sRetOwn_W {i : Nat} {d : DEn} {env : List Sl} : sRetOwn i d env = (match env[i]? with
  | some (.own (.lst xs)) => d.rt (.lst xs)
  | _ => False) := rfl
end Mine

namespace Mine
open PySem PySem.Spec PyProof.Rows L2
/-! ### calls of one's own defs with keywords: f(a, .., k = v, ..), the keywords behind what lacks -/
section
variable {K : PySem.W.Frag} {x qual : Str} {params : Arguments} {body : List Stmt} {scope : Scope} {dvs : List V} {kws : List (Str × V)} {f : Addr} {fd : FuncData} {ps : List Str}
end
def eCallK (n m : Nat) (F : DFn) (dd ee : List Sl) (a b : DSX) : DX := fun env Q E => a env (fun ss => b env (fun zs => ss.length = n ∧ zs.length = m ∧ F (ss ++ dd ++ zs ++ ee) Q E) E) E
def eCallK0 (n m : Nat) (F : DFn) (dd ee : List Sl) (a b : DSX) : DX := fun env Q E => a env (fun ss => b env (fun zs => ss.length = n ∧ zs.length = m ∧ F (ss ++ dd ++ zs ++ ee) Q fun _ => False) E) E
section
variable {C : Bc} {F : DFn} {dvs evs : List V} {dd ee : List Sl} {t tk : TA} {a b : DSX} {n m : Nat}
end
theorem eCallK_W {n m : Nat} {F : DFn} {dd ee : List Sl} {a b : DSX} {env : List Sl} {Q : Dt → Prop} {E : Xc → Prop} : eCallK n m F dd ee a b env Q E = a env (fun ss => b env (fun zs => ss.length = n ∧ zs.length = m ∧ F (ss ++ dd ++ zs ++ ee) Q E) E) E := rfl
theorem eCallK0_W {n m : Nat} {F : DFn} {dd ee : List Sl} {a b : DSX} {env : List Sl} {Q : Dt → Prop} {E : Xc → Prop} : eCallK0 n m F dd ee a b env Q E = a env (fun ss => b env (fun zs => ss.length = n ∧ zs.length = m ∧ F (ss ++ dd ++ zs ++ ee) Q fun _ => False) E) E := rfl
end Mine

namespace Mine
open PySem PySem.Spec PyProof.Rows L2
/-! ### defs that show things by repr: they want that no repr is under way around them -/
structure FnG (P : Program) (w : World) (K : PySem.W.Frag) (mg : Str → Option Value) (base : Heap) (Z : CXT) (k : Nat) (f : Addr) (fd : FuncData) (ps : List Str) (sp : Sp) : Prop where
  len : ∀ vs H Q E, sp vs H Q E → vs.length = ps.length
  go : ∀ (A : Around) (out : List Env) (s : Shared) (H : Hp) (gs : Args) (us : List Value) (vs : List V) (Q : VK) (E : XK), A.guards = some [] → Room k A → Env0 P w K mg base A out s H → BindsTo s fd gs (ps.zip us) → Vals vs us → sp vs H Q E →
    codeAny (model P w) A (.call (.ref f) gs) (CR Z out P w H s Q E) s
section
variable {P : Program} {w : World} {K : PySem.W.Frag} {mg : Str → Option Value} {base : Heap} {Z : CXT} {j k : Nat} {f : Addr} {fd : FuncData} {ps : List Str} {sp : Sp}
theorem FnG.of (F : FnOk P w K mg base Z k f fd ps sp) : FnG P w K mg base Z k f fd ps sp := ⟨F.len, fun A out s H gs us vs Q E _ => F.run A out s H gs us vs Q E⟩
theorem FnG.mono (F : FnG P w K mg base Z j f fd ps sp) (h : j ≤ k) : FnG P w K mg base Z k f fd ps sp := ⟨F.len, fun A out s H gs us vs Q E hg hr => F.go A out s H gs us vs Q E hg (hr.mono h)⟩
end
/-! their calls -/
section
variable {X : Cx} {Z : CXT} {k : Nat} {f : Addr} {fd : FuncData} {ps : List Str} {sp : Sp} {dvs : List V} {ds : List Value} {E : XK} {x : Str} {p pos : Pos} {e : Expr} {es : List Expr} {t : TA}
theorem run_fnG {pins : List (Addr × Obj)} {σ : L2.St} {H : Hp} {s : Shared} {Q : VK} {us : List Value} {vs : List V} (F : FnG X.prog X.w X.K X.mg X.base Z k f fd ps sp) (gu : X.A.guards = some []) (hr : Room k X.A) (hb : Binds X.K fd ps ds) (hd : Vals dvs ds) (hx : Passes Z X E)
    (I : Inv X pins σ H s) (r : Vals vs us) (h : sp (vs ++ dvs) H Q E) : wpAny (model X.prog X.w) X.A (call (.ref f) us) (EP X pins σ Q) X.xe s := by
  have all : Vals (vs ++ dvs) (us ++ ds) := r.append hd
  have many : (us ++ ds).length = ps.length := all.length.symm.trans (F.len _ _ _ _ h)
  have run := F.go X.A X.stack s H ⟨us, []⟩ (us ++ ds) (vs ++ dvs) Q E gu hr I.env0 (hb s us I.kIn many) all h
  refine wpAny_call (codeAny_mono run fun r s' hq => ?_)
  match r, hq with
  | .error e, hq => exact hx pins σ H s e s' I hq
  | .ok (.ret u), hq => exact I.after hq
  | .ok .next, hq => exact hq.elim
  | .ok .brk, hq => exact hq.elim
  | .ok .cont, hq => exact hq.elim
theorem pe_callG (F : FnG X.prog X.w X.K X.mg X.base Z k f fd ps sp) (gu : X.A.guards = some []) (hr : Room k X.A) (hg : Gl X x) (hm : X.mg x = some (.ref f)) (hk : PySem.W.keepIn X.K (.ref f) = true) (hb : Binds X.K fd ps ds) (hd : Vals dvs ds) (hx : Passes Z X E)
    (ha : PA X (e :: es) t) (dbg : (x == ("__debug__" : Str)) = false := by decide) (st : starEach (e :: es) X.env = (false, eval e X.env) :: starEach es X.env := by rfl) (pl : (backTo pos (starEach es X.env)).any (·.1) = false := by rfl) :
    PE X (.Call (.Name x p) (e :: es) [] pos) (tCall sp dvs E t) :=
  ⟨fun pins s σ H Q I h => wpAny_Call_Name_kw (ld_glob I hg hm (PySem.W.callWith_K (h₀ := X.base) I.ok.mod.kin hk
    (thn (ha.run pos pins s σ H _ I h) fun us s1 ⟨vs, H1, I1, r, q⟩ => ⟨I1.kIn, run_fnG F gu hr hb hd hx I1 r q⟩) st pl) dbg)⟩
end
/-! such a def by its body -/
theorem fnG_of {Z : CXT} {P : Program} {w : World} {K : PySem.W.Frag} {mg : Str → Option Value} {base : Heap} {k : Nat} {f : Addr} {name qual : Str} {params : Arguments} {body : List Stmt} {scope : Scope} {dV kV doc pm cdv ct oc : Value} {an od : Option Addr} {osl : Array (Option Value)}
    {N ps : List Str} {sp : Sp} (lk : K.lookup f = some ⟨oc, od, .func (PySem.W.fnOf name qual params body scope dV kV doc pm an cdv ct), osl⟩) (code : PySem.W.codeIn K cdv qual = true) (S : FnScope N ps scope)
    (len : ∀ vs H Q E, sp vs H Q E → vs.length = ps.length)
    (hb : ∀ (A : Around) (out : List Env) (s : Shared) (H : Hp) (vs : List V) (Q : VK) (E : XK), A.guards = some [] → Room k (A.deeper (envOfC qual scope s.heap.objs.size f cdv)) → sp vs H Q E →
      ∃ t, PSs (cxOf Z P w K mg base N qual scope f cdv A out s H E) body t ∧ t { nx := fun _ H' => Q .non H', rt := Q } (L2.start N vs) H) :
    FnG P w K mg base Z (k + 1) f (PySem.W.fnOf name qual params body scope dV kV doc pm an cdv ct) ps sp := by
  refine ⟨len, fun A out s H gs us vs Q E gu hr env bnd r h => ?_⟩
  have there : ∀ b o, base.get? b = some o → s.heap.get? b = some o := fun b o e => (env.bs b o e).1
  have kin := env.mod.kin.keeps there
  have kinds : ∀ z ∈ ps.zip us, scope.names.lookup z.1 = some .local ∨ (scope.names.lookup z.1 = some .cell ∧ ((cellsFrom (s.heap.objs.size + 1) scope.names []).lookup z.1).isSome = true) := fun z hz =>
    (S.par z.1 (List.of_mem_zip (a := z.1) (b := z.2) hz).1).imp id fun q => ⟨q, PySem.W.cellsFrom_some _ _ _ (.inl q)⟩
  refine codeAny_call_function hr.depth (kin _ _ lk) rfl S.co S.gen rfl (PySem.W.codeRec_of kin code) (bnd _ _ _ _ (wpAny_newFunctionEnv_cells S.kind kinds fun env2 e2 s1 x => ?_))
  subst e2
  refine ⟨(env.mod.nolimit.keeps there).keeps x.toInCall.keep, codeAny_func ?_⟩
  obtain ⟨t, ps1, run⟩ := hb A out s H vs Q E gu (hr.deeper _) h
  have I : Inv (cxOf Z P w K mg base N qual scope f cdv A out s H E) [] (L2.start N vs) H s1 := inv_start S hr.hd env (len _ _ _ _ h) r x
  refine wpAny_mono (ps1.run [] s1 (L2.start N vs) H _ I run) (fun fl s' hs => ?_) fun _ _ hs => hs
  match fl, hs with
  | .ret u, ⟨v, σ', H', J, rv, q⟩ => exact ⟨v, H', J.os, J.bare, J.base, J.hok, rv, q⟩
  | .next, ⟨σ', H', J, q⟩ => exact ⟨.non, H', J.os, J.bare, J.base, J.hok, rfl, q⟩
  | .brk, ⟨_, _, _, q⟩ => exact False.elim q
  | .cont, ⟨_, _, _, q⟩ => exact False.elim q
theorem funD_okG {P : Program} {w : World} {K : PySem.W.Frag} {mg : Str → Option Value} {base : Heap} {x qual : Str} {params : Arguments} {body : List Stmt} {scope : Scope} {dvs : List V} {kws : List (Str × V)} {f : Addr} {fd : FuncData} {Z : CXT} {N ps : List Str} {k : Nat} {sp : Sp}
    (F : FunD K x qual params body scope dvs kws f fd) (S : FnScope N ps scope) (len : ∀ vs H Q E, sp vs H Q E → vs.length = ps.length)
    (hb : ∀ (cdv : Value) (A : Around) (out : List Env) (s : Shared) (H : Hp) (vs : List V) (Q : VK) (E : XK), A.guards = some [] → Room k (A.deeper (envOfC qual scope s.heap.objs.size f cdv)) → sp vs H Q E →
      ∃ t, PSs (cxOf Z P w K mg base N qual scope f cdv A out s H E) body t ∧ t { nx := fun _ H' => Q .non H', rt := Q } (L2.start N vs) H) : FnG P w K mg base Z (k + 1) f fd ps sp := by
  obtain ⟨_, _, _, _, _, _, _, cdv, _, _, rfl, lk, code, _, _⟩ := F.ex
  exact fnG_of lk code S len fun A out s H vs Q E gu hr h => hb cdv A out s H vs Q E gu hr h
/-! ### the head over such a promise -/
section
variable {P : Program} {w : World} {K : PySem.W.Frag} {mg mb : Str → Option Value} {Z : CXT} {k : Nat} {fa a : Addr} {fd : FuncData} {x : Str} {sp : Sp} {s₁ : Shared} {vs : List Value} {ns : List Int}
/-- from an abstract heap in which nothing but the script may be tracked -/
theorem law_coreG {H : Hp} (KX : K.In s₁.heap) (hns : s₁.heap.Ns mainGlobals mg) (hb : s₁.heap.Ns builtinsNs mb) (hbb : ∀ x : Str, x ≠ "__name__" → mb x = bootBuiltins x) (hlim : s₁.heap.NoLimit) (hg : s₁.gens = #[]) {o : Obj}
    (ha : s₁.heap.get? a = some o) (hod : ∀ es ep, o.data ≠ .dict es ep) (hr : Room k callerA) (F : ∀ base : Heap, K.In base → base.Ns mainGlobals mg → FnG P w K mg base Z k fa fd [x] sp) (hbind : ∀ (s : Shared) (u : Value), BindsTo s fd ⟨[u], []⟩ [(x, u)])
    (hsp : sp [.ref a] H (fun v _ => v = .bl true) fun _ _ _ => False) (hZ : ∀ e s', Z [] H s₁ (fun _ _ _ => False) e s' → False) (hO : Only H) (hok : HOk P w H s₁.heap) (hA : ∀ b, H b ≠ none → b = a) (hK : H a ≠ none → K.lookup a = none) :
    codeAny (model P w) callerA (.call (.ref fa) ⟨[.ref a], []⟩) (fun r s' => r = .ok (.ret (.bool true)) ∧ OldK s₁.heap s'.heap ∧ s'.os = s₁.os ∧ AllBare s'.gens) s₁ := by
  have at_a : ∀ {b : Addr} {u : HO}, H b = some u → b = a := fun {b u} q => hA b (q ▸ Option.some_ne_none u)
  have plain : ∀ {b : Addr} {ob : Obj} {es : Array DictEntry} {ep : Nat}, s₁.heap.get? b = some ob → ob.data = .dict es ep → H b = none := fun {b ob es ep} e d => by
    rcases q : H b with _ | u
    · rfl
    · cases at_a q
      cases ha.symm.trans e
      exact absurd d (hod es ep)
  have ns : ∀ {b : Addr} {m : Str → Option Value}, s₁.heap.Ns b m → (hidT s₁.heap H).Ns b m := fun {b m} ⟨ob, es, ep, e, d, r⟩ => ⟨ob, es, ep, hidT_get e (plain e d), d, r⟩
  have kb : K.In (hidT s₁.heap H) := fun b ob e => hidT_get (KX b ob e) (by
    rcases q : H b with _ | u
    · rfl
    · cases at_a q
      rw [hK (q ▸ Option.some_ne_none u)] at e
      cases e)
  obtain ⟨mc, l1, l2⟩ := hlim
  have env : Env0 P w K mg (hidT s₁.heap H) callerA [] s₁ H := ⟨rfl, ⟨kb, ns hns, ⟨mb, ns hb, hbb⟩, ⟨mc, ns l1, l2⟩⟩, fun b ob e => of_hidT e, Nat.le_of_eq (hidT_size _ _), trivial, fun b z => (nomatch z), hok, .of_eq hg⟩
  refine codeAny_mono ((F _ kb (ns hns)).go callerA [] s₁ H ⟨[.ref a], []⟩ [.ref a] [.ref a] _ _ rfl hr env (hbind s₁ (.ref a)) (.cons rfl .nil) hsp) fun r s' h => ?_
  match r, h with
  | .error e, h => exact (hZ e s' h).elim
  | .ok .next, h => exact h.elim
  | .ok .brk, h => exact h.elim
  | .ok .cont, h => exact h.elim
  | .ok (.ret u), ⟨v, H', os, bare, un, hok', rv, q⟩ =>
    obtain rfl : v = .bl true := q
    obtain rfl : u = Value.bool true := rv
    refine ⟨rfl, OldK.of_keep fun b ob e => ?_, os, bare⟩
    rcases q : H b with _ | u
    · exact un.keep b ob e q (fun z => nomatch z) (fun z => nomatch z)
    · rcases hO b with z | ⟨o2, xs, z⟩
      · cases z.symm.trans q
      · have e1 := (hok b _ z).1
        have e2 := (hok' b _ (un.frzs b o2 _ z)).1
        cases e1.symm.trans e
        exact e2
theorem law_callG (KX : K.In s₁.heap) (hns : s₁.heap.Ns mainGlobals mg) (hb : s₁.heap.Ns builtinsNs mb) (hbb : ∀ x : Str, x ≠ "__name__" → mb x = bootBuiltins x) (hlim : s₁.heap.NoLimit) (hg : s₁.gens = #[])
    (ha : s₁.heap.get? a = some { cls := .type "list", data := .seq vs.toArray }) (hi : IntsAre vs ns) (hl : ns.length ≤ sizeLine) (hr : Room k callerA) (F : ∀ base : Heap, K.In base → base.Ns mainGlobals mg → FnG P w K mg base Z k fa fd [x] sp)
    (hbind : ∀ (s : Shared) (u : Value), BindsTo s fd ⟨[u], []⟩ [(x, u)]) (hsp : ∀ H : Hp, Only H → SqL K H a (ns.map V.int) → sp [.ref a] H (fun v _ => v = .bl true) fun _ _ _ => False)
    (hZ : ∀ H e s', Z [] H s₁ (fun _ _ _ => False) e s' → False) :
    codeAny (model P w) callerA (.call (.ref fa) ⟨[.ref a], []⟩) (fun r s' => r = .ok (.ret (.bool true)) ∧ OldK s₁.heap s'.heap ∧ s'.os = s₁.os ∧ AllBare s'.gens) s₁ := by
  have rv := vals_ints hi
  have nd : ∀ (es : Array DictEntry) (ep : Nat), ({ cls := .type "list", data := .seq vs.toArray } : Obj).data ≠ .dict es ep := fun _ _ => nofun
  rcases hk : K.lookup a with _ | o
  · let O : HO := .frz { cls := .type "list", data := .seq vs.toArray } (.lst (ns.map V.int))
    have e1 : (fun b => if b = a then some O else none : Hp) a = some O := if_pos rfl
    have e2 : ∀ b, b ≠ a → (fun b => if b = a then some O else none : Hp) b = none := fun b h => if_neg h
    generalize (fun b => if b = a then some O else none : Hp) = H at e1 e2
    have only : Only H := fun b => by
      by_cases h : b = a
      · subst h; exact .inr ⟨_, _, e1⟩
      · exact .inl (e2 b h)
    refine law_coreG KX hns hb hbb hlim hg ha nd hr F hbind (hsp H only (.inl (.inr ⟨_, e1⟩))) (hZ H) only (fun b u z => ?_) (fun b z => ?_) fun _ => hk
    · by_cases h : b = a
      · subst h
        cases e1.symm.trans z
        exact ⟨ha, by rw [List.length_map]; exact hl, vs, _, rv, ha⟩
      · cases (e2 b h).symm.trans z
    · by_cases h : b = a
      · exact h
      · exact absurd (e2 b h) z
  · have e := KX a o hk
    rw [ha] at e
    cases e
    have len := hi.length
    refine law_coreG (H := fun _ => none) KX hns hb hbb hlim hg ha nd hr F hbind (hsp _ (fun _ => .inl rfl) (.inr ⟨_, vs.toArray, _, hk, rfl, rfl, rfl, by rw [List.size_toArray, len]; exact hl, by simpa using rv⟩)) (hZ _) (fun _ => .inl rfl) (fun b u z => nomatch z) (fun b z => absurd rfl z) fun z => absurd rfl z
end
theorem walk_ofG {l : PySem.W.OpenLaw} {n k : Nat} {q : Program} {loose : List Str} {XP : (Str → Option Value) → Heap → Prop} {YP : World → Heap → Prop} {d : DefRec} {Z : CXT} {x : Str} (hn : l.most = some n) (hn2 : n ≤ sizeLine) (hdf : d.params.defaults = []) (hr : Room k callerA)
    (F : ∀ (w : World) (mg : Str → Option Value) (fa : Addr) (h : Heap), YP w h → h.Ns mainGlobals mg → mg d.name = some (.ref fa) →
      ∃ (K : PySem.W.Frag) (fd : FuncData) (sp : Sp), K.In h ∧ (∀ (s : Shared) (u : Value), BindsTo s fd ⟨[u], []⟩ [(x, u)]) ∧ (∀ (H : Hp) (a : Addr) (ns : List Int), ns.length ≤ n → Only H → SqL K H a (ns.map V.int) → sp [.ref a] H (fun v _ => v = .bl true) fun _ _ _ => False) ∧
        ∀ base : Heap, K.In base → base.Ns mainGlobals mg → FnG l.prog w K mg base Z k fa fd [x] sp)
    (hZ : ∀ (H : Hp) (s : Shared) (e : Value) (s' : Shared), Z [] H s (fun _ _ _ => False) e s' → False) : PySem.W.WalkO q loose XP YP l.row.toRowW d [] (fun f vs => PySem.call f vs) :=
  Att.attach_call hn hdf fun w s₀ s₁ mg mb fa o pm cd doc a vs ns G Y ho hd hcd hmg hobj hints hlen hg => by
    obtain ⟨K, fd, sp, KX, hb, hsp, hF⟩ := F w mg fa _ Y G.T.g hmg
    exact law_callG KX G.T.g G.T.b G.T.builtins G.T.nolimit hg hobj hints (Nat.le_trans hlen hn2) hr hF hb (fun H hO hS => hsp H a ns hlen hO hS) fun H e s' => hZ H s₁ e s'
/-! ### repr -/
def rReprG (K : PySem.W.Frag) : List V → Hp → VK → Prop := fun xs H Q => ∃ x d, xs = [x] ∧ Dp K H x d ∧ d.showable = true ∧ d.hasDict = false ∧ d.depth ≤ 60 ∧ d.shown.length ≤ sizeLine ∧ Q (.str d.shown) H
theorem call_reprG {X : Cx} {K : PySem.W.Frag} (e : X.K = K) (gu : X.A.guards = some []) (hu : X.A.units + 64 < cLine) : CallR X (.builtin "repr") (rReprG K) := by
  subst e
  intro pins s σ H xs us Q I r h
  obtain ⟨x, d, rfl, hd, sh, nd, dp, sz, q⟩ := h
  obtain ⟨u, rfl, rx⟩ := vals1 r
  obtain ⟨as, rd⟩ := Dp.reads I d x u hd rx
  have big : ∀ a, u = .ref a → wpAny (model X.prog X.w) X.A (call (.builtin "repr") [u]) (EP X pins σ Q) X.xe s := fun a e => by
    subst e
    exact repr_of_reads' rd sh (PyData.noDict_hsm nd) gu (by omega) (fun _ _ e => e) (fun h' u tk hk => ⟨.str _, H, I.kept hk, ⟨_, rfl⟩, q⟩) sz
  cases rd with
  | none => exact PySem.P.repr_of_none ⟨.str _, H, I.tok _, ⟨_, rfl⟩, by simpa only [PyData.shown] using q⟩
  | bool b => exact PySem.P.repr_of_bool ⟨.str _, H, I.tok _, ⟨_, rfl⟩, by simpa only [PyData.shown] using q⟩
  | int i t => exact PySem.P.repr_of_int (by simpa [PyData.showable] using sh) ⟨.str _, H, I.tok _, ⟨_, rfl⟩, by simpa only [PyData.shown] using q⟩
  | str z t => exact PySem.P.repr_of_str ⟨.str _, H, I.tok _, ⟨_, rfl⟩, by simpa only [PyData.shown] using q⟩ (by simpa only [PyData.shown] using sz)
  | _ => exact big _ rfl
/-- the text of data -/
def shownD (a : Dt) : Str := match a.py with
  | some p => p.shown
  | none => ""
def Shw (a : Dt) : Prop := ∃ p, a.py = some p ∧ p.showable = true ∧ p.hasDict = false ∧ p.depth ≤ 60 ∧ p.shown.length ≤ sizeLine
def dRepr : DL := fun ds Q => match ds with
  | [a] => Shw a ∧ Q (.str (shownD a))
  | _ => False
theorem cg_repr {C : Bc} : CallG Cln C (rReprG C.K) dRepr := by
  intro X env σ H vs ds Q Qd rpr ra he q
  unfold dRepr at he
  split at he
  · obtain ⟨v, rfl, r1⟩ := ra.one
    obtain ⟨⟨p, e, sh, nd, dp, sz⟩, he⟩ := he
    refine ⟨v, p, rfl, r1.dp e, sh, nd, dp, sz, ?_⟩
    unfold shownD at he
    rw [e] at he
    exact q _ _ H (.refl H) (.str _) he
  · exact he.elim
theorem dRepr_W {a : Dt} {Q : Dt → Prop} : dRepr [a] Q = (Shw a ∧ Q (.str (shownD a))) := rfl
end Mine

namespace Mine
open PySem PySem.Spec PyProof.Rows L2
/-! ### a list of one's own read by a call within a test, within what is put behind it: it stays one's own -/
def sIfK (i : Nat) (ec : DTX) (a b : DSt) : DSt := fun d env => match env[i]? with
  | some (.own _) => ec (frz env i) (fun k => if k = true then a d env else b d env) (d.xc (frz env i))
  | _ => False
theorem sIfK_W {i : Nat} {ec : DTX} {a b : DSt} {d : DEn} {env : List Sl} : sIfK i ec a b d env = (match env[i]? with
  | some (.own _) => ec (frz env i) (fun k => if k = true then a d env else b d env) (d.xc (frz env i))
  | _ => False) := rfl
theorem dst_ifK {C : Bc} {c : TT} {t u : TS} {ec : DTX} {a b : DSt} {i : Nat} (hc : DT C c ec) (ha : DS C t a) (hb : DS C u b) : DS C (tIfS c t u) (sIfK i ec a b) := by
  intro X env σ H D d r l h
  unfold sIfK at h
  split at h
  · rename_i w e1
    obtain ⟨p, v, es, x1, x2, h1, h2, r2⟩ := r.frz2 e1
    have sm : Same (vis H X) (vis H fun a => X a ∧ a ≠ p) := vis_anti fun a z => z.1
    refine hc _ _ σ H _ _ _ r2 h (fun k H1 f1 q => ?_) ((l.step sm).xok r2)
    cases k with
    | true => rw [if_pos rfl] at q ⊢; exact ha X env σ H1 D d (r.step f1) (l.step (r.vs f1)) q
    | false => rw [if_neg (by decide)] at q ⊢; exact hb X env σ H1 D d (r.step f1) (l.step (r.vs f1)) q
  · exact h.elim
/-- xs.append(e), xs read whole within e, e a whole number -/
def sAppK (i : Nat) (e : DX) : DSt := fun d env => match env[i]? with
  | some (.own (.lst xs)) => e (frz env i) (fun y => (∃ z, y = .int z) ∧ xs.length < 16777216 ∧ d.nx (env.set i (.own (.lst (xs ++ [y]))))) (d.xc (frz env i))
  | _ => False
theorem sAppK_W {i : Nat} {e : DX} {d : DEn} {env : List Sl} : sAppK i e d env = (match env[i]? with
  | some (.own (.lst xs)) => e (frz env i) (fun y => (∃ z, y = .int z) ∧ xs.length < 16777216 ∧ d.nx (env.set i (.own (.lst (xs ++ [y]))))) (d.xc (frz env i))
  | _ => False) := rfl
theorem dst_appK {C : Bc} {te : TE} {e : DX} {i : Nat} (he : DE C te e) : DS C (tDrop (tBM C.K "list" rAppend (tVar i) (tCons te tNil))) (sAppK i e) := by
  intro X env σ H D d r l h
  unfold sAppK at h
  split at h
  · rename_i xs e1
    obtain ⟨p, vs, es, x1, x2, h1, h2⟩ := r.ownAt e1
    obtain ⟨p', _, es', _, _, _, _, r2⟩ := r.frz2 e1
    have pe : p' = p := by rw [es] at es'; cases es'; rfl
    subst pe
    have sm : Same (vis H X) (vis H fun a => X a ∧ a ≠ p') := vis_anti fun a z => z.1
    refine ⟨.ref p', es, tyv_lst h1, ?_⟩
    refine he _ _ σ H _ _ _ r2 h (fun y v H1 f1 r1 hy => ?_) ((l.step sm).xok r2)
    obtain ⟨⟨z, rfl⟩, hl, hy⟩ := hy
    have ev : v = .int z := Den.flat (u := .int z) r1 rfl
    subst ev
    have k2 := h2.mono (r.vs f1)
    refine ⟨p', vs, .int z, rfl, rfl, f1.1 p' _ h1 (r.nh x2), by rw [h2.length, sizeLine_eq]; exact hl, ?_⟩
    obtain ⟨r3, sm⟩ := (r.step f1).own e1 es x1 x2 (.lst (k2.snoc (.int z)))
    exact l.nx _ _ _ _ r3 ((r.vs f1).trans sm) hy
  · exact h.elim
end Mine

namespace Mine
open PySem PySem.Spec PyProof.Rows L2
def mt (a b : Str) : Option Bool :=
  if a = "BadLetters" ∧ b = "BadLetters" then some true else
  if a = "BadLetters" ∧ b = "BadNumber" then some false else
  if a = "BadLetters" ∧ b = "BadWeights" then some false else
  if a = "BadLetters" ∧ b = "PlaceError" then some true else
  if a = "BadNumber" ∧ b = "BadLetters" then some false else
  if a = "BadNumber" ∧ b = "BadNumber" then some true else
  if a = "BadNumber" ∧ b = "BadWeights" then some false else
  if a = "BadNumber" ∧ b = "PlaceError" then some true else
  if a = "BadWeights" ∧ b = "BadLetters" then some false else
  if a = "BadWeights" ∧ b = "BadNumber" then some false else
  if a = "BadWeights" ∧ b = "BadWeights" then some true else
  if a = "BadWeights" ∧ b = "PlaceError" then some true else
  none
theorem mt_BadLetters_BadLetters : mt "BadLetters" "BadLetters" = some true := by decide +kernel
theorem mt_BadLetters_BadNumber : mt "BadLetters" "BadNumber" = some false := by decide +kernel
theorem mt_BadLetters_BadWeights : mt "BadLetters" "BadWeights" = some false := by decide +kernel
theorem mt_BadLetters_PlaceError : mt "BadLetters" "PlaceError" = some true := by decide +kernel
theorem mt_BadNumber_BadLetters : mt "BadNumber" "BadLetters" = some false := by decide +kernel
theorem mt_BadNumber_BadNumber : mt "BadNumber" "BadNumber" = some true := by decide +kernel
theorem mt_BadNumber_BadWeights : mt "BadNumber" "BadWeights" = some false := by decide +kernel
theorem mt_BadNumber_PlaceError : mt "BadNumber" "PlaceError" = some true := by decide +kernel
theorem mt_BadWeights_BadLetters : mt "BadWeights" "BadLetters" = some false := by decide +kernel
theorem mt_BadWeights_BadNumber : mt "BadWeights" "BadNumber" = some false := by decide +kernel
theorem mt_BadWeights_BadWeights : mt "BadWeights" "BadWeights" = some true := by decide +kernel
theorem mt_BadWeights_PlaceError : mt "BadWeights" "PlaceError" = some true := by decide +kernel


def S_law_steep_weights : DSt := (sOut (sOwn 5 (eLst eNil))
    (sOut (sFor (eRng1 (eCons (eVarB 3) eNil)) (gD 6)
    (sSeq (sAsg (eOp dIx (eVarB 4) (eCall0 F_law_take [] (eConsH 0 (eConsS (eCB dLen (eCons (eVarB 4) eNil)) eNil)))) (gD 7))
    (sApp 5 (eOp dAdd (eOp dAdd (eC (.int 1)) (eOp dMul (eOp dSub (eVarB 1) (eC (.int 1))) (eCB dSum (eCons (eSl dSl (eVarB 5) (ePart (eCB dMax2 (eCons (eC (.int 0)) (eCons (eOp dSub (eVarB 6) (eVarB 2)) eNil)))) eNoPart) eNil)))) (eCall0 F_law_take [] (eConsH 0 (eConsS (eOp dAdd (eVarB 7) (eC (.int 1))) eNil)))))))
    (sRetOwn 5)))
theorem F_law_steep_weights_ex : ∃ x : DFn, x = mkD0 5 8 S_law_steep_weights := ⟨_, rfl⟩
noncomputable def F_law_steep_weights : DFn := F_law_steep_weights_ex.choose
theorem F_law_steep_weights_eq : F_law_steep_weights = mkD0 5 8 S_law_steep_weights := F_law_steep_weights_ex.choose_spec
theorem S_law_any_weights_r13_ex : ∃ x : DSt, x = (sPut 4 (eVar 5) (eCB dMax2 (eCons (eC (.int 1)) (eCons (eOp dSub (eOp dSub (eOp dIx (eVarB 4) (eVarB 5)) (eC (.int 1))) (eCall0 F_law_take [] (eConsH 0 (eConsS (eC (.int 2)) eNil)))) eNil)))) := ⟨_, rfl⟩
noncomputable def S_law_any_weights_r13 : DSt := S_law_any_weights_r13_ex.choose
theorem S_law_any_weights_r13_eq : S_law_any_weights_r13 = (sPut 4 (eVar 5) (eCB dMax2 (eCons (eC (.int 1)) (eCons (eOp dSub (eOp dSub (eOp dIx (eVarB 4) (eVarB 5)) (eC (.int 1))) (eCall0 F_law_take [] (eConsH 0 (eConsS (eC (.int 2)) eNil)))) eNil)))) := S_law_any_weights_r13_ex.choose_spec
theorem S_law_any_weights_r14_ex : ∃ x : DSt, x = (sFrz 4 (sRet (eVar 4))) := ⟨_, rfl⟩
noncomputable def S_law_any_weights_r14 : DSt := S_law_any_weights_r14_ex.choose
theorem S_law_any_weights_r14_eq : S_law_any_weights_r14 = (sFrz 4 (sRet (eVar 4))) := S_law_any_weights_r14_ex.choose_spec
theorem S_law_any_weights_r11_ex : ∃ x : DSt, x = (sSeq (sIf (eAndT (eTest (eOp dGt (eVarB 3) (eC (.int 4)))) (eTest (eOp dGt (eVarB 2) (eC (.int 0)))))
    (sSeq (sAsg (eCall0 F_law_take [] (eConsH 0 (eConsS (eVar 2) eNil))) (gD 5))
    S_law_any_weights_r13)
    sNext)
    S_law_any_weights_r14) := ⟨_, rfl⟩
noncomputable def S_law_any_weights_r11 : DSt := S_law_any_weights_r11_ex.choose
theorem S_law_any_weights_r11_eq : S_law_any_weights_r11 = (sSeq (sIf (eAndT (eTest (eOp dGt (eVarB 3) (eC (.int 4)))) (eTest (eOp dGt (eVarB 2) (eC (.int 0)))))
    (sSeq (sAsg (eCall0 F_law_take [] (eConsH 0 (eConsS (eVar 2) eNil))) (gD 5))
    S_law_any_weights_r13)
    sNext)
    S_law_any_weights_r14) := S_law_any_weights_r11_ex.choose_spec
theorem S_law_any_weights_r10_ex : ∃ x : DSt, x = (sSeq (sOwn 4 (eCall0 F_law_steep_weights [] (eConsH 0 (eConsS (eVar 1) (eConsS (eCall0 F_law_take [] (eConsH 0 (eConsS (eOp dAdd (eVarB 2) (eC (.int 1))) eNil))) (eConsS (eVar 2) (eConsS (eLst (eCons (eC (.int 0)) (eCons (eC (.int 0)) (eCons (eC (.int 0)) (eCons (eC (.int 1)) (eCons (eC (.int 2)) eNil)))))) eNil)))))))
    S_law_any_weights_r11) := ⟨_, rfl⟩
noncomputable def S_law_any_weights_r10 : DSt := S_law_any_weights_r10_ex.choose
theorem S_law_any_weights_r10_eq : S_law_any_weights_r10 = (sSeq (sOwn 4 (eCall0 F_law_steep_weights [] (eConsH 0 (eConsS (eVar 1) (eConsS (eCall0 F_law_take [] (eConsH 0 (eConsS (eOp dAdd (eVarB 2) (eC (.int 1))) eNil))) (eConsS (eVar 2) (eConsS (eLst (eCons (eC (.int 0)) (eCons (eC (.int 0)) (eCons (eC (.int 0)) (eCons (eC (.int 1)) (eCons (eC (.int 2)) eNil)))))) eNil)))))))
    S_law_any_weights_r11) := S_law_any_weights_r10_ex.choose_spec
theorem S_law_any_weights_r8_ex : ∃ x : DSt, x = (sSeq (sIf (eTest (eOp dEq (eVarB 3) (eC (.int 3))))
    (sRet (eRev (eRgL (eC (.int 1)) (eOp dAdd (eVarB 2) (eC (.int 1))) .lst)))
    sNext)
    S_law_any_weights_r10) := ⟨_, rfl⟩
noncomputable def S_law_any_weights_r8 : DSt := S_law_any_weights_r8_ex.choose
theorem S_law_any_weights_r8_eq : S_law_any_weights_r8 = (sSeq (sIf (eTest (eOp dEq (eVarB 3) (eC (.int 3))))
    (sRet (eRev (eRgL (eC (.int 1)) (eOp dAdd (eVarB 2) (eC (.int 1))) .lst)))
    sNext)
    S_law_any_weights_r10) := S_law_any_weights_r8_ex.choose_spec
theorem S_law_any_weights_r6_ex : ∃ x : DSt, x = (sSeq (sIf (eTest (eOp dEq (eVarB 3) (eC (.int 2))))
    (sRet (eLc (eRng1 (eCons (eVarB 2) eNil)) (gD 5) eYes (eOp dAdd (eC (.int 1)) (eCall0 F_law_take [] (eConsH 0 (eConsS (eC (.int (1000000000000000))) eNil)))) [5]))
    sNext)
    S_law_any_weights_r8) := ⟨_, rfl⟩
noncomputable def S_law_any_weights_r6 : DSt := S_law_any_weights_r6_ex.choose
theorem S_law_any_weights_r6_eq : S_law_any_weights_r6 = (sSeq (sIf (eTest (eOp dEq (eVarB 3) (eC (.int 2))))
    (sRet (eLc (eRng1 (eCons (eVarB 2) eNil)) (gD 5) eYes (eOp dAdd (eC (.int 1)) (eCall0 F_law_take [] (eConsH 0 (eConsS (eC (.int (1000000000000000))) eNil)))) [5]))
    sNext)
    S_law_any_weights_r8) := S_law_any_weights_r6_ex.choose_spec
theorem S_law_any_weights_r4_ex : ∃ x : DSt, x = (sSeq (sIf (eTest (eOp dEq (eVarB 3) (eC (.int 1))))
    (sRet (eLc (eRng1 (eCons (eVarB 2) eNil)) (gD 5) eYes (eOp dAdd (eC (.int 1)) (eCall0 F_law_take [] (eConsH 0 (eConsS (eOp dAdd (eOp dMul (eC (.int 2)) (eVarB 2)) (eC (.int 2))) eNil)))) [5]))
    sNext)
    S_law_any_weights_r6) := ⟨_, rfl⟩
noncomputable def S_law_any_weights_r4 : DSt := S_law_any_weights_r4_ex.choose
theorem S_law_any_weights_r4_eq : S_law_any_weights_r4 = (sSeq (sIf (eTest (eOp dEq (eVarB 3) (eC (.int 1))))
    (sRet (eLc (eRng1 (eCons (eVarB 2) eNil)) (gD 5) eYes (eOp dAdd (eC (.int 1)) (eCall0 F_law_take [] (eConsH 0 (eConsS (eOp dAdd (eOp dMul (eC (.int 2)) (eVarB 2)) (eC (.int 2))) eNil)))) [5]))
    sNext)
    S_law_any_weights_r6) := S_law_any_weights_r4_ex.choose_spec
theorem S_law_any_weights_r2_ex : ∃ x : DSt, x = (sSeq (sIf (eTest (eOp dEq (eVarB 3) (eC (.int 0))))
    (sRet (eLc (eRng1 (eCons (eVarB 2) eNil)) (gD 5) eYes (eOp dAdd (eC (.int 1)) (eCall0 F_law_take [] (eConsH 0 (eConsS (eC (.int 3)) eNil)))) [5]))
    sNext)
    S_law_any_weights_r4) := ⟨_, rfl⟩
noncomputable def S_law_any_weights_r2 : DSt := S_law_any_weights_r2_ex.choose
theorem S_law_any_weights_r2_eq : S_law_any_weights_r2 = (sSeq (sIf (eTest (eOp dEq (eVarB 3) (eC (.int 0))))
    (sRet (eLc (eRng1 (eCons (eVarB 2) eNil)) (gD 5) eYes (eOp dAdd (eC (.int 1)) (eCall0 F_law_take [] (eConsH 0 (eConsS (eC (.int 3)) eNil)))) [5]))
    sNext)
    S_law_any_weights_r4) := S_law_any_weights_r2_ex.choose_spec
def S_law_any_weights : DSt := (sSeq (sAsg (eCall0 F_law_take [] (eConsH 0 (eConsS (eC (.int 7)) eNil))) (gD 3))
    S_law_any_weights_r2)
theorem F_law_any_weights_ex : ∃ x : DFn, x = mkD0 3 6 S_law_any_weights := ⟨_, rfl⟩
noncomputable def F_law_any_weights : DFn := F_law_any_weights_ex.choose
theorem F_law_any_weights_eq : F_law_any_weights = mkD0 3 6 S_law_any_weights := F_law_any_weights_ex.choose_spec
def S_is_whole : DSt := (sSeq (sIf (eOrT (eNotT (eTru (eCB (dIsi "int") (eCons (eVarB 0) (eCons (eC (.raw (.ty "int"))) eNil))))) (eTru (eCB (dIsi "bool") (eCons (eVarB 0) (eCons (eC (.raw (.ty "bool"))) eNil)))))
    (sRet (eC (.bl false)))
    sNext)
    (sRet (eAndV (eOrV (eOp dIsN (eVarB 1) (eC .non)) (eOp dGe (eVarB 0) (eVarB 1))) (eOrV (eOp dIsN (eVarB 2) (eC .non)) (eOp dLe (eVarB 0) (eVarB 2))))))
theorem F_is_whole_ex : ∃ x : DFn, x = mkD0 3 3 S_is_whole := ⟨_, rfl⟩
noncomputable def F_is_whole : DFn := F_is_whole_ex.choose
theorem F_is_whole_eq : F_is_whole = mkD0 3 3 S_is_whole := F_is_whole_ex.choose_spec
def S_check_weights : DSt := (sSeq (sIf (eOrT (eNotT (eTru (eCB (dIsi2 "list" "tuple") (eCons (eVarB 0) (eCons (eTup (eCons (eC (.raw (.ty "list"))) (eCons (eC (.raw (.ty "tuple"))) eNil))) eNil))))) (eTest (eOp dGt (eCB dLen (eCons (eVarB 0) eNil)) (eC (.int (24))))))
    (sRaise1 "BadWeights" "index" (eUn dNeg (eC (.int 1))))
    sNext)
    (sSeq (sFor (eEnum (eCons (eVar 0) eNil)) (gD2 1 2)
    (sIf (eNotT (eTru (eCall0 F_is_whole [] (eConsS (eVar 2) (eConsS (eC (.int 1)) (eConsS (eC (.int (1000000000000000))) eNil))))))
    (sRaise1 "BadWeights" "index" (eVar 1))
    sNext))
    (sRet (eCB dTupOf (eCons (eVarB 0) eNil)))))
theorem F_check_weights_ex : ∃ x : DFn, x = mkD 1 3 S_check_weights := ⟨_, rfl⟩
noncomputable def F_check_weights : DFn := F_check_weights_ex.choose
theorem F_check_weights_eq : F_check_weights = mkD 1 3 S_check_weights := F_check_weights_ex.choose_spec
def S_check_letters : DSt := (sSeq (sIf (eNotT (eTru (eCall0 F_is_whole [] (eConsS (eVar 0) (eConsS (eC (.int 2)) (eConsS (eC (.int 4)) eNil))))))
    (sRaise "BadLetters")
    sNext)
    (sRet (eVar 0)))
theorem F_check_letters_ex : ∃ x : DFn, x = mkD 1 1 S_check_letters := ⟨_, rfl⟩
noncomputable def F_check_letters : DFn := F_check_letters_ex.choose
theorem F_check_letters_eq : F_check_letters = mkD 1 1 S_check_letters := F_check_letters_ex.choose_spec
def S_above_last : DSt := (sRet (eOp dAdd (eC (.int 1)) (eOp dMul (eOp dSub (eVarB 0) (eC (.int 1))) (eCB dSum (eCons (eSl dSl (eVarB 1) (ePart (eCB dMax2 (eCons (eC (.int 0)) (eCons (eOp dSub (eCB dLen (eCons (eVarB 1) eNil)) (eVarB 2)) eNil)))) eNoPart) eNil)))))
theorem F_above_last_ex : ∃ x : DFn, x = mkD0 3 3 S_above_last := ⟨_, rfl⟩
noncomputable def F_above_last : DFn := F_above_last_ex.choose
theorem F_above_last_eq : F_above_last = mkD0 3 3 S_above_last := F_above_last_ex.choose_spec
def S_are_steep : DSt := (sRet (eCB dAll (eCons (eLc (eEnum (eCons (eVarB 1) eNil)) (gD2 3 4) eYes (eOp dGe (eVarB 4) (eCall0 F_above_last [] (eConsS (eVar 0) (eConsS (eSl dSl (eVarB 1) eNoPart (ePart (eVar 3))) (eConsS (eVar 2) eNil))))) [3, 4]) eNil)))
theorem F_are_steep_ex : ∃ x : DFn, x = mkD0 3 5 S_are_steep := ⟨_, rfl⟩
noncomputable def F_are_steep : DFn := F_are_steep_ex.choose
theorem F_are_steep_eq : F_are_steep = mkD0 3 5 S_are_steep := F_are_steep_ex.choose_spec
def S_steep_by : DSt := (sSeq (sDrop (eCall F_check_letters [] (eConsS (eVar 0) eNil)))
    (sSeq (sAsg (eCall F_check_weights [] (eConsS (eVar 1) eNil)) (gD 1))
    (sSeq (sAsg (eC (.int 0)) (gD 2))
    (sSeq (sWhile (eAndT (eTest (eOp dLt (eVarB 2) (eCB dLen (eCons (eVarB 1) eNil)))) (eTru (eCall0 F_are_steep [] (eConsS (eVar 0) (eConsS (eVar 1) (eConsS (eOp dAdd (eVarB 2) (eC (.int 1))) eNil))))))
    (sAug (· + ·) 2 (eC (.int 1))))
    (sRet (eVar 2))))))
theorem F_steep_by_ex : ∃ x : DFn, x = mkD 2 3 S_steep_by := ⟨_, rfl⟩
noncomputable def F_steep_by : DFn := F_steep_by_ex.choose
theorem F_steep_by_eq : F_steep_by = mkD 2 3 S_steep_by := F_steep_by_ex.choose_spec
def S_law_steep : DSt := (sSeq (sAsg (eC (.int 0)) (gD 2))
    (sSeq (sFor (eRng2 (eCons (eC (.int 1)) (eCons (eOp dAdd (eCB dLen (eCons (eVarB 1) eNil)) (eC (.int 1))) eNil))) (gD 3)
    (sSeq (sFor (eRng1 (eCons (eCB dLen (eCons (eVarB 1) eNil)) eNil)) (gD 4)
    (sIf (eTest (eOp dLe (eOp dIx (eVarB 1) (eVarB 4)) (eOp dMul (eOp dSub (eVarB 0) (eC (.int 1))) (eCB dSum (eCons (eSl dSl (eVarB 1) (ePart (eCB dMax2 (eCons (eC (.int 0)) (eCons (eOp dSub (eVarB 4) (eVarB 3)) eNil)))) (ePart (eVar 4))) eNil)))))
    (sRet (eVar 2))
    sNext))
    (sAsg (eVar 3) (gD 2))))
    (sRet (eVar 2))))
theorem F_law_steep_ex : ∃ x : DFn, x = mkD0 2 5 S_law_steep := ⟨_, rfl⟩
noncomputable def F_law_steep : DFn := F_law_steep_ex.choose
theorem F_law_steep_eq : F_law_steep = mkD0 2 5 S_law_steep := F_law_steep_ex.choose_spec
def S_check_number : DSt := (sSeq (sIf (eNotT (eTru (eCall0 F_is_whole [] (eConsS (eVar 0) (eConsS (eVar 1) (eConsS (eVar 2) eNil))))))
    (sRaise "BadNumber")
    sNext)
    (sRet (eVar 0)))
theorem F_check_number_ex : ∃ x : DFn, x = mkD 3 3 S_check_number := ⟨_, rfl⟩
noncomputable def F_check_number : DFn := F_check_number_ex.choose
theorem F_check_number_eq : F_check_number = mkD 3 3 S_check_number := F_check_number_ex.choose_spec
def S_steep_modulus : DSt := (sSeq (sDrop (eCall F_check_letters [] (eConsS (eVar 0) eNil)))
    (sSeq (sAsg (eCall F_check_weights [] (eConsS (eVar 1) eNil)) (gD 1))
    (sSeq (sDrop (eCall F_check_number [] (eConsS (eVar 2) (eConsS (eC (.int 0)) (eConsS (eC (.int (24))) eNil)))))
    (sRet (eCall0 F_above_last [] (eConsS (eVar 0) (eConsS (eVar 1) (eConsS (eVar 2) eNil))))))))
theorem F_steep_modulus_ex : ∃ x : DFn, x = mkD 3 3 S_steep_modulus := ⟨_, rfl⟩
noncomputable def F_steep_modulus : DFn := F_steep_modulus_ex.choose
theorem F_steep_modulus_eq : F_steep_modulus = mkD 3 3 S_steep_modulus := F_steep_modulus_ex.choose_spec
def S_law_least_modulus : DSt := (sRet (eOp dAdd (eC (.int 1)) (eOp dMul (eOp dSub (eVarB 0) (eC (.int 1))) (eCB dSum (eCons (eSl dSl (eVarB 1) (ePart (eCB dMax2 (eCons (eC (.int 0)) (eCons (eOp dSub (eCB dLen (eCons (eVarB 1) eNil)) (eVarB 2)) eNil)))) eNoPart) eNil)))))
theorem F_law_least_modulus_ex : ∃ x : DFn, x = mkD0 3 3 S_law_least_modulus := ⟨_, rfl⟩
noncomputable def F_law_least_modulus : DFn := F_law_least_modulus_ex.choose
theorem F_law_least_modulus_eq : F_law_least_modulus = mkD0 3 3 S_law_least_modulus := F_law_least_modulus_ex.choose_spec
theorem S_law_any_right_b9_ex : ∃ x : DSt, x = (sIf (eTest (eOp dNe (eCB dRepr (eCons (eCall0 F_steep_modulus [] (eConsS (eVar 1) (eConsS (eVar 3) (eConsS (eVar 4) eNil)))) eNil)) (eCB dRepr (eCons (eCall0 F_law_least_modulus [] (eConsS (eVar 1) (eConsS (eVar 3) (eConsS (eVar 4) eNil)))) eNil))))
    (sRet (eC (.bl false)))
    sNext) := ⟨_, rfl⟩
noncomputable def S_law_any_right_b9 : DSt := S_law_any_right_b9_ex.choose
theorem S_law_any_right_b9_eq : S_law_any_right_b9 = (sIf (eTest (eOp dNe (eCB dRepr (eCons (eCall0 F_steep_modulus [] (eConsS (eVar 1) (eConsS (eVar 3) (eConsS (eVar 4) eNil)))) eNil)) (eCB dRepr (eCons (eCall0 F_law_least_modulus [] (eConsS (eVar 1) (eConsS (eVar 3) (eConsS (eVar 4) eNil)))) eNil))))
    (sRet (eC (.bl false)))
    sNext) := S_law_any_right_b9_ex.choose_spec
theorem S_law_any_right_r11_ex : ∃ x : DSt, x = (sRet (eC (.bl true))) := ⟨_, rfl⟩
noncomputable def S_law_any_right_r11 : DSt := S_law_any_right_r11_ex.choose
theorem S_law_any_right_r11_eq : S_law_any_right_r11 = (sRet (eC (.bl true))) := S_law_any_right_r11_ex.choose_spec
theorem S_law_any_right_r8_ex : ∃ x : DSt, x = (sSeq (sFor (eSeq (eTup (eCons (eC (.int 0)) (eCons (eCall0 F_law_take [] (eConsH 0 (eConsS (eC (.int 5)) eNil))) (eCons (eCall0 F_law_take [] (eConsH 0 (eConsS (eC (.int 25)) eNil))) (eCons (eC (.int 24)) eNil)))))) (gD 4)
    S_law_any_right_b9)
    S_law_any_right_r11) := ⟨_, rfl⟩
noncomputable def S_law_any_right_r8 : DSt := S_law_any_right_r8_ex.choose
theorem S_law_any_right_r8_eq : S_law_any_right_r8 = (sSeq (sFor (eSeq (eTup (eCons (eC (.int 0)) (eCons (eCall0 F_law_take [] (eConsH 0 (eConsS (eC (.int 5)) eNil))) (eCons (eCall0 F_law_take [] (eConsH 0 (eConsS (eC (.int 25)) eNil))) (eCons (eC (.int 24)) eNil)))))) (gD 4)
    S_law_any_right_b9)
    S_law_any_right_r11) := S_law_any_right_r8_ex.choose_spec
theorem S_law_any_right_r6_ex : ∃ x : DSt, x = (sSeq (sIf (eTest (eOp dNe (eCB dRepr (eCons (eCall0 F_steep_by [] (eConsS (eVar 1) (eConsS (eCB dTupOf (eCons (eVarB 3) eNil)) eNil))) eNil)) (eCB dRepr (eCons (eCall0 F_law_steep [] (eConsS (eVar 1) (eConsS (eVar 3) eNil))) eNil))))
    (sRet (eC (.bl false)))
    sNext)
    S_law_any_right_r8) := ⟨_, rfl⟩
noncomputable def S_law_any_right_r6 : DSt := S_law_any_right_r6_ex.choose
theorem S_law_any_right_r6_eq : S_law_any_right_r6 = (sSeq (sIf (eTest (eOp dNe (eCB dRepr (eCons (eCall0 F_steep_by [] (eConsS (eVar 1) (eConsS (eCB dTupOf (eCons (eVarB 3) eNil)) eNil))) eNil)) (eCB dRepr (eCons (eCall0 F_law_steep [] (eConsS (eVar 1) (eConsS (eVar 3) eNil))) eNil))))
    (sRet (eC (.bl false)))
    sNext)
    S_law_any_right_r8) := S_law_any_right_r6_ex.choose_spec
theorem S_law_any_right_r4_ex : ∃ x : DSt, x = (sSeq (sIf (eTest (eOp dNe (eCB dRepr (eCons (eCall0 F_check_weights [] (eConsS (eVar 3) eNil)) eNil)) (eCB dRepr (eCons (eCB dTupOf (eCons (eVarB 3) eNil)) eNil))))
    (sRet (eC (.bl false)))
    sNext)
    S_law_any_right_r6) := ⟨_, rfl⟩
noncomputable def S_law_any_right_r4 : DSt := S_law_any_right_r4_ex.choose
theorem S_law_any_right_r4_eq : S_law_any_right_r4 = (sSeq (sIf (eTest (eOp dNe (eCB dRepr (eCons (eCall0 F_check_weights [] (eConsS (eVar 3) eNil)) eNil)) (eCB dRepr (eCons (eCB dTupOf (eCons (eVarB 3) eNil)) eNil))))
    (sRet (eC (.bl false)))
    sNext)
    S_law_any_right_r6) := S_law_any_right_r4_ex.choose_spec
theorem S_law_any_right_r3_ex : ∃ x : DSt, x = (sSeq (sAsg (eCall0 F_law_any_weights [] (eConsH 0 (eConsS (eVar 1) (eConsS (eVar 2) eNil)))) (gD 3))
    S_law_any_right_r4) := ⟨_, rfl⟩
noncomputable def S_law_any_right_r3 : DSt := S_law_any_right_r3_ex.choose
theorem S_law_any_right_r3_eq : S_law_any_right_r3 = (sSeq (sAsg (eCall0 F_law_any_weights [] (eConsH 0 (eConsS (eVar 1) (eConsS (eVar 2) eNil)))) (gD 3))
    S_law_any_right_r4) := S_law_any_right_r3_ex.choose_spec
theorem S_law_any_right_r2_ex : ∃ x : DSt, x = (sSeq (sAsg (eIf (eTest (eOp dEq (eCall0 F_law_take [] (eConsH 0 (eConsS (eC (.int 5)) eNil))) (eC (.int 0)))) (eCall0 F_law_take [] (eConsH 0 (eConsS (eC (.int 25)) eNil))) (eCall0 F_law_take [] (eConsH 0 (eConsS (eC (.int 8)) eNil)))) (gD 2))
    S_law_any_right_r3) := ⟨_, rfl⟩
noncomputable def S_law_any_right_r2 : DSt := S_law_any_right_r2_ex.choose
theorem S_law_any_right_r2_eq : S_law_any_right_r2 = (sSeq (sAsg (eIf (eTest (eOp dEq (eCall0 F_law_take [] (eConsH 0 (eConsS (eC (.int 5)) eNil))) (eC (.int 0)))) (eCall0 F_law_take [] (eConsH 0 (eConsS (eC (.int 25)) eNil))) (eCall0 F_law_take [] (eConsH 0 (eConsS (eC (.int 8)) eNil)))) (gD 2))
    S_law_any_right_r3) := S_law_any_right_r2_ex.choose_spec
def S_law_any_right : DSt := (sSeq (sAsg (eOp dAdd (eC (.int 2)) (eCall0 F_law_take [] (eConsH 0 (eConsS (eC (.int 3)) eNil)))) (gD 1))
    S_law_any_right_r2)
theorem F_law_any_right_ex : ∃ x : DFn, x = mkD0 1 5 S_law_any_right := ⟨_, rfl⟩
noncomputable def F_law_any_right : DFn := F_law_any_right_ex.choose
theorem F_law_any_right_eq : F_law_any_right = mkD0 1 5 S_law_any_right := F_law_any_right_ex.choose_spec
def S_weights_for : DSt := (sSeq (sDrop (eCall F_check_letters [] (eConsS (eVar 0) eNil)))
    (sSeq (sDrop (eCall F_check_number [] (eConsS (eVar 1) (eConsS (eC (.int 0)) (eConsS (eC (.int (24))) eNil)))))
    (sSeq (sDrop (eCall F_check_number [] (eConsS (eVar 2) (eConsS (eC (.int 0)) (eConsS (eC (.int (24))) eNil)))))
    (sSeq (sOwn 3 (eLst eNil))
    (sSeq (sFor (eRng1 (eCons (eOp dAdd (eVarB 2) (eC (.int 1))) eNil)) (gD 4)
    (sAppK 3 (eCall0 F_above_last [] (eConsS (eVar 0) (eConsS (eVar 3) (eConsS (eVar 1) eNil))))))
    (sRet (eCB dTupOf (eCons (eVarB 3) eNil))))))))
theorem F_weights_for_ex : ∃ x : DFn, x = mkD 3 5 S_weights_for := ⟨_, rfl⟩
noncomputable def F_weights_for : DFn := F_weights_for_ex.choose
theorem F_weights_for_eq : F_weights_for = mkD 3 5 S_weights_for := F_weights_for_ex.choose_spec
def S_law_power : DSt := (sSeq (sAsg (eC (.int 1)) (gD 2))
    (sSeq (sFor (eRng1 (eCons (eVarB 1) eNil)) (gD 3)
    (sAsg (eOp dMul (eVarB 2) (eVarB 0)) (gD 2)))
    (sRet (eVar 2))))
theorem F_law_power_ex : ∃ x : DFn, x = mkD0 2 4 S_law_power := ⟨_, rfl⟩
noncomputable def F_law_power : DFn := F_law_power_ex.choose
theorem F_law_power_eq : F_law_power = mkD0 2 4 S_law_power := F_law_power_ex.choose_spec
theorem S_law_told_right_b6_ex : ∃ x : DSt, x = (sApp 4 (eOp dAdd (eC (.int 1)) (eOp dMul (eOp dSub (eVarB 1) (eC (.int 1))) (eCB dSum (eCons (eSl dSl (eVarB 4) (ePart (eCB dMax2 (eCons (eC (.int 0)) (eCons (eOp dSub (eVarB 5) (eVarB 2)) eNil)))) eNoPart) eNil))))) := ⟨_, rfl⟩
noncomputable def S_law_told_right_b6 : DSt := S_law_told_right_b6_ex.choose
theorem S_law_told_right_b6_eq : S_law_told_right_b6 = (sApp 4 (eOp dAdd (eC (.int 1)) (eOp dMul (eOp dSub (eVarB 1) (eC (.int 1))) (eCB dSum (eCons (eSl dSl (eVarB 4) (ePart (eCB dMax2 (eCons (eC (.int 0)) (eCons (eOp dSub (eVarB 5) (eVarB 2)) eNil)))) eNoPart) eNil))))) := S_law_told_right_b6_ex.choose_spec
theorem S_law_told_right_r18_ex : ∃ x : DSt, x = (sRet (eAndV (eOp dEq (eCB dRepr (eCons (eCall0 F_steep_modulus [] (eConsS (eVar 1) (eConsS (eVar 7) (eConsS (eVar 2) eNil)))) eNil)) (eCB dRepr (eCons (eOp dIx (eVarB 4) (eVarB 3)) eNil))) (eOp dEq (eVarB 7) (eSl dSl (eVarB 4) eNoPart (ePart (eVar 3)))))) := ⟨_, rfl⟩
noncomputable def S_law_told_right_r18 : DSt := S_law_told_right_r18_ex.choose
theorem S_law_told_right_r18_eq : S_law_told_right_r18 = (sRet (eAndV (eOp dEq (eCB dRepr (eCons (eCall0 F_steep_modulus [] (eConsS (eVar 1) (eConsS (eVar 7) (eConsS (eVar 2) eNil)))) eNil)) (eCB dRepr (eCons (eOp dIx (eVarB 4) (eVarB 3)) eNil))) (eOp dEq (eVarB 7) (eSl dSl (eVarB 4) eNoPart (ePart (eVar 3)))))) := S_law_told_right_r18_ex.choose_spec
theorem S_law_told_right_r16_ex : ∃ x : DSt, x = (sSeq (sIf (eOrT (eTest (eOp dLt (eVarB 8) (eCB dMin2 (eCons (eVarB 2) (eCons (eVarB 3) eNil))))) (eTest (eOp dNe (eCB dRepr (eCons (eCall0 F_steep_by [] (eConsS (eVar 1) (eConsS (eVar 7) eNil))) eNil)) (eCB dRepr (eCons (eVarB 8) eNil)))))
    (sRet (eC (.bl false)))
    sNext)
    S_law_told_right_r18) := ⟨_, rfl⟩
noncomputable def S_law_told_right_r16 : DSt := S_law_told_right_r16_ex.choose
theorem S_law_told_right_r16_eq : S_law_told_right_r16 = (sSeq (sIf (eOrT (eTest (eOp dLt (eVarB 8) (eCB dMin2 (eCons (eVarB 2) (eCons (eVarB 3) eNil))))) (eTest (eOp dNe (eCB dRepr (eCons (eCall0 F_steep_by [] (eConsS (eVar 1) (eConsS (eVar 7) eNil))) eNil)) (eCB dRepr (eCons (eVarB 8) eNil)))))
    (sRet (eC (.bl false)))
    sNext)
    S_law_told_right_r18) := S_law_told_right_r16_ex.choose_spec
theorem S_law_told_right_r15_ex : ∃ x : DSt, x = (sSeq (sAsg (eCall0 F_law_steep [] (eConsS (eVar 1) (eConsS (eVar 7) eNil))) (gD 8))
    S_law_told_right_r16) := ⟨_, rfl⟩
noncomputable def S_law_told_right_r15 : DSt := S_law_told_right_r15_ex.choose
theorem S_law_told_right_r15_eq : S_law_told_right_r15 = (sSeq (sAsg (eCall0 F_law_steep [] (eConsS (eVar 1) (eConsS (eVar 7) eNil))) (gD 8))
    S_law_told_right_r16) := S_law_told_right_r15_ex.choose_spec
theorem S_law_told_right_r14_ex : ∃ x : DSt, x = (sSeq (sAsg (eCB dLstOf (eCons (eSl dSl (eVarB 4) eNoPart (ePart (eVar 3))) eNil)) (gD 7))
    S_law_told_right_r15) := ⟨_, rfl⟩
noncomputable def S_law_told_right_r14 : DSt := S_law_told_right_r14_ex.choose
theorem S_law_told_right_r14_eq : S_law_told_right_r14 = (sSeq (sAsg (eCB dLstOf (eCons (eSl dSl (eVarB 4) eNoPart (ePart (eVar 3))) eNil)) (gD 7))
    S_law_told_right_r15) := S_law_told_right_r14_ex.choose_spec
theorem S_law_told_right_r12_ex : ∃ x : DSt, x = (sSeq (sIf (eAndT (eTest (eOp dEq (eVarB 1) (eC (.int 2)))) (eAndT (eTest (eOp dEq (eVarB 2) (eC (.int 1)))) (eTest (eOp dNe (eVarB 4) (eRgL (eC (.int 1)) (eOp dAdd (eVarB 3) (eC (.int 2))) .lst)))))
    (sRet (eC (.bl false)))
    sNext)
    S_law_told_right_r14) := ⟨_, rfl⟩
noncomputable def S_law_told_right_r12 : DSt := S_law_told_right_r12_ex.choose
theorem S_law_told_right_r12_eq : S_law_told_right_r12 = (sSeq (sIf (eAndT (eTest (eOp dEq (eVarB 1) (eC (.int 2)))) (eAndT (eTest (eOp dEq (eVarB 2) (eC (.int 1)))) (eTest (eOp dNe (eVarB 4) (eRgL (eC (.int 1)) (eOp dAdd (eVarB 3) (eC (.int 2))) .lst)))))
    (sRet (eC (.bl false)))
    sNext)
    S_law_told_right_r14) := S_law_told_right_r12_ex.choose_spec
theorem S_law_told_right_r10_ex : ∃ x : DSt, x = (sSeq (sIf (eAndT (eTest (eOp dGe (eVarB 2) (eVarB 3))) (eTest (eOp dNe (eVarB 4) (eLc (eRng1 (eCons (eOp dAdd (eVarB 3) (eC (.int 1))) eNil)) (gD 5) eYes (eCall0 F_law_power [] (eConsS (eVar 1) (eConsS (eVar 5) eNil))) [5]))))
    (sRet (eC (.bl false)))
    sNext)
    S_law_told_right_r12) := ⟨_, rfl⟩
noncomputable def S_law_told_right_r10 : DSt := S_law_told_right_r10_ex.choose
theorem S_law_told_right_r10_eq : S_law_told_right_r10 = (sSeq (sIf (eAndT (eTest (eOp dGe (eVarB 2) (eVarB 3))) (eTest (eOp dNe (eVarB 4) (eLc (eRng1 (eCons (eOp dAdd (eVarB 3) (eC (.int 1))) eNil)) (gD 5) eYes (eCall0 F_law_power [] (eConsS (eVar 1) (eConsS (eVar 5) eNil))) [5]))))
    (sRet (eC (.bl false)))
    sNext)
    S_law_told_right_r12) := S_law_told_right_r10_ex.choose_spec
theorem S_law_told_right_r8_ex : ∃ x : DSt, x = (sSeq (sIf (eTest (eOp dNe (eCB dRepr (eCons (eVarB 6) eNil)) (eCB dRepr (eCons (eCB dTupOf (eCons (eVarB 4) eNil)) eNil))))
    (sRet (eC (.bl false)))
    sNext)
    S_law_told_right_r10) := ⟨_, rfl⟩
noncomputable def S_law_told_right_r8 : DSt := S_law_told_right_r8_ex.choose
theorem S_law_told_right_r8_eq : S_law_told_right_r8 = (sSeq (sIf (eTest (eOp dNe (eCB dRepr (eCons (eVarB 6) eNil)) (eCB dRepr (eCons (eCB dTupOf (eCons (eVarB 4) eNil)) eNil))))
    (sRet (eC (.bl false)))
    sNext)
    S_law_told_right_r10) := S_law_told_right_r8_ex.choose_spec
theorem S_law_told_right_r7_ex : ∃ x : DSt, x = (sSeq (sAsg (eCall0 F_weights_for [] (eConsS (eVar 1) (eConsS (eVar 2) (eConsS (eVar 3) eNil)))) (gD 6))
    S_law_told_right_r8) := ⟨_, rfl⟩
noncomputable def S_law_told_right_r7 : DSt := S_law_told_right_r7_ex.choose
theorem S_law_told_right_r7_eq : S_law_told_right_r7 = (sSeq (sAsg (eCall0 F_weights_for [] (eConsS (eVar 1) (eConsS (eVar 2) (eConsS (eVar 3) eNil)))) (gD 6))
    S_law_told_right_r8) := S_law_told_right_r7_ex.choose_spec
theorem S_law_told_right_r5_ex : ∃ x : DSt, x = (sSeq (sFor (eRng1 (eCons (eOp dAdd (eVarB 3) (eC (.int 1))) eNil)) (gD 5)
    S_law_told_right_b6)
    S_law_told_right_r7) := ⟨_, rfl⟩
noncomputable def S_law_told_right_r5 : DSt := S_law_told_right_r5_ex.choose
theorem S_law_told_right_r5_eq : S_law_told_right_r5 = (sSeq (sFor (eRng1 (eCons (eOp dAdd (eVarB 3) (eC (.int 1))) eNil)) (gD 5)
    S_law_told_right_b6)
    S_law_told_right_r7) := S_law_told_right_r5_ex.choose_spec
theorem S_law_told_right_r4_ex : ∃ x : DSt, x = (sSeq (sOwn 4 (eLst eNil))
    S_law_told_right_r5) := ⟨_, rfl⟩
noncomputable def S_law_told_right_r4 : DSt := S_law_told_right_r4_ex.choose
theorem S_law_told_right_r4_eq : S_law_told_right_r4 = (sSeq (sOwn 4 (eLst eNil))
    S_law_told_right_r5) := S_law_told_right_r4_ex.choose_spec
theorem S_law_told_right_r3_ex : ∃ x : DSt, x = (sSeq (sAsg (eIf (eTest (eOp dEq (eCall0 F_law_take [] (eConsH 0 (eConsS (eC (.int 4)) eNil))) (eC (.int 0)))) (eCall0 F_law_take [] (eConsH 0 (eConsS (eC (.int 25)) eNil))) (eCall0 F_law_take [] (eConsH 0 (eConsS (eC (.int 8)) eNil)))) (gD 3))
    S_law_told_right_r4) := ⟨_, rfl⟩
noncomputable def S_law_told_right_r3 : DSt := S_law_told_right_r3_ex.choose
theorem S_law_told_right_r3_eq : S_law_told_right_r3 = (sSeq (sAsg (eIf (eTest (eOp dEq (eCall0 F_law_take [] (eConsH 0 (eConsS (eC (.int 4)) eNil))) (eC (.int 0)))) (eCall0 F_law_take [] (eConsH 0 (eConsS (eC (.int 25)) eNil))) (eCall0 F_law_take [] (eConsH 0 (eConsS (eC (.int 8)) eNil)))) (gD 3))
    S_law_told_right_r4) := S_law_told_right_r3_ex.choose_spec
theorem S_law_told_right_r2_ex : ∃ x : DSt, x = (sSeq (sAsg (eIf (eTest (eOp dEq (eCall0 F_law_take [] (eConsH 0 (eConsS (eC (.int 4)) eNil))) (eC (.int 0)))) (eCall0 F_law_take [] (eConsH 0 (eConsS (eC (.int 25)) eNil))) (eCall0 F_law_take [] (eConsH 0 (eConsS (eC (.int 5)) eNil)))) (gD 2))
    S_law_told_right_r3) := ⟨_, rfl⟩
noncomputable def S_law_told_right_r2 : DSt := S_law_told_right_r2_ex.choose
theorem S_law_told_right_r2_eq : S_law_told_right_r2 = (sSeq (sAsg (eIf (eTest (eOp dEq (eCall0 F_law_take [] (eConsH 0 (eConsS (eC (.int 4)) eNil))) (eC (.int 0)))) (eCall0 F_law_take [] (eConsH 0 (eConsS (eC (.int 25)) eNil))) (eCall0 F_law_take [] (eConsH 0 (eConsS (eC (.int 5)) eNil)))) (gD 2))
    S_law_told_right_r3) := S_law_told_right_r2_ex.choose_spec
def S_law_told_right : DSt := (sSeq (sAsg (eOp dAdd (eC (.int 2)) (eCall0 F_law_take [] (eConsH 0 (eConsS (eC (.int 3)) eNil)))) (gD 1))
    S_law_told_right_r2)
theorem F_law_told_right_ex : ∃ x : DFn, x = mkD0 1 9 S_law_told_right := ⟨_, rfl⟩
noncomputable def F_law_told_right : DFn := F_law_told_right_ex.choose
theorem F_law_told_right_eq : F_law_told_right = mkD0 1 9 S_law_told_right := F_law_told_right_ex.choose_spec
def S_law_odd : DSt := (sRet (eOp dIx (eLst (eCons (eC (.int 0)) (eCons (eUn dNeg (eC (.int 1))) (eCons (eC (.bl true)) (eCons (eC .non) (eCons (eC (.str "1")) (eCons (eVar 1) (eCons (eC (.bl false)) (eCons (eTup (eCons (eC (.int 1)) eNil)) eNil))))))))) (eCall0 F_law_take [] (eConsH 0 (eConsS (eC (.int 8)) eNil)))))
theorem F_law_odd_ex : ∃ x : DFn, x = mkD0 2 2 S_law_odd := ⟨_, rfl⟩
noncomputable def F_law_odd : DFn := F_law_odd_ex.choose
theorem F_law_odd_eq : F_law_odd = mkD0 2 2 S_law_odd := F_law_odd_ex.choose_spec
theorem S_law_wrong_weights_r11_ex : ∃ x : DSt, x = (sFrz 4 (sRet (eTup (eCons (eIf (eTru (eCall0 F_law_take [] (eConsH 0 (eConsS (eC (.int 2)) eNil)))) (eVar 4) (eCB dTupOf (eCons (eVarB 4) eNil))) (eCons (eVar 3) eNil))))) := ⟨_, rfl⟩
noncomputable def S_law_wrong_weights_r11 : DSt := S_law_wrong_weights_r11_ex.choose
theorem S_law_wrong_weights_r11_eq : S_law_wrong_weights_r11 = (sFrz 4 (sRet (eTup (eCons (eIf (eTru (eCall0 F_law_take [] (eConsH 0 (eConsS (eC (.int 2)) eNil)))) (eVar 4) (eCB dTupOf (eCons (eVarB 4) eNil))) (eCons (eVar 3) eNil))))) := S_law_wrong_weights_r11_ex.choose_spec
theorem S_law_wrong_weights_r9_ex : ∃ x : DSt, x = (sSeq (sIf (eAndT (eTest (eOp dEq (eVarB 1) (eC (.int 2)))) (eTest (eOp dLt (eCB dLen (eCons (eVarB 4) eNil)) (eC (.int 24)))))
    (sApp 4 (eCall0 F_law_odd [] (eConsH 0 (eConsS (eOp dAdd (eC (.int (1000000000000000))) (eC (.int 1))) eNil))))
    sNext)
    S_law_wrong_weights_r11) := ⟨_, rfl⟩
noncomputable def S_law_wrong_weights_r9 : DSt := S_law_wrong_weights_r9_ex.choose
theorem S_law_wrong_weights_r9_eq : S_law_wrong_weights_r9 = (sSeq (sIf (eAndT (eTest (eOp dEq (eVarB 1) (eC (.int 2)))) (eTest (eOp dLt (eCB dLen (eCons (eVarB 4) eNil)) (eC (.int 24)))))
    (sApp 4 (eCall0 F_law_odd [] (eConsH 0 (eConsS (eOp dAdd (eC (.int (1000000000000000))) (eC (.int 1))) eNil))))
    sNext)
    S_law_wrong_weights_r11) := S_law_wrong_weights_r9_ex.choose_spec
theorem S_law_wrong_weights_r8_ex : ∃ x : DSt, x = (sSeq (sOwn 4 (eOp dAddL (eOp dAdd (eSl dSl (eVarB 2) eNoPart (ePart (eVar 3))) (eLst (eCons (eCall0 F_law_odd [] (eConsH 0 (eConsS (eOp dAdd (eC (.int (1000000000000000))) (eC (.int 1))) eNil))) eNil))) (eSl dSl (eVarB 2) (ePart (eVar 3)) eNoPart)))
    S_law_wrong_weights_r9) := ⟨_, rfl⟩
noncomputable def S_law_wrong_weights_r8 : DSt := S_law_wrong_weights_r8_ex.choose
theorem S_law_wrong_weights_r8_eq : S_law_wrong_weights_r8 = (sSeq (sOwn 4 (eOp dAddL (eOp dAdd (eSl dSl (eVarB 2) eNoPart (ePart (eVar 3))) (eLst (eCons (eCall0 F_law_odd [] (eConsH 0 (eConsS (eOp dAdd (eC (.int (1000000000000000))) (eC (.int 1))) eNil))) eNil))) (eSl dSl (eVarB 2) (ePart (eVar 3)) eNoPart)))
    S_law_wrong_weights_r9) := S_law_wrong_weights_r8_ex.choose_spec
theorem S_law_wrong_weights_r7_ex : ∃ x : DSt, x = (sSeq (sAsg (eCall0 F_law_take [] (eConsH 0 (eConsS (eOp dAdd (eCB dLen (eCons (eVarB 2) eNil)) (eC (.int 1))) eNil))) (gD 3))
    S_law_wrong_weights_r8) := ⟨_, rfl⟩
noncomputable def S_law_wrong_weights_r7 : DSt := S_law_wrong_weights_r7_ex.choose
theorem S_law_wrong_weights_r7_eq : S_law_wrong_weights_r7 = (sSeq (sAsg (eCall0 F_law_take [] (eConsH 0 (eConsS (eOp dAdd (eCB dLen (eCons (eVarB 2) eNil)) (eC (.int 1))) eNil))) (gD 3))
    S_law_wrong_weights_r8) := S_law_wrong_weights_r7_ex.choose_spec
theorem S_law_wrong_weights_r6_ex : ∃ x : DSt, x = (sSeq (sAsg (eLc (eRng1 (eCons (eCall0 F_law_take [] (eConsH 0 (eConsS (eC (.int 23)) eNil))) eNil)) (gD 3) eYes (eOp dAdd (eC (.int 1)) (eCall0 F_law_take [] (eConsH 0 (eConsS (eC (.int (1000000000000000))) eNil)))) [3]) (gD 2))
    S_law_wrong_weights_r7) := ⟨_, rfl⟩
noncomputable def S_law_wrong_weights_r6 : DSt := S_law_wrong_weights_r6_ex.choose
theorem S_law_wrong_weights_r6_eq : S_law_wrong_weights_r6 = (sSeq (sAsg (eLc (eRng1 (eCons (eCall0 F_law_take [] (eConsH 0 (eConsS (eC (.int 23)) eNil))) eNil)) (gD 3) eYes (eOp dAdd (eC (.int 1)) (eCall0 F_law_take [] (eConsH 0 (eConsS (eC (.int (1000000000000000))) eNil)))) [3]) (gD 2))
    S_law_wrong_weights_r7) := S_law_wrong_weights_r6_ex.choose_spec
theorem S_law_wrong_weights_r4_ex : ∃ x : DSt, x = (sSeq (sIf (eTest (eOp dEq (eVarB 1) (eC (.int 1))))
    (sRet (eTup (eCons (eOp dAdd (eLst (eCons (eC (.int 0)) eNil)) (eOp dMul (eLst (eCons (eOp dAdd (eC (.int 1)) (eCall0 F_law_take [] (eConsH 0 (eConsS (eC (.int 9)) eNil)))) eNil)) (eC (.int 24)))) (eCons (eUn dNeg (eC (.int 1))) eNil))))
    sNext)
    S_law_wrong_weights_r6) := ⟨_, rfl⟩
noncomputable def S_law_wrong_weights_r4 : DSt := S_law_wrong_weights_r4_ex.choose
theorem S_law_wrong_weights_r4_eq : S_law_wrong_weights_r4 = (sSeq (sIf (eTest (eOp dEq (eVarB 1) (eC (.int 1))))
    (sRet (eTup (eCons (eOp dAdd (eLst (eCons (eC (.int 0)) eNil)) (eOp dMul (eLst (eCons (eOp dAdd (eC (.int 1)) (eCall0 F_law_take [] (eConsH 0 (eConsS (eC (.int 9)) eNil)))) eNil)) (eC (.int 24)))) (eCons (eUn dNeg (eC (.int 1))) eNil))))
    sNext)
    S_law_wrong_weights_r6) := S_law_wrong_weights_r4_ex.choose_spec
theorem S_law_wrong_weights_r2_ex : ∃ x : DSt, x = (sSeq (sIf (eTest (eOp dEq (eVarB 1) (eC (.int 0))))
    (sRet (eTup (eCons (eOp dIx (eLst (eCons (eC .non) (eCons (eC (.str "12")) (eCons (eC (.int 7)) (eCons (eC (.bl true)) eNil))))) (eCall0 F_law_take [] (eConsH 0 (eConsS (eC (.int 4)) eNil)))) (eCons (eUn dNeg (eC (.int 1))) eNil))))
    sNext)
    S_law_wrong_weights_r4) := ⟨_, rfl⟩
noncomputable def S_law_wrong_weights_r2 : DSt := S_law_wrong_weights_r2_ex.choose
theorem S_law_wrong_weights_r2_eq : S_law_wrong_weights_r2 = (sSeq (sIf (eTest (eOp dEq (eVarB 1) (eC (.int 0))))
    (sRet (eTup (eCons (eOp dIx (eLst (eCons (eC .non) (eCons (eC (.str "12")) (eCons (eC (.int 7)) (eCons (eC (.bl true)) eNil))))) (eCall0 F_law_take [] (eConsH 0 (eConsS (eC (.int 4)) eNil)))) (eCons (eUn dNeg (eC (.int 1))) eNil))))
    sNext)
    S_law_wrong_weights_r4) := S_law_wrong_weights_r2_ex.choose_spec
def S_law_wrong_weights : DSt := (sSeq (sAsg (eCall0 F_law_take [] (eConsH 0 (eConsS (eC (.int 4)) eNil))) (gD 1))
    S_law_wrong_weights_r2)
theorem F_law_wrong_weights_ex : ∃ x : DFn, x = mkD0 1 5 S_law_wrong_weights := ⟨_, rfl⟩
noncomputable def F_law_wrong_weights : DFn := F_law_wrong_weights_ex.choose
theorem F_law_wrong_weights_eq : F_law_wrong_weights = mkD0 1 5 S_law_wrong_weights := F_law_wrong_weights_ex.choose_spec
def S_law_called : DSt := (sSeq (sTry mt (sIf (eTest (eOp dEq (eVarB 0) (eC (.int 0))))
    (sAsg (eCall F_weights_for [] (eConsS (eVar 1) (eConsS (eVar 2) (eConsS (eVar 3) eNil)))) (gD 4))
    (sIf (eTest (eOp dEq (eVarB 0) (eC (.int 1))))
    (sAsg (eCall F_steep_by [] (eConsS (eVar 1) (eConsS (eVar 2) eNil))) (gD 4))
    (sIf (eTest (eOp dEq (eVarB 0) (eC (.int 2))))
    (sAsg (eCall F_steep_modulus [] (eConsS (eVar 1) (eConsS (eVar 2) (eConsS (eVar 3) eNil)))) (gD 4))
    (sAsg (eCall F_check_weights [] (eConsS (eVar 2) eNil)) (gD 4))))) (("BadLetters", none, (sRet (eLst (eCons (eC (.str "letters")) eNil)))) :: (("BadNumber", none, (sRet (eLst (eCons (eC (.str "number")) eNil)))) :: (("BadWeights", some 5, (sRet (eLst (eCons (eC (.str "weights")) (eCons (eXf 5 "BadWeights" "index") eNil))))) :: (("PlaceError", none, (sRet (eLst (eCons (eC (.str "other")) eNil)))) :: [])))))
    (sRet (eLst (eCons (eC (.str "let")) (eCons (eVar 4) eNil)))))
theorem F_law_called_ex : ∃ x : DFn, x = mkD0 4 6 S_law_called := ⟨_, rfl⟩
noncomputable def F_law_called : DFn := F_law_called_ex.choose
theorem F_law_called_eq : F_law_called = mkD0 4 6 S_law_called := F_law_called_ex.choose_spec
theorem S_law_refused_b7_ex : ∃ x : DSt, x = (sIf (eTest (eOp dNe (eCB dRepr (eCons (eVarB 9) eNil)) (eCB dRepr (eCons (eVarB 10) eNil))))
    (sRet (eC (.bl false)))
    sNext) := ⟨_, rfl⟩
noncomputable def S_law_refused_b7 : DSt := S_law_refused_b7_ex.choose
theorem S_law_refused_b7_eq : S_law_refused_b7 = (sIf (eTest (eOp dNe (eCB dRepr (eCons (eVarB 9) eNil)) (eCB dRepr (eCons (eVarB 10) eNil))))
    (sRet (eC (.bl false)))
    sNext) := S_law_refused_b7_ex.choose_spec
theorem S_law_refused_r9_ex : ∃ x : DSt, x = (sRet (eC (.bl true))) := ⟨_, rfl⟩
noncomputable def S_law_refused_r9 : DSt := S_law_refused_r9_ex.choose
theorem S_law_refused_r9_eq : S_law_refused_r9 = (sRet (eC (.bl true))) := S_law_refused_r9_ex.choose_spec
theorem S_law_refused_r6_ex : ∃ x : DSt, x = (sSeq (sFor (eSeq (eVar 8)) (gD2 9 10)
    S_law_refused_b7)
    S_law_refused_r9) := ⟨_, rfl⟩
noncomputable def S_law_refused_r6 : DSt := S_law_refused_r6_ex.choose
theorem S_law_refused_r6_eq : S_law_refused_r6 = (sSeq (sFor (eSeq (eVar 8)) (gD2 9 10)
    S_law_refused_b7)
    S_law_refused_r9) := S_law_refused_r6_ex.choose_spec
theorem S_law_refused_r5_ex : ∃ x : DSt, x = (sSeq (sAsg (eLst (eCons (eTup (eCons (eCall0 F_law_called [] (eConsS (eC (.int 0)) (eConsS (eVar 1) (eConsS (eVar 2) (eConsS (eVar 2) eNil))))) (eCons (eLst (eCons (eC (.str "letters")) eNil)) eNil))) (eCons (eTup (eCons (eCall0 F_law_called [] (eConsS (eC (.int 0)) (eConsS (eVar 5) (eConsS (eVar 2) (eConsS (eVar 6) eNil))))) (eCons (eLst (eCons (eC (.str "number")) eNil)) eNil))) (eCons (eTup (eCons (eCall0 F_law_called [] (eConsS (eC (.int 0)) (eConsS (eVar 5) (eConsS (eVar 6) (eConsS (eVar 2) eNil))))) (eCons (eLst (eCons (eC (.str "number")) eNil)) eNil))) (eCons (eTup (eCons (eCall0 F_law_called [] (eConsS (eC (.int 1)) (eConsS (eVar 1) (eConsS (eVar 3) (eConsS (eC (.int 0)) eNil))))) (eCons (eLst (eCons (eC (.str "letters")) eNil)) eNil))) (eCons (eTup (eCons (eCall0 F_law_called [] (eConsS (eC (.int 1)) (eConsS (eVar 5) (eConsS (eVar 3) (eConsS (eC (.int 0)) eNil))))) (eCons (eLst (eCons (eC (.str "weights")) (eCons (eVar 4) eNil))) eNil))) (eCons (eTup (eCons (eCall0 F_law_called [] (eConsS (eC (.int 1)) (eConsS (eVar 5) (eConsS (eVar 7) (eConsS (eC (.int 0)) eNil))))) (eCons (eLst (eCons (eC (.str "let")) (eCons (eCall0 F_law_steep [] (eConsS (eVar 5) (eConsS (eVar 7) eNil))) eNil))) eNil))) (eCons (eTup (eCons (eCall0 F_law_called [] (eConsS (eC (.int 2)) (eConsS (eVar 1) (eConsS (eVar 3) (eConsS (eVar 2) eNil))))) (eCons (eLst (eCons (eC (.str "letters")) eNil)) eNil))) (eCons (eTup (eCons (eCall0 F_law_called [] (eConsS (eC (.int 2)) (eConsS (eVar 5) (eConsS (eVar 3) (eConsS (eVar 2) eNil))))) (eCons (eLst (eCons (eC (.str "weights")) (eCons (eVar 4) eNil))) eNil))) (eCons (eTup (eCons (eCall0 F_law_called [] (eConsS (eC (.int 2)) (eConsS (eVar 5) (eConsS (eVar 7) (eConsS (eVar 2) eNil))))) (eCons (eLst (eCons (eC (.str "number")) eNil)) eNil))) (eCons (eTup (eCons (eCall0 F_law_called [] (eConsS (eC (.int 2)) (eConsS (eVar 5) (eConsS (eVar 7) (eConsS (eVar 6) eNil))))) (eCons (eLst (eCons (eC (.str "let")) (eCons (eCall0 F_law_least_modulus [] (eConsS (eVar 5) (eConsS (eVar 7) (eConsS (eVar 6) eNil)))) eNil))) eNil))) (eCons (eTup (eCons (eCall0 F_law_called [] (eConsS (eC (.int 3)) (eConsS (eC (.int 0)) (eConsS (eVar 3) (eConsS (eC (.int 0)) eNil))))) (eCons (eLst (eCons (eC (.str "weights")) (eCons (eVar 4) eNil))) eNil))) (eCons (eTup (eCons (eCall0 F_law_called [] (eConsS (eC (.int 3)) (eConsS (eC (.int 0)) (eConsS (eVar 7) (eConsS (eC (.int 0)) eNil))))) (eCons (eLst (eCons (eC (.str "let")) (eCons (eCB dTupOf (eCons (eVarB 7) eNil)) eNil))) eNil))) (eCons (eTup (eCons (eCall0 F_law_called [] (eConsS (eC (.int 3)) (eConsS (eC (.int 0)) (eConsS (eTup eNil) (eConsS (eC (.int 0)) eNil))))) (eCons (eLst (eCons (eC (.str "let")) (eCons (eTup eNil) eNil))) eNil))) eNil)))))))))))))) (gD 8))
    S_law_refused_r6) := ⟨_, rfl⟩
noncomputable def S_law_refused_r5 : DSt := S_law_refused_r5_ex.choose
theorem S_law_refused_r5_eq : S_law_refused_r5 = (sSeq (sAsg (eLst (eCons (eTup (eCons (eCall0 F_law_called [] (eConsS (eC (.int 0)) (eConsS (eVar 1) (eConsS (eVar 2) (eConsS (eVar 2) eNil))))) (eCons (eLst (eCons (eC (.str "letters")) eNil)) eNil))) (eCons (eTup (eCons (eCall0 F_law_called [] (eConsS (eC (.int 0)) (eConsS (eVar 5) (eConsS (eVar 2) (eConsS (eVar 6) eNil))))) (eCons (eLst (eCons (eC (.str "number")) eNil)) eNil))) (eCons (eTup (eCons (eCall0 F_law_called [] (eConsS (eC (.int 0)) (eConsS (eVar 5) (eConsS (eVar 6) (eConsS (eVar 2) eNil))))) (eCons (eLst (eCons (eC (.str "number")) eNil)) eNil))) (eCons (eTup (eCons (eCall0 F_law_called [] (eConsS (eC (.int 1)) (eConsS (eVar 1) (eConsS (eVar 3) (eConsS (eC (.int 0)) eNil))))) (eCons (eLst (eCons (eC (.str "letters")) eNil)) eNil))) (eCons (eTup (eCons (eCall0 F_law_called [] (eConsS (eC (.int 1)) (eConsS (eVar 5) (eConsS (eVar 3) (eConsS (eC (.int 0)) eNil))))) (eCons (eLst (eCons (eC (.str "weights")) (eCons (eVar 4) eNil))) eNil))) (eCons (eTup (eCons (eCall0 F_law_called [] (eConsS (eC (.int 1)) (eConsS (eVar 5) (eConsS (eVar 7) (eConsS (eC (.int 0)) eNil))))) (eCons (eLst (eCons (eC (.str "let")) (eCons (eCall0 F_law_steep [] (eConsS (eVar 5) (eConsS (eVar 7) eNil))) eNil))) eNil))) (eCons (eTup (eCons (eCall0 F_law_called [] (eConsS (eC (.int 2)) (eConsS (eVar 1) (eConsS (eVar 3) (eConsS (eVar 2) eNil))))) (eCons (eLst (eCons (eC (.str "letters")) eNil)) eNil))) (eCons (eTup (eCons (eCall0 F_law_called [] (eConsS (eC (.int 2)) (eConsS (eVar 5) (eConsS (eVar 3) (eConsS (eVar 2) eNil))))) (eCons (eLst (eCons (eC (.str "weights")) (eCons (eVar 4) eNil))) eNil))) (eCons (eTup (eCons (eCall0 F_law_called [] (eConsS (eC (.int 2)) (eConsS (eVar 5) (eConsS (eVar 7) (eConsS (eVar 2) eNil))))) (eCons (eLst (eCons (eC (.str "number")) eNil)) eNil))) (eCons (eTup (eCons (eCall0 F_law_called [] (eConsS (eC (.int 2)) (eConsS (eVar 5) (eConsS (eVar 7) (eConsS (eVar 6) eNil))))) (eCons (eLst (eCons (eC (.str "let")) (eCons (eCall0 F_law_least_modulus [] (eConsS (eVar 5) (eConsS (eVar 7) (eConsS (eVar 6) eNil)))) eNil))) eNil))) (eCons (eTup (eCons (eCall0 F_law_called [] (eConsS (eC (.int 3)) (eConsS (eC (.int 0)) (eConsS (eVar 3) (eConsS (eC (.int 0)) eNil))))) (eCons (eLst (eCons (eC (.str "weights")) (eCons (eVar 4) eNil))) eNil))) (eCons (eTup (eCons (eCall0 F_law_called [] (eConsS (eC (.int 3)) (eConsS (eC (.int 0)) (eConsS (eVar 7) (eConsS (eC (.int 0)) eNil))))) (eCons (eLst (eCons (eC (.str "let")) (eCons (eCB dTupOf (eCons (eVarB 7) eNil)) eNil))) eNil))) (eCons (eTup (eCons (eCall0 F_law_called [] (eConsS (eC (.int 3)) (eConsS (eC (.int 0)) (eConsS (eTup eNil) (eConsS (eC (.int 0)) eNil))))) (eCons (eLst (eCons (eC (.str "let")) (eCons (eTup eNil) eNil))) eNil))) eNil)))))))))))))) (gD 8))
    S_law_refused_r6) := S_law_refused_r5_ex.choose_spec
theorem S_law_refused_r4_ex : ∃ x : DSt, x = (sSeq (sPar3 5 6 7 (eCons (eOp dAdd (eC (.int 2)) (eCall0 F_law_take [] (eConsH 0 (eConsS (eC (.int 3)) eNil)))) (eCons (eCall0 F_law_take [] (eConsH 0 (eConsS (eC (.int 25)) eNil))) (eCons (eLc (eRng1 (eCons (eC (.int 24)) eNil)) (gD 11) eYes (eOp dAdd (eC (.int 1)) (eCall0 F_law_take [] (eConsH 0 (eConsS (eC (.int 99)) eNil)))) [11]) eNil))))
    S_law_refused_r5) := ⟨_, rfl⟩
noncomputable def S_law_refused_r4 : DSt := S_law_refused_r4_ex.choose
theorem S_law_refused_r4_eq : S_law_refused_r4 = (sSeq (sPar3 5 6 7 (eCons (eOp dAdd (eC (.int 2)) (eCall0 F_law_take [] (eConsH 0 (eConsS (eC (.int 3)) eNil)))) (eCons (eCall0 F_law_take [] (eConsH 0 (eConsS (eC (.int 25)) eNil))) (eCons (eLc (eRng1 (eCons (eC (.int 24)) eNil)) (gD 11) eYes (eOp dAdd (eC (.int 1)) (eCall0 F_law_take [] (eConsH 0 (eConsS (eC (.int 99)) eNil)))) [11]) eNil))))
    S_law_refused_r5) := S_law_refused_r4_ex.choose_spec
theorem S_law_refused_r3_ex : ∃ x : DSt, x = (sSeq (sAsg (eCall0 F_law_wrong_weights [] (eConsH 0 eNil)) (gD2 3 4))
    S_law_refused_r4) := ⟨_, rfl⟩
noncomputable def S_law_refused_r3 : DSt := S_law_refused_r3_ex.choose
theorem S_law_refused_r3_eq : S_law_refused_r3 = (sSeq (sAsg (eCall0 F_law_wrong_weights [] (eConsH 0 eNil)) (gD2 3 4))
    S_law_refused_r4) := S_law_refused_r3_ex.choose_spec
theorem S_law_refused_r2_ex : ∃ x : DSt, x = (sSeq (sAsg (eOp dIx (eLst (eCons (eUn dNeg (eC (.int 1))) (eCons (eC (.int 25)) (eCons (eC (.bl true)) (eCons (eC .non) (eCons (eC (.str "1")) (eCons (eC (.int (100000000000000000000))) (eCons (eC (.bl false)) (eCons (eTup (eCons (eC (.int 1)) eNil)) eNil))))))))) (eCall0 F_law_take [] (eConsH 0 (eConsS (eC (.int 8)) eNil)))) (gD 2))
    S_law_refused_r3) := ⟨_, rfl⟩
noncomputable def S_law_refused_r2 : DSt := S_law_refused_r2_ex.choose
theorem S_law_refused_r2_eq : S_law_refused_r2 = (sSeq (sAsg (eOp dIx (eLst (eCons (eUn dNeg (eC (.int 1))) (eCons (eC (.int 25)) (eCons (eC (.bl true)) (eCons (eC .non) (eCons (eC (.str "1")) (eCons (eC (.int (100000000000000000000))) (eCons (eC (.bl false)) (eCons (eTup (eCons (eC (.int 1)) eNil)) eNil))))))))) (eCall0 F_law_take [] (eConsH 0 (eConsS (eC (.int 8)) eNil)))) (gD 2))
    S_law_refused_r3) := S_law_refused_r2_ex.choose_spec
def S_law_refused : DSt := (sSeq (sAsg (eOp dIx (eLst (eCons (eC (.int 1)) (eCons (eC (.int 5)) (eCons (eC (.int 0)) (eCons (eC (.bl true)) (eCons (eC .non) (eCons (eC (.str "2")) (eCons (eUn dNeg (eC (.int 2))) (eCons (eC (.int (100000000000000000000))) eNil))))))))) (eCall0 F_law_take [] (eConsH 0 (eConsS (eC (.int 8)) eNil)))) (gD 1))
    S_law_refused_r2)
theorem F_law_refused_ex : ∃ x : DFn, x = mkD0 1 12 S_law_refused := ⟨_, rfl⟩
noncomputable def F_law_refused : DFn := F_law_refused_ex.choose
theorem F_law_refused_eq : F_law_refused = mkD0 1 12 S_law_refused := F_law_refused_ex.choose_spec
theorem S_law_missed_right_r9_ex : ∃ x : DSt, x = (sFrz 4 (sRet (eAndV (eOp dLt (eVarB 6) (eVarB 2)) (eOp dEq (eCB dRepr (eCons (eVarB 6) eNil)) (eCB dRepr (eCons (eCall0 F_law_steep [] (eConsS (eVar 1) (eConsS (eVar 4) eNil))) eNil)))))) := ⟨_, rfl⟩
noncomputable def S_law_missed_right_r9 : DSt := S_law_missed_right_r9_ex.choose
theorem S_law_missed_right_r9_eq : S_law_missed_right_r9 = (sFrz 4 (sRet (eAndV (eOp dLt (eVarB 6) (eVarB 2)) (eOp dEq (eCB dRepr (eCons (eVarB 6) eNil)) (eCB dRepr (eCons (eCall0 F_law_steep [] (eConsS (eVar 1) (eConsS (eVar 4) eNil))) eNil)))))) := S_law_missed_right_r9_ex.choose_spec
theorem S_law_missed_right_r8_ex : ∃ x : DSt, x = (sSeq (sKeep 4 6 (eCall0 F_steep_by [] (eConsS (eVar 1) (eConsS (eVar 4) eNil))))
    S_law_missed_right_r9) := ⟨_, rfl⟩
noncomputable def S_law_missed_right_r8 : DSt := S_law_missed_right_r8_ex.choose
theorem S_law_missed_right_r8_eq : S_law_missed_right_r8 = (sSeq (sKeep 4 6 (eCall0 F_steep_by [] (eConsS (eVar 1) (eConsS (eVar 4) eNil))))
    S_law_missed_right_r9) := S_law_missed_right_r8_ex.choose_spec
theorem S_law_missed_right_r7_ex : ∃ x : DSt, x = (sSeq (sPut 4 (eVar 5) (eOp dMul (eOp dSub (eVarB 1) (eC (.int 1))) (eCB dSum (eCons (eSl dSl (eVarB 4) (ePart (eCB dMax2 (eCons (eC (.int 0)) (eCons (eOp dSub (eVarB 5) (eVarB 2)) eNil)))) (ePart (eVar 5))) eNil))))
    S_law_missed_right_r8) := ⟨_, rfl⟩
noncomputable def S_law_missed_right_r7 : DSt := S_law_missed_right_r7_ex.choose
theorem S_law_missed_right_r7_eq : S_law_missed_right_r7 = (sSeq (sPut 4 (eVar 5) (eOp dMul (eOp dSub (eVarB 1) (eC (.int 1))) (eCB dSum (eCons (eSl dSl (eVarB 4) (ePart (eCB dMax2 (eCons (eC (.int 0)) (eCons (eOp dSub (eVarB 5) (eVarB 2)) eNil)))) (ePart (eVar 5))) eNil))))
    S_law_missed_right_r8) := S_law_missed_right_r7_ex.choose_spec
theorem S_law_missed_right_r6_ex : ∃ x : DSt, x = (sSeq (sAsg (eOp dAdd (eC (.int 1)) (eCall0 F_law_take [] (eConsH 0 (eConsS (eOp dSub (eVarB 3) (eC (.int 1))) eNil)))) (gD 5))
    S_law_missed_right_r7) := ⟨_, rfl⟩
noncomputable def S_law_missed_right_r6 : DSt := S_law_missed_right_r6_ex.choose
theorem S_law_missed_right_r6_eq : S_law_missed_right_r6 = (sSeq (sAsg (eOp dAdd (eC (.int 1)) (eCall0 F_law_take [] (eConsH 0 (eConsS (eOp dSub (eVarB 3) (eC (.int 1))) eNil)))) (gD 5))
    S_law_missed_right_r7) := S_law_missed_right_r6_ex.choose_spec
theorem S_law_missed_right_r4_ex : ∃ x : DSt, x = (sSeq (sIfK 4 (eTest (eOp dLt (eCall0 F_steep_by [] (eConsS (eVar 1) (eConsS (eVar 4) eNil))) (eCB dMin2 (eCons (eVarB 2) (eCons (eVarB 3) eNil)))))
    (sRet (eC (.bl false)))
    sNext)
    S_law_missed_right_r6) := ⟨_, rfl⟩
noncomputable def S_law_missed_right_r4 : DSt := S_law_missed_right_r4_ex.choose
theorem S_law_missed_right_r4_eq : S_law_missed_right_r4 = (sSeq (sIfK 4 (eTest (eOp dLt (eCall0 F_steep_by [] (eConsS (eVar 1) (eConsS (eVar 4) eNil))) (eCB dMin2 (eCons (eVarB 2) (eCons (eVarB 3) eNil)))))
    (sRet (eC (.bl false)))
    sNext)
    S_law_missed_right_r6) := S_law_missed_right_r4_ex.choose_spec
theorem S_law_missed_right_r3_ex : ∃ x : DSt, x = (sSeq (sOwn 4 (eCall0 F_law_steep_weights [] (eConsH 0 (eConsS (eVar 1) (eConsS (eVar 2) (eConsS (eVar 3) (eConsS (eLst (eCons (eC (.int 0)) (eCons (eC (.int 1)) (eCons (eC (.int 9)) eNil)))) eNil)))))))
    S_law_missed_right_r4) := ⟨_, rfl⟩
noncomputable def S_law_missed_right_r3 : DSt := S_law_missed_right_r3_ex.choose
theorem S_law_missed_right_r3_eq : S_law_missed_right_r3 = (sSeq (sOwn 4 (eCall0 F_law_steep_weights [] (eConsH 0 (eConsS (eVar 1) (eConsS (eVar 2) (eConsS (eVar 3) (eConsS (eLst (eCons (eC (.int 0)) (eCons (eC (.int 1)) (eCons (eC (.int 9)) eNil)))) eNil)))))))
    S_law_missed_right_r4) := S_law_missed_right_r3_ex.choose_spec
theorem S_law_missed_right_r2_ex : ∃ x : DSt, x = (sSeq (sAsg (eOp dAdd (eC (.int 2)) (eCall0 F_law_take [] (eConsH 0 (eConsS (eC (.int 6)) eNil)))) (gD 3))
    S_law_missed_right_r3) := ⟨_, rfl⟩
noncomputable def S_law_missed_right_r2 : DSt := S_law_missed_right_r2_ex.choose
theorem S_law_missed_right_r2_eq : S_law_missed_right_r2 = (sSeq (sAsg (eOp dAdd (eC (.int 2)) (eCall0 F_law_take [] (eConsH 0 (eConsS (eC (.int 6)) eNil)))) (gD 3))
    S_law_missed_right_r3) := S_law_missed_right_r2_ex.choose_spec
def S_law_missed_right : DSt := (sSeq (sPar 1 2 (eCons (eOp dAdd (eC (.int 2)) (eCall0 F_law_take [] (eConsH 0 (eConsS (eC (.int 3)) eNil)))) (eCons (eOp dAdd (eC (.int 1)) (eCall0 F_law_take [] (eConsH 0 (eConsS (eC (.int 4)) eNil)))) eNil)))
    S_law_missed_right_r2)
theorem F_law_missed_right_ex : ∃ x : DFn, x = mkD0 1 7 S_law_missed_right := ⟨_, rfl⟩
noncomputable def F_law_missed_right : DFn := F_law_missed_right_ex.choose
theorem F_law_missed_right_eq : F_law_missed_right = mkD0 1 7 S_law_missed_right := F_law_missed_right_ex.choose_spec
theorem S_law_r4_ex : ∃ x : DSt, x = (sRet (eAndV (eCall0 F_law_missed_right [] (eConsH 1 eNil)) (eCall0 F_law_refused [] (eConsH 1 eNil)))) := ⟨_, rfl⟩
noncomputable def S_law_r4 : DSt := S_law_r4_ex.choose
theorem S_law_r4_eq : S_law_r4 = (sRet (eAndV (eCall0 F_law_missed_right [] (eConsH 1 eNil)) (eCall0 F_law_refused [] (eConsH 1 eNil)))) := S_law_r4_ex.choose_spec
def S_law : DSt := (sSeq (sIf (eOrT (eNotT (eTru (eCall0 F_law_told_right [] (eConsH 1 eNil)))) (eNotT (eTru (eCall0 F_law_any_right [] (eConsH 1 eNil)))))
    (sRet (eC (.bl false)))
    sNext)
    S_law_r4)
abbrev Goal : Prop := LawGoal 0 S_law
end Mine

namespace Mine
open PySem PySem.Spec PyProof.Rows L2
abbrev PG : Program := PySem.Challenge.pw_lostplaces_k19_whole_told_and_steep_weig
def top (i : Nat) : Stmt := PG.main.body.getD i (.Pass ⟨0, 0, 0, 0⟩)
abbrev s_BadWeights___init : Stmt := inClass (top 4) 0
abbrev N_BadWeights___init : List Str := ["self", "index"]
abbrev P_BadWeights___init : List Str := ["self", "index"]
theorem sc_BadWeights___init : FnScope N_BadWeights___init P_BadWeights___init (defScope s_BadWeights___init) := ⟨rfl, rfl, rfl, by decide +kernel, rfl, by decide +kernel, by decide +kernel⟩
abbrev D_BadWeights___init (K : PySem.W.Frag) (f : Addr) (fd : FuncData) : Prop := FunD K "__init__" "BadWeights.__init__" (defArgs s_BadWeights___init) (defBody s_BadWeights___init) (defScope s_BadWeights___init) [] [] f fd
abbrev s_is_whole : Stmt := top 7
abbrev N_is_whole : List Str := ["thing", "low", "high"]
abbrev P_is_whole : List Str := ["thing", "low", "high"]
theorem sc_is_whole : FnScope N_is_whole P_is_whole (defScope s_is_whole) := ⟨rfl, rfl, rfl, by decide +kernel, rfl, by decide +kernel, by decide +kernel⟩
abbrev D_is_whole (K : PySem.W.Frag) (f : Addr) (fd : FuncData) : Prop := FunD K "is_whole" "is_whole" (defArgs s_is_whole) (defBody s_is_whole) (defScope s_is_whole) [.non, .non] [] f fd
abbrev s_check_number : Stmt := top 8
abbrev N_check_number : List Str := ["thing", "low", "high"]
abbrev P_check_number : List Str := ["thing", "low", "high"]
theorem sc_check_number : FnScope N_check_number P_check_number (defScope s_check_number) := ⟨rfl, rfl, rfl, by decide +kernel, rfl, by decide +kernel, by decide +kernel⟩
abbrev D_check_number (K : PySem.W.Frag) (f : Addr) (fd : FuncData) : Prop := FunD K "check_number" "check_number" (defArgs s_check_number) (defBody s_check_number) (defScope s_check_number) [] [] f fd
abbrev s_check_letters : Stmt := top 9
abbrev N_check_letters : List Str := ["letters"]
abbrev P_check_letters : List Str := ["letters"]
theorem sc_check_letters : FnScope N_check_letters P_check_letters (defScope s_check_letters) := ⟨rfl, rfl, rfl, by decide +kernel, rfl, by decide +kernel, by decide +kernel⟩
abbrev D_check_letters (K : PySem.W.Frag) (f : Addr) (fd : FuncData) : Prop := FunD K "check_letters" "check_letters" (defArgs s_check_letters) (defBody s_check_letters) (defScope s_check_letters) [] [] f fd
abbrev s_check_weights : Stmt := top 12
abbrev N_check_weights : List Str := ["weights", "index", "weight"]
abbrev P_check_weights : List Str := ["weights"]
theorem sc_check_weights : FnScope N_check_weights P_check_weights (defScope s_check_weights) := ⟨rfl, rfl, rfl, by decide +kernel, rfl, by decide +kernel, by decide +kernel⟩
abbrev D_check_weights (K : PySem.W.Frag) (f : Addr) (fd : FuncData) : Prop := FunD K "check_weights" "check_weights" (defArgs s_check_weights) (defBody s_check_weights) (defScope s_check_weights) [] [] f fd
abbrev s_steep_by : Stmt := top 13
abbrev N_steep_by : List Str := ["letters", "weights", "number"]
abbrev P_steep_by : List Str := ["letters", "weights"]
theorem sc_steep_by : FnScope N_steep_by P_steep_by (defScope s_steep_by) := ⟨rfl, rfl, rfl, by decide +kernel, rfl, by decide +kernel, by decide +kernel⟩
abbrev D_steep_by (K : PySem.W.Frag) (f : Addr) (fd : FuncData) : Prop := FunD K "steep_by" "steep_by" (defArgs s_steep_by) (defBody s_steep_by) (defScope s_steep_by) [] [] f fd
abbrev s_are_steep : Stmt := top 14
abbrev N_are_steep : List Str := ["letters", "weights", "number", "at", "weight"]
abbrev P_are_steep : List Str := ["letters", "weights", "number"]
theorem sc_are_steep : FnScope N_are_steep P_are_steep (defScope s_are_steep) := ⟨rfl, rfl, rfl, by decide +kernel, rfl, by decide +kernel, by decide +kernel⟩
abbrev D_are_steep (K : PySem.W.Frag) (f : Addr) (fd : FuncData) : Prop := FunD K "_are_steep" "_are_steep" (defArgs s_are_steep) (defBody s_are_steep) (defScope s_are_steep) [] [] f fd
abbrev s_above_last : Stmt := top 15
abbrev N_above_last : List Str := ["letters", "weights", "number"]
abbrev P_above_last : List Str := ["letters", "weights", "number"]
theorem sc_above_last : FnScope N_above_last P_above_last (defScope s_above_last) := ⟨rfl, rfl, rfl, by decide +kernel, rfl, by decide +kernel, by decide +kernel⟩
abbrev D_above_last (K : PySem.W.Frag) (f : Addr) (fd : FuncData) : Prop := FunD K "_above_last" "_above_last" (defArgs s_above_last) (defBody s_above_last) (defScope s_above_last) [] [] f fd
abbrev s_steep_modulus : Stmt := top 16
abbrev N_steep_modulus : List Str := ["letters", "weights", "lost"]
abbrev P_steep_modulus : List Str := ["letters", "weights", "lost"]
theorem sc_steep_modulus : FnScope N_steep_modulus P_steep_modulus (defScope s_steep_modulus) := ⟨rfl, rfl, rfl, by decide +kernel, rfl, by decide +kernel, by decide +kernel⟩
abbrev D_steep_modulus (K : PySem.W.Frag) (f : Addr) (fd : FuncData) : Prop := FunD K "steep_modulus" "steep_modulus" (defArgs s_steep_modulus) (defBody s_steep_modulus) (defScope s_steep_modulus) [] [] f fd
abbrev s_weights_for : Stmt := top 17
abbrev N_weights_for : List Str := ["letters", "lost", "length", "told", "_"]
abbrev P_weights_for : List Str := ["letters", "lost", "length"]
theorem sc_weights_for : FnScope N_weights_for P_weights_for (defScope s_weights_for) := ⟨rfl, rfl, rfl, by decide +kernel, rfl, by decide +kernel, by decide +kernel⟩
abbrev D_weights_for (K : PySem.W.Frag) (f : Addr) (fd : FuncData) : Prop := FunD K "weights_for" "weights_for" (defArgs s_weights_for) (defBody s_weights_for) (defScope s_weights_for) [] [] f fd
abbrev s_law_hand : Stmt := top 19
abbrev N_law_hand : List Str := ["_law_script", "_law_total", "_law_cells", "_law_cell"]
abbrev P_law_hand : List Str := ["_law_script"]
theorem sc_law_hand : FnScope N_law_hand P_law_hand (defScope s_law_hand) := ⟨rfl, rfl, rfl, by decide +kernel, rfl, by decide +kernel, by decide +kernel⟩
abbrev D_law_hand (K : PySem.W.Frag) (f : Addr) (fd : FuncData) : Prop := FunD K "_law_hand" "_law_hand" (defArgs s_law_hand) (defBody s_law_hand) (defScope s_law_hand) [] [] f fd
abbrev s_law_mixed : Stmt := top 20
abbrev N_law_mixed : List Str := ["_law_number", "_law_turn", "_law_once", "_law_twice"]
abbrev P_law_mixed : List Str := ["_law_number", "_law_turn"]
theorem sc_law_mixed : FnScope N_law_mixed P_law_mixed (defScope s_law_mixed) := ⟨rfl, rfl, rfl, by decide +kernel, rfl, by decide +kernel, by decide +kernel⟩
abbrev D_law_mixed (K : PySem.W.Frag) (f : Addr) (fd : FuncData) : Prop := FunD K "_law_mixed" "_law_mixed" (defArgs s_law_mixed) (defBody s_law_mixed) (defScope s_law_mixed) [] [] f fd
abbrev s_law_take : Stmt := top 21
abbrev N_law_take : List Str := ["_law_hand_here", "_law_many", "_law_cell", "_law_rest"]
abbrev P_law_take : List Str := ["_law_hand_here", "_law_many"]
theorem sc_law_take : FnScope N_law_take P_law_take (defScope s_law_take) := ⟨rfl, rfl, rfl, by decide +kernel, rfl, by decide +kernel, by decide +kernel⟩
abbrev D_law_take (K : PySem.W.Frag) (f : Addr) (fd : FuncData) : Prop := FunD K "_law_take" "_law_take" (defArgs s_law_take) (defBody s_law_take) (defScope s_law_take) [] [] f fd
abbrev s_law_power : Stmt := top 22
abbrev N_law_power : List Str := ["_law_base", "_law_exponent", "_law_total", "_law_k"]
abbrev P_law_power : List Str := ["_law_base", "_law_exponent"]
theorem sc_law_power : FnScope N_law_power P_law_power (defScope s_law_power) := ⟨rfl, rfl, rfl, by decide +kernel, rfl, by decide +kernel, by decide +kernel⟩
abbrev D_law_power (K : PySem.W.Frag) (f : Addr) (fd : FuncData) : Prop := FunD K "_law_power" "_law_power" (defArgs s_law_power) (defBody s_law_power) (defScope s_law_power) [] [] f fd
abbrev s_law_steep : Stmt := top 23
abbrev N_law_steep : List Str := ["_law_q", "_law_weights", "_law_best", "_law_s", "_law_k"]
abbrev P_law_steep : List Str := ["_law_q", "_law_weights"]
theorem sc_law_steep : FnScope N_law_steep P_law_steep (defScope s_law_steep) := ⟨rfl, rfl, rfl, by decide +kernel, rfl, by decide +kernel, by decide +kernel⟩
abbrev D_law_steep (K : PySem.W.Frag) (f : Addr) (fd : FuncData) : Prop := FunD K "_law_steep" "_law_steep" (defArgs s_law_steep) (defBody s_law_steep) (defScope s_law_steep) [] [] f fd
abbrev s_law_least_modulus : Stmt := top 24
abbrev N_law_least_modulus : List Str := ["_law_q", "_law_weights", "_law_s"]
abbrev P_law_least_modulus : List Str := ["_law_q", "_law_weights", "_law_s"]
theorem sc_law_least_modulus : FnScope N_law_least_modulus P_law_least_modulus (defScope s_law_least_modulus) := ⟨rfl, rfl, rfl, by decide +kernel, rfl, by decide +kernel, by decide +kernel⟩
abbrev D_law_least_modulus (K : PySem.W.Frag) (f : Addr) (fd : FuncData) : Prop := FunD K "_law_least_modulus" "_law_least_modulus" (defArgs s_law_least_modulus) (defBody s_law_least_modulus) (defScope s_law_least_modulus) [] [] f fd
abbrev s_law_steep_weights : Stmt := top 25
abbrev N_law_steep_weights : List Str := ["_law_hand_here", "_law_q", "_law_s", "_law_n", "_law_rooms", "_law_told", "_law_k", "_law_room"]
abbrev P_law_steep_weights : List Str := ["_law_hand_here", "_law_q", "_law_s", "_law_n", "_law_rooms"]
theorem sc_law_steep_weights : FnScope N_law_steep_weights P_law_steep_weights (defScope s_law_steep_weights) := ⟨rfl, rfl, rfl, by decide +kernel, rfl, by decide +kernel, by decide +kernel⟩
abbrev D_law_steep_weights (K : PySem.W.Frag) (f : Addr) (fd : FuncData) : Prop := FunD K "_law_steep_weights" "_law_steep_weights" (defArgs s_law_steep_weights) (defBody s_law_steep_weights) (defScope s_law_steep_weights) [] [] f fd
abbrev s_law_any_weights : Stmt := top 26
abbrev N_law_any_weights : List Str := ["_law_hand_here", "_law_q", "_law_n", "_law_way", "_law_told", "_law_k"]
abbrev P_law_any_weights : List Str := ["_law_hand_here", "_law_q", "_law_n"]
theorem sc_law_any_weights : FnScope N_law_any_weights P_law_any_weights (defScope s_law_any_weights) := ⟨rfl, rfl, rfl, by decide +kernel, rfl, by decide +kernel, by decide +kernel⟩
abbrev D_law_any_weights (K : PySem.W.Frag) (f : Addr) (fd : FuncData) : Prop := FunD K "_law_any_weights" "_law_any_weights" (defArgs s_law_any_weights) (defBody s_law_any_weights) (defScope s_law_any_weights) [] [] f fd
abbrev s_law_odd : Stmt := top 27
abbrev N_law_odd : List Str := ["_law_hand_here", "_law_great"]
abbrev P_law_odd : List Str := ["_law_hand_here", "_law_great"]
theorem sc_law_odd : FnScope N_law_odd P_law_odd (defScope s_law_odd) := ⟨rfl, rfl, rfl, by decide +kernel, rfl, by decide +kernel, by decide +kernel⟩
abbrev D_law_odd (K : PySem.W.Frag) (f : Addr) (fd : FuncData) : Prop := FunD K "_law_odd" "_law_odd" (defArgs s_law_odd) (defBody s_law_odd) (defScope s_law_odd) [] [] f fd
abbrev s_law_called : Stmt := top 28
abbrev N_law_called : List Str := ["_law_which", "_law_one", "_law_other", "_law_third", "_law_told", "e"]
abbrev P_law_called : List Str := ["_law_which", "_law_one", "_law_other", "_law_third"]
theorem sc_law_called : FnScope N_law_called P_law_called (defScope s_law_called) := ⟨rfl, rfl, rfl, by decide +kernel, rfl, by decide +kernel, by decide +kernel⟩
abbrev D_law_called (K : PySem.W.Frag) (f : Addr) (fd : FuncData) : Prop := FunD K "_law_called" "_law_called" (defArgs s_law_called) (defBody s_law_called) (defScope s_law_called) [] [] f fd
abbrev s_law_told_right : Stmt := top 29
abbrev N_law_told_right : List Str := ["_law_hand_here", "_law_q", "_law_s", "_law_n", "_law_due", "_law_k", "_law_told", "_law_weights", "_law_steep_here"]
abbrev P_law_told_right : List Str := ["_law_hand_here"]
theorem sc_law_told_right : FnScope N_law_told_right P_law_told_right (defScope s_law_told_right) := ⟨rfl, rfl, rfl, by decide +kernel, rfl, by decide +kernel, by decide +kernel⟩
abbrev D_law_told_right (K : PySem.W.Frag) (f : Addr) (fd : FuncData) : Prop := FunD K "_law_told_right" "_law_told_right" (defArgs s_law_told_right) (defBody s_law_told_right) (defScope s_law_told_right) [] [] f fd
abbrev s_law_any_right : Stmt := top 30
abbrev N_law_any_right : List Str := ["_law_hand_here", "_law_q", "_law_n", "_law_weights", "_law_s"]
abbrev P_law_any_right : List Str := ["_law_hand_here"]
theorem sc_law_any_right : FnScope N_law_any_right P_law_any_right (defScope s_law_any_right) := ⟨rfl, rfl, rfl, by decide +kernel, rfl, by decide +kernel, by decide +kernel⟩
abbrev D_law_any_right (K : PySem.W.Frag) (f : Addr) (fd : FuncData) : Prop := FunD K "_law_any_right" "_law_any_right" (defArgs s_law_any_right) (defBody s_law_any_right) (defScope s_law_any_right) [] [] f fd
abbrev s_law_missed_right : Stmt := top 31
abbrev N_law_missed_right : List Str := ["_law_hand_here", "_law_q", "_law_s", "_law_n", "_law_weights", "_law_k", "_law_told"]
abbrev P_law_missed_right : List Str := ["_law_hand_here"]
theorem sc_law_missed_right : FnScope N_law_missed_right P_law_missed_right (defScope s_law_missed_right) := ⟨rfl, rfl, rfl, by decide +kernel, rfl, by decide +kernel, by decide +kernel⟩
abbrev D_law_missed_right (K : PySem.W.Frag) (f : Addr) (fd : FuncData) : Prop := FunD K "_law_missed_right" "_law_missed_right" (defArgs s_law_missed_right) (defBody s_law_missed_right) (defScope s_law_missed_right) [] [] f fd
abbrev s_law_wrong_weights : Stmt := top 32
abbrev N_law_wrong_weights : List Str := ["_law_hand_here", "_law_way", "_law_good", "_law_k", "_law_told"]
abbrev P_law_wrong_weights : List Str := ["_law_hand_here"]
theorem sc_law_wrong_weights : FnScope N_law_wrong_weights P_law_wrong_weights (defScope s_law_wrong_weights) := ⟨rfl, rfl, rfl, by decide +kernel, rfl, by decide +kernel, by decide +kernel⟩
abbrev D_law_wrong_weights (K : PySem.W.Frag) (f : Addr) (fd : FuncData) : Prop := FunD K "_law_wrong_weights" "_law_wrong_weights" (defArgs s_law_wrong_weights) (defBody s_law_wrong_weights) (defScope s_law_wrong_weights) [] [] f fd
abbrev s_law_refused : Stmt := top 33
abbrev N_law_refused : List Str := ["_law_hand_here", "_law_letters", "_law_number", "_law_wrong", "_law_index", "_law_q", "_law_s", "_law_good", "_law_due", "_law_told", "_law_wanted", "_law_k"]
abbrev P_law_refused : List Str := ["_law_hand_here"]
theorem sc_law_refused : FnScope N_law_refused P_law_refused (defScope s_law_refused) := ⟨rfl, rfl, rfl, by decide +kernel, rfl, by decide +kernel, by decide +kernel⟩
abbrev D_law_refused (K : PySem.W.Frag) (f : Addr) (fd : FuncData) : Prop := FunD K "_law_refused" "_law_refused" (defArgs s_law_refused) (defBody s_law_refused) (defScope s_law_refused) [] [] f fd
abbrev s_law : Stmt := top 34
abbrev N_law : List Str := ["_law_script", "_law_hand_here"]
abbrev P_law : List Str := ["_law_script"]
theorem sc_law : FnScope N_law P_law (defScope s_law) := ⟨rfl, rfl, rfl, by decide +kernel, rfl, by decide +kernel, by decide +kernel⟩
abbrev D_law (K : PySem.W.Frag) (f : Addr) (fd : FuncData) : Prop := FunD K "law" "law" (defArgs s_law) (defBody s_law) (defScope s_law) [] [] f fd
structure Txt (K : PySem.W.Frag) (mg : Str → Option Value) : Prop where
  x_BadWeights : FldExc K (He.ga K "BadWeights") (He.ma K (He.ga K "BadWeights") "__init__")
  n_BadWeights_is_index : PySem.W.findIn K (.ref (He.ga K "BadWeights")) "index" = some none
  z_isinstance : mg "isinstance" = none
  z_bool : mg "bool" = none
  z_int : mg "int" = none
  g_is_whole : mg "is_whole" = some (.ref (He.ga K "is_whole"))
  g_BadNumber : mg "BadNumber" = some (.ref (He.ga K "BadNumber"))
  e_BadNumber : OwnExc K (He.ga K "BadNumber")
  g_BadLetters : mg "BadLetters" = some (.ref (He.ga K "BadLetters"))
  e_BadLetters : OwnExc K (He.ga K "BadLetters")
  z_len : mg "len" = none
  c_MOST_LETTERS : ∃ t, mg "MOST_LETTERS" = some (.int 24 t)
  z_tuple : mg "tuple" = none
  z_list : mg "list" = none
  g_BadWeights : mg "BadWeights" = some (.ref (He.ga K "BadWeights"))
  z_enumerate : mg "enumerate" = none
  c_GREATEST_WEIGHT : ∃ t, mg "GREATEST_WEIGHT" = some (.int 1000000000000000 t)
  g_check_letters : mg "check_letters" = some (.ref (He.ga K "check_letters"))
  g_check_weights : mg "check_weights" = some (.ref (He.ga K "check_weights"))
  g__are_steep : mg "_are_steep" = some (.ref (He.ga K "_are_steep"))
  z_all : mg "all" = none
  g__above_last : mg "_above_last" = some (.ref (He.ga K "_above_last"))
  z_sum : mg "sum" = none
  z_max : mg "max" = none
  g_check_number : mg "check_number" = some (.ref (He.ga K "check_number"))
  z_range : mg "range" = none
  z_abs : mg "abs" = none
  g__law_mixed : mg "_law_mixed" = some (.ref (He.ga K "_law_mixed"))
  g__law_take : mg "_law_take" = some (.ref (He.ga K "_law_take"))
  g__law_steep_weights : mg "_law_steep_weights" = some (.ref (He.ga K "_law_steep_weights"))
  g_weights_for : mg "weights_for" = some (.ref (He.ga K "weights_for"))
  g_steep_by : mg "steep_by" = some (.ref (He.ga K "steep_by"))
  g_steep_modulus : mg "steep_modulus" = some (.ref (He.ga K "steep_modulus"))
  g_PlaceError : mg "PlaceError" = some (.ref (He.ga K "PlaceError"))
  z_repr : mg "repr" = none
  g__law_power : mg "_law_power" = some (.ref (He.ga K "_law_power"))
  g__law_steep : mg "_law_steep" = some (.ref (He.ga K "_law_steep"))
  z_min : mg "min" = none
  g__law_any_weights : mg "_law_any_weights" = some (.ref (He.ga K "_law_any_weights"))
  g__law_least_modulus : mg "_law_least_modulus" = some (.ref (He.ga K "_law_least_modulus"))
  g__law_odd : mg "_law_odd" = some (.ref (He.ga K "_law_odd"))
  g__law_wrong_weights : mg "_law_wrong_weights" = some (.ref (He.ga K "_law_wrong_weights"))
  g__law_called : mg "_law_called" = some (.ref (He.ga K "_law_called"))
  g__law_hand : mg "_law_hand" = some (.ref (He.ga K "_law_hand"))
  g__law_any_right : mg "_law_any_right" = some (.ref (He.ga K "_law_any_right"))
  g__law_told_right : mg "_law_told_right" = some (.ref (He.ga K "_law_told_right"))
  g__law_refused : mg "_law_refused" = some (.ref (He.ga K "_law_refused"))
  g__law_missed_right : mg "_law_missed_right" = some (.ref (He.ga K "_law_missed_right"))
  m_BadLetters_is_BadLetters : PySem.W.exmOne K (.ref (He.ga K "BadLetters")) (.ref (He.ga K "BadLetters")) = some true
  m_BadLetters_is_BadNumber : PySem.W.exmOne K (.ref (He.ga K "BadLetters")) (.ref (He.ga K "BadNumber")) = some false
  m_BadLetters_is_BadWeights : PySem.W.exmOne K (.ref (He.ga K "BadLetters")) (.ref (He.ga K "BadWeights")) = some false
  m_BadLetters_is_PlaceError : PySem.W.exmOne K (.ref (He.ga K "BadLetters")) (.ref (He.ga K "PlaceError")) = some true
  m_BadNumber_is_BadLetters : PySem.W.exmOne K (.ref (He.ga K "BadNumber")) (.ref (He.ga K "BadLetters")) = some false
  m_BadNumber_is_BadNumber : PySem.W.exmOne K (.ref (He.ga K "BadNumber")) (.ref (He.ga K "BadNumber")) = some true
  m_BadNumber_is_BadWeights : PySem.W.exmOne K (.ref (He.ga K "BadNumber")) (.ref (He.ga K "BadWeights")) = some false
  m_BadNumber_is_PlaceError : PySem.W.exmOne K (.ref (He.ga K "BadNumber")) (.ref (He.ga K "PlaceError")) = some true
  m_BadWeights_is_BadLetters : PySem.W.exmOne K (.ref (He.ga K "BadWeights")) (.ref (He.ga K "BadLetters")) = some false
  m_BadWeights_is_BadNumber : PySem.W.exmOne K (.ref (He.ga K "BadWeights")) (.ref (He.ga K "BadNumber")) = some false
  m_BadWeights_is_BadWeights : PySem.W.exmOne K (.ref (He.ga K "BadWeights")) (.ref (He.ga K "BadWeights")) = some true
  m_BadWeights_is_PlaceError : PySem.W.exmOne K (.ref (He.ga K "BadWeights")) (.ref (He.ga K "PlaceError")) = some true
  F_BadWeights___init : ∃ fd, D_BadWeights___init K (He.ma K (He.ga K "BadWeights") "__init__") fd
  F_is_whole : ∃ fd, D_is_whole K (He.ga K "is_whole") fd
  F_check_number : ∃ fd, D_check_number K (He.ga K "check_number") fd
  F_check_letters : ∃ fd, D_check_letters K (He.ga K "check_letters") fd
  F_check_weights : ∃ fd, D_check_weights K (He.ga K "check_weights") fd
  F_steep_by : ∃ fd, D_steep_by K (He.ga K "steep_by") fd
  F_are_steep : ∃ fd, D_are_steep K (He.ga K "_are_steep") fd
  F_above_last : ∃ fd, D_above_last K (He.ga K "_above_last") fd
  F_steep_modulus : ∃ fd, D_steep_modulus K (He.ga K "steep_modulus") fd
  F_weights_for : ∃ fd, D_weights_for K (He.ga K "weights_for") fd
  F_law_hand : ∃ fd, D_law_hand K (He.ga K "_law_hand") fd
  F_law_mixed : ∃ fd, D_law_mixed K (He.ga K "_law_mixed") fd
  F_law_take : ∃ fd, D_law_take K (He.ga K "_law_take") fd
  F_law_power : ∃ fd, D_law_power K (He.ga K "_law_power") fd
  F_law_steep : ∃ fd, D_law_steep K (He.ga K "_law_steep") fd
  F_law_least_modulus : ∃ fd, D_law_least_modulus K (He.ga K "_law_least_modulus") fd
  F_law_steep_weights : ∃ fd, D_law_steep_weights K (He.ga K "_law_steep_weights") fd
  F_law_any_weights : ∃ fd, D_law_any_weights K (He.ga K "_law_any_weights") fd
  F_law_odd : ∃ fd, D_law_odd K (He.ga K "_law_odd") fd
  F_law_called : ∃ fd, D_law_called K (He.ga K "_law_called") fd
  F_law_told_right : ∃ fd, D_law_told_right K (He.ga K "_law_told_right") fd
  F_law_any_right : ∃ fd, D_law_any_right K (He.ga K "_law_any_right") fd
  F_law_missed_right : ∃ fd, D_law_missed_right K (He.ga K "_law_missed_right") fd
  F_law_wrong_weights : ∃ fd, D_law_wrong_weights K (He.ga K "_law_wrong_weights") fd
  F_law_refused : ∃ fd, D_law_refused K (He.ga K "_law_refused") fd
  F_law : ∃ fd, D_law K (He.ga K "law") fd
theorem bd_BadWeights___init {K : PySem.W.Frag} {f : Addr} {fd : FuncData} (F : D_BadWeights___init K f fd) : Binds K fd P_BadWeights___init [] := F.bindsN fun _ _ _ _ _ _ us hl => match us, hl with | [_, _], _ => rfl
theorem bd_check_number {K : PySem.W.Frag} {f : Addr} {fd : FuncData} (F : D_check_number K f fd) : Binds K fd P_check_number [] := F.bindsN fun _ _ _ _ _ _ us hl => match us, hl with | [_, _, _], _ => rfl
theorem bd_check_letters {K : PySem.W.Frag} {f : Addr} {fd : FuncData} (F : D_check_letters K f fd) : Binds K fd P_check_letters [] := F.bindsN fun _ _ _ _ _ _ us hl => match us, hl with | [_], _ => rfl
theorem bd_check_weights {K : PySem.W.Frag} {f : Addr} {fd : FuncData} (F : D_check_weights K f fd) : Binds K fd P_check_weights [] := F.bindsN fun _ _ _ _ _ _ us hl => match us, hl with | [_], _ => rfl
theorem bd_steep_by {K : PySem.W.Frag} {f : Addr} {fd : FuncData} (F : D_steep_by K f fd) : Binds K fd P_steep_by [] := F.bindsN fun _ _ _ _ _ _ us hl => match us, hl with | [_, _], _ => rfl
theorem bd_are_steep {K : PySem.W.Frag} {f : Addr} {fd : FuncData} (F : D_are_steep K f fd) : Binds K fd P_are_steep [] := F.bindsN fun _ _ _ _ _ _ us hl => match us, hl with | [_, _, _], _ => rfl
theorem bd_above_last {K : PySem.W.Frag} {f : Addr} {fd : FuncData} (F : D_above_last K f fd) : Binds K fd P_above_last [] := F.bindsN fun _ _ _ _ _ _ us hl => match us, hl with | [_, _, _], _ => rfl
theorem bd_steep_modulus {K : PySem.W.Frag} {f : Addr} {fd : FuncData} (F : D_steep_modulus K f fd) : Binds K fd P_steep_modulus [] := F.bindsN fun _ _ _ _ _ _ us hl => match us, hl with | [_, _, _], _ => rfl
theorem bd_weights_for {K : PySem.W.Frag} {f : Addr} {fd : FuncData} (F : D_weights_for K f fd) : Binds K fd P_weights_for [] := F.bindsN fun _ _ _ _ _ _ us hl => match us, hl with | [_, _, _], _ => rfl
theorem bd_law_hand {K : PySem.W.Frag} {f : Addr} {fd : FuncData} (F : D_law_hand K f fd) : Binds K fd P_law_hand [] := F.bindsN fun _ _ _ _ _ _ us hl => match us, hl with | [_], _ => rfl
theorem bd_law_mixed {K : PySem.W.Frag} {f : Addr} {fd : FuncData} (F : D_law_mixed K f fd) : Binds K fd P_law_mixed [] := F.bindsN fun _ _ _ _ _ _ us hl => match us, hl with | [_, _], _ => rfl
theorem bd_law_take {K : PySem.W.Frag} {f : Addr} {fd : FuncData} (F : D_law_take K f fd) : Binds K fd P_law_take [] := F.bindsN fun _ _ _ _ _ _ us hl => match us, hl with | [_, _], _ => rfl
theorem bd_law_power {K : PySem.W.Frag} {f : Addr} {fd : FuncData} (F : D_law_power K f fd) : Binds K fd P_law_power [] := F.bindsN fun _ _ _ _ _ _ us hl => match us, hl with | [_, _], _ => rfl
theorem bd_law_steep {K : PySem.W.Frag} {f : Addr} {fd : FuncData} (F : D_law_steep K f fd) : Binds K fd P_law_steep [] := F.bindsN fun _ _ _ _ _ _ us hl => match us, hl with | [_, _], _ => rfl
theorem bd_law_least_modulus {K : PySem.W.Frag} {f : Addr} {fd : FuncData} (F : D_law_least_modulus K f fd) : Binds K fd P_law_least_modulus [] := F.bindsN fun _ _ _ _ _ _ us hl => match us, hl with | [_, _, _], _ => rfl
theorem bd_law_steep_weights {K : PySem.W.Frag} {f : Addr} {fd : FuncData} (F : D_law_steep_weights K f fd) : Binds K fd P_law_steep_weights [] := F.bindsN fun _ _ _ _ _ _ us hl => match us, hl with | [_, _, _, _, _], _ => rfl
theorem bd_law_any_weights {K : PySem.W.Frag} {f : Addr} {fd : FuncData} (F : D_law_any_weights K f fd) : Binds K fd P_law_any_weights [] := F.bindsN fun _ _ _ _ _ _ us hl => match us, hl with | [_, _, _], _ => rfl
theorem bd_law_odd {K : PySem.W.Frag} {f : Addr} {fd : FuncData} (F : D_law_odd K f fd) : Binds K fd P_law_odd [] := F.bindsN fun _ _ _ _ _ _ us hl => match us, hl with | [_, _], _ => rfl
theorem bd_law_called {K : PySem.W.Frag} {f : Addr} {fd : FuncData} (F : D_law_called K f fd) : Binds K fd P_law_called [] := F.bindsN fun _ _ _ _ _ _ us hl => match us, hl with | [_, _, _, _], _ => rfl
theorem bd_law_told_right {K : PySem.W.Frag} {f : Addr} {fd : FuncData} (F : D_law_told_right K f fd) : Binds K fd P_law_told_right [] := F.bindsN fun _ _ _ _ _ _ us hl => match us, hl with | [_], _ => rfl
theorem bd_law_any_right {K : PySem.W.Frag} {f : Addr} {fd : FuncData} (F : D_law_any_right K f fd) : Binds K fd P_law_any_right [] := F.bindsN fun _ _ _ _ _ _ us hl => match us, hl with | [_], _ => rfl
theorem bd_law_missed_right {K : PySem.W.Frag} {f : Addr} {fd : FuncData} (F : D_law_missed_right K f fd) : Binds K fd P_law_missed_right [] := F.bindsN fun _ _ _ _ _ _ us hl => match us, hl with | [_], _ => rfl
theorem bd_law_wrong_weights {K : PySem.W.Frag} {f : Addr} {fd : FuncData} (F : D_law_wrong_weights K f fd) : Binds K fd P_law_wrong_weights [] := F.bindsN fun _ _ _ _ _ _ us hl => match us, hl with | [_], _ => rfl
theorem bd_law_refused {K : PySem.W.Frag} {f : Addr} {fd : FuncData} (F : D_law_refused K f fd) : Binds K fd P_law_refused [] := F.bindsN fun _ _ _ _ _ _ us hl => match us, hl with | [_], _ => rfl
theorem bd_law {K : PySem.W.Frag} {f : Addr} {fd : FuncData} (F : D_law K f fd) : Binds K fd P_law [] := F.bindsN fun _ _ _ _ _ _ us hl => match us, hl with | [_], _ => rfl
theorem bd_is_whole_3 {K : PySem.W.Frag} {f : Addr} {fd : FuncData} (F : D_is_whole K f fd) : ∃ ds, Vals [] ds ∧ Binds K fd P_is_whole ds := F.binds1 3 2 (by simp) rfl fun _ _ _ _ _ _ _ us its h1 h2 => match us, its, h1, h2 with | [_, _, _], [_, _], _, _ => ⟨_, rfl, rfl⟩
theorem mt_ok {K : PySem.W.Frag} {mg : Str → Option Value} (T : Txt K mg) : ∀ a b r, mt a b = some r → PySem.W.exmOne K (.ref (He.ga K a)) (.ref (He.ga K b)) = some r := by
  intro a b r h
  unfold mt at h
  by_cases c : a = "BadLetters" ∧ b = "BadLetters"
  · rw [if_pos c] at h; obtain ⟨rfl, rfl⟩ := c; cases h; exact T.m_BadLetters_is_BadLetters
  rw [if_neg c] at h; clear c
  by_cases c : a = "BadLetters" ∧ b = "BadNumber"
  · rw [if_pos c] at h; obtain ⟨rfl, rfl⟩ := c; cases h; exact T.m_BadLetters_is_BadNumber
  rw [if_neg c] at h; clear c
  by_cases c : a = "BadLetters" ∧ b = "BadWeights"
  · rw [if_pos c] at h; obtain ⟨rfl, rfl⟩ := c; cases h; exact T.m_BadLetters_is_BadWeights
  rw [if_neg c] at h; clear c
  by_cases c : a = "BadLetters" ∧ b = "PlaceError"
  · rw [if_pos c] at h; obtain ⟨rfl, rfl⟩ := c; cases h; exact T.m_BadLetters_is_PlaceError
  rw [if_neg c] at h; clear c
  by_cases c : a = "BadNumber" ∧ b = "BadLetters"
  · rw [if_pos c] at h; obtain ⟨rfl, rfl⟩ := c; cases h; exact T.m_BadNumber_is_BadLetters
  rw [if_neg c] at h; clear c
  by_cases c : a = "BadNumber" ∧ b = "BadNumber"
  · rw [if_pos c] at h; obtain ⟨rfl, rfl⟩ := c; cases h; exact T.m_BadNumber_is_BadNumber
  rw [if_neg c] at h; clear c
  by_cases c : a = "BadNumber" ∧ b = "BadWeights"
  · rw [if_pos c] at h; obtain ⟨rfl, rfl⟩ := c; cases h; exact T.m_BadNumber_is_BadWeights
  rw [if_neg c] at h; clear c
  by_cases c : a = "BadNumber" ∧ b = "PlaceError"
  · rw [if_pos c] at h; obtain ⟨rfl, rfl⟩ := c; cases h; exact T.m_BadNumber_is_PlaceError
  rw [if_neg c] at h; clear c
  by_cases c : a = "BadWeights" ∧ b = "BadLetters"
  · rw [if_pos c] at h; obtain ⟨rfl, rfl⟩ := c; cases h; exact T.m_BadWeights_is_BadLetters
  rw [if_neg c] at h; clear c
  by_cases c : a = "BadWeights" ∧ b = "BadNumber"
  · rw [if_pos c] at h; obtain ⟨rfl, rfl⟩ := c; cases h; exact T.m_BadWeights_is_BadNumber
  rw [if_neg c] at h; clear c
  by_cases c : a = "BadWeights" ∧ b = "BadWeights"
  · rw [if_pos c] at h; obtain ⟨rfl, rfl⟩ := c; cases h; exact T.m_BadWeights_is_BadWeights
  rw [if_neg c] at h; clear c
  by_cases c : a = "BadWeights" ∧ b = "PlaceError"
  · rw [if_pos c] at h; obtain ⟨rfl, rfl⟩ := c; cases h; exact T.m_BadWeights_is_PlaceError
  rw [if_neg c] at h; clear c
  cases h



end Mine

namespace Mine
open PySem PySem.Spec PyProof.Rows L2
def q_BadWeights___init : He.DefD := ⟨("BadWeights", some "__init__"), "__init__", "BadWeights.__init__", defArgs s_BadWeights___init, defBody s_BadWeights___init, defScope s_BadWeights___init, [], []⟩
def q_is_whole : He.DefD := ⟨("is_whole", none), "is_whole", "is_whole", defArgs s_is_whole, defBody s_is_whole, defScope s_is_whole, [.non, .non], []⟩
def q_check_number : He.DefD := ⟨("check_number", none), "check_number", "check_number", defArgs s_check_number, defBody s_check_number, defScope s_check_number, [], []⟩
def q_check_letters : He.DefD := ⟨("check_letters", none), "check_letters", "check_letters", defArgs s_check_letters, defBody s_check_letters, defScope s_check_letters, [], []⟩
def q_check_weights : He.DefD := ⟨("check_weights", none), "check_weights", "check_weights", defArgs s_check_weights, defBody s_check_weights, defScope s_check_weights, [], []⟩
def q_steep_by : He.DefD := ⟨("steep_by", none), "steep_by", "steep_by", defArgs s_steep_by, defBody s_steep_by, defScope s_steep_by, [], []⟩
def q_are_steep : He.DefD := ⟨("_are_steep", none), "_are_steep", "_are_steep", defArgs s_are_steep, defBody s_are_steep, defScope s_are_steep, [], []⟩
def q_above_last : He.DefD := ⟨("_above_last", none), "_above_last", "_above_last", defArgs s_above_last, defBody s_above_last, defScope s_above_last, [], []⟩
def q_steep_modulus : He.DefD := ⟨("steep_modulus", none), "steep_modulus", "steep_modulus", defArgs s_steep_modulus, defBody s_steep_modulus, defScope s_steep_modulus, [], []⟩
def q_weights_for : He.DefD := ⟨("weights_for", none), "weights_for", "weights_for", defArgs s_weights_for, defBody s_weights_for, defScope s_weights_for, [], []⟩
def q_law_hand : He.DefD := ⟨("_law_hand", none), "_law_hand", "_law_hand", defArgs s_law_hand, defBody s_law_hand, defScope s_law_hand, [], []⟩
def q_law_mixed : He.DefD := ⟨("_law_mixed", none), "_law_mixed", "_law_mixed", defArgs s_law_mixed, defBody s_law_mixed, defScope s_law_mixed, [], []⟩
def q_law_take : He.DefD := ⟨("_law_take", none), "_law_take", "_law_take", defArgs s_law_take, defBody s_law_take, defScope s_law_take, [], []⟩
def q_law_power : He.DefD := ⟨("_law_power", none), "_law_power", "_law_power", defArgs s_law_power, defBody s_law_power, defScope s_law_power, [], []⟩
def q_law_steep : He.DefD := ⟨("_law_steep", none), "_law_steep", "_law_steep", defArgs s_law_steep, defBody s_law_steep, defScope s_law_steep, [], []⟩
def q_law_least_modulus : He.DefD := ⟨("_law_least_modulus", none), "_law_least_modulus", "_law_least_modulus", defArgs s_law_least_modulus, defBody s_law_least_modulus, defScope s_law_least_modulus, [], []⟩
def q_law_steep_weights : He.DefD := ⟨("_law_steep_weights", none), "_law_steep_weights", "_law_steep_weights", defArgs s_law_steep_weights, defBody s_law_steep_weights, defScope s_law_steep_weights, [], []⟩
def q_law_any_weights : He.DefD := ⟨("_law_any_weights", none), "_law_any_weights", "_law_any_weights", defArgs s_law_any_weights, defBody s_law_any_weights, defScope s_law_any_weights, [], []⟩
def q_law_odd : He.DefD := ⟨("_law_odd", none), "_law_odd", "_law_odd", defArgs s_law_odd, defBody s_law_odd, defScope s_law_odd, [], []⟩
def q_law_called : He.DefD := ⟨("_law_called", none), "_law_called", "_law_called", defArgs s_law_called, defBody s_law_called, defScope s_law_called, [], []⟩
def q_law_told_right : He.DefD := ⟨("_law_told_right", none), "_law_told_right", "_law_told_right", defArgs s_law_told_right, defBody s_law_told_right, defScope s_law_told_right, [], []⟩
def q_law_any_right : He.DefD := ⟨("_law_any_right", none), "_law_any_right", "_law_any_right", defArgs s_law_any_right, defBody s_law_any_right, defScope s_law_any_right, [], []⟩
def q_law_missed_right : He.DefD := ⟨("_law_missed_right", none), "_law_missed_right", "_law_missed_right", defArgs s_law_missed_right, defBody s_law_missed_right, defScope s_law_missed_right, [], []⟩
def q_law_wrong_weights : He.DefD := ⟨("_law_wrong_weights", none), "_law_wrong_weights", "_law_wrong_weights", defArgs s_law_wrong_weights, defBody s_law_wrong_weights, defScope s_law_wrong_weights, [], []⟩
def q_law_refused : He.DefD := ⟨("_law_refused", none), "_law_refused", "_law_refused", defArgs s_law_refused, defBody s_law_refused, defScope s_law_refused, [], []⟩
def q_law : He.DefD := ⟨("law", none), "law", "law", defArgs s_law, defBody s_law, defScope s_law, [], []⟩
def fn : List He.DefD := [q_BadWeights___init, q_is_whole, q_check_number, q_check_letters, q_check_weights, q_steep_by, q_are_steep, q_above_last, q_steep_modulus, q_weights_for, q_law_hand, q_law_mixed, q_law_take, q_law_power, q_law_steep, q_law_least_modulus, q_law_steep_weights, q_law_any_weights, q_law_odd, q_law_called, q_law_told_right, q_law_any_right, q_law_missed_right, q_law_wrong_weights, q_law_refused, q_law]
def fa : List He.Fa := [.free "isinstance", .free "bool", .free "int", .glo "is_whole", .glo "BadNumber", .exc "BadNumber", .glo "BadLetters", .exc "BadLetters", .free "len", .int "MOST_LETTERS" 24, .free "tuple", .free "list", .glo "BadWeights", .free "enumerate", .int "GREATEST_WEIGHT" 1000000000000000, .glo "check_letters", .glo "check_weights", .glo "_are_steep", .free "all", .glo "_above_last", .free "sum", .free "max", .glo "check_number", .free "range", .free "abs", .glo "_law_mixed", .glo "_law_take", .glo "_law_steep_weights", .glo "weights_for", .glo "steep_by", .glo "steep_modulus", .glo "PlaceError", .free "repr", .glo "_law_power", .glo "_law_steep", .free "min", .glo "_law_any_weights", .glo "_law_least_modulus", .glo "_law_odd", .glo "_law_wrong_weights", .glo "_law_called", .glo "_law_hand", .glo "_law_any_right", .glo "_law_told_right", .glo "_law_refused", .glo "_law_missed_right", .exm "BadLetters" "BadLetters" true, .exm "BadLetters" "BadNumber" false, .exm "BadLetters" "BadWeights" false, .exm "BadLetters" "PlaceError" true, .exm "BadNumber" "BadLetters" false, .exm "BadNumber" "BadNumber" true, .exm "BadNumber" "BadWeights" false, .exm "BadNumber" "PlaceError" true, .exm "BadWeights" "BadLetters" false, .exm "BadWeights" "BadNumber" false, .exm "BadWeights" "BadWeights" true, .exm "BadWeights" "PlaceError" true, .glo "law"]
def ex (K : PySem.W.Frag) : Bool := (fexB K "BadWeights" && (He.eqO (PySem.W.findIn K (.ref (He.ga K "BadWeights")) "index") (some none) && true))
theorem txt_of {K : PySem.W.Frag} {h : Heap} {mg : Str → Option Value} (X : K.In h) (G : h.Ns mainGlobals mg) (c : He.SaysD fa fn K) (E : ex K = true) : Txt K mg := by
  obtain ⟨E0, E⟩ := He.ba E
  obtain ⟨E1, E⟩ := He.ba E
  exact {
    x_BadWeights := fexB_ok E0,
    n_BadWeights_is_index := He.eqO_ok E1,
    z_isinstance := He.free_ok X G (c.fact 0 (f := .free "isinstance") rfl),
    z_bool := He.free_ok X G (c.fact 1 (f := .free "bool") rfl),
    z_int := He.free_ok X G (c.fact 2 (f := .free "int") rfl),
    g_is_whole := He.glo_ok X G (c.fact 3 (f := .glo "is_whole") rfl),
    g_BadNumber := He.glo_ok X G (c.fact 4 (f := .glo "BadNumber") rfl),
    e_BadNumber := own_of (c.fact 5 (f := .exc "BadNumber") rfl),
    g_BadLetters := He.glo_ok X G (c.fact 6 (f := .glo "BadLetters") rfl),
    e_BadLetters := own_of (c.fact 7 (f := .exc "BadLetters") rfl),
    z_len := He.free_ok X G (c.fact 8 (f := .free "len") rfl),
    c_MOST_LETTERS := He.int_ok X G (c.fact 9 (f := .int "MOST_LETTERS" 24) rfl),
    z_tuple := He.free_ok X G (c.fact 10 (f := .free "tuple") rfl),
    z_list := He.free_ok X G (c.fact 11 (f := .free "list") rfl),
    g_BadWeights := He.glo_ok X G (c.fact 12 (f := .glo "BadWeights") rfl),
    z_enumerate := He.free_ok X G (c.fact 13 (f := .free "enumerate") rfl),
    c_GREATEST_WEIGHT := He.int_ok X G (c.fact 14 (f := .int "GREATEST_WEIGHT" 1000000000000000) rfl),
    g_check_letters := He.glo_ok X G (c.fact 15 (f := .glo "check_letters") rfl),
    g_check_weights := He.glo_ok X G (c.fact 16 (f := .glo "check_weights") rfl),
    g__are_steep := He.glo_ok X G (c.fact 17 (f := .glo "_are_steep") rfl),
    z_all := He.free_ok X G (c.fact 18 (f := .free "all") rfl),
    g__above_last := He.glo_ok X G (c.fact 19 (f := .glo "_above_last") rfl),
    z_sum := He.free_ok X G (c.fact 20 (f := .free "sum") rfl),
    z_max := He.free_ok X G (c.fact 21 (f := .free "max") rfl),
    g_check_number := He.glo_ok X G (c.fact 22 (f := .glo "check_number") rfl),
    z_range := He.free_ok X G (c.fact 23 (f := .free "range") rfl),
    z_abs := He.free_ok X G (c.fact 24 (f := .free "abs") rfl),
    g__law_mixed := He.glo_ok X G (c.fact 25 (f := .glo "_law_mixed") rfl),
    g__law_take := He.glo_ok X G (c.fact 26 (f := .glo "_law_take") rfl),
    g__law_steep_weights := He.glo_ok X G (c.fact 27 (f := .glo "_law_steep_weights") rfl),
    g_weights_for := He.glo_ok X G (c.fact 28 (f := .glo "weights_for") rfl),
    g_steep_by := He.glo_ok X G (c.fact 29 (f := .glo "steep_by") rfl),
    g_steep_modulus := He.glo_ok X G (c.fact 30 (f := .glo "steep_modulus") rfl),
    g_PlaceError := He.glo_ok X G (c.fact 31 (f := .glo "PlaceError") rfl),
    z_repr := He.free_ok X G (c.fact 32 (f := .free "repr") rfl),
    g__law_power := He.glo_ok X G (c.fact 33 (f := .glo "_law_power") rfl),
    g__law_steep := He.glo_ok X G (c.fact 34 (f := .glo "_law_steep") rfl),
    z_min := He.free_ok X G (c.fact 35 (f := .free "min") rfl),
    g__law_any_weights := He.glo_ok X G (c.fact 36 (f := .glo "_law_any_weights") rfl),
    g__law_least_modulus := He.glo_ok X G (c.fact 37 (f := .glo "_law_least_modulus") rfl),
    g__law_odd := He.glo_ok X G (c.fact 38 (f := .glo "_law_odd") rfl),
    g__law_wrong_weights := He.glo_ok X G (c.fact 39 (f := .glo "_law_wrong_weights") rfl),
    g__law_called := He.glo_ok X G (c.fact 40 (f := .glo "_law_called") rfl),
    g__law_hand := He.glo_ok X G (c.fact 41 (f := .glo "_law_hand") rfl),
    g__law_any_right := He.glo_ok X G (c.fact 42 (f := .glo "_law_any_right") rfl),
    g__law_told_right := He.glo_ok X G (c.fact 43 (f := .glo "_law_told_right") rfl),
    g__law_refused := He.glo_ok X G (c.fact 44 (f := .glo "_law_refused") rfl),
    g__law_missed_right := He.glo_ok X G (c.fact 45 (f := .glo "_law_missed_right") rfl),
    m_BadLetters_is_BadLetters := He.exm_ok (c.fact 46 (f := .exm "BadLetters" "BadLetters" true) rfl),
    m_BadLetters_is_BadNumber := He.exm_ok (c.fact 47 (f := .exm "BadLetters" "BadNumber" false) rfl),
    m_BadLetters_is_BadWeights := He.exm_ok (c.fact 48 (f := .exm "BadLetters" "BadWeights" false) rfl),
    m_BadLetters_is_PlaceError := He.exm_ok (c.fact 49 (f := .exm "BadLetters" "PlaceError" true) rfl),
    m_BadNumber_is_BadLetters := He.exm_ok (c.fact 50 (f := .exm "BadNumber" "BadLetters" false) rfl),
    m_BadNumber_is_BadNumber := He.exm_ok (c.fact 51 (f := .exm "BadNumber" "BadNumber" true) rfl),
    m_BadNumber_is_BadWeights := He.exm_ok (c.fact 52 (f := .exm "BadNumber" "BadWeights" false) rfl),
    m_BadNumber_is_PlaceError := He.exm_ok (c.fact 53 (f := .exm "BadNumber" "PlaceError" true) rfl),
    m_BadWeights_is_BadLetters := He.exm_ok (c.fact 54 (f := .exm "BadWeights" "BadLetters" false) rfl),
    m_BadWeights_is_BadNumber := He.exm_ok (c.fact 55 (f := .exm "BadWeights" "BadNumber" false) rfl),
    m_BadWeights_is_BadWeights := He.exm_ok (c.fact 56 (f := .exm "BadWeights" "BadWeights" true) rfl),
    m_BadWeights_is_PlaceError := He.exm_ok (c.fact 57 (f := .exm "BadWeights" "PlaceError" true) rfl),
    F_BadWeights___init := c.def_ 0 (d := q_BadWeights___init) rfl,
    F_is_whole := c.def_ 1 (d := q_is_whole) rfl,
    F_check_number := c.def_ 2 (d := q_check_number) rfl,
    F_check_letters := c.def_ 3 (d := q_check_letters) rfl,
    F_check_weights := c.def_ 4 (d := q_check_weights) rfl,
    F_steep_by := c.def_ 5 (d := q_steep_by) rfl,
    F_are_steep := c.def_ 6 (d := q_are_steep) rfl,
    F_above_last := c.def_ 7 (d := q_above_last) rfl,
    F_steep_modulus := c.def_ 8 (d := q_steep_modulus) rfl,
    F_weights_for := c.def_ 9 (d := q_weights_for) rfl,
    F_law_hand := c.def_ 10 (d := q_law_hand) rfl,
    F_law_mixed := c.def_ 11 (d := q_law_mixed) rfl,
    F_law_take := c.def_ 12 (d := q_law_take) rfl,
    F_law_power := c.def_ 13 (d := q_law_power) rfl,
    F_law_steep := c.def_ 14 (d := q_law_steep) rfl,
    F_law_least_modulus := c.def_ 15 (d := q_law_least_modulus) rfl,
    F_law_steep_weights := c.def_ 16 (d := q_law_steep_weights) rfl,
    F_law_any_weights := c.def_ 17 (d := q_law_any_weights) rfl,
    F_law_odd := c.def_ 18 (d := q_law_odd) rfl,
    F_law_called := c.def_ 19 (d := q_law_called) rfl,
    F_law_told_right := c.def_ 20 (d := q_law_told_right) rfl,
    F_law_any_right := c.def_ 21 (d := q_law_any_right) rfl,
    F_law_missed_right := c.def_ 22 (d := q_law_missed_right) rfl,
    F_law_wrong_weights := c.def_ 23 (d := q_law_wrong_weights) rfl,
    F_law_refused := c.def_ 24 (d := q_law_refused) rfl,
    F_law := c.def_ 25 (d := q_law) rfl }
def loose0 : List Str := ["PlaceError", "BadLetters", "BadNumber", "BadWeights", "MOST_LETTERS", "is_whole", "check_number", "check_letters", "GREATEST_WEIGHT", "check_weights", "steep_by", "_are_steep", "_above_last", "steep_modulus", "weights_for", "_law_hand", "_law_mixed", "_law_take", "_law_power", "_law_steep", "_law_least_modulus", "_law_steep_weights", "_law_any_weights", "_law_odd", "_law_called", "_law_told_right", "_law_any_right", "_law_missed_right", "_law_wrong_weights", "_law_refused"]
def loose : List Str := loose0
abbrev R : PySem.W.OpenRow := PySem.W.OpenLaw.row PySem.Challenge.rw_lostplaces_k19_whole_told_and_steep_weig
def at0 : List Nat := [3, 6, 4, 24, 37, 49, 68, 78, 85, 92, 99, 106, 111, 118, 125, 132, 139, 146, 153, 160, 167, 174, 181, 186, 193, 200, 205, 212, 219, 224, 229, 236, 0, 23, 36, 48, 67, 77, 71, 84, 91, 98, 105, 110, 117, 124, 131, 138, 145, 152, 159, 166, 173, 180, 185, 192, 199, 204, 211, 218, 223, 228, 235, 22, 25, 35, 47, 65, 66, 72, 73, 74, 75, 76, 79, 80, 81, 82, 83, 86, 87, 88, 89, 90, 93, 94, 95, 96, 97, 100, 101, 102, 103, 104, 107, 108, 109, 112, 113, 114, 115, 116, 119, 120, 121, 122, 123, 126, 127, 128, 129, 130, 133, 134, 135, 136, 137, 140, 141, 142, 143, 144, 147, 148, 149, 150, 151, 154, 155, 156, 157, 158, 161, 162, 163, 164, 165, 168, 169, 170, 171, 172, 175, 176, 177, 178, 179, 182, 183, 184, 187, 188, 189, 190, 191, 194, 195, 196, 197, 198, 201, 202, 203, 206, 207, 208, 209, 210, 213, 214, 215, 216, 217, 220, 221, 222, 225, 226, 227, 230, 231, 232, 233, 234, 64, 59, 60, 61, 62, 63, 2]
def obsL (n : List Nat) (fa : List He.Fa) (fn : List He.DefD) (ex : PySem.W.Frag → Bool) (g : Addr → Option Obj) : He.AlD × Bool := (He.obsD fa fn (He.frG g n), ex (He.frG g n))
def hookL (n : List Nat) (fa : List He.Fa) (fn : List He.DefD) (ex : PySem.W.Frag → Bool) : PySem.W.Hook where
  α := He.AlD × Bool
  obs := fun s => obsL n fa fn ex s.heap.get?
  val := fun _ => (He.valD fn, true)
  says := fun _ h => ∃ K : PySem.W.Frag, K.In h ∧ He.SaysD fa fn K ∧ ex K = true
  of := fun _ _ e => ⟨_, He.frG_in, congrArg (fun z : He.AlD × Bool => z.1) e, congrArg (fun z : He.AlD × Bool => z.2) e⟩
  keeps := fun _ _ _ ⟨K, hK, c⟩ k => ⟨K, PySem.W.Frag.In.keeps hK k, c⟩
theorem obsL_eq {n : List Nat} {fa : List He.Fa} {fn : List He.DefD} {ex : PySem.W.Frag → Bool} {g : Addr → Option Obj} {s : Shared} (h : ∀ a, g a = s.heap.get? a) : obsL n fa fn ex g = (hookL n fa fn ex).obs s := by
  have e : g = s.heap.get? := funext h
  rw [e] <;> rfl
abbrev hk : PySem.W.Hook := hookL at0 fa fn ex
def ob (s : PySem.W.SharedT) : He.AlD × Bool := obsL at0 fa fn ex (HandSHeadRun.getT s)
theorem ob_eq (s : PySem.W.SharedT) : ob s = hk.obs s.abs := obsL_eq (HandSHeadRun.getT_eq s)
theorem opt_six {α β γ δ : Type} {o : Option α} {a : α → β} {b : α → γ} {c d f : α → Bool} {e : α → δ} {ta : β} {tb : γ} {te : δ} (h1 : o.map a = some ta) (h2 : o.map b = some tb) (h3 : o.map c = some true) (h4 : o.map d = some true) (h5 : o.map e = some te) (h6 : o.map f = some true) :
    o.map (fun x => (a x, b x, ((c x && d x, e x), f x))) = some (ta, tb, ((true, te), true)) := by
  cases o with
  | none => cases h1
  | some x =>
    injection h1 with h1
    injection h2 with h2
    injection h3 with h3
    injection h4 with h4
    injection h5 with h5
    injection h6 with h6
    show some (a x, b x, ((c x && d x, e x), f x)) = _
    rw [h1, h2, h3, h4, h5, h6] <;> rfl
open PySem.W PySem.Calls HandSHeadRun in
theorem run1 (w : World) (os : OsState) : (endF (stepQ (denQ tabQ) R.prog w) 20000 R.prog w os).map (fun x => looksF R.prog (boot_heap w.params) x.abs) = some true := by kernel_rfl
open PySem.W PySem.Calls HandSHeadRun in
theorem run2 (w : World) (os : OsState) : (endF (stepQ (denQ tabQ) R.prog w) 20000 R.prog w os).map (fun x => seenQ (PySem.W.view R.prog [34]) loose (importedModules R.prog.main.body) (fun s => xlAt (PySem.W.view R.prog [34]) [] s && recOk R.toRowW.records s) x.abs) = some (openGood (PySem.W.view R.prog [34]) loose) := by kernel_rfl
open PySem.W PySem.Calls HandSHeadRun in
theorem run3 (w : World) (os : OsState) : (endF (stepQ (denQ tabQ) R.prog w) 20000 R.prog w os).map (fun x => fa.all fun f => f.ok (He.frG (getT x) at0)) = some true := by kernel_rfl
open PySem.W PySem.Calls HandSHeadRun in
theorem run4 (w : World) (os : OsState) : (endF (stepQ (denQ tabQ) R.prog w) 20000 R.prog w os).map (fun x => fn.all fun d => d.ok (He.frG (getT x) at0)) = some true := by kernel_rfl
open PySem.W PySem.Calls HandSHeadRun in
theorem run5 (w : World) (os : OsState) : (endF (stepQ (denQ tabQ) R.prog w) 20000 R.prog w os).map (fun x => fn.map fun d => He.fnW (He.frG (getT x) at0) d.at_) = some (fn.map He.DefD.val) := by kernel_rfl
open PySem.W PySem.Calls HandSHeadRun in
theorem run6 (w : World) (os : OsState) : (endF (stepQ (denQ tabQ) R.prog w) 20000 R.prog w os).map (fun x => ex (He.frG (getT x) at0)) = some true := by kernel_rfl
open PySem.W PySem.Calls HandSHeadRun in
theorem run (w : World) : RunEq R (PySem.W.view R.prog [34]) hk ob 20000 loose w := by
  intro os
  exact opt_six (run1 w os) (run2 w os) (run3 w os) (run4 w os) (run5 w os) (run6 w os)
end Mine
namespace Mine
open PySem PySem.W PySem.Calls PyProof.Rows HandSHeadRun
abbrev rr := OpenLaw.row PySem.Challenge.rw_lostplaces_k19_whole_told_and_steep_weig
abbrev qq := view (OpenLaw.row PySem.Challenge.rw_lostplaces_k19_whole_told_and_steep_weig).prog [34]
abbrev dd := HandSHeadRun.topDef rr.prog 34
theorem h_e : opening rr.prog = plainProg rr.prog.main.scope.names := by kernel_rfl
theorem h_f : ∀ s, fenceModules? rr.prog s = some s := fun s => by kernel_rfl
theorem h_def : defOf qq rr.name = some (dd, []) := by kernel_rfl
theorem h_p : rr.prog.theDef rr.name = some (dd.params, dd.body, dd.scope) := by kernel_rfl
theorem h_k : kwWritten? dd.params.kwonlyargs dd.params.kw_defaults = some [] := by kernel_rfl
theorem h_wr : (!rr.writes || rr.records.isEmpty) = true := by rfl
theorem h_ws : rr.wellSaid = true := by first | assumption | decide +kernel
theorem h_ok : (chainsOk qq && opensWell rr.prog && (frees rr.toRowW && rr.within.isEmpty)) = true := by decide +kernel
theorem h_b : rr.prog.bare := ⟨rfl, rfl, rfl, rfl, rfl, by decide +kernel⟩
end Mine

namespace Mine
open PySem PySem.Spec PyProof.Rows L2
local macro_rules | `(tactic| walk_at "wp") => `(tactic| try simp -implicitDefEqProofs only [eFld_W, eFldS_W, sSetF_W, eMeth_W, eMeth0_W, eProp_W, mkI_W, mkI0_W, eVarD_W, eDic_W, eGet1_W, eGet2_W, eAtD_W, eInD_W, eNotInD_W, sOwnD_W, sPutD_W, Bool.false_eq_true, LINE_W, line0, line1, line2, line3, line4, line5, line6, line7, line8, line9, line10, line11, line12, take_W, Int.reduceLT, Int.reduceLE, Int.reduceNeg, mkD_W, mkD0_W, sSeq_W, sAsg_W, sRet_W, sRetN_W, sIf_W, sNext_W, sDrop_W, sBreak_W, sCont_W, sOwn_W, sPar_W, sPar3_W, sFrz_W, frz_W, fz_lst, fz_dk, fz_dt, sApp_W, sExt_W, sPop_W, sPopTo_W, sPut_W, sAugP_W, sAug_W, sFor_W, sRaise_W, sRaise1_W, gD_W, gD2_W, gD3_W, eVar_W, eVarB_W, eC_W, eOp_W, eUn_W, eCB_W, eNil_W, eCons_W, eConsS_W, eConsH_W, eTup_W, eLst_W, eCall_W, eCall0_W, eTest_W, eNotT_W, eAndT_W, eOrT_W, eTru_W, dTru_non, dTru_bl, dTru_int, dTru_lst, dTru_tup, dTru_str, dTru_dk, eBool_W, eAndV_W, eOrV_W, eNotV_W, eNotVT_W, eIf_W, eChain_W, eLc_W, eLc2_W, eYes_W, eSeq_W, eRng1_W, eRng2_W, eEnum_W, eZip_W, eSl_W, ePart_W, eNoPart_W, eRev_W, eRevL_W, eDk0_W, dAdd_int, dAdd_lst, dAdd_tup, dAdd_str, dAddL_lst, dSub_int, dMul_int, dMul_lst, dMulL_lst, dMul_tup, dFdiv_int, dMod_int, dPow_int, dShl_int, dShr_int, dLe_int, dLt_int, dGt_int, dGe_int, dNeg_int, isa_seq2, isLs_lst, isLs_tup, Bool.or_false, Bool.or_true, Bool.true_or, Bool.false_or, Bool.and_true, Bool.true_and, Bool.and_false, Bool.false_and, isSeq_lst, isSeq_tup, isTp_tup, isTp_lst, isTp_non, isTp_int, isTp_str, isW_int, dIsN_W, dNotN_W, isN_non, isN_int, isN_bl, isN_str, isN_tup, isN_lst, isN_dk, isN_dt, isN_ins, dIx_W, dSl_W, dSlL_W, dLen_W, dInt_W, dStr_W, dAbs_W, dMax2_W, dMin2_W, dTupOf_W, dLstOf_W, dIsi_W, dIsi2_W, kn_int, kn_bl, kn_non, kn_str, kn_tup, kn_lst, kn_dk, kn_dt, isa_int_int, isa_int_bool, isa_tup_tup, isa_bl_bool, isa_seq_tup, isa_seq_lst, isa_int, isa_bool, isa_seq, isa_tup, isa_str, isa_lst, dEq_int, dNe_int, Dt.flat, wipeS, List.getElem?_cons_zero, List.getElem?_cons_succ, List.set_cons_zero, List.set_cons_succ, List.replicate, List.append_nil, List.cons_append, List.nil_append, List.length_cons, List.length_nil, Nat.reduceAdd, Nat.reduceSub, Nat.zero_add, Option.isSome_some, Bool.true_eq_false, Bool.false_eq_true, if_true, if_false, ite_true, ite_false, eq_self, not_true_eq_false, not_false_eq_true, true_and, and_true, decide_eq_true_eq, Bool.not_true, Bool.not_false, Bool.not_eq_true', decide_eq_false_iff_not, decide_true, decide_false, List.length_map, List.map_cons, List.map_nil, Option.some.injEq, reduceCtorEq, Bool.not_eq_eq_eq_not, eEnumK_W, eDk1_W, eXf_W, eIsX_W, sTry_W, sKeep_W, eZipS_W, eZipT_W, eRgL_W, mkG_W, gPlain_W, gSeq_W, gNext_W, gIf_W, gYield_W, gFor_W, sRowPut_W, eCnt_W, eSortedSetI_W, eSortedSetG_W, eSortScG_W, eMinDf_W, eMaxDf_W, eBits_W, eLenSetG_W, dShlW_int, gD3L_W, dIsB_bl, dNotB_bl, eFmtB_W, eTm_W, eSortScG2_W, eCallK0_W, eCallK_W, sRetOwn_W, sRetO_W, sOut_W, sTab_W, eTab_W, sTabPut_W, sTabApp_W, sFrzT_W, eInRg_W, dRepr_W, sIfK_W, sAppK_W])

section
theorem is_whole_ok {x : Dt} {lo hi : Int} {Q : Dt → Prop} {E : Xc → Prop} (hk : x.kind.isSome = true) (q : Q (.bl (inB lo hi x))) : F_is_whole [.d x, .d (.int lo), .d (.int hi)] Q E := by
  rw [F_is_whole_eq]; unfold S_is_whole
  cases x with
  | int i =>
    walk_at "wp"
    by_cases a : lo ≤ i <;> simpa [inB, a, isW] using q
  | raw v => cases hk
  | ins c ns vs => cases hk
  | _ => walk_at "wp"; simpa [isW, inB] using q
end

section
theorem check_number_ok {x : Dt} {lo hi : Int} {Q : Dt → Prop} {E : Xc → Prop} (hk : x.kind.isSome = true) (q : inB lo hi x = true → Q x) (h1 : inB lo hi x = false → E ⟨"BadNumber", []⟩) : F_check_number [.d x, .d (.int lo), .d (.int hi)] Q E := by
  rw [F_check_number_eq]; unfold S_check_number
  walk_at "wp"
  refine is_whole_ok hk ?_
  walk_at "wp"
  cases h : inB lo hi x with
  | true => simpa using q h
  | false => simpa using h1 h
theorem inB_int {lo hi i : Int} (a : lo ≤ i) (b : i ≤ hi) : inB lo hi (.int i) = true := by
  unfold inB; simp [a, b, isW]
theorem num_in {lo hi : Int} {i : Int} {Q : Dt → Prop} {E : Xc → Prop} (a : lo ≤ i) (b : i ≤ hi) (q : Q (.int i)) : F_check_number [.d (.int i), .d (.int lo), .d (.int hi)] Q E :=
  check_number_ok rfl (fun _ => q) fun h => by rw [inB_int a b] at h; cases h
theorem check_letters_ok {x : Dt} {Q : Dt → Prop} {E : Xc → Prop} (hk : x.kind.isSome = true) (q : inB 2 4 x = true → Q x) (h1 : inB 2 4 x = false → E ⟨"BadLetters", []⟩) : F_check_letters [.d x] Q E := by
  rw [F_check_letters_eq]; unfold S_check_letters
  walk_at "wp"
  refine is_whole_ok hk ?_
  walk_at "wp"
  cases h : inB 2 4 x with
  | true => simpa using q h
  | false => simpa using h1 h
end

section
theorem ints_of_dts {P : Int → Prop} : ∀ {ys : List Dt}, (∀ y ∈ ys, ∃ i : Int, y = .int i ∧ P i) → ∃ w : List Int, ys = w.map .int ∧ ∀ x ∈ w, P x
  | [], _ => ⟨[], rfl, by simp⟩
  | y :: ys, h => by
    obtain ⟨i, e, p⟩ := h y List.mem_cons_self
    obtain ⟨w, e2, p2⟩ := ints_of_dts fun z hz => h z (List.mem_cons_of_mem _ hz)
    exact ⟨i :: w, by rw [e, e2]; rfl, fun x hx => by
      rcases List.mem_cons.mp hx with r | r
      · rw [r]; exact p
      · exact p2 x r⟩
end

section
end

section
/-! ### texts of data -/
theorem strOk_app (x y : Str) : PyData.strOk (x ++ y) = (PyData.strOk x && PyData.strOk y) := by
  show Array.all (x.cps ++ y.cps) _ = _
  rw [Array.all_append]; rfl
theorem strOk_of (s : String) : PyData.strOk (Str.ofString s) = true := by
  rw [Str.ofString_eq_toList]
  show Array.all (s.toList.map Char.toNat).toArray _ = true
  rw [List.all_toArray, List.all_eq_true]
  intro n hn
  obtain ⟨c, _, rfl⟩ := List.mem_map.mp hn
  refine decide_eq_true ?_
  rcases c.valid with h | h
  · have h : c.val.toNat < 0xD800 := h
    show c.val.toNat < _
    omega
  · exact h.2
theorem textFrom_ok : ∀ (ts : List Str) (k : Nat) (acc : Str), PyData.strOk acc = true → (∀ t ∈ ts, PyData.strOk t = true) → PyData.strOk (textFrom k acc ts) = true
  | [], k, acc, h, _ => h
  | t :: ts, k, acc, h, hs => by
    refine textFrom_ok ts (k + 1) _ ?_ fun u hu => hs u (List.mem_cons_of_mem _ hu)
    rw [strOk_app, strOk_app, h, hs t List.mem_cons_self, strOk_of]; rfl
theorem join_ok : ∀ ts : List Str, (∀ t ∈ ts, PyData.strOk t = true) → PyData.strOk (Str.join ", " ts) = true
  | [], _ => by show PyData.strOk Str.empty = true; unfold PyData.strOk Str.empty; simp
  | [x], h => h x List.mem_cons_self
  | x :: y :: r, h => by
    show PyData.strOk (x ++ ", " ++ Str.join ", " (y :: r)) = true
    rw [strOk_app, strOk_app, h x List.mem_cons_self, join_ok (y :: r) fun t ht => h t (List.mem_cons_of_mem _ ht), strOk_of]; rfl
theorem textFrom_size : ∀ (ts : List Str) (k : Nat) (acc : Str) (n : Nat), (∀ t ∈ ts, t.length ≤ n) → (textFrom k acc ts).length ≤ acc.length + ts.length * (n + 2)
  | [], k, acc, n, _ => by show acc.length ≤ _; omega
  | t :: ts, k, acc, n, h => by
    have r := textFrom_size ts (k + 1) (acc ++ (if k > 0 then ", " else "" : String) ++ t) n fun u hu => h u (List.mem_cons_of_mem _ hu)
    have ht := h t List.mem_cons_self
    have e : (acc ++ (if k > 0 then ", " else "" : String) ++ t).length ≤ acc.length + 2 + t.length := by
      rw [strLen_append, strLen_append]
      have : (Str.ofString (if k > 0 then ", " else "" : String)).length ≤ 2 := by split <;> decide
      omega
    show (textFrom (k + 1) _ ts).length ≤ _
    rw [List.length_cons, Nat.succ_mul]
    omega
theorem join_size : ∀ (ts : List Str) (n : Nat), (∀ t ∈ ts, t.length ≤ n) → (Str.join ", " ts).length ≤ ts.length * (n + 2)
  | [], n, _ => by show 0 ≤ _; omega
  | [x], n, h => by
    have := h x List.mem_cons_self
    show x.length ≤ 1 * (n + 2); omega
  | x :: y :: r, n, h => by
    have i := join_size (y :: r) n fun t ht => h t (List.mem_cons_of_mem _ ht)
    have hx := h x List.mem_cons_self
    have e2 : (Str.ofString ", ").length = 2 := by decide
    show (x ++ ", " ++ Str.join ", " (y :: r)).length ≤ _
    rw [strLen_append, strLen_append, e2, List.length_cons, Nat.succ_mul]
    omega
/-- shows in at most n signs, m deep -/
def Sho (n m : Nat) (a : Dt) : Prop := ∃ p, a.py = some p ∧ p.showable = true ∧ p.hasDict = false ∧ p.depth ≤ m ∧ p.shown.length ≤ n ∧ PyData.strOk p.shown = true
theorem Sho.shw {n m : Nat} {a : Dt} (h : Sho n m a) (hn : n ≤ 16777216) (hm : m ≤ 60) : Shw a := by
  obtain ⟨p, e, h1, h2, h3, h4, _⟩ := h
  exact ⟨p, e, h1, h2, by omega, by rw [sizeLine_eq]; exact Nat.le_trans h4 hn⟩
theorem Sho.ok {n m : Nat} {a : Dt} (h : Sho n m a) : PyData.strOk (shownD a) = true := by
  obtain ⟨p, e, _, _, _, _, h5⟩ := h
  unfold shownD
  rw [e]; exact h5
theorem Sho.mono {n m n' m' : Nat} {a : Dt} (h : Sho n m a) (hn : n ≤ n') (hm : m ≤ m') : Sho n' m' a := by
  obtain ⟨p, e, h1, h2, h3, h4, h5⟩ := h
  exact ⟨p, e, h1, h2, Nat.le_trans h3 hm, Nat.le_trans h4 hn, h5⟩
theorem sho_int {i : Int} (h : i.natAbs < 2 ^ 1920) : Sho 1921 0 (.int i) := by
  have g : i.natAbs.log2 < 1920 := by
    rcases Nat.eq_zero_or_pos i.natAbs with e | e
    · rw [e]; decide
    · exact (Nat.log2_lt (by omega)).mpr h
  have l : (Str.ofString (toString i)).length = (toString i).length := by
    rw [Str.ofString_eq_toList]
    show (List.map Char.toNat (toString i).toList).toArray.size = _
    rw [List.size_toArray, List.length_map, String.length_toList]
  exact ⟨.int i, by rw [Dt.py], by rw [PyData.showable]; exact decide_eq_true g, by rw [PyData.hasDict], by rw [PyData.depth]; exact Nat.le_refl _, by
    rw [PyData.shown, l]
    exact int_text_length_le (k := 1920) (by decide) g, by rw [PyData.shown]; exact strOk_of _⟩
theorem sho_all {n m : Nat} : ∀ {xs : List Dt}, (∀ x ∈ xs, Sho n m x) → ∃ ps, Dt.pys xs = some ps ∧ ps.length = xs.length ∧ PyData.showableAll ps = true ∧ PyData.hasDictAll ps = false ∧ PyData.depthAll ps ≤ m ∧ (∀ t ∈ PyData.shownAll ps, t.length ≤ n ∧ PyData.strOk t = true) ∧ (PyData.shownAll ps).length = ps.length
  | [], _ => ⟨[], by rw [Dt.pys], rfl, by rw [PyData.showableAll], by rw [PyData.hasDictAll], by rw [PyData.depthAll]; exact Nat.zero_le _, fun t ht => (by rw [PyData.shownAll] at ht; exact absurd ht List.not_mem_nil), by rw [PyData.shownAll]; rfl⟩
  | x :: xs, h => by
    obtain ⟨p, e, h1, h2, h3, h4, h5⟩ := h x List.mem_cons_self
    obtain ⟨ps, f, g0, g1, g2, g3, g4, g5⟩ := sho_all fun y hy => h y (List.mem_cons_of_mem _ hy)
    refine ⟨p :: ps, by rw [Dt.pys, e, f], by rw [List.length_cons, g0]; rfl, by rw [PyData.showableAll, h1, g1]; rfl, by rw [PyData.hasDictAll, h2, g2]; rfl, by rw [PyData.depthAll]; omega, fun t ht => ?_, by rw [PyData.shownAll, List.length_cons, g5]; rfl⟩
    rw [PyData.shownAll] at ht
    rcases List.mem_cons.mp ht with rfl | ht
    · exact ⟨h4, h5⟩
    · exact g4 t ht
theorem sho_lst {n m : Nat} {xs : List Dt} (h : ∀ x ∈ xs, Sho n m x) : Sho (xs.length * (n + 2) + 4) (m + 1) (.lst xs) := by
  obtain ⟨ps, f, g0, g1, g2, g3, g4, g5⟩ := sho_all h
  refine ⟨.list ps, by rw [Dt.py, f]; rfl, by rw [PyData.showable]; exact g1, by rw [PyData.hasDict]; exact g2, by rw [PyData.depth]; omega, ?_, ?_⟩
  · rw [PyData.shown, listText, strLen_append]
    have := textFrom_size (PyData.shownAll ps) 0 "[" n fun t ht => (g4 t ht).1
    rw [g5, g0] at this
    have e1 : (Str.ofString "[").length = 1 := by decide
    have e2 : (Str.ofString "]").length = 1 := by decide
    omega
  · rw [PyData.shown, listText, strOk_app, textFrom_ok _ _ _ (strOk_of _) fun t ht => (g4 t ht).2, strOk_of]; rfl
theorem sho_tup {n m : Nat} {xs : List Dt} (h : ∀ x ∈ xs, Sho n m x) : Sho (xs.length * (n + 2) + 4) (m + 1) (.tup xs) := by
  obtain ⟨ps, f, g0, g1, g2, g3, g4, g5⟩ := sho_all h
  refine ⟨.tuple ps, by rw [Dt.py, f]; rfl, by rw [PyData.showable]; exact g1, by rw [PyData.hasDict]; exact g2, by rw [PyData.depth]; omega, ?_, ?_⟩
  · rw [PyData.shown, tupleText, strLen_append, strLen_append]
    have := join_size (PyData.shownAll ps) n fun t ht => (g4 t ht).1
    rw [g5, g0] at this
    have e1 : (Str.ofString "(").length = 1 := by decide
    have e2 : (Str.ofString (if ((PyData.shownAll ps).length == 1) = true then ",)" else ")")).length ≤ 2 := by split <;> decide
    omega
  · rw [PyData.shown, tupleText, strOk_app, strOk_app, join_ok _ fun t ht => (g4 t ht).2, strOk_of, strOk_of]; rfl
theorem sho_iL {w : List Int} (h : ∀ x ∈ w, x.natAbs < 2 ^ 1920) : Sho (w.length * 1923 + 4) 1 (iL w) := by
  have := sho_lst (n := 1921) (m := 0) (xs := w.map Dt.int) fun x hx => by obtain ⟨i, hi, rfl⟩ := List.mem_map.mp hx; exact sho_int (h i hi)
  rw [List.length_map] at this
  exact this
theorem sho_iT {w : List Int} (h : ∀ x ∈ w, x.natAbs < 2 ^ 1920) : Sho (w.length * 1923 + 4) 1 (iT w) := by
  have := sho_tup (n := 1921) (m := 0) (xs := w.map Dt.int) fun x hx => by obtain ⟨i, hi, rfl⟩ := List.mem_map.mp hx; exact sho_int (h i hi)
  rw [List.length_map] at this
  exact this
theorem shw_ne {n m : Nat} {a : Dt} {Q : Dt → Prop} (h : Sho n m a) (q : Q (.bl false)) : dNe (.str (shownD a)) (.str (shownD a)) Q := dNe_self (shN_str h.ok).sh q
theorem shw_eq {n m : Nat} {a : Dt} {Q : Dt → Prop} (h : Sho n m a) (q : Q (.bl true)) : dEq (.str (shownD a)) (.str (shownD a)) Q := dEq_self (shN_str h.ok).sh q
end

section
/-! ### weights -/
def Wts (ws : List Int) : Prop := ∀ x ∈ ws, 1 ≤ x ∧ x ≤ 1000000000000000
def lst (ws : List Int) (s : Nat) : Int := (ws.drop (ws.length - s)).sum
def abv (q : Int) (ws : List Int) (s : Nat) : Int := 1 + (q - 1) * lst ws s
theorem sum_pos : ∀ {ws : List Int}, (∀ x ∈ ws, 1 ≤ x) → 0 ≤ ws.sum
  | [], _ => by simp
  | x :: ws, h => by
    have := h x List.mem_cons_self
    have := sum_pos fun y hy => h y (List.mem_cons_of_mem _ hy)
    rw [List.sum_cons]; omega
theorem drop_pos {ws : List Int} (h : ∀ x ∈ ws, 1 ≤ x) (k : Nat) : ∀ x ∈ ws.drop k, 1 ≤ x := fun x hx => h x (List.mem_of_mem_drop hx)
theorem take_pos {ws : List Int} (h : ∀ x ∈ ws, 1 ≤ x) (k : Nat) : ∀ x ∈ ws.take k, 1 ≤ x := fun x hx => h x (List.mem_of_mem_take hx)
theorem drop_le {ws : List Int} (h : ∀ x ∈ ws, 1 ≤ x) : ∀ {a b : Nat}, a ≤ b → (ws.drop b).sum ≤ (ws.drop a).sum := by
  intro a b hab
  have e : ws.drop a = (ws.drop a).take (b - a) ++ ws.drop b := by
    have := List.take_append_drop (b - a) (ws.drop a)
    rw [List.drop_drop, show a + (b - a) = b by omega] at this
    exact this.symm
  rw [e, List.sum_append]
  have := sum_pos (take_pos (drop_pos h a) (b - a))
  omega
theorem lst_mono {ws : List Int} (h : ∀ x ∈ ws, 1 ≤ x) {a b : Nat} (hab : a ≤ b) : lst ws a ≤ lst ws b := drop_le h (by omega)
theorem lst_pos {ws : List Int} (h : ∀ x ∈ ws, 1 ≤ x) (s : Nat) : 0 ≤ lst ws s := sum_pos (drop_pos h _)
theorem lst_le {ws : List Int} (h : ∀ x ∈ ws, 1 ≤ x) (s : Nat) : lst ws s ≤ ws.sum := by
  have := drop_le h (Nat.zero_le (ws.length - s))
  rwa [List.drop_zero] at this
theorem abv_mono {q : Int} {ws : List Int} (hq : 2 ≤ q) (h : ∀ x ∈ ws, 1 ≤ x) {a b : Nat} (hab : a ≤ b) : abv q ws a ≤ abv q ws b := by
  have := Int.mul_le_mul_of_nonneg_left (lst_mono h hab) (show 0 ≤ q - 1 by omega)
  unfold abv; omega
theorem abv_pos {q : Int} {ws : List Int} (hq : 2 ≤ q) (h : ∀ x ∈ ws, 1 ≤ x) (s : Nat) : 1 ≤ abv q ws s := by
  have := Int.mul_nonneg (show 0 ≤ q - 1 by omega) (lst_pos h s)
  unfold abv; omega
theorem abv_le {q : Int} {ws : List Int} (hq : 2 ≤ q) (h4 : q ≤ 4) (h : ∀ x ∈ ws, 1 ≤ x) (s : Nat) : abv q ws s ≤ 1 + 3 * ws.sum := by
  have a := lst_le h s
  have b := sum_pos h
  have c := Int.mul_le_mul_of_nonneg_left a (show 0 ≤ q - 1 by omega)
  have d := Int.mul_le_mul_of_nonneg_right (show q - 1 ≤ 3 by omega) b
  unfold abv; omega
theorem Wts.pos {ws : List Int} (h : Wts ws) : ∀ x ∈ ws, 1 ≤ x := fun x hx => (h x hx).1
/-- steep by s -/
def stp (q : Int) (ws : List Int) (s : Nat) : Bool := (List.range ws.length).all fun k => decide (abv q (ws.take k) s ≤ (ws[k]?).getD 0)
theorem stp_iff {q : Int} {ws : List Int} {s : Nat} : stp q ws s = true ↔ ∀ (k : Nat) (x : Int), ws[k]? = some x → abv q (ws.take k) s ≤ x := by
  unfold stp
  rw [List.all_eq_true]
  constructor
  · intro h k x hx
    have := h k (List.mem_range.mpr (List.getElem?_eq_some_iff.mp hx).1)
    rw [hx] at this
    exact of_decide_eq_true this
  · intro h k hk
    have g := List.getElem?_eq_getElem (List.mem_range.mp hk)
    rw [g]
    exact decide_eq_true (h k _ g)
/-- the number by which the weights are steep -/
def SbI (q : Int) (ws : List Int) (m : Nat) : Prop := m ≤ ws.length ∧ (∀ j, 1 ≤ j → j ≤ m → stp q ws j = true) ∧ (m = ws.length ∨ stp q ws (m + 1) = false)
theorem SbI.uniq {q : Int} {ws : List Int} {m m' : Nat} (h : SbI q ws m) (g : SbI q ws m') : m = m' := by
  rcases Nat.lt_trichotomy m m' with c | c | c
  · rcases h.2.2 with e | e
    · have := g.1; omega
    · rw [g.2.1 (m + 1) (by omega) (by omega)] at e; cases e
  · exact c
  · rcases g.2.2 with e | e
    · have := h.1; omega
    · rw [h.2.1 (m' + 1) (by omega) (by omega)] at e; cases e
/-- steep by all numbers to s: then at least by min(s, n) -/
theorem SbI.least {q : Int} {ws : List Int} {m s : Nat} (h : SbI q ws m) (g : ∀ j, 1 ≤ j → j ≤ s → stp q ws j = true) : min s ws.length ≤ m := by
  rcases h.2.2 with e | e
  · omega
  · rcases Nat.lt_or_ge m s with c | c
    · rw [g (m + 1) (by omega) (by omega)] at e; cases e
    · omega
/-- each weight as great as what s weights ahead of it can count: steep by all to s -/
theorem stp_of {q : Int} {ws : List Int} {s : Nat} (hq : 2 ≤ q) (hp : ∀ x ∈ ws, 1 ≤ x) (h : ∀ (k : Nat) (x : Int), ws[k]? = some x → abv q (ws.take k) s ≤ x) : ∀ j, 1 ≤ j → j ≤ s → stp q ws j = true := fun j _ hj =>
  stp_iff.mpr fun k x hx => Int.le_trans (abv_mono hq (take_pos hp k) hj) (h k x hx)
/-! ### the program's functions -/
theorem cutG_mid {α : Type} {xs : List α} {z y : Int} {a b : Nat} (ha : z = a) (hb : y = b) : cutG xs (some z) (some y) = (xs.take b).drop a := by
  subst ha hb
  unfold cutG
  rw [HT.sIx_nat, HT.sIx_nat, List.drop_take]
  rcases Nat.le_total a xs.length with h | h
  · rw [Nat.min_eq_left h]
    rcases Nat.le_total b xs.length with h2 | h2
    · rw [Nat.min_eq_left h2]
    · rw [Nat.min_eq_right h2, List.take_of_length_le (by rw [List.length_drop]; omega), List.take_of_length_le (by rw [List.length_drop]; omega)]
  · rw [Nat.min_eq_right h, List.drop_of_length_le (Nat.le_refl _), List.drop_of_length_le h, List.take_nil, List.take_nil]
theorem dSum_int {L : List Int} {Q : Dt → Prop} (k : Q (.int L.sum)) : dSum [iL L] Q := by
  unfold dSum
  exact ⟨L, rfl, k⟩
theorem dSum_tup {L : List Int} {Q : Dt → Prop} (k : Q (.int L.sum)) : dSum [iT L] Q := by
  unfold dSum
  exact ⟨L, rfl, k⟩
/-- max(0, a - b) -/
theorem maxZ (a b : Nat) : (if (a : Int) - (b : Int) > 0 then (a : Int) - (b : Int) else 0) = ((a - b : Nat) : Int) := by split <;> omega
theorem cmul_q {q x : Int} (hq : 2 ≤ q) (h4 : q ≤ 4) : CMul (q - 1) x := by unfold CMul; omega
theorem above_last_ok {q s : Nat} {a : Dt} {ws : List Int} {Q : Dt → Prop} {E : Xc → Prop} (hq : 2 ≤ q) (h4 : q ≤ 4) (ha : a = iT ws ∨ a = iL ws) (k : Q (.int (abv q ws s))) : F_above_last [.d (.int q), .d a, .d (.int s)] Q E := by
  rw [F_above_last_eq]; unfold S_above_last
  rcases ha with rfl | rfl
  · walk_at "wp"
    rw [cutG_drop (maxZ ws.length s), ← List.map_drop]
    refine dSum_tup ?_
    walk_at "wp"
    exact ⟨cmul_q (by omega) (by omega), k⟩
  · walk_at "wp"
    rw [cutG_drop (maxZ ws.length s), ← List.map_drop]
    refine dSum_int ?_
    walk_at "wp"
    exact ⟨cmul_q (by omega) (by omega), k⟩
theorem law_least_modulus_ok {q s : Nat} {ws : List Int} {Q : Dt → Prop} {E : Xc → Prop} (hq : 2 ≤ q) (h4 : q ≤ 4) (k : Q (.int (abv q ws s))) : F_law_least_modulus [.d (.int q), .d (iL ws), .d (.int s)] Q E := by
  rw [F_law_least_modulus_eq]; unfold S_law_least_modulus
  walk_at "wp"
  rw [cutG_drop (maxZ ws.length s), ← List.map_drop]
  refine dSum_int ?_
  walk_at "wp"
  exact ⟨cmul_q (by omega) (by omega), k⟩
theorem are_steep_ok {q s : Nat} {ws : List Int} {Q : Dt → Prop} {E : Xc → Prop} (hq : 2 ≤ q) (h4 : q ≤ 4) (hl : ws.length ≤ 1000) (k : Q (.bl (stp q ws s))) : F_are_steep [.d (.int q), .d (iT ws), .d (.int s)] Q E := by
  rw [F_are_steep_eq]; unfold S_are_steep
  walk_at "wp"
  refine lc_inv (fun i acc => acc = ((List.range i).map fun k => decide (abv q (ws.take k) s ≤ (ws[k]?).getD 0)).map Dt.bl) rfl ?_ ?_
  · rintro i x _ K hx rfl hK
    obtain ⟨y, hy, rfl⟩ := enum_get hx
    obtain ⟨z, hz, rfl⟩ := map_get hy
    have hi := (List.getElem?_eq_some_iff.mp hz).1
    walk_at "wp"
    rw [cutG_take (show (i : Int) = (i : Nat) from rfl), ← List.map_take]
    refine above_last_ok hq h4 (.inl rfl) ?_
    walk_at "wp"
    refine ⟨by rw [List.length_range]; omega, hK _ ?_⟩
    rw [List.range_succ, List.map_append, List.map_append, List.map_cons, List.map_nil, hz]; rfl
  · rintro _ rfl
    unfold dAll
    refine ⟨_, rfl, ?_⟩
    rw [List.length_mapIdx, List.length_map]
    have e : ((List.range ws.length).map fun k => decide (abv q (ws.take k) s ≤ (ws[k]?).getD 0)).all id = stp q ws s := by
      unfold stp
      rw [List.all_map]; rfl
    rw [e]; exact k
end

section
/-! ### check_weights -/
/-- the index due of weights that are refused -/
def badWts (a : Dt) : Option Int := match isSeq a with
  | false => some (-1)
  | true => if 24 < (itemsOf a).length then some (-1) else (badAt (inB 1 1000000000000000) (itemsOf a)).map fun i : Nat => (i : Int)
theorem check_weights_ok {a : Dt} {Q : Dt → Prop} {E : Xc → Prop} (hk : a.kind.isSome = true) (hi : ∀ x ∈ itemsOf a, x.kind.isSome = true) (h0 : badWts a = none → Q (.tup (itemsOf a))) (h1 : ∀ i, badWts a = some i → E ⟨"BadWeights", [("index", .int i)]⟩) : F_check_weights [.d a] Q E := by
  rw [F_check_weights_eq]; unfold S_check_weights
  have loop : ∀ (xs : List Dt) (d : DEn), (∀ x ∈ xs, x.kind.isSome = true) → (badAt (inB 1 1000000000000000) xs = none → ∀ s t, d.nx [.d a, s, t]) → (∀ i, badAt (inB 1 1000000000000000) xs = some i → ∀ e, d.xc e ⟨"BadWeights", [("index", .int (i : Nat))]⟩) →
      dFor (gD2 1 2) (sIf (eNotT (eTru (eCall0 F_is_whole [] (eConsS (eVar 2) (eConsS (eC (.int 1)) (eConsS (eC (.int (1000000000000000))) eNil)))))) (sRaise1 "BadWeights" "index" (eVar 1)) sNext) d (xs.mapIdx fun i x => .tup [.int (i : Nat), x]) [.d a, .no, .no] := by
    intro xs d hxs hd0 hd1
    refine dFor_inv (fun i e => ∃ s t, e = [.d a, s, t] ∧ ∀ (j : Nat) x, j < i → xs[j]? = some x → inB 1 1000000000000000 x = true) ⟨_, _, rfl, fun j x hj => absurd hj (Nat.not_lt_zero _)⟩ ?_ ?_
    · rintro i x _ K B hx ⟨s, t, rfl, hp⟩ hK
      obtain ⟨y, hy, rfl⟩ := enum_get hx
      walk_at "wp"
      refine is_whole_ok (hxs y (List.mem_of_getElem? hy)) ?_
      show if inB 1 1000000000000000 y = false then _ else _
      refine iteQ (fun e => hd1 i (badAt_some hp hy e) _) fun e => hK _ ⟨_, _, rfl, fun j z hj hz => ?_⟩
      by_cases c : j = i
      · subst c; rw [hy] at hz; cases hz
        cases e2 : inB 1 1000000000000000 y
        · exact absurd e2 e
        · rfl
      · exact hp j z (by omega) hz
    · rintro _ ⟨s, t, rfl, hp⟩
      exact hd0 (badAt_none fun j x hx => hp j x (by rw [List.length_mapIdx]; exact (List.getElem?_eq_some_iff.mp hx).1) hx) s t
  have bl : ∀ xs : List Dt, badWts (.lst xs) = if 24 < xs.length then some (-1) else (badAt (inB 1 1000000000000000) xs).map fun i : Nat => (i : Int) := fun _ => rfl
  have bt : ∀ xs : List Dt, badWts (.tup xs) = if 24 < xs.length then some (-1) else (badAt (inB 1 1000000000000000) xs).map fun i : Nat => (i : Int) := fun _ => rfl
  rcases seq_or (a := a) with ⟨xs, rfl⟩ | ⟨xs, rfl⟩ | e
  · rw [bl] at h0
    simp only [bl] at h1
    walk_at "wp"
    refine iteQ (fun c => h1 (-1) (if_pos (by omega))) fun c => ?_
    rw [if_neg (by omega)] at h0
    simp only [if_neg (show ¬ 24 < xs.length by omega)] at h1
    exact loop xs _ hi (fun e s t => h0 (by rw [e]; rfl)) fun i e _ => h1 i (by rw [e]; rfl)
  · rw [bt] at h0
    simp only [bt] at h1
    walk_at "wp"
    refine iteQ (fun c => h1 (-1) (if_pos (by omega))) fun c => ?_
    rw [if_neg (by omega)] at h0
    simp only [if_neg (show ¬ 24 < xs.length by omega)] at h1
    exact loop xs _ hi (fun e s t => h0 (by rw [e]; rfl)) fun i e _ => h1 i (by rw [e]; rfl)
  · have e2 : badWts a = some (-1) := by unfold badWts; rw [e]
    walk_at "wp"
    refine ⟨hk, ?_⟩
    rw [e, if_pos rfl]
    exact h1 _ e2
theorem good_wts {a : Dt} {ws : List Int} (ha : a = iT ws ∨ a = iL ws) (h : Wts ws) (hl : ws.length ≤ 24) : badWts a = none := by
  have e : badAt (inB 1 1000000000000000) (ws.map Dt.int) = none := badAt_map fun x hx => inB_int (h x hx).1 (h x hx).2
  rcases ha with rfl | rfl
  · show (if 24 < (ws.map Dt.int).length then some (-1) else (badAt (inB 1 1000000000000000) (ws.map Dt.int)).map fun i : Nat => (i : Int)) = none
    rw [e, List.length_map, if_neg (by omega)]; rfl
  · show (if 24 < (ws.map Dt.int).length then some (-1) else (badAt (inB 1 1000000000000000) (ws.map Dt.int)).map fun i : Nat => (i : Int)) = none
    rw [e, List.length_map, if_neg (by omega)]; rfl
theorem seq_kn {a : Dt} {ws : List Int} (ha : a = iT ws ∨ a = iL ws) : a.kind.isSome = true ∧ (∀ x ∈ itemsOf a, x.kind.isSome = true) ∧ itemsOf a = ws.map .int := by
  rcases ha with rfl | rfl <;> exact ⟨rfl, fun x hx => by obtain ⟨i, _, rfl⟩ := List.mem_map.mp hx; rfl, rfl⟩
theorem check_wts {a : Dt} {ws : List Int} {Q : Dt → Prop} {E : Xc → Prop} (ha : a = iT ws ∨ a = iL ws) (h : Wts ws) (hl : ws.length ≤ 24) (k : Q (iT ws)) : F_check_weights [.d a] Q E := by
  obtain ⟨k1, k2, k3⟩ := seq_kn ha
  refine check_weights_ok k1 k2 (fun _ => ?_) fun i hi => by rw [good_wts ha h hl] at hi; cases hi
  rw [k3]; exact k
theorem letters_in {q : Nat} {Q : Dt → Prop} {E : Xc → Prop} (hq : 2 ≤ q) (h4 : q ≤ 4) (k : Q (.int q)) : F_check_letters [.d (.int q)] Q E :=
  check_letters_ok rfl (fun _ => k) fun h => by rw [inB_int (by omega) (by omega)] at h; cases h
/-- steep_by of weights -/
theorem steep_by_ok {q : Nat} {a : Dt} {ws : List Int} {Q : Dt → Prop} {E : Xc → Prop} (hq : 2 ≤ q) (h4 : q ≤ 4) (ha : a = iT ws ∨ a = iL ws) (h : Wts ws) (hl : ws.length ≤ 24) (k : ∀ m : Nat, SbI q ws m → Q (.int m)) : F_steep_by [.d (.int q), .d a] Q E := by
  rw [F_steep_by_eq]; unfold S_steep_by
  walk_at "wp"
  refine letters_in hq h4 ?_
  refine check_wts ha h hl ?_
  walk_at "wp"
  refine ⟨fun m e => ∃ i, m + i = ws.length ∧ e = [.d (.int q), .d (iT ws), .d (.int i)] ∧ ∀ j, 1 ≤ j → j ≤ i → stp q ws j = true, ws.length, ⟨0, rfl, rfl, fun j a b => by omega⟩, ?_⟩
  rintro m _ ⟨i, mi, rfl, hs⟩
  walk_at "wp"
  refine iteQ (fun c => ?_) fun c => ?_
  · rw [show (i : Int) + 1 = ((i + 1 : Nat) : Int) by omega]
    refine are_steep_ok hq h4 (by omega) ?_
    walk_at "wp"
    refine iteQ (fun g => ?_) fun g => ?_
    · refine ⟨m - 1, by omega, i + 1, by omega, ?_, fun j a b => ?_⟩
      · rfl
      · rcases Nat.lt_or_ge i j with e | e
        · have : j = i + 1 := by omega
          subst this; exact g
        · exact hs j a e
    · exact k i ⟨by omega, hs, .inr (by simpa using g)⟩
  · exact k i ⟨by omega, hs, .inl (by omega)⟩
theorem steep_modulus_ok {q s : Nat} {a : Dt} {ws : List Int} {Q : Dt → Prop} {E : Xc → Prop} (hq : 2 ≤ q) (h4 : q ≤ 4) (ha : a = iT ws ∨ a = iL ws) (h : Wts ws) (hl : ws.length ≤ 24) (hs : s ≤ 24) (k : Q (.int (abv q ws s))) : F_steep_modulus [.d (.int q), .d a, .d (.int s)] Q E := by
  rw [F_steep_modulus_eq]; unfold S_steep_modulus
  walk_at "wp"
  refine letters_in hq h4 ?_
  refine check_wts ha h hl ?_
  walk_at "wp"
  refine num_in (by omega) (by omega) ?_
  walk_at "wp"
  exact above_last_ok hq h4 (.inl rfl) k
end

section
/-! ### the law's functions -/
theorem law_steep_ok {q : Nat} {ws : List Int} {Q : Dt → Prop} {E : Xc → Prop} (hq : 2 ≤ q) (h4 : q ≤ 4) (hl : ws.length ≤ 24) (k : ∀ m : Nat, SbI q ws m → Q (.int m)) : F_law_steep [.d (.int q), .d (iL ws)] Q E := by
  rw [F_law_steep_eq]; unfold S_law_steep
  walk_at "wp"
  refine ⟨by omega, ?_⟩
  rw [show ((ws.length : Int) + 1 - 1).toNat = ws.length by omega]
  refine dFor_inv (fun i e => ∃ s3 s4, e = [.d (.int q), .d (iL ws), .d (.int i), s3, s4] ∧ i ≤ ws.length ∧ ∀ j, 1 ≤ j → j ≤ i → stp q ws j = true) ⟨_, _, rfl, Nat.zero_le _, fun j a b => by omega⟩ ?_ ?_
  · rintro i x _ K B hx ⟨s3, s4, rfl, il, hs⟩ hK
    obtain ⟨u, hu, rfl⟩ := map_get hx
    have ui : u = i ∧ i < ws.length := by
      obtain ⟨h1, h2⟩ := List.getElem?_eq_some_iff.mp hu
      rw [List.getElem_range] at h2
      rw [List.length_range] at h1
      exact ⟨h2.symm, h1⟩
    obtain ⟨rfl, iw⟩ := ui
    walk_at "wp"
    refine ⟨by omega, ?_⟩
    rw [Int.toNat_natCast]
    refine dFor_inv (fun k e => ∃ s4, e = [.d (.int q), .d (iL ws), .d (.int u), .d (.int (1 + (u : Nat))), s4] ∧ ∀ (j : Nat) (x : Int), j < k → ws[j]? = some x → abv q (ws.take j) (u + 1) ≤ x) ⟨_, rfl, fun j x hj => by omega⟩ ?_ ?_
    · rintro j y _ K2 B2 hy ⟨s4, rfl, hj⟩ hK2
      obtain ⟨hj2, rfl⟩ := rng_get hy
      have g := List.getElem?_eq_getElem hj2
      walk_at "wp"
      refine ix_mget rfl g ?_
      walk_at "wp"
      rw [cutG_mid (a := j - (u + 1)) (b := j) (by rw [show (1 : Int) + (u : Int) = ((u + 1 : Nat) : Int) by omega]; exact maxZ j (u + 1)) rfl, ← List.map_take, ← List.map_drop]
      refine dSum_int ?_
      have ea : abv q (ws.take j) (u + 1) = 1 + ((q : Int) - 1) * ((ws.take j).drop (j - (u + 1))).sum := by
        unfold abv lst
        rw [List.length_take, Nat.min_eq_left (by omega)]
      walk_at "wp"
      refine ⟨cmul_q (by omega) (by omega), ?_⟩
      refine iteQ (fun c => ?_) fun c => ?_
      · refine k u ⟨il, hs, .inr ?_⟩
        cases e : stp q ws (u + 1) with
        | false => rfl
        | true =>
          have := stp_iff.mp e j _ g
          omega
      · refine hK2 _ ⟨_, rfl, fun j' x' h1 h2 => ?_⟩
        by_cases e : j' = j
        · subst e
          rw [g] at h2
          cases h2
          omega
        · exact hj j' x' (by omega) h2
    · rintro _ ⟨s4, rfl, hj⟩
      rw [List.length_map, List.length_range] at hj
      walk_at "wp"
      refine hK _ ⟨_, _, by rw [show (1 : Int) + (u : Int) = ((u + 1 : Nat) : Int) by omega], iw, fun j' a b => ?_⟩
      rcases Nat.lt_or_ge u j' with e | e
      · have : j' = u + 1 := by omega
        subst this
        exact stp_iff.mpr fun k' x' h2 => hj k' x' (List.getElem?_eq_some_iff.mp h2).1 h2
      · exact hs j' a e
  · rintro _ ⟨s3, s4, rfl, il, hs⟩
    rw [List.length_map, List.length_range] at hs
    walk_at "wp"
    rw [List.length_range]
    exact k _ ⟨Nat.le_refl _, hs, .inl rfl⟩
theorem sum_snoc (ws : List Int) (x : Int) : (ws ++ [x]).sum = ws.sum + x := by rw [List.sum_append]; simp
theorem mem_le_sum : ∀ {ws : List Int}, (∀ x ∈ ws, 1 ≤ x) → ∀ x ∈ ws, x ≤ ws.sum
  | y :: ws, h, x, hx => by
    have p := sum_pos fun z hz => h z (List.mem_cons_of_mem _ hz)
    have q := h y List.mem_cons_self
    rw [List.sum_cons]
    rcases List.mem_cons.mp hx with e | hx
    · omega
    · have := mem_le_sum (fun z hz => h z (List.mem_cons_of_mem _ hz)) x hx; omega
/-- each weight at least what s weights ahead can count, all together small -/
structure Made (q s R : Nat) (ws : List Int) : Prop where
  pos : ∀ x ∈ ws, 1 ≤ x
  big : ∀ (k : Nat) (x : Int), ws[k]? = some x → abv q (ws.take k) s ≤ x
  few : 3 * ws.sum + (1 + R) ≤ ((1 + R) * 4 ^ ws.length : Nat)
theorem Made.snoc {q s R : Nat} {ws : List Int} {x : Int} (m : Made q s R ws) (hq : 2 ≤ q) (h4 : q ≤ 4) (h1 : abv q ws s ≤ x) (h2 : x ≤ abv q ws s + R) : Made q s R (ws ++ [x]) where
  pos := fun y hy => by
    rcases List.mem_append.mp hy with h | h
    · exact m.pos y h
    · rw [List.mem_singleton.mp h]
      have := abv_pos (q := q) (by omega) m.pos s
      omega
  big := fun k y hy => by
    by_cases c : k < ws.length
    · rw [List.getElem?_append_left c] at hy
      rw [List.take_append_of_le_length (by omega)]
      exact m.big k y hy
    · have hk : k = ws.length := by
        have := (List.getElem?_eq_some_iff.mp hy).1
        rw [List.length_append] at this
        have : k < ws.length + 1 := this
        omega
      subst hk
      rw [List.getElem?_append_right (Nat.le_refl _), Nat.sub_self] at hy
      have hy : x = y := by simpa using hy
      subst hy
      rw [List.take_left']
      · exact h1
      · rfl
  few := by
    have a := abv_le (q := q) (by omega) (by omega) m.pos s
    have b := m.few
    rw [sum_snoc, List.length_append, List.length_singleton, Nat.pow_succ, ← Nat.mul_assoc]
    omega
theorem Made.wts {q s R n : Nat} {ws : List Int} (m : Made q s R ws) (hl : ws.length = n) (hb : (1 + R) * 4 ^ n ≤ 3000000000000000) : Wts ws := fun x hx => by
  have a := mem_le_sum m.pos x hx
  have b := m.few
  rw [hl] at b
  exact ⟨m.pos x hx, by omega⟩
theorem law_steep_weights_ok {q s n R : Nat} {rs : List Int} {Q : Dt → Prop} {E : Xc → Prop} (hq : 2 ≤ q) (h4 : q ≤ 4) (hn : n ≤ 24) (hr : ∀ x ∈ rs, 0 ≤ x ∧ x ≤ R) (hR : R ≤ 100) (h0 : rs ≠ []) (hrl : rs.length ≤ 100)
    (k : ∀ ws : List Int, ws.length = n → Made q s R ws → Q (iL ws)) : F_law_steep_weights [.hand, .d (.int q), .d (.int s), .d (.int n), .d (iL rs)] Q E := by
  have rp : 0 < rs.length := List.length_pos_iff.mpr h0
  rw [F_law_steep_weights_eq]; unfold S_law_steep_weights
  walk_at "wp"
  refine ⟨by omega, ?_⟩
  rw [Int.toNat_natCast]
  refine dFor_inv (fun i e => ∃ (ws : List Int) (s6 s7 : Sl), e = [.hand, .d (.int q), .d (.int s), .d (.int n), .d (iL rs), .own (.lst (ws.map .int)), s6, s7] ∧ ws.length = i ∧ Made q s R ws) ⟨[], _, _, rfl, rfl, ⟨fun x h => (nomatch h), fun k x h => (by simp at h), by simp⟩⟩ ?_ ?_
  · rintro i x _ K B hx ⟨ws, s6, s7, rfl, wl, m⟩ hK
    obtain ⟨hi, rfl⟩ := rng_get hx
    walk_at "wp"
    refine ⟨by omega, fun a ha => ?_⟩
    have ha : a < rs.length := by omega
    have g := List.getElem?_eq_getElem ha
    have rb := hr _ (List.getElem_mem ha)
    refine ix_mget rfl g ?_
    walk_at "wp"
    rw [cutG_drop (k := ws.length - s) (by rw [← wl]; exact maxZ ws.length s), ← List.map_drop]
    refine dSum_int ?_
    walk_at "wp"
    refine ⟨cmul_q (by omega) (by omega), ⟨by omega, by omega⟩, fun b hb => ?_⟩
    refine ⟨by omega, hK _ ⟨ws ++ [abv q ws s + b], _, _, by rw [List.map_append]; rfl, by rw [List.length_append, wl]; rfl, m.snoc hq h4 (by omega) (by omega)⟩⟩
  · rintro _ ⟨ws, s6, s7, rfl, wl, m⟩
    rw [List.length_map, List.length_range] at wl
    walk_at "wp"
    exact k ws wl m
end

section
/-! ### any weights; the told ones -/
theorem lc_wts {n : Nat} {f : DGX} {te : DX} {env : List Sl} {Q : Dt → Prop} {ds : List Dt} (hn : ds.length = n) (hn2 : n ≤ 1000) (step : ∀ x ∈ ds, ∀ K1 : Dt → Prop, (∀ y : Int, 1 ≤ y → y ≤ 1000000000000000 → K1 (.int y)) → f x env fun env' => te env' K1 (fun _ => False))
    (k : ∀ ws : List Int, ws.length = n → Wts ws → Q (iL ws)) : lcGo f eYes te env Q ds [] := by
  refine lc_any (G := fun d => ∃ y : Int, d = .int y ∧ (1 ≤ y ∧ y ≤ 1000000000000000)) (fun x hx K1 hK => step x hx K1 fun y a b => hK _ ⟨y, rfl, a, b⟩) (by rw [List.length_nil]; omega) (fun y hy => (nomatch hy)) fun ys yl hy => ?_
  obtain ⟨ws, rfl, hw⟩ := ints_of_dts hy
  rw [List.length_map, List.length_nil] at yl
  exact k ws (by omega) hw
theorem law_any_weights_ok {q n : Nat} {Q : Dt → Prop} {E : Xc → Prop} (hq : 2 ≤ q) (h4 : q ≤ 4) (hn : n ≤ 24) (k : ∀ ws : List Int, ws.length = n → Wts ws → Q (iL ws)) : F_law_any_weights [.hand, .d (.int q), .d (.int n)] Q E := by
  rw [F_law_any_weights_eq]; unfold S_law_any_weights
  walk_at "wp"
  refine fun way hway => ?_
  rw [S_law_any_weights_r2_eq]
  walk_at "wp"
  refine iteQ (fun _ => ⟨by omega, ?_⟩) fun c0 => ?_
  · refine lc_wts (n := n) (by rw [List.length_map, List.length_range]; omega) (by omega) (fun x hx K1 hK => ?_) k
    obtain ⟨i, _, rfl⟩ := List.mem_map.mp hx
    walk_at "wp"
    exact fun r hr => hK _ (by omega) (by omega)
  rw [S_law_any_weights_r4_eq]
  walk_at "wp"
  refine iteQ (fun _ => ⟨by omega, ?_⟩) fun c1 => ?_
  · refine lc_wts (n := n) (by rw [List.length_map, List.length_range]; omega) (by omega) (fun x hx K1 hK => ?_) k
    obtain ⟨i, _, rfl⟩ := List.mem_map.mp hx
    walk_at "wp"
    exact ⟨by unfold CMul; omega, ⟨by omega, by omega⟩, fun r hr => hK _ (by omega) (by omega)⟩
  rw [S_law_any_weights_r6_eq]
  walk_at "wp"
  refine iteQ (fun _ => ⟨by omega, ?_⟩) fun c2 => ?_
  · refine lc_wts (n := n) (by rw [List.length_map, List.length_range]; omega) (by omega) (fun x hx K1 hK => ?_) k
    obtain ⟨i, _, rfl⟩ := List.mem_map.mp hx
    walk_at "wp"
    exact fun r hr => hK _ (by omega) (by omega)
  rw [S_law_any_weights_r8_eq]
  walk_at "wp"
  refine iteQ (fun _ => ?_) fun c3 => ?_
  · refine ⟨by omega, ?_⟩
    rw [show ((n : Int) + 1 - 1).toNat = n by omega]
    have e : ((List.range n).map fun i : Nat => Dt.int (1 + (i : Nat))).reverse = (((List.range n).map fun i : Nat => (1 : Int) + (i : Nat)).reverse).map Dt.int := by rw [List.map_reverse, List.map_map]; rfl
    rw [e]
    refine k _ (by rw [List.length_reverse, List.length_map, List.length_range]) fun x hx => ?_
    obtain ⟨i, hi, rfl⟩ := List.mem_map.mp (List.mem_reverse.mp hx)
    have := List.mem_range.mp hi
    omega
  rw [S_law_any_weights_r10_eq]
  walk_at "wp"
  refine ⟨⟨by omega, by omega⟩, fun s hs => ?_⟩
  refine law_steep_weights_ok (R := 2) (rs := [0, 0, 0, 1, 2]) hq h4 hn (by decide) (by omega) (by decide) (by decide) fun ws wl m => ?_
  have W := m.wts wl (by
    have : 4 ^ n ≤ 4 ^ 24 := Nat.pow_le_pow_right (by decide) hn
    have e : (4 : Nat) ^ 24 = 281474976710656 := by decide
    omega)
  walk_at "wp"
  have last : ∀ (ws : List Int) (s5 : Sl) (d : DEn), d.rt (iL ws) → S_law_any_weights_r14 d [.hand, .d (.int q), .d (.int n), .d (.int way), .own (.lst (ws.map .int)), s5] := fun ws s5 d h => by
    rw [S_law_any_weights_r14_eq]
    walk_at "wp"
    exact h
  rw [S_law_any_weights_r11_eq]
  walk_at "wp"
  refine iteQ (fun _ => iteQ (fun n0 => ?_) fun _ => last ws _ _ (k ws wl W)) fun _ => last ws _ _ (k ws wl W)
  refine ⟨⟨by omega, by omega⟩, fun a ha => ?_⟩
  rw [S_law_any_weights_r13_eq]
  walk_at "wp"
  have ha : a < ws.length := by omega
  have g := List.getElem?_eq_getElem ha
  have wg := W _ (List.getElem_mem ha)
  refine ix_mget rfl g ?_
  walk_at "wp"
  refine fun b hb => ?_
  refine ⟨a, by unfold ixN; rw [if_pos (by omega), if_pos (by omega)]; rfl, ?_⟩
  have e : ∀ v : Int, (ws.map Dt.int).set a (.int v) = (ws.set a v).map .int := fun v => by rw [List.map_set]
  rw [e]
  refine last _ _ _ (k _ (by rw [List.length_set]; exact wl) fun x hx => ?_)
  rcases List.mem_or_eq_of_mem_set hx with h | h
  · exact W x h
  · rw [h]
    split <;> omega
/-- the told weights -/
def wf (q s : Nat) : Nat → List Int
  | 0 => []
  | i + 1 => wf q s i ++ [abv q (wf q s i) s]
theorem wf_len (q s : Nat) : ∀ i, (wf q s i).length = i
  | 0 => rfl
  | i + 1 => by rw [wf, List.length_append, wf_len q s i]; rfl
theorem wf_made {q s : Nat} (hq : 2 ≤ q) (h4 : q ≤ 4) : ∀ i, Made q s 0 (wf q s i)
  | 0 => ⟨fun x h => (nomatch h), fun k x h => (by simp [wf] at h), by simp [wf]⟩
  | i + 1 => (wf_made hq h4 i).snoc hq h4 (Int.le_refl _) (by omega)
theorem wf_take {q s : Nat} : ∀ {n i : Nat}, i ≤ n → (wf q s n).take i = wf q s i
  | 0, i, h => by
    have : i = 0 := by omega
    subst this; rfl
  | n + 1, i, h => by
    by_cases c : i = n + 1
    · subst c
      exact List.take_of_length_le (by rw [wf_len]; exact Nat.le_refl _)
    · rw [wf, List.take_append_of_le_length (by rw [wf_len]; omega), wf_take (by omega)]
theorem wf_at {q s n i : Nat} (h : i < n) : (wf q s n)[i]? = some (abv q (wf q s i) s) := by
  have e := wf_take (q := q) (s := s) (show i + 1 ≤ n by omega)
  have g : ((wf q s n).take (i + 1))[i]? = some (abv q (wf q s i) s) := by
    rw [e, wf, List.getElem?_append_right (by rw [wf_len]; exact Nat.le_refl _), wf_len, Nat.sub_self]; rfl
  rw [List.getElem?_take_of_lt (by omega)] at g
  exact g
/-- lost of the length or more: the powers -/
theorem wf_pow {q s : Nat} (hq : 2 ≤ q) : ∀ {i : Nat}, i ≤ s + 1 → ((q : Int) - 1) * (wf q s i).sum + 1 = ((q ^ i : Nat) : Int) ∧ ∀ k, k < i → (wf q s i)[k]? = some ((q ^ k : Nat) : Int)
  | 0, _ => ⟨by simp [wf], fun k h => by omega⟩
  | i + 1, h => by
    obtain ⟨a, b⟩ := wf_pow (s := s) hq (i := i) (by omega)
    have e : abv q (wf q s i) s = ((q ^ i : Nat) : Int) := by
      unfold abv lst
      rw [wf_len, show i - s = 0 by omega, List.drop_zero]
      omega
    refine ⟨?_, fun k hk => ?_⟩
    · rw [wf, sum_snoc, e, Int.mul_add]
      have : ((q : Int) - 1) * ((q ^ i : Nat) : Int) + ((q ^ i : Nat) : Int) = ((q ^ (i + 1) : Nat) : Int) := by
        rw [Nat.pow_succ, Int.sub_mul, Int.natCast_mul, Int.mul_comm ((q ^ i : Nat) : Int) (q : Int)]; omega
      omega
    · by_cases c : k < i
      · rw [wf, List.getElem?_append_left (by rw [wf_len]; exact c)]
        exact b k c
      · have : k = i := by omega
        subst this
        rw [wf_at (Nat.lt_succ_self k), e]
/-- two letters, one lost: the places -/
theorem wf_one : ∀ i : Nat, wf 2 1 i = (List.range i).map fun k => (1 : Int) + (k : Nat)
  | 0 => rfl
  | i + 1 => by
    rw [wf, wf_one i, List.range_succ, List.map_append]
    congr 1
    unfold abv lst
    rw [List.length_map, List.length_range]
    cases i with
    | zero => rfl
    | succ j =>
      rw [show j + 1 - 1 = j by omega, List.range_succ, List.map_append, List.drop_left' (by rw [List.length_map, List.length_range])]
      simp
      omega
theorem weights_for_ok {q s n : Nat} {Q : Dt → Prop} {E : Xc → Prop} (hq : 2 ≤ q) (h4 : q ≤ 4) (hs : s ≤ 24) (hn : n ≤ 24) (k : Q (iT (wf q s (n + 1)))) : F_weights_for [.d (.int q), .d (.int s), .d (.int n)] Q E := by
  rw [F_weights_for_eq]; unfold S_weights_for
  walk_at "wp"
  refine letters_in hq h4 ?_
  refine num_in (by omega) (by omega) ?_
  refine num_in (by omega) (by omega) ?_
  walk_at "wp"
  refine ⟨by omega, ?_⟩
  rw [show ((n : Int) + 1).toNat = n + 1 by omega]
  refine dFor_inv (fun i e => ∃ s4, e = [.d (.int q), .d (.int s), .d (.int n), .own (.lst ((wf q s i).map .int)), s4]) ⟨_, rfl⟩ ?_ ?_
  · rintro i x _ K B hx ⟨s4, rfl⟩ hK
    obtain ⟨hi, rfl⟩ := rng_get hx
    walk_at "wp"
    refine above_last_ok hq h4 (.inr rfl) ⟨⟨_, rfl⟩, by rw [wf_len]; omega, hK _ ⟨_, by rw [wf, List.map_append]; rfl⟩⟩
  · rintro _ ⟨s4, rfl⟩
    rw [List.length_map, List.length_range]
    walk_at "wp"
    exact k
end

section
/-! ### the told weights are right -/
theorem int_small {x : Int} (h : 0 ≤ x) (g : x ≤ 1000000000000000000) : x.natAbs < 2 ^ 1920 := by
  have a : (1000000000000000000 : Nat) < 2 ^ 1920 := by decide +kernel
  exact Nat.lt_of_le_of_lt (by omega) a
theorem sho_wts {ws : List Int} (h : ∀ x ∈ ws, 1 ≤ x ∧ x ≤ 1000000000000000000) : Sho (ws.length * 1923 + 4) 1 (iT ws) ∧ Sho (ws.length * 1923 + 4) 1 (iL ws) :=
  ⟨sho_iT fun x hx => int_small (by have := (h x hx).1; omega) (h x hx).2, sho_iL fun x hx => int_small (by have := (h x hx).1; omega) (h x hx).2⟩
theorem law_power_ok {q k : Nat} {Q : Dt → Prop} {E : Xc → Prop} (hq : q ≤ 4) (hk : k ≤ 100) (h : Q (.int (q ^ k : Nat))) : F_law_power [.d (.int q), .d (.int k)] Q E := by
  rw [F_law_power_eq]; unfold S_law_power
  walk_at "wp"
  refine ⟨by omega, dFor_inv (fun i e => ∃ s3, e = [.d (.int q), .d (.int k), .d (.int (q ^ i : Nat)), s3]) ⟨_, rfl⟩ ?_ ?_⟩
  · rintro i x _ K B hx ⟨s3, rfl⟩ hK
    obtain ⟨hi3, rfl⟩ := rng_get hx
    walk_at "wp"
    rw [show ((q ^ i : Nat) : Int) * (q : Int) = ((q ^ (i + 1) : Nat) : Int) by rw [Nat.pow_succ]; push_cast; rfl]
    exact ⟨.inr ⟨by omega, by omega⟩, hK _ ⟨_, rfl⟩⟩
  · rintro _ ⟨s3, rfl⟩
    rw [List.length_map, List.length_range, Int.toNat_natCast]
    walk_at "wp"
    exact h
theorem wf_pow_list {q s n : Nat} (hq : 2 ≤ q) (h : n ≤ s) : wf q s (n + 1) = (List.range (n + 1)).map fun k => ((q ^ k : Nat) : Int) := by
  refine List.ext_getElem? fun i => ?_
  by_cases c : i < n + 1
  · rw [(wf_pow (s := s) hq (i := n + 1) (by omega)).2 i c, List.getElem?_map, List.getElem?_range c]; rfl
  · rw [List.getElem?_eq_none (by rw [wf_len]; omega), List.getElem?_eq_none (by rw [List.length_map, List.length_range]; omega)]
theorem wf_bound {q s n : Nat} (hq : 2 ≤ q) (h4 : q ≤ 4) (hn : n ≤ 25) : ∀ x ∈ wf q s n, 1 ≤ x ∧ x ≤ 1000000000000000000 := fun x hx => by
  have m := wf_made (s := s) hq h4 n
  have a := mem_le_sum m.pos x hx
  have b := m.few
  rw [wf_len] at b
  have c : 4 ^ n ≤ 4 ^ 25 := Nat.pow_le_pow_right (by decide) hn
  have e : (4 : Nat) ^ 25 = 1125899906842624 := by decide
  exact ⟨m.pos x hx, by omega⟩
theorem wf_wts {q s n : Nat} (hq : 2 ≤ q) (h4 : q ≤ 4) (hn : n ≤ 24) : Wts (wf q s n) := by
  refine (wf_made (s := s) hq h4 n).wts (wf_len q s n) ?_
  have c : 4 ^ n ≤ 4 ^ 24 := Nat.pow_le_pow_right (by decide) hn
  have e : (4 : Nat) ^ 24 = 281474976710656 := by decide
  omega
abbrev trE (q s n : Nat) (s4 s5 s6 s7 s8 : Sl) : List Sl := [.hand, .d (.int q), .d (.int s), .d (.int n), s4, s5, s6, s7, s8]
theorem told_r14 {q s n : Nat} {s5 s6 s7 s8 : Sl} {d : DEn} (hq : 2 ≤ q) (h4 : q ≤ 4) (hs : s ≤ 24) (hn : n ≤ 24) (k : d.rt (.bl true)) : S_law_told_right_r14 d (trE q s n (.own (.lst ((wf q s (n + 1)).map .int))) s5 s6 s7 s8) := by
  have W := wf_wts (s := s) hq h4 hn
  have e1 : cutG ((wf q s (n + 1)).map Dt.int) none (some (n : Int)) = (wf q s n).map Dt.int := by rw [cutG_take (show (n : Int) = (n : Nat) from rfl), ← List.map_take, wf_take (by omega)]
  rw [S_law_told_right_r14_eq]
  unfold trE
  walk_at "wp"
  rw [e1, S_law_told_right_r15_eq]
  walk_at "wp"
  refine law_steep_ok hq h4 (by rw [wf_len]; exact hn) fun m hm => ?_
  rw [S_law_told_right_r16_eq]
  walk_at "wp"
  have least := hm.least (stp_of (by omega) W.pos (wf_made hq h4 n).big)
  rw [wf_len] at least
  have small : m ≤ 24 := by have := hm.1; rw [wf_len] at this; omega
  refine iteQ (fun c => ?_) fun c => ?_
  · exfalso
    split at c <;> omega
  refine steep_by_ok hq h4 (.inr rfl) W (by rw [wf_len]; exact hn) fun m' hm' => ?_
  obtain rfl := hm.uniq hm'
  have S := sho_int (i := (m : Int)) (int_small (by omega) (by omega))
  walk_at "wp"
  refine ⟨S.shw (by decide) (by decide), ?_⟩
  walk_at "wp"
  refine ⟨S.shw (by decide) (by decide), ?_⟩
  refine shw_ne S ?_
  walk_at "wp"
  rw [S_law_told_right_r18_eq]
  walk_at "wp"
  refine steep_modulus_ok hq h4 (.inr rfl) W (by rw [wf_len]; exact hn) hs ?_
  have bd := wf_bound (s := s) hq h4 (show n + 1 ≤ 25 by omega)
  have g := wf_at (q := q) (s := s) (show n < n + 1 by omega)
  have bn := bd _ (List.mem_of_getElem? g)
  have S2 := sho_int (i := abv q (wf q s n) s) (int_small (by omega) bn.2)
  walk_at "wp"
  refine ⟨S2.shw (by decide) (by decide), ?_⟩
  refine ix_mget rfl g ?_
  walk_at "wp"
  refine ⟨S2.shw (by decide) (by decide), ?_⟩
  refine shw_eq S2 ?_
  walk_at "wp"
  rw [e1]
  exact dEq_self (eqE_L.sh _).sh k
theorem law_told_right_ok {Q : Dt → Prop} {E : Xc → Prop} (k : Q (.bl true)) : F_law_told_right [.hand] Q E := by
  rw [F_law_told_right_eq]; unfold S_law_told_right
  walk_at "wp"
  refine fun a ha => ?_
  rw [show (2 : Int) + (a : Int) = ((2 + a : Nat) : Int) by omega]
  have hq : 2 ≤ 2 + a := by omega
  have h4 : 2 + a ≤ 4 := by omega
  generalize 2 + a = q at hq h4 ⊢
  have fin : ∀ s n : Nat, s ≤ 24 → n ≤ 24 → S_law_told_right_r4 ⟨fun _ => Q .non, Q, fun _ => False, fun _ => False, fun _ _ => False⟩ (trE q s n .no .no .no .no .no) := fun s n hs hn => by
    have bd := wf_bound (s := s) hq h4 (show n + 1 ≤ 25 by omega)
    have S := sho_wts bd
    rw [wf_len] at S
    have r14 := fun (s5 s6 : Sl) => told_r14 (s5 := s5) (s6 := s6) (s7 := .no) (s8 := .no) (d := ⟨fun _ => Q .non, Q, fun _ => False, fun _ => False, fun _ _ => False⟩) hq h4 hs hn k
    rw [S_law_told_right_r4_eq]
    unfold trE
    walk_at "wp"
    rw [S_law_told_right_r5_eq]
    walk_at "wp"
    refine ⟨by omega, ?_⟩
    rw [show ((n : Int) + 1).toNat = n + 1 by omega]
    refine dFor_inv (fun i e => ∃ s5, e = trE q s n (.own (.lst ((wf q s i).map .int))) s5 .no .no .no) ⟨_, rfl⟩ ?_ ?_
    · rintro i x _ K B hx ⟨s5, rfl⟩ hK
      obtain ⟨hi, rfl⟩ := rng_get hx
      unfold trE
      walk_at "wp"
      rw [S_law_told_right_b6_eq]
      walk_at "wp"
      rw [cutG_drop (k := i - s) (maxZ i s), ← List.map_drop]
      refine dSum_int ?_
      walk_at "wp"
      refine ⟨cmul_q (by omega) (by omega), by rw [wf_len]; omega, hK _ ⟨.d (.int i), ?_⟩⟩
      rw [wf, List.map_append]
      unfold abv lst
      rw [wf_len]; rfl
    · rintro _ ⟨s5, rfl⟩
      rw [List.length_map, List.length_range, S_law_told_right_r7_eq]
      unfold trE
      walk_at "wp"
      refine weights_for_ok hq h4 hs hn ?_
      rw [S_law_told_right_r8_eq]
      walk_at "wp"
      have w : (n + 1) * 1923 + 4 ≤ 16777216 := by omega
      refine ⟨S.1.shw w (by decide), ?_⟩
      walk_at "wp"
      refine ⟨S.1.shw w (by decide), ?_⟩
      refine shw_ne S.1 ?_
      walk_at "wp"
      have r12 : S_law_told_right_r12 ⟨fun _ => Q .non, Q, fun _ => False, fun _ => False, fun _ _ => False⟩ (trE q s n (.own (.lst ((wf q s (n + 1)).map .int))) s5 (.d (iT (wf q s (n + 1)))) .no .no) := by
        rw [S_law_told_right_r12_eq]
        unfold trE
        walk_at "wp"
        refine iteQ (fun c1 => iteQ (fun c2 => ?_) fun _ => r14 _ _) fun _ => r14 _ _
        have q2 : q = 2 := by omega
        have s1 : s = 1 := by omega
        subst q2; subst s1
        refine ⟨by omega, ?_⟩
        rw [show ((n : Int) + 2 - 1).toNat = n + 1 by omega, show ((List.range (n + 1)).map fun k : Nat => Dt.int (1 + (k : Nat))) = (wf 2 1 (n + 1)).map Dt.int by rw [wf_one, List.map_map]; rfl]
        refine dNe_self (eqE_L.sh _).sh ?_
        walk_at "wp"
        exact r14 _ _
      rw [S_law_told_right_r10_eq]
      walk_at "wp"
      refine iteQ (fun c => ?_) fun _ => r12
      refine ⟨by omega, ?_⟩
      rw [show ((n : Int) + 1).toNat = n + 1 by omega]
      refine lc_map (fun i : Nat => Dt.int (i : Nat)) (fun i => Dt.int ((q ^ i : Nat) : Int)) (fun i hi K1 h1 => ?_) (by rw [List.length_range]; omega) ?_
      · have hi := List.mem_range.mp hi
        walk_at "wp"
        exact law_power_ok h4 (by omega) h1
      · rw [show ((List.range (n + 1)).map fun i : Nat => Dt.int ((q ^ i : Nat) : Int)) = (wf q s (n + 1)).map Dt.int by rw [wf_pow_list hq (by omega), List.map_map]; rfl]
        refine dNe_self (eqE_L.sh _).sh ?_
        walk_at "wp"
        exact r12
  have fin3 : ∀ s : Nat, s ≤ 24 → S_law_told_right_r3 ⟨fun _ => Q .non, Q, fun _ => False, fun _ => False, fun _ _ => False⟩ [.hand, .d (.int q), .d (.int s), .no, .no, .no, .no, .no, .no] := fun s hs => by
    rw [S_law_told_right_r3_eq]
    walk_at "wp"
    refine fun a ha => iteQ (fun _ => fun b hb => ?_) fun _ => fun b hb => ?_
    · exact fin s b hs (by omega)
    · exact fin s b hs (by omega)
  rw [S_law_told_right_r2_eq]
  walk_at "wp"
  refine fun a ha => iteQ (fun _ => fun b hb => ?_) fun _ => fun b hb => ?_
  · exact fin3 b (by omega)
  · exact fin3 b (by omega)
end

section
/-! ### any weights are right; weights that miss being steep -/
theorem law_any_right_ok {Q : Dt → Prop} {E : Xc → Prop} (k : Q (.bl true)) : F_law_any_right [.hand] Q E := by
  rw [F_law_any_right_eq]; unfold S_law_any_right
  walk_at "wp"
  refine fun a ha => ?_
  rw [show (2 : Int) + (a : Int) = ((2 + a : Nat) : Int) by omega]
  have hq : 2 ≤ 2 + a := by omega
  have h4 : 2 + a ≤ 4 := by omega
  generalize 2 + a = q at hq h4 ⊢
  have fin : ∀ n : Nat, n ≤ 24 → S_law_any_right_r3 ⟨fun _ => Q .non, Q, fun _ => False, fun _ => False, fun _ _ => False⟩ [.hand, .d (.int q), .d (.int n), .no, .no] := fun n hn => by
    rw [S_law_any_right_r3_eq]
    walk_at "wp"
    refine law_any_weights_ok hq h4 hn fun ws wl W => ?_
    have S := sho_wts (ws := ws) fun x hx => ⟨(W x hx).1, by have := (W x hx).2; omega⟩
    rw [wl] at S
    have w : n * 1923 + 4 ≤ 16777216 := by omega
    rw [S_law_any_right_r4_eq]
    walk_at "wp"
    refine check_wts (.inr rfl) W (by omega) ?_
    walk_at "wp"
    refine ⟨S.1.shw w (by decide), ?_⟩
    walk_at "wp"
    refine ⟨S.1.shw w (by decide), ?_⟩
    refine shw_ne S.1 ?_
    walk_at "wp"
    rw [S_law_any_right_r6_eq]
    walk_at "wp"
    refine steep_by_ok hq h4 (.inl rfl) W (by omega) fun m hm => ?_
    have small : m ≤ 24 := by have := hm.1; omega
    have S2 := sho_int (i := (m : Int)) (int_small (by omega) (by omega))
    walk_at "wp"
    refine ⟨S2.shw (by decide) (by decide), ?_⟩
    refine law_steep_ok hq h4 (by omega) fun m' hm' => ?_
    obtain rfl := hm.uniq hm'
    walk_at "wp"
    refine ⟨S2.shw (by decide) (by decide), ?_⟩
    refine shw_ne S2 ?_
    walk_at "wp"
    rw [S_law_any_right_r8_eq]
    walk_at "wp"
    refine fun b hb c hc => ?_
    refine dFor_inv (fun _ e => ∃ s4, e = [.hand, .d (.int q), .d (.int n), .d (iL ws), s4]) ⟨_, rfl⟩ ?_ ?_
    · rintro i x _ K B hx ⟨s4, rfl⟩ hK
      obtain ⟨s, hs, rfl⟩ : ∃ s : Nat, s ≤ 24 ∧ x = .int s := by
        rcases List.mem_cons.mp (List.mem_of_getElem? hx) with h | h
        · exact ⟨0, by omega, h⟩
        rcases List.mem_cons.mp h with h | h
        · exact ⟨b, by omega, h⟩
        rcases List.mem_cons.mp h with h | h
        · exact ⟨c, by omega, h⟩
        · exact ⟨24, by omega, List.mem_singleton.mp h⟩
      have p1 := abv_pos (q := q) (by omega) W.pos s
      have p2 := abv_le (q := q) (by omega) (by omega) W.pos s
      have p3 : ws.sum ≤ 24 * 1000000000000000 := by
        have : ∀ us : List Int, (∀ x ∈ us, x ≤ 1000000000000000) → us.sum ≤ us.length * 1000000000000000 := by
          intro us
          induction us with
          | nil => intro _; simp
          | cons u us ih =>
            intro h
            have a := h u List.mem_cons_self
            have b := ih fun x hx => h x (List.mem_cons_of_mem _ hx)
            rw [List.sum_cons, List.length_cons]
            push_cast
            omega
        have := this ws fun x hx => (W x hx).2
        omega
      have S3 := sho_int (i := abv q ws s) (int_small (by omega) (by omega))
      walk_at "wp"
      rw [S_law_any_right_b9_eq]
      walk_at "wp"
      refine steep_modulus_ok hq h4 (.inr rfl) W (by omega) hs ?_
      walk_at "wp"
      refine ⟨S3.shw (by decide) (by decide), ?_⟩
      refine law_least_modulus_ok hq h4 ?_
      walk_at "wp"
      refine ⟨S3.shw (by decide) (by decide), ?_⟩
      refine shw_ne S3 ?_
      walk_at "wp"
      exact hK _ ⟨_, rfl⟩
    · rintro _ ⟨s4, rfl⟩
      rw [S_law_any_right_r11_eq]
      walk_at "wp"
      exact k
  rw [S_law_any_right_r2_eq]
  walk_at "wp"
  refine fun a ha => iteQ (fun _ => fun b hb => ?_) fun _ => fun b hb => ?_
  · exact fin b (by omega)
  · exact fin b (by omega)
theorem law_missed_right_ok {Q : Dt → Prop} {E : Xc → Prop} (k : Q (.bl true)) : F_law_missed_right [.hand] Q E := by
  rw [F_law_missed_right_eq]; unfold S_law_missed_right
  walk_at "wp"
  refine fun a ha b hb => ?_
  rw [show (2 : Int) + (a : Int) = ((2 + a : Nat) : Int) by omega, show (1 : Int) + (b : Int) = ((1 + b : Nat) : Int) by omega]
  have hq : 2 ≤ 2 + a := by omega
  have h4 : 2 + a ≤ 4 := by omega
  have hs : 1 ≤ 1 + b ∧ 1 + b ≤ 4 := by omega
  generalize 2 + a = q at hq h4 ⊢
  generalize 1 + b = s at hs ⊢
  rw [S_law_missed_right_r2_eq]
  walk_at "wp"
  refine fun c hc => ?_
  rw [show (2 : Int) + (c : Int) = ((2 + c : Nat) : Int) by omega]
  have hn : 2 ≤ 2 + c ∧ 2 + c ≤ 7 := by omega
  generalize 2 + c = n at hn ⊢
  rw [S_law_missed_right_r3_eq]
  walk_at "wp"
  refine law_steep_weights_ok (R := 9) (rs := [0, 1, 9]) hq h4 (by omega) (by decide) (by omega) (by decide) (by decide) fun ws wl m => ?_
  have W := m.wts wl (by
    have : 4 ^ n ≤ 4 ^ 7 := Nat.pow_le_pow_right (by decide) hn.2
    have e : (4 : Nat) ^ 7 = 16384 := by decide
    omega)
  have few : ws.sum ≤ 100000 := by
    have f := m.few
    rw [wl] at f
    have : 4 ^ n ≤ 4 ^ 7 := Nat.pow_le_pow_right (by decide) hn.2
    have e : (4 : Nat) ^ 7 = 16384 := by decide
    omega
  walk_at "wp"
  rw [S_law_missed_right_r4_eq]
  walk_at "wp"
  refine steep_by_ok hq h4 (.inr rfl) W (by omega) fun m1 hm1 => ?_
  have least := hm1.least (stp_of (by omega) W.pos m.big)
  rw [wl] at least
  walk_at "wp"
  refine iteQ (fun c => ?_) fun _ => ?_
  · exfalso
    split at c <;> omega
  rw [S_law_missed_right_r6_eq]
  walk_at "wp"
  refine ⟨⟨by omega, by omega⟩, fun d hd => ?_⟩
  rw [show (1 : Int) + (d : Int) = ((1 + d : Nat) : Int) by omega]
  have hk : 1 ≤ 1 + d ∧ 1 + d < ws.length := by omega
  generalize 1 + d = j at hk ⊢
  rw [S_law_missed_right_r7_eq]
  walk_at "wp"
  rw [cutG_mid (a := j - s) (b := j) (maxZ j s) rfl, ← List.map_take, ← List.map_drop]
  refine dSum_int ?_
  have ea : abv q (ws.take j) s = 1 + ((q : Int) - 1) * ((ws.take j).drop (j - s)).sum := by
    unfold abv lst
    rw [List.length_take, Nat.min_eq_left (by omega)]
  have sp : 1 ≤ ((ws.take j).drop (j - s)).sum := by
    have g : (ws.take j)[j - 1]? = ws[j - 1]? := List.getElem?_take_of_lt (by omega)
    rw [List.getElem?_eq_getElem (l := ws) (i := j - 1) (by omega)] at g
    have mem : ws[j - 1]'(by omega) ∈ (ws.take j).drop (j - s) := by
      refine List.mem_of_getElem? (i := j - 1 - (j - s)) ?_
      rw [List.getElem?_drop, show j - s + (j - 1 - (j - s)) = j - 1 by omega]
      exact g
    have a := mem_le_sum (drop_pos (take_pos W.pos j) (j - s)) _ mem
    have b := W.pos _ (List.getElem_mem (show j - 1 < ws.length by omega))
    omega
  have vb : 1 ≤ ((q : Int) - 1) * ((ws.take j).drop (j - s)).sum ∧ ((q : Int) - 1) * ((ws.take j).drop (j - s)).sum ≤ 300000 := by
    have s1 : ((ws.take j).drop (j - s)).sum ≤ (ws.take j).sum := by
      have := drop_le (take_pos W.pos j) (Nat.zero_le (j - s))
      rwa [List.drop_zero] at this
    have s2 : (ws.take j).sum ≤ ws.sum := by
      have e := congrArg List.sum (List.take_append_drop j ws)
      rw [List.sum_append] at e
      have := sum_pos (drop_pos W.pos j)
      omega
    have a := Int.mul_le_mul_of_nonneg_left sp (show 0 ≤ (q : Int) - 1 by omega)
    have b := Int.mul_le_mul_of_nonneg_right (show (q : Int) - 1 ≤ 3 by omega) (show 0 ≤ ((ws.take j).drop (j - s)).sum by omega)
    omega
  generalize hv : ((q : Int) - 1) * ((ws.take j).drop (j - s)).sum = v at vb ea
  walk_at "wp"
  refine ⟨cmul_q (by omega) (by omega), j, by unfold ixN; rw [if_pos (by omega), if_pos (by omega)]; rfl, ?_⟩
  rw [hv, show (ws.map Dt.int).set j (.int v) = (ws.set j v).map .int by rw [List.map_set]]
  have W2 : Wts (ws.set j v) := fun x hx => by
    rcases List.mem_or_eq_of_mem_set hx with h | h
    · exact W x h
    · rw [h]; omega
  have no : stp q (ws.set j v) s = false := by
    cases e : stp q (ws.set j v) s with
    | false => rfl
    | true =>
      have := stp_iff.mp e j v (by rw [List.getElem?_set_self (by omega)])
      rw [List.take_set_of_le (Nat.le_refl _)] at this
      omega
  rw [S_law_missed_right_r8_eq]
  walk_at "wp"
  refine steep_by_ok hq h4 (.inr rfl) W2 (by rw [List.length_set]; omega) fun m2 hm2 => ?_
  have lt : m2 < s := by
    rcases Nat.lt_or_ge m2 s with c | c
    · exact c
    · rw [hm2.2.1 s hs.1 c] at no; cases no
  refine ⟨.inl ⟨_, rfl⟩, ?_⟩
  walk_at "wp"
  rw [S_law_missed_right_r9_eq]
  walk_at "wp"
  rw [if_pos (show (m2 : Int) < s by omega)]
  have S2 := sho_int (i := (m2 : Int)) (int_small (by omega) (by omega))
  refine ⟨S2.shw (by decide) (by decide), ?_⟩
  refine law_steep_ok hq h4 (by rw [List.length_set]; omega) fun m3 hm3 => ?_
  obtain rfl := hm2.uniq hm3
  walk_at "wp"
  refine ⟨S2.shw (by decide) (by decide), ?_⟩
  exact shw_eq S2 k
end

section
/-! ### what is refused -/
theorem law_odd_ok {Q : Dt → Prop} {E : Xc → Prop} (k : ∀ x : Dt, x.kind.isSome = true → inB 1 1000000000000000 x = false → Q x) : F_law_odd [.hand, .d (.int 1000000000000001)] Q E := by
  rw [F_law_odd_eq]; unfold S_law_odd
  walk_at "wp"
  refine fun r hr => ?_
  refine ix_mem (by show r < 8; omega) fun x hx => ?_
  simp only [List.mem_cons, List.not_mem_nil, or_false] at hx
  rcases hx with rfl | rfl | rfl | rfl | rfl | rfl | rfl | rfl <;> exact k _ rfl rfl
theorem law_wrong_weights_ok {Q : Dt → Prop} {E : Xc → Prop} (k : ∀ (a : Dt) (z : Int), a.kind.isSome = true → (∀ x ∈ itemsOf a, x.kind.isSome = true) → badWts a = some z → -1 ≤ z → z ≤ 24 → Q (.tup [a, .int z])) : F_law_wrong_weights [.hand] Q E := by
  rw [F_law_wrong_weights_eq]; unfold S_law_wrong_weights
  walk_at "wp"
  refine fun way hway => ?_
  rw [S_law_wrong_weights_r2_eq]
  walk_at "wp"
  refine iteQ (fun _ => fun r hr => ?_) fun c0 => ?_
  · refine ix_mem (by show r < 4; omega) fun x hx => ?_
    simp only [List.mem_cons, List.not_mem_nil, or_false] at hx
    rcases hx with rfl | rfl | rfl | rfl <;> (walk_at "wp"; exact k _ (-1) rfl (fun x hx => (nomatch hx)) rfl (by omega) (by omega))
  rw [S_law_wrong_weights_r4_eq]
  walk_at "wp"
  refine iteQ (fun _ => fun r hr => ?_) fun c1 => ?_
  · refine ⟨⟨by omega, by omega, by decide⟩, by rw [show Int.toNat 24 = 24 from rfl, List.flatten_replicate_singleton, List.length_replicate]; omega, ?_⟩
    refine k _ (-1) rfl (fun x hx => ?_) rfl (by omega) (by omega)
    have hx : x ∈ [Dt.int 0] ++ (List.replicate 24 [Dt.int (1 + (r : Nat))]).flatten := hx
    rcases List.mem_append.mp hx with h | h
    · rw [List.mem_singleton.mp h]; rfl
    · obtain ⟨l, h1, h2⟩ := List.mem_flatten.mp h
      rw [(List.mem_replicate.mp h1).2] at h2
      rw [List.mem_singleton.mp h2]; rfl
  rw [S_law_wrong_weights_r6_eq]
  walk_at "wp"
  refine fun m hm => ⟨by omega, ?_⟩
  refine lc_wts (n := m) (by rw [List.length_map, List.length_range]; omega) (by omega) (fun x hx K1 hK => ?_) fun g gl G => ?_
  · obtain ⟨i, _, rfl⟩ := List.mem_map.mp hx
    walk_at "wp"
    exact fun r hr => hK _ (by omega) (by omega)
  walk_at "wp"
  rw [S_law_wrong_weights_r7_eq]
  walk_at "wp"
  refine ⟨⟨by omega, by omega⟩, fun j hj => ?_⟩
  rw [S_law_wrong_weights_r8_eq]
  walk_at "wp"
  rw [cutG_take (show (j : Int) = (j : Nat) from rfl), cutG_drop (show (j : Int) = (j : Nat) from rfl), ← List.map_take, ← List.map_drop]
  refine law_odd_ok fun x xk xb => ?_
  walk_at "wp"
  have jl : j ≤ g.length := by omega
  have bad : ∀ ys : List Dt, badAt (inB 1 1000000000000000) ((g.take j).map Dt.int ++ x :: ys) = some j := fun ys => by
    refine badAt_some (y := x) (fun i y hi hy => ?_) ?_ xb
    · rw [List.getElem?_append_left (by rw [List.length_map, List.length_take]; omega)] at hy
      obtain ⟨u, hu, rfl⟩ := map_get hy
      have := G u (List.mem_of_mem_take (List.mem_of_getElem? hu))
      exact inB_int this.1 this.2
    · rw [List.getElem?_append_right (by rw [List.length_map, List.length_take]; omega), List.length_map, List.length_take, Nat.min_eq_left jl, Nat.sub_self]; rfl
  have fin : ∀ ys : List Dt, ys.length + j < 24 → (∀ y ∈ ys, y.kind.isSome = true) → S_law_wrong_weights_r11 ⟨fun _ => Q .non, Q, fun _ => False, fun _ => False, fun _ _ => False⟩ [.hand, .d (.int way), .d (iL g), .d (.int j), .own (.lst ((g.take j).map Dt.int ++ x :: ys))] := fun ys yl yk => by
    have kk : ∀ z ∈ (g.take j).map Dt.int ++ x :: ys, z.kind.isSome = true := fun z hz => by
      rcases List.mem_append.mp hz with h | h
      · obtain ⟨u, _, rfl⟩ := List.mem_map.mp h; rfl
      · rcases List.mem_cons.mp h with rfl | h
        · exact xk
        · exact yk z h
    have ll : ¬ 24 < ((g.take j).map Dt.int ++ x :: ys).length := by rw [List.length_append, List.length_map, List.length_take, List.length_cons]; omega
    rw [S_law_wrong_weights_r11_eq]
    walk_at "wp"
    refine fun r hr => iteQ (fun _ => ?_) fun _ => ?_
    · refine k _ _ rfl kk ?_ (by omega) (by omega)
      show (if 24 < ((g.take j).map Dt.int ++ x :: ys).length then some (-1) else (badAt (inB 1 1000000000000000) ((g.take j).map Dt.int ++ x :: ys)).map fun i : Nat => (i : Int)) = some (j : Int)
      rw [if_neg ll, bad]; rfl
    · refine k _ _ rfl kk ?_ (by omega) (by omega)
      show (if 24 < ((g.take j).map Dt.int ++ x :: ys).length then some (-1) else (badAt (inB 1 1000000000000000) ((g.take j).map Dt.int ++ x :: ys)).map fun i : Nat => (i : Int)) = some (j : Int)
      rw [if_neg ll, bad]; rfl
  have dk : ∀ y ∈ (g.drop j).map Dt.int, y.kind.isSome = true := fun y hy => by obtain ⟨u, _, rfl⟩ := List.mem_map.mp hy; rfl
  have dl : ((g.drop j).map Dt.int).length + j = g.length := by rw [List.length_map, List.length_drop]; omega
  refine ⟨by rw [List.length_take]; omega, by rw [List.length_append, List.length_map, List.length_take, List.length_drop]; show _ + 1 + _ ≤ _; omega, ?_⟩
  rw [List.append_assoc, S_law_wrong_weights_r9_eq]
  walk_at "wp"
  have f1 := fin ((g.drop j).map Dt.int) (by omega) dk
  refine iteQ (fun _ => iteQ (fun c => ?_) fun _ => f1) fun _ => f1
  refine law_odd_ok fun y yk _ => ⟨by omega, ?_⟩
  have f2 := fin ((g.drop j).map Dt.int ++ [y]) (by rw [List.length_append]; show _ + 1 + j < 24; omega) fun z hz => by
    rcases List.mem_append.mp hz with h | h
    · exact dk z h
    · rw [List.mem_singleton.mp h]; exact yk
  have e : (g.take j).map Dt.int ++ ([x] ++ (g.drop j).map Dt.int) ++ [y] = (g.take j).map Dt.int ++ x :: ((g.drop j).map Dt.int ++ [y]) := by simp
  first | (rw [e]; exact f2) | (simpa using f2)
end

section
/-! ### calls that are told -/
theorem called_letters0 {x y z : Dt} {Q : Dt → Prop} {E : Xc → Prop} (hk : x.kind.isSome = true) (hx : inB 2 4 x = false) (k : Q (.lst [.str "letters"])) : F_law_called [.d (.int 0), .d x, .d y, .d z] Q E := by
  rw [F_law_called_eq]; unfold S_law_called
  walk_at "wp"
  rw [F_weights_for_eq]; unfold S_weights_for
  walk_at "wp"
  refine check_letters_ok hk (fun h => by rw [hx] at h; cases h) fun _ => ?_
  refine ⟨true, mt_BadLetters_BadLetters, ?_⟩
  rw [if_pos rfl]
  walk_at "wp"
  exact k
theorem called_letters1 {x y z : Dt} {Q : Dt → Prop} {E : Xc → Prop} (hk : x.kind.isSome = true) (hx : inB 2 4 x = false) (k : Q (.lst [.str "letters"])) : F_law_called [.d (.int 1), .d x, .d y, .d z] Q E := by
  rw [F_law_called_eq]; unfold S_law_called
  walk_at "wp"
  rw [F_steep_by_eq]; unfold S_steep_by
  walk_at "wp"
  refine check_letters_ok hk (fun h => by rw [hx] at h; cases h) fun _ => ?_
  refine ⟨true, mt_BadLetters_BadLetters, ?_⟩
  rw [if_pos rfl]
  walk_at "wp"
  exact k
theorem called_letters2 {x y z : Dt} {Q : Dt → Prop} {E : Xc → Prop} (hk : x.kind.isSome = true) (hx : inB 2 4 x = false) (k : Q (.lst [.str "letters"])) : F_law_called [.d (.int 2), .d x, .d y, .d z] Q E := by
  rw [F_law_called_eq]; unfold S_law_called
  walk_at "wp"
  rw [F_steep_modulus_eq]; unfold S_steep_modulus
  walk_at "wp"
  refine check_letters_ok hk (fun h => by rw [hx] at h; cases h) fun _ => ?_
  refine ⟨true, mt_BadLetters_BadLetters, ?_⟩
  rw [if_pos rfl]
  walk_at "wp"
  exact k
theorem called_number0 {q : Nat} {y z : Dt} {Q : Dt → Prop} {E : Xc → Prop} (hq : 2 ≤ q) (h4 : q ≤ 4) (hk : y.kind.isSome = true) (hy : inB 0 24 y = false) (k : Q (.lst [.str "number"])) : F_law_called [.d (.int 0), .d (.int q), .d y, .d z] Q E := by
  rw [F_law_called_eq]; unfold S_law_called
  walk_at "wp"
  rw [F_weights_for_eq]; unfold S_weights_for
  walk_at "wp"
  refine letters_in hq h4 ?_
  refine check_number_ok hk (fun h => by rw [hy] at h; cases h) fun _ => ?_
  refine ⟨false, mt_BadNumber_BadLetters, ?_⟩
  rw [if_neg (by decide)]
  refine ⟨true, mt_BadNumber_BadNumber, ?_⟩
  rw [if_pos rfl]
  walk_at "wp"
  exact k
theorem called_number0b {q s : Nat} {z : Dt} {Q : Dt → Prop} {E : Xc → Prop} (hq : 2 ≤ q) (h4 : q ≤ 4) (hs : s ≤ 24) (hk : z.kind.isSome = true) (hz : inB 0 24 z = false) (k : Q (.lst [.str "number"])) : F_law_called [.d (.int 0), .d (.int q), .d (.int s), .d z] Q E := by
  rw [F_law_called_eq]; unfold S_law_called
  walk_at "wp"
  rw [F_weights_for_eq]; unfold S_weights_for
  walk_at "wp"
  refine letters_in hq h4 ?_
  refine num_in (by omega) (by omega) ?_
  refine check_number_ok hk (fun h => by rw [hz] at h; cases h) fun _ => ?_
  refine ⟨false, mt_BadNumber_BadLetters, ?_⟩
  rw [if_neg (by decide)]
  refine ⟨true, mt_BadNumber_BadNumber, ?_⟩
  rw [if_pos rfl]
  walk_at "wp"
  exact k
/-- weights that are refused: their index -/
structure BadW (a : Dt) (i : Int) : Prop where
  kn : a.kind.isSome = true
  ki : ∀ x ∈ itemsOf a, x.kind.isSome = true
  bad : badWts a = some i
theorem bad_wts {a : Dt} {i : Int} {Q : Dt → Prop} {E : Xc → Prop} (h : BadW a i) (k : E ⟨"BadWeights", [("index", .int i)]⟩) : F_check_weights [.d a] Q E :=
  check_weights_ok h.kn h.ki (fun g => by rw [h.bad] at g; cases g) fun j g => by rw [h.bad] at g; cases g; exact k
theorem called_weights1 {q : Nat} {a z : Dt} {i : Int} {Q : Dt → Prop} {E : Xc → Prop} (hq : 2 ≤ q) (h4 : q ≤ 4) (h : BadW a i) (k : Q (.lst [.str "weights", .int i])) : F_law_called [.d (.int 1), .d (.int q), .d a, .d z] Q E := by
  rw [F_law_called_eq]; unfold S_law_called
  walk_at "wp"
  rw [F_steep_by_eq]; unfold S_steep_by
  walk_at "wp"
  refine letters_in hq h4 ?_
  refine bad_wts h ?_
  refine ⟨false, mt_BadWeights_BadLetters, ?_⟩
  rw [if_neg (by decide)]
  refine ⟨false, mt_BadWeights_BadNumber, ?_⟩
  rw [if_neg (by decide)]
  refine ⟨true, mt_BadWeights_BadWeights, ?_⟩
  rw [if_pos rfl]
  walk_at "wp"
  exact ⟨rfl, _, rfl, k⟩
theorem called_weights2 {q : Nat} {a z : Dt} {i : Int} {Q : Dt → Prop} {E : Xc → Prop} (hq : 2 ≤ q) (h4 : q ≤ 4) (h : BadW a i) (k : Q (.lst [.str "weights", .int i])) : F_law_called [.d (.int 2), .d (.int q), .d a, .d z] Q E := by
  rw [F_law_called_eq]; unfold S_law_called
  walk_at "wp"
  rw [F_steep_modulus_eq]; unfold S_steep_modulus
  walk_at "wp"
  refine letters_in hq h4 ?_
  refine bad_wts h ?_
  refine ⟨false, mt_BadWeights_BadLetters, ?_⟩
  rw [if_neg (by decide)]
  refine ⟨false, mt_BadWeights_BadNumber, ?_⟩
  rw [if_neg (by decide)]
  refine ⟨true, mt_BadWeights_BadWeights, ?_⟩
  rw [if_pos rfl]
  walk_at "wp"
  exact ⟨rfl, _, rfl, k⟩
theorem called_weights3 {x a z : Dt} {i : Int} {Q : Dt → Prop} {E : Xc → Prop} (h : BadW a i) (k : Q (.lst [.str "weights", .int i])) : F_law_called [.d (.int 3), .d x, .d a, .d z] Q E := by
  rw [F_law_called_eq]; unfold S_law_called
  walk_at "wp"
  refine bad_wts h ?_
  refine ⟨false, mt_BadWeights_BadLetters, ?_⟩
  rw [if_neg (by decide)]
  refine ⟨false, mt_BadWeights_BadNumber, ?_⟩
  rw [if_neg (by decide)]
  refine ⟨true, mt_BadWeights_BadWeights, ?_⟩
  rw [if_pos rfl]
  walk_at "wp"
  exact ⟨rfl, _, rfl, k⟩
theorem called_let1 {q : Nat} {ws : List Int} {z : Dt} {Q : Dt → Prop} {E : Xc → Prop} (hq : 2 ≤ q) (h4 : q ≤ 4) (W : Wts ws) (hl : ws.length ≤ 24) (k : ∀ m : Nat, SbI q ws m → Q (.lst [.str "let", .int m])) : F_law_called [.d (.int 1), .d (.int q), .d (iL ws), .d z] Q E := by
  rw [F_law_called_eq]; unfold S_law_called
  walk_at "wp"
  refine steep_by_ok hq h4 (.inr rfl) W hl fun m hm => ?_
  walk_at "wp"
  exact k m hm
theorem called_number2 {q : Nat} {ws : List Int} {z : Dt} {Q : Dt → Prop} {E : Xc → Prop} (hq : 2 ≤ q) (h4 : q ≤ 4) (W : Wts ws) (hl : ws.length ≤ 24) (hk : z.kind.isSome = true) (hz : inB 0 24 z = false) (k : Q (.lst [.str "number"])) : F_law_called [.d (.int 2), .d (.int q), .d (iL ws), .d z] Q E := by
  rw [F_law_called_eq]; unfold S_law_called
  walk_at "wp"
  rw [F_steep_modulus_eq]; unfold S_steep_modulus
  walk_at "wp"
  refine letters_in hq h4 ?_
  refine check_wts (.inr rfl) W hl ?_
  refine check_number_ok hk (fun h => by rw [hz] at h; cases h) fun _ => ?_
  refine ⟨false, mt_BadNumber_BadLetters, ?_⟩
  rw [if_neg (by decide)]
  refine ⟨true, mt_BadNumber_BadNumber, ?_⟩
  rw [if_pos rfl]
  walk_at "wp"
  exact k
theorem called_let2 {q s : Nat} {ws : List Int} {Q : Dt → Prop} {E : Xc → Prop} (hq : 2 ≤ q) (h4 : q ≤ 4) (W : Wts ws) (hl : ws.length ≤ 24) (hs : s ≤ 24) (k : Q (.lst [.str "let", .int (abv q ws s)])) : F_law_called [.d (.int 2), .d (.int q), .d (iL ws), .d (.int s)] Q E := by
  rw [F_law_called_eq]; unfold S_law_called
  walk_at "wp"
  refine steep_modulus_ok hq h4 (.inr rfl) W hl hs ?_
  walk_at "wp"
  exact k
theorem called_let3 {x a z : Dt} {ws : List Int} {Q : Dt → Prop} {E : Xc → Prop} (ha : a = iT ws ∨ a = iL ws) (W : Wts ws) (hl : ws.length ≤ 24) (k : Q (.lst [.str "let", iT ws])) : F_law_called [.d (.int 3), .d x, .d a, .d z] Q E := by
  rw [F_law_called_eq]; unfold S_law_called
  walk_at "wp"
  refine check_wts ha W hl ?_
  walk_at "wp"
  exact k
end

section
/-! ### all refusals; the law -/
theorem sho_str {z : Str} {n : Nat} (h : (reprText z).length ≤ n) (g : PyData.strOk (reprText z) = true) : Sho n 0 (.str z) :=
  ⟨.str z, by rw [Dt.py], by rw [PyData.showable], by rw [PyData.hasDict], by rw [PyData.depth]; exact Nat.le_refl _, by rw [PyData.shown]; exact h, by rw [PyData.shown]; exact g⟩
theorem sho_word {z : Str} (h : (reprText z).length ≤ 1921) (g : PyData.strOk (reprText z) = true) : ∃ n, n ≤ 100000 ∧ Sho n 2 (.lst [.str z]) := by
  have := sho_lst (n := 1921) (m := 0) (xs := [.str z]) fun x hx => by rw [List.mem_singleton.mp hx]; exact sho_str h g
  exact ⟨_, by show 1 * 1923 + 4 ≤ _; omega, this.mono (Nat.le_refl _) (by omega)⟩
theorem sho_two {z : Str} {d : Dt} (h : (reprText z).length ≤ 1921) (g : PyData.strOk (reprText z) = true) (hd : Sho 49000 1 d) : ∃ n, n ≤ 100000 ∧ Sho n 2 (.lst [.str z, d]) := by
  have := sho_lst (n := 49000) (m := 1) (xs := [.str z, d]) fun x hx => by
    rcases List.mem_cons.mp hx with rfl | hx
    · exact (sho_str h g).mono (by omega) (by omega)
    · rw [List.mem_singleton.mp hx]; exact hd
  exact ⟨_, by show 2 * 49002 + 4 ≤ _; omega, this⟩
theorem refused_r6 {s0 s1 s2 s3 s4 s5 s6 s7 s9 s10 s11 : Sl} {xs : List Dt} {d : DEn} (h : ∀ x ∈ xs, ∃ n, n ≤ 100000 ∧ Sho n 2 x) (k : d.rt (.bl true)) : S_law_refused_r6 d [s0, s1, s2, s3, s4, s5, s6, s7, .d (.lst (xs.map fun x => .tup [x, x])), s9, s10, s11] := by
  rw [S_law_refused_r6_eq]
  walk_at "wp"
  refine dFor_inv (fun _ e => ∃ s9 s10, e = [s0, s1, s2, s3, s4, s5, s6, s7, .d (.lst (xs.map fun x => .tup [x, x])), s9, s10, s11]) ⟨_, _, rfl⟩ ?_ ?_
  · rintro i x _ K B hx ⟨s9, s10, rfl⟩ hK
    obtain ⟨y, hy, rfl⟩ := map_get hx
    obtain ⟨n, hn, S⟩ := h y (List.mem_of_getElem? hy)
    walk_at "wp"
    rw [S_law_refused_b7_eq]
    walk_at "wp"
    refine ⟨S.shw (by omega) (by decide), ⟨S.shw (by omega) (by decide), shw_ne S ?_⟩⟩
    walk_at "wp"
    exact hK _ ⟨_, _, rfl⟩
  · rintro _ ⟨s9, s10, rfl⟩
    rw [S_law_refused_r9_eq]
    walk_at "wp"
    exact k
theorem law_refused_ok {Q : Dt → Prop} {E : Xc → Prop} (k : Q (.bl true)) : F_law_refused [.hand] Q E := by
  rw [F_law_refused_eq]; unfold S_law_refused
  walk_at "wp"
  refine fun a ha => ?_
  refine ix_mem (by show a < 8; omega) fun lt hlt => ?_
  have hlt : lt.kind.isSome = true ∧ inB 2 4 lt = false := by
    simp only [List.mem_cons, List.not_mem_nil, or_false] at hlt
    rcases hlt with rfl | rfl | rfl | rfl | rfl | rfl | rfl | rfl <;> exact ⟨rfl, rfl⟩
  rw [S_law_refused_r2_eq]
  walk_at "wp"
  refine fun b hb => ?_
  refine ix_mem (by show b < 8; omega) fun nb hnb => ?_
  have hnb : nb.kind.isSome = true ∧ inB 0 24 nb = false := by
    simp only [List.mem_cons, List.not_mem_nil, or_false] at hnb
    rcases hnb with rfl | rfl | rfl | rfl | rfl | rfl | rfl | rfl <;> exact ⟨rfl, rfl⟩
  rw [S_law_refused_r3_eq]
  walk_at "wp"
  refine law_wrong_weights_ok fun wr z wk wi wb z1 z2 => ?_
  have BW : BadW wr z := ⟨wk, wi, wb⟩
  walk_at "wp"
  rw [S_law_refused_r4_eq]
  walk_at "wp"
  refine fun c hc => ?_
  rw [show (2 : Int) + (c : Int) = ((2 + c : Nat) : Int) by omega]
  have hq : 2 ≤ 2 + c := by omega
  have h4 : 2 + c ≤ 4 := by omega
  generalize 2 + c = q at hq h4 ⊢
  refine fun s hs => ?_
  have hs : s ≤ 24 := by omega
  refine ⟨by omega, ?_⟩
  refine lc_wts (n := 24) (by simp) (by omega) (fun x hx K1 hK => ?_) fun g gl G => ?_
  · obtain ⟨i, _, rfl⟩ := List.mem_map.mp hx
    walk_at "wp"
    exact fun r hr => hK _ (by omega) (by omega)
  walk_at "wp"
  have gl' : g.length ≤ 24 := by omega
  have SW := sho_wts (ws := g) fun x hx => ⟨(G x hx).1, by have := (G x hx).2; omega⟩
  rw [gl] at SW
  have p1 := abv_pos (q := q) (by omega) G.pos s
  have p2 := abv_le (q := q) (by omega) (by omega) G.pos s
  have p3 : g.sum ≤ 24 * 1000000000000000 := by
    have : ∀ us : List Int, (∀ x ∈ us, x ≤ 1000000000000000) → us.sum ≤ us.length * 1000000000000000 := by
      intro us
      induction us with
      | nil => intro _; simp
      | cons u us ih =>
        intro h
        have a := h u List.mem_cons_self
        have b := ih fun x hx => h x (List.mem_cons_of_mem _ hx)
        rw [List.sum_cons, List.length_cons]
        push_cast
        omega
    have := this g fun x hx => (G x hx).2
    omega
  rw [S_law_refused_r5_eq]
  walk_at "wp"
  refine called_letters0 hlt.1 hlt.2 ?_
  walk_at "wp"
  refine called_number0 hq h4 hnb.1 hnb.2 ?_
  walk_at "wp"
  refine called_number0b hq h4 hs hnb.1 hnb.2 ?_
  walk_at "wp"
  refine called_letters1 hlt.1 hlt.2 ?_
  walk_at "wp"
  refine called_weights1 hq h4 BW ?_
  walk_at "wp"
  refine called_let1 hq h4 G gl' fun m hm => ?_
  walk_at "wp"
  refine law_steep_ok hq h4 gl' fun m2 hm2 => ?_
  obtain rfl := hm.uniq hm2
  have ml : m ≤ 24 := by have := hm.1; omega
  walk_at "wp"
  refine called_letters2 hlt.1 hlt.2 ?_
  walk_at "wp"
  refine called_weights2 hq h4 BW ?_
  walk_at "wp"
  refine called_number2 hq h4 G gl' hnb.1 hnb.2 ?_
  walk_at "wp"
  refine called_let2 hq h4 G gl' hs ?_
  walk_at "wp"
  refine law_least_modulus_ok hq h4 ?_
  walk_at "wp"
  refine called_weights3 BW ?_
  walk_at "wp"
  refine called_let3 (.inr rfl) G gl' ?_
  walk_at "wp"
  refine called_let3 (a := .tup []) (ws := []) (.inl rfl) (fun x hx => (nomatch hx)) (by decide) ?_
  walk_at "wp"
  have W1 := sho_word (z := "letters") (by decide +kernel) (by decide +kernel)
  have W2 := sho_word (z := "number") (by decide +kernel) (by decide +kernel)
  have W3 := sho_two (z := "weights") (d := .int z) (by decide +kernel) (by decide +kernel) ((sho_int (i := z) (by
    have a : (1000000000000000000 : Nat) < 2 ^ 1920 := by decide +kernel
    exact Nat.lt_of_le_of_lt (by omega) a)).mono (by omega) (by omega))
  have W4 := sho_two (z := "let") (d := .int m) (by decide +kernel) (by decide +kernel) ((sho_int (int_small (by omega) (by omega))).mono (by omega) (by omega))
  have W5 := sho_two (z := "let") (d := .int (abv q g s)) (by decide +kernel) (by decide +kernel) ((sho_int (int_small (by omega) (by omega))).mono (by omega) (by omega))
  have W6 := sho_two (z := "let") (d := iT g) (by decide +kernel) (by decide +kernel) (SW.1.mono (by omega) (by omega))
  have W7 := sho_two (z := "let") (d := .tup []) (by decide +kernel) (by decide +kernel) ((sho_tup (n := 0) (m := 0) (xs := []) fun x hx => (nomatch hx)).mono (by decide) (by omega))
  refine ⟨by omega, ?_⟩
  refine refused_r6 (xs := [.lst [.str "letters"], .lst [.str "number"], .lst [.str "number"], .lst [.str "letters"], .lst [.str "weights", .int z], .lst [.str "let", .int m], .lst [.str "letters"], .lst [.str "weights", .int z], .lst [.str "number"], .lst [.str "let", .int (abv q g s)], .lst [.str "weights", .int z], .lst [.str "let", iT g], .lst [.str "let", .tup []]]) (fun x hx => ?_) ?_
  case refine_2 => exact k
  simp only [List.mem_cons, List.not_mem_nil, or_false] at hx
  rcases hx with rfl | rfl | rfl | rfl | rfl | rfl | rfl | rfl | rfl | rfl | rfl | rfl | rfl
  all_goals first | exact W1 | exact W2 | exact W3 | exact W4 | exact W5 | exact W6 | exact W7
theorem goal : Goal := by
  unfold Goal LawGoal S_law
  walk_at "wp"
  refine law_told_right_ok ?_
  walk_at "wp"
  refine law_any_right_ok ?_
  walk_at "wp"
  rw [S_law_r4_eq]
  walk_at "wp"
  refine law_missed_right_ok ?_
  walk_at "wp"
  exact law_refused_ok rfl
end

end Mine
namespace Mine
open PySem PySem.Spec PyProof.Rows L2
local macro_rules | `(tactic| walk_at "rd") => `(tactic| try simp only [tMk1, iEnumA, iSeq, tPar3, tAugS, ipI, rRepA, rIxA, tCallSD, rExtend, tDNewK, iZipS, tXf, tSeq, tAsg, tCB, tCons, tNil, tVar, tOp, tUn, rI, rI0, rU, gName, gNil, gCons, gSub, rSetL, tC, tRet, tRetN, tNext, tIfS, tTest, tB, tAnd, tOr, tNot, tAndV, tOrV, tNotV, tIf,
  tDrop, tCall, tCallS, tPar, tAug, ipI, tBreak, tCont, tTup, tLst, rEq_int, rNe_int, rEq_bl, rNe_bl, rEq_str, rNe_str, HO.lst.injEq, HO.tup.injEq, Bool.not_eq_true', decide_eq_false_iff_not, rIxH, rIxTH, rCat, tSl, tPart, tNoPart, tBM, rAppend, L2.start, tFor_eq, tLc_eq, iList, iTup, iRng1, iRng2, iEnum, iZip, cx_K, cx_prog, cx_w, cx_nK, forall_const, tYes, wipe, List.foldl_cons, List.foldl_nil, and_assoc, List.map_cons, List.map_nil, List.length_cons, List.length_nil, List.replicate, List.append_nil, List.cons_append, List.nil_append,
  List.getElem?_cons_zero, List.getElem?_cons_succ, List.set_cons_zero, List.set_cons_succ, Nat.zero_add, Nat.add_zero, Nat.reduceAdd, Nat.reduceSub, Option.some.injEq, V.int.injEq, V.bl.injEq, V.ref.injEq, V.str.injEq,
  List.cons.injEq, and_true, true_and, exists_eq_left, exists_eq_left', exists_eq_right, exists_const, exists_eq, exists_and_left, exists_and_right, upd_same, upd_upd, atI_0, atI_1, atI_2, atI_3, ixN_4_0, ixN_4_1, ixN_4_2, ixN_4_3, some_lst, some_tup, decide_eq_true_eq, reduceCtorEq,
  V.int.injEq, Bool.true_eq_false, Bool.false_eq_true, if_true, if_false, ite_true, ite_false, eq_self, not_true_eq_false, not_false_eq_true, decide_true, decide_false, Bool.not_true, Bool.not_false, false_and, and_false, exists_false])
local macro_rules | `(tactic| walk_at "mono") => `(tactic| repeat (first | with_reducible exact mon_var _ | with_reducible exact mon_c _ | with_reducible exact mon_rI _ _ | with_reducible exact mon_rI0 _ | with_reducible exact mon_rEq | with_reducible exact mon_rNe | with_reducible refine mon_test ?_ | with_reducible refine mon_op ?_ ?_ ?_ | with_reducible refine mon_and ?_ ?_ | with_reducible refine mon_or ?_ ?_ | with_reducible exact mon_rU _ | with_reducible refine mon_un ?_ ?_))
local macro_rules | `(tactic| walk_at "sd") => `(tactic| first | assumption | omega | (unfold CMul; omega) | (unfold CDiv; omega) | rfl | decide)
local macro_rules | `(tactic| walk_at "go") => `(tactic| repeat (refine And.intro (by first | assumption | omega | exact tyL (by assumption) | (unfold CMul; omega) | (unfold CDiv; omega) | rfl | decide) ?_))
theorem ok_law_hand {P : Program} {w : World} {K : PySem.W.Frag} {mg : Str → Option Value} {base : Heap} (T : Txt K mg) : ∃ fd, FnOk P w K mg base CX0 1 (He.ga K "_law_hand") fd P_law_hand (sp_hand K) ∧ D_law_hand K (He.ga K "_law_hand") fd := by
  obtain ⟨fd, F⟩ := T.F_law_hand
  refine ⟨fd, F.ok sc_law_hand (fun vs H Q E h => ?_) (fun cdv A outer s H vs Q E hr h => ?_), F⟩
  · obtain ⟨a, ns, rfl, _⟩ := h
    rfl
  ·
    obtain ⟨a, ns, rfl, hS, hl, q⟩ := h
    refine ⟨_, PSs.nox (pss_cons (ps_set (i := 1) sc_law_hand.nd rfl (by first | exact Or.inl rfl | exact Or.inr rfl) (pe_op op_add (pe_callB call_len_seq (by rfl) T.z_len (by decide +kernel) (pa_cons (pv 0) pa_nil)) pe_int))
    (pss_cons (ps_set (i := 2) sc_law_hand.nd rfl (by first | exact Or.inl rfl | exact Or.inr rfl) (pe_lst pa_nil))
    (pss_cons (ps_for PassesOwn.never rfl (pi_list (pv 0)) (pg_name (i := 3) sc_law_hand.nd rfl (by first | exact Or.inl rfl | exact Or.inr rfl))
    (pss_cons (ps_set (i := 1) sc_law_hand.nd rfl (by first | exact Or.inl rfl | exact Or.inr rfl) (pe_op op_mod (pe_callTy call_intI (by rfl) T.z_int (by decide +kernel) (pa_cons (pe_op op_add (pe_op op_mul (pv 1) pe_int) (pe_callTy call_intI (by rfl) T.z_int (by decide +kernel) (pa_cons (pv 3) pa_nil))) pa_nil)) pe_int))
    (pss_one (ps_expr (pe_bm PySem.F.plainAttrs_list PySem.F.slot_list_append PySem.F.type_list_append mt_append (pv 2) (pa_cons (pe_callB call_abs (by rfl) T.z_abs (by decide +kernel) (pa_cons (pe_callTy call_intI (by rfl) T.z_int (by decide +kernel) (pa_cons (pv 3) pa_nil)) pa_nil)) pa_nil))))))
    (pss_one (ps_ret (pe_lst (pa_cons (pv 2) (pa_cons pe_int (pa_cons pe_int (pa_cons (pv 1) pa_nil)))))))))), ?_⟩
    walk_at "rd"
    refine ⟨ns.map V.int, .inl hS, by decide, fun c hc => ⟨⟨_, (same_upd hc).seq hS⟩, ?_⟩⟩
    refine Loop.by (walk_list (xs := ns.map V.int)) (i_hand H a c) ⟨_, none, [], rfl, rfl, upd_same, by simp, same_upd hc, by omega, by rw [List.length_map]; omega⟩
      (fun i σ H' _ ⟨_, _, _, _, _, _, _, sm, _⟩ => sm.seq hS) ?_ ?_
    · rintro i x σ H' H'' hi ⟨tot, v3, cells, rfl, hz, hc', hp, sm, h0, h1⟩ ⟨rfl, hx⟩
      rw [List.length_map] at hi
      rw [List.getElem?_map, List.getElem?_eq_getElem hi] at hx
      obtain rfl := Option.some.inj hx
      walk_at "rd"
      walk_at "go"
      refine ⟨_, hc', by rw [List.length_map]; exact small1000 (by omega), _, _, cells ++ [if ns[i] < 0 then -ns[i] else ns[i]], rfl, by simp [hz], by rw [upd_same, List.map_append]; rfl, ?_, ?_, by omega, by omega⟩
      · intro z hz
        rcases List.mem_append.mp hz with h | h
        · exact hp z h
        · rw [List.mem_singleton] at h; rw [h]; split <;> omega
      · intro b o e
        rw [upd_ne (ne_of_none e hc)]; exact sm b o e
    · rintro σ H' ⟨tot, v3, cells, rfl, hz, hc', hp, sm, h0, h1⟩
      walk_at "rd"
      rw [List.length_map] at hz
      refine ⟨by decide, fun p hp' => q _ p (sm.trans (same_upd hp')) (sm.free hp') ⟨c, cells, 0, 0, tot, upd_same, ?_, hp, by omega, by omega, by omega, h0, h1⟩⟩
      rw [upd_ne (ne_of_none hc' hp')]; exact hc'
end Mine

namespace Mine
open PySem PySem.Spec PyProof.Rows L2
local macro_rules | `(tactic| walk_at "rd") => `(tactic| try simp only [tMk1, iEnumA, iSeq, tPar3, tAugS, ipI, rRepA, rIxA, tCallSD, rExtend, tDNewK, iZipS, tXf, tSeq, tAsg, tCB, tCons, tNil, tVar, tOp, tUn, rI, rI0, rU, gName, gNil, gCons, gSub, rSetL, tC, tRet, tRetN, tNext, tIfS, tTest, tB, tAnd, tOr, tNot, tAndV, tOrV, tNotV, tIf,
  tDrop, tCall, tCallS, tPar, tAug, ipI, tBreak, tCont, tTup, tLst, rEq_int, rNe_int, rEq_bl, rNe_bl, rEq_str, rNe_str, HO.lst.injEq, HO.tup.injEq, Bool.not_eq_true', decide_eq_false_iff_not, rIxH, rIxTH, rCat, tSl, tPart, tNoPart, tBM, rAppend, L2.start, tFor_eq, tLc_eq, iList, iTup, iRng1, iRng2, iEnum, iZip, cx_K, cx_prog, cx_w, cx_nK, forall_const, tYes, wipe, List.foldl_cons, List.foldl_nil, and_assoc, List.map_cons, List.map_nil, List.length_cons, List.length_nil, List.replicate, List.append_nil, List.cons_append, List.nil_append,
  List.getElem?_cons_zero, List.getElem?_cons_succ, List.set_cons_zero, List.set_cons_succ, Nat.zero_add, Nat.add_zero, Nat.reduceAdd, Nat.reduceSub, Option.some.injEq, V.int.injEq, V.bl.injEq, V.ref.injEq, V.str.injEq,
  List.cons.injEq, and_true, true_and, exists_eq_left, exists_eq_left', exists_eq_right, exists_const, exists_eq, exists_and_left, exists_and_right, upd_same, upd_upd, atI_0, atI_1, atI_2, atI_3, ixN_4_0, ixN_4_1, ixN_4_2, ixN_4_3, some_lst, some_tup, decide_eq_true_eq, reduceCtorEq,
  V.int.injEq, Bool.true_eq_false, Bool.false_eq_true, if_true, if_false, ite_true, ite_false, eq_self, not_true_eq_false, not_false_eq_true, decide_true, decide_false, Bool.not_true, Bool.not_false, false_and, and_false, exists_false])
local macro_rules | `(tactic| walk_at "mono") => `(tactic| repeat (first | with_reducible exact mon_var _ | with_reducible exact mon_c _ | with_reducible exact mon_rI _ _ | with_reducible exact mon_rI0 _ | with_reducible exact mon_rEq | with_reducible exact mon_rNe | with_reducible refine mon_test ?_ | with_reducible refine mon_op ?_ ?_ ?_ | with_reducible refine mon_and ?_ ?_ | with_reducible refine mon_or ?_ ?_ | with_reducible exact mon_rU _ | with_reducible refine mon_un ?_ ?_))
local macro_rules | `(tactic| walk_at "sd") => `(tactic| first | assumption | omega | (unfold CMul; omega) | (unfold CDiv; omega) | rfl | decide)
local macro_rules | `(tactic| walk_at "go") => `(tactic| repeat (refine And.intro (by first | assumption | omega | exact tyL (by assumption) | (unfold CMul; omega) | (unfold CDiv; omega) | rfl | decide) ?_))
theorem ok_law_mixed {P : Program} {w : World} {K : PySem.W.Frag} {mg : Str → Option Value} {base : Heap} (T : Txt K mg) : ∃ fd, FnOk P w K mg base CX0 1 (He.ga K "_law_mixed") fd P_law_mixed sp_mixed ∧ D_law_mixed K (He.ga K "_law_mixed") fd := by
  obtain ⟨fd, F⟩ := T.F_law_mixed
  refine ⟨fd, F.ok sc_law_mixed (fun vs H Q E h => ?_) (fun cdv A outer s H vs Q E hr h => ?_), F⟩
  · obtain ⟨n, t, rfl, _⟩ := h
    rfl
  ·
    obtain ⟨n, t, rfl, ⟨h1, h2, h3, h4⟩, q⟩ := h
    refine ⟨_, PSs.nox (pss_cons (ps_set (i := 2) sc_law_mixed.nd rfl (by first | exact Or.inl rfl | exact Or.inr rfl) (pe_op op_mod (pe_callTy call_intI (by rfl) T.z_int (by decide +kernel) (pa_cons (pe_op op_add (pe_op op_add (pe_op op_mul (pv 0) pe_int) (pe_op op_mul (pv 1) pe_int)) pe_int) pa_nil)) pe_int))
    (pss_cons (ps_set (i := 3) sc_law_mixed.nd rfl (by first | exact Or.inl rfl | exact Or.inr rfl) (pe_op op_mod (pe_callTy call_intI (by rfl) T.z_int (by decide +kernel) (pa_cons (pe_op op_add (pe_op op_add (pe_op op_mul (pv 2) (pv 2)) (pe_op op_mul (pv 1) pe_int)) (pe_op op_fdiv (pv 2) pe_int)) pa_nil)) pe_int))
    (pss_one (ps_ret (pe_op op_fdiv (pe_callTy call_intI (by rfl) T.z_int (by decide +kernel) (pa_cons (pe_op op_mod (pe_callTy call_intI (by rfl) T.z_int (by decide +kernel) (pa_cons (pe_op op_add (pe_op op_mul (pv 3) pe_int) (pe_op op_fdiv (pv 2) pe_int)) pa_nil)) pe_int) pa_nil)) pe_int))))), ?_⟩
    walk_at "rd"
    walk_at "go"
    exact q _ (mixedN_pos n t)
end Mine

namespace Mine
open PySem PySem.Spec PyProof.Rows L2
local macro_rules | `(tactic| walk_at "rd") => `(tactic| try simp only [tMk1, iEnumA, iSeq, tPar3, tAugS, ipI, rRepA, rIxA, tCallSD, rExtend, tDNewK, iZipS, tXf, tSeq, tAsg, tCB, tCons, tNil, tVar, tOp, tUn, rI, rI0, rU, gName, gNil, gCons, gSub, rSetL, tC, tRet, tRetN, tNext, tIfS, tTest, tB, tAnd, tOr, tNot, tAndV, tOrV, tNotV, tIf,
  tDrop, tCall, tCallS, tPar, tAug, ipI, tBreak, tCont, tTup, tLst, rEq_int, rNe_int, rEq_bl, rNe_bl, rEq_str, rNe_str, HO.lst.injEq, HO.tup.injEq, Bool.not_eq_true', decide_eq_false_iff_not, rIxH, rIxTH, rCat, tSl, tPart, tNoPart, tBM, rAppend, L2.start, tFor_eq, tLc_eq, iList, iTup, iRng1, iRng2, iEnum, iZip, cx_K, cx_prog, cx_w, cx_nK, forall_const, tYes, wipe, List.foldl_cons, List.foldl_nil, and_assoc, List.map_cons, List.map_nil, List.length_cons, List.length_nil, List.replicate, List.append_nil, List.cons_append, List.nil_append,
  List.getElem?_cons_zero, List.getElem?_cons_succ, List.set_cons_zero, List.set_cons_succ, Nat.zero_add, Nat.add_zero, Nat.reduceAdd, Nat.reduceSub, Option.some.injEq, V.int.injEq, V.bl.injEq, V.ref.injEq, V.str.injEq,
  List.cons.injEq, and_true, true_and, exists_eq_left, exists_eq_left', exists_eq_right, exists_const, exists_eq, exists_and_left, exists_and_right, upd_same, upd_upd, atI_0, atI_1, atI_2, atI_3, ixN_4_0, ixN_4_1, ixN_4_2, ixN_4_3, some_lst, some_tup, decide_eq_true_eq, reduceCtorEq,
  V.int.injEq, Bool.true_eq_false, Bool.false_eq_true, if_true, if_false, ite_true, ite_false, eq_self, not_true_eq_false, not_false_eq_true, decide_true, decide_false, Bool.not_true, Bool.not_false, false_and, and_false, exists_false])
local macro_rules | `(tactic| walk_at "mono") => `(tactic| repeat (first | with_reducible exact mon_var _ | with_reducible exact mon_c _ | with_reducible exact mon_rI _ _ | with_reducible exact mon_rI0 _ | with_reducible exact mon_rEq | with_reducible exact mon_rNe | with_reducible refine mon_test ?_ | with_reducible refine mon_op ?_ ?_ ?_ | with_reducible refine mon_and ?_ ?_ | with_reducible refine mon_or ?_ ?_ | with_reducible exact mon_rU _ | with_reducible refine mon_un ?_ ?_))
local macro_rules | `(tactic| walk_at "sd") => `(tactic| first | assumption | omega | (unfold CMul; omega) | (unfold CDiv; omega) | rfl | decide)
local macro_rules | `(tactic| walk_at "go") => `(tactic| repeat (refine And.intro (by first | assumption | omega | exact tyL (by assumption) | (unfold CMul; omega) | (unfold CDiv; omega) | rfl | decide) ?_))
theorem ok_law_take {P : Program} {w : World} {K : PySem.W.Frag} {mg : Str → Option Value} {base : Heap} (T : Txt K mg) : ∃ fd, FnOk P w K mg base CX0 2 (He.ga K "_law_take") fd P_law_take (spD K F_law_take) ∧ D_law_take K (He.ga K "_law_take") fd := by
  obtain ⟨fd, F⟩ := T.F_law_take
  obtain ⟨fd_law_mixed, G_law_mixed, D_law_mixed⟩ := ok_law_mixed (P := P) (w := w) (base := base) T
  have k_law_mixed := D_law_mixed.kp
  have b_law_mixed := bd_law_mixed D_law_mixed
  refine ⟨fd, F.ok sc_law_take (fun vs H Q E h => ?_) (fun cdv A outer s H vs Q E hr h => ?_), F⟩
  · obtain ⟨h, m, rfl, _⟩ := take_spD _ _ _ _ h -- := h
    rfl
  ·
    replace h := take_spD _ _ _ _ h
    obtain ⟨h, m, rfl, ⟨c, cells, at_, big, mix, hH, hC, hp, ha, hl, hb, hm, hm2⟩, h1, h2, q⟩ := h
    have wd : CDivW big m := wide_div (b := 256) h1 (by rw [show (2 : Nat) ^ 256 = 115792089237316195423570985008687907853269984665640564039457584007913129639936 by decide +kernel]; omega) (by decide) (by decide)
    have hc : c ≠ h := ne_of hC hH (by
      intro z
      cases cells with
      | nil => cases z
      | cons x r => cases z)
    have k : ∀ xs, upd H h (.lst xs) c = some (.lst (cells.map V.int)) := fun xs => by rw [upd_ne hc]; exact hC
    have key : ∀ (ai : Int) (a2 : Nat) (b2 m2 : Int), ai = a2 → a2 ≤ cells.length → 0 ≤ b2 → 0 ≤ m2 → m2 < 2147483563 → HandN H h (.lst [.ref c, .int ai, .int b2, .int m2]) :=
      fun ai a2 b2 m2 e x1 x2 x3 x4 => ⟨⟨c, cells, a2, b2, m2, by rw [upd_same, e], k _, hp, x1, hl, x2, x3, x4⟩, c, _, _, hH, rfl⟩
    have emod : ∀ z : Int, 0 ≤ z % m ∧ z % m < m := fun z => ⟨Int.emod_nonneg _ (by omega), Int.emod_lt_of_pos _ h1⟩
    have ediv : ∀ z : Int, 0 ≤ z → 0 ≤ z / m := fun z hz => Int.ediv_nonneg hz (by omega)
    have fresh : ∀ (ai : Int) (a2 : Nat) (b2 : Int), ai = a2 → a2 ≤ cells.length → 0 ≤ b2 → (0 : Int) < 2147483549 ∧ sp_mixed [V.int ((mix + 1) % 2147483549), V.int ai] (upd H h (.lst [.ref c, .int ai, .int b2, .int ((mix + 1) % 2147483549)]))
        (fun x H1 => ∃ i, x = V.int i ∧ 0 < m ∧ Q (V.int (i % m)) H1) E0 := fun ai a2 b2 e x1 x2 => by
      refine ⟨by decide, _, _, rfl, by omega, fun r hr => ⟨r, rfl, h1, q _ _ (emod r).1 (emod r).2 (key ai a2 b2 _ e x1 x2 (by omega) (by omega))⟩⟩
    refine ⟨_, PSs.nox (pss_cons (ps_if (PW.pt (pw_and (pt_cmpR op_eq (pe_ix ix_H (pv 0) pe_int (fun _ _ => rfl)) pe_int (nomark _)) (pw_and1 (pt_cmpR op_lt (pe_ix ix_H (pv 0) pe_int (fun _ _ => rfl)) (pe_callB call_lenL (by rfl) T.z_len (by decide +kernel) (pa_cons (pe_ix ix_H (pv 0) pe_int (fun _ _ => rfl)) pa_nil)) (nomark _)))))
    (pss_cons (ps_set (i := 2) sc_law_take.nd rfl (by first | exact Or.inl rfl | exact Or.inr rfl) (pe_ix ix_H (pe_ix ix_H (pv 0) pe_int (fun _ _ => rfl)) (pe_ix ix_H (pv 0) pe_int (fun _ _ => rfl)) (fun _ _ => rfl)))
    (pss_cons (ps_asg (pe_op op_add (pe_ix ix_H (pv 0) pe_int (fun _ _ => rfl)) pe_int) (pg_sub (pv 0) pe_int set_list))
    (pss_cons (ps_if (pt_cmpR op_lt (pv 2) (pe_op op_pow pe_int pe_int) (nomark _))
    (pss_one (ps_ret (pe_op op_mod (pe_callTy call_intI (by rfl) T.z_int (by decide +kernel) (pa_cons (pe_call G_law_mixed (hr.mono (by decide)) rfl T.g__law_mixed k_law_mixed b_law_mixed .nil pass0 (pa_cons (pe_op op_mod (pe_callTy call_intI (by rfl) T.z_int (by decide +kernel) (pa_cons (pv 2) pa_nil)) pe_int) (pa_cons (pe_ix ix_H (pv 0) pe_int (fun _ _ => rfl)) pa_nil))) pa_nil)) (pv 1))))
    pss_nil)
    (pss_one (ps_asg (pv 2) (pg_sub (pv 0) pe_int set_list))))))
    pss_nil)
    (pss_cons (ps_if (pt_cmpR op_gt (pe_ix ix_H (pv 0) pe_int (fun _ _ => rfl)) pe_int (nomark _))
    (pss_cons (ps_set (i := 3) sc_law_take.nd rfl (by first | exact Or.inl rfl | exact Or.inr rfl) (pe_ix ix_H (pv 0) pe_int (fun _ _ => rfl)))
    (pss_cons (ps_asg (pe_op op_fdivW (pe_callTy call_intI (by rfl) T.z_int (by decide +kernel) (pa_cons (pv 3) pa_nil)) (pv 1)) (pg_sub (pv 0) pe_int set_list))
    (pss_one (ps_ret (pe_op op_mod (pe_callTy call_intI (by rfl) T.z_int (by decide +kernel) (pa_cons (pv 3) pa_nil)) (pv 1))))))
    pss_nil)
    (pss_cons (ps_asg (pe_op op_mod (pe_callTy call_intI (by rfl) T.z_int (by decide +kernel) (pa_cons (pe_op op_add (pe_ix ix_H (pv 0) pe_int (fun _ _ => rfl)) pe_int) pa_nil)) pe_int) (pg_sub (pv 0) pe_int set_list))
    (pss_one (ps_ret (pe_op op_mod (pe_callTy call_intI (by rfl) T.z_int (by decide +kernel) (pa_cons (pe_call G_law_mixed (hr.mono (by decide)) rfl T.g__law_mixed k_law_mixed b_law_mixed .nil pass0 (pa_cons (pe_ix ix_H (pv 0) pe_int (fun _ _ => rfl)) (pa_cons (pe_ix ix_H (pv 0) pe_int (fun _ _ => rfl)) pa_nil))) pa_nil)) (pv 1))))))), ?_⟩
    simp only [tMk1, iEnumA, iSeq, tPar3, tAugS, ipI, rRepA, rIxA, tCallSD, rExtend, tDNewK, iZipS, tXf, tSeq, tAsg, tCB, tCons, tNil, tVar, tOp, tUn, rI, rI0, rU, gName, gNil, gCons, gSub, rSetL, tC, tRet, tRetN, tNext, tIfS, tTest, tB, tAnd, tOr, tNot, tAndV, tOrV, tNotV, tIf,
  tDrop, tCall, tCallS, tPar, tAug, ipI, tBreak, tCont, tTup, tLst, rEq_int, rNe_int, rEq_bl, rNe_bl, rEq_str, rNe_str, HO.lst.injEq, HO.tup.injEq, Bool.not_eq_true', decide_eq_false_iff_not, rIxH, rIxTH, rCat, tSl, tPart, tNoPart, tBM, rAppend, L2.start, tFor_eq, tLc_eq, iList, iTup, iRng1, iRng2, iEnum, iZip, cx_K, cx_prog, cx_w, cx_nK, forall_const, tYes, wipe, List.foldl_cons, List.foldl_nil, and_assoc, List.map_cons, List.map_nil, List.length_cons, List.length_nil, List.replicate, List.append_nil, List.cons_append, List.nil_append,
  List.getElem?_cons_zero, List.getElem?_cons_succ, List.set_cons_zero, List.set_cons_succ, Nat.zero_add, Nat.add_zero, Nat.reduceAdd, Nat.reduceSub, Option.some.injEq, V.int.injEq, V.bl.injEq, V.ref.injEq, V.str.injEq,
  List.cons.injEq, and_true, true_and, exists_eq_left, exists_eq_left', exists_eq_right, exists_const, exists_eq, exists_and_left, exists_and_right, upd_same, upd_upd, atI_0, atI_1, atI_2, atI_3, ixN_4_0, ixN_4_1, ixN_4_2, ixN_4_3, some_lst, some_tup, decide_eq_true_eq, reduceCtorEq,
  V.int.injEq, Bool.true_eq_false, Bool.false_eq_true, if_true, if_false, ite_true, ite_false, eq_self, not_true_eq_false, not_false_eq_true, decide_true, decide_false, Bool.not_true, Bool.not_false, false_and, and_false, exists_false, hH, hC]
    have old : if 0 < big then CDivW big m ∧ 0 < m ∧ Q (V.int (big % m)) (upd H h (HO.lst [V.ref c, V.int ↑at_, V.int (big / m), V.int mix]))
        else (0 : Int) < 2147483549 ∧ sp_mixed [V.int ((mix + 1) % 2147483549), V.int ↑at_] (upd H h (HO.lst [V.ref c, V.int ↑at_, V.int big, V.int ((mix + 1) % 2147483549)])) (fun x H1 => ∃ i, x = V.int i ∧ 0 < m ∧ Q (V.int (i % m)) H1) E0 :=
      ite2 (fun _ => ⟨wd, h1, q _ _ (emod big).1 (emod big).2 (key _ at_ _ _ rfl ha (ediv _ hb) hm hm2)⟩) (fun _ => fresh _ at_ _ rfl ha hb)
    refine ite2 (fun _ => ite2 (fun e => ?_) (fun _ => old)) (fun _ => old)
    have hlt : at_ < cells.length := by rw [List.length_map] at e; omega
    have hz := hp cells[at_] (List.getElem_mem hlt)
    refine ⟨.int cells[at_], atI_nat (by rw [List.getElem?_map, List.getElem?_eq_getElem hlt]; rfl), ⟨by decide, by decide, by decide⟩, _, rfl, ite2 (fun e2 => ?_) (fun e2 => ?_)⟩
    · refine ⟨_, rfl, by decide, _, _, rfl, by omega, fun r hr => ⟨r, rfl, h1, q _ _ (emod r).1 (emod r).2 (key _ (at_ + 1) _ _ (by omega) (by omega) hb hm hm2)⟩⟩
    · refine ⟨_, rfl, ite2 (fun e3 => ?_) (fun e3 => fresh _ (at_ + 1) _ (by omega) (by omega) hz)⟩
      exact ⟨_, rfl, wd, _, rfl, h1, q _ _ (emod _).1 (emod _).2 (key _ (at_ + 1) _ _ (by omega) (by omega) (ediv _ hz) hm hm2)⟩
end Mine

namespace Mine
open PySem PySem.Spec PyProof.Rows L2
theorem ok_law_steep_weights {P : Program} {w : World} {K : PySem.W.Frag} {mg : Str → Option Value} {base : Heap} (T : Txt K mg) : ∃ fd, FnOk P w K mg base CX0 3 (He.ga K "_law_steep_weights") fd P_law_steep_weights (spO K F_law_steep_weights) ∧ D_law_steep_weights K (He.ga K "_law_steep_weights") fd := by
  obtain ⟨fd, F⟩ := T.F_law_steep_weights
  obtain ⟨fd_law_take, G_law_take, D_law_take⟩ := ok_law_take (P := P) (w := w) (base := base) T
  have k_law_take := D_law_take.kp
  have b_law_take := bd_law_take D_law_take
  refine ⟨fd, F.ok sc_law_steep_weights (fun vs H Q E h => ?_) (fun cdv A outer s H vs Q E hr h => ?_), F⟩
  · rw [F_law_steep_weights_eq] at h
    exact spO_len (np := 5) (fun _ _ _ h => h.1) vs H Q E h
  · rw [F_law_steep_weights_eq] at h
    refine ⟨_, PSs.nox (pss_cons (ps_set (i := 5) sc_law_steep_weights.nd rfl (by first | exact Or.inl rfl | exact Or.inr rfl) (pe_lst pa_nil))
    (pss_cons (ps_for PassesOwn.never rfl (pi_range1 (by rfl) T.z_range (pa_cons (pv 3) pa_nil)) (pg_name (i := 6) sc_law_steep_weights.nd rfl (by first | exact Or.inl rfl | exact Or.inr rfl))
    (pss_cons (ps_set (i := 7) sc_law_steep_weights.nd rfl (by first | exact Or.inl rfl | exact Or.inr rfl) (pe_ix (ix_U (K := K) rfl) (pv 4) (pe_call G_law_take (hr.mono (by decide)) rfl T.g__law_take k_law_take b_law_take .nil pass0 (pa_cons (pv 0) (pa_cons (pe_callB (call_lenU (K := K) rfl) (by rfl) T.z_len (by decide +kernel) (pa_cons (pv 4) pa_nil)) pa_nil))) (fun _ _ => rfl)))
    (pss_one (ps_expr (pe_bm PySem.F.plainAttrs_list PySem.F.slot_list_append PySem.F.type_list_append mt_append (pv 5) (pa_cons (pe_op (op_addU rfl) (pe_op (op_addU rfl) pe_int (pe_op op_mulU (pe_op op_sub (pv 1) pe_int) (pe_callB (CallR.k (r := rSumA) (K := K) (cr_sumA rfl) rfl) (by rfl) T.z_sum (by decide +kernel) (pa_cons (pe_slice (sl_U rfl) (pv 5) (po_some (pe_callB (call_max2U rfl) (by rfl) T.z_max (by decide +kernel) (pa_cons pe_int (pa_cons (pe_op op_sub (pv 6) (pv 2)) pa_nil)))) po_none) pa_nil)))) (pe_call G_law_take (hr.mono (by decide)) rfl T.g__law_take k_law_take b_law_take .nil pass0 (pa_cons (pv 0) (pa_cons (pe_op (op_addU rfl) (pv 7) pe_int) pa_nil)))) pa_nil))))))
    (pss_one (ps_ret (pv 5))))), ?_⟩
    exact body_ofO0 rfl h fun X hd => (dso_seq (dst_own (df_lst da_nil))
    (dso_seq (dst_for (di_rng1 (db_cons (db_var 3) db_nil)) (dg_name 6)
    (dst_seq (dst_asg (dg_op od_ix (db_var 4) (DEg.bor (de_call0 dv_nil (ds_hand (i := 0) (ds_cons (dg_cb cg_len (db_cons (db_var 4) db_nil)) ds_nil))))) (dg_name 7))
    (dst_app (dg_op od_add (DEg.bor (dg_op od_add (DEg.bor (de_int 1)) (DEg.bor (dg_op od_mul (DEg.bor (dg_op od_sub (db_var 1) (DEg.bor (de_int 1)))) (DEg.bor (dg_cb cg_sum (db_cons (DEg.bor (dg_sl sg_U (db_var 5) (do_some (dg_cb cg_max2 (db_cons (DEg.bor (de_int 0)) (db_cons (DEg.bor (dg_op od_sub (db_var 6) (db_var 2))) db_nil)))) do_none)) db_nil))))))) (DEg.bor (de_call0 dv_nil (ds_hand (i := 0) (ds_cons (dg_op od_add (db_var 7) (DEg.bor (de_int 1))) ds_nil))))))))
    (dso_own 5)))
end Mine

namespace Mine
open PySem PySem.Spec PyProof.Rows L2
theorem ok_law_any_weights {P : Program} {w : World} {K : PySem.W.Frag} {mg : Str → Option Value} {base : Heap} (T : Txt K mg) : ∃ fd, FnOk P w K mg base CX0 4 (He.ga K "_law_any_weights") fd P_law_any_weights (spD K F_law_any_weights) ∧ D_law_any_weights K (He.ga K "_law_any_weights") fd := by
  obtain ⟨fd, F⟩ := T.F_law_any_weights
  obtain ⟨fd_law_take, G_law_take, D_law_take⟩ := ok_law_take (P := P) (w := w) (base := base) T
  have k_law_take := D_law_take.kp
  have b_law_take := bd_law_take D_law_take
  obtain ⟨fd_law_steep_weights, G_law_steep_weights, D_law_steep_weights⟩ := ok_law_steep_weights (P := P) (w := w) (base := base) T
  have k_law_steep_weights := D_law_steep_weights.kp
  have b_law_steep_weights := bd_law_steep_weights D_law_steep_weights
  refine ⟨fd, F.ok sc_law_any_weights (fun vs H Q E h => ?_) (fun cdv A outer s H vs Q E hr h => ?_), F⟩
  · rw [F_law_any_weights_eq] at h
    exact spD_len (np := 3) (fun _ _ _ h => h.1) vs H Q E h
  · rw [F_law_any_weights_eq] at h
    refine ⟨_, PSs.nox (pss_cons (ps_set (i := 3) sc_law_any_weights.nd rfl (by first | exact Or.inl rfl | exact Or.inr rfl) (pe_call G_law_take (hr.mono (by decide)) rfl T.g__law_take k_law_take b_law_take .nil pass0 (pa_cons (pv 0) (pa_cons pe_int pa_nil))))
    (pss_cons (ps_if (pt_cmpR (op_eqU rfl hr.units) (pv 3) pe_int (by first | exact nomark _ | rfl))
    (pss_one (ps_ret (pe_lc (own := [("_law_k", 5)]) rfl sc_law_any_weights.nd (pi_range1 (by rfl) T.z_range (pa_cons (pv 2) pa_nil)) (blkOk_by (own := [("_law_k", 5)]) (N := N_law_any_weights) (sc := defScope s_law_any_weights) (by decide +kernel)) (fun _ _ _ _ _ => (pg_name (i := 5) sc_law_any_weights.nd rfl (by first | exact Or.inl rfl | exact Or.inr rfl))) (fun _ _ _ _ _ => pts_nil) (fun _ _ _ _ _ => (pe_op (op_addU rfl) pe_int (pe_call G_law_take (hr.mono (by decide)) rfl T.g__law_take k_law_take b_law_take .nil pass0 (pa_cons (pv 0) (pa_cons pe_int pa_nil))))))))
    pss_nil)
    (pss_cons (ps_if (pt_cmpR (op_eqU rfl hr.units) (pv 3) pe_int (by first | exact nomark _ | rfl))
    (pss_one (ps_ret (pe_lc (own := [("_law_k", 5)]) rfl sc_law_any_weights.nd (pi_range1 (by rfl) T.z_range (pa_cons (pv 2) pa_nil)) (blkOk_by (own := [("_law_k", 5)]) (N := N_law_any_weights) (sc := defScope s_law_any_weights) (by decide +kernel)) (fun _ _ _ _ _ => (pg_name (i := 5) sc_law_any_weights.nd rfl (by first | exact Or.inl rfl | exact Or.inr rfl))) (fun _ _ _ _ _ => pts_nil) (fun _ _ _ _ _ => (pe_op (op_addU rfl) pe_int (pe_call G_law_take (hr.mono (by decide)) rfl T.g__law_take k_law_take b_law_take .nil pass0 (pa_cons (pv 0) (pa_cons (pe_op (op_addU rfl) (pe_op op_mulU pe_int (pv 2)) pe_int) pa_nil))))))))
    pss_nil)
    (pss_cons (ps_if (pt_cmpR (op_eqU rfl hr.units) (pv 3) pe_int (by first | exact nomark _ | rfl))
    (pss_one (ps_ret (pe_lc (own := [("_law_k", 5)]) rfl sc_law_any_weights.nd (pi_range1 (by rfl) T.z_range (pa_cons (pv 2) pa_nil)) (blkOk_by (own := [("_law_k", 5)]) (N := N_law_any_weights) (sc := defScope s_law_any_weights) (by decide +kernel)) (fun _ _ _ _ _ => (pg_name (i := 5) sc_law_any_weights.nd rfl (by first | exact Or.inl rfl | exact Or.inr rfl))) (fun _ _ _ _ _ => pts_nil) (fun _ _ _ _ _ => (pe_op (op_addU rfl) pe_int (pe_call G_law_take (hr.mono (by decide)) rfl T.g__law_take k_law_take b_law_take .nil pass0 (pa_cons (pv 0) (pa_cons (pe_op op_pow pe_int pe_int) pa_nil))))))))
    pss_nil)
    (pss_cons (ps_if (pt_cmpR (op_eqU rfl hr.units) (pv 3) pe_int (by first | exact nomark _ | rfl))
    (pss_one (ps_ret (pe_revU (pe_listRg rfl rfl T.z_list (prg_2 rfl T.z_range pe_int (pe_op (op_addU rfl) (pv 2) pe_int))))))
    pss_nil)
    (pss_cons (ps_set (i := 4) sc_law_any_weights.nd rfl (by first | exact Or.inl rfl | exact Or.inr rfl) (pe_call G_law_steep_weights (hr.mono (by decide)) rfl T.g__law_steep_weights k_law_steep_weights b_law_steep_weights .nil pass0 (pa_cons (pv 0) (pa_cons (pv 1) (pa_cons (pe_call G_law_take (hr.mono (by decide)) rfl T.g__law_take k_law_take b_law_take .nil pass0 (pa_cons (pv 0) (pa_cons (pe_op (op_addU rfl) (pv 2) pe_int) pa_nil))) (pa_cons (pv 2) (pa_cons (pe_lst (pa_cons pe_int (pa_cons pe_int (pa_cons pe_int (pa_cons pe_int (pa_cons pe_int pa_nil)))))) pa_nil)))))))
    (pss_cons (ps_if (PW.pt (pw_and (pt_cmpR op_gt (pv 3) pe_int (by first | exact nomark _ | rfl)) (pw_and1 (pt_cmpR op_gt (pv 2) pe_int (by first | exact nomark _ | rfl)))))
    (pss_cons (ps_set (i := 5) sc_law_any_weights.nd rfl (by first | exact Or.inl rfl | exact Or.inr rfl) (pe_call G_law_take (hr.mono (by decide)) rfl T.g__law_take k_law_take b_law_take .nil pass0 (pa_cons (pv 0) (pa_cons (pv 2) pa_nil))))
    (pss_one (ps_asg (pe_callB (call_max2U rfl) (by rfl) T.z_max (by decide +kernel) (pa_cons pe_int (pa_cons (pe_op op_sub (pe_op op_sub (pe_ix (ix_U (K := K) rfl) (pv 4) (pv 5) (fun _ _ => rfl)) pe_int) (pe_call G_law_take (hr.mono (by decide)) rfl T.g__law_take k_law_take b_law_take .nil pass0 (pa_cons (pv 0) (pa_cons pe_int pa_nil)))) pa_nil))) (pg_sub (pv 4) (pv 5) set_list))))
    pss_nil)
    (pss_one (ps_ret (pv 4)))))))))), ?_⟩
    exact body_of0 rfl h fun X hd => (dst_seq (dst_asg (de_call0 dv_nil (ds_hand (i := 0) (ds_cons (de_int 7) ds_nil))) (dg_name 3))
    (dst_of S_law_any_weights_r2_eq
    (dst_seq (dst_if (dt_test (dg_op od_eq (db_var 3) (DEg.bor (de_int 0))))
    (dst_ret (DEg.cln (df_lc (di_rng1 (db_cons (db_var 2) db_nil)) (dg_name 5) dt_yes (dg_op od_add (DEg.bor (de_int 1)) (DEg.bor (de_call0 dv_nil (ds_hand (i := 0) (ds_cons (de_int 3) ds_nil))))))))
    dst_next)
    (dst_of S_law_any_weights_r4_eq
    (dst_seq (dst_if (dt_test (dg_op od_eq (db_var 3) (DEg.bor (de_int 1))))
    (dst_ret (DEg.cln (df_lc (di_rng1 (db_cons (db_var 2) db_nil)) (dg_name 5) dt_yes (dg_op od_add (DEg.bor (de_int 1)) (DEg.bor (de_call0 dv_nil (ds_hand (i := 0) (ds_cons (dg_op od_add (DEg.bor (dg_op od_mul (DEg.bor (de_int 2)) (db_var 2))) (DEg.bor (de_int 2))) ds_nil))))))))
    dst_next)
    (dst_of S_law_any_weights_r6_eq
    (dst_seq (dst_if (dt_test (dg_op od_eq (db_var 3) (DEg.bor (de_int 2))))
    (dst_ret (DEg.cln (df_lc (di_rng1 (db_cons (db_var 2) db_nil)) (dg_name 5) dt_yes (dg_op od_add (DEg.bor (de_int 1)) (DEg.bor (de_call0 dv_nil (ds_hand (i := 0) (ds_cons (de_powC (a := 10) (b := 15) (c := 1000000000000000) (cpow_of (by decide +kernel)) (by decide +kernel)) ds_nil))))))))
    dst_next)
    (dst_of S_law_any_weights_r8_eq
    (dst_seq (dst_if (dt_test (dg_op od_eq (db_var 3) (DEg.bor (de_int 3))))
    (dst_ret (de_rev (DEg.bor (DEg.cln (df_listRg (de_int 1) (dg_op od_add (db_var 2) (DEg.bor (de_int 1))))))))
    dst_next)
    (dst_of S_law_any_weights_r10_eq
    (dst_seq (dst_own (df_callO0 dv_nil (ds_hand (i := 0) (ds_cons (de_var 1) (ds_cons (de_call0 dv_nil (ds_hand (i := 0) (ds_cons (dg_op od_add (db_var 2) (DEg.bor (de_int 1))) ds_nil))) (ds_cons (de_var 2) (ds_cons (DEg.cln (df_lst (da_cons (de_int 0) (da_cons (de_int 0) (da_cons (de_int 0) (da_cons (de_int 1) (da_cons (de_int 2) da_nil))))))) ds_nil)))))))
    (dst_of S_law_any_weights_r11_eq
    (dst_seq (dst_if (dt_and (dt_test (dg_op od_gt (db_var 3) (DEg.bor (de_int 4)))) (dt_test (dg_op od_gt (db_var 2) (DEg.bor (de_int 0)))))
    (dst_seq (dst_asg (de_call0 dv_nil (ds_hand (i := 0) (ds_cons (de_var 2) ds_nil))) (dg_name 5))
    (dst_of S_law_any_weights_r13_eq
    (dst_put (dg_cb cg_max2 (db_cons (DEg.bor (de_int 1)) (db_cons (DEg.bor (dg_op od_sub (DEg.bor (dg_op od_sub (DEg.bor (dg_op od_ix (db_var 4) (db_var 5))) (DEg.bor (de_int 1)))) (DEg.bor (de_call0 dv_nil (ds_hand (i := 0) (ds_cons (de_int 2) ds_nil)))))) db_nil))) (de_var 5))))
    dst_next)
    (dst_of S_law_any_weights_r14_eq
    (dst_frz 4 (dst_ret (de_var 4)))))))))))))))))
end Mine

namespace Mine
open PySem PySem.Spec PyProof.Rows L2
local macro_rules | `(tactic| walk_at "rd") => `(tactic| try simp only [tMk1, iEnumA, iSeq, tPar3, tAugS, ipI, rRepA, rIxA, tCallSD, rExtend, tDNewK, iZipS, tXf, tSeq, tAsg, tCB, tCons, tNil, tVar, tOp, tUn, rI, rI0, rU, gName, gNil, gCons, gSub, rSetL, tC, tRet, tRetN, tNext, tIfS, tTest, tB, tAnd, tOr, tNot, tAndV, tOrV, tNotV, tIf,
  tDrop, tCall, tCallS, tPar, tAug, ipI, tBreak, tCont, tTup, tLst, rEq_int, rNe_int, rEq_bl, rNe_bl, rEq_str, rNe_str, HO.lst.injEq, HO.tup.injEq, Bool.not_eq_true', decide_eq_false_iff_not, rIxH, rIxTH, rCat, tSl, tPart, tNoPart, tBM, rAppend, L2.start, tFor_eq, tLc_eq, iList, iTup, iRng1, iRng2, iEnum, iZip, cx_K, cx_prog, cx_w, cx_nK, forall_const, tYes, wipe, List.foldl_cons, List.foldl_nil, and_assoc, List.map_cons, List.map_nil, List.length_cons, List.length_nil, List.replicate, List.append_nil, List.cons_append, List.nil_append,
  List.getElem?_cons_zero, List.getElem?_cons_succ, List.set_cons_zero, List.set_cons_succ, Nat.zero_add, Nat.add_zero, Nat.reduceAdd, Nat.reduceSub, Option.some.injEq, V.int.injEq, V.bl.injEq, V.ref.injEq, V.str.injEq,
  List.cons.injEq, and_true, true_and, exists_eq_left, exists_eq_left', exists_eq_right, exists_const, exists_eq, exists_and_left, exists_and_right, upd_same, upd_upd, atI_0, atI_1, atI_2, atI_3, ixN_4_0, ixN_4_1, ixN_4_2, ixN_4_3, some_lst, some_tup, decide_eq_true_eq, reduceCtorEq,
  V.int.injEq, Bool.true_eq_false, Bool.false_eq_true, if_true, if_false, ite_true, ite_false, eq_self, not_true_eq_false, not_false_eq_true, decide_true, decide_false, Bool.not_true, Bool.not_false, false_and, and_false, exists_false])
local macro_rules | `(tactic| walk_at "mono") => `(tactic| repeat (first | with_reducible exact mon_var _ | with_reducible exact mon_c _ | with_reducible exact mon_rI _ _ | with_reducible exact mon_rI0 _ | with_reducible exact mon_rEq | with_reducible exact mon_rNe | with_reducible refine mon_test ?_ | with_reducible refine mon_op ?_ ?_ ?_ | with_reducible refine mon_and ?_ ?_ | with_reducible refine mon_or ?_ ?_ | with_reducible exact mon_rU _ | with_reducible refine mon_un ?_ ?_))
local macro_rules | `(tactic| walk_at "sd") => `(tactic| first | assumption | omega | (unfold CMul; omega) | (unfold CDiv; omega) | rfl | decide)
local macro_rules | `(tactic| walk_at "go") => `(tactic| repeat (refine And.intro (by first | assumption | omega | exact tyL (by assumption) | (unfold CMul; omega) | (unfold CDiv; omega) | rfl | decide) ?_))
theorem ok_BadWeights___init {P : Program} {w : World} {K : PySem.W.Frag} {mg : Str → Option Value} {base : Heap} (T : Txt K mg) : ∃ fd, FnOk P w K mg base CX0 1 (He.ma K (He.ga K "BadWeights") "__init__") fd P_BadWeights___init (spFld (He.ga K "BadWeights") "index") ∧ D_BadWeights___init K (He.ma K (He.ga K "BadWeights") "__init__") fd := by
  obtain ⟨fd, F⟩ := T.F_BadWeights___init
  refine ⟨fd, F.ok sc_BadWeights___init (fun vs H Q E h => ?_) (fun cdv A outer s H vs Q E hr h => ?_), F⟩
  · obtain ⟨a, v, rfl, _⟩ := h
    rfl
  ·
    obtain ⟨a, v, rfl, ha, q⟩ := h
    refine ⟨_, PSs.nox (pss_one (ps_ost (pv 0) (pv 1))), ?_⟩
    simp only [tMk1, iEnumA, iSeq, tPar3, tAugS, ipI, rRepA, rIxA, tCallSD, rExtend, tDNewK, iZipS, tXf, tSeq, tAsg, tCB, tCons, tNil, tVar, tOp, tUn, rI, rI0, rU, gName, gNil, gCons, gSub, rSetL, tC, tRet, tRetN, tNext, tIfS, tTest, tB, tAnd, tOr, tNot, tAndV, tOrV, tNotV, tIf,
  tDrop, tCall, tCallS, tPar, tAug, ipI, tBreak, tCont, tTup, tLst, rEq_int, rNe_int, rEq_bl, rNe_bl, rEq_str, rNe_str, HO.lst.injEq, HO.tup.injEq, Bool.not_eq_true', decide_eq_false_iff_not, rIxH, rIxTH, rCat, tSl, tPart, tNoPart, tBM, rAppend, L2.start, tFor_eq, tLc_eq, iList, iTup, iRng1, iRng2, iEnum, iZip, cx_K, cx_prog, cx_w, cx_nK, forall_const, tYes, wipe, List.foldl_cons, List.foldl_nil, and_assoc, List.map_cons, List.map_nil, List.length_cons, List.length_nil, List.replicate, List.append_nil, List.cons_append, List.nil_append,
  List.getElem?_cons_zero, List.getElem?_cons_succ, List.set_cons_zero, List.set_cons_succ, Nat.zero_add, Nat.add_zero, Nat.reduceAdd, Nat.reduceSub, Option.some.injEq, V.int.injEq, V.bl.injEq, V.ref.injEq, V.str.injEq,
  List.cons.injEq, and_true, true_and, exists_eq_left, exists_eq_left', exists_eq_right, exists_const, exists_eq, exists_and_left, exists_and_right, upd_same, upd_upd, atI_0, atI_1, atI_2, atI_3, ixN_4_0, ixN_4_1, ixN_4_2, ixN_4_3, some_lst, some_tup, decide_eq_true_eq, reduceCtorEq,
  V.int.injEq, Bool.true_eq_false, Bool.false_eq_true, if_true, if_false, ite_true, ite_false, eq_self, not_true_eq_false, not_false_eq_true, decide_true, decide_false, Bool.not_true, Bool.not_false, false_and, and_false, exists_false, tOst]
    exact ⟨_, T.x_BadWeights.o, T.n_BadWeights_is_index, .inl ⟨ha, fun dx h1 h2 => q dx h1 h2⟩⟩
end Mine

namespace Mine
open PySem PySem.Spec PyProof.Rows L2
theorem ok_is_whole {P : Program} {w : World} {K : PySem.W.Frag} {mg : Str → Option Value} {base : Heap} (T : Txt K mg) : ∃ fd, FnOk P w K mg base CX0 1 (He.ga K "is_whole") fd P_is_whole (spD K F_is_whole) ∧ D_is_whole K (He.ga K "is_whole") fd := by
  obtain ⟨fd, F⟩ := T.F_is_whole
  refine ⟨fd, F.ok sc_is_whole (fun vs H Q E h => ?_) (fun cdv A outer s H vs Q E hr h => ?_), F⟩
  · rw [F_is_whole_eq] at h
    exact spD_len (np := 3) (fun _ _ _ h => h.1) vs H Q E h
  · rw [F_is_whole_eq] at h
    refine ⟨_, PSs.nox (pss_cons (ps_if (PW.pt (pw_or (pt_not (pt_tru rfl (pe_callB (call_isiU (K := K) rfl) (by rfl) T.z_isinstance (by decide +kernel) (pa_cons (pv 0) (pa_cons (pe_bltn (v := .ty "int") (by rfl) T.z_int (by decide +kernel) rfl) pa_nil))) (by intro _; rfl))) (pw_or1 (pt_tru rfl (pe_callB (call_isiU (K := K) rfl) (by rfl) T.z_isinstance (by decide +kernel) (pa_cons (pv 0) (pa_cons (pe_bltn (v := .ty "bool") (by rfl) T.z_bool (by decide +kernel) rfl) pa_nil))) (by intro _; rfl)))))
    (pss_one (ps_ret pe_bl))
    pss_nil)
    (pss_one (ps_ret (pe_and (pe_or (pe_cmpR op_isN (pv 1) pe_non (by first | exact nomark _ | rfl)) (pe_one (pe_cmpR op_ge (pv 0) (pv 1) (by first | exact nomark _ | rfl)))) (pe_one (pe_or (pe_cmpR op_isN (pv 2) pe_non (by first | exact nomark _ | rfl)) (pe_one (pe_cmpR op_le (pv 0) (pv 2) (by first | exact nomark _ | rfl))))))))), ?_⟩
    exact body_of0 rfl h fun X hd => (dst_seq (dst_if (dt_or (dt_not (dt_tru (DEg.bor (dg_cb (cg_isi known_int) (db_cons (db_var 0) (db_cons (DEg.bor (de_raw (.ty "int"))) db_nil)))))) (dt_tru (DEg.bor (dg_cb (cg_isi known_bool) (db_cons (db_var 0) (db_cons (DEg.bor (de_raw (.ty "bool"))) db_nil))))))
    (dst_ret (de_bl false))
    dst_next)
    (dst_ret (de_andV (de_orV (dg_op od_isN (db_var 1) (DEg.bor de_non)) (dg_op od_ge (db_var 0) (db_var 1))) (de_orV (dg_op od_isN (db_var 2) (DEg.bor de_non)) (dg_op od_le (db_var 0) (db_var 2))))))
end Mine

namespace Mine
open PySem PySem.Spec PyProof.Rows L2
theorem ok_check_weights {P : Program} {w : World} {K : PySem.W.Frag} {mg : Str → Option Value} {base : Heap} (T : Txt K mg) : ∃ fd, FnOk P w K mg base (L2.CX P w) 3 (He.ga K "check_weights") fd P_check_weights (spD K F_check_weights) ∧ D_check_weights K (He.ga K "check_weights") fd := by
  obtain ⟨fd, F⟩ := T.F_check_weights
  obtain ⟨fd_BadWeights___init, G_BadWeights___init, D_BadWeights___init⟩ := ok_BadWeights___init (P := P) (w := w) (base := base) T
  have k_BadWeights___init := D_BadWeights___init.kp
  have b_BadWeights___init := bd_BadWeights___init D_BadWeights___init
  obtain ⟨fd_is_whole, G_is_whole, D_is_whole⟩ := ok_is_whole (P := P) (w := w) (base := base) T
  have k_is_whole := D_is_whole.kp
  obtain ⟨ds_is_whole_3, r_is_whole_3, b_is_whole_3⟩ := bd_is_whole_3 D_is_whole
  refine ⟨fd, F.ok sc_check_weights (fun vs H Q E h => ?_) (fun cdv A outer s H vs Q E hr h => ?_), F⟩
  · rw [F_check_weights_eq] at h
    exact spD_len (np := 1) (fun _ _ _ h => h.1) vs H Q E h
  · rw [F_check_weights_eq] at h
    refine ⟨_, (pss_cons (ps_if (PW.pt (pw_or (pt_not (pt_tru rfl (pe_callB (call_isiTU (K := K) rfl) (by rfl) T.z_isinstance (by decide +kernel) (pa_cons (pv 0) (pa_cons (pe_tup (pa_cons (pe_bltn (v := .ty "list") (by rfl) T.z_list (by decide +kernel) rfl) (pa_cons (pe_bltn (v := .ty "tuple") (by rfl) T.z_tuple (by decide +kernel) rfl) pa_nil))) pa_nil))) (by intro _; rfl))) (pw_or1 (pt_cmpR op_gt (pe_callB (call_lenU (K := K) rfl) (by rfl) T.z_len (by decide +kernel) (pa_cons (pv 0) pa_nil)) (pe_glob (v := .int (24)) rfl T.c_MOST_LETTERS.choose_spec ⟨_, rfl⟩) (by first | exact nomark _ | rfl)))))
    (pss_one (ps_raise rfl (takes_of rfl rfl rfl rfl) (mk1 T.x_BadWeights T.g_BadWeights G_BadWeights___init b_BadWeights___init (hr.mono (by decide)) (mon_un (mon_rU _) (mon_c _)) (pe_un un_neg pe_int) rfl)))
    pss_nil)
    (pss_cons (ps_for (passes_of rfl) rfl (pi_enumA (by rfl) T.z_enumerate (pa_cons (pv 0) pa_nil)) (pg_tupK (K := K) (n := 2) rfl (by rfl) (pgs_cons (pg_name (i := 1) sc_check_weights.nd rfl (by first | exact Or.inl rfl | exact Or.inr rfl)) (pgs_cons (pg_name (i := 2) sc_check_weights.nd rfl (by first | exact Or.inl rfl | exact Or.inr rfl)) pgs_nil)))
    (pss_one (ps_if (pt_not (pt_tru rfl (pe_call G_is_whole (hr.mono (by decide)) rfl T.g_is_whole k_is_whole b_is_whole_3 r_is_whole_3 pass0 (pa_cons (pv 2) (pa_cons pe_int (pa_cons (pe_glob (v := .int (1000000000000000)) rfl T.c_GREATEST_WEIGHT.choose_spec ⟨_, rfl⟩) pa_nil)))) (by intro _; rfl)))
    (pss_one (ps_raise rfl (takes_of rfl rfl rfl rfl) (mk1 T.x_BadWeights T.g_BadWeights G_BadWeights___init b_BadWeights___init (hr.mono (by decide)) (mon_var _) (pv 1) rfl)))
    pss_nil)))
    (pss_one (ps_ret (pe_callTy (call_tupU (K := K) rfl) (by rfl) T.z_tuple (by decide +kernel) (pa_cons (pv 0) pa_nil)))))), ?_⟩
    exact body_of rfl h fun X hd => (dst_seq (dst_if (dt_or (dt_not (dt_tru (DEg.bor (dg_cb (cg_isi2 known_list known_tuple) (db_cons (db_var 0) (db_cons (DEg.bor (de_tup (da_cons (de_raw (.ty "list")) (da_cons (de_raw (.ty "tuple")) da_nil)))) db_nil)))))) (dt_test (dg_op od_gt (DEg.bor (dg_cb cg_len (db_cons (db_var 0) db_nil))) (DEg.bor (de_int (24))))))
    (dst_raise1 rfl (de_un ud_neg (DEg.bor (de_int 1))))
    dst_next)
    (dst_seq (dst_for (di_enum (R := Cln) (de_var 0)) (dg_two 1 2)
    (dst_if (dt_not (dt_tru (DEg.bor (de_call0 dv_nil (ds_cons (de_var 2) (ds_cons (de_int 1) (ds_cons (de_int (1000000000000000)) ds_nil)))))))
    (dst_raise1 rfl (de_var 1))
    dst_next))
    (dst_ret (dg_cb cg_tup (db_cons (db_var 0) db_nil)))))
end Mine

namespace Mine
open PySem PySem.Spec PyProof.Rows L2
theorem ok_check_letters {P : Program} {w : World} {K : PySem.W.Frag} {mg : Str → Option Value} {base : Heap} (T : Txt K mg) : ∃ fd, FnOk P w K mg base (L2.CX P w) 2 (He.ga K "check_letters") fd P_check_letters (spD K F_check_letters) ∧ D_check_letters K (He.ga K "check_letters") fd := by
  obtain ⟨fd, F⟩ := T.F_check_letters
  obtain ⟨fd_is_whole, G_is_whole, D_is_whole⟩ := ok_is_whole (P := P) (w := w) (base := base) T
  have k_is_whole := D_is_whole.kp
  obtain ⟨ds_is_whole_3, r_is_whole_3, b_is_whole_3⟩ := bd_is_whole_3 D_is_whole
  refine ⟨fd, F.ok sc_check_letters (fun vs H Q E h => ?_) (fun cdv A outer s H vs Q E hr h => ?_), F⟩
  · rw [F_check_letters_eq] at h
    exact spD_len (np := 1) (fun _ _ _ h => h.1) vs H Q E h
  · rw [F_check_letters_eq] at h
    refine ⟨_, (pss_cons (ps_if (pt_not (pt_tru rfl (pe_call G_is_whole (hr.mono (by decide)) rfl T.g_is_whole k_is_whole b_is_whole_3 r_is_whole_3 pass0 (pa_cons (pv 0) (pa_cons pe_int (pa_cons pe_int pa_nil)))) (by intro _; rfl)))
    (pss_one (ps_raise rfl (takes_of rfl rfl rfl rfl) (mk0 T.e_BadLetters T.g_BadLetters rfl)))
    pss_nil)
    (pss_one (ps_ret (pv 0)))), ?_⟩
    exact body_of rfl h fun X hd => (dst_seq (dst_if (dt_not (dt_tru (DEg.bor (de_call0 dv_nil (ds_cons (de_var 0) (ds_cons (de_int 2) (ds_cons (de_int 4) ds_nil)))))))
    (dst_raise rfl)
    dst_next)
    (dst_ret (de_var 0)))
end Mine

namespace Mine
open PySem PySem.Spec PyProof.Rows L2
theorem ok_above_last {P : Program} {w : World} {K : PySem.W.Frag} {mg : Str → Option Value} {base : Heap} (T : Txt K mg) : ∃ fd, FnOk P w K mg base CX0 1 (He.ga K "_above_last") fd P_above_last (spD K F_above_last) ∧ D_above_last K (He.ga K "_above_last") fd := by
  obtain ⟨fd, F⟩ := T.F_above_last
  refine ⟨fd, F.ok sc_above_last (fun vs H Q E h => ?_) (fun cdv A outer s H vs Q E hr h => ?_), F⟩
  · rw [F_above_last_eq] at h
    exact spD_len (np := 3) (fun _ _ _ h => h.1) vs H Q E h
  · rw [F_above_last_eq] at h
    refine ⟨_, PSs.nox (pss_one (ps_ret (pe_op (op_addU rfl) pe_int (pe_op op_mulU (pe_op op_sub (pv 0) pe_int) (pe_callB (CallR.k (r := rSumA) (K := K) (cr_sumA rfl) rfl) (by rfl) T.z_sum (by decide +kernel) (pa_cons (pe_slice (sl_U rfl) (pv 1) (po_some (pe_callB (call_max2U rfl) (by rfl) T.z_max (by decide +kernel) (pa_cons pe_int (pa_cons (pe_op op_sub (pe_callB (call_lenU (K := K) rfl) (by rfl) T.z_len (by decide +kernel) (pa_cons (pv 1) pa_nil)) (pv 2)) pa_nil)))) po_none) pa_nil)))))), ?_⟩
    exact body_of0 rfl h fun X hd => (dst_ret (dg_op od_add (DEg.bor (de_int 1)) (DEg.bor (dg_op od_mul (DEg.bor (dg_op od_sub (db_var 0) (DEg.bor (de_int 1)))) (DEg.bor (dg_cb cg_sum (db_cons (DEg.bor (dg_sl sg_U (db_var 1) (do_some (dg_cb cg_max2 (db_cons (DEg.bor (de_int 0)) (db_cons (DEg.bor (dg_op od_sub (DEg.bor (dg_cb cg_len (db_cons (db_var 1) db_nil))) (db_var 2))) db_nil)))) do_none)) db_nil)))))))
end Mine

namespace Mine
open PySem PySem.Spec PyProof.Rows L2
theorem ok_are_steep {P : Program} {w : World} {K : PySem.W.Frag} {mg : Str → Option Value} {base : Heap} (T : Txt K mg) : ∃ fd, FnOk P w K mg base CX0 2 (He.ga K "_are_steep") fd P_are_steep (spD K F_are_steep) ∧ D_are_steep K (He.ga K "_are_steep") fd := by
  obtain ⟨fd, F⟩ := T.F_are_steep
  obtain ⟨fd_above_last, G_above_last, D_above_last⟩ := ok_above_last (P := P) (w := w) (base := base) T
  have k_above_last := D_above_last.kp
  have b_above_last := bd_above_last D_above_last
  refine ⟨fd, F.ok sc_are_steep (fun vs H Q E h => ?_) (fun cdv A outer s H vs Q E hr h => ?_), F⟩
  · rw [F_are_steep_eq] at h
    exact spD_len (np := 3) (fun _ _ _ h => h.1) vs H Q E h
  · rw [F_are_steep_eq] at h
    refine ⟨_, PSs.nox (pss_one (ps_ret (pe_callB (call_allU (K := K) rfl rfl) (by rfl) T.z_all (by decide +kernel) (pa_cons (pe_lc (own := [("at", 3), ("weight", 4)]) rfl sc_are_steep.nd (pi_enumA (by rfl) T.z_enumerate (pa_cons (pv 1) pa_nil)) (blkOk_by (own := [("at", 3), ("weight", 4)]) (N := N_are_steep) (sc := defScope s_are_steep) (by decide +kernel)) (fun _ _ _ _ _ => (pg_tupK (K := K) (n := 2) rfl (by rfl) (pgs_cons (pg_name (i := 3) sc_are_steep.nd rfl (by first | exact Or.inl rfl | exact Or.inr rfl)) (pgs_cons (pg_name (i := 4) sc_are_steep.nd rfl (by first | exact Or.inl rfl | exact Or.inr rfl)) pgs_nil)))) (fun _ _ _ _ _ => pts_nil) (fun _ _ _ _ _ => (pe_cmpR op_ge (pv 4) (pe_call G_above_last (hr.mono (by decide)) rfl T.g__above_last k_above_last b_above_last .nil pass0 (pa_cons (pv 0) (pa_cons (pe_slice (sl_U rfl) (pv 1) po_none (po_some (pv 3))) (pa_cons (pv 2) pa_nil)))) (by first | exact nomark _ | rfl)))) pa_nil)))), ?_⟩
    exact body_of0 rfl h fun X hd => (dst_ret (dg_cb cg_all (db_cons (DEg.bor (DEg.cln (df_lc (di_enum (R := Bor) (db_var 1)) (dg_two 3 4) dt_yes (dg_op od_ge (db_var 4) (DEg.bor (de_call0 dv_nil (ds_cons (de_var 0) (ds_cons (dg_sl sg_U (db_var 1) do_none (do_some (de_var 3))) (ds_cons (de_var 2) ds_nil))))))))) db_nil)))
end Mine

namespace Mine
open PySem PySem.Spec PyProof.Rows L2
theorem ok_steep_by {P : Program} {w : World} {K : PySem.W.Frag} {mg : Str → Option Value} {base : Heap} (T : Txt K mg) : ∃ fd, FnOk P w K mg base (L2.CX P w) 4 (He.ga K "steep_by") fd P_steep_by (spD K F_steep_by) ∧ D_steep_by K (He.ga K "steep_by") fd := by
  obtain ⟨fd, F⟩ := T.F_steep_by
  obtain ⟨fd_check_letters, G_check_letters, D_check_letters⟩ := ok_check_letters (P := P) (w := w) (base := base) T
  have k_check_letters := D_check_letters.kp
  have b_check_letters := bd_check_letters D_check_letters
  obtain ⟨fd_check_weights, G_check_weights, D_check_weights⟩ := ok_check_weights (P := P) (w := w) (base := base) T
  have k_check_weights := D_check_weights.kp
  have b_check_weights := bd_check_weights D_check_weights
  obtain ⟨fd_are_steep, G_are_steep, D_are_steep⟩ := ok_are_steep (P := P) (w := w) (base := base) T
  have k_are_steep := D_are_steep.kp
  have b_are_steep := bd_are_steep D_are_steep
  refine ⟨fd, F.ok sc_steep_by (fun vs H Q E h => ?_) (fun cdv A outer s H vs Q E hr h => ?_), F⟩
  · rw [F_steep_by_eq] at h
    exact spD_len (np := 2) (fun _ _ _ h => h.1) vs H Q E h
  · rw [F_steep_by_eq] at h
    refine ⟨_, (pss_cons (ps_expr (pe_call G_check_letters (hr.mono (by decide)) rfl T.g_check_letters k_check_letters b_check_letters .nil (E := E) (passes_call (takes_of rfl rfl rfl rfl) fun _ _ _ _ h => h) (pa_cons (pv 0) pa_nil)))
    (pss_cons (ps_set (i := 1) sc_steep_by.nd rfl (by first | exact Or.inl rfl | exact Or.inr rfl) (pe_call G_check_weights (hr.mono (by decide)) rfl T.g_check_weights k_check_weights b_check_weights .nil (E := E) (passes_call (takes_of rfl rfl rfl rfl) fun _ _ _ _ h => h) (pa_cons (pv 1) pa_nil)))
    (pss_cons (ps_set (i := 2) sc_steep_by.nd rfl (by first | exact Or.inl rfl | exact Or.inr rfl) pe_int)
    (pss_cons (ps_while (passes_of rfl) (PW.pt (pw_and (pt_cmpR (op_ltU rfl hr.units0) (pv 2) (pe_callB (call_lenU (K := K) rfl) (by rfl) T.z_len (by decide +kernel) (pa_cons (pv 1) pa_nil)) (by first | exact nomark _ | rfl)) (pw_and1 (pt_tru rfl (pe_call G_are_steep (hr.mono (by decide)) rfl T.g__are_steep k_are_steep b_are_steep .nil pass0 (pa_cons (pv 0) (pa_cons (pv 1) (pa_cons (pe_op (op_addU rfl) (pv 2) pe_int) pa_nil)))) (by intro _; rfl)))))
    (pss_one (ps_aug (i := 2) sc_steep_by.nd rfl (by first | exact Or.inl rfl | exact Or.inr rfl) pe_int ip_add)))
    (pss_one (ps_ret (pv 2))))))), ?_⟩
    exact body_of rfl h fun X hd => (dst_seq (dst_drop (de_call rfl dv_nil (ds_cons (de_var 0) ds_nil)))
    (dst_seq (dst_asg (de_call rfl dv_nil (ds_cons (de_var 1) ds_nil)) (dg_name 1))
    (dst_seq (dst_asg (de_int 0) (dg_name 2))
    (dst_seq (dst_while (dt_and (dt_test (dg_op od_lt (db_var 2) (DEg.bor (dg_cb cg_len (db_cons (db_var 1) db_nil))))) (dt_tru (DEg.bor (de_call0 dv_nil (ds_cons (de_var 0) (ds_cons (de_var 1) (ds_cons (dg_op od_add (db_var 2) (DEg.bor (de_int 1))) ds_nil)))))))
    (dst_aug (de_int 1)))
    (dst_ret (de_var 2))))))
end Mine

namespace Mine
open PySem PySem.Spec PyProof.Rows L2
theorem ok_law_steep {P : Program} {w : World} {K : PySem.W.Frag} {mg : Str → Option Value} {base : Heap} (T : Txt K mg) : ∃ fd, FnOk P w K mg base CX0 1 (He.ga K "_law_steep") fd P_law_steep (spD K F_law_steep) ∧ D_law_steep K (He.ga K "_law_steep") fd := by
  obtain ⟨fd, F⟩ := T.F_law_steep
  refine ⟨fd, F.ok sc_law_steep (fun vs H Q E h => ?_) (fun cdv A outer s H vs Q E hr h => ?_), F⟩
  · rw [F_law_steep_eq] at h
    exact spD_len (np := 2) (fun _ _ _ h => h.1) vs H Q E h
  · rw [F_law_steep_eq] at h
    refine ⟨_, PSs.nox (pss_cons (ps_set (i := 2) sc_law_steep.nd rfl (by first | exact Or.inl rfl | exact Or.inr rfl) pe_int)
    (pss_cons (ps_for PassesOwn.never rfl (pi_range2 (by rfl) T.z_range (pa_cons pe_int (pa_cons (pe_op (op_addU rfl) (pe_callB (call_lenU (K := K) rfl) (by rfl) T.z_len (by decide +kernel) (pa_cons (pv 1) pa_nil)) pe_int) pa_nil))) (pg_name (i := 3) sc_law_steep.nd rfl (by first | exact Or.inl rfl | exact Or.inr rfl))
    (pss_cons (ps_for PassesOwn.never rfl (pi_range1 (by rfl) T.z_range (pa_cons (pe_callB (call_lenU (K := K) rfl) (by rfl) T.z_len (by decide +kernel) (pa_cons (pv 1) pa_nil)) pa_nil)) (pg_name (i := 4) sc_law_steep.nd rfl (by first | exact Or.inl rfl | exact Or.inr rfl))
    (pss_one (ps_if (pt_cmpR op_le (pe_ix (ix_U (K := K) rfl) (pv 1) (pv 4) (fun _ _ => rfl)) (pe_op op_mulU (pe_op op_sub (pv 0) pe_int) (pe_callB (CallR.k (r := rSumA) (K := K) (cr_sumA rfl) rfl) (by rfl) T.z_sum (by decide +kernel) (pa_cons (pe_slice (sl_U rfl) (pv 1) (po_some (pe_callB (call_max2U rfl) (by rfl) T.z_max (by decide +kernel) (pa_cons pe_int (pa_cons (pe_op op_sub (pv 4) (pv 3)) pa_nil)))) (po_some (pv 4))) pa_nil))) (by first | exact nomark _ | rfl))
    (pss_one (ps_ret (pv 2)))
    pss_nil)))
    (pss_one (ps_set (i := 2) sc_law_steep.nd rfl (by first | exact Or.inl rfl | exact Or.inr rfl) (pv 3)))))
    (pss_one (ps_ret (pv 2))))), ?_⟩
    exact body_of0 rfl h fun X hd => (dst_seq (dst_asg (de_int 0) (dg_name 2))
    (dst_seq (dst_for (di_rng2 (db_cons (DEg.bor (de_int 1)) (db_cons (DEg.bor (dg_op od_add (DEg.bor (dg_cb cg_len (db_cons (db_var 1) db_nil))) (DEg.bor (de_int 1)))) db_nil))) (dg_name 3)
    (dst_seq (dst_for (di_rng1 (db_cons (DEg.bor (dg_cb cg_len (db_cons (db_var 1) db_nil))) db_nil)) (dg_name 4)
    (dst_if (dt_test (dg_op od_le (DEg.bor (dg_op od_ix (db_var 1) (db_var 4))) (DEg.bor (dg_op od_mul (DEg.bor (dg_op od_sub (db_var 0) (DEg.bor (de_int 1)))) (DEg.bor (dg_cb cg_sum (db_cons (DEg.bor (dg_sl sg_U (db_var 1) (do_some (dg_cb cg_max2 (db_cons (DEg.bor (de_int 0)) (db_cons (DEg.bor (dg_op od_sub (db_var 4) (db_var 3))) db_nil)))) (do_some (de_var 4)))) db_nil)))))))
    (dst_ret (de_var 2))
    dst_next))
    (dst_asg (de_var 3) (dg_name 2))))
    (dst_ret (de_var 2))))
end Mine

namespace Mine
open PySem PySem.Spec PyProof.Rows L2
theorem ok_check_number {P : Program} {w : World} {K : PySem.W.Frag} {mg : Str → Option Value} {base : Heap} (T : Txt K mg) : ∃ fd, FnOk P w K mg base (L2.CX P w) 2 (He.ga K "check_number") fd P_check_number (spD K F_check_number) ∧ D_check_number K (He.ga K "check_number") fd := by
  obtain ⟨fd, F⟩ := T.F_check_number
  obtain ⟨fd_is_whole, G_is_whole, D_is_whole⟩ := ok_is_whole (P := P) (w := w) (base := base) T
  have k_is_whole := D_is_whole.kp
  obtain ⟨ds_is_whole_3, r_is_whole_3, b_is_whole_3⟩ := bd_is_whole_3 D_is_whole
  refine ⟨fd, F.ok sc_check_number (fun vs H Q E h => ?_) (fun cdv A outer s H vs Q E hr h => ?_), F⟩
  · rw [F_check_number_eq] at h
    exact spD_len (np := 3) (fun _ _ _ h => h.1) vs H Q E h
  · rw [F_check_number_eq] at h
    refine ⟨_, (pss_cons (ps_if (pt_not (pt_tru rfl (pe_call G_is_whole (hr.mono (by decide)) rfl T.g_is_whole k_is_whole b_is_whole_3 r_is_whole_3 pass0 (pa_cons (pv 0) (pa_cons (pv 1) (pa_cons (pv 2) pa_nil)))) (by intro _; rfl)))
    (pss_one (ps_raise rfl (takes_of rfl rfl rfl rfl) (mk0 T.e_BadNumber T.g_BadNumber rfl)))
    pss_nil)
    (pss_one (ps_ret (pv 0)))), ?_⟩
    exact body_of rfl h fun X hd => (dst_seq (dst_if (dt_not (dt_tru (DEg.bor (de_call0 dv_nil (ds_cons (de_var 0) (ds_cons (de_var 1) (ds_cons (de_var 2) ds_nil)))))))
    (dst_raise rfl)
    dst_next)
    (dst_ret (de_var 0)))
end Mine

namespace Mine
open PySem PySem.Spec PyProof.Rows L2
theorem ok_steep_modulus {P : Program} {w : World} {K : PySem.W.Frag} {mg : Str → Option Value} {base : Heap} (T : Txt K mg) : ∃ fd, FnOk P w K mg base (L2.CX P w) 4 (He.ga K "steep_modulus") fd P_steep_modulus (spD K F_steep_modulus) ∧ D_steep_modulus K (He.ga K "steep_modulus") fd := by
  obtain ⟨fd, F⟩ := T.F_steep_modulus
  obtain ⟨fd_check_letters, G_check_letters, D_check_letters⟩ := ok_check_letters (P := P) (w := w) (base := base) T
  have k_check_letters := D_check_letters.kp
  have b_check_letters := bd_check_letters D_check_letters
  obtain ⟨fd_check_weights, G_check_weights, D_check_weights⟩ := ok_check_weights (P := P) (w := w) (base := base) T
  have k_check_weights := D_check_weights.kp
  have b_check_weights := bd_check_weights D_check_weights
  obtain ⟨fd_check_number, G_check_number, D_check_number⟩ := ok_check_number (P := P) (w := w) (base := base) T
  have k_check_number := D_check_number.kp
  have b_check_number := bd_check_number D_check_number
  obtain ⟨fd_above_last, G_above_last, D_above_last⟩ := ok_above_last (P := P) (w := w) (base := base) T
  have k_above_last := D_above_last.kp
  have b_above_last := bd_above_last D_above_last
  refine ⟨fd, F.ok sc_steep_modulus (fun vs H Q E h => ?_) (fun cdv A outer s H vs Q E hr h => ?_), F⟩
  · rw [F_steep_modulus_eq] at h
    exact spD_len (np := 3) (fun _ _ _ h => h.1) vs H Q E h
  · rw [F_steep_modulus_eq] at h
    refine ⟨_, (pss_cons (ps_expr (pe_call G_check_letters (hr.mono (by decide)) rfl T.g_check_letters k_check_letters b_check_letters .nil (E := E) (passes_call (takes_of rfl rfl rfl rfl) fun _ _ _ _ h => h) (pa_cons (pv 0) pa_nil)))
    (pss_cons (ps_set (i := 1) sc_steep_modulus.nd rfl (by first | exact Or.inl rfl | exact Or.inr rfl) (pe_call G_check_weights (hr.mono (by decide)) rfl T.g_check_weights k_check_weights b_check_weights .nil (E := E) (passes_call (takes_of rfl rfl rfl rfl) fun _ _ _ _ h => h) (pa_cons (pv 1) pa_nil)))
    (pss_cons (ps_expr (pe_call G_check_number (hr.mono (by decide)) rfl T.g_check_number k_check_number b_check_number .nil (E := E) (passes_call (takes_of rfl rfl rfl rfl) fun _ _ _ _ h => h) (pa_cons (pv 2) (pa_cons pe_int (pa_cons (pe_glob (v := .int (24)) rfl T.c_MOST_LETTERS.choose_spec ⟨_, rfl⟩) pa_nil)))))
    (pss_one (ps_ret (pe_call G_above_last (hr.mono (by decide)) rfl T.g__above_last k_above_last b_above_last .nil pass0 (pa_cons (pv 0) (pa_cons (pv 1) (pa_cons (pv 2) pa_nil))))))))), ?_⟩
    exact body_of rfl h fun X hd => (dst_seq (dst_drop (de_call rfl dv_nil (ds_cons (de_var 0) ds_nil)))
    (dst_seq (dst_asg (de_call rfl dv_nil (ds_cons (de_var 1) ds_nil)) (dg_name 1))
    (dst_seq (dst_drop (de_call rfl dv_nil (ds_cons (de_var 2) (ds_cons (de_int 0) (ds_cons (de_int (24)) ds_nil)))))
    (dst_ret (de_call0 dv_nil (ds_cons (de_var 0) (ds_cons (de_var 1) (ds_cons (de_var 2) ds_nil))))))))
end Mine

namespace Mine
open PySem PySem.Spec PyProof.Rows L2
theorem ok_law_least_modulus {P : Program} {w : World} {K : PySem.W.Frag} {mg : Str → Option Value} {base : Heap} (T : Txt K mg) : ∃ fd, FnOk P w K mg base CX0 1 (He.ga K "_law_least_modulus") fd P_law_least_modulus (spD K F_law_least_modulus) ∧ D_law_least_modulus K (He.ga K "_law_least_modulus") fd := by
  obtain ⟨fd, F⟩ := T.F_law_least_modulus
  refine ⟨fd, F.ok sc_law_least_modulus (fun vs H Q E h => ?_) (fun cdv A outer s H vs Q E hr h => ?_), F⟩
  · rw [F_law_least_modulus_eq] at h
    exact spD_len (np := 3) (fun _ _ _ h => h.1) vs H Q E h
  · rw [F_law_least_modulus_eq] at h
    refine ⟨_, PSs.nox (pss_one (ps_ret (pe_op (op_addU rfl) pe_int (pe_op op_mulU (pe_op op_sub (pv 0) pe_int) (pe_callB (CallR.k (r := rSumA) (K := K) (cr_sumA rfl) rfl) (by rfl) T.z_sum (by decide +kernel) (pa_cons (pe_slice (sl_U rfl) (pv 1) (po_some (pe_callB (call_max2U rfl) (by rfl) T.z_max (by decide +kernel) (pa_cons pe_int (pa_cons (pe_op op_sub (pe_callB (call_lenU (K := K) rfl) (by rfl) T.z_len (by decide +kernel) (pa_cons (pv 1) pa_nil)) (pv 2)) pa_nil)))) po_none) pa_nil)))))), ?_⟩
    exact body_of0 rfl h fun X hd => (dst_ret (dg_op od_add (DEg.bor (de_int 1)) (DEg.bor (dg_op od_mul (DEg.bor (dg_op od_sub (db_var 0) (DEg.bor (de_int 1)))) (DEg.bor (dg_cb cg_sum (db_cons (DEg.bor (dg_sl sg_U (db_var 1) (do_some (dg_cb cg_max2 (db_cons (DEg.bor (de_int 0)) (db_cons (DEg.bor (dg_op od_sub (DEg.bor (dg_cb cg_len (db_cons (db_var 1) db_nil))) (db_var 2))) db_nil)))) do_none)) db_nil)))))))
end Mine

namespace Mine
open PySem PySem.Spec PyProof.Rows L2
theorem ok_law_any_right {P : Program} {w : World} {K : PySem.W.Frag} {mg : Str → Option Value} {base : Heap} (T : Txt K mg) : ∃ fd, FnG P w K mg base CX0 5 (He.ga K "_law_any_right") fd P_law_any_right (spD K F_law_any_right) ∧ D_law_any_right K (He.ga K "_law_any_right") fd := by
  obtain ⟨fd, F⟩ := T.F_law_any_right
  obtain ⟨fd_law_take, G_law_take, D_law_take⟩ := ok_law_take (P := P) (w := w) (base := base) T
  have k_law_take := D_law_take.kp
  have b_law_take := bd_law_take D_law_take
  obtain ⟨fd_law_any_weights, G_law_any_weights, D_law_any_weights⟩ := ok_law_any_weights (P := P) (w := w) (base := base) T
  have k_law_any_weights := D_law_any_weights.kp
  have b_law_any_weights := bd_law_any_weights D_law_any_weights
  obtain ⟨fd_check_weights, G_check_weights, D_check_weights⟩ := ok_check_weights (P := P) (w := w) (base := base) T
  have k_check_weights := D_check_weights.kp
  have b_check_weights := bd_check_weights D_check_weights
  obtain ⟨fd_steep_by, G_steep_by, D_steep_by⟩ := ok_steep_by (P := P) (w := w) (base := base) T
  have k_steep_by := D_steep_by.kp
  have b_steep_by := bd_steep_by D_steep_by
  obtain ⟨fd_law_steep, G_law_steep, D_law_steep⟩ := ok_law_steep (P := P) (w := w) (base := base) T
  have k_law_steep := D_law_steep.kp
  have b_law_steep := bd_law_steep D_law_steep
  obtain ⟨fd_steep_modulus, G_steep_modulus, D_steep_modulus⟩ := ok_steep_modulus (P := P) (w := w) (base := base) T
  have k_steep_modulus := D_steep_modulus.kp
  have b_steep_modulus := bd_steep_modulus D_steep_modulus
  obtain ⟨fd_law_least_modulus, G_law_least_modulus, D_law_least_modulus⟩ := ok_law_least_modulus (P := P) (w := w) (base := base) T
  have k_law_least_modulus := D_law_least_modulus.kp
  have b_law_least_modulus := bd_law_least_modulus D_law_least_modulus
  refine ⟨fd, funD_okG F sc_law_any_right (fun vs H Q E h => ?_) (fun cdv A outer s H vs Q E gu hr h => ?_), F⟩
  · rw [F_law_any_right_eq] at h
    exact spD_len (np := 1) (fun _ _ _ h => h.1) vs H Q E h
  · rw [F_law_any_right_eq] at h
    refine ⟨_, PSs.nox (pss_cons (ps_set (i := 1) sc_law_any_right.nd rfl (by first | exact Or.inl rfl | exact Or.inr rfl) (pe_op (op_addU rfl) pe_int (pe_call G_law_take (hr.mono (by decide)) rfl T.g__law_take k_law_take b_law_take .nil pass0 (pa_cons (pv 0) (pa_cons pe_int pa_nil)))))
    (pss_cons (ps_set (i := 2) sc_law_any_right.nd rfl (by first | exact Or.inl rfl | exact Or.inr rfl) (pe_ifExp (pt_cmpR (op_eqU rfl hr.units) (pe_call G_law_take (hr.mono (by decide)) rfl T.g__law_take k_law_take b_law_take .nil pass0 (pa_cons (pv 0) (pa_cons pe_int pa_nil))) pe_int (by first | exact nomark _ | rfl)) (pe_call G_law_take (hr.mono (by decide)) rfl T.g__law_take k_law_take b_law_take .nil pass0 (pa_cons (pv 0) (pa_cons pe_int pa_nil))) (pe_call G_law_take (hr.mono (by decide)) rfl T.g__law_take k_law_take b_law_take .nil pass0 (pa_cons (pv 0) (pa_cons pe_int pa_nil)))))
    (pss_cons (ps_set (i := 3) sc_law_any_right.nd rfl (by first | exact Or.inl rfl | exact Or.inr rfl) (pe_call G_law_any_weights (hr.mono (by decide)) rfl T.g__law_any_weights k_law_any_weights b_law_any_weights .nil pass0 (pa_cons (pv 0) (pa_cons (pv 1) (pa_cons (pv 2) pa_nil)))))
    (pss_cons (ps_if (pt_cmpR (op_neU rfl hr.units) (pe_callB (call_reprG (K := K) rfl gu hr.units) (by rfl) T.z_repr (by decide +kernel) (pa_cons (pe_call G_check_weights (hr.mono (by decide)) rfl T.g_check_weights k_check_weights b_check_weights .nil passL (pa_cons (pv 3) pa_nil)) pa_nil)) (pe_callB (call_reprG (K := K) rfl gu hr.units) (by rfl) T.z_repr (by decide +kernel) (pa_cons (pe_callTy (call_tupU (K := K) rfl) (by rfl) T.z_tuple (by decide +kernel) (pa_cons (pv 3) pa_nil)) pa_nil)) (by first | exact nomark _ | rfl))
    (pss_one (ps_ret pe_bl))
    pss_nil)
    (pss_cons (ps_if (pt_cmpR (op_neU rfl hr.units) (pe_callB (call_reprG (K := K) rfl gu hr.units) (by rfl) T.z_repr (by decide +kernel) (pa_cons (pe_call G_steep_by (hr.mono (by decide)) rfl T.g_steep_by k_steep_by b_steep_by .nil passL (pa_cons (pv 1) (pa_cons (pe_callTy (call_tupU (K := K) rfl) (by rfl) T.z_tuple (by decide +kernel) (pa_cons (pv 3) pa_nil)) pa_nil))) pa_nil)) (pe_callB (call_reprG (K := K) rfl gu hr.units) (by rfl) T.z_repr (by decide +kernel) (pa_cons (pe_call G_law_steep (hr.mono (by decide)) rfl T.g__law_steep k_law_steep b_law_steep .nil pass0 (pa_cons (pv 1) (pa_cons (pv 3) pa_nil))) pa_nil)) (by first | exact nomark _ | rfl))
    (pss_one (ps_ret pe_bl))
    pss_nil)
    (pss_cons (ps_for PassesOwn.never rfl (pi_seq (pe_tup (pa_cons pe_int (pa_cons (pe_call G_law_take (hr.mono (by decide)) rfl T.g__law_take k_law_take b_law_take .nil pass0 (pa_cons (pv 0) (pa_cons pe_int pa_nil))) (pa_cons (pe_call G_law_take (hr.mono (by decide)) rfl T.g__law_take k_law_take b_law_take .nil pass0 (pa_cons (pv 0) (pa_cons pe_int pa_nil))) (pa_cons pe_int pa_nil)))))) (pg_name (i := 4) sc_law_any_right.nd rfl (by first | exact Or.inl rfl | exact Or.inr rfl))
    (pss_one (ps_if (pt_cmpR (op_neU rfl hr.units) (pe_callB (call_reprG (K := K) rfl gu hr.units) (by rfl) T.z_repr (by decide +kernel) (pa_cons (pe_call G_steep_modulus (hr.mono (by decide)) rfl T.g_steep_modulus k_steep_modulus b_steep_modulus .nil passL (pa_cons (pv 1) (pa_cons (pv 3) (pa_cons (pv 4) pa_nil)))) pa_nil)) (pe_callB (call_reprG (K := K) rfl gu hr.units) (by rfl) T.z_repr (by decide +kernel) (pa_cons (pe_call G_law_least_modulus (hr.mono (by decide)) rfl T.g__law_least_modulus k_law_least_modulus b_law_least_modulus .nil pass0 (pa_cons (pv 1) (pa_cons (pv 3) (pa_cons (pv 4) pa_nil)))) pa_nil)) (by first | exact nomark _ | rfl))
    (pss_one (ps_ret pe_bl))
    pss_nil)))
    (pss_one (ps_ret pe_bl)))))))), ?_⟩
    exact body_of0 rfl h fun X hd => (dst_seq (dst_asg (dg_op od_add (DEg.bor (de_int 2)) (DEg.bor (de_call0 dv_nil (ds_hand (i := 0) (ds_cons (de_int 3) ds_nil))))) (dg_name 1))
    (dst_of S_law_any_right_r2_eq
    (dst_seq (dst_asg (dg_if (dt_test (dg_op od_eq (DEg.bor (de_call0 dv_nil (ds_hand (i := 0) (ds_cons (de_int 5) ds_nil)))) (DEg.bor (de_int 0)))) (de_call0 dv_nil (ds_hand (i := 0) (ds_cons (de_int 25) ds_nil))) (de_call0 dv_nil (ds_hand (i := 0) (ds_cons (de_int 8) ds_nil)))) (dg_name 2))
    (dst_of S_law_any_right_r3_eq
    (dst_seq (dst_asg (de_call0 dv_nil (ds_hand (i := 0) (ds_cons (de_var 1) (ds_cons (de_var 2) ds_nil)))) (dg_name 3))
    (dst_of S_law_any_right_r4_eq
    (dst_seq (dst_if (dt_test (dg_op od_ne (DEg.bor (dg_cb cg_repr (db_cons (DEg.bor (de_call0 dv_nil (ds_cons (de_var 3) ds_nil))) db_nil))) (DEg.bor (dg_cb cg_repr (db_cons (DEg.bor (dg_cb cg_tup (db_cons (db_var 3) db_nil))) db_nil)))))
    (dst_ret (de_bl false))
    dst_next)
    (dst_of S_law_any_right_r6_eq
    (dst_seq (dst_if (dt_test (dg_op od_ne (DEg.bor (dg_cb cg_repr (db_cons (DEg.bor (de_call0 dv_nil (ds_cons (de_var 1) (ds_cons (dg_cb cg_tup (db_cons (db_var 3) db_nil)) ds_nil)))) db_nil))) (DEg.bor (dg_cb cg_repr (db_cons (DEg.bor (de_call0 dv_nil (ds_cons (de_var 1) (ds_cons (de_var 3) ds_nil)))) db_nil)))))
    (dst_ret (de_bl false))
    dst_next)
    (dst_of S_law_any_right_r8_eq
    (dst_seq (dst_for (di_seq (R := Cln) (de_tup (da_cons (de_int 0) (da_cons (de_call0 dv_nil (ds_hand (i := 0) (ds_cons (de_int 5) ds_nil))) (da_cons (de_call0 dv_nil (ds_hand (i := 0) (ds_cons (de_int 25) ds_nil))) (da_cons (de_int 24) da_nil)))))) (dg_name 4)
    (dst_of S_law_any_right_b9_eq
    (dst_if (dt_test (dg_op od_ne (DEg.bor (dg_cb cg_repr (db_cons (DEg.bor (de_call0 dv_nil (ds_cons (de_var 1) (ds_cons (de_var 3) (ds_cons (de_var 4) ds_nil))))) db_nil))) (DEg.bor (dg_cb cg_repr (db_cons (DEg.bor (de_call0 dv_nil (ds_cons (de_var 1) (ds_cons (de_var 3) (ds_cons (de_var 4) ds_nil))))) db_nil)))))
    (dst_ret (de_bl false))
    dst_next)))
    (dst_of S_law_any_right_r11_eq
    (dst_ret (de_bl true))))))))))))))
end Mine

namespace Mine
open PySem PySem.Spec PyProof.Rows L2
theorem ok_weights_for {P : Program} {w : World} {K : PySem.W.Frag} {mg : Str → Option Value} {base : Heap} (T : Txt K mg) : ∃ fd, FnOk P w K mg base (L2.CX P w) 3 (He.ga K "weights_for") fd P_weights_for (spD K F_weights_for) ∧ D_weights_for K (He.ga K "weights_for") fd := by
  obtain ⟨fd, F⟩ := T.F_weights_for
  obtain ⟨fd_check_letters, G_check_letters, D_check_letters⟩ := ok_check_letters (P := P) (w := w) (base := base) T
  have k_check_letters := D_check_letters.kp
  have b_check_letters := bd_check_letters D_check_letters
  obtain ⟨fd_check_number, G_check_number, D_check_number⟩ := ok_check_number (P := P) (w := w) (base := base) T
  have k_check_number := D_check_number.kp
  have b_check_number := bd_check_number D_check_number
  obtain ⟨fd_above_last, G_above_last, D_above_last⟩ := ok_above_last (P := P) (w := w) (base := base) T
  have k_above_last := D_above_last.kp
  have b_above_last := bd_above_last D_above_last
  refine ⟨fd, F.ok sc_weights_for (fun vs H Q E h => ?_) (fun cdv A outer s H vs Q E hr h => ?_), F⟩
  · rw [F_weights_for_eq] at h
    exact spD_len (np := 3) (fun _ _ _ h => h.1) vs H Q E h
  · rw [F_weights_for_eq] at h
    refine ⟨_, (pss_cons (ps_expr (pe_call G_check_letters (hr.mono (by decide)) rfl T.g_check_letters k_check_letters b_check_letters .nil (E := E) (passes_call (takes_of rfl rfl rfl rfl) fun _ _ _ _ h => h) (pa_cons (pv 0) pa_nil)))
    (pss_cons (ps_expr (pe_call G_check_number (hr.mono (by decide)) rfl T.g_check_number k_check_number b_check_number .nil (E := E) (passes_call (takes_of rfl rfl rfl rfl) fun _ _ _ _ h => h) (pa_cons (pv 1) (pa_cons pe_int (pa_cons (pe_glob (v := .int (24)) rfl T.c_MOST_LETTERS.choose_spec ⟨_, rfl⟩) pa_nil)))))
    (pss_cons (ps_expr (pe_call G_check_number (hr.mono (by decide)) rfl T.g_check_number k_check_number b_check_number .nil (E := E) (passes_call (takes_of rfl rfl rfl rfl) fun _ _ _ _ h => h) (pa_cons (pv 2) (pa_cons pe_int (pa_cons (pe_glob (v := .int (24)) rfl T.c_MOST_LETTERS.choose_spec ⟨_, rfl⟩) pa_nil)))))
    (pss_cons (ps_set (i := 3) sc_weights_for.nd rfl (by first | exact Or.inl rfl | exact Or.inr rfl) (pe_lst pa_nil))
    (pss_cons (ps_for (passes_of rfl) rfl (pi_range1 (by rfl) T.z_range (pa_cons (pe_op (op_addU rfl) (pv 2) pe_int) pa_nil)) (pg_name (i := 4) sc_weights_for.nd rfl (by first | exact Or.inl rfl | exact Or.inr rfl))
    (pss_one (ps_expr (pe_bm PySem.F.plainAttrs_list PySem.F.slot_list_append PySem.F.type_list_append mt_append (pv 3) (pa_cons (pe_call G_above_last (hr.mono (by decide)) rfl T.g__above_last k_above_last b_above_last .nil pass0 (pa_cons (pv 0) (pa_cons (pv 3) (pa_cons (pv 1) pa_nil)))) pa_nil)))))
    (pss_one (ps_ret (pe_callTy (call_tupU (K := K) rfl) (by rfl) T.z_tuple (by decide +kernel) (pa_cons (pv 3) pa_nil))))))))), ?_⟩
    exact body_of rfl h fun X hd => (dst_seq (dst_drop (de_call rfl dv_nil (ds_cons (de_var 0) ds_nil)))
    (dst_seq (dst_drop (de_call rfl dv_nil (ds_cons (de_var 1) (ds_cons (de_int 0) (ds_cons (de_int (24)) ds_nil)))))
    (dst_seq (dst_drop (de_call rfl dv_nil (ds_cons (de_var 2) (ds_cons (de_int 0) (ds_cons (de_int (24)) ds_nil)))))
    (dst_seq (dst_own (df_lst da_nil))
    (dst_seq (dst_for (di_rng1 (db_cons (DEg.bor (dg_op od_add (db_var 2) (DEg.bor (de_int 1)))) db_nil)) (dg_name 4)
    (dst_appK (de_call0 dv_nil (ds_cons (de_var 0) (ds_cons (de_var 3) (ds_cons (de_var 1) ds_nil))))))
    (dst_ret (dg_cb cg_tup (db_cons (db_var 3) db_nil))))))))
end Mine

namespace Mine
open PySem PySem.Spec PyProof.Rows L2
theorem ok_law_power {P : Program} {w : World} {K : PySem.W.Frag} {mg : Str → Option Value} {base : Heap} (T : Txt K mg) : ∃ fd, FnOk P w K mg base CX0 1 (He.ga K "_law_power") fd P_law_power (spD K F_law_power) ∧ D_law_power K (He.ga K "_law_power") fd := by
  obtain ⟨fd, F⟩ := T.F_law_power
  refine ⟨fd, F.ok sc_law_power (fun vs H Q E h => ?_) (fun cdv A outer s H vs Q E hr h => ?_), F⟩
  · rw [F_law_power_eq] at h
    exact spD_len (np := 2) (fun _ _ _ h => h.1) vs H Q E h
  · rw [F_law_power_eq] at h
    refine ⟨_, PSs.nox (pss_cons (ps_set (i := 2) sc_law_power.nd rfl (by first | exact Or.inl rfl | exact Or.inr rfl) pe_int)
    (pss_cons (ps_for PassesOwn.never rfl (pi_range1 (by rfl) T.z_range (pa_cons (pv 1) pa_nil)) (pg_name (i := 3) sc_law_power.nd rfl (by first | exact Or.inl rfl | exact Or.inr rfl))
    (pss_one (ps_set (i := 2) sc_law_power.nd rfl (by first | exact Or.inl rfl | exact Or.inr rfl) (pe_op op_mulU (pv 2) (pv 0)))))
    (pss_one (ps_ret (pv 2))))), ?_⟩
    exact body_of0 rfl h fun X hd => (dst_seq (dst_asg (de_int 1) (dg_name 2))
    (dst_seq (dst_for (di_rng1 (db_cons (db_var 1) db_nil)) (dg_name 3)
    (dst_asg (dg_op od_mul (db_var 2) (db_var 0)) (dg_name 2)))
    (dst_ret (de_var 2))))
end Mine

namespace Mine
open PySem PySem.Spec PyProof.Rows L2
theorem ok_law_told_right {P : Program} {w : World} {K : PySem.W.Frag} {mg : Str → Option Value} {base : Heap} (T : Txt K mg) : ∃ fd, FnG P w K mg base CX0 5 (He.ga K "_law_told_right") fd P_law_told_right (spD K F_law_told_right) ∧ D_law_told_right K (He.ga K "_law_told_right") fd := by
  obtain ⟨fd, F⟩ := T.F_law_told_right
  obtain ⟨fd_law_take, G_law_take, D_law_take⟩ := ok_law_take (P := P) (w := w) (base := base) T
  have k_law_take := D_law_take.kp
  have b_law_take := bd_law_take D_law_take
  obtain ⟨fd_weights_for, G_weights_for, D_weights_for⟩ := ok_weights_for (P := P) (w := w) (base := base) T
  have k_weights_for := D_weights_for.kp
  have b_weights_for := bd_weights_for D_weights_for
  obtain ⟨fd_law_power, G_law_power, D_law_power⟩ := ok_law_power (P := P) (w := w) (base := base) T
  have k_law_power := D_law_power.kp
  have b_law_power := bd_law_power D_law_power
  obtain ⟨fd_law_steep, G_law_steep, D_law_steep⟩ := ok_law_steep (P := P) (w := w) (base := base) T
  have k_law_steep := D_law_steep.kp
  have b_law_steep := bd_law_steep D_law_steep
  obtain ⟨fd_steep_by, G_steep_by, D_steep_by⟩ := ok_steep_by (P := P) (w := w) (base := base) T
  have k_steep_by := D_steep_by.kp
  have b_steep_by := bd_steep_by D_steep_by
  obtain ⟨fd_steep_modulus, G_steep_modulus, D_steep_modulus⟩ := ok_steep_modulus (P := P) (w := w) (base := base) T
  have k_steep_modulus := D_steep_modulus.kp
  have b_steep_modulus := bd_steep_modulus D_steep_modulus
  refine ⟨fd, funD_okG F sc_law_told_right (fun vs H Q E h => ?_) (fun cdv A outer s H vs Q E gu hr h => ?_), F⟩
  · rw [F_law_told_right_eq] at h
    exact spD_len (np := 1) (fun _ _ _ h => h.1) vs H Q E h
  · rw [F_law_told_right_eq] at h
    refine ⟨_, PSs.nox (pss_cons (ps_set (i := 1) sc_law_told_right.nd rfl (by first | exact Or.inl rfl | exact Or.inr rfl) (pe_op (op_addU rfl) pe_int (pe_call G_law_take (hr.mono (by decide)) rfl T.g__law_take k_law_take b_law_take .nil pass0 (pa_cons (pv 0) (pa_cons pe_int pa_nil)))))
    (pss_cons (ps_set (i := 2) sc_law_told_right.nd rfl (by first | exact Or.inl rfl | exact Or.inr rfl) (pe_ifExp (pt_cmpR (op_eqU rfl hr.units) (pe_call G_law_take (hr.mono (by decide)) rfl T.g__law_take k_law_take b_law_take .nil pass0 (pa_cons (pv 0) (pa_cons pe_int pa_nil))) pe_int (by first | exact nomark _ | rfl)) (pe_call G_law_take (hr.mono (by decide)) rfl T.g__law_take k_law_take b_law_take .nil pass0 (pa_cons (pv 0) (pa_cons pe_int pa_nil))) (pe_call G_law_take (hr.mono (by decide)) rfl T.g__law_take k_law_take b_law_take .nil pass0 (pa_cons (pv 0) (pa_cons pe_int pa_nil)))))
    (pss_cons (ps_set (i := 3) sc_law_told_right.nd rfl (by first | exact Or.inl rfl | exact Or.inr rfl) (pe_ifExp (pt_cmpR (op_eqU rfl hr.units) (pe_call G_law_take (hr.mono (by decide)) rfl T.g__law_take k_law_take b_law_take .nil pass0 (pa_cons (pv 0) (pa_cons pe_int pa_nil))) pe_int (by first | exact nomark _ | rfl)) (pe_call G_law_take (hr.mono (by decide)) rfl T.g__law_take k_law_take b_law_take .nil pass0 (pa_cons (pv 0) (pa_cons pe_int pa_nil))) (pe_call G_law_take (hr.mono (by decide)) rfl T.g__law_take k_law_take b_law_take .nil pass0 (pa_cons (pv 0) (pa_cons pe_int pa_nil)))))
    (pss_cons (ps_set (i := 4) sc_law_told_right.nd rfl (by first | exact Or.inl rfl | exact Or.inr rfl) (pe_lst pa_nil))
    (pss_cons (ps_for PassesOwn.never rfl (pi_range1 (by rfl) T.z_range (pa_cons (pe_op (op_addU rfl) (pv 3) pe_int) pa_nil)) (pg_name (i := 5) sc_law_told_right.nd rfl (by first | exact Or.inl rfl | exact Or.inr rfl))
    (pss_one (ps_expr (pe_bm PySem.F.plainAttrs_list PySem.F.slot_list_append PySem.F.type_list_append mt_append (pv 4) (pa_cons (pe_op (op_addU rfl) pe_int (pe_op op_mulU (pe_op op_sub (pv 1) pe_int) (pe_callB (CallR.k (r := rSumA) (K := K) (cr_sumA rfl) rfl) (by rfl) T.z_sum (by decide +kernel) (pa_cons (pe_slice (sl_U rfl) (pv 4) (po_some (pe_callB (call_max2U rfl) (by rfl) T.z_max (by decide +kernel) (pa_cons pe_int (pa_cons (pe_op op_sub (pv 5) (pv 2)) pa_nil)))) po_none) pa_nil)))) pa_nil)))))
    (pss_cons (ps_set (i := 6) sc_law_told_right.nd rfl (by first | exact Or.inl rfl | exact Or.inr rfl) (pe_call G_weights_for (hr.mono (by decide)) rfl T.g_weights_for k_weights_for b_weights_for .nil passL (pa_cons (pv 1) (pa_cons (pv 2) (pa_cons (pv 3) pa_nil)))))
    (pss_cons (ps_if (pt_cmpR (op_neU rfl hr.units) (pe_callB (call_reprG (K := K) rfl gu hr.units) (by rfl) T.z_repr (by decide +kernel) (pa_cons (pv 6) pa_nil)) (pe_callB (call_reprG (K := K) rfl gu hr.units) (by rfl) T.z_repr (by decide +kernel) (pa_cons (pe_callTy (call_tupU (K := K) rfl) (by rfl) T.z_tuple (by decide +kernel) (pa_cons (pv 4) pa_nil)) pa_nil)) (by first | exact nomark _ | rfl))
    (pss_one (ps_ret pe_bl))
    pss_nil)
    (pss_cons (ps_if (PW.pt (pw_and (pt_cmpR op_ge (pv 2) (pv 3) (by first | exact nomark _ | rfl)) (pw_and1 (pt_cmpR (op_neU rfl hr.units) (pv 4) (pe_lc (own := [("_law_k", 5)]) rfl sc_law_told_right.nd (pi_range1 (by rfl) T.z_range (pa_cons (pe_op (op_addU rfl) (pv 3) pe_int) pa_nil)) (blkOk_by (own := [("_law_k", 5)]) (N := N_law_told_right) (sc := defScope s_law_told_right) (by decide +kernel)) (fun _ _ _ _ _ => (pg_name (i := 5) sc_law_told_right.nd rfl (by first | exact Or.inl rfl | exact Or.inr rfl))) (fun _ _ _ _ _ => pts_nil) (fun _ _ _ _ _ => (pe_call G_law_power (hr.mono (by decide)) rfl T.g__law_power k_law_power b_law_power .nil pass0 (pa_cons (pv 1) (pa_cons (pv 5) pa_nil))))) (by first | exact nomark _ | rfl)))))
    (pss_one (ps_ret pe_bl))
    pss_nil)
    (pss_cons (ps_if (PW.pt (pw_and (pt_cmpR (op_eqU rfl hr.units) (pv 1) pe_int (by first | exact nomark _ | rfl)) (pw_and (pt_cmpR (op_eqU rfl hr.units) (pv 2) pe_int (by first | exact nomark _ | rfl)) (pw_and1 (pt_cmpR (op_neU rfl hr.units) (pv 4) (pe_listRg rfl rfl T.z_list (prg_2 rfl T.z_range pe_int (pe_op (op_addU rfl) (pv 3) pe_int))) (by first | exact nomark _ | rfl))))))
    (pss_one (ps_ret pe_bl))
    pss_nil)
    (pss_cons (ps_set (i := 7) sc_law_told_right.nd rfl (by first | exact Or.inl rfl | exact Or.inr rfl) (pe_callTy (call_lstU (K := K) rfl) (by rfl) T.z_list (by decide +kernel) (pa_cons (pe_slice (sl_U rfl) (pv 4) po_none (po_some (pv 3))) pa_nil)))
    (pss_cons (ps_set (i := 8) sc_law_told_right.nd rfl (by first | exact Or.inl rfl | exact Or.inr rfl) (pe_call G_law_steep (hr.mono (by decide)) rfl T.g__law_steep k_law_steep b_law_steep .nil pass0 (pa_cons (pv 1) (pa_cons (pv 7) pa_nil))))
    (pss_cons (ps_if (PW.pt (pw_or (pt_cmpR (op_ltU rfl hr.units0) (pv 8) (pe_callB (call_min2U rfl) (by rfl) T.z_min (by decide +kernel) (pa_cons (pv 2) (pa_cons (pv 3) pa_nil))) (by first | exact nomark _ | rfl)) (pw_or1 (pt_cmpR (op_neU rfl hr.units) (pe_callB (call_reprG (K := K) rfl gu hr.units) (by rfl) T.z_repr (by decide +kernel) (pa_cons (pe_call G_steep_by (hr.mono (by decide)) rfl T.g_steep_by k_steep_by b_steep_by .nil passL (pa_cons (pv 1) (pa_cons (pv 7) pa_nil))) pa_nil)) (pe_callB (call_reprG (K := K) rfl gu hr.units) (by rfl) T.z_repr (by decide +kernel) (pa_cons (pv 8) pa_nil)) (by first | exact nomark _ | rfl)))))
    (pss_one (ps_ret pe_bl))
    pss_nil)
    (pss_one (ps_ret (pe_and (pe_cmpR (op_eqU rfl hr.units) (pe_callB (call_reprG (K := K) rfl gu hr.units) (by rfl) T.z_repr (by decide +kernel) (pa_cons (pe_call G_steep_modulus (hr.mono (by decide)) rfl T.g_steep_modulus k_steep_modulus b_steep_modulus .nil passL (pa_cons (pv 1) (pa_cons (pv 7) (pa_cons (pv 2) pa_nil)))) pa_nil)) (pe_callB (call_reprG (K := K) rfl gu hr.units) (by rfl) T.z_repr (by decide +kernel) (pa_cons (pe_ix (ix_U (K := K) rfl) (pv 4) (pv 3) (fun _ _ => rfl)) pa_nil)) (by first | exact nomark _ | rfl)) (pe_one (pe_cmpR (op_eqU rfl hr.units) (pv 7) (pe_slice (sl_U rfl) (pv 4) po_none (po_some (pv 3))) (by first | exact nomark _ | rfl)))))))))))))))))), ?_⟩
    exact body_of0 rfl h fun X hd => (dst_seq (dst_asg (dg_op od_add (DEg.bor (de_int 2)) (DEg.bor (de_call0 dv_nil (ds_hand (i := 0) (ds_cons (de_int 3) ds_nil))))) (dg_name 1))
    (dst_of S_law_told_right_r2_eq
    (dst_seq (dst_asg (dg_if (dt_test (dg_op od_eq (DEg.bor (de_call0 dv_nil (ds_hand (i := 0) (ds_cons (de_int 4) ds_nil)))) (DEg.bor (de_int 0)))) (de_call0 dv_nil (ds_hand (i := 0) (ds_cons (de_int 25) ds_nil))) (de_call0 dv_nil (ds_hand (i := 0) (ds_cons (de_int 5) ds_nil)))) (dg_name 2))
    (dst_of S_law_told_right_r3_eq
    (dst_seq (dst_asg (dg_if (dt_test (dg_op od_eq (DEg.bor (de_call0 dv_nil (ds_hand (i := 0) (ds_cons (de_int 4) ds_nil)))) (DEg.bor (de_int 0)))) (de_call0 dv_nil (ds_hand (i := 0) (ds_cons (de_int 25) ds_nil))) (de_call0 dv_nil (ds_hand (i := 0) (ds_cons (de_int 8) ds_nil)))) (dg_name 3))
    (dst_of S_law_told_right_r4_eq
    (dst_seq (dst_own (df_lst da_nil))
    (dst_of S_law_told_right_r5_eq
    (dst_seq (dst_for (di_rng1 (db_cons (DEg.bor (dg_op od_add (db_var 3) (DEg.bor (de_int 1)))) db_nil)) (dg_name 5)
    (dst_of S_law_told_right_b6_eq
    (dst_app (dg_op od_add (DEg.bor (de_int 1)) (DEg.bor (dg_op od_mul (DEg.bor (dg_op od_sub (db_var 1) (DEg.bor (de_int 1)))) (DEg.bor (dg_cb cg_sum (db_cons (DEg.bor (dg_sl sg_U (db_var 4) (do_some (dg_cb cg_max2 (db_cons (DEg.bor (de_int 0)) (db_cons (DEg.bor (dg_op od_sub (db_var 5) (db_var 2))) db_nil)))) do_none)) db_nil)))))))))
    (dst_of S_law_told_right_r7_eq
    (dst_seq (dst_asg (de_call0 dv_nil (ds_cons (de_var 1) (ds_cons (de_var 2) (ds_cons (de_var 3) ds_nil)))) (dg_name 6))
    (dst_of S_law_told_right_r8_eq
    (dst_seq (dst_if (dt_test (dg_op od_ne (DEg.bor (dg_cb cg_repr (db_cons (db_var 6) db_nil))) (DEg.bor (dg_cb cg_repr (db_cons (DEg.bor (dg_cb cg_tup (db_cons (db_var 4) db_nil))) db_nil)))))
    (dst_ret (de_bl false))
    dst_next)
    (dst_of S_law_told_right_r10_eq
    (dst_seq (dst_if (dt_and (dt_test (dg_op od_ge (db_var 2) (db_var 3))) (dt_test (dg_op od_ne (db_var 4) (DEg.bor (DEg.cln (df_lc (di_rng1 (db_cons (DEg.bor (dg_op od_add (db_var 3) (DEg.bor (de_int 1)))) db_nil)) (dg_name 5) dt_yes (de_call0 dv_nil (ds_cons (de_var 1) (ds_cons (de_var 5) ds_nil)))))))))
    (dst_ret (de_bl false))
    dst_next)
    (dst_of S_law_told_right_r12_eq
    (dst_seq (dst_if (dt_and (dt_test (dg_op od_eq (db_var 1) (DEg.bor (de_int 2)))) (dt_and (dt_test (dg_op od_eq (db_var 2) (DEg.bor (de_int 1)))) (dt_test (dg_op od_ne (db_var 4) (DEg.bor (DEg.cln (df_listRg (de_int 1) (dg_op od_add (db_var 3) (DEg.bor (de_int 2))))))))))
    (dst_ret (de_bl false))
    dst_next)
    (dst_of S_law_told_right_r14_eq
    (dst_seq (dst_asg (DEg.cln (dg_cb cg_lst (db_cons (DEg.bor (dg_sl sg_U (db_var 4) do_none (do_some (de_var 3)))) db_nil))) (dg_name 7))
    (dst_of S_law_told_right_r15_eq
    (dst_seq (dst_asg (de_call0 dv_nil (ds_cons (de_var 1) (ds_cons (de_var 7) ds_nil))) (dg_name 8))
    (dst_of S_law_told_right_r16_eq
    (dst_seq (dst_if (dt_or (dt_test (dg_op od_lt (db_var 8) (DEg.bor (dg_cb cg_min2 (db_cons (db_var 2) (db_cons (db_var 3) db_nil)))))) (dt_test (dg_op od_ne (DEg.bor (dg_cb cg_repr (db_cons (DEg.bor (de_call0 dv_nil (ds_cons (de_var 1) (ds_cons (de_var 7) ds_nil)))) db_nil))) (DEg.bor (dg_cb cg_repr (db_cons (db_var 8) db_nil))))))
    (dst_ret (de_bl false))
    dst_next)
    (dst_of S_law_told_right_r18_eq
    (dst_ret (de_andV (dg_op od_eq (DEg.bor (dg_cb cg_repr (db_cons (DEg.bor (de_call0 dv_nil (ds_cons (de_var 1) (ds_cons (de_var 7) (ds_cons (de_var 2) ds_nil))))) db_nil))) (DEg.bor (dg_cb cg_repr (db_cons (DEg.bor (dg_op od_ix (db_var 4) (db_var 3))) db_nil)))) (dg_op od_eq (db_var 7) (DEg.bor (dg_sl sg_U (db_var 4) do_none (do_some (de_var 3)))))))))))))))))))))))))))))))
end Mine

namespace Mine
open PySem PySem.Spec PyProof.Rows L2
theorem ok_law_odd {P : Program} {w : World} {K : PySem.W.Frag} {mg : Str → Option Value} {base : Heap} (T : Txt K mg) : ∃ fd, FnOk P w K mg base CX0 3 (He.ga K "_law_odd") fd P_law_odd (spD K F_law_odd) ∧ D_law_odd K (He.ga K "_law_odd") fd := by
  obtain ⟨fd, F⟩ := T.F_law_odd
  obtain ⟨fd_law_take, G_law_take, D_law_take⟩ := ok_law_take (P := P) (w := w) (base := base) T
  have k_law_take := D_law_take.kp
  have b_law_take := bd_law_take D_law_take
  refine ⟨fd, F.ok sc_law_odd (fun vs H Q E h => ?_) (fun cdv A outer s H vs Q E hr h => ?_), F⟩
  · rw [F_law_odd_eq] at h
    exact spD_len (np := 2) (fun _ _ _ h => h.1) vs H Q E h
  · rw [F_law_odd_eq] at h
    refine ⟨_, PSs.nox (pss_one (ps_ret (pe_ix (ix_U (K := K) rfl) (pe_lst (pa_cons pe_int (pa_cons (pe_un un_neg pe_int) (pa_cons pe_bl (pa_cons pe_non (pa_cons pe_str (pa_cons (pv 1) (pa_cons pe_bl (pa_cons (pe_tup (pa_cons pe_int pa_nil)) pa_nil))))))))) (pe_call G_law_take (hr.mono (by decide)) rfl T.g__law_take k_law_take b_law_take .nil pass0 (pa_cons (pv 0) (pa_cons pe_int pa_nil))) (fun _ _ => rfl)))), ?_⟩
    exact body_of0 rfl h fun X hd => (dst_ret (dg_op od_ix (DEg.bor (DEg.cln (df_lst (da_cons (de_int 0) (da_cons (de_un ud_neg (DEg.bor (de_int 1))) (da_cons (de_bl true) (da_cons de_non (da_cons (de_str "1") (da_cons (de_var 1) (da_cons (de_bl false) (da_cons (de_tup (da_cons (de_int 1) da_nil)) da_nil))))))))))) (DEg.bor (de_call0 dv_nil (ds_hand (i := 0) (ds_cons (de_int 8) ds_nil))))))
end Mine

namespace Mine
open PySem PySem.Spec PyProof.Rows L2
theorem ok_law_wrong_weights {P : Program} {w : World} {K : PySem.W.Frag} {mg : Str → Option Value} {base : Heap} (T : Txt K mg) : ∃ fd, FnOk P w K mg base CX0 4 (He.ga K "_law_wrong_weights") fd P_law_wrong_weights (spD K F_law_wrong_weights) ∧ D_law_wrong_weights K (He.ga K "_law_wrong_weights") fd := by
  obtain ⟨fd, F⟩ := T.F_law_wrong_weights
  obtain ⟨fd_law_take, G_law_take, D_law_take⟩ := ok_law_take (P := P) (w := w) (base := base) T
  have k_law_take := D_law_take.kp
  have b_law_take := bd_law_take D_law_take
  obtain ⟨fd_law_odd, G_law_odd, D_law_odd⟩ := ok_law_odd (P := P) (w := w) (base := base) T
  have k_law_odd := D_law_odd.kp
  have b_law_odd := bd_law_odd D_law_odd
  refine ⟨fd, F.ok sc_law_wrong_weights (fun vs H Q E h => ?_) (fun cdv A outer s H vs Q E hr h => ?_), F⟩
  · rw [F_law_wrong_weights_eq] at h
    exact spD_len (np := 1) (fun _ _ _ h => h.1) vs H Q E h
  · rw [F_law_wrong_weights_eq] at h
    refine ⟨_, PSs.nox (pss_cons (ps_set (i := 1) sc_law_wrong_weights.nd rfl (by first | exact Or.inl rfl | exact Or.inr rfl) (pe_call G_law_take (hr.mono (by decide)) rfl T.g__law_take k_law_take b_law_take .nil pass0 (pa_cons (pv 0) (pa_cons pe_int pa_nil))))
    (pss_cons (ps_if (pt_cmpR (op_eqU rfl hr.units) (pv 1) pe_int (by first | exact nomark _ | rfl))
    (pss_one (ps_ret (pe_tup (pa_cons (pe_ix (ix_U (K := K) rfl) (pe_lst (pa_cons pe_non (pa_cons pe_str (pa_cons pe_int (pa_cons pe_bl pa_nil))))) (pe_call G_law_take (hr.mono (by decide)) rfl T.g__law_take k_law_take b_law_take .nil pass0 (pa_cons (pv 0) (pa_cons pe_int pa_nil))) (fun _ _ => rfl)) (pa_cons (pe_un un_neg pe_int) pa_nil)))))
    pss_nil)
    (pss_cons (ps_if (pt_cmpR (op_eqU rfl hr.units) (pv 1) pe_int (by first | exact nomark _ | rfl))
    (pss_one (ps_ret (pe_tup (pa_cons (pe_op (op_addU rfl) (pe_lst (pa_cons pe_int pa_nil)) (pe_op op_mulU (pe_lst (pa_cons (pe_op (op_addU rfl) pe_int (pe_call G_law_take (hr.mono (by decide)) rfl T.g__law_take k_law_take b_law_take .nil pass0 (pa_cons (pv 0) (pa_cons pe_int pa_nil)))) pa_nil)) pe_int)) (pa_cons (pe_un un_neg pe_int) pa_nil)))))
    pss_nil)
    (pss_cons (ps_setLc (i := 2) (own := [("_law_k", 3)]) rfl sc_law_wrong_weights.nd rfl rfl (sw_true rfl rfl rfl (by decide +kernel)) (pi_range1 (by rfl) T.z_range (pa_cons (pe_call G_law_take (hr.mono (by decide)) rfl T.g__law_take k_law_take b_law_take .nil pass0 (pa_cons (pv 0) (pa_cons pe_int pa_nil))) pa_nil)) (blkOk_by (own := [("_law_k", 3)]) (N := N_law_wrong_weights) (sc := defScope s_law_wrong_weights) (by decide +kernel)) (fun _ _ _ _ _ => (pg_name (i := 3) sc_law_wrong_weights.nd rfl (by first | exact Or.inl rfl | exact Or.inr rfl))) (fun _ _ _ _ _ => pts_nil) (fun _ _ _ _ _ => (pe_op (op_addU rfl) pe_int (pe_call G_law_take (hr.mono (by decide)) rfl T.g__law_take k_law_take b_law_take .nil pass0 (pa_cons (pv 0) (pa_cons (pe_op op_pow pe_int pe_int) pa_nil))))))
    (pss_cons (ps_set (i := 3) sc_law_wrong_weights.nd rfl (by first | exact Or.inl rfl | exact Or.inr rfl) (pe_call G_law_take (hr.mono (by decide)) rfl T.g__law_take k_law_take b_law_take .nil pass0 (pa_cons (pv 0) (pa_cons (pe_op (op_addU rfl) (pe_callB (call_lenU (K := K) rfl) (by rfl) T.z_len (by decide +kernel) (pa_cons (pv 2) pa_nil)) pe_int) pa_nil))))
    (pss_cons (ps_set (i := 4) sc_law_wrong_weights.nd rfl (by first | exact Or.inl rfl | exact Or.inr rfl) (pe_op (op_addU rfl) (pe_op (op_addU rfl) (pe_slice (sl_U rfl) (pv 2) po_none (po_some (pv 3))) (pe_lst (pa_cons (pe_call G_law_odd (hr.mono (by decide)) rfl T.g__law_odd k_law_odd b_law_odd .nil pass0 (pa_cons (pv 0) (pa_cons (pe_op (op_addU rfl) (pe_op op_pow pe_int pe_int) pe_int) pa_nil))) pa_nil))) (pe_slice (sl_U rfl) (pv 2) (po_some (pv 3)) po_none)))
    (pss_cons (ps_if (PW.pt (pw_and (pt_cmpR (op_eqU rfl hr.units) (pv 1) pe_int (by first | exact nomark _ | rfl)) (pw_and1 (pt_cmpR (op_ltU rfl hr.units0) (pe_callB (call_lenU (K := K) rfl) (by rfl) T.z_len (by decide +kernel) (pa_cons (pv 4) pa_nil)) pe_int (by first | exact nomark _ | rfl)))))
    (pss_one (ps_expr (pe_bm PySem.F.plainAttrs_list PySem.F.slot_list_append PySem.F.type_list_append mt_append (pv 4) (pa_cons (pe_call G_law_odd (hr.mono (by decide)) rfl T.g__law_odd k_law_odd b_law_odd .nil pass0 (pa_cons (pv 0) (pa_cons (pe_op (op_addU rfl) (pe_op op_pow pe_int pe_int) pe_int) pa_nil))) pa_nil))))
    pss_nil)
    (pss_one (ps_ret (pe_tup (pa_cons (pe_ifExp (pt_tru rfl (pe_call G_law_take (hr.mono (by decide)) rfl T.g__law_take k_law_take b_law_take .nil pass0 (pa_cons (pv 0) (pa_cons pe_int pa_nil))) (by intro _; rfl)) (pv 4) (pe_callTy (call_tupU (K := K) rfl) (by rfl) T.z_tuple (by decide +kernel) (pa_cons (pv 4) pa_nil))) (pa_cons (pv 3) pa_nil)))))))))))), ?_⟩
    exact body_of0 rfl h fun X hd => (dst_seq (dst_asg (de_call0 dv_nil (ds_hand (i := 0) (ds_cons (de_int 4) ds_nil))) (dg_name 1))
    (dst_of S_law_wrong_weights_r2_eq
    (dst_seq (dst_if (dt_test (dg_op od_eq (db_var 1) (DEg.bor (de_int 0))))
    (dst_ret (de_tup (da_cons (dg_op od_ix (DEg.bor (DEg.cln (df_lst (da_cons de_non (da_cons (de_str "12") (da_cons (de_int 7) (da_cons (de_bl true) da_nil))))))) (DEg.bor (de_call0 dv_nil (ds_hand (i := 0) (ds_cons (de_int 4) ds_nil))))) (da_cons (de_un ud_neg (DEg.bor (de_int 1))) da_nil))))
    dst_next)
    (dst_of S_law_wrong_weights_r4_eq
    (dst_seq (dst_if (dt_test (dg_op od_eq (db_var 1) (DEg.bor (de_int 1))))
    (dst_ret (de_tup (da_cons (dg_op od_add (DEg.bor (DEg.cln (df_lst (da_cons (de_int 0) da_nil)))) (DEg.bor (dg_op od_mul (DEg.bor (DEg.cln (df_lst (da_cons (dg_op od_add (DEg.bor (de_int 1)) (DEg.bor (de_call0 dv_nil (ds_hand (i := 0) (ds_cons (de_int 9) ds_nil))))) da_nil)))) (DEg.bor (de_int 24))))) (da_cons (de_un ud_neg (DEg.bor (de_int 1))) da_nil))))
    dst_next)
    (dst_of S_law_wrong_weights_r6_eq
    (dst_seq (dst_asg (DEg.cln (df_lc (di_rng1 (db_cons (DEg.bor (de_call0 dv_nil (ds_hand (i := 0) (ds_cons (de_int 23) ds_nil)))) db_nil)) (dg_name 3) dt_yes (dg_op od_add (DEg.bor (de_int 1)) (DEg.bor (de_call0 dv_nil (ds_hand (i := 0) (ds_cons (de_powC (a := 10) (b := 15) (c := 1000000000000000) (cpow_of (by decide +kernel)) (by decide +kernel)) ds_nil))))))) (dg_name 2))
    (dst_of S_law_wrong_weights_r7_eq
    (dst_seq (dst_asg (de_call0 dv_nil (ds_hand (i := 0) (ds_cons (dg_op od_add (DEg.bor (dg_cb cg_len (db_cons (db_var 2) db_nil))) (DEg.bor (de_int 1))) ds_nil))) (dg_name 3))
    (dst_of S_law_wrong_weights_r8_eq
    (dst_seq (dst_own (dg_op od_addL (DEg.bor (dg_op od_add (DEg.bor (dg_sl sg_U (db_var 2) do_none (do_some (de_var 3)))) (DEg.bor (DEg.cln (df_lst (da_cons (de_call0 dv_nil (ds_hand (i := 0) (ds_cons (dg_op od_add (DEg.bor (de_powC (a := 10) (b := 15) (c := 1000000000000000) (cpow_of (by decide +kernel)) (by decide +kernel))) (DEg.bor (de_int 1))) ds_nil))) da_nil)))))) (DEg.bor (dg_sl sg_U (db_var 2) (do_some (de_var 3)) do_none))))
    (dst_of S_law_wrong_weights_r9_eq
    (dst_seq (dst_if (dt_and (dt_test (dg_op od_eq (db_var 1) (DEg.bor (de_int 2)))) (dt_test (dg_op od_lt (DEg.bor (dg_cb cg_len (db_cons (db_var 4) db_nil))) (DEg.bor (de_int 24)))))
    (dst_app (de_call0 dv_nil (ds_hand (i := 0) (ds_cons (dg_op od_add (DEg.bor (de_powC (a := 10) (b := 15) (c := 1000000000000000) (cpow_of (by decide +kernel)) (by decide +kernel))) (DEg.bor (de_int 1))) ds_nil))))
    dst_next)
    (dst_of S_law_wrong_weights_r11_eq
    (dst_frz 4 (dst_ret (de_tup (da_cons (dg_if (dt_tru (DEg.bor (de_call0 dv_nil (ds_hand (i := 0) (ds_cons (de_int 2) ds_nil))))) (de_var 4) (dg_cb cg_tup (db_cons (db_var 4) db_nil))) (da_cons (de_var 3) da_nil)))))))))))))))))))
end Mine

namespace Mine
open PySem PySem.Spec PyProof.Rows L2
theorem ok_law_called {P : Program} {w : World} {K : PySem.W.Frag} {mg : Str → Option Value} {base : Heap} (T : Txt K mg) : ∃ fd, FnOk P w K mg base CX0 5 (He.ga K "_law_called") fd P_law_called (spD K F_law_called) ∧ D_law_called K (He.ga K "_law_called") fd := by
  obtain ⟨fd, F⟩ := T.F_law_called
  obtain ⟨fd_weights_for, G_weights_for, D_weights_for⟩ := ok_weights_for (P := P) (w := w) (base := base) T
  have k_weights_for := D_weights_for.kp
  have b_weights_for := bd_weights_for D_weights_for
  obtain ⟨fd_steep_by, G_steep_by, D_steep_by⟩ := ok_steep_by (P := P) (w := w) (base := base) T
  have k_steep_by := D_steep_by.kp
  have b_steep_by := bd_steep_by D_steep_by
  obtain ⟨fd_steep_modulus, G_steep_modulus, D_steep_modulus⟩ := ok_steep_modulus (P := P) (w := w) (base := base) T
  have k_steep_modulus := D_steep_modulus.kp
  have b_steep_modulus := bd_steep_modulus D_steep_modulus
  obtain ⟨fd_check_weights, G_check_weights, D_check_weights⟩ := ok_check_weights (P := P) (w := w) (base := base) T
  have k_check_weights := D_check_weights.kp
  have b_check_weights := bd_check_weights D_check_weights
  refine ⟨fd, F.ok sc_law_called (fun vs H Q E h => ?_) (fun cdv A outer s H vs Q E hr h => ?_), F⟩
  · rw [F_law_called_eq] at h
    exact spD_len (np := 4) (fun _ _ _ h => h.1) vs H Q E h
  · rw [F_law_called_eq] at h
    have hd : ∀ X hd, DS ⟨K, H, X, hd, none, fun _ _ _ _ => False, none⟩ _ S_law_called := fun X hd => (dst_seq (dst_try rfl rfl (mt_ok T) (fun W => (dst_if (dt_test (dg_op od_eq (db_var 0) (DEg.bor (de_int 0))))
    (dst_asg (de_callS rfl (ds_cons (de_var 1) (ds_cons (de_var 2) (ds_cons (de_var 3) ds_nil)))) (dg_name 4))
    (dst_if (dt_test (dg_op od_eq (db_var 0) (DEg.bor (de_int 1))))
    (dst_asg (de_callS rfl (ds_cons (de_var 1) (ds_cons (de_var 2) ds_nil))) (dg_name 4))
    (dst_if (dt_test (dg_op od_eq (db_var 0) (DEg.bor (de_int 2))))
    (dst_asg (de_callS rfl (ds_cons (de_var 1) (ds_cons (de_var 2) (ds_cons (de_var 3) ds_nil)))) (dg_name 4))
    (dst_asg (de_callS rfl (ds_cons (de_var 2) ds_nil)) (dg_name 4)))))) (HsOk.cons (fun a cls d => (dst_ret (DEg.cln (df_lst (da_cons (de_str "letters") da_nil))))) (HsOk.cons (fun a cls d => (dst_ret (DEg.cln (df_lst (da_cons (de_str "number") da_nil))))) (HsOk.cons (fun a cls d => (dst_ret (DEg.cln (df_lst (da_cons (de_str "weights") (da_cons (de_xf (i := 5)) da_nil)))))) (HsOk.cons (fun a cls d => (dst_ret (DEg.cln (df_lst (da_cons (de_str "other") da_nil))))) HsOk.nil)))))
    (dst_ret (DEg.cln (df_lst (da_cons (de_str "let") (da_cons (de_var 4) da_nil))))))
    refine ⟨_, PSs.nox (pss_cons (ps_try_named rfl rfl sc_law_called.nd takes0 (fun W pn xe tk0 po => (pss_one (ps_if (pt_cmpR (op_eqU rfl hr.units) (pv 0) pe_int (by first | exact nomark _ | rfl))
    (pss_one (ps_set (i := 4) sc_law_called.nd rfl (by first | exact Or.inl rfl | exact Or.inr rfl) (pe_callS G_weights_for (hr.mono (by decide)) rfl T.g_weights_for k_weights_for b_weights_for (fun σ => passAt tk0 σ) (pa_cons (pv 1) (pa_cons (pv 2) (pa_cons (pv 3) pa_nil))))))
    (pss_one (ps_if (pt_cmpR (op_eqU rfl hr.units) (pv 0) pe_int (by first | exact nomark _ | rfl))
    (pss_one (ps_set (i := 4) sc_law_called.nd rfl (by first | exact Or.inl rfl | exact Or.inr rfl) (pe_callS G_steep_by (hr.mono (by decide)) rfl T.g_steep_by k_steep_by b_steep_by (fun σ => passAt tk0 σ) (pa_cons (pv 1) (pa_cons (pv 2) pa_nil)))))
    (pss_one (ps_if (pt_cmpR (op_eqU rfl hr.units) (pv 0) pe_int (by first | exact nomark _ | rfl))
    (pss_one (ps_set (i := 4) sc_law_called.nd rfl (by first | exact Or.inl rfl | exact Or.inr rfl) (pe_callS G_steep_modulus (hr.mono (by decide)) rfl T.g_steep_modulus k_steep_modulus b_steep_modulus (fun σ => passAt tk0 σ) (pa_cons (pv 1) (pa_cons (pv 2) (pa_cons (pv 3) pa_nil))))))
    (pss_one (ps_set (i := 4) sc_law_called.nd rfl (by first | exact Or.inl rfl | exact Or.inr rfl) (pe_callS G_check_weights (hr.mono (by decide)) rfl T.g_check_weights k_check_weights b_check_weights (fun σ => passAt tk0 σ) (pa_cons (pv 2) pa_nil))))))))))) (HdsN.bare ⟨rfl, by decide, .inl T.g_BadLetters⟩ (fun a oe cls d pn hz hf => (pss_one (ps_ret (pe_lst (pa_cons pe_str pa_nil))))) (HdsN.bare ⟨rfl, by decide, .inl T.g_BadNumber⟩ (fun a oe cls d pn hz hf => (pss_one (ps_ret (pe_lst (pa_cons pe_str pa_nil))))) (HdsN.named (i := 5) rfl rfl ⟨rfl, by decide, .inl T.g_BadWeights⟩ (fun a oe cls d pn hz hf => (pss_one (ps_ret (pe_lst (pa_cons pe_str (pa_cons (pe_xf T.x_BadWeights.x T.n_BadWeights_is_index hz hf (pv 5)) pa_nil)))))) (HdsN.bare ⟨rfl, by decide, .inl T.g_PlaceError⟩ (fun a oe cls d pn hz hf => (pss_one (ps_ret (pe_lst (pa_cons pe_str pa_nil))))) HdsN.nil)))))
    (pss_one (ps_ret (pe_lst (pa_cons pe_str (pa_cons (pv 4) pa_nil)))))), ?_⟩
    dsimp only [Bc.wE] at hd
    have r := body_of0 (N := N_law_called) rfl h hd
    exact r
end Mine

namespace Mine
open PySem PySem.Spec PyProof.Rows L2
theorem ok_law_refused {P : Program} {w : World} {K : PySem.W.Frag} {mg : Str → Option Value} {base : Heap} (T : Txt K mg) : ∃ fd, FnG P w K mg base CX0 6 (He.ga K "_law_refused") fd P_law_refused (spD K F_law_refused) ∧ D_law_refused K (He.ga K "_law_refused") fd := by
  obtain ⟨fd, F⟩ := T.F_law_refused
  obtain ⟨fd_law_take, G_law_take, D_law_take⟩ := ok_law_take (P := P) (w := w) (base := base) T
  have k_law_take := D_law_take.kp
  have b_law_take := bd_law_take D_law_take
  obtain ⟨fd_law_wrong_weights, G_law_wrong_weights, D_law_wrong_weights⟩ := ok_law_wrong_weights (P := P) (w := w) (base := base) T
  have k_law_wrong_weights := D_law_wrong_weights.kp
  have b_law_wrong_weights := bd_law_wrong_weights D_law_wrong_weights
  obtain ⟨fd_law_called, G_law_called, D_law_called⟩ := ok_law_called (P := P) (w := w) (base := base) T
  have k_law_called := D_law_called.kp
  have b_law_called := bd_law_called D_law_called
  obtain ⟨fd_law_least_modulus, G_law_least_modulus, D_law_least_modulus⟩ := ok_law_least_modulus (P := P) (w := w) (base := base) T
  have k_law_least_modulus := D_law_least_modulus.kp
  have b_law_least_modulus := bd_law_least_modulus D_law_least_modulus
  obtain ⟨fd_law_steep, G_law_steep, D_law_steep⟩ := ok_law_steep (P := P) (w := w) (base := base) T
  have k_law_steep := D_law_steep.kp
  have b_law_steep := bd_law_steep D_law_steep
  refine ⟨fd, funD_okG F sc_law_refused (fun vs H Q E h => ?_) (fun cdv A outer s H vs Q E gu hr h => ?_), F⟩
  · rw [F_law_refused_eq] at h
    exact spD_len (np := 1) (fun _ _ _ h => h.1) vs H Q E h
  · rw [F_law_refused_eq] at h
    refine ⟨_, PSs.nox (pss_cons (ps_set (i := 1) sc_law_refused.nd rfl (by first | exact Or.inl rfl | exact Or.inr rfl) (pe_ix (ix_U (K := K) rfl) (pe_lst (pa_cons pe_int (pa_cons pe_int (pa_cons pe_int (pa_cons pe_bl (pa_cons pe_non (pa_cons pe_str (pa_cons (pe_un un_neg pe_int) (pa_cons (pe_op op_pow pe_int pe_int) pa_nil))))))))) (pe_call G_law_take (hr.mono (by decide)) rfl T.g__law_take k_law_take b_law_take .nil pass0 (pa_cons (pv 0) (pa_cons pe_int pa_nil))) (fun _ _ => rfl)))
    (pss_cons (ps_set (i := 2) sc_law_refused.nd rfl (by first | exact Or.inl rfl | exact Or.inr rfl) (pe_ix (ix_U (K := K) rfl) (pe_lst (pa_cons (pe_un un_neg pe_int) (pa_cons pe_int (pa_cons pe_bl (pa_cons pe_non (pa_cons pe_str (pa_cons (pe_op op_pow pe_int pe_int) (pa_cons pe_bl (pa_cons (pe_tup (pa_cons pe_int pa_nil)) pa_nil))))))))) (pe_call G_law_take (hr.mono (by decide)) rfl T.g__law_take k_law_take b_law_take .nil pass0 (pa_cons (pv 0) (pa_cons pe_int pa_nil))) (fun _ _ => rfl)))
    (pss_cons (ps_asg (pe_call G_law_wrong_weights (hr.mono (by decide)) rfl T.g__law_wrong_weights k_law_wrong_weights b_law_wrong_weights .nil pass0 (pa_cons (pv 0) pa_nil)) (pg_tupK (K := K) (n := 2) rfl (by rfl) (pgs_cons (pg_name (i := 3) sc_law_refused.nd rfl (by first | exact Or.inl rfl | exact Or.inr rfl)) (pgs_cons (pg_name (i := 4) sc_law_refused.nd rfl (by first | exact Or.inl rfl | exact Or.inr rfl)) pgs_nil))))
    (pss_cons (ps_par3 (i := 5) (j := 6) (l := 7) (by rfl) sc_law_refused.nd rfl rfl rfl (by decide) (by decide) (by decide) rfl rfl rfl (pa_cons (pe_op (op_addU rfl) pe_int (pe_call G_law_take (hr.mono (by decide)) rfl T.g__law_take k_law_take b_law_take .nil pass0 (pa_cons (pv 0) (pa_cons pe_int pa_nil)))) (pa_cons (pe_call G_law_take (hr.mono (by decide)) rfl T.g__law_take k_law_take b_law_take .nil pass0 (pa_cons (pv 0) (pa_cons pe_int pa_nil))) (pa_cons (pe_lc (own := [("_law_k", 11)]) rfl sc_law_refused.nd (pi_range1 (by rfl) T.z_range (pa_cons pe_int pa_nil)) (blkOk_by (own := [("_law_k", 11)]) (N := N_law_refused) (sc := defScope s_law_refused) (by decide +kernel)) (fun _ _ _ _ _ => (pg_name (i := 11) sc_law_refused.nd rfl (by first | exact Or.inl rfl | exact Or.inr rfl))) (fun _ _ _ _ _ => pts_nil) (fun _ _ _ _ _ => (pe_op (op_addU rfl) pe_int (pe_call G_law_take (hr.mono (by decide)) rfl T.g__law_take k_law_take b_law_take .nil pass0 (pa_cons (pv 0) (pa_cons pe_int pa_nil)))))) pa_nil))) (by rfl))
    (pss_cons (ps_set (i := 8) sc_law_refused.nd rfl (by first | exact Or.inl rfl | exact Or.inr rfl) (pe_lst (pa_cons (pe_tup (pa_cons (pe_call G_law_called (hr.mono (by decide)) rfl T.g__law_called k_law_called b_law_called .nil pass0 (pa_cons pe_int (pa_cons (pv 1) (pa_cons (pv 2) (pa_cons (pv 2) pa_nil))))) (pa_cons (pe_lst (pa_cons pe_str pa_nil)) pa_nil))) (pa_cons (pe_tup (pa_cons (pe_call G_law_called (hr.mono (by decide)) rfl T.g__law_called k_law_called b_law_called .nil pass0 (pa_cons pe_int (pa_cons (pv 5) (pa_cons (pv 2) (pa_cons (pv 6) pa_nil))))) (pa_cons (pe_lst (pa_cons pe_str pa_nil)) pa_nil))) (pa_cons (pe_tup (pa_cons (pe_call G_law_called (hr.mono (by decide)) rfl T.g__law_called k_law_called b_law_called .nil pass0 (pa_cons pe_int (pa_cons (pv 5) (pa_cons (pv 6) (pa_cons (pv 2) pa_nil))))) (pa_cons (pe_lst (pa_cons pe_str pa_nil)) pa_nil))) (pa_cons (pe_tup (pa_cons (pe_call G_law_called (hr.mono (by decide)) rfl T.g__law_called k_law_called b_law_called .nil pass0 (pa_cons pe_int (pa_cons (pv 1) (pa_cons (pv 3) (pa_cons pe_int pa_nil))))) (pa_cons (pe_lst (pa_cons pe_str pa_nil)) pa_nil))) (pa_cons (pe_tup (pa_cons (pe_call G_law_called (hr.mono (by decide)) rfl T.g__law_called k_law_called b_law_called .nil pass0 (pa_cons pe_int (pa_cons (pv 5) (pa_cons (pv 3) (pa_cons pe_int pa_nil))))) (pa_cons (pe_lst (pa_cons pe_str (pa_cons (pv 4) pa_nil))) pa_nil))) (pa_cons (pe_tup (pa_cons (pe_call G_law_called (hr.mono (by decide)) rfl T.g__law_called k_law_called b_law_called .nil pass0 (pa_cons pe_int (pa_cons (pv 5) (pa_cons (pv 7) (pa_cons pe_int pa_nil))))) (pa_cons (pe_lst (pa_cons pe_str (pa_cons (pe_call G_law_steep (hr.mono (by decide)) rfl T.g__law_steep k_law_steep b_law_steep .nil pass0 (pa_cons (pv 5) (pa_cons (pv 7) pa_nil))) pa_nil))) pa_nil))) (pa_cons (pe_tup (pa_cons (pe_call G_law_called (hr.mono (by decide)) rfl T.g__law_called k_law_called b_law_called .nil pass0 (pa_cons pe_int (pa_cons (pv 1) (pa_cons (pv 3) (pa_cons (pv 2) pa_nil))))) (pa_cons (pe_lst (pa_cons pe_str pa_nil)) pa_nil))) (pa_cons (pe_tup (pa_cons (pe_call G_law_called (hr.mono (by decide)) rfl T.g__law_called k_law_called b_law_called .nil pass0 (pa_cons pe_int (pa_cons (pv 5) (pa_cons (pv 3) (pa_cons (pv 2) pa_nil))))) (pa_cons (pe_lst (pa_cons pe_str (pa_cons (pv 4) pa_nil))) pa_nil))) (pa_cons (pe_tup (pa_cons (pe_call G_law_called (hr.mono (by decide)) rfl T.g__law_called k_law_called b_law_called .nil pass0 (pa_cons pe_int (pa_cons (pv 5) (pa_cons (pv 7) (pa_cons (pv 2) pa_nil))))) (pa_cons (pe_lst (pa_cons pe_str pa_nil)) pa_nil))) (pa_cons (pe_tup (pa_cons (pe_call G_law_called (hr.mono (by decide)) rfl T.g__law_called k_law_called b_law_called .nil pass0 (pa_cons pe_int (pa_cons (pv 5) (pa_cons (pv 7) (pa_cons (pv 6) pa_nil))))) (pa_cons (pe_lst (pa_cons pe_str (pa_cons (pe_call G_law_least_modulus (hr.mono (by decide)) rfl T.g__law_least_modulus k_law_least_modulus b_law_least_modulus .nil pass0 (pa_cons (pv 5) (pa_cons (pv 7) (pa_cons (pv 6) pa_nil)))) pa_nil))) pa_nil))) (pa_cons (pe_tup (pa_cons (pe_call G_law_called (hr.mono (by decide)) rfl T.g__law_called k_law_called b_law_called .nil pass0 (pa_cons pe_int (pa_cons pe_int (pa_cons (pv 3) (pa_cons pe_int pa_nil))))) (pa_cons (pe_lst (pa_cons pe_str (pa_cons (pv 4) pa_nil))) pa_nil))) (pa_cons (pe_tup (pa_cons (pe_call G_law_called (hr.mono (by decide)) rfl T.g__law_called k_law_called b_law_called .nil pass0 (pa_cons pe_int (pa_cons pe_int (pa_cons (pv 7) (pa_cons pe_int pa_nil))))) (pa_cons (pe_lst (pa_cons pe_str (pa_cons (pe_callTy (call_tupU (K := K) rfl) (by rfl) T.z_tuple (by decide +kernel) (pa_cons (pv 7) pa_nil)) pa_nil))) pa_nil))) (pa_cons (pe_tup (pa_cons (pe_call G_law_called (hr.mono (by decide)) rfl T.g__law_called k_law_called b_law_called .nil pass0 (pa_cons pe_int (pa_cons pe_int (pa_cons (pe_tup pa_nil) (pa_cons pe_int pa_nil))))) (pa_cons (pe_lst (pa_cons pe_str (pa_cons (pe_tup pa_nil) pa_nil))) pa_nil))) pa_nil)))))))))))))))
    (pss_cons (ps_for PassesOwn.never rfl (pi_seq (pv 8)) (pg_tupK (K := K) (n := 2) rfl (by rfl) (pgs_cons (pg_name (i := 9) sc_law_refused.nd rfl (by first | exact Or.inl rfl | exact Or.inr rfl)) (pgs_cons (pg_name (i := 10) sc_law_refused.nd rfl (by first | exact Or.inl rfl | exact Or.inr rfl)) pgs_nil)))
    (pss_one (ps_if (pt_cmpR (op_neU rfl hr.units) (pe_callB (call_reprG (K := K) rfl gu hr.units) (by rfl) T.z_repr (by decide +kernel) (pa_cons (pv 9) pa_nil)) (pe_callB (call_reprG (K := K) rfl gu hr.units) (by rfl) T.z_repr (by decide +kernel) (pa_cons (pv 10) pa_nil)) (by first | exact nomark _ | rfl))
    (pss_one (ps_ret pe_bl))
    pss_nil)))
    (pss_one (ps_ret pe_bl)))))))), ?_⟩
    exact body_of0 rfl h fun X hd => (dst_seq (dst_asg (dg_op od_ix (DEg.bor (DEg.cln (df_lst (da_cons (de_int 1) (da_cons (de_int 5) (da_cons (de_int 0) (da_cons (de_bl true) (da_cons de_non (da_cons (de_str "2") (da_cons (de_un ud_neg (DEg.bor (de_int 2))) (da_cons (de_powC (a := 10) (b := 20) (c := 100000000000000000000) (cpow_of (by decide +kernel)) (by decide +kernel)) da_nil))))))))))) (DEg.bor (de_call0 dv_nil (ds_hand (i := 0) (ds_cons (de_int 8) ds_nil))))) (dg_name 1))
    (dst_of S_law_refused_r2_eq
    (dst_seq (dst_asg (dg_op od_ix (DEg.bor (DEg.cln (df_lst (da_cons (de_un ud_neg (DEg.bor (de_int 1))) (da_cons (de_int 25) (da_cons (de_bl true) (da_cons de_non (da_cons (de_str "1") (da_cons (de_powC (a := 10) (b := 20) (c := 100000000000000000000) (cpow_of (by decide +kernel)) (by decide +kernel)) (da_cons (de_bl false) (da_cons (de_tup (da_cons (de_int 1) da_nil)) da_nil))))))))))) (DEg.bor (de_call0 dv_nil (ds_hand (i := 0) (ds_cons (de_int 8) ds_nil))))) (dg_name 2))
    (dst_of S_law_refused_r3_eq
    (dst_seq (dst_asg (de_call0 dv_nil (ds_hand (i := 0) ds_nil)) (dg_two 3 4))
    (dst_of S_law_refused_r4_eq
    (dst_seq (dst_par3 (da_cons (dg_op od_add (DEg.bor (de_int 2)) (DEg.bor (de_call0 dv_nil (ds_hand (i := 0) (ds_cons (de_int 3) ds_nil))))) (da_cons (de_call0 dv_nil (ds_hand (i := 0) (ds_cons (de_int 25) ds_nil))) (da_cons (DEg.cln (df_lc (di_rng1 (db_cons (DEg.bor (de_int 24)) db_nil)) (dg_name 11) dt_yes (dg_op od_add (DEg.bor (de_int 1)) (DEg.bor (de_call0 dv_nil (ds_hand (i := 0) (ds_cons (de_int 99) ds_nil))))))) da_nil))))
    (dst_of S_law_refused_r5_eq
    (dst_seq (dst_asg (DEg.cln (df_lst (da_cons (de_tup (da_cons (de_call0 dv_nil (ds_cons (de_int 0) (ds_cons (de_var 1) (ds_cons (de_var 2) (ds_cons (de_var 2) ds_nil))))) (da_cons (DEg.cln (df_lst (da_cons (de_str "letters") da_nil))) da_nil))) (da_cons (de_tup (da_cons (de_call0 dv_nil (ds_cons (de_int 0) (ds_cons (de_var 5) (ds_cons (de_var 2) (ds_cons (de_var 6) ds_nil))))) (da_cons (DEg.cln (df_lst (da_cons (de_str "number") da_nil))) da_nil))) (da_cons (de_tup (da_cons (de_call0 dv_nil (ds_cons (de_int 0) (ds_cons (de_var 5) (ds_cons (de_var 6) (ds_cons (de_var 2) ds_nil))))) (da_cons (DEg.cln (df_lst (da_cons (de_str "number") da_nil))) da_nil))) (da_cons (de_tup (da_cons (de_call0 dv_nil (ds_cons (de_int 1) (ds_cons (de_var 1) (ds_cons (de_var 3) (ds_cons (de_int 0) ds_nil))))) (da_cons (DEg.cln (df_lst (da_cons (de_str "letters") da_nil))) da_nil))) (da_cons (de_tup (da_cons (de_call0 dv_nil (ds_cons (de_int 1) (ds_cons (de_var 5) (ds_cons (de_var 3) (ds_cons (de_int 0) ds_nil))))) (da_cons (DEg.cln (df_lst (da_cons (de_str "weights") (da_cons (de_var 4) da_nil)))) da_nil))) (da_cons (de_tup (da_cons (de_call0 dv_nil (ds_cons (de_int 1) (ds_cons (de_var 5) (ds_cons (de_var 7) (ds_cons (de_int 0) ds_nil))))) (da_cons (DEg.cln (df_lst (da_cons (de_str "let") (da_cons (de_call0 dv_nil (ds_cons (de_var 5) (ds_cons (de_var 7) ds_nil))) da_nil)))) da_nil))) (da_cons (de_tup (da_cons (de_call0 dv_nil (ds_cons (de_int 2) (ds_cons (de_var 1) (ds_cons (de_var 3) (ds_cons (de_var 2) ds_nil))))) (da_cons (DEg.cln (df_lst (da_cons (de_str "letters") da_nil))) da_nil))) (da_cons (de_tup (da_cons (de_call0 dv_nil (ds_cons (de_int 2) (ds_cons (de_var 5) (ds_cons (de_var 3) (ds_cons (de_var 2) ds_nil))))) (da_cons (DEg.cln (df_lst (da_cons (de_str "weights") (da_cons (de_var 4) da_nil)))) da_nil))) (da_cons (de_tup (da_cons (de_call0 dv_nil (ds_cons (de_int 2) (ds_cons (de_var 5) (ds_cons (de_var 7) (ds_cons (de_var 2) ds_nil))))) (da_cons (DEg.cln (df_lst (da_cons (de_str "number") da_nil))) da_nil))) (da_cons (de_tup (da_cons (de_call0 dv_nil (ds_cons (de_int 2) (ds_cons (de_var 5) (ds_cons (de_var 7) (ds_cons (de_var 6) ds_nil))))) (da_cons (DEg.cln (df_lst (da_cons (de_str "let") (da_cons (de_call0 dv_nil (ds_cons (de_var 5) (ds_cons (de_var 7) (ds_cons (de_var 6) ds_nil)))) da_nil)))) da_nil))) (da_cons (de_tup (da_cons (de_call0 dv_nil (ds_cons (de_int 3) (ds_cons (de_int 0) (ds_cons (de_var 3) (ds_cons (de_int 0) ds_nil))))) (da_cons (DEg.cln (df_lst (da_cons (de_str "weights") (da_cons (de_var 4) da_nil)))) da_nil))) (da_cons (de_tup (da_cons (de_call0 dv_nil (ds_cons (de_int 3) (ds_cons (de_int 0) (ds_cons (de_var 7) (ds_cons (de_int 0) ds_nil))))) (da_cons (DEg.cln (df_lst (da_cons (de_str "let") (da_cons (dg_cb cg_tup (db_cons (db_var 7) db_nil)) da_nil)))) da_nil))) (da_cons (de_tup (da_cons (de_call0 dv_nil (ds_cons (de_int 3) (ds_cons (de_int 0) (ds_cons (de_tup da_nil) (ds_cons (de_int 0) ds_nil))))) (da_cons (DEg.cln (df_lst (da_cons (de_str "let") (da_cons (de_tup da_nil) da_nil)))) da_nil))) da_nil))))))))))))))) (dg_name 8))
    (dst_of S_law_refused_r6_eq
    (dst_seq (dst_for (di_seq (R := Cln) (de_var 8)) (dg_two 9 10)
    (dst_of S_law_refused_b7_eq
    (dst_if (dt_test (dg_op od_ne (DEg.bor (dg_cb cg_repr (db_cons (db_var 9) db_nil))) (DEg.bor (dg_cb cg_repr (db_cons (db_var 10) db_nil)))))
    (dst_ret (de_bl false))
    dst_next)))
    (dst_of S_law_refused_r9_eq
    (dst_ret (de_bl true))))))))))))))
end Mine

namespace Mine
open PySem PySem.Spec PyProof.Rows L2
theorem ok_law_missed_right {P : Program} {w : World} {K : PySem.W.Frag} {mg : Str → Option Value} {base : Heap} (T : Txt K mg) : ∃ fd, FnG P w K mg base CX0 5 (He.ga K "_law_missed_right") fd P_law_missed_right (spD K F_law_missed_right) ∧ D_law_missed_right K (He.ga K "_law_missed_right") fd := by
  obtain ⟨fd, F⟩ := T.F_law_missed_right
  obtain ⟨fd_law_take, G_law_take, D_law_take⟩ := ok_law_take (P := P) (w := w) (base := base) T
  have k_law_take := D_law_take.kp
  have b_law_take := bd_law_take D_law_take
  obtain ⟨fd_law_steep_weights, G_law_steep_weights, D_law_steep_weights⟩ := ok_law_steep_weights (P := P) (w := w) (base := base) T
  have k_law_steep_weights := D_law_steep_weights.kp
  have b_law_steep_weights := bd_law_steep_weights D_law_steep_weights
  obtain ⟨fd_steep_by, G_steep_by, D_steep_by⟩ := ok_steep_by (P := P) (w := w) (base := base) T
  have k_steep_by := D_steep_by.kp
  have b_steep_by := bd_steep_by D_steep_by
  obtain ⟨fd_law_steep, G_law_steep, D_law_steep⟩ := ok_law_steep (P := P) (w := w) (base := base) T
  have k_law_steep := D_law_steep.kp
  have b_law_steep := bd_law_steep D_law_steep
  refine ⟨fd, funD_okG F sc_law_missed_right (fun vs H Q E h => ?_) (fun cdv A outer s H vs Q E gu hr h => ?_), F⟩
  · rw [F_law_missed_right_eq] at h
    exact spD_len (np := 1) (fun _ _ _ h => h.1) vs H Q E h
  · rw [F_law_missed_right_eq] at h
    refine ⟨_, PSs.nox (pss_cons (ps_par (i := 1) (j := 2) (by rfl) sc_law_missed_right.nd rfl rfl (by decide) rfl rfl (pa_cons (pe_op (op_addU rfl) pe_int (pe_call G_law_take (hr.mono (by decide)) rfl T.g__law_take k_law_take b_law_take .nil pass0 (pa_cons (pv 0) (pa_cons pe_int pa_nil)))) (pa_cons (pe_op (op_addU rfl) pe_int (pe_call G_law_take (hr.mono (by decide)) rfl T.g__law_take k_law_take b_law_take .nil pass0 (pa_cons (pv 0) (pa_cons pe_int pa_nil)))) pa_nil)) (by rfl))
    (pss_cons (ps_set (i := 3) sc_law_missed_right.nd rfl (by first | exact Or.inl rfl | exact Or.inr rfl) (pe_op (op_addU rfl) pe_int (pe_call G_law_take (hr.mono (by decide)) rfl T.g__law_take k_law_take b_law_take .nil pass0 (pa_cons (pv 0) (pa_cons pe_int pa_nil)))))
    (pss_cons (ps_set (i := 4) sc_law_missed_right.nd rfl (by first | exact Or.inl rfl | exact Or.inr rfl) (pe_call G_law_steep_weights (hr.mono (by decide)) rfl T.g__law_steep_weights k_law_steep_weights b_law_steep_weights .nil pass0 (pa_cons (pv 0) (pa_cons (pv 1) (pa_cons (pv 2) (pa_cons (pv 3) (pa_cons (pe_lst (pa_cons pe_int (pa_cons pe_int (pa_cons pe_int pa_nil)))) pa_nil)))))))
    (pss_cons (ps_if (pt_cmpR (op_ltU rfl hr.units0) (pe_call G_steep_by (hr.mono (by decide)) rfl T.g_steep_by k_steep_by b_steep_by .nil passL (pa_cons (pv 1) (pa_cons (pv 4) pa_nil))) (pe_callB (call_min2U rfl) (by rfl) T.z_min (by decide +kernel) (pa_cons (pv 2) (pa_cons (pv 3) pa_nil))) (by first | exact nomark _ | rfl))
    (pss_one (ps_ret pe_bl))
    pss_nil)
    (pss_cons (ps_set (i := 5) sc_law_missed_right.nd rfl (by first | exact Or.inl rfl | exact Or.inr rfl) (pe_op (op_addU rfl) pe_int (pe_call G_law_take (hr.mono (by decide)) rfl T.g__law_take k_law_take b_law_take .nil pass0 (pa_cons (pv 0) (pa_cons (pe_op op_sub (pv 3) pe_int) pa_nil)))))
    (pss_cons (ps_asg (pe_op op_mulU (pe_op op_sub (pv 1) pe_int) (pe_callB (CallR.k (r := rSumA) (K := K) (cr_sumA rfl) rfl) (by rfl) T.z_sum (by decide +kernel) (pa_cons (pe_slice (sl_U rfl) (pv 4) (po_some (pe_callB (call_max2U rfl) (by rfl) T.z_max (by decide +kernel) (pa_cons pe_int (pa_cons (pe_op op_sub (pv 5) (pv 2)) pa_nil)))) (po_some (pv 5))) pa_nil))) (pg_sub (pv 4) (pv 5) set_list))
    (pss_cons (ps_set (i := 6) sc_law_missed_right.nd rfl (by first | exact Or.inl rfl | exact Or.inr rfl) (pe_call G_steep_by (hr.mono (by decide)) rfl T.g_steep_by k_steep_by b_steep_by .nil passL (pa_cons (pv 1) (pa_cons (pv 4) pa_nil))))
    (pss_one (ps_ret (pe_and (pe_cmpR (op_ltU rfl hr.units0) (pv 6) (pv 2) (by first | exact nomark _ | rfl)) (pe_one (pe_cmpR (op_eqU rfl hr.units) (pe_callB (call_reprG (K := K) rfl gu hr.units) (by rfl) T.z_repr (by decide +kernel) (pa_cons (pv 6) pa_nil)) (pe_callB (call_reprG (K := K) rfl gu hr.units) (by rfl) T.z_repr (by decide +kernel) (pa_cons (pe_call G_law_steep (hr.mono (by decide)) rfl T.g__law_steep k_law_steep b_law_steep .nil pass0 (pa_cons (pv 1) (pa_cons (pv 4) pa_nil))) pa_nil)) (by first | exact nomark _ | rfl))))))))))))), ?_⟩
    exact body_of0 rfl h fun X hd => (dst_seq (dst_par (da_cons (dg_op od_add (DEg.bor (de_int 2)) (DEg.bor (de_call0 dv_nil (ds_hand (i := 0) (ds_cons (de_int 3) ds_nil))))) (da_cons (dg_op od_add (DEg.bor (de_int 1)) (DEg.bor (de_call0 dv_nil (ds_hand (i := 0) (ds_cons (de_int 4) ds_nil))))) da_nil)))
    (dst_of S_law_missed_right_r2_eq
    (dst_seq (dst_asg (dg_op od_add (DEg.bor (de_int 2)) (DEg.bor (de_call0 dv_nil (ds_hand (i := 0) (ds_cons (de_int 6) ds_nil))))) (dg_name 3))
    (dst_of S_law_missed_right_r3_eq
    (dst_seq (dst_own (df_callO0 dv_nil (ds_hand (i := 0) (ds_cons (de_var 1) (ds_cons (de_var 2) (ds_cons (de_var 3) (ds_cons (DEg.cln (df_lst (da_cons (de_int 0) (da_cons (de_int 1) (da_cons (de_int 9) da_nil))))) ds_nil)))))))
    (dst_of S_law_missed_right_r4_eq
    (dst_seq (dst_ifK (i := 4) (dt_test (dg_op od_lt (DEg.bor (de_call0 dv_nil (ds_cons (de_var 1) (ds_cons (de_var 4) ds_nil)))) (DEg.bor (dg_cb cg_min2 (db_cons (db_var 2) (db_cons (db_var 3) db_nil))))))
    (dst_ret (de_bl false))
    dst_next)
    (dst_of S_law_missed_right_r6_eq
    (dst_seq (dst_asg (dg_op od_add (DEg.bor (de_int 1)) (DEg.bor (de_call0 dv_nil (ds_hand (i := 0) (ds_cons (dg_op od_sub (db_var 3) (DEg.bor (de_int 1))) ds_nil))))) (dg_name 5))
    (dst_of S_law_missed_right_r7_eq
    (dst_seq (dst_put (dg_op od_mul (DEg.bor (dg_op od_sub (db_var 1) (DEg.bor (de_int 1)))) (DEg.bor (dg_cb cg_sum (db_cons (DEg.bor (dg_sl sg_U (db_var 4) (do_some (dg_cb cg_max2 (db_cons (DEg.bor (de_int 0)) (db_cons (DEg.bor (dg_op od_sub (db_var 5) (db_var 2))) db_nil)))) (do_some (de_var 5)))) db_nil)))) (de_var 5))
    (dst_of S_law_missed_right_r8_eq
    (dst_seq (dst_keep (i := 4) (j := 6) (de_call0 dv_nil (ds_cons (de_var 1) (ds_cons (de_var 4) ds_nil))))
    (dst_of S_law_missed_right_r9_eq
    (dst_frz 4 (dst_ret (de_andV (dg_op od_lt (db_var 6) (db_var 2)) (dg_op od_eq (DEg.bor (dg_cb cg_repr (db_cons (db_var 6) db_nil))) (DEg.bor (dg_cb cg_repr (db_cons (DEg.bor (de_call0 dv_nil (ds_cons (de_var 1) (ds_cons (de_var 4) ds_nil)))) db_nil)))))))))))))))))))))
end Mine

namespace Mine
open PySem PySem.Spec PyProof.Rows L2
theorem ok_law {P : Program} {w : World} {K : PySem.W.Frag} {mg : Str → Option Value} {base : Heap} (T : Txt K mg) (g : Goal) : ∃ fd, FnG P w K mg base CX0 7 (He.ga K "law") fd P_law (sp_law K) ∧ D_law K (He.ga K "law") fd := by
  obtain ⟨fd, F⟩ := T.F_law
  obtain ⟨fd_law_hand, G_law_hand, D_law_hand⟩ := ok_law_hand (P := P) (w := w) (base := base) T
  have k_law_hand := D_law_hand.kp
  have b_law_hand := bd_law_hand D_law_hand
  obtain ⟨fd_law_any_right, G_law_any_right, D_law_any_right⟩ := ok_law_any_right (P := P) (w := w) (base := base) T
  have k_law_any_right := D_law_any_right.kp
  have b_law_any_right := bd_law_any_right D_law_any_right
  obtain ⟨fd_law_told_right, G_law_told_right, D_law_told_right⟩ := ok_law_told_right (P := P) (w := w) (base := base) T
  have k_law_told_right := D_law_told_right.kp
  have b_law_told_right := bd_law_told_right D_law_told_right
  obtain ⟨fd_law_refused, G_law_refused, D_law_refused⟩ := ok_law_refused (P := P) (w := w) (base := base) T
  have k_law_refused := D_law_refused.kp
  have b_law_refused := bd_law_refused D_law_refused
  obtain ⟨fd_law_missed_right, G_law_missed_right, D_law_missed_right⟩ := ok_law_missed_right (P := P) (w := w) (base := base) T
  have k_law_missed_right := D_law_missed_right.kp
  have b_law_missed_right := bd_law_missed_right D_law_missed_right
  refine ⟨fd, funD_okG F sc_law (fun vs H Q E h => ?_) (fun cdv A outer s H vs Q E gu hr h => ?_), F⟩
  · obtain ⟨a, ns, rfl, _⟩ := h
    rfl
  · refine ⟨_, PSs.nox (pss_cons (ps_set (i := 1) sc_law.nd rfl (by first | exact Or.inl rfl | exact Or.inr rfl) (pe_call G_law_hand (hr.mono (by decide)) rfl T.g__law_hand k_law_hand b_law_hand .nil pass0 (pa_cons (pv 0) pa_nil)))
    (pss_cons (ps_if (PW.pt (pw_or (pt_not (pt_tru rfl (pe_callG G_law_told_right gu (hr.mono (by decide)) rfl T.g__law_told_right k_law_told_right b_law_told_right .nil pass0 (pa_cons (pv 1) pa_nil)) (by intro _; rfl))) (pw_or1 (pt_not (pt_tru rfl (pe_callG G_law_any_right gu (hr.mono (by decide)) rfl T.g__law_any_right k_law_any_right b_law_any_right .nil pass0 (pa_cons (pv 1) pa_nil)) (by intro _; rfl))))))
    (pss_one (ps_ret pe_bl))
    pss_nil)
    (pss_one (ps_ret (pe_and (pe_callG G_law_missed_right gu (hr.mono (by decide)) rfl T.g__law_missed_right k_law_missed_right b_law_missed_right .nil pass0 (pa_cons (pv 1) pa_nil)) (pe_one (pe_callG G_law_refused gu (hr.mono (by decide)) rfl T.g__law_refused k_law_refused b_law_refused .nil pass0 (pa_cons (pv 1) pa_nil)))))))), ?_⟩
    exact body_law rfl h g fun H X hd => (dst_seq (dst_if (dt_or (dt_not (dt_tru (DEg.bor (de_call0 dv_nil (ds_hand (i := 1) ds_nil))))) (dt_not (dt_tru (DEg.bor (de_call0 dv_nil (ds_hand (i := 1) ds_nil))))))
    (dst_ret (de_bl false))
    dst_next)
    (dst_of S_law_r4_eq
    (dst_ret (de_andV (de_call0 dv_nil (ds_hand (i := 1) ds_nil)) (de_call0 dv_nil (ds_hand (i := 1) ds_nil))))))
end Mine

open PySem PySem.W PySem.Calls PyProof.Rows
set_option maxHeartbeats 0 in
theorem PySem.Challenge.cw_lostplaces_k19_whole_told_and_steep_weig_holds : PySem.Challenge.rw_lostplaces_k19_whole_told_and_steep_weig.Holds := by
  w_on; o_law
  refine HandSHeadRun.head_any (r := OpenLaw.row PySem.Challenge.rw_lostplaces_k19_whole_told_and_steep_weig) (q := view (OpenLaw.row PySem.Challenge.rw_lostplaces_k19_whole_told_and_steep_weig).prog [34]) (H := Mine.hk) (ob := Mine.ob) (M := 20000) (loose := Mine.loose) (d := HandSHeadRun.topDef (OpenLaw.row PySem.Challenge.rw_lostplaces_k19_whole_told_and_steep_weig).prog 34) (kwd := []) Mine.ob_eq
    Mine.h_e Mine.h_f Mine.run Mine.h_def Mine.h_p Mine.h_k Mine.h_wr Mine.h_ws Mine.h_ok Mine.h_b ?hw ?hc
  case hw => w_witness2
  case hc =>
    refine Mine.walk_ofG (l := PySem.Challenge.rw_lostplaces_k19_whole_told_and_steep_weig) (n := 63) (k := 7) (x := "_law_script") (Z := L2.CX0) rfl (by decide) (by kernel_rfl) ⟨rfl, by decide, by decide⟩ ?F (fun _ _ _ _ z => z)
    intro w mg fa h Y G hmg0
    obtain ⟨K, KX, c, E⟩ := Y
    have hmg : mg ("law" : PySem.Str) = some (.ref fa) := by
      have e : (HandSHeadRun.topDef (OpenLaw.row PySem.Challenge.rw_lostplaces_k19_whole_told_and_steep_weig).prog 34).name = ("law" : PySem.Str) := by kernel_rfl
      rw [← e]
      exact hmg0
    have T := Mine.txt_of KX G c E
    obtain ⟨fd0, F0⟩ := T.F_law
    have e : fa = He.ga K "law" := by
      have z := hmg.symm.trans (He.glo_ok KX G (c.fact 58 (f := .glo "law") rfl))
      cases z
      rfl
    subst e
    have b0 : ∀ (s : Shared) (v : Value), BindsTo s fd0 ⟨[v], []⟩ [("_law_script", v)] := fun s v => L2.FunD.bindsA (ps := ["_law_script"]) F0 (fun _ _ _ _ _ _ us hl => match us, hl with | [_], _ => rfl) s [v] rfl
    refine ⟨K, fd0, Mine.sp_law K, KX, b0, fun H a ns hl _ hS => ⟨a, ns, rfl, hS, hl, fun _ => rfl⟩, fun base _ _ => ?_⟩
    obtain ⟨fd1, G1, D1⟩ := Mine.ok_law (g := Mine.goal) (P := (PySem.Challenge.rw_lostplaces_k19_whole_told_and_steep_weig).prog) (w := w) (base := base) T
    have ef : fd1 = fd0 := Mine.funD_inj D1 F0
    exact ef ▸ G1
