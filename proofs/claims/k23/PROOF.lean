import PyProof.Rows.All
import Wide.All
import OpenK.AllK
import Wide.FinOn
import HandS.ForExc
import HandS.Comp
import HandS.Iter
import HandS.Conv
import HandS.Flow
import HandS.Walk
import HandS.TupAny
import HandS.TupSets
import HandS.SortInts
import HandS.TryMany
import HandS.IsInst
import HandS.Defaults
import HandS.Gcd
import HandS.ExcInit
import HandS.Text
import HandS.Head0
import HandS.Head1
import HandS.Head2
import HandS.Head3
import HandS.HeadEnd
import HandS.HeadHook1
import HandS.HeadHook2
import HandS.ExcField
import KE.GoesEnum
import HandS.Deep
import HandS.Strs
import HandS.Style
import HandS.ExcIs
import KE.GoesZip
import HandS.TupMul
import HandS.Zip
import HandS.CallSlots
import HandS.WordsDict
import HandS.Dict
import KE.GoesEnumKw
import HandS.Property
import HandS.HeadNt
import HandS.Small
import KE.KMathGC
import HandS.OwnEq
import HandS.SetBool
import HandS.FStr
import HandS.Star
import HandS.GenList
import HandS.SetFor
import KE.SortData
import KE.DataMinMax
import HandS.WideBits
import HandS.NoneIn
import KE.KxField
import PyProof.StrLawsIn
import KE.GoesMore
import KE.DataCmp
import PyProof.ReprRoads
import HandS.SetKeys
import PySem.Challenge.RW_lostplaces_k23_whole_orders_rows_and_mov
set_option Elab.async false
set_option linter.all false
set_option maxRecDepth 100000
set_option maxHeartbeats 4000000
namespace Mine
open PySem PySem.Spec PyProof.Rows L2
/-! ### own errors -/
structure OwnExc (K : PySem.W.Frag) (C : Addr) : Prop where
  ex : PySem.W.excIn K C He.veBase "ValueError.__new__" = true
  kp : PySem.W.keepIn K (.ref C) = true
  sb : PySem.W.subIn K (.ref C) (.type "BaseException") = some true
  ty : PySem.W.typeIn K (.ref C) = some (.type "type")
theorem mk0 {X : Cx} {x : Str} {C : Addr} {p pos : Pos} (e : OwnExc X.K C) (g : X.mg x = some (.ref C)) (hg : Gl X x) (hd : (x == ("__debug__" : Str)) = false := by decide) :
    PMk X (.Call (.Name x p) [] [] pos) (fun _ H Q => Q (.ref C) none H) := by
  intro pn st sg Hh Qq J hq
  refine wpAny_Call_Name_kw (ld_glob J hg g ?_ hd)
  refine PySem.W.callWith_K0 J.kIn e.kp ?_
  have J2 := J
  obtain ⟨bm, N, nm, qn, bs, hdct, sn, sub, ab, col, dd, k0, k1, k2, k3, k5, mN, hC, hN, hni, T⟩ := exc_obj J.kIn e.ex
  obtain ⟨hp, g1, d1, tk, os⟩ := st
  exact wpAny_call_exc_subT PySem.F.excBase_ValueError T hC hN hni (fun h' a hm => mk_of J hm (raises_own e.sb e.ty) hq (J.hok.gone hm.new)) (Nat.zero_le _)
/-! ### len(set(xs)), xs whole numbers -/
/-! ### rules in a form that simp can read -/
section
variable {X : Cx}
theorem OpR.weak {f : Value → Value → Sem Value} {r r' : R2} (h : OpR X f r) (m : ∀ x y H Q, r' x y H Q → r x y H Q) : OpR X f r' :=
  fun pn st sg Hh x y u v Qq J rx ry hq => h pn st sg Hh x y u v Qq J rx ry (m _ _ _ _ hq)
theorem IxR.weak {r r' : R2} (h : IxR X r) (m : ∀ x y H Q, r' x y H Q → r x y H Q) : IxR X r' :=
  fun e1 e2 pn st sg Hh x y u v Qq J rx ry hq => h e1 e2 pn st sg Hh x y u v Qq J rx ry (m _ _ _ _ hq)
theorem CallR.weak {f : Value} {r r' : List V → Hp → VK → Prop} (h : CallR X f r) (m : ∀ xs H Q, r' xs H Q → r xs H Q) : CallR X f r' :=
  fun pn st sg Hh xs us Qq J rx hq => h pn st sg Hh xs us Qq J rx (m _ _ _ hq)
theorem call_intI : CallR X (.type "int") (fun xs H Q => ∃ i, xs = [.int i] ∧ Q (.int i) H) := CallR.weak call_int1 fun _ _ _ => .inl
def rIxH : R2 := fun x y H Q => ∃ p i xs v, x = .ref p ∧ y = .int i ∧ H p = some (.lst xs) ∧ atI xs i = some v ∧ Q v H
theorem ix_H : IxR X rIxH := IxR.weak ix_list fun _ _ _ _ ⟨p, i, xs, z, e1, e2, e3, e4, q⟩ => ⟨p, xs, i, z, e1, e2, .inl (.inl e3), e4, q⟩
def rIxTH : R2 := fun x y H Q => ∃ p i xs v, x = .ref p ∧ y = .int i ∧ H p = some (.tup xs) ∧ atI xs i = some v ∧ Q v H
theorem call_lenL : CallR X (.builtin "len") (fun xs H Q => ∃ p ys, xs = [.ref p] ∧ H p = some (.lst ys) ∧ Q (.int ys.length) H) :=
  CallR.weak call_len_seq fun _ _ _ ⟨p, ys, e1, e2, q⟩ => ⟨p, ys, e1, .inl (.inl (.inl e2)), q⟩
end
theorem tyL {K : PySem.W.Frag} {H : Hp} {p : Addr} {xs : List V} (h : H p = some (.lst xs)) : tyV K "list" (.ref p) H := .inl ⟨rfl, xs, .inl (.inl h)⟩
/-! ### isinstance -/
/-- what the layer can tell the kind of -/
def Kd (K : PySem.W.Frag) (H : Hp) : V → Prop
  | .non => True
  | .bl _ => True
  | .int _ => True
  | .str _ => True
  | .ref a => (∃ xs, SqL K H a xs) ∨ ∃ xs, SqT K H a xs
  | _ => False
def isIntV : V → Bool
  | .int _ => true
  | .bl _ => true
  | _ => false
def isBlV : V → Bool
  | .bl _ => true
  | _ => false
def isStrV : V → Bool
  | .str _ => true
  | _ => false
theorem tyx_L {K : PySem.W.Frag} {H : Hp} {a : Addr} {xs : List V} (h : SqL K H a xs) : TyX K H (.ref a) (.type "list") := by
  rcases h with (h | ⟨o, h⟩) | ⟨o, its, n, h, c, _⟩
  · exact .base (.lst h)
  · exact .base (.frz h)
  · exact .kList h c
theorem tyx_T {K : PySem.W.Frag} {H : Hp} {a : Addr} {xs : List V} (h : SqT K H a xs) : TyX K H (.ref a) (.type "tuple") := by
  rcases h with (h | ⟨o, h⟩) | ⟨o, its, n, h, c, _⟩
  · exact .base (.tup h)
  · exact .fTuple h
  · exact .kTuple h c
theorem kb_NoneType_int : kitB "NoneType" "int" = some false := by decide +kernel
theorem kb_NoneType_bool : kitB "NoneType" "bool" = some false := by decide +kernel
theorem kb_NoneType_str : kitB "NoneType" "str" = some false := by decide +kernel
theorem kb_bool_int : kitB "bool" "int" = some true := by decide +kernel
theorem kb_bool_bool : kitB "bool" "bool" = some true := by decide +kernel
theorem kb_bool_str : kitB "bool" "str" = some false := by decide +kernel
theorem kb_int_int : kitB "int" "int" = some true := by decide +kernel
theorem kb_int_bool : kitB "int" "bool" = some false := by decide +kernel
theorem kb_int_str : kitB "int" "str" = some false := by decide +kernel
theorem kb_str_int : kitB "str" "int" = some false := by decide +kernel
theorem kb_str_bool : kitB "str" "bool" = some false := by decide +kernel
theorem kb_str_str : kitB "str" "str" = some true := by decide +kernel
theorem kb_list_int : kitB "list" "int" = some false := by decide +kernel
theorem kb_list_bool : kitB "list" "bool" = some false := by decide +kernel
theorem kb_list_str : kitB "list" "str" = some false := by decide +kernel
theorem kb_tuple_int : kitB "tuple" "int" = some false := by decide +kernel
theorem kb_tuple_bool : kitB "tuple" "bool" = some false := by decide +kernel
theorem kb_tuple_str : kitB "tuple" "str" = some false := by decide +kernel
theorem Kd.ty {K : PySem.W.Frag} {H : Hp} {x : V} (h : Kd K H x) : ∃ t : String, TyX K H x (.type t) ∧ kitB t "int" = some (isIntV x) ∧ kitB t "bool" = some (isBlV x) ∧ kitB t "str" = some (isStrV x) := by
  cases x with
  | non => exact ⟨_, .base .non, kb_NoneType_int, kb_NoneType_bool, kb_NoneType_str⟩
  | bl b => exact ⟨_, .base (.bl b), kb_bool_int, kb_bool_bool, kb_bool_str⟩
  | int i => exact ⟨_, .base (.int i), kb_int_int, kb_int_bool, kb_int_str⟩
  | str z => exact ⟨_, .base (.str z), kb_str_int, kb_str_bool, kb_str_str⟩
  | ref a =>
    rcases h with ⟨xs, h⟩ | ⟨xs, h⟩
    · exact ⟨_, tyx_L h, kb_list_int, kb_list_bool, kb_list_str⟩
    · exact ⟨_, tyx_T h, kb_tuple_int, kb_tuple_bool, kb_tuple_str⟩
  | byt b => cases h
  | flt b => cases h
  | ty n => cases h
section
variable {X : Cx}
end
/-! ### loops -/
def Loop (J : It) (g : TG) (tb : TS) (D : Ends) (σ : L2.St) (H1 : Hp) : Prop := ∃ W : Nat → Nat → L2.St → Hp → Prop, (∃ m, W 0 m σ H1) ∧ ∀ i m σ H, W i m σ H →
  (J.stop i H ∧ D.nx σ H) ∨ (J.go i H ∧ ∃ N : L2.St → Hp → Prop, (∀ s' H', N s' H' → ∃ m', m' < m ∧ W (i + 1) m' s' H') ∧ ∀ x H', J.yld i H x H' → g x σ H' fun σ2 H2 => tb { D with nx := N, ct := N, bk := D.nx } σ2 H2)
theorem tFor_eq (wi : TI) (g : TG) (tb : TS) (D : Ends) (σ : L2.St) (H : Hp) : tFor wi g tb D σ H = wi σ H (fun J H1 => Loop J g tb D σ H1) := rfl
def Lc (J : It) (g : TG) (tt : TT) (te : TE) (vs : List Nat) (D : Addr) (σ : L2.St) (H1 : Hp) (Q : VK) : Prop := ∃ W : Nat → Nat → Hp → Prop, (∃ m, W 0 m (upd H1 D (.lst []))) ∧ ∀ i m H, W i m H →
  (J.stop i H ∧ Q (.ref D) H) ∨ (J.go i H ∧ ∃ Nx : Hp → Prop, (∀ H', Nx H' → ∃ m', m' < m ∧ W (i + 1) m' H') ∧ ∀ x H', J.yld i H x H' → g x (wipe σ vs) H' fun s2 H2 => wipe s2 vs = wipe σ vs ∧ tt s2 H2 fun b H3 =>
    if b = true then te s2 H3 fun y H4 => ∃ acc, H4 D = some (.lst acc) ∧ acc.length < sizeLine ∧ Nx (upd H4 D (.lst (acc ++ [y]))) else Nx H3)
theorem tLc_eq (wi : TI) (g : TG) (tt : TT) (te : TE) (vs : List Nat) (σ : L2.St) (H : Hp) (Q : VK) : tLc wi g tt te vs σ H Q = wi σ H (fun J H1 => ∀ D, H1 D = none → Lc J g tt te vs D σ H1 Q) := rfl
section
variable {J : It} {n : Nat} {G : Hp → Prop} {Y : Nat → Hp → V → Hp → Prop}
theorem Loop.by (w : Walk J n G Y) {g : TG} {tb : TS} {D : Ends} {σ : L2.St} {H : Hp} (Pv : Nat → L2.St → Hp → Prop) (h0 : Pv 0 σ H) (hG : ∀ i σ H, i ≤ n → Pv i σ H → G H)
    (hs : ∀ i x σ H H', i < n → Pv i σ H → Y i H x H' → g x σ H' fun s2 H2 => tb { D with nx := Pv (i + 1), ct := Pv (i + 1), bk := D.nx } s2 H2) (hd : ∀ σ H, Pv n σ H → D.nx σ H) : Loop J g tb D σ H := for_it w Pv h0 hG hs hd
theorem Lc.by (w : Walk J n G Y) {g : TG} {tt : TT} {te : TE} {vs : List Nat} {σ : L2.St} {H1 : Hp} {D : Addr} {Q : VK} (Pv : Nat → Hp → Prop) (h0 : Pv 0 (upd H1 D (.lst []))) (hG : ∀ i H, i ≤ n → Pv i H → G H)
    (hs : ∀ i x H H', i < n → Pv i H → Y i H x H' → g x (wipe σ vs) H' fun s2 H2 => wipe s2 vs = wipe σ vs ∧ tt s2 H2 fun b H3 =>
      if b = true then te s2 H3 fun y H4 => ∃ acc, H4 D = some (.lst acc) ∧ acc.length < sizeLine ∧ Pv (i + 1) (upd H4 D (.lst (acc ++ [y]))) else Pv (i + 1) H3) (hd : ∀ H, Pv n H → Q (.ref D) H) : Lc J g tt te vs D σ H1 Q := lc_it w Pv h0 hG hs hd
end
/-! ### while; what only grows with what is wanted -/
def Mon (t : TE) : Prop := ∀ σ H (Q Q' : VK), (∀ v H', Q v H' → Q' v H') → t σ H Q → t σ H Q'
def MonT (t : TT) : Prop := ∀ σ H (Q Q' : Bool → Hp → Prop), (∀ v H', Q v H' → Q' v H') → t σ H Q → t σ H Q'
def MonR (r : R2) : Prop := ∀ x y H (Q Q' : VK), (∀ v H', Q v H' → Q' v H') → r x y H Q → r x y H Q'
theorem mon_var (i : Nat) : Mon (tVar i) := fun _ _ _ _ m ⟨v, e, q⟩ => ⟨v, e, m _ _ q⟩
theorem mon_c (v : V) : Mon (tC v) := fun _ _ _ _ m q => m _ _ q
theorem mon_op {r : R2} {ta tb : TE} (mr : MonR r) (ma : Mon ta) (mb : Mon tb) : Mon (tOp r ta tb) := fun σ H _ _ m q => ma σ H _ _ (fun _ H1 q1 => mb σ H1 _ _ (fun _ _ q2 => mr _ _ _ _ _ m q2) q1) q
theorem mon_rI (C : Int → Int → Prop) (g : Int → Int → V) : MonR (rI C g) := fun _ _ _ _ _ m ⟨i, j, e1, e2, c, q⟩ => ⟨i, j, e1, e2, c, m _ _ q⟩
theorem mon_rI0 (g : Int → Int → V) : MonR (rI0 g) := fun _ _ _ _ _ m ⟨i, j, e1, e2, q⟩ => ⟨i, j, e1, e2, m _ _ q⟩
theorem mon_rEq : MonR rEq := fun _ _ _ _ _ m ⟨e, q⟩ => ⟨e, m _ _ q⟩
theorem mon_rNe : MonR rNe := fun _ _ _ _ _ m ⟨e, q⟩ => ⟨e, m _ _ q⟩
theorem mon_test {t : TE} (h : Mon t) : MonT (tTest t) := fun σ H _ _ m q => h σ H _ _ (fun _ _ ⟨k, e, q1⟩ => ⟨k, e, m _ _ q1⟩) q
theorem mon_and {t u : TT} (h : MonT t) (k : MonT u) : MonT (tAnd t u) := fun σ H Q Q' m q => h σ H _ _ (fun b H1 q1 => by
  cases b
  · exact m _ _ q1
  · exact k σ H1 _ _ m q1) q
theorem mon_or {t u : TT} (h : MonT t) (k : MonT u) : MonT (tOr t u) := fun σ H Q Q' m q => h σ H _ _ (fun b H1 q1 => by
  cases b
  · exact k σ H1 _ _ m q1
  · exact m _ _ q1) q
def Less (W : Nat → L2.St → Hp → Prop) (m : Nat) (σ : L2.St) (H : Hp) : Prop := ∃ m', m' < m ∧ W m' σ H
theorem While.by {c : TT} {tb : TS} {D : Ends} {σ : L2.St} {H : Hp} (mc : MonT c) (W : Nat → L2.St → Hp → Prop) (m0 : Nat) (h0 : W m0 σ H)
    (hs : ∀ m σ H, W m σ H → c σ H fun b H1 => if b = true then tb { D with nx := Less W m, ct := Less W m, bk := D.nx } σ H1 else D.nx σ H1) : tWhile c tb D σ H :=
  ⟨W, ⟨m0, h0⟩, fun m σ H hw => mc σ H _ _ (fun b H1 q => by
    cases b
    · exact q
    · exact ⟨Less W m, fun _ _ h => h, q⟩) (hs m σ H hw)⟩
/-! ### heaps -/
theorem same_upd {H : Hp} {p : Addr} {o : HO} (h : H p = none) : Same H (upd H p o) := fun b x e => by
  rw [upd_ne (ne_of_none e h)]
  exact e
/-- a comprehension that changes nothing but its own list: kept i is what turn i puts into it -/
theorem Lc.gen {J : It} {n j : Nat} {G : Hp → Prop} {Y : Nat → Hp → V → Hp → Prop} {tt : TT} {te : TE} {vs : List Nat} {D : Addr} {σ : L2.St} {H1 : Hp} {Q : VK} (wk : Walk J n G Y) (it : Nat → V) (kept : Nat → Option V)
    (hY : ∀ i H x H', i < n → Y i H x H' → H' = H ∧ x = it i) (hG : ∀ H', Same H1 H' → G H') (hD : H1 D = none) (hn : n ≤ 100000) (hw : ∀ i, wipe ((wipe σ vs).set j (some (it i))) vs = wipe σ vs)
    (step : ∀ i H (Qk : VK) (Qn : Hp → Prop), i < n → Same H1 H → (∀ y H4, Same H H4 → kept i = some y → Qk y H4) → (∀ H3, Same H H3 → kept i = none → Qn H3) →
      tt ((wipe σ vs).set j (some (it i))) H fun b H3 => if b = true then te ((wipe σ vs).set j (some (it i))) H3 Qk else Qn H3)
    (fin : ∀ H', Same H1 H' → H' D = some (.lst ((List.range n).filterMap kept)) → Q (.ref D) H') : Lc J (gName j) tt te vs D σ H1 Q := by
  refine Lc.by wk (fun i H => Same H1 H ∧ H D = some (.lst ((List.range i).filterMap kept))) ⟨same_upd hD, upd_same⟩ (fun i H _ p => hG H p.1) ?_ fun H p => fin H p.1 p.2
  rintro i x H H' hi ⟨sm, hd⟩ hy
  obtain ⟨rfl, rfl⟩ := hY i H x H' hi hy
  refine ⟨hw i, step i _ _ _ hi sm (fun y H4 s4 hk => ⟨_, s4 _ _ hd, ?_, fun b o e => ?_, ?_⟩) fun H3 s3 hk => ⟨sm.trans s3, ?_⟩⟩
  · refine Nat.lt_of_le_of_lt (Nat.le_trans (List.length_filterMap_le _ _) (by rw [List.length_range]; exact Nat.le_trans (Nat.le_of_lt hi) hn)) (by rw [sizeLine_eq]; omega)
  · rw [upd_ne (ne_of_none e hD)]; exact s4 _ _ (sm _ _ e)
  · rw [upd_same, List.range_succ, List.filterMap_append, List.filterMap_cons_some hk]; rfl
  · rw [s3 _ _ hd, List.range_succ, List.filterMap_append, List.filterMap_cons_none hk]; simp
section
variable {CX : CXT} {P : Program} {w : World} {K : PySem.W.Frag} {mg : Str → Option Value} {base : Heap} {N : List Str} {q : Str} {sc : Scope} {f : Addr} {cd : Value} {A : Around} {o : List Env} {s : Shared} {H : Hp} {E : XK}
theorem cx_K : (cxOf CX P w K mg base N q sc f cd A o s H E).K = K := rfl
theorem cx_prog : (cxOf CX P w K mg base N q sc f cd A o s H E).prog = P := rfl
theorem cx_w : (cxOf CX P w K mg base N q sc f cd A o s H E).w = w := rfl
theorem cx_nK : (cxOf CX P w K mg base N q sc f cd A o s H E).nox.K = K := rfl
end
theorem rEq_int (i j : Int) (H : Hp) (Q : VK) : rEq (.int i) (.int j) H Q = Q (.bl (decide (i = j))) H := by simp [rEq, scal]
theorem rNe_int (i j : Int) (H : Hp) (Q : VK) : rNe (.int i) (.int j) H Q = Q (.bl (!decide (i = j))) H := by simp [rNe, scal]
theorem rEq_bl (i j : Bool) (H : Hp) (Q : VK) : rEq (.bl i) (.bl j) H Q = Q (.bl (decide (i = j))) H := by simp [rEq, scal]
theorem rNe_bl (i j : Bool) (H : Hp) (Q : VK) : rNe (.bl i) (.bl j) H Q = Q (.bl (!decide (i = j))) H := by simp [rNe, scal]
theorem rEq_str (i j : Str) (H : Hp) (Q : VK) : rEq (.str i) (.str j) H Q = Q (.bl (decide (i = j))) H := by simp [rEq, scal]
theorem rNe_str (i j : Str) (H : Hp) (Q : VK) : rNe (.str i) (.str j) H Q = Q (.bl (!decide (i = j))) H := by simp [rNe, scal]
theorem atI_0 {α : Type} (a : α) (r : List α) : atI (a :: r) 0 = some a := atI_nat (j := 0) rfl
theorem atI_1 {α : Type} (a b : α) (r : List α) : atI (a :: b :: r) 1 = some b := atI_nat (j := 1) rfl
theorem atI_2 {α : Type} (a b c : α) (r : List α) : atI (a :: b :: c :: r) 2 = some c := atI_nat (j := 2) rfl
theorem atI_3 {α : Type} (a b c d : α) (r : List α) : atI (a :: b :: c :: d :: r) 3 = some d := atI_nat (j := 3) rfl
theorem ixN_4_0 : ixN 4 0 = some 0 := rfl
theorem ixN_4_1 : ixN 4 1 = some 1 := rfl
theorem ixN_4_2 : ixN 4 2 = some 2 := rfl
theorem ixN_4_3 : ixN 4 3 = some 3 := rfl
theorem some_lst {a b : List V} : (some (HO.lst a) = some (HO.lst b)) = (a = b) := by simp
theorem some_tup {a b : List V} : (some (HO.tup a) = some (HO.tup b)) = (a = b) := by simp
/-! ### the head: facts by names, and one more Bool -/
theorem own_of {K : PySem.W.Frag} {x : Str} (c : (He.Fa.exc x).ok K = true) : OwnExc K (He.ga K x) := by
  obtain ⟨a, b, d, e⟩ := He.exc_ok c
  exact ⟨a, b, d, e⟩
end Mine

namespace Mine
open PySem PySem.Spec PyProof.Rows L2
/-! ### own errors that keep what they are given -/
def oexB (K : PySem.W.Frag) (C : Addr) : Bool := match K.lookup C with
  | some ⟨.type "type", _, .cls cd, sl⟩ => (match cd.mro, sl.toList with
    | .ref C' :: bm, [_, _, _, _, some (.builtin n), _] => C' == C && (n == "ValueError.__new__" && (!cd.hasDel && (cd.hasDict && PySem.HandSPX.refsVE bm)))
    | _, _ => false)
  | _ => false
theorem oexB_cls {K : PySem.W.Frag} {C : Addr} (q : oexB K C = true) : ∃ nm q N bs bm sn sub ab col dd k0 k1 k2 k3 k5, K.lookup C = some (excClassObj nm q C N bs bm true sn sub ab col dd k0 k1 k2 k3 k5 "ValueError.__new__") ∧ PySem.HandSPX.refsVE bm = true := by
  unfold oexB at q
  split at q
  · rename_i dd cd sl ho
    split at q
    · rename_i C' bm k0 k1 k2 k3 n k5 hm hs
      simp only [Bool.and_eq_true, beq_iff_eq, Bool.not_eq_true'] at q
      obtain ⟨rfl, rfl, hdel, hdict, hb⟩ := q
      obtain ⟨nm, bs, mro, ns, qn, hd, sn, sub, ab, col, del⟩ := cd
      dsimp only at hm hdel hdict
      subst hm hdel hdict
      obtain ⟨l⟩ := sl
      simp only at hs
      subst hs
      exact ⟨nm, qn, ns, bs, bm, sn, sub, ab, col, dd, k0, k1, k2, k3, k5, ho, hb⟩
    · cases q
  · cases q
/-- the class at C: its __init__ at fI puts what it is given into f -/
structure FldExc (K : PySem.W.Frag) (C fI : Addr) : Prop where
  o : OexC K C
  ini : PySem.W.findIn K (.ref C) "__init__" = some (some (.ref fI))
  ty : PySem.W.typeIn K (.ref fI) = some (.type "function")
  x : XfC K C
def fexB (K : PySem.W.Frag) (x : Str) : Bool := oexB K (He.ga K x) && (He.eqO (PySem.W.findIn K (.ref (He.ga K x)) "__setattr__") (some (some (.builtin "object.__setattr__"))) && (decide (PySem.W.subIn K (.ref (He.ga K x)) (.type "BaseException") = some true) &&
  (decide (PySem.W.typeIn K (.ref (He.ga K x)) = some (.type "type")) && (PySem.W.keepIn K (.ref (He.ga K x)) && (He.eqO (PySem.W.findIn K (.ref (He.ga K x)) "__init__") (some (some (.ref (He.ma K (He.ga K x) "__init__")))) &&
  (decide (PySem.W.typeIn K (.ref (He.ma K (He.ga K x) "__init__")) = some (.type "function")) && xfB K (He.ga K x)))))))
theorem fexB_ok {K : PySem.W.Frag} {x : Str} (h : fexB K x = true) : FldExc K (He.ga K x) (He.ma K (He.ga K x) "__init__") := by
  obtain ⟨a, h⟩ := He.ba h
  obtain ⟨b, h⟩ := He.ba h
  obtain ⟨c, h⟩ := He.ba h
  obtain ⟨d, h⟩ := He.ba h
  obtain ⟨e, h⟩ := He.ba h
  obtain ⟨f, h⟩ := He.ba h
  obtain ⟨g, i⟩ := He.ba h
  exact ⟨⟨oexB_cls a, He.eqO_ok b, of_decide_eq_true c, of_decide_eq_true d, e⟩, He.eqO_ok f, of_decide_eq_true g, xfB_ok i⟩
theorem PMk.asks {X : Cx} {e : Expr} {t t' : L2.St → Hp → XK → Prop} (h : PMk X e t) (m : ∀ σ H Q, t' σ H Q → t σ H Q) : PMk X e t' := fun pn st sg Hh Qq J hq => h pn st sg Hh Qq J (m _ _ _ hq)
/-- what such an __init__ does -/
def spFld (C : Addr) (f : Str) : Sp := fun vs H Q _ => ∃ (a : Addr) (v : V), vs = [.ref a, v] ∧ H a = some (exo a C none) ∧ ∀ dx, H dx = none → dx ≠ a → Q .non (upd (upd H dx (exd dx [(f, v)])) a (exo a C (some dx)))
/-- X(e): the error's own dict at d -/
def tMk1 (C : Addr) (f : Str) (te : TE) : L2.St → Hp → XK → Prop := fun σ H Q => te σ H fun v H1 => ∀ d H', Same H1 H' → H1 d = none → H' d = some (.xd [(f, v)]) → Q (.ref C) (some d) H'
theorem mk1 {X : Cx} {x f : Str} {C fI : Addr} {k : Nat} {fd : FuncData} {e : Expr} {te : TE} {p pos : Pos} {ps : List Str} (T : FldExc X.K C fI) (g : X.mg x = some (.ref C)) (F1 : FnOk X.prog X.w X.K X.mg X.base CX0 k fI fd ps (spFld C f)) (hb : Binds X.K fd ps []) (hr : Room (k + 1) X.A)
    (mt : Mon te) (he : PE X e te) (hg : Gl X x) (hd : (x == ("__debug__" : Str)) = false := by decide) (hs : starEach (e :: []) X.env = (false, eval e X.env) :: starEach [] X.env := by rfl) (hpl : (backTo pos (starEach [] X.env)).any (·.1) = false := by rfl) :
    PMk X (.Call (.Name x p) [e] [] pos) (tMk1 C f te) := by
  refine PMk.asks (pmk_oex (dvs := []) (ds := []) T.o T.ini T.ty F1 hr hb .nil (fun _ _ _ _ _ _ _ h => h.elim) hg g (pa_cons he pa_nil hs) hd hs hpl) fun σ H Q h => ?_
  refine mt σ H _ _ (fun v H1 q => ?_) h
  show [v].length ≤ 1000 ∧ ∀ a, H1 a = none → spFld C f (.ref a :: ([v] ++ [])) (upd H1 a (exo a C none)) _ _
  refine ⟨by show 1 ≤ 1000; decide, fun a ha => ⟨a, v, rfl, upd_same, fun dx hdx ne => ⟨rfl, dx, [(f, v)], upd_same, ?_, ?_, ?_⟩⟩⟩
  · rw [upd_ne ne, upd_same]
  · rw [upd_ne ne] at hdx; exact hdx
  · have h1 : H1 dx = none := by rw [upd_ne ne] at hdx; exact hdx
    refine q dx _ (fun b o eb => ?_) h1 upd_same
    have nb : b ≠ a := ne_of_none eb ha
    have nd : b ≠ dx := ne_of_none eb h1
    rw [upd_ne nd, del_ne nb, upd_ne nb, upd_ne nd, upd_ne nb]; exact eb
end Mine

namespace PySem
set_option maxHeartbeats 8000000 in
theorem mine_enum_newB {v : Value} {o : Obj} {H : Heap → Prop} (B : Begins v o H) :
    Meets (Builtin.«enumerate.__new__» ⟨[.type "enumerate", v], []⟩) (fun _ R s => H s.heap ∧
      R (.ok (.ret (.ref (s.heap.push o).objs.size))) { s with heap := (s.heap.push o).push { cls := .type "enumerate", data := .fields #[.none, .bool false, .ref s.heap.objs.size, rawInt 0, .none, .none] } }) :=
  .of_wp fun prog w A R s h => by
    obtain ⟨hp, g, d, tk, os⟩ := s; obtain ⟨h1, h⟩ := h
    have hsub := sub_enumerate
    have q1 : ∀ {A' : Around} {E : Value → Shared → Prop} {Q : Value → Shared → Prop}, Q (.ref hp.objs.size) ⟨hp.push o, g, d, tk, os⟩ → wpAny (model prog w) A' (pyIter v) Q E ⟨hp, g, d, tk, os⟩ :=
      fun q => B.iter prog w _ _ ⟨hp, g, d, tk, os⟩ _ h1 q
    wp_walk using q1
    refine wpAny_stack_any fun st => wpAny_pure ?_
    split
    · rename_i c _ _ _ _ _
      cases (c == Value.type "enumerate")
      · wp_walk using q1
        exact ⟨_, rfl, h⟩
      · wp_walk using q1
        exact ⟨_, rfl, h⟩
    · wp_walk using q1
      exact ⟨_, rfl, h⟩
section
variable {prog : Program} {w : World} {A : Around} {E : Value → Shared → Prop} {s : Shared}
theorem mine_enum_call {v : Value} {o : Obj} {H : Heap → Prop} {Q : Value → Shared → Prop} (B : Begins v o H) (h1 : H s.heap)
    (h : ∀ h', IsEnum h' (s.heap.objs.size + 1) s.heap.objs.size 0 .none → h'.get? s.heap.objs.size = some o → h'.objs.size = s.heap.objs.size + 2 →
      (∀ b o, s.heap.get? b = some o → h'.get? b = some o) → Q (.ref (s.heap.objs.size + 1)) { s with heap := h' }) :
    wpAny (model prog w) A (call (.type "enumerate") [v]) Q E s := by
  refine callType_new F.called_enumerate (by decide) (F.typeCall_enumerate_1 _) (F.newCall_enumerate_1 _) (fun obj => F.args_object_init_2 obj _) F.entry_enumerate_new
    (mine_enum_newB B) ⟨h1, ?_⟩
  have hz : (s.heap.push o).objs.size = s.heap.objs.size + 1 := Heap.size_push ..
  show _ ∧ _
  rw [hz]
  have he : IsEnum ((s.heap.push o).push { cls := .type "enumerate", data := .fields #[.none, .bool false, .ref s.heap.objs.size, rawInt 0, .none, .none] }) (s.heap.objs.size + 1) s.heap.objs.size 0 .none := by
    have := Heap.get?_push_size (s.heap.push o) (o := { cls := .type "enumerate", data := .fields #[.none, .bool false, .ref s.heap.objs.size, rawInt 0, .none, .none] }) rfl
    rw [hz] at this; exact this
  refine ⟨⟨_, he, rfl⟩, h _ he (Heap.get?_push_of_some _ (Heap.get?_push_size _ B.free)) (by rw [Heap.size_push, hz]) fun b o x => Heap.get?_push_of_some _ (Heap.get?_push_of_some _ x)⟩
end
end PySem
namespace Mine
open PySem PySem.Spec PyProof.Rows L2
/-! ### enumerate over a tuple -/
def IteT (K : PySem.W.Frag) (a : Addr) : It :=
  ⟨fun i H => ∃ (xs : List V) (x : V), SqT K H a xs ∧ xs[i]? = some x, fun i H v H' => ∃ T x, v = .ref T ∧ H T = none ∧ H' = upd H T (.tup [.int (i : Nat), x]) ∧ ∀ xs, SqT K H a xs → xs[i]? = some x, fun i H => ∃ xs : List V, SqT K H a xs ∧ xs.length ≤ i⟩
theorem turn_enumT {P : Program} {w : World} {K : PySem.W.Frag} {elts : List Expr} {kk : Nat} {tpos : Pos} (a e it : Addr) (ha : a ≠ it) (hae : e ≠ a) :
    Turn P w K (.Tuple elts kk tpos) (IteT K a) [e, it] e (fun i h => (∃ old, IsEnum h e it ((i : Nat) : Int) old) ∧ h.IsTupleIter it a i ∧ e ≠ it) where
  mem := by simp
  obj := fun i h st b hb => by
    obtain ⟨⟨old, he⟩, ⟨o, ho, hc, hd⟩, _⟩ := st
    have e' : b = e ∨ b = it := by simpa using hb
    rcases e' with z | z
    · rw [z]; exact ⟨_, he, fun v q => nomatch q⟩
    · rw [z]; exact ⟨o, ho, fun v q => by rw [hd] at q; cases q⟩
  keep := fun i h h' st k => let ⟨⟨old, he⟩, hi, hne⟩ := st; ⟨⟨old, k e (by simp) _ he⟩, hi.at fun o q => k it (by simp) o q, hne⟩
  item := by
    intro X hP hw hK hc i pins s σ H E I hf st hg
    subst hP hw hK
    obtain ⟨⟨old, he⟩, hit, hne⟩ := st
    obtain ⟨xs, x, hq, hx⟩ := hg
    obtain ⟨its, rv, p, hz⟩ := I.tuple hq
    obtain ⟨u, hu, ru⟩ := rv.get hx
    have hel : e < s.heap.objs.size := Heap.lt_size he
    have hil : it < s.heap.objs.size := by obtain ⟨_, q, _⟩ := hit; exact Heap.lt_size q
    have pt : s.heap.IsTuple a its.toArray := p
    have hlt : i < its.toArray.size := by
      have := List.getElem?_eq_some_iff.mp hu
      obtain ⟨h, _⟩ := this
      simpa using h
    refine wpAny_pyNext_enum_itemD (i := i) (Draws.tuple (A := X.A.in1) (I.ok.hd hc) it a ha its.toArray) he ⟨hit, pt⟩ hlt hne (by simp [hne, hae]) fun x' h' tk hP ho hs' hT hsz hk => ?_
    have ex : x' = u := by
      have z : its.toArray[i]? = some u := by simpa using hu
      rw [hP] at z; exact Option.some.inj z
    subst ex
    refine ⟨_, rfl, wpAny_letOwnedTupleGo_enum (s := { s with heap := h', toks := tk + 1 }) ho fun h'' he' sb => ?_⟩
    have hT2 : h''.get? s.heap.objs.size = some { cls := .type "tuple", data := .seq #[.int i tk, x'] } := (sb.2 _ (Nat.ne_of_gt hel)).trans hT
    have new : ObjOk X.prog X.w (upd H s.heap.objs.size (.tup [.int (i : Nat), x])) h'' s.heap.objs.size (.tup [.int (i : Nat), x]) :=
      ⟨by show 2 ≤ sizeLine; decide, [.int i tk, x'], .cons ⟨_, rfl⟩ (.cons ru .nil), ⟨_, hT2, rfl, _, rfl⟩⟩
    have I1 : Inv X pins σ (upd H s.heap.objs.size (.tup [.int (i : Nat), x])) { s with heap := h'', toks := tk + 1 } :=
      I.turnedNew (ch := [e, it]) (fun b ob hb q => (sb.2 b (fun z => hb (by simp [z]))).trans (hk b ob (fun z => hb (by simp [z])) (fun z => hb (by simp [z])) q)) hf (Nat.le_refl _) new
    refine ⟨.ref s.heap.objs.size, _, I1, rfl, ⟨_, x, rfl, I.hok.fresh (Nat.le_refl _), rfl, fun ys hy => by rw [I.tuple_inj hy hq]; exact hx⟩, ⟨⟨x', ?_⟩, hs'.1.at fun o q => (sb.2 it (Ne.symm hne)).trans q, hne⟩, fun b hb => ?_⟩
    · have e1 : ((i + 1 : Nat) : Int) = (i : Int) + 1 := by omega
      rw [e1]; exact he'
    · have hb' : b < s.heap.objs.size := by
        have e' : b = e ∨ b = it := by simpa using hb
        rcases e' with z | z
        · rw [z]; exact hel
        · rw [z]; exact hil
      rw [upd_ne (Nat.ne_of_lt hb')]
      exact (hf b hb).1
  done := by
    intro X hP hw hK hc i pins s σ H E I hf st hg
    subst hP hw hK
    obtain ⟨⟨old, he⟩, hit, hne⟩ := st
    obtain ⟨xs, hq, hx⟩ := hg
    obtain ⟨its, rv, p, hz⟩ := I.tuple hq
    obtain ⟨f0, f1, f2, f3, f4, f5⟩ := hf it (by simp)
    have hl := rv.length
    have pt : s.heap.IsTuple a its.toArray := p
    have hT : s.TypeIs (.ref e) "enumerate" := ⟨_, he, rfl⟩
    unfold pyNext
    refine wpAny_bind (wpAny_attempt (wpAny_callSpecial?_slot (name := Str.ofString "__next__") hT F.slot_enumerate_next
      (wpAny_call_entry F.slot_enumerate_next hT F.entry_enumerate_next ?_ (F.args_enumerate_next_1 _))))
    show wpAny _ _ (field (.ref e) 2 >>= _) _ _ _
    refine wpAny_bind (wpAny_field he rfl (x := .ref it) rfl ?_)
    refine wpAny_bind (wpAny_nextOf_tuple_end (I.ok.hd hc) hit pt (by simp; omega) fun h' x he' hx' => ?_)
    obtain ⟨o, ho, hc⟩ := hx'
    refine wpAny_bind (wpAny_isInstance (T := "StopIteration") (b := true) ⟨o, ho, hc⟩ isSubtype_stop ?_)
    exact wpAny_pure ⟨rfl, I.turned (t' := s.toks) (fun b o hb q => he' b o hb q) f0 f1 f3 f4 f5⟩
  self := fun A i s Q E st h => let ⟨⟨_, he⟩, _⟩ := st; wpAny_pyIter_enum he h
def iEnumA (K : PySem.W.Frag) (ta : TA) : TI := fun σ H R => ta σ H fun vs H1 => ∃ a xs, vs = [.ref a] ∧ ((SqL K H1 a xs ∧ R (Ite K a) H1) ∨ (SqT K H1 a xs ∧ R (IteT K a) H1))
theorem pi_enumA {X : Cx} {e : Expr} {ta : TA} {p pos tpos : Pos} {elts : List Expr} {kk : Nat} (hg : Gl X "enumerate") (hm : X.mg "enumerate" = none) (ha : PA X [e] ta) (hs : starEach [e] X.env = [(false, eval e X.env)] := by rfl) :
    PI X (.Tuple elts kk tpos) (.Call (.Name "enumerate" p) [e] [] pos) (iEnumA X.K ta) := by
  refine ⟨fun pins s σ H R I h => ?_⟩
  refine Call_ (ld_blt I hg hm boot_enumerate (PyProof.Rows.callWith_type1 (thn (ha.run pos pins s σ H _ I h) fun us s1 ⟨vs, H1, I1, r1, q1⟩ => ?_) hs rfl))
  obtain ⟨a, xs, ex, q1⟩ := q1
  subst ex
  cases r1 with
  | cons r rr =>
    cases rr
    cases r
    have fp2 : ∀ b ∈ [s1.heap.objs.size + 1, s1.heap.objs.size], FpOk X pins H1 b := fun b hb => by
      have e' : b = s1.heap.objs.size + 1 ∨ b = s1.heap.objs.size := by simpa using hb
      have hle : s1.heap.objs.size ≤ b := by
        rcases e' with z | z
        · rw [z]; exact Nat.le_add_right _ _
        · rw [z]; exact Nat.le_refl _
      exact I1.fpOk hle (I1.hok.fresh hle)
    rcases q1 with ⟨hq, q⟩ | ⟨hq, q⟩
    · obtain ⟨its, rv, p', hz⟩ := I1.list hq
      refine call_enumerate_list p'.isList fun h' he hit hsz hk => wpAny_pyIter_enum he ?_
      have I2 : Inv X pins σ H1 { s1 with heap := h' } := I1.kept (t' := s1.toks) hk
      exact ⟨s1.heap.objs.size + 1, [s1.heap.objs.size + 1, s1.heap.objs.size], _, _, H1, rfl, I2, turn_enum a (s1.heap.objs.size + 1) s1.heap.objs.size, ⟨⟨.none, he⟩, hit, Nat.succ_ne_self _⟩, fp2, q⟩
    · obtain ⟨its, rv, p', hz⟩ := I1.tuple hq
      have pt : s1.heap.IsTuple a its.toArray := p'
      have hlt : a < s1.heap.objs.size := by
        obtain ⟨o, ho, _⟩ := id pt
        exact Heap.lt_size ho
      refine mine_enum_call (begins_tuple a its.toArray) pt fun h' he hit hsz hk => wpAny_pyIter_enum he ?_
      have I2 : Inv X pins σ H1 { s1 with heap := h' } := I1.kept (t' := s1.toks) hk
      exact ⟨s1.heap.objs.size + 1, [s1.heap.objs.size + 1, s1.heap.objs.size], _, _, H1, rfl, I2, turn_enumT a (s1.heap.objs.size + 1) s1.heap.objs.size (Nat.ne_of_lt hlt) (Nat.ne_of_gt (Nat.lt_succ_of_lt hlt)), ⟨⟨.none, he⟩, ⟨_, hit, rfl, rfl⟩, Nat.succ_ne_self _⟩, fp2, q⟩
theorem walk_enumT {K : PySem.W.Frag} {a : Addr} {xs : List V} : Walk (IteT K a) xs.length (fun H => SqT K H a xs) (YPair (fun i => some (.int (i : Nat))) (fun i => xs[i]?)) := by
  refine ⟨fun i _ hi q => ⟨xs, xs[i], q, by simp [hi]⟩, fun _ q => ⟨xs, q, Nat.le_refl _⟩, fun i H v H' _ q y => ?_⟩
  obtain ⟨T, x, h1, h2, h3, h4⟩ := y
  exact ⟨T, .int (i : Nat), x, h1, h2, h3, rfl, h4 xs q⟩
/-! ### a list or a tuple -/
def iSeq (K : PySem.W.Frag) (tl : TE) : TI := fun σ H R => tl σ H fun x H1 => ∃ a xs, x = .ref a ∧ ((SqL K H1 a xs ∧ R (Itl K a) H1) ∨ (SqT K H1 a xs ∧ R (Itt K a) H1))
theorem pi_seq {X : Cx} {tg l : Expr} {tl : TE} (hl : PE X l tl) : PI X tg l (iSeq X.K tl) := by
  refine ⟨fun pins s σ H R I h => ?_⟩
  refine thn (hl.run pins s σ H _ I h) fun v s1 ⟨x, H1, I1, r1, q1⟩ => ?_
  obtain ⟨a, xs, e, q1⟩ := q1
  subst e
  cases r1
  have fp1 : ∀ b ∈ [s1.heap.objs.size], FpOk X pins H1 b := fun b hb => by
    have e : b = s1.heap.objs.size := by simpa using hb
    subst e
    exact I1.fpOk (Nat.le_refl _) (I1.hok.fresh (Nat.le_refl _))
  rcases q1 with ⟨hq, q⟩ | ⟨hq, q⟩
  · obtain ⟨its, rv, p, hz⟩ := I1.list hq
    refine wpAny_pyIter_list p.isList ?_
    exact ⟨s1.heap.objs.size, [s1.heap.objs.size], _, _, H1, rfl, I1.kept (t' := s1.toks) fun b o e => Heap.get?_push_of_some _ e, turn_list a _, ⟨_, Heap.get?_push_size _ rfl, rfl, rfl⟩, fp1, q⟩
  · obtain ⟨its, rv, p, hz⟩ := I1.tuple hq
    refine wpAny_pyIter_tuple (show s1.heap.IsTuple a its.toArray from p) ?_
    exact ⟨s1.heap.objs.size, [s1.heap.objs.size], _, _, H1, rfl, I1.kept (t' := s1.toks) fun b o e => Heap.get?_push_of_some _ e, turn_tuple a _, ⟨_, Heap.get?_push_size _ rfl, rfl, rfl⟩, fp1, q⟩
section
variable {X : Cx}
end
end Mine

namespace L2
open PySem PySem.Spec PyProof.Rows
section
variable {P : Program} {w : World} {A : Around} {E : Value → Shared → Prop} {s : Shared}
end
end L2

namespace Mine
open PySem PySem.Spec PyProof.Rows L2
/-- words of whole numbers of one length, each within [0, B) -/
def Even (d : Nat) (B : Int) (ws : List (List Int)) : Prop := ∀ x ∈ ws, x.length = d ∧ TS.Bd B x
/-- at p: a list of tuples, the words ws -/
def Rows (H : Hp) (p : Addr) (ws : List (List Int)) : Prop := ∃ ks : List (Addr × List Int), H p = some (.lst (ks.map fun k => V.ref k.1)) ∧ ks.map (·.2) = ws ∧ ∀ k ∈ ks, H k.1 = some (.tup (k.2.map V.int))
theorem Rows.same {H H' : Hp} {p : Addr} {ws : List (List Int)} (r : Rows H p ws) (s : Same H H') : Rows H' p ws := by
  obtain ⟨ks, a, b, c⟩ := r
  exact ⟨ks, s _ _ a, b, fun k hk => s _ _ (c k hk)⟩
end Mine

namespace Mine
open PySem PySem.Spec PyProof.Rows L2
def MonU (r : V → Hp → VK → Prop) : Prop := ∀ x H (Q Q' : VK), (∀ v H', Q v H' → Q' v H') → r x H Q → r x H Q'
theorem mon_rU (g : Int → V) : MonU (rU g) := fun _ _ _ _ m ⟨i, e, q⟩ => ⟨i, e, m _ _ q⟩
theorem mon_un {r : V → Hp → VK → Prop} {ta : TE} (mr : MonU r) (ma : Mon ta) : Mon (tUn r ta) := fun σ H _ _ m q => ma σ H _ _ (fun _ _ q2 => mr _ _ _ _ m q2) q
end Mine

namespace L2
open PySem PySem.Spec PyProof.Rows
abbrev mineSet0 (w : World) : Obj := { cls := .type "set", dict := none, data := .set #[] 0 (.fresh 0 0 (!w.params.followText "set-order")) }
section
variable {P : Program} {w : World} {A : Around} {E : Value → Shared → Prop} {s : Shared}
/-- set(v), by what its __init__ does with the new set -/
theorem mine_call_set {v : Value} {Q : Value → Shared → Prop}
    (h : wpAny (model P w) A.in1.in1 (Builtin.«set.__init__» ⟨[.ref s.heap.objs.size, v], []⟩)
      (fun fin s' => match fin with | .done f => wants (fun r s₂ => r = .none ∧ Q (.ref s.heap.objs.size) s₂) E (.ok f) s' | .again c' => c'.quiet = true ∧ codeAny (model P w) A.in1 c' (wants (fun r s₂ => r = .none ∧ Q (.ref s.heap.objs.size) s₂) E) s')
      (fun e s' => wants (fun r s₂ => r = .none ∧ Q (.ref s.heap.objs.size) s₂) E (.error e) s') { s with heap := s.heap.push (mineSet0 w) }) : wpAny (model P w) A (call (.type "set") [v]) Q E s := by
  have ft := F.called_set
  obtain ⟨k, ks, order⟩ := ft.mro
  have m1 := ft.made
  have m2 := ft.sub
  have m3 := ft.notType
  have m4 := ft.canCreate
  have m5 := F.typeCall_set_1 v
  refine wpAny_call (codeAny_of_tree ?_)
  show wpAny _ _ (callAny (.type "set") _) _ _ _
  refine wpAny_pure ⟨Code.quiet_builtin _ (by decide +kernel), codeAny_builtin F.entry_type_call ?_⟩
  rw [Around.under_plain (weight_type_call_type "set" [v] []) rfl]
  repeat (any_goals (first | assumption | wp_step))
  refine codeAny_mono (code_set_led1 (E := E) (Q₁ := fun obj s₁ => obj = .ref s.heap.objs.size ∧ s₁ = { s with heap := s.heap.push (mineSet0 w) }) v ⟨rfl, rfl⟩) fun r s₁ hr => ?_
  cases r with
  | error e => exact hr
  | ok f =>
    cases f with
    | ret x =>
      obtain ⟨rfl, rfl⟩ := hr
      have ty : Shared.TypeIs { s with heap := s.heap.push (mineSet0 w) } (.ref s.heap.objs.size) "set" := ⟨_, Heap.get?_push_size _ rfl, rfl⟩
      have m6 := ft.init.lookup
      have m7 := ft.init.bind (.ref s.heap.objs.size)
      repeat (any_goals (first | assumption | wp_step))
      refine codeAny_mono (codeAny_call_builtin ft.init.plain F.entry_set_init (check_set_init_1 ty h)) fun r₂ s₂ hr₂ => ?_
      cases r₂ with
      | error e => exact hr₂
      | ok f₂ =>
        cases f₂ with
        | ret y =>
          obtain ⟨rfl, q⟩ := hr₂
          repeat (any_goals (first | assumption | wp_step))
        | _ => exact hr₂.elim
    | _ => exact hr.elim
/-- sum(t) of a tuple of whole numbers -/
theorem mine_sum_tup {l : Addr} {items : Array Value} {ns : List Int} {Q : Value → Shared → Prop} (hh : A.handled = none) (hl : s.heap.IsTuple l items) (hit : IntsAre items.toList ns)
    (h : ∀ h' tk t', (∀ b o, s.heap.get? b = some o → h'.get? b = some o) → Q (.int ns.sum t') { s with heap := h', toks := tk }) : wpAny (model P w) A (call (.builtin "sum") [.ref l]) Q E s := by
  have len : items.size = ns.length := by rw [← hit.length, Array.length_toList]
  have lt : l < s.heap.objs.size := by obtain ⟨_, e, _⟩ := id hl; exact Heap.lt_size e
  have pre : ∀ n, n ≤ ns.length → preSum (fun i => ns.getD i 0) n = (ns.take n).sum := by
    intro n
    induction n with
    | zero => intro _; rfl
    | succ n ih =>
      intro hn
      show preSum _ n + ns.getD n 0 = _
      rw [ih (by omega), PySem.sum_take_succ]
  refine call_sum_walkG (wpAny_pyIter_tuple hl ?_)
  refine ⟨s.heap.objs.size, _, _, _, _, _, fun i => ns.getD i 0, rfl, Walks.tuple (A := A.in1) (by simpa using hh) _ l (Nat.ne_of_lt lt) items, ⟨⟨_, Heap.get?_push_size _ rfl, rfl, rfl⟩, hl.push _⟩, fun b hb => ?_, fun i v hv => hit.int_at i v (by rw [Array.getElem?_toList]; exact hv), fun h' tk t' k => ?_⟩
  · have e : b = s.heap.objs.size ∨ b = l := by simpa using hb
    show b < (s.heap.push _).objs.size
    rw [Heap.size_push]
    rcases e with e | e
    · rw [e]; exact Nat.lt_succ_self _
    · rw [e]; exact Nat.lt_succ_of_lt lt
  · rw [len, pre _ (Nat.le_refl _), List.take_of_length_le (Nat.le_refl _)]
    exact h h' tk t' fun b o e => k b o (by simpa using Nat.ne_of_lt (Heap.lt_size e)) (Heap.get?_push_of_some _ e)
end
end L2
namespace Mine
open PySem PySem.Spec PyProof.Rows L2
section
variable {X : Cx}
def rSumT (K : PySem.W.Frag) : List V → Hp → VK → Prop := fun vs H Q => ∃ (a : Addr) (ns : List Int), vs = [V.ref a] ∧ SqT K H a (ns.map V.int) ∧ Q (.int ns.sum) H
theorem cr_sumT (hc : X.calm = true) : CallR X (.builtin "sum") (rSumT X.K) := by
  intro pins s σ H vs us Q I r h
  obtain ⟨a, ns, rfl, ha, q⟩ := h
  rw [Vals.ref1 r]
  obtain ⟨its, rv, pl, hz⟩ := I.tuple ha
  refine mine_sum_tup (items := its.toArray) (I.ok.hd hc) pl (by simpa using Vals.ints rv) fun h' tk t' k => ?_
  exact ⟨.int ns.sum, H, I.kept (t' := tk) k, ⟨t', rfl⟩, q⟩
end
end Mine

namespace Mine
open PySem PySem.Spec PyProof.Rows L2
theorem getD_at {w : List Int} {i : Nat} (h : i < w.length) : w[i]? = some (w.getD i 0) := by rw [List.getD_eq_getElem?_getD, List.getElem?_eq_getElem h]; rfl
section
variable {j : Nat} {tt : TT} {te : TE} {vs : List Nat} {D : Addr} {σ : L2.St} {H1 : Hp} {Q : VK}
/-- .. over a tuple of whole numbers -/
theorem Lc.ints {K : PySem.W.Frag} {a : Addr} {w : List Int} (kept : Nat → Option V) (hs : SqT K H1 a (w.map V.int)) (hD : H1 D = none) (hn : w.length ≤ 100000) (hw : ∀ x : V, wipe ((wipe σ vs).set j (some x)) vs = wipe σ vs)
    (step : ∀ i H (Qk : VK) (Qn : Hp → Prop), i < w.length → Same H1 H → (∀ y H4, Same H H4 → kept i = some y → Qk y H4) → (∀ H3, Same H H3 → kept i = none → Qn H3) →
      tt ((wipe σ vs).set j (some (.int (w.getD i 0)))) H fun b H3 => if b = true then te ((wipe σ vs).set j (some (.int (w.getD i 0)))) H3 Qk else Qn H3)
    (fin : ∀ H', Same H1 H' → H' D = some (.lst ((List.range w.length).filterMap kept)) → Q (.ref D) H') : Lc (Itt K a) (gName j) tt te vs D σ H1 Q := by
  have wk := walk_tup (K := K) (a := a) (xs := w.map V.int)
  rw [List.length_map] at wk
  refine Lc.gen wk (fun i => V.int (w.getD i 0)) kept ?_ (fun H' s => ?_) hD hn (fun i => hw _) step fin
  · rintro i H x H' hi ⟨rfl, hx⟩
    rw [List.getElem?_map, getD_at hi] at hx
    exact ⟨rfl, (Option.some.inj hx).symm⟩
  · rcases hs with (h | ⟨o, h⟩) | h
    · exact .inl (.inl (s _ _ h))
    · exact .inl (.inr ⟨o, s _ _ h⟩)
    · exact .inr h
/-- a comprehension that makes tuples of whole numbers: f i at turn i -/
theorem Lc.rows {J : It} {n : Nat} {G : Hp → Prop} {Y : Nat → Hp → V → Hp → Prop} (wk : Walk J n G Y) (it : Nat → V) (f : Nat → List Int)
    (hY : ∀ i H x H', i < n → Y i H x H' → H' = H ∧ x = it i) (hG : ∀ H', Same H1 H' → G H') (hD : H1 D = none) (hn : n ≤ 100000) (hw : ∀ x : V, wipe ((wipe σ vs).set j (some x)) vs = wipe σ vs)
    (step : ∀ i H (Qk : VK), i < n → Same H1 H → (∀ p H4, Same H H4 → H4 p = some (.tup ((f i).map V.int)) → Qk (.ref p) H4) → te ((wipe σ vs).set j (some (it i))) H Qk)
    (fin : ∀ H', Same H1 H' → Rows H' D ((List.range n).map f) → Q (.ref D) H') : Lc J (gName j) tYes te vs D σ H1 Q := by
  refine Lc.by wk (fun i H => Same H1 H ∧ Rows H D ((List.range i).map f)) ⟨same_upd hD, [], upd_same, rfl, fun k hk => by cases hk⟩ (fun i H _ p => hG H p.1) ?_ fun H p => fin H p.1 p.2
  rintro i x H H' hi ⟨sm, ks, h1, h2, h3⟩ hy
  obtain ⟨rfl, rfl⟩ := hY i H x H' hi hy
  refine ⟨hw _, ?_⟩
  unfold tYes
  dsimp only
  rw [if_pos rfl]
  refine step i H' _ hi sm fun p H4 s4 hp => ⟨_, s4 _ _ h1, ?_, fun b o e => ?_, ks ++ [(p, f i)], ?_, ?_, fun k hk => ?_⟩
  · have : ks.length = i := by have := congrArg List.length h2; simpa using this
    rw [List.length_map, this, sizeLine_eq]; omega
  · rw [upd_ne (ne_of_none e hD)]; exact s4 _ _ (sm _ _ e)
  · rw [upd_same, List.map_append]; rfl
  · rw [List.map_append, h2, List.range_succ, List.map_append]; rfl
  · have kt : H4 k.1 = some (.tup (k.2.map V.int)) := by
      rcases List.mem_append.mp hk with m | m
      · exact s4 _ _ (h3 k m)
      · have : k = (p, f i) := by simpa using m
        rw [this]; exact hp
    have ne : k.1 ≠ D := fun e => by rw [e, s4 _ _ h1] at kt; cases kt
    rw [upd_ne ne]; exact kt
end
/-! ### rules that name the fragment, within a comprehension -/
theorem CallR.k {X : Cx} {f : Value} {r : PySem.W.Frag → List V → Hp → VK → Prop} (h : CallR X f (r X.K)) {K : PySem.W.Frag} (e : X.K = K) : CallR X f (r K) := e ▸ h
theorem OpR.k {X : Cx} {f : Value → Value → Sem Value} {r : PySem.W.Frag → R2} (h : OpR X f (r X.K)) {K : PySem.W.Frag} (e : X.K = K) : OpR X f (r K) := e ▸ h
theorem SlR.k {X : Cx} {r : PySem.W.Frag → V → Option Int → Option Int → Hp → VK → Prop} (h : SlR X (r X.K)) {K : PySem.W.Frag} (e : X.K = K) : SlR X (r K) := e ▸ h
/-! ### pieces of tuples, tuples put together -/
theorem cut_all {xs : List V} {lo hi : Option Int} (h1 : HT.sIx xs.length 0 lo = 0) (h2 : HT.sIx xs.length xs.length hi = xs.length) : cutV xs lo hi = xs := by
  unfold cutV
  rw [h1, h2, List.drop_zero, Nat.sub_zero, List.take_of_length_le (Nat.le_refl _)]
section
variable {K : PySem.W.Frag} {H : Hp} {Q : VK} {a b : Addr} {xs ys : List V}
end
/-! ### equality of words, of rows of words -/
section
variable {K : PySem.W.Frag} {H : Hp} {Q : VK} {a b : Addr} {x y : List Int} {xs ys : List (List Int)}
end
end Mine

namespace Mine
open PySem PySem.Spec PyProof.Rows L2
/-! ### several except clauses, with names -/
abbrev Suit := Addr → Value → Option Addr → TS
def endsAs (D : Ends) : Option Nat → Ends
  | none => D
  | some i => { nx := fun σ H => D.nx (σ.set i none) H, rt := D.rt, bk := fun σ H => D.bk (σ.set i none) H, ct := fun σ H => D.ct (σ.set i none) H }
def bindAs (σ : L2.St) (a : Addr) : Option Nat → L2.St
  | none => σ
  | some i => σ.set i (some (.ref a))
/-- what the clauses wish of an exception of the body -/
def wNamed (K : PySem.W.Frag) (Wout : WX) (D : Ends) : List (Value × Option Nat × Suit) → WX
  | [] => Wout
  | (c, o, ts) :: r => fun cls d σ H => ∃ b, PySem.W.exmOne K cls c = some b ∧ (b = true → ∀ a, H a = none → ts a cls d (endsAs D o) (bindAs σ a o) H) ∧ (b = false → wNamed K Wout D r cls d σ H)
def SuitOk (X : Cx) (body : List Stmt) (ts : Suit) : Prop := ∀ (a : Addr) (oe : Obj) (cls : Value) (d : Option Addr) (pn : List (Addr × Obj)), Zc cls d oe → (∃ vs, oe.data = .fields vs) → PSs (X.suite a ((a, oe) :: pn)) body (ts a cls d)
inductive HdsN (X : Cx) : List ExceptHandler → List (Value × Option Nat × Suit) → Prop
  | nil : HdsN X [] []
  | bare {x : Str} {c : Value} {ts : Suit} {b₀ : Stmt} {suite : List Stmt} {np pos' : Pos} {hds : List ExceptHandler} {l : List (Value × Option Nat × Suit)} (hc : Names X x c) (hsu : SuitOk X (b₀ :: suite) ts) (r : HdsN X hds l) :
      HdsN X (.ExceptHandler (some (.Name x np)) none (b₀ :: suite) pos' :: hds) ((c, none, ts) :: l)
  | named {x n : Str} {i : Nat} {c : Value} {ts : Suit} {b₀ : Stmt} {suite : List Stmt} {np pos' : Pos} {hds : List ExceptHandler} {l : List (Value × Option Nat × Suit)} (hi : X.N[i]? = some n) (hln : X.env.kindOf n = some .local)
      (hc : Names X x c) (hsu : SuitOk X (b₀ :: suite) ts) (r : HdsN X hds l) : HdsN X (.ExceptHandler (some (.Name x np)) (some n) (b₀ :: suite) pos' :: hds) ((c, some i, ts) :: l)
section
variable {X : Cx} {pins : List (Addr × Obj)}
/-- an exception in hand, at the clauses -/
structure Hand (X : Cx) (pins : List (Addr × Obj)) (σ : L2.St) (H : Hp) (a : Addr) (cls : Value) (d : Option Addr) (s : Shared) : Prop where
  ob : ∃ oe vs, s.heap.get? a = some oe ∧ Zc cls d oe ∧ oe.data = .fields vs
  inv : Inv X pins σ H s
  nH : H a = none
  nL : a ≠ X.env.locals
  nF : a ∉ X.fs
theorem Hand.suite {σ : L2.St} {H : Hp} {a : Addr} {cls : Value} {d : Option Addr} {s : Shared} (h : Hand X pins σ H a cls d s) : ∃ oe, Zc cls d oe ∧ (∃ vs, oe.data = .fields vs) ∧ Inv (X.suite a ((a, oe) :: (X.pn ++ pins))) [] σ H s := by
  obtain ⟨oe, vs, he, hz, hd⟩ := h.ob
  exact ⟨oe, hz, ⟨vs, hd⟩, h.inv.suite he hd h.nH h.nL h.nF⟩
theorem Hand.asks {σ : L2.St} {H : Hp} {a : Addr} {cls c : Value} {d : Option Addr} {s : Shared} {b : Bool} (h : Hand X pins σ H a cls d s) (e : PySem.W.exmOne X.K cls c = some b) : PySem.W.Looks (model X.prog X.w) s.heap (excMatches (.ref a) c) b := by
  obtain ⟨oe, vs, he, hz, hd⟩ := h.ob
  exact PySem.W.exm_one (M := model X.prog X.w) h.inv.kIn (fun A Q E s k q => wpAny_typeOf_ref (k _ _ he) (by rw [hz.1]; exact q)) e
theorem Hand.names {σ : L2.St} {H : Hp} {a : Addr} {cls c : Value} {d : Option Addr} {s : Shared} {x : Str} {np : Pos} (h : Hand X pins σ H a cls d s) (hc : Names X x c) {Q : Value → Shared → Prop} {E : Value → Shared → Prop} (q : Q c s) :
    wpAny (model X.prog X.w) (X.A.mark (some (.ref a))) (eval (.Name x np) X.env) Q E s := by
  obtain ⟨oe, hz, hd, S⟩ := h.suite
  obtain ⟨hg, hdbg, hm | ⟨hm, hv, hnn⟩⟩ := hc
  · exact ld_glob (X := X.suite a ((a, oe) :: (X.pn ++ pins))) S hg hm q hdbg
  · exact ld_blt (X := X.suite a ((a, oe) :: (X.pn ++ pins))) S hg hm hv q hnn hdbg
/-- the exception on its way, landed in this frame -/
structure Flown (X : Cx) (pins : List (Addr × Obj)) (σ : L2.St) (H : Hp) (a : Addr) (cls : Value) (d : Option Addr) (B : Heap) (sI s : Shared) : Prop where
  inv : Inv X pins σ H sI
  nb : ∀ b o, sI.heap.get? b = some o → b ∉ frs X.stack → B.get? b = some o
  up : sI.heap.UpToSlots s.heap
  fl : HandSPX.FlyingZ B (X.env :: X.outer) a (Zc cls d) s.heap
  na : H a = none
  os : s.os = sI.os
  ag : AllBare s.gens
section
variable {σ : L2.St} {H : Hp} {a : Addr} {cls : Value} {d : Option Addr} {B : Heap} {sI s : Shared}
theorem Flown.move {h : Heap} (f : Flown X pins σ H a cls d B sI s) (fl : HandSPX.FlyingZ B (X.env :: X.outer) a (Zc cls d) h) (up : s.heap.UpToSlots h) : Flown X pins σ H a cls d B sI { s with heap := h } :=
  ⟨f.inv, f.nb, f.up.trans up, fl, f.na, f.os, f.ag⟩
theorem Flown.hand (hf : X.env.frame = some X.env.locals) (f : Flown X pins σ H a cls d B sI s) : Hand X pins σ H a cls d s := by
  obtain ⟨oe, vs, he, hz, hd⟩ := f.fl.there
  have out : a ∉ frs (X.env :: X.outer) := fun hm => by
    obtain ⟨_, o', e', hnf⟩ := f.fl.2.2.1.mem hm
    rw [he] at e'
    cases e'
    exact hnf _ hd
  refine ⟨⟨oe, vs, he, hz, hd⟩, f.inv.landed f.nb f.fl.1 f.up f.os f.ag, f.na, fun z => out (List.mem_filterMap.mpr ⟨X.env, List.mem_cons_self, by rw [hf, z]⟩), fun hm => ?_⟩
  obtain ⟨e, he, q⟩ := List.mem_filterMap.mp hm
  exact out (List.mem_filterMap.mpr ⟨e, List.mem_cons_of_mem _ he, q⟩)
/-- the clauses, one after the other -/
theorem clauses_run {Wout : WX} {D : Ends} (ok : X.Ok) (hs : X.stack = X.env :: X.outer) (hf : X.env.frame = some X.env.locals) (hN : X.N.Nodup) (tk : Takes X Wout) :
    ∀ {hds : List ExceptHandler} {l : List (Value × Option Nat × Suit)}, HdsN X hds l → Flown X pins σ H a cls d B sI s → wNamed X.K Wout D l cls d σ H → wpAny (model X.prog X.w) X.A (handleBy (.ref a) X.env hds) (SP X pins D) X.xe s := by
  intro hds l hk
  induction hk with
  | nil =>
    intro f w
    refine wpAny_handleBy_nil ?_
    have fl := f.fl
    obtain ⟨_, _, _, oe, vs, T, oT, ts', he, hz, hd, h1, hr⟩ := id fl
    unfold PySem.passOn
    refine wpAny_bind (wpAny_field he hd h1 ?_)
    rw [if_neg (show ¬ ((Value.ref T == Value.none) = true) from by simp)]
    have out : wpAny (model X.prog X.w) X.A (setFlight (.ref a) X.env.frame) (fun _ s4 => wpAny (model X.prog X.w) X.A (throw (.ref a) : Sem Flow) (SP X pins D) X.xe s4) X.xe s := by
      rw [hf]
      exact HandSPX.setFlight_upZ fl fun h4 hh4 up4 => wpAny_throw (tk _ _ ⟨a, B, sI, pins, σ, H, cls, d, rfl, f.inv, f.nb, f.up.trans up4, .inr (.inr (by rw [hs]; exact hh4)), f.na, f.os, f.ag, w⟩)
    first
      | exact wpAny_bind (wpAny_pure (wpAny_bind out))
      | exact wpAny_bind out
  | bare hc hsu r ih =>
    intro f ⟨b, e, yes, no⟩
    have hand := f.hand hf
    refine wpAny_handleBy_cons (codeAny_handlers_test (hand.names hc ((hand.asks e).here ?_))) (by intro q; cases q)
    cases b with
    | false => exact ih f (no rfl)
    | true =>
      refine codeAny_handlers_suite (HandSPX.lands_againZ f.fl fun h4 fl4 up4 => ?_)
      obtain ⟨oe, hz, hd, S⟩ := ((f.move fl4 up4).hand hf).suite
      refine wpAny_mono ((hsu a oe cls d (X.pn ++ pins) hz hd).run [] _ _ H _ S (yes rfl a f.na)) (fun g s6 hsp => ?_) (fun _ _ z => False.elim z)
      cases g with
      | next => obtain ⟨σ6, H6, S6, q6⟩ := hsp; exact ⟨_, _, S6.unsuite ok, q6⟩
      | brk => obtain ⟨σ6, H6, S6, q6⟩ := hsp; exact ⟨_, _, S6.unsuite ok, q6⟩
      | cont => obtain ⟨σ6, H6, S6, q6⟩ := hsp; exact ⟨_, _, S6.unsuite ok, q6⟩
      | ret u => obtain ⟨v6, σ6, H6, S6, r6, q6⟩ := hsp; exact ⟨_, _, _, S6.unsuite ok, r6, q6⟩
  | named hi hln hc hsu r ih =>
    intro f ⟨b, e, yes, no⟩
    have hand := f.hand hf
    refine wpAny_handleBy_cons (codeAny_handlers_test (hand.names hc ((hand.asks e).here ?_))) (by intro q; cases q)
    cases b with
    | false => exact ih f (no rfl)
    | true =>
      refine codeAny_handlers_suite_as (HandSPX.lands_againZ f.fl fun h4 fl4 up4 => ?_)
      obtain ⟨oe, hz, hd, S⟩ := ((f.move fl4 up4).hand hf).suite
      refine store_ok (X := X.suite a ((a, oe) :: (X.pn ++ pins))) (v := .ref a) S hN hi (.inl hln) rfl (fun s5 S5 => ?_) (.inr hln)
      refine wpAny_mono ((hsu a oe cls d (X.pn ++ pins) hz hd).run [] s5 _ H _ S5 (yes rfl a f.na)) (fun g s6 hsp => ?_) (fun _ _ z => False.elim z)
      cases g with
      | next => obtain ⟨σ6, H6, S6, q6⟩ := hsp; exact gone_ok (S6.unsuite ok) hN hi hln fun s7 J7 => ⟨_, _, J7, q6⟩
      | brk => obtain ⟨σ6, H6, S6, q6⟩ := hsp; exact gone_ok (S6.unsuite ok) hN hi hln fun s7 J7 => ⟨_, _, J7, q6⟩
      | cont => obtain ⟨σ6, H6, S6, q6⟩ := hsp; exact gone_ok (S6.unsuite ok) hN hi hln fun s7 J7 => ⟨_, _, J7, q6⟩
      | ret u => obtain ⟨v6, σ6, H6, S6, r6, q6⟩ := hsp; exact gone_ok (S6.unsuite ok) hN hi hln fun s7 J7 => ⟨_, _, _, J7, r6, q6⟩
end
/-- try with any number of clauses, each with a name or without -/
theorem ps_try_named {body : List Stmt} {h₀ : ExceptHandler} {hds : List ExceptHandler} {l : List (Value × Option Nat × Suit)} {pos : Pos} {tb : WX → TS} {Wout : WX} (hs : X.stack = X.env :: X.outer) (hf : X.env.frame = some X.env.locals) (hN : X.N.Nodup) (tk : Takes X Wout)
    (hb : ∀ (W : WX) (pn : List (Addr × Obj)) (xe : Value → Shared → Prop), Takes (X.tr pn xe) W → PassesOwn (model X.prog X.w) X.A X.env xe → PSs (X.tr pn xe) body (tb W)) (hh : HdsN X (h₀ :: hds) l) :
    PS X (.Try body (h₀ :: hds) [] [] pos) (fun D σ H => tb (wNamed X.K Wout D l) D σ H) := by
  refine ⟨fun pins s σ H D I h => ?_⟩
  have ok := I.ok
  have hfr : X.A.frames = some (X.env :: X.outer) := by rw [ok.frames, hs]
  refine wpAny_Try_except (wpAny_mono ((hb (wNamed X.K Wout D l) (X.pn ++ pins) (fun e s₁ => wpAny (model X.prog X.w) X.A (noteFrame e X.env) (fun _ s₂ => wpAny (model X.prog X.w) X.A (setFlight e none) (fun _ s₃ =>
    wpAny (model X.prog X.w) X.A (handleBy e X.env (h₀ :: hds)) (SP X pins D) X.xe s₃) X.xe s₂) X.xe s₁) (fun u s' xx => ?_) PassesOwn.looking).run [] s σ H D (I.toTry _) h) (fun f s1 hsp => ?_) (fun e s1 he => he))
  · obtain ⟨a, B, sI, pins', σ', H', cls, d, rfl, J, nb, up, sky, na, os, ag, w⟩ := xx
    rw [show (X.tr (X.pn ++ pins) _).stack = X.env :: X.outer from hs] at sky
    exact Sky.land Zc.steady hfr hf sky fun h3 fl3 up3 => clauses_run ok hs hf hN tk hh ⟨J.ofTry ok, nb, up.trans up3, fl3, na, os, ag⟩ w
  · cases f with
    | next => obtain ⟨σ', H', J, q⟩ := hsp; exact wpAny_execs_nil ⟨σ', H', J.ofTry ok, q⟩
    | brk => obtain ⟨σ', H', J, q⟩ := hsp; exact ⟨σ', H', J.ofTry ok, q⟩
    | cont => obtain ⟨σ', H', J, q⟩ := hsp; exact ⟨σ', H', J.ofTry ok, q⟩
    | ret u => obtain ⟨v, σ', H', J, r, q⟩ := hsp; exact ⟨v, σ', H', J.ofTry ok, r, q⟩
end
end Mine

namespace PySem.W
open PySem PySem.Spec PySem.Calls PyProof.Rows
section
variable {prog : Program} {w : World} {A : Around} {E : Value → Shared → Prop} {s : Shared} {K : Frag} {x D : Addr} {ox : Obj} {od : Option Obj}
end
end PySem.W
namespace Mine
open PySem PySem.Spec PyProof.Rows L2
end Mine

namespace L2
open PySem PySem.Spec PyProof.Rows
/-- t * 1 is t itself -/
theorem mine_mul_one (l : Addr) (items : Array Value) (n : Nat) (dd : Option Addr) (sl : Array (Option Value)) (u : Tok) :
    Meets (Builtin.«tuple.__mul__» ⟨[.ref l, .int 1 u], []⟩) (fun _ R s => s.heap.get? l = some { cls := .type "tuple", dict := dd, data := .seq items n, slots := sl } ∧ R (.ok (.ret (Value.ref l))) s) :=
  .of_wp fun prog w A R s h => by
    obtain ⟨hp, g, d, tk, os⟩ := s
    obtain ⟨hl, h⟩ := h
    have f1 := AutoSeq1.idx_int
    wp_walk using wpAny_loadPart' hl
    exact ⟨_, rfl, h⟩
end L2
namespace Mine
open PySem PySem.Spec PyProof.Rows L2
section
variable {X : Cx}
/-- t * k, k from 1 on -/
def rRepA : R2 := fun x y H Q => ∃ l k xs, x = .ref l ∧ y = .int k ∧ H l = some (.tup xs) ∧ xs ≠ [] ∧ 1 ≤ k ∧ k ≤ 1000 ∧ xs.length ≤ 1000 ∧ ∀ p H', Same H H' → H' p = some (.tup (List.replicate k.toNat xs).flatten) → Q (.ref p) H'
/-- sum of a list or a tuple of whole numbers -/
def rSumA (K : PySem.W.Frag) : List V → Hp → VK → Prop := fun vs H Q => ∃ (a : Addr) (ns : List Int), vs = [V.ref a] ∧ (SqL K H a (ns.map V.int) ∨ SqT K H a (ns.map V.int)) ∧ Q (.int ns.sum) H
theorem cr_sumA (hc : X.calm = true) : CallR X (.builtin "sum") (rSumA X.K) := by
  intro pins s σ H vs us Q I r ⟨a, ns, e, h, q⟩
  rcases h with h | h
  · exact cr_sum hc pins s σ H vs us Q I r ⟨a, ns, e, h, q⟩
  · exact cr_sumT hc pins s σ H vs us Q I r ⟨a, ns, e, h, q⟩
end
/-! ### zip of a tuple and a list -/
def ItzM (K : PySem.W.Frag) (a b : Addr) : It :=
  ⟨fun i H => ∃ (xs ys : List V) (x y : V), SqT K H a xs ∧ SqL K H b ys ∧ xs[i]? = some x ∧ ys[i]? = some y,
    fun i H v H' => ∃ T x y, v = .ref T ∧ H T = none ∧ H' = upd H T (.tup [x, y]) ∧ (∀ xs, SqT K H a xs → xs[i]? = some x) ∧ ∀ ys, SqL K H b ys → ys[i]? = some y,
    fun i H => ∃ xs ys : List V, SqT K H a xs ∧ SqL K H b ys ∧ (xs.length = i ∨ ys.length = i) ∧ i ≤ xs.length ∧ i ≤ ys.length⟩
/-- zip(a, b), a a tuple, b a list or a tuple -/
def iZipS (K : PySem.W.Frag) (ta : TA) : TI := fun σ H R => ta σ H fun vs H1 => ∃ a b xs ys, vs = [.ref a, .ref b] ∧ SqT K H1 a xs ∧ ((SqL K H1 b ys ∧ R (ItzM K a b) H1) ∨ (SqT K H1 b ys ∧ R (RZ.ItzT K a b) H1))
theorem pg_tupK {X : Cx} {es : List Expr} {k : Nat} {t : TGs} {n : Nat} {K : PySem.W.Frag} {pos : Pos} (eK : X.K = K) (hc : X.calm = true) (h : PGs X es t)
    (hn : (assignEach es X.env).length = n := by rfl) (hst : (assignEach es X.env).findIdx? (·.1) = none := by rfl) : PG X (.Tuple es k pos) (gTup K n t) := eK ▸ pg_tup hc h hn hst
/-! ### x[i], x[lo:hi], list(x) of a list or a tuple -/
section
variable {X : Cx}
def rIxA : R2 := fun x y H Q => ∃ p i xs v, x = .ref p ∧ y = .int i ∧ (H p = some (.lst xs) ∨ H p = some (.tup xs)) ∧ atI xs i = some v ∧ Q v H
def rSlS (K : PySem.W.Frag) : V → Option Int → Option Int → Hp → VK → Prop := fun x lo hi H Q => ∃ a xs, x = .ref a ∧ ((H a = some (.lst xs) ∧ ∀ p H', Same H H' → H' p = some (.lst (cutV xs lo hi)) → Q (.ref p) H') ∨ (H a = some (.tup xs) ∧ ∀ p H', Same H H' → H' p = some (.tup (cutV xs lo hi)) → Q (.ref p) H'))
end
end Mine

namespace Mine
open PySem PySem.Spec PyProof.Rows L2
/-! ### data, without the heap -/
inductive Dt where
  | non | bl (b : Bool) | int (i : Int) | str (x : Str)
  | tup (xs : List Dt) | lst (xs : List Dt)
  | dk (ks : List Key) (vs : List Dt)
  | dt (ks : List (List Key)) (vs : List Dt)
  | ins (C : Str) (ns : List Str) (vs : List Dt)
  | raw (v : V)
mutual
/-- in the heap H the value v is this data -/
inductive Den (K : PySem.W.Frag) (H : Hp) : V → Dt → Prop
  | non : Den K H .non .non
  | bl (b : Bool) : Den K H (.bl b) (.bl b)
  | int (i : Int) : Den K H (.int i) (.int i)
  | str (x : Str) : Den K H (.str x) (.str x)
  | tup {a : Addr} {xs : List V} {ds : List Dt} : H a = some (.tup xs) → DenAll K H xs ds → Den K H (.ref a) (.tup ds)
  | lst {a : Addr} {xs : List V} {ds : List Dt} : H a = some (.lst xs) → DenAll K H xs ds → Den K H (.ref a) (.lst ds)
  | dk {a : Addr} {ks : List Key} {vs : List V} {ds : List Dt} : H a = some (.dK (ks.zip vs)) → ks.length = vs.length → DenAll K H vs ds → Den K H (.ref a) (.dk ks ds)
  | dt {a : Addr} {ks : List (List Key)} {vs : List V} {ds : List Dt} : H a = some (.dT (ks.zip vs)) → ks.length = vs.length → DenAll K H vs ds → Den K H (.ref a) (.dt ks ds)
  | ins {a dx : Addr} {C : Str} {ns : List Str} {vs : List V} {ds : List Dt} : H a = some (.ins (He.ga K C) dx (ns.zip vs)) → ns.length = vs.length → DenAll K H vs ds → Den K H (.ref a) (.ins C ns ds)
  | raw (v : V) : Den K H v (.raw v)
inductive DenAll (K : PySem.W.Frag) (H : Hp) : List V → List Dt → Prop
  | nil : DenAll K H [] []
  | cons {v : V} {vs : List V} {d : Dt} {ds : List Dt} : Den K H v d → DenAll K H vs ds → DenAll K H (v :: vs) (d :: ds)
end
section
variable {K : PySem.W.Frag} {H H' : Hp}
mutual
theorem Den.mono (s : Same H H') : ∀ {v : V} {d : Dt}, Den K H v d → Den K H' v d
  | _, _, .non => .non
  | _, _, .bl b => .bl b
  | _, _, .int i => .int i
  | _, _, .str x => .str x
  | _, _, .tup h a => .tup (s _ _ h) (DenAll.mono s a)
  | _, _, .lst h a => .lst (s _ _ h) (DenAll.mono s a)
  | _, _, .dk h l a => .dk (s _ _ h) l (DenAll.mono s a)
  | _, _, .dt h l a => .dt (s _ _ h) l (DenAll.mono s a)
  | _, _, .ins h l a => .ins (s _ _ h) l (DenAll.mono s a)
  | _, _, .raw v => .raw v
theorem DenAll.mono (s : Same H H') : ∀ {vs : List V} {ds : List Dt}, DenAll K H vs ds → DenAll K H' vs ds
  | _, _, .nil => .nil
  | _, _, .cons a b => .cons (Den.mono s a) (DenAll.mono s b)
end
theorem DenAll.length : ∀ {vs : List V} {ds : List Dt}, DenAll K H vs ds → vs.length = ds.length
  | _, _, .nil => rfl
  | _, _, .cons _ b => by rw [List.length_cons, List.length_cons, b.length]
theorem DenAll.append : ∀ {vs us : List V} {ds es : List Dt}, DenAll K H vs ds → DenAll K H us es → DenAll K H (vs ++ us) (ds ++ es)
  | _, _, _, _, .nil, b => b
  | _, _, _, _, .cons a r, b => .cons a (r.append b)
theorem DenAll.snoc {vs : List V} {ds : List Dt} {v : V} {d : Dt} (a : DenAll K H vs ds) (b : Den K H v d) : DenAll K H (vs ++ [v]) (ds ++ [d]) := a.append (.cons b .nil)
theorem DenAll.get : ∀ {vs : List V} {ds : List Dt} {i : Nat} {d : Dt}, DenAll K H vs ds → ds[i]? = some d → ∃ v, vs[i]? = some v ∧ Den K H v d
  | _, _, _, _, .nil, e => by simp at e
  | _, _, 0, _, .cons a _, e => by
    simp at e; subst e
    exact ⟨_, rfl, a⟩
  | _, _, i + 1, d, .cons _ r, e => by
    obtain ⟨v, h1, h2⟩ := DenAll.get (i := i) (d := d) r (by simpa using e)
    exact ⟨v, by simpa using h1, h2⟩
theorem DenAll.getV : ∀ {vs : List V} {ds : List Dt} {i : Nat} {v : V}, DenAll K H vs ds → vs[i]? = some v → ∃ d, ds[i]? = some d ∧ Den K H v d
  | _, _, _, _, .nil, e => by simp at e
  | _, _, 0, _, .cons a _, e => by
    simp at e; subst e
    exact ⟨_, rfl, a⟩
  | _, _, i + 1, d, .cons _ r, e => by
    obtain ⟨v, h1, h2⟩ := DenAll.getV (i := i) (v := d) r (by simpa using e)
    exact ⟨v, by simpa using h1, h2⟩
theorem DenAll.set : ∀ {vs : List V} {ds : List Dt} {v : V} {d : Dt} (i : Nat), DenAll K H vs ds → Den K H v d → DenAll K H (vs.set i v) (ds.set i d)
  | _, _, _, _, _, .nil, _ => .nil
  | _, _, _, _, 0, .cons _ r, b => .cons b r
  | _, _, _, _, i + 1, .cons a r, b => .cons a (DenAll.set i r b)
theorem DenAll.take : ∀ {vs : List V} {ds : List Dt} (n : Nat), DenAll K H vs ds → DenAll K H (vs.take n) (ds.take n)
  | _, _, 0, _ => by simp; exact .nil
  | _, _, _ + 1, .nil => .nil
  | _, _, n + 1, .cons a r => .cons a (DenAll.take n r)
theorem DenAll.drop : ∀ {vs : List V} {ds : List Dt} (n : Nat), DenAll K H vs ds → DenAll K H (vs.drop n) (ds.drop n)
  | _, _, 0, r => r
  | _, _, _ + 1, .nil => .nil
  | _, _, n + 1, .cons _ r => DenAll.drop n r
theorem DenAll.dropLast : ∀ {vs : List V} {ds : List Dt}, DenAll K H vs ds → DenAll K H vs.dropLast ds.dropLast := by
  intro vs ds h
  rw [List.dropLast_eq_take, List.dropLast_eq_take, h.length]
  exact h.take _
theorem DenAll.reverse : ∀ {vs : List V} {ds : List Dt}, DenAll K H vs ds → DenAll K H vs.reverse ds.reverse
  | _, _, .nil => .nil
  | _, _, .cons a r => by
    rw [List.reverse_cons, List.reverse_cons]
    exact r.reverse.snoc a
theorem DenAll.replicate {vs : List V} {ds : List Dt} (h : DenAll K H vs ds) : ∀ n : Nat, DenAll K H (List.replicate n vs).flatten (List.replicate n ds).flatten
  | 0 => .nil
  | n + 1 => by
    rw [List.replicate_succ, List.replicate_succ, List.flatten_cons, List.flatten_cons]
    exact h.append (DenAll.replicate h n)
theorem DenAll.ints : ∀ w : List Int, DenAll K H (w.map V.int) (w.map Dt.int)
  | [] => .nil
  | x :: w => .cons (.int x) (DenAll.ints w)
end
/-- things whose value says all -/
def Dt.flat : Dt → Option V
  | .non => some .non
  | .bl b => some (.bl b)
  | .int i => some (.int i)
  | .str x => some (.str x)
  | .raw v => some v
  | _ => none
theorem Den.flat {K : PySem.W.Frag} {H : Hp} {v u : V} {d : Dt} (h : Den K H v d) (e : d.flat = some u) : v = u := by
  cases h <;> first
    | (injection e with e; try exact e)
    | cases e
theorem Den.of_flat {K : PySem.W.Frag} {H : Hp} {u : V} {d : Dt} (e : d.flat = some u) : Den K H u d := by
  cases d <;> first
    | (injection e with e; subst e; first | exact .non | exact .bl _ | exact .int _ | exact .str _ | exact .raw _)
    | cases e
/-! ### hidden things -/
open Classical in
/-- the heap without what X hides -/
noncomputable def vis (H : Hp) (X : Addr → Prop) : Hp := fun a => if X a then none else H a
theorem vis_of {H : Hp} {X : Addr → Prop} {a : Addr} {o : HO} (h : vis H X a = some o) : ¬ X a ∧ H a = some o := by
  unfold vis at h
  split at h
  · cases h
  · exact ⟨by assumption, h⟩
theorem vis_mk {H : Hp} {X : Addr → Prop} {a : Addr} {o : HO} (n : ¬ X a) (h : H a = some o) : vis H X a = some o := by
  unfold vis
  rw [if_neg n]; exact h
theorem vis_sub {H : Hp} {X : Addr → Prop} : Same (vis H X) H := fun _ _ h => (vis_of h).2
theorem vis_anti {H : Hp} {X Y : Addr → Prop} (h : ∀ a, X a → Y a) : Same (vis H Y) (vis H X) := fun _ _ e => vis_mk (fun x => (vis_of e).1 (h _ x)) (vis_of e).2
/-- the hand at h, its cells at c -/
def HandC (H : Hp) (h c : Addr) : Prop := ∃ (cells : List Int) (at_ : Nat) (big mix : Int), H h = some (.lst [.ref c, .int at_, .int big, .int mix]) ∧ H c = some (.lst (cells.map V.int)) ∧
  (∀ z ∈ cells, 0 ≤ z) ∧ at_ ≤ cells.length ∧ cells.length ≤ 63 ∧ 0 ≤ big ∧ 0 ≤ mix ∧ mix < 2147483563
abbrev Hnd := Option (Addr × Addr)
/-- all stands but the hand, which is a hand still -/
def Frm (hd : Hnd) (H H' : Hp) : Prop := (∀ a o, H a = some o → (∀ h c, hd = some (h, c) → a ≠ h) → H' a = some o) ∧ ∀ h c, hd = some (h, c) → HandC H h c → HandC H' h c
theorem HandC.same {H H' : Hp} {h c : Addr} (x : HandC H h c) (s : Same H H') : HandC H' h c := by
  obtain ⟨cells, at_, big, mix, a, b, r⟩ := x
  exact ⟨cells, at_, big, mix, s _ _ a, s _ _ b, r⟩
theorem Frm.refl {hd : Hnd} (H : Hp) : Frm hd H H := ⟨fun _ _ e _ => e, fun _ _ _ x => x⟩
theorem Frm.trans {hd : Hnd} {H H1 H2 : Hp} (a : Frm hd H H1) (b : Frm hd H1 H2) : Frm hd H H2 := ⟨fun p o e n => b.1 p o (a.1 p o e n) n, fun h c e x => b.2 h c e (a.2 h c e x)⟩
theorem Frm.same {hd : Hnd} {H H' : Hp} (s : Same H H') : Frm hd H H' := ⟨fun _ _ e _ => s _ _ e, fun _ _ _ x => x.same s⟩
theorem Frm.out {H H' : Hp} (f : Frm Option.none H H') : Same H H' := fun a o e => f.1 a o e fun _ _ z => by cases z
theorem Frm.upd {hd : Hnd} {H : Hp} {p : Addr} {o : HO} (h : H p = Option.none) : Frm hd H (upd H p o) := .same (same_upd h)
/-! ### where one stands -/
/-- fixed through a body: the facts' part, the heap and what is hidden at its entry, the hand, the exception in hand, what is wished of an exception -/
structure Bc where
  K : PySem.W.Frag
  H0 : Hp
  X0 : Addr → Prop
  hd : Hnd
  ex : Option (Addr × Value × Option Addr)
  E : L2.St → XK
  /-- self while it is made -/
  me : Option Addr
/-- a list, a dict of one's own -/
inductive Ow where
  | lst (xs : List Dt) | dk (ks : List Key) (vs : List Dt) | dt (ks : List (List Key)) (vs : List Dt)
def Ow.fz : Ow → Dt
  | .lst xs => .lst xs
  | .dk ks vs => .dk ks vs
  | .dt ks vs => .dt ks vs
inductive DenO (K : PySem.W.Frag) (H : Hp) : HO → Ow → Prop
  | lst {vs : List V} {xs : List Dt} : DenAll K H vs xs → DenO K H (.lst vs) (.lst xs)
  | dk {ks : List Key} {vs : List V} {xs : List Dt} : ks.length = vs.length → DenAll K H vs xs → DenO K H (.dK (ks.zip vs)) (.dk ks xs)
  | dt {ks : List (List Key)} {vs : List V} {xs : List Dt} : ks.length = vs.length → DenAll K H vs xs → DenO K H (.dT (ks.zip vs)) (.dt ks xs)
theorem DenO.mono {K : PySem.W.Frag} {H H' : Hp} (s : Same H H') {u : HO} {o : Ow} (h : DenO K H u o) : DenO K H' u o := by
  cases h with
  | lst a => exact .lst (a.mono s)
  | dk l a => exact .dk l (a.mono s)
  | dt l a => exact .dt l (a.mono s)
theorem DenO.fz {K : PySem.W.Frag} {H : Hp} {u : HO} {o : Ow} {p : Addr} (h : DenO K H u o) (e : H p = some u) : Den K H (.ref p) o.fz := by
  cases h with
  | lst a => exact .lst e a
  | dk l a => exact .dk e l a
  | dt l a => exact .dt e l a
theorem DenO.noins {K : PySem.W.Frag} {H : Hp} {C dx : Addr} {fs : List (Str × V)} {o : Ow} (h : DenO K H (.ins C dx fs) o) : False := by cases h
/-- what a slot holds: nothing that is known, data, a list of one's own, the hand, an exception in hand -/
inductive Sl where
  | no | d (x : Dt) | own (o : Ow) | hand | exc (c : Str) (fs : List (Str × V))
  /-- an instance of one's own: self while it is made -/
  | ins (C : Str) (ns : List Str) (ds : List Dt)
  /-- a list of one's own at p of lists of one's own at qs -/
  | tab (p : Addr) (qs : List Addr) (rows : List (List Dt))
  /-- a set of whole numbers of one's own -/
  | st (S : Int → Bool) (n : Nat)
def IsIns (env : List Sl) (i : Nat) : Prop := ∃ C ns ds, env[i]? = some (.ins C ns ds)
/-- only the first slot holds an instance of one's own -/
def One (env : List Sl) : Prop := ∀ i, IsIns env i → i = 0
theorem One.set {env : List Sl} (h : One env) {j : Nat} {s : Sl} (hs : ∀ C ns ds, s ≠ .ins C ns ds) : One (env.set j s) := fun i ⟨C, ns, ds, e⟩ => by
  rw [List.getElem?_set] at e
  split at e
  · split at e
    · injection e with e; exact absurd e (hs C ns ds)
    · cases e
  · exact h i ⟨C, ns, ds, e⟩
theorem One.map {env : List Sl} (h : One env) {f : Sl → Sl} (hf : ∀ s C ns ds, f s = .ins C ns ds → s = .ins C ns ds) : One (env.map f) := fun i ⟨C, ns, ds, e⟩ => by
  rw [List.getElem?_map, Option.map_eq_some_iff] at e
  obtain ⟨s, e1, e2⟩ := e
  exact h i ⟨C, ns, ds, by rw [e1, hf _ _ _ _ e2]⟩
/-- lists of one's own at qs -/
def RowsAt (K : PySem.W.Frag) (V H : Hp) (qs : List Addr) (rows : List (List Dt)) : Prop :=
  qs.length = rows.length ∧ ∀ (j : Nat) (q : Addr) (ds : List Dt), qs[j]? = some q → rows[j]? = some ds → ∃ us, H q = some (.lst us) ∧ DenAll K V us ds
/-- the things of one's own that a slot holds -/
def Foot : Sl → Option V → Addr → Prop
  | .own _, o, a => o = some (.ref a)
  | .tab p qs _, _, a => a ∈ p :: qs
  | .st _ _, o, a => o = some (.ref a)
  | _, _, _ => False
/-- no thing of one's own is held by two slots -/
def Apt (env : List Sl) (σ : L2.St) : Prop := ∀ (i j : Nat) (s t : Sl) (o u : Option V) (a : Addr), i ≠ j → env[i]? = some s → env[j]? = some t → σ[i]? = some o → σ[j]? = some u → Foot s o a → ¬ Foot t u a
theorem Apt.setF {env : List Sl} {σ : L2.St} {j : Nat} {s : Sl} {o : Option V} (h : Apt env σ) (n : ∀ (i : Nat) (t : Sl) (u : Option V) (a : Addr), i ≠ j → env[i]? = some t → σ[i]? = some u → Foot s o a → ¬ Foot t u a) : Apt (env.set j s) (σ.set j o) := by
  intro i k s1 t1 o1 u1 a ne e1 e2 e3 e4 f1 f2
  rw [List.getElem?_set] at e1 e2 e3 e4
  by_cases c : j = i
  · subst c
    rw [if_neg ne] at e2 e4
    rw [if_pos rfl] at e1 e3
    split at e1
    · split at e3
      · cases e1; cases e3
        exact n k t1 u1 a (Ne.symm ne) e2 e4 f1 f2
      · cases e3
    · cases e1
  · rw [if_neg c] at e1 e3
    by_cases c2 : j = k
    · subst c2
      rw [if_pos rfl] at e2 e4
      split at e2
      · split at e4
        · cases e2; cases e4
          exact n i s1 o1 a ne e1 e3 f2 f1
        · cases e4
      · cases e2
    · rw [if_neg c2] at e2 e4
      exact h i k s1 t1 o1 u1 a ne e1 e2 e3 e4 f1 f2
theorem Apt.set {env : List Sl} {σ : L2.St} {j : Nat} {s : Sl} {o : Option V} (h : Apt env σ) (n : ∀ a, ¬ Foot s o a) : Apt (env.set j s) (σ.set j o) := h.setF fun _ _ _ a _ _ _ f => absurd f (n a)
theorem Apt.setS {env : List Sl} {σ : L2.St} {j : Nat} {s : Sl} (h : Apt env σ) (n : ∀ (o : Option V) (a : Addr), σ[j]? = some o → Foot s o a → ∃ t, env[j]? = some t ∧ Foot t o a) : Apt (env.set j s) σ := by
  intro i k s1 t1 o1 u1 a ne e1 e2 e3 e4 f1 f2
  have g : ∀ (m : Nat) (s2 : Sl) (o2 : Option V), (env.set j s)[m]? = some s2 → σ[m]? = some o2 → Foot s2 o2 a → ∃ s3, env[m]? = some s3 ∧ Foot s3 o2 a := fun m s2 o2 e q f => by
    rw [List.getElem?_set] at e
    by_cases c : j = m
    · subst c
      rw [if_pos rfl] at e
      split at e
      · cases e; exact n o2 a q f
      · cases e
    · rw [if_neg c] at e
      exact ⟨s2, e, f⟩
  obtain ⟨s3, a1, b1⟩ := g i s1 o1 e1 e3 f1
  obtain ⟨t3, a2, b2⟩ := g k t1 u1 e2 e4 f2
  exact h i k s3 t3 o1 u1 a ne a1 a2 e3 e4 b1 b2
theorem Apt.map {env : List Sl} {σ : L2.St} (h : Apt env σ) {f : Sl → Sl} (hf : ∀ s o a, Foot (f s) o a → Foot s o a) : Apt (env.map f) σ := by
  intro i k s1 t1 o1 u1 a ne e1 e2 e3 e4 f1 f2
  rw [List.getElem?_map, Option.map_eq_some_iff] at e1 e2
  obtain ⟨s3, a1, rfl⟩ := e1
  obtain ⟨t3, a2, rfl⟩ := e2
  exact h i k s3 t3 o1 u1 a ne a1 a2 e3 e4 (hf _ _ _ f1) (hf _ _ _ f2)
theorem Apt.none {env : List Sl} {σ : L2.St} (h : ∀ (i : Nat) (s : Sl), env[i]? = some s → ∀ o a, ¬ Foot s o a) : Apt env σ := fun i _ s _ o _ a _ e1 _ _ _ f1 => absurd f1 (h i s e1 o a)
def SlRep (C : Bc) (X : Addr → Prop) (H : Hp) : Sl → Option V → Prop
  | .no, _ => True
  | .d x, o => ∃ v, o = some v ∧ Den C.K (vis H X) v x
  | .own w, o => ∃ p u, o = some (.ref p) ∧ X p ∧ ¬ C.X0 p ∧ H p = some u ∧ DenO C.K (vis H X) u w
  | .hand, o => ∃ h c, o = some (.ref h) ∧ C.hd = some (h, c)
  | .tab p qs rows, o => o = some (.ref p) ∧ (∀ a ∈ p :: qs, X a ∧ ¬ C.X0 a) ∧ (p :: qs).Nodup ∧ H p = some (.lst (qs.map V.ref)) ∧ RowsAt C.K (vis H X) H qs rows
  | .st S n, o => ∃ p, o = some (.ref p) ∧ X p ∧ ¬ C.X0 p ∧ H p = some (.set S n)
  | .ins C0 ns ds, o => ∃ p dx vs, o = some (.ref p) ∧ X p ∧ ¬ C.X0 p ∧ H p = some (.ins (He.ga C.K C0) dx (ns.zip vs)) ∧ (ns.length = vs.length ∧ C.me = some p) ∧ DenAll C.K (vis H X) vs ds
  | .exc c fs, o => match C.ex with
    | none => True
    | some (a, cls, dx) => o = some (.ref a) ∧ cls = .ref (He.ga C.K c) ∧ ((fs = [] ∧ dx = none) ∨ ∃ dd, dx = some dd ∧ vis H X dd = some (.xd fs))
theorem SlRep.exc {C : Bc} {X Y : Addr → Prop} {H H' : Hp} {c : Str} {fs : List (Str × V)} {o : Option V} (h : SlRep C X H (.exc c fs) o) (s : Same (vis H X) (vis H' Y)) : SlRep C Y H' (.exc c fs) o := by
  unfold SlRep at h ⊢
  dsimp only at h ⊢
  split at h
  · trivial
  · exact ⟨h.1, h.2.1, h.2.2.imp id fun ⟨dd, e, q⟩ => ⟨dd, e, s _ _ q⟩⟩
theorem SlRep.tab_to {C : Bc} {X Y : Addr → Prop} {H H' : Hp} {p : Addr} {qs : List Addr} {rows : List (List Dt)} {o : Option V} (h : SlRep C X H (.tab p qs rows) o) (hX : ∀ a ∈ p :: qs, X a → Y a) (hH : ∀ a ∈ p :: qs, ∀ u, H a = some u → H' a = some u) (s : Same (vis H X) (vis H' Y)) : SlRep C Y H' (.tab p qs rows) o := by
  obtain ⟨e, h1, h2, h3, h4, h5⟩ := h
  refine ⟨e, fun a ha => ⟨hX a ha (h1 a ha).1, (h1 a ha).2⟩, h2, hH p List.mem_cons_self _ h3, h4, fun j q ds e1 e2 => ?_⟩
  obtain ⟨us, a, b⟩ := h5 j q ds e1 e2
  exact ⟨us, hH q (List.mem_cons_of_mem _ (List.mem_of_getElem? e1)) _ a, b.mono s⟩
theorem SlRep.tab_lst {C : Bc} {X : Addr → Prop} {H : Hp} {p : Addr} {qs : List Addr} {rows : List (List Dt)} {o : Option V} (h : SlRep C X H (.tab p qs rows) o) : ∀ a ∈ p :: qs, ∃ us, H a = some (.lst us) := by
  obtain ⟨e, h1, h2, h3, h4, h5⟩ := h
  intro a ha
  rcases List.mem_cons.mp ha with rfl | ha
  · exact ⟨_, h3⟩
  · obtain ⟨j, hj, e⟩ := List.getElem_of_mem ha
    obtain ⟨us, g, _⟩ := h5 j a (rows[j]'(by rw [← h4]; exact hj)) (by rw [List.getElem?_eq_getElem hj, e]) (List.getElem?_eq_getElem _)
    exact ⟨us, g⟩
structure Rep (C : Bc) (X : Addr → Prop) (env : List Sl) (σ : L2.St) (H : Hp) : Prop where
  len : env.length = σ.length
  sup : ∀ a, C.X0 a → X a
  new : ∀ a, X a → C.X0 a ∨ C.H0 a = none
  al : ∀ a, X a → ∃ o, H a = some o
  frm : Frm C.hd C.H0 H
  hands : ∀ h c, C.hd = some (h, c) → C.X0 h ∧ HandC C.H0 h c ∧ HandC H h c
  slot : ∀ (i : Nat) (s : Sl), env[i]? = some s → ∃ o, σ[i]? = some o ∧ SlRep C X H s o
  ap : Apt env σ
  one : One env
section
variable {C : Bc} {X : Addr → Prop} {env : List Sl} {σ : L2.St} {H H' : Hp}
theorem vis_frm (hX : ∀ h c, C.hd = some (h, c) → X h) (f : Frm C.hd H H') : Same (vis H X) (vis H' X) := fun a o e => by
  obtain ⟨n, h⟩ := vis_of e
  exact vis_mk n (f.1 a o h fun h c z q => n (q ▸ hX h c z))
theorem Rep.inj (r : Rep C X env σ H) (i j : Nat) (xs ys : Ow) (ne : i ≠ j) (e1 : env[i]? = some (.own xs)) (e2 : env[j]? = some (.own ys)) : σ[i]? ≠ σ[j]? := fun z => by
  obtain ⟨o, q1, p, u, rfl, _⟩ := r.slot i _ e1
  exact r.ap i j _ _ _ _ p ne e1 e2 q1 (z ▸ q1) rfl rfl
/-- what a slot holds of its own is hidden, new and there -/
theorem Rep.foot (r : Rep C X env σ H) {i : Nat} {s : Sl} {o : Option V} {a : Addr} (e1 : env[i]? = some s) (e2 : σ[i]? = some o) (f : Foot s o a) : X a ∧ ¬ C.X0 a ∧ ∃ u, H a = some u := by
  obtain ⟨o', q1, q⟩ := r.slot i s e1
  rw [q1] at e2; cases e2
  cases s with
  | own w =>
    obtain ⟨p, u, rfl, x1, x2, h, _⟩ := q
    have : a = p := by injection f with f; injection f with f; exact f.symm
    subst this
    exact ⟨x1, x2, u, h⟩
  | tab p qs rows =>
    obtain ⟨us, h⟩ := q.tab_lst a f
    exact ⟨(q.2.1 a f).1, (q.2.1 a f).2, _, h⟩
  | st S n =>
    obtain ⟨p, rfl, x1, x2, h⟩ := q
    have : a = p := by injection f with f; injection f with f; exact f.symm
    subst this
    exact ⟨x1, x2, _, h⟩
  | no => exact f.elim
  | d x => exact f.elim
  | hand => exact f.elim
  | exc c fs => exact f.elim
  | ins C0 ns ds => exact f.elim
/-- a free address is held by no slot -/
theorem Rep.nofoot (r : Rep C X env σ H) {p : Addr} (n : H p = none) (i : Nat) (s : Sl) (o : Option V) (e1 : env[i]? = some s) (e2 : σ[i]? = some o) : ¬ Foot s o p := fun f => by
  obtain ⟨_, _, u, h⟩ := r.foot e1 e2 f
  rw [n] at h; cases h
theorem Rep.hX (r : Rep C X env σ H) : ∀ h c, C.hd = some (h, c) → X h := fun h c e => r.sup h (r.hands h c e).1
theorem Rep.vs (r : Rep C X env σ H) (f : Frm C.hd H H') : Same (vis H X) (vis H' X) := vis_frm r.hX f
theorem Rep.nh (r : Rep C X env σ H) {p : Addr} (n : ¬ C.X0 p) : ∀ h c, C.hd = some (h, c) → p ≠ h := fun h c e z => n (z ▸ (r.hands h c e).1)
theorem Frm.there (f : Frm C.hd H H') (hh : ∀ h c, C.hd = some (h, c) → HandC H h c) {a : Addr} {o : HO} (e : H a = some o) : ∃ o', H' a = some o' := by
  by_cases z : ∃ h c, C.hd = some (h, c) ∧ a = h
  · obtain ⟨h, c, e1, rfl⟩ := z
    obtain ⟨_, _, _, _, q, _⟩ := f.2 a c e1 (hh a c e1)
    exact ⟨_, q⟩
  · exact ⟨o, f.1 a o e fun h c e1 q => z ⟨h, c, e1, q⟩⟩
theorem Frm.free (f : Frm C.hd H H') (hh : ∀ h c, C.hd = some (h, c) → HandC H h c) {a : Addr} (e : H' a = none) : H a = none := by
  cases q : H a with
  | none => rfl
  | some o =>
    obtain ⟨o', e'⟩ := f.there hh q
    rw [e] at e'; cases e'
/-- nothing but the hand has changed -/
theorem Rep.step (r : Rep C X env σ H) (f : Frm C.hd H H') : Rep C X env σ H' where
  len := r.len
  sup := r.sup
  new := r.new
  al := fun a x => let ⟨_, e⟩ := r.al a x; f.there (fun h c e => (r.hands h c e).2.2) e
  frm := r.frm.trans f
  hands := fun h c e => ⟨(r.hands h c e).1, (r.hands h c e).2.1, f.2 h c e (r.hands h c e).2.2⟩
  slot := fun i s e => by
    obtain ⟨o, e1, q⟩ := r.slot i s e
    refine ⟨o, e1, ?_⟩
    cases s with
    | no => trivial
    | d x => obtain ⟨v, e2, h⟩ := q; exact ⟨v, e2, h.mono (r.vs f)⟩
    | own xs =>
      obtain ⟨p, vs, e2, x1, x2, h1, h2⟩ := q
      exact ⟨p, vs, e2, x1, x2, f.1 p _ h1 (r.nh x2), h2.mono (r.vs f)⟩
    | hand => exact q
    | exc c fs => exact q.exc (r.vs f)
    | ins C0 ns ds =>
      obtain ⟨p, dx, vs, e2, x1, x2, h1, l, h2⟩ := q
      exact ⟨p, dx, vs, e2, x1, x2, f.1 p _ h1 (r.nh x2), l, h2.mono (r.vs f)⟩
    | tab p qs rows => exact q.tab_to (fun _ _ x => x) (fun a ha u h => f.1 a u h (r.nh (q.2.1 a ha).2)) (r.vs f)
    | st S n =>
      obtain ⟨p, e2, x1, x2, h1⟩ := q
      exact ⟨p, e2, x1, x2, f.1 p _ h1 (r.nh x2)⟩
  ap := r.ap
  one := r.one
theorem Rep.free (r : Rep C X env σ H) {p : Addr} (e : H p = none) : ¬ X p := fun x => by
  obtain ⟨o, q⟩ := r.al p x
  rw [e] at q; cases q
theorem Rep.h0 (r : Rep C X env σ H) {p : Addr} (e : H p = none) : C.H0 p = none := r.frm.free (fun h c e => (r.hands h c e).2.1) e
end
end Mine

namespace Mine
open PySem PySem.Spec PyProof.Rows L2
/-! ### what is wanted of expressions, by data -/
/-- an exception: its class, its attributes -/
structure Xc where
  cls : Str
  fs : List (Str × V)
abbrev DX := List Sl → (Dt → Prop) → (Xc → Prop) → Prop
abbrev DTX := List Sl → (Bool → Prop) → (Xc → Prop) → Prop
abbrev DAX := List Sl → (List Dt → Prop) → (Xc → Prop) → Prop
abbrev DSX := List Sl → (List Sl → Prop) → (Xc → Prop) → Prop
def XRep (K : PySem.W.Frag) (H : Hp) (cls : Value) (d : Option Addr) (x : Xc) : Prop := cls = .ref (He.ga K x.cls) ∧ match x.fs with
  | [] => d = none
  | f :: r => ∃ a, d = some a ∧ H a = some (.xd (f :: r))
theorem XRep.mono {K : PySem.W.Frag} {H H' : Hp} {cls : Value} {d : Option Addr} {x : Xc} (h : XRep K H cls d x) (s : Same H H') : XRep K H' cls d x := by
  obtain ⟨e, q⟩ := h
  refine ⟨e, ?_⟩
  obtain ⟨c, fs⟩ := x
  cases fs with
  | nil => exact q
  | cons f r => obtain ⟨a, e1, e2⟩ := q; exact ⟨a, e1, s _ _ e2⟩
def XOk (C : Bc) (X : Addr → Prop) (σ : L2.St) (H : Hp) (Qx : Xc → Prop) : Prop := ∀ x cls dx H', Frm C.hd H H' → XRep C.K (vis H' X) cls dx x → Qx x → C.E σ cls dx H'
/-- how a value stands for data: with all that is let; a list of one's own that is read; a new list -/
abbrev RR := Bc → (Addr → Prop) → Hp → Hp → V → Dt → Prop
def Cln : RR := fun C X _ H v d => Den C.K (vis H X) v d
def Bor : RR := fun C X _ H v d => Den C.K (vis H X) v d ∨ ∃ p vs ds, v = .ref p ∧ d = .lst ds ∧ (∀ h c, C.hd = some (h, c) → p ≠ h) ∧ H p = some (.lst vs) ∧ DenAll C.K (vis H X) vs ds
def Fsh : RR := fun C X H0 H v d => ∃ p vs ds, v = .ref p ∧ d = .lst ds ∧ H0 p = none ∧ H p = some (.lst vs) ∧ DenAll C.K (vis H fun a => X a ∨ a = p) vs ds
def DEg (R : RR) (C : Bc) (t : TE) (e : DX) : Prop := ∀ X env σ H (Q : VK) (Qd : Dt → Prop) (Qx : Xc → Prop), Rep C X env σ H → e env Qd Qx → (∀ d v H', Frm C.hd H H' → R C X H H' v d → Qd d → Q v H') → XOk C X σ H Qx → t σ H Q
abbrev DE := DEg Cln
abbrev DB := DEg Bor
abbrev DF := DEg Fsh
section
variable {C : Bc} {X : Addr → Prop} {env : List Sl} {σ : L2.St} {H H1 H' : Hp} {v : V} {d : Dt} {t : TE} {e : DX} {Qx : Xc → Prop}
theorem XOk.step (x : XOk C X σ H Qx) (f : Frm C.hd H H') : XOk C X σ H' Qx := fun y cls dx H2 f2 r q => x y cls dx H2 (f.trans f2) r q
theorem Bor.frm (r : Rep C X env σ H) (f : Frm C.hd H H') (h : Bor C X H1 H v d) : Bor C X H1 H' v d := by
  rcases h with h | ⟨p, vs, ds, e1, e2, n, h1, h2⟩
  · exact .inl (h.mono (r.vs f))
  · exact .inr ⟨p, vs, ds, e1, e2, n, f.1 p _ h1 n, h2.mono (r.vs f)⟩
theorem Cln.bor (h : Cln C X H1 H v d) : Bor C X H1 H v d := .inl h
theorem Fsh.cln (r : Rep C X env σ H1) (h : Fsh C X H1 H v d) : Cln C X H1 H v d := by
  obtain ⟨p, vs, ds, rfl, rfl, n, h1, h2⟩ := h
  exact .lst (vis_mk (r.free n) h1) (h2.mono (vis_anti fun _ => .inl))
theorem Fsh.frm (r : Rep C X env σ H) (f : Frm C.hd H H1) (h : Fsh C X H1 H' v d) : Fsh C X H H' v d := by
  obtain ⟨p, vs, ds, e1, e2, n, h1⟩ := h
  exact ⟨p, vs, ds, e1, e2, f.free (fun h c e => (r.hands h c e).2.2) n, h1⟩
theorem DEg.bor (h : DE C t e) : DB C t e := fun X env σ H Q Qd Qx r he q x => h X env σ H Q Qd Qx r he (fun d v H' f h => q d v H' f (.inl h)) x
theorem DEg.cln (h : DF C t e) : DE C t e := fun X env σ H Q Qd Qx r he q x => h X env σ H Q Qd Qx r he (fun d v H' f h => q d v H' f (h.cln r)) x
theorem Bor.flat {u : V} (h : Bor C X H1 H v d) (e : d.flat = some u) : v = u := by
  rcases h with h | ⟨p, vs, ds, e1, rfl, _⟩
  · exact h.flat e
  · cases e
theorem Bor.int {i : Int} (h : Bor C X H1 H v (.int i)) : v = .int i := h.flat rfl
theorem Bor.bl {i : Bool} (h : Bor C X H1 H v (.bl i)) : v = .bl i := h.flat rfl
theorem Bor.str {i : Str} (h : Bor C X H1 H v (.str i)) : v = .str i := h.flat rfl
theorem Bor.non (h : Bor C X H1 H v .non) : v = .non := h.flat rfl
theorem Bor.raw {u : V} (h : Bor C X H1 H v (.raw u)) : v = u := h.flat rfl
theorem Bor.lst {ds : List Dt} (h : Bor C X H1 H v (.lst ds)) : ∃ p vs, v = .ref p ∧ H p = some (.lst vs) ∧ DenAll C.K (vis H X) vs ds := by
  rcases h with h | ⟨p, vs, ds, e1, e2, n, h1, h2⟩
  · cases h with
    | lst h a => exact ⟨_, _, rfl, vis_sub _ _ h, a⟩
  · cases e2; exact ⟨p, vs, e1, h1, h2⟩
theorem Bor.tup {ds : List Dt} (h : Bor C X H1 H v (.tup ds)) : ∃ p vs, v = .ref p ∧ H p = some (.tup vs) ∧ DenAll C.K (vis H X) vs ds := by
  rcases h with h | ⟨p, vs, ds, e1, e2, n, h1, h2⟩
  · cases h with
    | tup h a => exact ⟨_, _, rfl, vis_sub _ _ h, a⟩
  · cases e2
theorem Bor.dk {ks : List Key} {ds : List Dt} (h : Bor C X H1 H v (.dk ks ds)) : ∃ p vs, v = .ref p ∧ H p = some (.dK (ks.zip vs)) ∧ ks.length = vs.length ∧ DenAll C.K (vis H X) vs ds := by
  rcases h with h | ⟨p, vs, ds, e1, e2, n, h1, h2⟩
  · cases h with
    | dk h l a => exact ⟨_, _, rfl, vis_sub _ _ h, l, a⟩
  · cases e2
theorem Bor.dt {ks : List (List Key)} {ds : List Dt} (h : Bor C X H1 H v (.dt ks ds)) : ∃ p vs, v = .ref p ∧ H p = some (.dT (ks.zip vs)) ∧ ks.length = vs.length ∧ DenAll C.K (vis H X) vs ds := by
  rcases h with h | ⟨p, vs, ds, e1, e2, n, h1, h2⟩
  · cases h with
    | dt h l a => exact ⟨_, _, rfl, vis_sub _ _ h, l, a⟩
  · cases e2
theorem Bor.ins {c : Str} {ns : List Str} {ds : List Dt} (h : Bor C X H1 H v (.ins c ns ds)) : ∃ p dx vs, v = .ref p ∧ H p = some (.ins (He.ga C.K c) dx (ns.zip vs)) ∧ ns.length = vs.length ∧ DenAll C.K (vis H X) vs ds := by
  rcases h with h | ⟨p, vs, ds, e1, e2, n, h1, h2⟩
  · cases h with
    | ins h l a => exact ⟨_, _, _, rfl, vis_sub _ _ h, l, a⟩
  · cases e2
/-- a new thing is laid -/
theorem Rep.laid {p : Addr} {o : HO} (r : Rep C X env σ H) (n : H p = none) : Frm C.hd H (upd H p o) := .upd n
theorem cln_new {p : Addr} {vs : List V} {ds : List Dt} (r : Rep C X env σ H) (n : H p = none) (h : DenAll C.K (vis H X) vs ds) : Cln C X H1 (upd H p (.tup vs)) (.ref p) (.tup ds) :=
  .tup (vis_mk (r.free n) upd_same) (h.mono (r.vs (.upd n)))
theorem fsh_new {p : Addr} {vs : List V} {ds : List Dt} (r : Rep C X env σ H) (n : H p = none) (h : DenAll C.K (vis H X) vs ds) : Fsh C X H (upd H p (.lst vs)) (.ref p) (.lst ds) :=
  ⟨p, vs, ds, rfl, rfl, n, upd_same, h.mono fun a o e => by
    obtain ⟨n1, e1⟩ := vis_of e
    have ne : a ≠ p := ne_of_none e1 n
    exact vis_mk (fun z => z.elim n1 ne) (by rw [upd_ne ne]; exact e1)⟩
end
/-! ### names, constants -/
def eVar (i : Nat) : DX := fun env Q _ => match env[i]? with
  | some (.d x) => Q x
  | _ => False
def eVarB (i : Nat) : DX := fun env Q _ => match env[i]? with
  | some (.d x) => Q x
  | some (.own (.lst xs)) => Q (.lst xs)
  | _ => False
def eC (d : Dt) : DX := fun _ Q _ => Q d
section
variable {C : Bc} {X : Addr → Prop} {env : List Sl} {σ : L2.St} {H : Hp}
theorem Rep.at (r : Rep C X env σ H) {i : Nat} {x : Dt} (e : env[i]? = some (.d x)) : ∃ v, σ[i]? = some (some v) ∧ Den C.K (vis H X) v x := by
  obtain ⟨o, e1, v, rfl, h⟩ := r.slot i _ e
  exact ⟨v, e1, h⟩
theorem de_var (i : Nat) : DE C (tVar i) (eVar i) := by
  intro X env σ H Q Qd Qx r he q x
  unfold eVar at he
  split at he
  · rename_i y e
    obtain ⟨v, e1, h⟩ := r.at e
    exact ⟨v, e1, q _ v H (.refl H) h he⟩
  · exact he.elim
theorem db_var (i : Nat) : DB C (tVar i) (eVarB i) := by
  intro X env σ H Q Qd Qx r he q x
  unfold eVarB at he
  split at he
  · rename_i y e
    obtain ⟨v, e1, h⟩ := r.at e
    exact ⟨v, e1, q _ v H (.refl H) (.inl h) he⟩
  · rename_i y e
    obtain ⟨o, e1, p, u, rfl, x1, x2, h1, h2⟩ := r.slot i _ e
    cases h2 with
    | @lst vs _ h2 => exact ⟨.ref p, e1, q _ _ H (.refl H) (.inr ⟨p, vs, _, rfl, rfl, r.nh x2, h1, h2⟩) he⟩
  · exact he.elim
theorem de_c {v : V} {d : Dt} (e : d.flat = some v) : DE C (tC v) (eC d) := fun X env σ H Q Qd Qx r he q x => q d v H (.refl H) (.of_flat e) he
theorem de_int (i : Int) : DE C (tC (.int i)) (eC (.int i)) := de_c rfl
theorem de_str (i : Str) : DE C (tC (.str i)) (eC (.str i)) := de_c rfl
theorem de_bl (i : Bool) : DE C (tC (.bl i)) (eC (.bl i)) := de_c rfl
theorem de_non : DE C (tC .non) (eC .non) := de_c rfl
theorem de_raw (v : V) : DE C (tC v) (eC (.raw v)) := de_c rfl
end
/-! ### operators -/
abbrev D2 := Dt → Dt → (Dt → Prop) → Prop
abbrev D1 := Dt → (Dt → Prop) → Prop
def OpG (R : RR) (C : Bc) (r : R2) (f : D2) : Prop := ∀ X env σ H H1 x y a b (Q : VK) (Qd : Dt → Prop), Rep C X env σ H → Bor C X H1 H x a → Bor C X H1 H y b → f a b Qd → (∀ d v H', Frm C.hd H H' → R C X H H' v d → Qd d → Q v H') → r x y H Q
abbrev OpD := OpG Cln
def eOp (f : D2) (a b : DX) : DX := fun env Q E => a env (fun x => b env (fun y => f x y Q) E) E
/-- what a reading may be weakened by: an earlier start -/
class RRs (R : RR) : Prop where
  st : ∀ {C : Bc} {X : Addr → Prop} {env : List Sl} {σ : L2.St} {H H1 H' : Hp} {v : V} {d : Dt}, Rep C X env σ H → Frm C.hd H H1 → R C X H1 H' v d → R C X H H' v d
instance : RRs Cln := ⟨fun _ _ h => h⟩
instance : RRs Bor := ⟨fun _ _ h => h⟩
instance : RRs Fsh := ⟨fun r f h => h.frm r f⟩
section
variable {C : Bc} {r r' : R2} {f : D2} {ta tb : TE} {a b : DX} {R : RR}
theorem dg_op [RRs R] (ho : OpG R C r f) (ha : DB C ta a) (hb : DB C tb b) : DEg R C (tOp r ta tb) (eOp f a b) := by
  intro X env σ H Q Qd Qx rp he q x
  refine ha X env σ H _ _ Qx rp he (fun d v H1 f1 r1 he1 => ?_) x
  have rp1 := rp.step f1
  refine hb X env σ H1 _ _ Qx rp1 he1 (fun d2 v2 H2 f2 r2 he2 => ?_) (x.step f1)
  exact ho X env σ H2 H1 v v2 d d2 Q Qd (rp1.step f2) (r1.frm rp1 f2) r2 he2 fun d3 v3 H3 f3 r3 => q d3 v3 H3 (f1.trans (f2.trans f3)) (RRs.st rp (f1.trans f2) r3)
end
section
variable {C : Bc} {r r' : R2} {f g : D2}
/-- one rule or the other -/
theorem OpG.left {R : RR} (h : OpG R C r f) : OpG R C (fun x y H Q => r x y H Q ∨ r' x y H Q) f := fun X env σ H H1 x y a b Q Qd rp r1 r2 he q => .inl (h X env σ H H1 x y a b Q Qd rp r1 r2 he q)
theorem OpG.right {R : RR} (h : OpG R C r' f) : OpG R C (fun x y H Q => r x y H Q ∨ r' x y H Q) f := fun X env σ H H1 x y a b Q Qd rp r1 r2 he q => .inr (h X env σ H H1 x y a b Q Qd rp r1 r2 he q)
end
/-- whole numbers -/
def dI (c : Int → Int → Prop) (g : Int → Int → Dt) : D2 := fun a b Q => match a, b with
  | .int i, .int j => c i j ∧ Q (g i j)
  | _, _ => False
def dI0 (g : Int → Int → Dt) : D2 := fun a b Q => match a, b with
  | .int i, .int j => Q (g i j)
  | _, _ => False
section
variable {C : Bc}
theorem od_I {c : Int → Int → Prop} {g : Int → Int → V} {g' : Int → Int → Dt} (e : ∀ i j, (g' i j).flat = some (g i j)) : OpD C (rI c g) (dI c g') := by
  intro X env σ H H1 x y a b Q Qd rp r1 r2 he q
  unfold dI at he
  split at he
  · exact ⟨_, _, r1.int, r2.int, he.1, q _ _ H (.refl H) (.of_flat (e _ _)) he.2⟩
  · exact he.elim
theorem od_I0 {g : Int → Int → V} {g' : Int → Int → Dt} (e : ∀ i j, (g' i j).flat = some (g i j)) : OpD C (rI0 g) (dI0 g') := by
  intro X env σ H H1 x y a b Q Qd rp r1 r2 he q
  unfold dI0 at he
  split at he
  · exact ⟨_, _, r1.int, r2.int, q _ _ H (.refl H) (.of_flat (e _ _)) he⟩
  · exact he.elim
end
abbrev LINE : Nat := 16777216
/-! + -/
def rAddIB : R2 := fun x y H Q => ∃ i k, x = .int i ∧ y = .bl k ∧ Q (.int (i + b2i k)) H
def rAddS : R2 := fun x y H Q => ∃ i j, x = .str i ∧ y = .str j ∧ i.length + j.length ≤ sizeLine ∧ Q (.str (i ++ j)) H
def rAddU (K : PySem.W.Frag) : R2 := fun x y H Q => rI0 (fun i j => .int (i + j)) x y H Q ∨ (rCat x y H Q ∨ (rCatA K x y H Q ∨ (rAddS x y H Q ∨ rAddIB x y H Q)))
theorem op_addU {X : Cx} {K : PySem.W.Frag} (e : X.K = K) : OpR X (binaryOp .Add) (rAddU K) := op_add.or (op_cat.or ((OpR.k (r := rCatA) (K := K) op_catA e).or (OpR.or (r := rAddS) op_add_str op_add_ib)))
def dAdd : D2 := fun a b Q => match a, b with
  | .int i, .int j => Q (.int (i + j))
  | .lst xs, .lst ys => xs.length + ys.length ≤ LINE ∧ Q (.lst (xs ++ ys))
  | .tup xs, .tup ys => xs.length + ys.length ≤ LINE ∧ Q (.tup (xs ++ ys))
  | .str x, .str y => x.length + y.length ≤ LINE ∧ Q (.str (x ++ y))
  | .int i, .bl k => Q (.int (i + b2i k))
  | _, _ => False
def dAddL : D2 := fun a b Q => match a, b with
  | .lst xs, .lst ys => xs.length + ys.length ≤ LINE ∧ Q (.lst (xs ++ ys))
  | _, _ => False
section
variable {C : Bc}
theorem od_addL : OpG Fsh C (rAddU C.K) dAddL := by
  intro X env σ H H1 x y a b Q Qd rp r1 r2 he q
  unfold dAddL at he
  split at he
  · obtain ⟨p, vs, rfl, h1, a1⟩ := r1.lst
    obtain ⟨p2, vs2, rfl, h2, a2⟩ := r2.lst
    refine .inr (.inl ⟨p, p2, vs, vs2, rfl, rfl, h1, h2, by rw [a1.length, a2.length, sizeLine_eq]; exact he.1, fun pn hp => ?_⟩)
    exact q _ _ _ (.upd hp) (fsh_new rp hp (a1.append a2)) he.2
  · exact he.elim
theorem od_add : OpD C (rAddU C.K) dAdd := by
  intro X env σ H H1 x y a b Q Qd rp r1 r2 he q
  unfold dAdd at he
  split at he
  · exact .inl ⟨_, _, r1.int, r2.int, q _ _ H (.refl H) (.int _) he⟩
  · exact od_addL X env σ H H1 x y _ _ Q Qd rp r1 r2 he fun d v H' f h => q d v H' f (h.cln rp)
  · obtain ⟨p, vs, rfl, h1, a1⟩ := r1.tup
    obtain ⟨p2, vs2, rfl, h2, a2⟩ := r2.tup
    have al := a1.append a2
    refine .inr (.inr (.inl ⟨p, p2, vs, vs2, rfl, rfl, .inl (.inl h1), .inl (.inl h2), by rw [a1.length, a2.length, sizeLine_eq]; exact he.1, fun e => ?_, fun _ e => ?_, fun _ _ pn hp => ?_⟩))
    · subst e
      refine q _ _ H (.refl H) ?_ he.2
      rcases r2 with r2 | ⟨_, _, _, _, e2, _⟩
      · cases r2 with
        | @tup _ xs' _ g g2 =>
          have e : xs' = vs2 := by simpa using (vis_sub _ _ g).symm.trans h2
          subst e
          exact .tup g al
      · cases e2
    · subst e
      refine q _ _ H (.refl H) ?_ he.2
      rcases r1 with r1 | ⟨_, _, _, _, e2, _⟩
      · cases r1 with
        | @tup _ xs' _ g g2 =>
          have e : xs' = vs := by simpa using (vis_sub _ _ g).symm.trans h1
          subst e
          rw [List.append_nil] at al
          exact .tup g al
      · cases e2
    · exact q _ _ _ (.upd hp) (cln_new rp hp al) he.2
  · exact .inr (.inr (.inr (.inl ⟨_, _, r1.str, r2.str, by rw [sizeLine_eq]; exact he.1, q _ _ H (.refl H) (.str _) he.2⟩)))
  · exact .inr (.inr (.inr (.inr ⟨_, _, r1.int, r2.bl, q _ _ H (.refl H) (.int _) he⟩)))
  · exact he.elim
end
/-! * -/
/-- t * k, k from 1 on: t itself, or a new tuple -/
def rRepB : R2 := fun x y H Q => ∃ l k xs, x = .ref l ∧ y = .int k ∧ H l = some (.tup xs) ∧ xs ≠ [] ∧ 1 ≤ k ∧ k ≤ 1000 ∧ xs.length ≤ 1000 ∧ (k = 1 → Q (.ref l) H) ∧ ∀ p, H p = none → Q (.ref p) (upd H p (.tup (List.replicate k.toNat xs).flatten))
theorem op_repB {X : Cx} : OpR X (binaryOp .Mult) rRepB := by
  intro pins s σ H x y v u Q I rx ry h
  obtain ⟨l, k, xs, rfl, rfl, hl, hne, h1, h2, hz, q1, q⟩ := h
  by_cases e : 2 ≤ k
  · exact op_repT pins s σ H _ _ v u Q I rx ry ⟨l, k, xs, rfl, rfl, .inl (.inl hl), hne, e, h2, hz, q⟩
  · obtain rfl : k = 1 := by omega
    cases rx
    obtain ⟨t, rfl⟩ := ry
    obtain ⟨its, r, ⟨⟨cls, dd, data, sl⟩, ho, hc, n, hd⟩, hs⟩ := I.tuple (.inl (.inl hl) : SqT X.K H l xs)
    simp only at hc hd
    subst hc hd
    refine wpAny_binaryOp_repeat_ref (T := "tuple") (U := "int") (by decide) ⟨_, ho, rfl⟩ (fun s' => typeIs_int s' 1 t) noFill_tuple_mul F.fills_int_mul F.slot_int_rmul repeat_tuple F.slot_int_index.lookup
      (call_meets F.slot_int_rmul (typeIs_int s 1 t) F.entry_int_rmul (F.args_int_rmul_2 _ _) (int_rmul_tuple 1 t l its.toArray n dd sl)
        ⟨ho, rfl, ⟨_, ho, rfl⟩, call_meets F.slot_tuple_mul ⟨_, ho, rfl⟩ F.entry_tuple_mul (F.args_tuple_mul_2 _ _) (mine_mul_one l its.toArray n dd sl t) ⟨ho, ?_⟩⟩)
    exact ⟨.ref l, H, I, rfl, q1 rfl⟩
theorem mine_mul_zero (l : Addr) (items : Array Value) (n : Nat) (dd : Option Addr) (sl : Array (Option Value)) (x : Int) (u : Tok) (c0 : (decide (x < -(2 ^ 63)) || decide (x ≥ 2 ^ 63)) = false) (c1 : (items.isEmpty || x == 1) = false) (c2 : (decide (x ≤ 0) || items.isEmpty) = true) :
    Meets (Builtin.«tuple.__mul__» ⟨[.ref l, .int x u], []⟩) (fun _ R s => s.heap.get? l = some { cls := .type "tuple", dict := dd, data := .seq items n, slots := sl } ∧
      R (.ok (.ret (Value.ref s.heap.objs.size))) { s with heap := s.heap.push { cls := Value.type "tuple", data := Data.seq #[] }, toks := s.toks }) :=
  .of_wp fun prog w A R s h => by
    obtain ⟨hp, g, d, tk, os⟩ := s
    obtain ⟨hl, h⟩ := h
    have f1 := AutoSeq1.idx_int
    wp_walk using wpAny_loadPart' hl
    repeat (first
      | (refine wpAny_ite_false (decide_eq_false (by rw [c0]; exact Bool.false_ne_true)) ?_; wp_walk using wpAny_loadPart' hl)
      | (refine wpAny_ite_false (decide_eq_false (by rw [c1]; exact Bool.false_ne_true)) ?_; wp_walk using wpAny_loadPart' hl)
      | (refine wpAny_ite_true (decide_eq_true c2) ?_; wp_walk using wpAny_loadPart' hl))
    exact ⟨_, rfl, h⟩
/-- t * k, k up to 0: a new tuple of nothing -/
def rRepZ : R2 := fun x y H Q => ∃ l k xs, x = .ref l ∧ y = .int k ∧ H l = some (.tup xs) ∧ xs ≠ [] ∧ k ≤ 0 ∧ -(2 ^ 62) ≤ k ∧ ∀ p, H p = none → Q (.ref p) (upd H p (.tup []))
theorem op_repZ {X : Cx} : OpR X (binaryOp .Mult) rRepZ := by
  intro pins s σ H x y v u Q I rx ry h
  obtain ⟨l, k, xs, rfl, rfl, hl, hne, h1, h2, q⟩ := h
  cases rx
  obtain ⟨t, rfl⟩ := ry
  obtain ⟨its, r, ⟨⟨cls, dd, data, sl⟩, ho, hc, n, hd⟩, hs⟩ := I.tuple (.inl (.inl hl) : SqT X.K H l xs)
  simp only at hc hd
  subst hc hd
  have hn : its.toArray.isEmpty = false := by
    cases its with
    | nil => cases r; exact absurd rfl hne
    | cons a b => rfl
  have c0 : (decide (k < -(2 ^ 63)) || decide (k ≥ 2 ^ 63)) = false := by
    rw [decide_eq_false (by omega), decide_eq_false (by omega)]; rfl
  have c1 : (its.toArray.isEmpty || k == 1) = false := by
    rw [hn, show (k == 1) = false from beq_eq_false_iff_ne.mpr (by omega)]; rfl
  have c2 : (decide (k ≤ 0) || its.toArray.isEmpty) = true := by rw [decide_eq_true h1]; rfl
  refine wpAny_binaryOp_repeat_ref (T := "tuple") (U := "int") (by decide) ⟨_, ho, rfl⟩ (fun s' => typeIs_int s' k t) noFill_tuple_mul F.fills_int_mul F.slot_int_rmul repeat_tuple F.slot_int_index.lookup
    (call_meets F.slot_int_rmul (typeIs_int s k t) F.entry_int_rmul (F.args_int_rmul_2 _ _) (int_rmul_tuple k t l its.toArray n dd sl)
      ⟨ho, rfl, ⟨_, ho, rfl⟩, call_meets F.slot_tuple_mul ⟨_, ho, rfl⟩ F.entry_tuple_mul (F.args_tuple_mul_2 _ _) (mine_mul_zero l its.toArray n dd sl k t c0 c1 c2) ⟨ho, ?_⟩⟩)
  refine ⟨.ref _, _, I.laid (t' := s.toks) (o := .tup []) (fun b ob q => Heap.get?_push_of_some _ q) (Nat.le_refl _) ?_, rfl, q _ (I.hok.fresh (Nat.le_refl _))⟩
  exact ⟨Nat.zero_le _, _, .nil, IsTup.new _ _⟩
def rMulU : R2 := fun x y H Q => rI CMul (fun i j => .int (i * j)) x y H Q ∨ (rRep x y H Q ∨ (rRepB x y H Q ∨ rRepZ x y H Q))
theorem op_mulU {X : Cx} : OpR X (binaryOp .Mult) rMulU := op_mul.or (op_rep.or (op_repB.or op_repZ))
def dMul : D2 := fun a b Q => match a, b with
  | .int i, .int j => CMul i j ∧ Q (.int (i * j))
  | .lst xs, .int k => (-(2 ^ 63) ≤ k ∧ k < 2 ^ 63 ∧ xs.length * k.toNat ≤ LINE) ∧ Q (.lst (List.replicate k.toNat xs).flatten)
  | .tup xs, .int k => (xs ≠ [] ∧ -(2 ^ 62) ≤ k ∧ k ≤ 1000 ∧ xs.length ≤ 1000) ∧ Q (.tup (List.replicate k.toNat xs).flatten)
  | _, _ => False
def dMulL : D2 := fun a b Q => match a, b with
  | .lst xs, .int k => (-(2 ^ 63) ≤ k ∧ k < 2 ^ 63 ∧ xs.length * k.toNat ≤ LINE) ∧ Q (.lst (List.replicate k.toNat xs).flatten)
  | _, _ => False
section
variable {C : Bc}
theorem od_mulL : OpG Fsh C rMulU dMulL := by
  intro X env σ H H1 x y a b Q Qd rp r1 r2 he q
  unfold dMulL at he
  split at he
  · obtain ⟨p, vs, rfl, h1, a1⟩ := r1.lst
    obtain ⟨⟨c1, c2, c3⟩, he⟩ := he
    refine .inr (.inl ⟨p, _, vs, rfl, r2.int, h1, c1, c2, by rw [a1.length, sizeLine_eq]; exact c3, fun pn hp => ?_⟩)
    exact q _ _ _ (.upd hp) (fsh_new rp hp (a1.replicate _)) he
  · exact he.elim
theorem od_mul : OpD C rMulU dMul := by
  intro X env σ H H1 x y a b Q Qd rp r1 r2 he q
  unfold dMul at he
  split at he
  · exact .inl ⟨_, _, r1.int, r2.int, he.1, q _ _ H (.refl H) (.int _) he.2⟩
  · exact od_mulL X env σ H H1 x y _ _ Q Qd rp r1 r2 he fun d v H' f h => q d v H' f (h.cln rp)
  · obtain ⟨p, vs, rfl, h1, a1⟩ := r1.tup
    rename_i xs0 k0
    obtain ⟨⟨c1, c2, c3, c4⟩, he⟩ := he
    have al := a1.replicate (K := C.K)
    by_cases kz : k0 ≤ 0
    · refine .inr (.inr (.inr ⟨p, _, vs, rfl, r2.int, h1, fun e => c1 ?_, kz, c2, fun pn hp => ?_⟩))
      · subst e; cases a1; rfl
      · rw [show k0.toNat = 0 from Int.toNat_eq_zero.mpr kz] at he
        exact q _ _ _ (.upd hp) (cln_new rp hp .nil) he
    refine .inr (.inr (.inl ⟨p, _, vs, rfl, r2.int, h1, fun e => c1 ?_, by omega, c3, by rw [a1.length]; exact c4, fun e => ?_, fun pn hp => ?_⟩))
    · subst e; cases a1; rfl
    · subst e
      refine q _ _ H (.refl H) ?_ he
      rcases r1 with r1 | ⟨_, _, _, _, e2, _⟩
      · have e : ∀ zs : List Dt, (List.replicate (1 : Int).toNat zs).flatten = zs := fun zs => by simp
        rw [e]; exact r1
      · cases e2
    · exact q _ _ _ (.upd hp) (cln_new rp hp (al _)) he
  · exact he.elim
end
end Mine

namespace HT
open PySem PySem.Spec PyProof.Rows L2
section
variable {prog : Program} {w : World} {A : Around} {E : Value → Shared → Prop} {s : Shared}
theorem mine_adjust_rev (n : Nat) : Builtin.Slice.sliceAdjust none none (-1) (n : Int) = ((n : Int) - 1, -1) := by
  unfold Builtin.Slice.sliceAdjust
  have h1 : ((-1 : Int) < 0) := by omega
  simp [h1]
theorem mine_places_rev (n : Nat) : Builtin.Slice.slicePlaces ((n : Int) - 1) (-1) (-1) = n := by
  unfold Builtin.Slice.slicePlaces
  have h1 : ¬ ((-1 : Int) > 0) := by omega
  simp only [h1, if_false]
  split
  all_goals first | omega | (simp <;> omega)
theorem mine_applied_rev {sl : Addr} {t : Tok} {n : Nat} {Q : Int × Int × Nat → Shared → Prop} {vs : Value} (hs : s.heap.IsSliceOf sl .none .none vs) (ps : IsPart vs (some (-1)))
    (h : Q ((n : Int) - 1, -1, n) s) : wpAny (model prog w) A (Builtin.Slice.sliceApplied (.ref sl) (pure (n : Int))) Q E s := by
  obtain ⟨os, hos, hcs, hds⟩ := id hs
  unfold Builtin.Slice.sliceApplied Builtin.Slice.sliceFields
  refine wpAny_bind (wpAny_bind (wpAny_field hos hds (x := .none) rfl (wpAny_bind (wpAny_field hos hds (x := .none) rfl (wpAny_bind (wpAny_field hos hds (x := vs) rfl (wpAny_pure ?_)))))))
  refine wpAny_bind (slicePart_ ps ?_)
  show wpAny _ _ (if ((-1 : Int) == 0) = true then _ else _) _ _ s
  rw [if_neg (by decide)]
  refine wpAny_bind (slicePart_ .none (wpAny_bind (slicePart_ .none (wpAny_bind (wpAny_pure ?_)))))
  show wpAny _ _ (match Builtin.Slice.sliceAdjust none none (-1) (n : Int) with | (lo, hi) => pure (lo, (-1 : Int), Builtin.Slice.slicePlaces lo hi (-1))) _ _ s
  rw [mine_adjust_rev n]
  show wpAny _ _ (pure ((n : Int) - 1, (-1 : Int), Builtin.Slice.slicePlaces ((n : Int) - 1) (-1) (-1))) _ _ s
  rw [mine_places_rev]
  exact wpAny_pure h
theorem fm_congr {α β : Type} {f g : α → Option β} : ∀ {l : List α}, (∀ x ∈ l, f x = g x) → l.filterMap f = l.filterMap g
  | [], _ => rfl
  | a :: l, h => by
    rw [List.filterMap_cons, List.filterMap_cons, h a List.mem_cons_self, fm_congr fun x hx => h x (List.mem_cons_of_mem _ hx)]
theorem mine_pick_rev (xs : Array Value) : ((List.range xs.size).filterMap fun (m : Nat) => xs[((xs.size : Int) - 1 + (m : Int) * (-1)).toNat]?).toArray = xs.toList.reverse.toArray := by
  congr 1
  have h2 := PySem.W.krv_all xs
  have h3 : ((List.range xs.size).map fun k => xs.size - 1 - k).filterMap (xs[·]?) = xs.toList.reverse := by
    rw [PySem.W.krv_range, List.filterMap_reverse, h2]
  rw [← h3, List.filterMap_map]
  refine fm_congr fun m hm => ?_
  have := List.mem_range.mp hm
  show xs[((xs.size : Int) - 1 + (m : Int) * (-1)).toNat]? = xs[xs.size - 1 - m]?
  congr 1; omega
theorem mine_getItem_tuple_rev {t sl : Addr} {items : Array Value} {vs : Value} {Q : Value → Shared → Prop} (ht : IsTup s.heap t items) (hs : s.heap.IsSliceOf sl .none .none vs) (ps : IsPart vs (some (-1)))
    (h : Q (.ref s.heap.objs.size) { s with heap := s.heap.push { cls := .type "tuple", data := .seq items.toList.reverse.toArray } })
    (hsz : items.size ≤ sizeLine) : wpAny (model prog w) A (getItem (.ref t) (.ref sl)) Q E s := by
  have htake : sizeOk (.seq items.toList.reverse.toArray) := by
    show items.toList.reverse.toArray.size ≤ sizeLine
    rw [List.size_toArray, List.length_reverse, Array.length_toList]
    omega
  obtain ⟨os, hos, hcs, hds⟩ := id hs
  have hTs : s.TypeIs (.ref sl) "slice" := ⟨os, hos, hcs⟩
  unfold getItem
  try with_reducible refine wpAny_holding ?_
  first | refine wpAny_bind (wpAny_pure ?_) | skip
  refine wpAny_bind (wpAny_sequenceKey ht.typeIs (by decide) ?_)
  refine wpAny_bind (wpAny_callSpecial?_slot (name := Str.ofString "__getitem__") ht.typeIs PyProof.Rows.slot_tuple_getitem
    (wpAny_call_entry PyProof.Rows.slot_tuple_getitem ht.typeIs entry_tuple_getitem ?_ (args_tuple_getitem _ _)))
  show wpAny _ _ (Builtin.Tuple.tupleItemsOf (.ref t) >>= _) _ _ s
  refine wpAny_bind (tupleItemsOf_ ht ?_)
  refine wpAny_bind (wpAny_typeOf hTs ?_)
  rw [if_pos (by decide)]
  refine wpAny_bind (mine_applied_rev (t := 0) hs ps ?_)
  have hno : ¬ ((((items.size : Int) - 1) == 0 && (-1 : Int) == 1 && items.size == items.size) = true) := by
    intro q
    rw [Bool.and_eq_true, Bool.and_eq_true] at q
    exact absurd q.1.2 (by decide)
  show wpAny _ _ (if (((items.size : Int) - 1) == 0 && (-1 : Int) == 1 && items.size == items.size) = true then _ else _) _ _ s
  rw [if_neg hno, mine_pick_rev]
  first
    | exact wpAny_bind (m := Builtin.Tuple.tupleExact _) (wpAny_newObj_type (wpAny_pure ⟨_, rfl, wpAny_pure h⟩) htake)
    | exact wpAny_bind (m := Builtin.Tuple.tupleExact _) (wpAny_newObj_type (wpAny_bind (wpAny_pure (wpAny_pure ⟨_, rfl, wpAny_pure h⟩))) htake)
    | exact wpAny_bind (wpAny_bind (m := Builtin.Tuple.tupleExact _) (wpAny_newObj_type (wpAny_pure (wpAny_pure ⟨_, rfl, wpAny_pure h⟩)) htake))
    | exact wpAny_bind (wpAny_bind (m := Builtin.Tuple.tupleExact _) (wpAny_newObj_type (wpAny_pure ⟨_, rfl, wpAny_pure h⟩) htake))
end
end HT
namespace Mine
open PySem PySem.Spec PyProof.Rows L2
section
variable {X : Cx}
/-- x[::-1] of a list or a tuple -/
def tRevU (te : TE) : TE := fun σ H Q => te σ H fun x H1 => ∃ a xs, x = .ref a ∧ ((H1 a = some (.lst xs) ∧ ∀ p, H1 p = none → Q (.ref p) (upd H1 p (.lst xs.reverse))) ∨ (H1 a = some (.tup xs) ∧ ∀ p, H1 p = none → Q (.ref p) (upd H1 p (.tup xs.reverse))))
theorem pe_revU {e : Expr} {te : TE} {k : Nat} {p1 p2 p3 pos : Pos} (he : PE X e te) : PE X (.Subscript e (.Slice none none (some (.UnaryOp .USub (.Constant (.int 1) k p1) p2)) p3) pos) (tRevU te) := by
  refine ⟨fun pins s σ H Q I h => ?_⟩
  refine Subscript_ (thn (he.run pins s σ H _ I h) fun v s1 ⟨x, H1, I1, r1, q1⟩ => ?_)
  obtain ⟨a, xs, ex, q1⟩ := q1
  subst ex
  cases r1
  have hst : PO X (some (.UnaryOp .USub (.Constant (.int 1) k p1) p2)) (tPart (tUn (rU fun i => .int (-i)) (tC (.int 1)))) := po_some (pe_un un_neg pe_int)
  refine wpAny_Slice (thn (po_none.run pins s1 σ H1 (fun o H2 => o = none ∧ H2 = H1) I1 ⟨rfl, rfl⟩) fun vl s2 ⟨l, H2, I2, pl, el, e2⟩ => ?_)
  subst el e2
  refine thn (po_none.run pins s2 σ H2 (fun o H3 => o = none ∧ H3 = H2) I2 ⟨rfl, rfl⟩) fun vu s3 ⟨u, H3, I3, pu, eu, e3⟩ => ?_
  subst eu e3
  refine thn (hst.run pins s3 σ H3 (fun o H4 => o = some (-1) ∧ H4 = H3) I3 ⟨1, rfl, -1, rfl, rfl, rfl⟩) fun vs s4 ⟨o, H4, I4, ps, eo, e4⟩ => ?_
  subst eo e4
  have I5 : Inv X pins σ H4 { s4 with heap := s4.heap.push { cls := .type "slice", data := .fields #[vl, vu, vs] } } := I4.kept (t' := s4.toks) fun b ob q => Heap.get?_push_of_some _ q
  show wpAny (model X.prog X.w) X.A (subscriptTail e (.Slice none none (some (.UnaryOp .USub (.Constant (.int 1) k p1) p2)) p3) (.ref a) (.ref s4.heap.objs.size)) (EP X pins σ Q) X.xe { s4 with heap := s4.heap.push { cls := .type "slice", data := .fields #[vl, vu, vs] } }
  rcases q1 with ⟨hx, q⟩ | ⟨hx, q⟩
  · obtain ⟨its, r, ht, hz⟩ := I5.list (.inl (.inl hx))
    have hlen := r.length
    refine tail_any (ops := [.ref a, .ref s4.heap.objs.size]) ht.isList.typeIs (PySem.slot_list_getitem.lookup) ?_ (by with_unfolding_all rfl)
    refine wpAny_getItem_list_slice ht.isList (Heap.IsSliceOf.new _ vl vu vs) pl pu ps (by decide) ?_ (by rw [List.size_toArray]; omega)
    rw [PySem.W.krv_pick]
    refine ⟨.ref _, _, I5.laid (t' := s4.toks) (o := .lst xs.reverse) (fun b ob q => Heap.get?_push_of_some _ q) (Nat.le_refl _) ?_, rfl, q _ (I5.hok.fresh (Nat.le_refl _))⟩
    exact ⟨by rw [List.length_reverse]; exact hz, _, 0, r.reverse, Heap.get?_push_size _ rfl⟩
  · obtain ⟨its, r, ht, hz⟩ := I5.tuple (.inl (.inl hx))
    have hlen := r.length
    refine tail_any (ops := [.ref a, .ref s4.heap.objs.size]) ht.typeIs (PyProof.Rows.slot_tuple_getitem.lookup) ?_ (by with_unfolding_all rfl)
    cases pl
    cases pu
    refine HT.mine_getItem_tuple_rev ht (Heap.IsSliceOf.new _ .none .none vs) ps ?_ (by rw [List.size_toArray]; omega)
    refine ⟨.ref _, _, I5.laid (t' := s4.toks) (o := .tup xs.reverse) (fun b ob q => Heap.get?_push_of_some _ q) (Nat.le_refl _) ?_, rfl, q _ (I5.hok.fresh (Nat.le_refl _))⟩
    exact ⟨by rw [List.length_reverse]; exact hz, _, r.reverse, IsTup.new _ _⟩
end
end Mine

namespace Mine
open PySem PySem.Spec PyProof.Rows L2
/-! ### data as the library's data -/
mutual
def Dt.py : Dt → Option PyData
  | .non => some .none
  | .bl b => some (.bool b)
  | .int i => some (.int i)
  | .str x => some (.str x)
  | .tup xs => (Dt.pys xs).map .tuple
  | .lst xs => (Dt.pys xs).map .list
  | _ => none
def Dt.pys : List Dt → Option (List PyData)
  | [] => some []
  | x :: xs => match Dt.py x, Dt.pys xs with
    | some p, some ps => some (p :: ps)
    | _, _ => none
end
section
variable {K : PySem.W.Frag} {H : Hp}
mutual
theorem Den.dp : ∀ {v : V} {d : Dt} {p : PyData}, Den K H v d → d.py = some p → Dp K H v p
  | _, _, _, .non, e => by rw [Dt.py] at e; injection e with e; subst e; exact .non
  | _, _, _, .bl b, e => by rw [Dt.py] at e; injection e with e; subst e; exact .bl b
  | _, _, _, .int i, e => by rw [Dt.py] at e; injection e with e; subst e; exact .int i
  | _, _, _, .str x, e => by rw [Dt.py] at e; injection e with e; subst e; exact .str x
  | _, _, _, .tup h a, e => by
    rw [Dt.py, Option.map_eq_some_iff] at e
    obtain ⟨ps, e1, rfl⟩ := e
    exact .tup (.inl (.inl h)) (DenAll.dp a e1)
  | _, _, _, .lst h a, e => by
    rw [Dt.py, Option.map_eq_some_iff] at e
    obtain ⟨ps, e1, rfl⟩ := e
    exact .lst (.inl (.inl h)) (DenAll.dp a e1)
  | _, _, _, .dk _ _ _, e => by rw [Dt.py] at e <;> cases e
  | _, _, _, .ins _ _ _, e => by rw [Dt.py] at e <;> cases e
  | _, _, _, .raw v, e => by rw [Dt.py] at e <;> cases e
theorem DenAll.dp : ∀ {vs : List V} {ds : List Dt} {ps : List PyData}, DenAll K H vs ds → Dt.pys ds = some ps → DpAll K H vs ps
  | _, _, _, .nil, e => by rw [Dt.pys] at e; injection e with e; subst e; exact .nil
  | _, _, _, @DenAll.cons _ _ _ _ d ds a b, e => by
    rw [Dt.pys] at e
    cases h1 : Dt.py d with
    | none => rw [h1] at e; cases e
    | some p =>
      cases h2 : Dt.pys ds with
      | none => rw [h1, h2] at e; cases e
      | some ps =>
        rw [h1, h2] at e
        injection e with e
        subst e
        exact .cons (Den.dp a h1) (DenAll.dp b h2)
end
end
/-- equal, as Python has it; of a shape that may be asked -/
def Dt.eqv (a b : Dt) : Bool := match a.py, b.py with
  | some p, some q => PyData.eqv p q
  | _, _ => false
def Dt.sh (a : Dt) : Prop := ∃ p, a.py = some p ∧ SeqAt.shaped p = true
theorem Dt.eqv_of {a b : Dt} {p q : PyData} (h : a.py = some p) (h' : b.py = some q) : a.eqv b = PyData.eqv p q := by
  unfold Dt.eqv
  rw [h, h']
theorem Bor.dp {C : Bc} {X : Addr → Prop} {H H1 : Hp} {v : V} {d : Dt} {p : PyData} (h : Bor C X H1 H v d) (e : d.py = some p) : Dp C.K H v p := by
  rcases h with h | ⟨a, vs, ds, rfl, rfl, n, h1, h2⟩
  · exact (h.mono vis_sub).dp e
  · rw [Dt.py, Option.map_eq_some_iff] at e
    obtain ⟨ps, e1, rfl⟩ := e
    exact .lst (.inl (.inl h1)) ((h2.mono vis_sub).dp e1)
def dEq : D2 := fun a b Q => a.sh ∧ b.sh ∧ Q (.bl (a.eqv b))
def dNe : D2 := fun a b Q => a.sh ∧ b.sh ∧ Q (.bl (!a.eqv b))
section
variable {C : Bc}
theorem od_eq : OpD C (rEqD C.K) dEq := by
  intro X env σ H H1 x y a b Q Qd rp r1 r2 ⟨⟨p, e1, s1⟩, ⟨q, e2, s2⟩, he⟩ qq
  rw [Dt.eqv_of e1 e2] at he
  exact ⟨p, q, r1.dp e1, r2.dp e2, s1, s2, qq _ _ H (.refl H) (.bl _) he⟩
theorem od_ne : OpD C (rNeD C.K) dNe := by
  intro X env σ H H1 x y a b Q Qd rp r1 r2 ⟨⟨p, e1, s1⟩, ⟨q, e2, s2⟩, he⟩ qq
  rw [Dt.eqv_of e1 e2] at he
  exact ⟨p, q, r1.dp e1, r2.dp e2, s1, s2, qq _ _ H (.refl H) (.bl _) he⟩
end
/-! is None -/
def Dt.isN : Dt → Bool
  | .non => true
  | .raw .non => true
  | _ => false
def dIsN : D2 := fun a b Q => match b with
  | .non => Q (.bl a.isN)
  | _ => False
def dNotN : D2 := fun a b Q => match b with
  | .non => Q (.bl (!a.isN))
  | _ => False
section
variable {C : Bc} {X : Addr → Prop} {H H1 : Hp} {v : V}
theorem Bor.isN {a : Dt} (h : Bor C X H1 H v a) : decide (v = .non) = a.isN := by
  rcases h with h | ⟨_, _, _, rfl, rfl, _⟩
  · cases h with
    | raw v => cases v <;> rfl
    | _ => rfl
  · rfl
theorem od_isN : OpD C (fun x y H Q => y = .non ∧ Q (.bl (decide (x = .non))) H) dIsN := by
  intro X env σ H H1 x y a b Q Qd rp r1 r2 he q
  unfold dIsN at he
  split at he
  · exact ⟨r2.non, q _ _ H (.refl H) (by rw [r1.isN]; exact .bl _) he⟩
  · exact he.elim
end
/-! in -/
section
variable {X : Cx}
end
section
variable {C : Bc}
end
/-! the operators of whole numbers -/
abbrev dSub : D2 := dI0 fun i j => .int (i - j)
abbrev dFdiv : D2 := dI CDiv fun i j => .int (i / j)
abbrev dMod : D2 := dI (fun _ j => 0 < j) fun i j => .int (i % j)
abbrev dPow : D2 := dI CPow fun i j => .int (i ^ j.toNat)
abbrev dShl : D2 := dI CPow fun i j => .int (i * 2 ^ j.toNat)
abbrev dShr : D2 := dI (fun _ j => 0 ≤ j) fun i j => .int (i / 2 ^ j.toNat)
abbrev dAnd : D2 := dI0 fun i j => .int (Builtin.bitAnd i j)
abbrev dOr : D2 := dI0 fun i j => .int (Builtin.bitOr i j)
abbrev dLe : D2 := dI0 fun i j => .bl (decide (i ≤ j))
abbrev dGt : D2 := dI0 fun i j => .bl (decide (j < i))
abbrev dGe : D2 := dI0 fun i j => .bl (decide (j ≤ i))
def rLtSt : R2 := fun x y H Q => ∃ i j, x = .str i ∧ y = .str j ∧ Q (.bl (decide (i.cps.toList < j.cps.toList))) H
def rLtU (K : PySem.W.Frag) : R2 := fun x y H Q => rI0 (fun i j => .bl (decide (i < j))) x y H Q ∨ (rLtT K x y H Q ∨ rLtSt x y H Q)
theorem op_ltU {X : Cx} {K : PySem.W.Frag} (e : X.K = K) (hu : X.A.units < cLine) : OpR X (compareOp .Lt) (rLtU K) := e ▸ op_lt.or ((op_ltT hu).or (OpR.weak op_lt_str fun _ _ _ _ h => h))
def dLt : D2 := fun a b Q => match a, b with
  | .int i, .int j => Q (.bl (decide (i < j)))
  | .tup xs, .tup ys => ∃ ns ms : List Int, xs = ns.map .int ∧ ys = ms.map .int ∧ Q (.bl (HT.lexLt ns ms))
  | .str x, .str y => Q (.bl (decide (x.cps.toList < y.cps.toList)))
  | _, _ => False
theorem DenAll.ints_of {K : PySem.W.Frag} {H : Hp} : ∀ {vs : List V} {ns : List Int}, DenAll K H vs (ns.map .int) → vs = ns.map V.int
  | _, [], .nil => rfl
  | _, n :: ns, .cons a b => by rw [List.map_cons, a.flat rfl, DenAll.ints_of b]
section
variable {C : Bc}
theorem od_sub : OpD C (rI0 fun i j => .int (i - j)) dSub := od_I0 fun _ _ => rfl
theorem od_fdiv : OpD C (rI CDiv fun i j => .int (i / j)) dFdiv := od_I fun _ _ => rfl
theorem od_mod : OpD C (rI (fun _ j => 0 < j) fun i j => .int (i % j)) dMod := od_I fun _ _ => rfl
theorem od_shl : OpD C (rI CPow fun i j => .int (i * 2 ^ j.toNat)) dShl := od_I fun _ _ => rfl
theorem od_and : OpD C (rI0 fun i j => .int (Builtin.bitAnd i j)) dAnd := od_I0 fun _ _ => rfl
theorem od_or : OpD C (rI0 fun i j => .int (Builtin.bitOr i j)) dOr := od_I0 fun _ _ => rfl
theorem od_le : OpD C (rI0 fun i j => .bl (decide (i ≤ j))) dLe := od_I0 fun _ _ => rfl
theorem od_gt : OpD C (rI0 fun i j => .bl (decide (j < i))) dGt := od_I0 fun _ _ => rfl
theorem od_ge : OpD C (rI0 fun i j => .bl (decide (j ≤ i))) dGe := od_I0 fun _ _ => rfl
theorem od_lt : OpD C (rLtU C.K) dLt := by
  intro X env σ H H1 x y a b Q Qd rp r1 r2 he q
  unfold dLt at he
  split at he
  · exact .inl ⟨_, _, r1.int, r2.int, q _ _ H (.refl H) (.bl _) he⟩
  · obtain ⟨ns, ms, rfl, rfl, he⟩ := he
    obtain ⟨p, vs, rfl, h1, a1⟩ := r1.tup
    obtain ⟨p2, vs2, rfl, h2, a2⟩ := r2.tup
    rw [a1.ints_of] at h1
    rw [a2.ints_of] at h2
    exact .inr (.inl ⟨p, p2, ns, ms, rfl, rfl, .inl (.inl h1), .inl (.inl h2), q _ _ H (.refl H) (.bl _) he⟩)
  · exact .inr (.inr ⟨_, _, r1.str, r2.str, q _ _ H (.refl H) (.bl _) he⟩)
  · exact he.elim
end
/-! ### one thing -/
def UnD (C : Bc) (r : V → Hp → VK → Prop) (f : D1) : Prop := ∀ X env σ H H1 x a (Q : VK) (Qd : Dt → Prop), Rep C X env σ H → Bor C X H1 H x a → f a Qd → (∀ d v H', Frm C.hd H H' → Cln C X H H' v d → Qd d → Q v H') → r x H Q
def eUn (f : D1) (a : DX) : DX := fun env Q E => a env (fun x => f x Q) E
def dNeg : D1 := fun a Q => match a with
  | .int i => Q (.int (-i))
  | _ => False
section
variable {C : Bc} {r : V → Hp → VK → Prop} {f : D1} {ta : TE} {a : DX}
theorem de_un (ho : UnD C r f) (ha : DB C ta a) : DE C (tUn r ta) (eUn f a) := by
  intro X env σ H Q Qd Qx rp he q x
  refine ha X env σ H _ _ Qx rp he (fun d v H1 f1 r1 he1 => ?_) x
  exact ho X env σ H1 H v d Q Qd (rp.step f1) r1 he1 fun d3 v3 H3 f3 r3 => q d3 v3 H3 (f1.trans f3) r3
theorem ud_neg : UnD C (rU fun i => .int (-i)) dNeg := by
  intro X env σ H H1 x a Q Qd rp r1 he q
  unfold dNeg at he
  split at he
  · exact ⟨_, r1.int, q _ _ H (.refl H) (.int _) he⟩
  · exact he.elim
end
/-! ### tests -/
def DT (C : Bc) (t : TT) (e : DTX) : Prop := ∀ X env σ H (Q : Bool → Hp → Prop) (Qd : Bool → Prop) (Qx : Xc → Prop), Rep C X env σ H → e env Qd Qx → (∀ b H', Frm C.hd H H' → Qd b → Q b H') → XOk C X σ H Qx → t σ H Q
def eTest (e : DX) : DTX := fun env Q E => e env (fun d => match d with
  | .bl b => Q b
  | _ => False) E
def eNotT (t : DTX) : DTX := fun env Q E => t env (fun b => Q (!b)) E
def eAndT (t u : DTX) : DTX := fun env Q E => t env (fun b => if b = true then u env Q E else Q false) E
def eOrT (t u : DTX) : DTX := fun env Q E => t env (fun b => if b = true then Q true else u env Q E) E
def dTru (d : Dt) (Q : Bool → Prop) : Prop := match d with
  | .non => Q false
  | .bl b => Q b
  | .int i => Q (i != 0)
  | .str y => y.length ≤ LINE ∧ Q ((y.length : Int) != 0)
  | .lst xs => Q (!xs.isEmpty)
  | .tup xs => Q (!xs.isEmpty)
  | .dk ks _ => Q (!ks.isEmpty)
  | _ => False
def eTru (e : DX) : DTX := fun env Q E => e env (fun d => dTru d Q) E
/-- a test by truth, the fragment by name -/
def tTru (K : PySem.W.Frag) (ta : TE) : TT := fun σ H Q => ta σ H fun x H' => ∃ k, TruV K x H' k ∧ Q k H'
theorem pt_tru {X : Cx} {K : PySem.W.Frag} {a : Expr} {ta : TE} (e : X.K = K) (ha : PE X a ta) (he : ∀ whole, isTrue a X.env whole = (do let v ← whole; standAt a.pos; holding [v] (truthy v))) : PT X a (tTru K ta) := e ▸ pt_truth ha he
section
variable {C : Bc} {t u : TT} {a b : DTX} {ta tb : TE} {ea eb : DX}
theorem dt_test (h : DE C ta ea) : DT C (tTest ta) (eTest ea) := by
  intro X env σ H Q Qd Qx rp he q x
  refine h X env σ H _ _ Qx rp he (fun d v H1 f1 r1 he1 => ?_) x
  split at he1
  · exact ⟨_, r1.flat rfl, q _ _ f1 he1⟩
  · exact he1.elim
theorem dt_not (h : DT C t a) : DT C (tNot t) (eNotT a) := fun X env σ H Q Qd Qx rp he q x => h X env σ H _ _ Qx rp he (fun b H1 f1 he1 => q _ _ f1 he1) x
theorem dt_or (h : DT C t a) (k : DT C u b) : DT C (tOr t u) (eOrT a b) := by
  intro X env σ H Q Qd Qx rp he q x
  refine h X env σ H _ _ Qx rp he (fun c H1 f1 he1 => ?_) x
  cases c with
  | false => rw [if_neg (by decide)] at he1 ⊢; exact k X env σ H1 Q Qd Qx (rp.step f1) he1 (fun b H2 f2 h2 => q b H2 (f1.trans f2) h2) (x.step f1)
  | true => rw [if_pos rfl] at he1 ⊢; exact q _ _ f1 he1
theorem Bor.tru {X : Addr → Prop} {env : List Sl} {σ : L2.St} {H H1 : Hp} {v : V} {d : Dt} {Qd : Bool → Prop} (rp : Rep C X env σ H) (h : Bor C X H1 H v d) (he : dTru d Qd) : ∃ k, TruV C.K v H k ∧ Qd k := by
  cases d with
  | non => rw [h.non]; exact ⟨_, rfl, he⟩
  | bl b => rw [h.bl]; exact ⟨_, rfl, he⟩
  | int i => rw [h.int]; exact ⟨_, rfl, he⟩
  | str y => rw [h.str]; exact ⟨_, ⟨by rw [sizeLine_eq]; exact he.1, rfl⟩, he.2⟩
  | lst xs =>
    obtain ⟨p, vs, rfl, h1, a1⟩ := h.lst
    refine ⟨_, .inl ⟨vs, .inl (.inl h1), rfl⟩, ?_⟩
    have : vs.isEmpty = xs.isEmpty := by cases a1 <;> rfl
    rw [this]; exact he
  | tup xs =>
    obtain ⟨p, vs, rfl, h1, a1⟩ := h.tup
    refine ⟨_, .inr (.inl ⟨vs, .inl (.inl h1), rfl⟩), ?_⟩
    have : vs.isEmpty = xs.isEmpty := by cases a1 <;> rfl
    rw [this]; exact he
  | dt _ _ => exact he.elim
  | dk ks ds =>
    obtain ⟨p, vs, rfl, h1, l, a1⟩ := h.dk
    refine ⟨_, .inr (.inr ⟨_, h1, rfl⟩), ?_⟩
    have : (ks.zip vs).isEmpty = ks.isEmpty := by
      cases ks with
      | nil => rfl
      | cons k ks =>
        cases vs with
        | nil => cases l
        | cons v vs => rfl
    rw [this]; exact he
  | ins _ _ _ => exact he.elim
  | raw _ => exact he.elim
theorem dt_tru (h : DB C ta ea) : DT C (tTru C.K ta) (eTru ea) := by
  intro X env σ H Q Qd Qx rp he q x
  refine h X env σ H _ _ Qx rp he (fun d v H1 f1 r1 he1 => ?_) x
  obtain ⟨k, h1, h2⟩ := r1.tru (rp.step f1) he1
  exact ⟨k, h1, q _ _ f1 h2⟩
/-! as values -/
def eBool (d : Dt) (Q : Bool → Prop) : Prop := match d with
  | .bl b => Q b
  | _ => False
def eAndV (a b : DX) : DX := fun env Q E => a env (fun d => eBool d fun c => if c = true then b env Q E else Q (.bl false)) E
def eOrV (a b : DX) : DX := fun env Q E => a env (fun d => eBool d fun c => if c = true then Q (.bl true) else b env Q E) E
def eNotV (a : DX) : DX := fun env Q E => a env (fun d => eBool d fun c => Q (.bl (!c))) E
def eIf (t : DTX) (a b : DX) : DX := fun env Q E => t env (fun c => if c = true then a env Q E else b env Q E) E
theorem eBool_of {d : Dt} {Q : Bool → Prop} (h : eBool d Q) : ∃ c, d = .bl c ∧ Q c := by
  cases d <;> first | exact ⟨_, rfl, h⟩ | exact h.elim
theorem de_andV (h : DE C ta ea) (k : DE C tb eb) : DE C (tAndV ta tb) (eAndV ea eb) := by
  intro X env σ H Q Qd Qx rp he q x
  refine h X env σ H _ _ Qx rp he (fun d v H1 f1 r1 he1 => ?_) x
  obtain ⟨c, rfl, he2⟩ := eBool_of he1
  refine ⟨c, r1.flat rfl, ?_⟩
  cases c with
  | true => rw [if_pos rfl] at he2 ⊢; exact k X env σ H1 Q Qd Qx (rp.step f1) he2 (fun d v H2 f2 h2 => q d v H2 (f1.trans f2) h2) (x.step f1)
  | false => rw [if_neg (by decide)] at he2 ⊢; exact q _ _ _ f1 (.bl _) he2
theorem de_orV (h : DE C ta ea) (k : DE C tb eb) : DE C (tOrV ta tb) (eOrV ea eb) := by
  intro X env σ H Q Qd Qx rp he q x
  refine h X env σ H _ _ Qx rp he (fun d v H1 f1 r1 he1 => ?_) x
  obtain ⟨c, rfl, he2⟩ := eBool_of he1
  refine ⟨c, r1.flat rfl, ?_⟩
  cases c with
  | false => rw [if_neg (by decide)] at he2 ⊢; exact k X env σ H1 Q Qd Qx (rp.step f1) he2 (fun d v H2 f2 h2 => q d v H2 (f1.trans f2) h2) (x.step f1)
  | true => rw [if_pos rfl] at he2 ⊢; exact q _ _ _ f1 (.bl _) he2
theorem dg_if {R : RR} [RRs R] (h : DT C t a) (k : DEg R C ta ea) (l : DEg R C tb eb) : DEg R C (tIf t ta tb) (eIf a ea eb) := by
  intro X env σ H Q Qd Qx rp he q x
  refine h X env σ H _ _ Qx rp he (fun c H1 f1 he1 => ?_) x
  cases c with
  | true => rw [if_pos rfl] at he1 ⊢; exact k X env σ H1 Q Qd Qx (rp.step f1) he1 (fun d v H2 f2 h2 => q d v H2 (f1.trans f2) (RRs.st rp f1 h2)) (x.step f1)
  | false => rw [if_neg (by decide)] at he1 ⊢; exact l X env σ H1 Q Qd Qx (rp.step f1) he1 (fun d v H2 f2 h2 => q d v H2 (f1.trans f2) (RRs.st rp f1 h2)) (x.step f1)
/-- a < b < c -/
def eChain (f g : D2) (a b c : DX) : DX := fun env Q E => a env (fun x => b env (fun y => f x y fun d => eBool d fun k => if k = true then c env (fun z => g y z Q) E else Q (.bl false)) E) E
end
end Mine

namespace Mine
open PySem PySem.Spec PyProof.Rows L2
/-! ### rows of expressions -/
inductive BorAll (C : Bc) (X : Addr → Prop) (H : Hp) : List V → List Dt → Prop
  | nil : BorAll C X H [] []
  | cons {v : V} {vs : List V} {d : Dt} {ds : List Dt} : Bor C X H H v d → BorAll C X H vs ds → BorAll C X H (v :: vs) (d :: ds)
inductive SlAll (K : PySem.W.Frag) (hd : Hnd) (X : Addr → Prop) (H : Hp) : List V → List Sl → Prop
  | nil : SlAll K hd X H [] []
  | d {v : V} {vs : List V} {x : Dt} {ss : List Sl} : Den K (vis H X) v x → SlAll K hd X H vs ss → SlAll K hd X H (v :: vs) (.d x :: ss)
  | hand {h c : Addr} {vs : List V} {ss : List Sl} : hd = some (h, c) → SlAll K hd X H vs ss → SlAll K hd X H (.ref h :: vs) (.hand :: ss)
theorem Bor.frm1 {C : Bc} {X : Addr → Prop} {env : List Sl} {σ : L2.St} {H H1 H2 H' : Hp} {v : V} {d : Dt} (r : Rep C X env σ H) (f : Frm C.hd H H') (h : Bor C X H1 H v d) : Bor C X H2 H' v d := h.frm r f
theorem SlAll.length {K : PySem.W.Frag} {hd : Hnd} {X : Addr → Prop} {H : Hp} : ∀ {vs : List V} {ss : List Sl}, SlAll K hd X H vs ss → vs.length = ss.length
  | _, _, .nil => rfl
  | _, _, .d _ r => by rw [List.length_cons, List.length_cons, r.length]
  | _, _, .hand _ r => by rw [List.length_cons, List.length_cons, r.length]
theorem SlAll.append {K : PySem.W.Frag} {hd : Hnd} {X : Addr → Prop} {H : Hp} : ∀ {vs us : List V} {ss ts : List Sl}, SlAll K hd X H vs ss → SlAll K hd X H us ts → SlAll K hd X H (vs ++ us) (ss ++ ts)
  | _, _, _, _, .nil, b => b
  | _, _, _, _, .d a r, b => .d a (r.append b)
  | _, _, _, _, .hand a r, b => .hand a (r.append b)
/-- args, by how they stand -/
def DAg {δ : Type} (A : Bc → (Addr → Prop) → Hp → List V → List δ → Prop) (C : Bc) (t : TA) (e : List Sl → (List δ → Prop) → (Xc → Prop) → Prop) : Prop :=
  ∀ X env σ H (Q : List V → Hp → Prop) (Qd : List δ → Prop) (Qx : Xc → Prop), Rep C X env σ H → e env Qd Qx → (∀ ds vs H', Frm C.hd H H' → A C X H' vs ds → Qd ds → Q vs H') → XOk C X σ H Qx → t σ H Q
def AC (C : Bc) (X : Addr → Prop) (H : Hp) (vs : List V) (ds : List Dt) : Prop := DenAll C.K (vis H X) vs ds
def AS (C : Bc) (X : Addr → Prop) (H : Hp) (vs : List V) (ss : List Sl) : Prop := SlAll C.K C.hd X H vs ss
abbrev DA := DAg AC
abbrev DAb := DAg BorAll
abbrev DAs := DAg AS
def eNil {δ : Type} : List Sl → (List δ → Prop) → (Xc → Prop) → Prop := fun _ Q _ => Q []
def eCons (a : DX) (r : DAX) : DAX := fun env Q E => a env (fun d => r env (fun ds => Q (d :: ds)) E) E
def eConsS (a : DX) (r : DSX) : DSX := fun env Q E => a env (fun d => r env (fun ds => Q (.d d :: ds)) E) E
def eConsH (i : Nat) (r : DSX) : DSX := fun env Q E => match env[i]? with
  | some .hand => r env (fun ds => Q (.hand :: ds)) E
  | _ => False
section
variable {C : Bc} {ta : TE} {tr : TA} {a : DX} {r : DAX} {rs : DSX}
theorem da_nil : DA C tNil eNil := fun X env σ H Q Qd Qx rp he q x => q [] [] H (.refl H) .nil he
theorem db_nil : DAb C tNil eNil := fun X env σ H Q Qd Qx rp he q x => q [] [] H (.refl H) .nil he
theorem ds_nil : DAs C tNil eNil := fun X env σ H Q Qd Qx rp he q x => q [] [] H (.refl H) .nil he
theorem da_cons (ha : DE C ta a) (hr : DA C tr r) : DA C (tCons ta tr) (eCons a r) := by
  intro X env σ H Q Qd Qx rp he q x
  refine ha X env σ H _ _ Qx rp he (fun d v H1 f1 r1 he1 => ?_) x
  have rp1 := rp.step f1
  exact hr X env σ H1 _ _ Qx rp1 he1 (fun ds vs H2 f2 r2 he2 => q _ _ H2 (f1.trans f2) (.cons (Den.mono (rp1.vs f2) r1) r2) he2) (x.step f1)
theorem db_cons (ha : DB C ta a) (hr : DAb C tr r) : DAb C (tCons ta tr) (eCons a r) := by
  intro X env σ H Q Qd Qx rp he q x
  refine ha X env σ H _ _ Qx rp he (fun d v H1 f1 r1 he1 => ?_) x
  have rp1 := rp.step f1
  exact hr X env σ H1 _ _ Qx rp1 he1 (fun ds vs H2 f2 r2 he2 => q _ _ H2 (f1.trans f2) (.cons (r1.frm1 rp1 f2) r2) he2) (x.step f1)
theorem ds_cons (ha : DE C ta a) (hr : DAs C tr rs) : DAs C (tCons ta tr) (eConsS a rs) := by
  intro X env σ H Q Qd Qx rp he q x
  refine ha X env σ H _ _ Qx rp he (fun d v H1 f1 r1 he1 => ?_) x
  have rp1 := rp.step f1
  exact hr X env σ H1 _ _ Qx rp1 he1 (fun ds vs H2 f2 r2 he2 => q _ _ H2 (f1.trans f2) (.d (Den.mono (rp1.vs f2) r1) r2) he2) (x.step f1)
theorem ds_hand {i : Nat} (hr : DAs C tr rs) : DAs C (tCons (tVar i) tr) (eConsH i rs) := by
  intro X env σ H Q Qd Qx rp he q x
  unfold eConsH at he
  split at he
  · rename_i e
    obtain ⟨o, e1, h, c, rfl, e2⟩ := rp.slot i _ e
    refine ⟨.ref h, e1, ?_⟩
    exact hr X env σ H _ _ Qx rp he (fun ds vs H2 f2 r2 he2 => q _ _ H2 f2 (.hand e2 r2) he2) x
  · exact he.elim
/-! ### displays -/
def eTup (r : DAX) : DX := fun env Q E => r env (fun ds => ds.length ≤ LINE ∧ Q (.tup ds)) E
def eLst (r : DAX) : DX := fun env Q E => r env (fun ds => ds.length ≤ LINE ∧ Q (.lst ds)) E
theorem de_tup (hr : DA C tr r) : DE C (tTup tr) (eTup r) := by
  intro X env σ H Q Qd Qx rp he q x
  refine hr X env σ H _ _ Qx rp he (fun ds vs H1 f1 r1 he1 => ?_) x
  have r1 : DenAll C.K (vis H1 X) vs ds := r1
  exact ⟨by rw [r1.length, sizeLine_eq]; exact he1.1, fun p hp => q _ _ _ (f1.trans (.upd hp)) (cln_new (H1 := H1) (rp.step f1) hp r1) he1.2⟩
theorem df_lst (hr : DA C tr r) : DF C (tLst tr) (eLst r) := by
  intro X env σ H Q Qd Qx rp he q x
  refine hr X env σ H _ _ Qx rp he (fun ds vs H1 f1 r1 he1 => ?_) x
  have r1 : DenAll C.K (vis H1 X) vs ds := r1
  exact ⟨by rw [r1.length, sizeLine_eq]; exact he1.1, fun p hp => q _ _ _ (f1.trans (.upd hp)) ((fsh_new (rp.step f1) hp r1).frm rp f1) he1.2⟩
end
/-! ### the empty dict -/
def eDk0 : DX := fun _ Q _ => Q (.dk [] [])
/-! ### x[i] -/
theorem IxR.k {X : Cx} {r : PySem.W.Frag → R2} (h : IxR X (r X.K)) {K : PySem.W.Frag} (e : X.K = K) : IxR X (r K) := e ▸ h
def dIx : D2 := fun a b Q => match a, b with
  | .lst xs, .int k => ∃ x, atI xs k = some x ∧ Q x
  | .tup xs, .int k => ∃ x, atI xs k = some x ∧ Q x
  | .str z, .int k => z.length ≤ LINE ∧ ∃ c, atI z.cps.toList k = some c ∧ Q (.str ⟨#[c]⟩)
  | _, _ => False
theorem DenAll.atI {K : PySem.W.Frag} {H : Hp} {vs : List V} {ds : List Dt} {k : Int} {x : Dt} (h : DenAll K H vs ds) (e : L2.atI ds k = some x) : ∃ v, L2.atI vs k = some v ∧ Den K H v x := by
  unfold L2.atI at e ⊢
  rw [h.length]
  cases q : ixN ds.length k with
  | none => rw [q] at e; cases e
  | some j =>
    rw [q] at e
    obtain ⟨v, h1, h2⟩ := h.get (show ds[j]? = some x from e)
    exact ⟨v, h1, h2⟩
section
variable {C : Bc}
theorem od_ix : OpD C (rIx C.K) dIx := by
  intro X env σ H H1 x y a b Q Qd rp r1 r2 he q
  unfold dIx at he
  split at he
  · obtain ⟨d, e, he⟩ := he
    obtain ⟨p, vs, rfl, h1, a1⟩ := r1.lst
    obtain ⟨v, e2, h2⟩ := a1.atI e
    exact .inl ⟨p, vs, _, v, rfl, r2.int, .inl (.inl h1), e2, q _ _ H (.refl H) h2 he⟩
  · obtain ⟨d, e, he⟩ := he
    obtain ⟨p, vs, rfl, h1, a1⟩ := r1.tup
    obtain ⟨v, e2, h2⟩ := a1.atI e
    exact .inr (.inl ⟨p, vs, _, v, rfl, r2.int, .inl (.inl h1), e2, q _ _ H (.refl H) h2 he⟩)
  · obtain ⟨hz, c, e, he⟩ := he
    exact .inr (.inr ⟨_, _, c, r1.str, r2.int, by rw [sizeLine_eq]; exact hz, e, q _ _ H (.refl H) (.str _) he⟩)
  · exact he.elim
end
/-! ### slices -/
def cutG {α : Type} (xs : List α) (lo hi : Option Int) : List α := (xs.drop (HT.sIx xs.length 0 lo)).take (HT.sIx xs.length xs.length hi - HT.sIx xs.length 0 lo)
theorem DenAll.cut {K : PySem.W.Frag} {H : Hp} {vs : List V} {ds : List Dt} (h : DenAll K H vs ds) (lo hi : Option Int) : DenAll K H (cutV vs lo hi) (cutG ds lo hi) := by
  unfold cutV cutG
  rw [h.length]
  exact (h.drop _).take _
theorem SlR.or {X : Cx} {r r' : V → Option Int → Option Int → Hp → VK → Prop} (h : SlR X r) (h' : SlR X r') : SlR X (fun x lo hi H Q => r x lo hi H Q ∨ r' x lo hi H Q) := by
  intro pins s σ H x v vl vu lo hi sl Q I rx hs pl pu q
  rcases q with q | q
  · exact h pins s σ H x v vl vu lo hi sl Q I rx hs pl pu q
  · exact h' pins s σ H x v vl vu lo hi sl Q I rx hs pl pu q
abbrev D3 := Dt → Option Int → Option Int → (Dt → Prop) → Prop
def rSlU (K : PySem.W.Frag) : V → Option Int → Option Int → Hp → VK → Prop := fun x lo hi H Q => rSlL K x lo hi H Q ∨ (rSlA K x lo hi H Q ∨ L2.rSlS x lo hi H Q)
theorem sl_U {X : Cx} {K : PySem.W.Frag} (e : X.K = K) : SlR X (rSlU K) := e ▸ sl_list.or (sl_tupA.or L2.sl_str)
def dSl : D3 := fun a lo hi Q => match a with
  | .lst xs => Q (.lst (cutG xs lo hi))
  | .tup xs => Q (.tup (cutG xs lo hi))
  | .str z => z.length ≤ LINE ∧ Q (.str (cutS z lo hi))
  | _ => False
def dSlL : D3 := fun a lo hi Q => match a with
  | .lst xs => Q (.lst (cutG xs lo hi))
  | _ => False
def DOX := List Sl → (Option Int → Prop) → (Xc → Prop) → Prop
def eNoPart : DOX := fun _ Q _ => Q none
def ePart (e : DX) : DOX := fun env Q E => e env (fun d => match d with
  | .int i => Q (some i)
  | _ => False) E
def DO (C : Bc) (t : TO) (e : DOX) : Prop := ∀ X env σ H (Q : Option Int → Hp → Prop) (Qd : Option Int → Prop) (Qx : Xc → Prop), Rep C X env σ H → e env Qd Qx → (∀ o H', Frm C.hd H H' → Qd o → Q o H') → XOk C X σ H Qx → t σ H Q
def eSl (f : D3) (a : DX) (lo hi : DOX) : DX := fun env Q E => a env (fun d => lo env (fun l => hi env (fun u => f d l u Q) E) E) E
def SlG (R : RR) (C : Bc) (r : V → Option Int → Option Int → Hp → VK → Prop) (f : D3) : Prop := ∀ X env σ H H1 x a lo hi (Q : VK) (Qd : Dt → Prop), Rep C X env σ H → Bor C X H1 H x a → f a lo hi Qd → (∀ d v H', Frm C.hd H H' → R C X H H' v d → Qd d → Q v H') → r x lo hi H Q
section
variable {C : Bc} {te tl : TE} {ea el : DX} {lo hi : DOX} {t1 t2 : TO} {r : V → Option Int → Option Int → Hp → VK → Prop} {f : D3}
theorem do_none : DO C tNoPart eNoPart := fun X env σ H Q Qd Qx rp he q x => q _ H (.refl H) he
theorem do_some (h : DE C te ea) : DO C (tPart te) (ePart ea) := by
  intro X env σ H Q Qd Qx rp he q x
  refine h X env σ H _ _ Qx rp he (fun d v H1 f1 r1 he1 => ?_) x
  split at he1
  · exact ⟨_, r1.flat rfl, q _ _ f1 he1⟩
  · exact he1.elim
theorem dg_sl {R : RR} [RRs R] (hr : SlG R C r f) (he : DB C te ea) (h1 : DO C t1 lo) (h2 : DO C t2 hi) : DEg R C (tSl r te t1 t2) (eSl f ea lo hi) := by
  intro X env σ H Q Qd Qx rp he' q x
  refine he X env σ H _ _ Qx rp he' (fun d v H1 f1 r1 he1 => ?_) x
  have rp1 := rp.step f1
  refine h1 X env σ H1 _ _ Qx rp1 he1 (fun l H2 f2 he2 => ?_) (x.step f1)
  have rp2 := rp1.step f2
  refine h2 X env σ H2 _ _ Qx rp2 he2 (fun u H3 f3 he3 => ?_) ((x.step f1).step f2)
  have rp3 := rp2.step f3
  exact hr X env σ H3 H v d l u Q Qd rp3 ((r1.frm rp1 f2).frm rp2 f3) he3 fun d v H4 f4 r4 => q d v H4 (f1.trans (f2.trans (f3.trans f4))) (RRs.st rp (f1.trans (f2.trans f3)) r4)
theorem sg_L : SlG Fsh C (rSlU C.K) dSlL := by
  intro X env σ H H1 x a lo hi Q Qd rp r1 he q
  unfold dSlL at he
  split at he
  · obtain ⟨p, vs, rfl, h1, a1⟩ := r1.lst
    exact .inl ⟨p, vs, rfl, .inl (.inl h1), fun pn hp => q _ _ _ (.upd hp) (fsh_new rp hp (a1.cut lo hi)) he⟩
  · exact he.elim
theorem sg_U : SlG Cln C (rSlU C.K) dSl := by
  intro X env σ H H1 x a lo hi Q Qd rp r1 he q
  unfold dSl at he
  split at he
  · exact sg_L X env σ H H1 x _ lo hi Q Qd rp r1 he fun d v H' f h => q d v H' f (h.cln rp)
  · obtain ⟨p, vs, rfl, h1, a1⟩ := r1.tup
    refine .inr (.inl ⟨p, vs, rfl, .inl (.inl h1), fun ⟨c1, c2⟩ => ?_, fun _ pn hp => q _ _ _ (.upd hp) (cln_new rp hp (a1.cut lo hi)) he⟩)
    refine q _ _ H (.refl H) ?_ he
    have e := a1.cut lo hi
    rw [cut_all c1 c2] at e
    rcases r1 with r1 | ⟨_, _, _, _, e2, _⟩
    · cases r1 with
      | @tup _ xs' _ g g2 =>
        have e' : xs' = vs := by simpa using (vis_sub _ _ g).symm.trans h1
        subst e'
        exact .tup g e
    · cases e2
  · obtain ⟨hz, he⟩ := he
    exact .inr (.inr ⟨_, r1.str, by rw [sizeLine_eq]; exact hz, q _ _ H (.refl H) (.str _) he⟩)
  · exact he.elim
/-! x[::-1] -/
def eRev (a : DX) : DX := fun env Q E => a env (fun d => match d with
  | .lst xs => Q (.lst xs.reverse)
  | .tup xs => Q (.tup xs.reverse)
  | _ => False) E
def eRevL (a : DX) : DX := fun env Q E => a env (fun d => match d with
  | .lst xs => Q (.lst xs.reverse)
  | _ => False) E
theorem de_rev (he : DB C te ea) : DE C (tRevU te) (eRev ea) := by
  intro X env σ H Q Qd Qx rp he' q x
  refine he X env σ H _ _ Qx rp he' (fun d v H1 f1 r1 he1 => ?_) x
  split at he1
  · obtain ⟨p, vs, rfl, h1, a1⟩ := r1.lst
    exact ⟨p, vs, rfl, .inl ⟨h1, fun pn hp => q _ _ _ (f1.trans (.upd hp)) (Fsh.cln (H1 := H1) (rp.step f1) (fsh_new (rp.step f1) hp a1.reverse)) he1⟩⟩
  · obtain ⟨p, vs, rfl, h1, a1⟩ := r1.tup
    exact ⟨p, vs, rfl, .inr ⟨h1, fun pn hp => q _ _ _ (f1.trans (.upd hp)) (cln_new (H1 := H) (rp.step f1) hp a1.reverse) he1⟩⟩
  · exact he1.elim
end
/-! ### built-ins -/
abbrev DL := List Dt → (Dt → Prop) → Prop
def CallG (R : RR) (C : Bc) (r : List V → Hp → VK → Prop) (f : DL) : Prop := ∀ X env σ H vs ds (Q : VK) (Qd : Dt → Prop), Rep C X env σ H → BorAll C X H vs ds → f ds Qd → (∀ d v H', Frm C.hd H H' → R C X H H' v d → Qd d → Q v H') → r vs H Q
def eCB (f : DL) (a : DAX) : DX := fun env Q E => a env (fun ds => f ds Q) E
theorem dg_cb {R : RR} [RRs R] {C : Bc} {r : List V → Hp → VK → Prop} {f : DL} {t : TA} {a : DAX} (hr : CallG R C r f) (ha : DAb C t a) : DEg R C (tCB r t) (eCB f a) := by
  intro X env σ H Q Qd Qx rp he q x
  refine ha X env σ H _ _ Qx rp he (fun ds vs H1 f1 r1 he1 => ?_) x
  exact hr X env σ H1 vs ds Q Qd (rp.step f1) r1 he1 fun d v H2 f2 h => q d v H2 (f1.trans f2) (RRs.st rp f1 h)
theorem CallR.or {X : Cx} {f : Value} {r r' : List V → Hp → VK → Prop} (h : CallR X f r) (h' : CallR X f r') : CallR X f (fun xs H Q => r xs H Q ∨ r' xs H Q) := fun pins s σ H xs us Q I rx q =>
  q.elim (h pins s σ H xs us Q I rx) (h' pins s σ H xs us Q I rx)
theorem BorAll.one {C : Bc} {X : Addr → Prop} {H : Hp} {vs : List V} {a : Dt} (h : BorAll C X H vs [a]) : ∃ v, vs = [v] ∧ Bor C X H H v a := by
  cases h with
  | cons a r => cases r; exact ⟨_, rfl, a⟩
theorem BorAll.two {C : Bc} {X : Addr → Prop} {H : Hp} {vs : List V} {a b : Dt} (h : BorAll C X H vs [a, b]) : ∃ v u, vs = [v, u] ∧ Bor C X H H v a ∧ Bor C X H H u b := by
  cases h with
  | cons a r =>
    obtain ⟨u, rfl, b⟩ := r.one
    exact ⟨_, _, rfl, a, b⟩
/-! len -/
def rLenD : List V → Hp → VK → Prop := fun xs H Q => ∃ a kvs, xs = [V.ref a] ∧ H a = some (.dK kvs) ∧ Q (.int kvs.length) H
def rLenSeq (K : PySem.W.Frag) : List V → Hp → VK → Prop := fun xs H Q => ∃ p ys, xs = [.ref p] ∧ (SqL K H p ys ∨ SqT K H p ys) ∧ Q (.int ys.length) H
def rLenStr : List V → Hp → VK → Prop := fun xs H Q => ∃ z, xs = [.str z] ∧ z.length ≤ sizeLine ∧ Q (.int z.length) H
def rLenU (K : PySem.W.Frag) : List V → Hp → VK → Prop := fun xs H Q => rLenSeq K xs H Q ∨ (rLenStr xs H Q ∨ rLenD xs H Q)
theorem call_lenU {X : Cx} {K : PySem.W.Frag} (e : X.K = K) : CallR X (.builtin "len") (rLenU K) := e ▸ CallR.or (r := rLenSeq X.K) call_len_seq (CallR.or (r := rLenStr) call_len_str call_lenD)
def dLen : DL := fun ds Q => match ds with
  | [.lst xs] => Q (.int xs.length)
  | [.tup xs] => Q (.int xs.length)
  | [.str z] => z.length ≤ LINE ∧ Q (.int z.length)
  | [.dk ks _] => Q (.int ks.length)
  | _ => False
section
variable {C : Bc}
theorem cg_len : CallG Cln C (rLenU C.K) dLen := by
  intro X env σ H vs ds Q Qd rp ra he q
  unfold dLen at he
  split at he
  · obtain ⟨v, rfl, r1⟩ := ra.one
    obtain ⟨p, vs, rfl, h1, a1⟩ := r1.lst
    exact .inl ⟨p, vs, rfl, .inl (.inl (.inl h1)), by rw [a1.length]; exact q _ _ H (.refl H) (.int _) he⟩
  · obtain ⟨v, rfl, r1⟩ := ra.one
    obtain ⟨p, vs, rfl, h1, a1⟩ := r1.tup
    exact .inl ⟨p, vs, rfl, .inr (.inl (.inl h1)), by rw [a1.length]; exact q _ _ H (.refl H) (.int _) he⟩
  · obtain ⟨v, rfl, r1⟩ := ra.one
    exact .inr (.inl ⟨_, by rw [r1.str], by rw [sizeLine_eq]; exact he.1, q _ _ H (.refl H) (.int _) he.2⟩)
  · obtain ⟨v, rfl, r1⟩ := ra.one
    obtain ⟨p, vs, rfl, h1, l, a1⟩ := r1.dk
    refine .inr (.inr ⟨p, _, rfl, h1, ?_⟩)
    rw [List.length_zip, l, Nat.min_self, ← l]
    exact q _ _ H (.refl H) (.int _) he
  · exact he.elim
end
/-! int, bool, str, abs -/
def rInt1 : List V → Hp → VK → Prop := fun xs H Q => (∃ i, xs = [.int i] ∧ Q (.int i) H) ∨ ∃ k, xs = [.bl k] ∧ Q (.int (if k then 1 else 0)) H
def rIntS : List V → Hp → VK → Prop := fun xs H Q => ∃ a n, xs = [.str a] ∧ PySem.intText? a = some n ∧ a.length ≤ 640 ∧ Q (.int n) H
def rIntU : List V → Hp → VK → Prop := fun xs H Q => rInt1 xs H Q ∨ rIntS xs H Q
theorem call_intU {X : Cx} : CallR X (.type "int") rIntU := CallR.or (r := rInt1) (r' := rIntS) call_int1 call_int_str
def dInt : DL := fun ds Q => match ds with
  | [.int i] => Q (.int i)
  | [.bl k] => Q (.int (if k then 1 else 0))
  | [.str z] => z.length ≤ 640 ∧ ∃ n, PySem.intText? z = some n ∧ Q (.int n)
  | _ => False
def dStr : DL := fun ds Q => match ds with
  | [.int i] => i.natAbs.log2 < 1920 ∧ Q (.str (toString i))
  | _ => False
def dAbs : DL := fun ds Q => match ds with
  | [.int i] => Q (.int (if i < 0 then -i else i))
  | _ => False
def rMax2 : List V → Hp → VK → Prop := fun xs H Q => ∃ i j, xs = [.int i, .int j] ∧ Q (.int (if j > i then j else i)) H
def dMax2 : DL := fun ds Q => match ds with
  | [.int i, .int j] => Q (.int (if j > i then j else i))
  | _ => False
def dMin2 : DL := fun ds Q => match ds with
  | [.int i, .int j] => Q (.int (if j < i then j else i))
  | _ => False
theorem call_max2U {X : Cx} (hc : X.calm = true) : CallR X (.builtin "max") rMax2 := call_max2 hc
section
variable {C : Bc}
theorem cg_int : CallG Cln C rIntU dInt := by
  intro X env σ H vs ds Q Qd rp ra he q
  unfold dInt at he
  split at he
  · obtain ⟨v, rfl, r1⟩ := ra.one
    exact .inl (.inl ⟨_, by rw [r1.int], q _ _ H (.refl H) (.int _) he⟩)
  · obtain ⟨v, rfl, r1⟩ := ra.one
    exact .inl (.inr ⟨_, by rw [r1.bl], q _ _ H (.refl H) (.int _) he⟩)
  · obtain ⟨v, rfl, r1⟩ := ra.one
    obtain ⟨h1, n, h2, he⟩ := he
    exact .inr ⟨_, n, by rw [r1.str], h2, h1, q _ _ H (.refl H) (.int _) he⟩
  · exact he.elim
theorem cg_max2 : CallG Cln C rMax2 dMax2 := by
  intro X env σ H vs ds Q Qd rp ra he q
  unfold dMax2 at he
  split at he
  · obtain ⟨v, u, rfl, r1, r2⟩ := ra.two
    exact ⟨_, _, by rw [r1.int, r2.int], q _ _ H (.refl H) (.int _) he⟩
  · exact he.elim
end
/-! tuple, list -/
def rTupOf (K : PySem.W.Frag) : List V → Hp → VK → Prop := fun xs H Q => ∃ p ys, xs = [.ref p] ∧ ((SqL K H p ys ∧ ∀ l, H l = none → Q (.ref l) (upd H l (.tup ys))) ∨ (SqT K H p ys ∧ Q (.ref p) H))
theorem call_tupU {X : Cx} {K : PySem.W.Frag} (e : X.K = K) : CallR X (.type "tuple") (rTupOf K) := e ▸ call_tuple_of
def dTupOf : DL := fun ds Q => match ds with
  | [.lst xs] => Q (.tup xs)
  | [.tup xs] => Q (.tup xs)
  | _ => False
def rLstOf (K : PySem.W.Frag) : List V → Hp → VK → Prop := fun xs H Q => ∃ p ys, xs = [.ref p] ∧ (SqL K H p ys ∨ SqT K H p ys) ∧ ∀ l, H l = none → Q (.ref l) (upd H l (.lst ys))
theorem call_lstU {X : Cx} {K : PySem.W.Frag} (e : X.K = K) : CallR X (.type "list") (rLstOf K) := e ▸ call_list_of
def dLstOf : DL := fun ds Q => match ds with
  | [.lst xs] => Q (.lst xs)
  | [.tup xs] => Q (.lst xs)
  | _ => False
section
variable {C : Bc}
theorem cg_tup : CallG Cln C (rTupOf C.K) dTupOf := by
  intro X env σ H vs ds Q Qd rp ra he q
  unfold dTupOf at he
  split at he
  · obtain ⟨v, rfl, r1⟩ := ra.one
    obtain ⟨p, vs, rfl, h1, a1⟩ := r1.lst
    exact ⟨p, vs, rfl, .inl ⟨.inl (.inl h1), fun l hl => q _ _ _ (.upd hl) (cln_new rp hl a1) he⟩⟩
  · obtain ⟨v, rfl, r1⟩ := ra.one
    obtain ⟨p, vs, rfl, h1, a1⟩ := r1.tup
    refine ⟨p, vs, rfl, .inr ⟨.inl (.inl h1), q _ _ H (.refl H) ?_ he⟩⟩
    rcases r1 with r1 | ⟨_, _, _, _, e2, _⟩
    · exact r1
    · cases e2
  · exact he.elim
theorem cg_lst : CallG Fsh C (rLstOf C.K) dLstOf := by
  intro X env σ H vs ds Q Qd rp ra he q
  unfold dLstOf at he
  split at he
  · obtain ⟨v, rfl, r1⟩ := ra.one
    obtain ⟨p, vs, rfl, h1, a1⟩ := r1.lst
    exact ⟨p, vs, rfl, .inl (.inl (.inl h1)), fun l hl => q _ _ _ (.upd hl) (fsh_new rp hl a1) he⟩
  · obtain ⟨v, rfl, r1⟩ := ra.one
    obtain ⟨p, vs, rfl, h1, a1⟩ := r1.tup
    exact ⟨p, vs, rfl, .inr (.inl (.inl h1)), fun l hl => q _ _ _ (.upd hl) (fsh_new rp hl a1) he⟩
  · exact he.elim
end
/-! sum -/
def dSum : DL := fun ds Q => match ds with
  | [.lst xs] => ∃ ns : List Int, xs = ns.map .int ∧ Q (.int ns.sum)
  | [.tup xs] => ∃ ns : List Int, xs = ns.map .int ∧ Q (.int ns.sum)
  | _ => False
section
variable {C : Bc}
theorem cg_sum : CallG Cln C (rSumA C.K) dSum := by
  intro X env σ H vs ds Q Qd rp ra he q
  unfold dSum at he
  split at he
  · obtain ⟨v, rfl, r1⟩ := ra.one
    obtain ⟨ns, rfl, he⟩ := he
    obtain ⟨p, vs, rfl, h1, a1⟩ := r1.lst
    rw [a1.ints_of] at h1
    exact ⟨p, ns, rfl, .inl (.inl (.inl h1)), q _ _ H (.refl H) (.int _) he⟩
  · obtain ⟨v, rfl, r1⟩ := ra.one
    obtain ⟨ns, rfl, he⟩ := he
    obtain ⟨p, vs, rfl, h1, a1⟩ := r1.tup
    rw [a1.ints_of] at h1
    exact ⟨p, ns, rfl, .inr (.inl (.inl h1)), q _ _ H (.refl H) (.int _) he⟩
  · exact he.elim
end
/-! max, min, sorted of a list of whole numbers -/
section
variable {C : Bc}
end
/-! isinstance -/
def Dt.kind : Dt → Option String
  | .non => some "NoneType"
  | .bl _ => some "bool"
  | .int _ => some "int"
  | .str _ => some "str"
  | .tup _ => some "tuple"
  | .lst _ => some "list"
  | .dk _ _ => some "dict"
  | .dt _ _ => some "dict"
  | _ => none
theorem Bor.tyx {C : Bc} {X : Addr → Prop} {H H1 : Hp} {v : V} {d : Dt} {n : String} (h : Bor C X H1 H v d) (e : d.kind = some n) : TyX C.K H v (.type n) := by
  cases d with
  | non => cases e; rw [h.non]; exact .base .non
  | bl b => cases e; rw [h.bl]; exact .base (.bl b)
  | int b => cases e; rw [h.int]; exact .base (.int b)
  | str b => cases e; rw [h.str]; exact .base (.str b)
  | tup xs => cases e; obtain ⟨p, vs, rfl, h1, _⟩ := h.tup; exact .base (.tup h1)
  | lst xs => cases e; obtain ⟨p, vs, rfl, h1, _⟩ := h.lst; exact .base (.lst h1)
  | dk ks ds => cases e; obtain ⟨p, vs, rfl, h1, _⟩ := h.dk; exact .base (.dK h1)
  | dt ks ds => cases e; obtain ⟨p, vs, rfl, h1, _⟩ := h.dt; exact .base (.dT h1)
  | ins _ _ _ => cases e
  | raw _ => cases e
/-- is of this built-in kind -/
def Dt.isa (T : String) (d : Dt) : Bool := match d.kind with
  | some n => n == T || (n == "bool" && T == "int")
  | none => false
def Known (T : String) : Prop := ∀ n, n ∈ ["NoneType", "bool", "int", "str", "tuple", "list", "dict"] → kitB n T = some (n == T || (n == "bool" && T == "int"))
theorem Dt.kind_mem {d : Dt} {n : String} (e : d.kind = some n) : n ∈ ["NoneType", "bool", "int", "str", "tuple", "list", "dict"] := by
  cases d <;> first | (cases e; done) | (injection e with e; subst e; decide)
theorem known_int : Known "int" := by unfold Known; decide +kernel
theorem known_bool : Known "bool" := by unfold Known; decide +kernel
theorem known_tuple : Known "tuple" := by unfold Known; decide +kernel
theorem known_list : Known "list" := by unfold Known; decide +kernel
def dIsi (T : String) : DL := fun ds Q => match ds with
  | [x, .raw (.ty T')] => T' = T ∧ x.kind.isSome = true ∧ Q (.bl (x.isa T))
  | _ => False
def dIsi2 (T U : String) : DL := fun ds Q => match ds with
  | [x, .tup [.raw (.ty T'), .raw (.ty U')]] => T' = T ∧ U' = U ∧ x.kind.isSome = true ∧ Q (.bl (x.isa T || x.isa U))
  | _ => False
theorem call_isiU {X : Cx} {K : PySem.W.Frag} (e : X.K = K) : CallR X (.builtin "isinstance") (rIsi K) := e ▸ call_isi
theorem call_isiTU {X : Cx} {K : PySem.W.Frag} (e : X.K = K) : CallR X (.builtin "isinstance") (rIsiT K) := e ▸ call_isiT
section
variable {C : Bc}
theorem cg_isi {T : String} (k : Known T) : CallG Cln C (rIsi C.K) (dIsi T) := by
  intro X env σ H vs ds Q Qd rp ra he q
  unfold dIsi at he
  split at he
  · rename_i x T'
    obtain ⟨rfl, hk, he⟩ := he
    obtain ⟨v, u, rfl, r1, r2⟩ := ra.two
    obtain ⟨n, hn⟩ := Option.isSome_iff_exists.mp hk
    have k1 := k n (Dt.kind_mem hn)
    have e : ∀ T, x.isa T = (n == T || (n == "bool" && T == "int")) := fun T => by unfold Dt.isa; rw [hn]
    rw [e] at he
    refine ⟨v, _, _, _, _, by rw [r2.raw], .ty _, r1.tyx hn, kit_ty k1, q _ _ H (.refl H) (.bl _) he⟩
  · exact he.elim
theorem cg_isi2 {T U : String} (k : Known T) (k2 : Known U) : CallG Cln C (rIsiT C.K) (dIsi2 T U) := by
  intro X env σ H vs ds Q Qd rp ra he q
  unfold dIsi2 at he
  split at he
  · obtain ⟨rfl, rfl, hk, he⟩ := he
    obtain ⟨v, u, rfl, r1, r2⟩ := ra.two
    obtain ⟨n, hn⟩ := Option.isSome_iff_exists.mp hk
    obtain ⟨p, vs, rfl, h1, a1⟩ := r2.tup
    cases a1 with
    | cons d1 a1 =>
      cases a1 with
      | cons d2 a2 =>
        cases a2
        rw [d1.flat rfl, d2.flat rfl] at h1
        have k1 := k n (Dt.kind_mem hn)
        have k3 := k2 n (Dt.kind_mem hn)
        refine ⟨v, p, _, _, _, _, rfl, h1, .cons (.ty _) (.cons (.ty _) .nil), r1.tyx hn, kitAny_cons (b := _) (kit_ty k1) (fun e1 => kitAny_cons (kit_ty k3) (r := _) (fun e2 => ?_) fun e2 => ?_) fun e1 => ?_, q _ _ H (.refl H) (.bl _) he⟩
        · unfold Dt.isa; rw [hn]; dsimp only; rw [e1, e2]; rfl
        · unfold Dt.isa; rw [hn]; dsimp only; rw [e1, e2]; rfl
        · unfold Dt.isa; rw [hn]; dsimp only; rw [e1]; rfl
  · exact he.elim
end
end Mine

namespace Mine
open PySem PySem.Spec PyProof.Rows L2
/-! ### what is walked -/
/-- where what was seen at an iterator's making is seen still: in loops, in comprehensions -/
abbrev SS := Bc → (Addr → Prop) → Hp → (Addr → Prop) → Hp → Prop
def Strong : SS := fun C X H1 Y H => Same (vis H1 X) (vis H Y) ∧ ∀ a, Y a → ∃ o, H a = some o
def Weak : SS := fun C X H1 Y H => Frm C.hd H1 H ∧ (∀ h c, C.hd = some (h, c) → X h) ∧ (∀ a, Y a → X a ∨ H1 a = none) ∧ ∀ a, Y a → ∃ o, H a = some o
theorem Weak.strong {C : Bc} {X Y : Addr → Prop} {H1 H : Hp} (w : Weak C X H1 Y H) : Strong C X H1 Y H := by
  obtain ⟨f, hx, hy, al⟩ := w
  refine ⟨fun a o e => ?_, al⟩
  obtain ⟨n, h⟩ := vis_of e
  refine vis_mk (fun y => (hy a y).elim n fun z => by rw [z] at h; cases h) (f.1 a o h fun h' c e' q => n (q ▸ hx h' c e'))
/-- the iterator J yields the data ds -/
def WalkD (S : SS) (C : Bc) (X : Addr → Prop) (H1 : Hp) (J : It) (ds : List Dt) : Prop := ∀ (Y : Addr → Prop) (i : Nat) (H : Hp), S C X H1 Y H →
  (i < ds.length → J.go i H ∧ ∀ x H', J.yld i H x H' → Same H H' ∧ ∃ d, ds[i]? = some d ∧ Den C.K (vis H' Y) x d) ∧ (i = ds.length → J.stop i H)
theorem WalkD.weak {C : Bc} {X : Addr → Prop} {H1 : Hp} {J : It} {ds : List Dt} (w : WalkD Strong C X H1 J ds) : WalkD Weak C X H1 J ds := fun Y i H s => w Y i H s.strong
def DIg (S : SS) (C : Bc) (wi : TI) (e : DAX) : Prop := ∀ X env σ H (R : It → Hp → Prop) (Qd : List Dt → Prop) (Qx : Xc → Prop), Rep C X env σ H → e env Qd Qx →
  (∀ ds J H1, Frm C.hd H H1 → WalkD S C X H1 J ds → Qd ds → R J H1) → XOk C X σ H Qx → wi σ H R
theorem DIg.weak {C : Bc} {wi : TI} {e : DAX} (h : DIg Strong C wi e) : DIg Weak C wi e := fun X env σ H R Qd Qx rp he q x => h X env σ H R Qd Qx rp he (fun ds J H1 f w h => q ds J H1 f w.weak h) x
def eSeq (a : DX) : DAX := fun env Q E => a env (fun d => match d with
  | .lst xs => Q xs
  | .tup xs => Q xs
  | _ => False) E
def eRng1 (a : DAX) : DAX := fun env Q E => a env (fun ds => match ds with
  | [.int j] => (-(2 ^ 62) ≤ j ∧ j < 2 ^ 62) ∧ Q ((List.range j.toNat).map fun i => .int (i : Nat))
  | _ => False) E
def eRng2 (a : DAX) : DAX := fun env Q E => a env (fun ds => match ds with
  | [.int i, .int j] => (-(2 ^ 62) ≤ i ∧ i < 2 ^ 62 ∧ -(2 ^ 62) ≤ j ∧ j < 2 ^ 62) ∧ Q ((List.range (j - i).toNat).map fun k => .int (i + (k : Nat)))
  | _ => False) E
def eEnum (a : DAX) : DAX := fun env Q E => a env (fun ds => match ds with
  | [.lst xs] => Q (xs.mapIdx fun i x => .tup [.int (i : Nat), x])
  | [.tup xs] => Q (xs.mapIdx fun i x => .tup [.int (i : Nat), x])
  | _ => False) E
section
variable {C : Bc} {X : Addr → Prop} {H1 : Hp}
theorem walk_lst {S : SS} {p : Addr} {vs : List V} {ds : List Dt} (h : ∀ Y H, S C X H1 Y H → H p = some (.lst vs) ∧ DenAll C.K (vis H Y) vs ds) : WalkD S C X H1 (Itl C.K p) ds := by
  intro Y i H s
  obtain ⟨h1, a⟩ := h Y H s
  have hl := a.length
  refine ⟨fun hi => ⟨⟨vs, vs[i], .inl (.inl h1), by simp [hl ▸ hi]⟩, fun x H' ⟨e, hx⟩ => ?_⟩, fun hi => ⟨vs, .inl (.inl h1), by omega⟩⟩
  subst e
  exact ⟨Same.refl _, a.getV (hx vs (.inl (.inl h1)))⟩
theorem walk_tpl {S : SS} {p : Addr} {vs : List V} {ds : List Dt} (h : ∀ Y H, S C X H1 Y H → H p = some (.tup vs) ∧ DenAll C.K (vis H Y) vs ds) : WalkD S C X H1 (Itt C.K p) ds := by
  intro Y i H s
  obtain ⟨h1, a⟩ := h Y H s
  have hl := a.length
  refine ⟨fun hi => ⟨⟨vs, vs[i], .inl (.inl h1), by simp [hl ▸ hi]⟩, fun x H' ⟨e, hx⟩ => ?_⟩, fun hi => ⟨vs, .inl (.inl h1), by omega⟩⟩
  subst e
  exact ⟨Same.refl _, a.getV (hx vs (.inl (.inl h1)))⟩
/-- how a seen list, a seen tuple stays -/
theorem cln_lst {v : V} {ds : List Dt} (h : Den C.K (vis H1 X) v (.lst ds)) : ∃ p vs, v = .ref p ∧ H1 p = some (.lst vs) ∧ ∀ Y H, Strong C X H1 Y H → H p = some (.lst vs) ∧ DenAll C.K (vis H Y) vs ds := by
  cases h with
  | lst h a => exact ⟨_, _, rfl, vis_sub _ _ h, fun Y H s => ⟨vis_sub _ _ (s.1 _ _ h), a.mono s.1⟩⟩
theorem cln_tup {v : V} {ds : List Dt} (h : Den C.K (vis H1 X) v (.tup ds)) : ∃ p vs, v = .ref p ∧ H1 p = some (.tup vs) ∧ ∀ Y H, Strong C X H1 Y H → H p = some (.tup vs) ∧ DenAll C.K (vis H Y) vs ds := by
  cases h with
  | tup h a => exact ⟨_, _, rfl, vis_sub _ _ h, fun Y H s => ⟨vis_sub _ _ (s.1 _ _ h), a.mono s.1⟩⟩
theorem bor_lst {H0 : Hp} {v : V} {ds : List Dt} (h : Bor C X H0 H1 v (.lst ds)) : ∃ p vs, v = .ref p ∧ H1 p = some (.lst vs) ∧ ∀ Y H, Weak C X H1 Y H → H p = some (.lst vs) ∧ DenAll C.K (vis H Y) vs ds := by
  rcases h with h | ⟨p, vs, ds, rfl, e2, n, h1, h2⟩
  · obtain ⟨p, vs, e1, h1, k⟩ := cln_lst h
    exact ⟨p, vs, e1, h1, fun Y H s => k Y H s.strong⟩
  · cases e2
    exact ⟨p, vs, rfl, h1, fun Y H s => ⟨s.1.1 p _ h1 n, h2.mono s.strong.1⟩⟩
theorem bor_tup {H0 : Hp} {v : V} {ds : List Dt} (h : Bor C X H0 H1 v (.tup ds)) : ∃ p vs, v = .ref p ∧ H1 p = some (.tup vs) ∧ ∀ Y H, Weak C X H1 Y H → H p = some (.tup vs) ∧ DenAll C.K (vis H Y) vs ds := by
  rcases h with h | ⟨p, vs, ds, rfl, e2, n, h1, h2⟩
  · obtain ⟨p, vs, e1, h1, k⟩ := cln_tup h
    exact ⟨p, vs, e1, h1, fun Y H s => k Y H s.strong⟩
  · cases e2
end
/-- what a source must be: with all that is let, or a list of one's own -/
class Src (R : RR) (S : SS) : Prop where
  lst : ∀ {C : Bc} {X : Addr → Prop} {H0 H1 : Hp} {v : V} {ds : List Dt}, R C X H0 H1 v (.lst ds) → ∃ p vs, v = .ref p ∧ H1 p = some (.lst vs) ∧ ∀ Y H, S C X H1 Y H → H p = some (.lst vs) ∧ DenAll C.K (vis H Y) vs ds
  tup : ∀ {C : Bc} {X : Addr → Prop} {H0 H1 : Hp} {v : V} {ds : List Dt}, R C X H0 H1 v (.tup ds) → ∃ p vs, v = .ref p ∧ H1 p = some (.tup vs) ∧ ∀ Y H, S C X H1 Y H → H p = some (.tup vs) ∧ DenAll C.K (vis H Y) vs ds
  al : ∀ {C : Bc} {X Y : Addr → Prop} {H1 H : Hp}, S C X H1 Y H → ∀ a, Y a → ∃ o, H a = some o
instance : Src Cln Strong := ⟨fun h => cln_lst h, fun h => cln_tup h, fun s => s.2⟩
instance : Src Bor Weak := ⟨fun h => bor_lst h, fun h => bor_tup h, fun s => s.2.2.2⟩
section
variable {C : Bc} {R : RR} {S : SS} {tl : TE} {ta : TA} {el : DX} {ea : DAX}
theorem di_seq [Src R S] (h : DEg R C tl el) : DIg S C (iSeq C.K tl) (eSeq el) := by
  intro X env σ H Rr Qd Qx rp he q x
  refine h X env σ H _ _ Qx rp he (fun d v H1 f1 r1 he1 => ?_) x
  split at he1
  · obtain ⟨p, vs, rfl, h1, k⟩ := Src.lst (S := S) r1
    exact ⟨p, vs, rfl, .inl ⟨.inl (.inl h1), q _ _ H1 f1 (walk_lst k) he1⟩⟩
  · obtain ⟨p, vs, rfl, h1, k⟩ := Src.tup (S := S) r1
    exact ⟨p, vs, rfl, .inr ⟨.inl (.inl h1), q _ _ H1 f1 (walk_tpl k) he1⟩⟩
  · exact he1.elim
theorem walk_rng {X : Addr → Prop} {H1 : Hp} (lo : Int) (n : Nat) : WalkD S C X H1 (Itr lo n) ((List.range n).map fun k => .int (lo + (k : Nat))) := by
  intro Y i H s
  rw [List.length_map, List.length_range]
  refine ⟨fun hi => ⟨hi, fun x H' ⟨e, hx⟩ => ?_⟩, fun hi => Nat.le_of_eq hi.symm⟩
  subst e hx
  exact ⟨Same.refl _, _, by rw [List.getElem?_map, List.getElem?_range hi]; rfl, .int _⟩
theorem di_rng1 (h : DAb C ta ea) : DIg S C (iRng1 ta) (eRng1 ea) := by
  intro X env σ H Rr Qd Qx rp he q x
  refine h X env σ H _ _ Qx rp he (fun ds vs H1 f1 ra he1 => ?_) x
  split at he1
  · obtain ⟨v, rfl, r1⟩ := ra.one
    obtain ⟨⟨c1, c2⟩, he1⟩ := he1
    refine ⟨_, by rw [r1.int], c1, c2, q _ _ H1 f1 ?_ he1⟩
    have e : ∀ n : Nat, WalkD S C X H1 (Itr 0 n) ((List.range n).map fun i => .int (i : Nat)) := fun n => by
      have := walk_rng (S := S) (C := C) (X := X) (H1 := H1) 0 n
      simpa using this
    exact e _
  · exact he1.elim
theorem di_rng2 (h : DAb C ta ea) : DIg S C (iRng2 ta) (eRng2 ea) := by
  intro X env σ H Rr Qd Qx rp he q x
  refine h X env σ H _ _ Qx rp he (fun ds vs H1 f1 ra he1 => ?_) x
  split at he1
  · obtain ⟨v, u, rfl, r1, r2⟩ := ra.two
    obtain ⟨c, he1⟩ := he1
    exact ⟨_, _, by rw [r1.int, r2.int], c, q _ _ H1 f1 (walk_rng _ _) he1⟩
  · exact he1.elim
theorem walk_pair {X : Addr → Prop} {H1 : Hp} {J : It} {n : Nat} {G : Hp → Prop} {xs : List V} {ds : List Dt} (hal : ∀ {Y : Addr → Prop} {H : Hp}, S C X H1 Y H → ∀ a, Y a → ∃ o, H a = some o) (hn : ds.length = n)
    (w : Walk J n G (YPair (fun i => some (.int (i : Nat))) (fun i => xs[i]?))) (hs : ∀ i H, n ≤ i → G H → J.stop i H) (k : ∀ Y H, S C X H1 Y H → G H ∧ DenAll C.K (vis H Y) xs ds) :
    WalkD S C X H1 J (ds.mapIdx fun i x => .tup [.int (i : Nat), x]) := by
  intro Y i H s
  obtain ⟨g, a⟩ := k Y H s
  rw [List.length_mapIdx]
  refine ⟨fun hi => ⟨w.goes i H (hn ▸ hi) g, fun x H' hy => ?_⟩, fun hi => hs i H (by omega) g⟩
  obtain ⟨T, v, y, rfl, hT, rfl, ev, ey⟩ := w.yields i H x H' (hn ▸ hi) g hy
  dsimp only at ev ey
  cases ev
  obtain ⟨d, e, den⟩ := a.getV ey
  have nT : ¬ Y T := fun y => by
    obtain ⟨o, q⟩ := hal s T y
    rw [hT] at q; cases q
  refine ⟨same_upd hT, _, by rw [List.getElem?_mapIdx, e]; rfl, .tup (vis_mk nT upd_same) (.cons (.int _) (.cons (den.mono fun b o e => ?_) .nil))⟩
  obtain ⟨n1, e1⟩ := vis_of e
  exact vis_mk n1 (same_upd hT _ _ e1)
theorem di_enum [Src R S] (h : DEg R C tl el) : DIg S C (iEnumA C.K (tCons tl tNil)) (eEnum (eCons el eNil)) := by
  intro X env σ H Rr Qd Qx rp he q x
  refine h X env σ H _ _ Qx rp he (fun d v H1 f1 r1 he1 => ?_) x
  show ∃ a xs, [v] = [.ref a] ∧ _
  have he1 : (match [d] with
    | [.lst xs] => Qd (xs.mapIdx fun i x => .tup [.int (i : Nat), x])
    | [.tup xs] => Qd (xs.mapIdx fun i x => .tup [.int (i : Nat), x])
    | _ => False) := he1
  split at he1
  · rename_i e
    cases e
    obtain ⟨p, vs, rfl, h1, k⟩ := Src.lst (S := S) r1
    refine ⟨p, vs, rfl, .inl ⟨.inl (.inl h1), q _ _ H1 f1 ?_ he1⟩⟩
    intro Y i H2 s
    exact walk_pair (G := fun H => SqL C.K H p vs) (fun s => Src.al (R := R) s) (k Y H2 s).2.length.symm walk_enum (fun i H hi g => ⟨vs, g, hi⟩) (fun Y H s => ⟨.inl (.inl (k Y H s).1), (k Y H s).2⟩) Y i H2 s
  · rename_i e
    cases e
    obtain ⟨p, vs, rfl, h1, k⟩ := Src.tup (S := S) r1
    refine ⟨p, vs, rfl, .inr ⟨.inl (.inl h1), q _ _ H1 f1 ?_ he1⟩⟩
    intro Y i H2 s
    exact walk_pair (G := fun H => SqT C.K H p vs) (fun s => Src.al (R := R) s) (k Y H2 s).2.length.symm walk_enumT (fun i H hi g => ⟨vs, g, hi⟩) (fun Y H s => ⟨.inl (.inl (k Y H s).1), (k Y H s).2⟩) Y i H2 s
  · exact he1.elim
end
/-! ### targets -/
abbrev DGX := Dt → List Sl → (List Sl → Prop) → Prop
def DG (C : Bc) (g : TG) (js : List Nat) (f : DGX) : Prop := ∀ X env σ H x d (Q : L2.St → Hp → Prop) (Qd : List Sl → Prop), Rep C X env σ H → Den C.K (vis H X) x d → f d env Qd →
  (∀ env' σ', Rep C X env' σ' H → Qd env' → σ'.length = σ.length → (∀ k, k ∉ js → σ'[k]? = σ[k]?) → (∀ (k : Nat) (s : Sl), env'[k]? = some s → (∃ o a, Foot s o a) → env[k]? = some s ∧ σ'[k]? = σ[k]?) → Q σ' H) → g x σ H Q
def gD (j : Nat) : DGX := fun d env Q => Q (env.set j (.d d))
def gD2 (i j : Nat) : DGX := fun d env Q => match d with
  | .tup [a, b] => Q ((env.set i (.d a)).set j (.d b))
  | _ => False
def gD3 (i j k : Nat) : DGX := fun d env Q => match d with
  | .tup [a, b, c] => Q (((env.set i (.d a)).set j (.d b)).set k (.d c))
  | _ => False
section
variable {C : Bc} {X : Addr → Prop} {env : List Sl} {σ : L2.St} {H : Hp}
theorem Rep.set (r : Rep C X env σ H) (j : Nat) {x : V} {d : Dt} (h : Den C.K (Mine.vis H X) x d) : Rep C X (env.set j (.d d)) (σ.set j (.some x)) H where
  len := by rw [List.length_set, List.length_set, r.len]
  sup := r.sup
  new := r.new
  al := r.al
  frm := r.frm
  hands := r.hands
  slot := fun i s e => by
    rw [List.getElem?_set] at e ⊢
    by_cases c : j = i
    · subst c
      rw [if_pos rfl] at e ⊢
      by_cases hl : j < env.length
      · rw [if_pos hl] at e
        rw [if_pos (r.len ▸ hl)]
        cases e
        exact ⟨_, rfl, x, rfl, h⟩
      · rw [if_neg hl] at e; cases e
    · rw [if_neg c] at e ⊢
      exact r.slot i s e
  ap := r.ap.set fun _ f => f
  one := r.one.set fun _ _ _ z => by cases z
theorem own_set {env : List Sl} {σ : L2.St} {j : Nat} {x : Dt} {o : Option V} (k : Nat) (s : Sl) (e : (env.set j (.d x))[k]? = some s) (f : ∃ o a, Foot s o a) : env[k]? = some s ∧ (σ.set j o)[k]? = σ[k]? := by
  rw [List.getElem?_set] at e
  have a : j ≠ k := fun c => by
    subst c
    rw [if_pos rfl] at e
    split at e
    · cases e
      obtain ⟨_, _, f⟩ := f
      exact f
    · cases e
  rw [if_neg a] at e
  exact ⟨e, by rw [List.getElem?_set, if_neg a]⟩
theorem dg_name (j : Nat) : DG C (gName j) [j] (gD j) := by
  intro X env σ H x d Q Qd rp hd he q
  refine q _ _ (rp.set j hd) he (by rw [List.length_set]) (fun k hk => ?_) own_set
  have : j ≠ k := fun z => hk (by simp [z])
  rw [List.getElem?_set, if_neg this]
theorem Den.tupI {K : PySem.W.Frag} {H : Hp} {v : V} {ds : List Dt} (h : Den K H v (.tup ds)) : ∃ p vs, v = .ref p ∧ H p = some (.tup vs) ∧ DenAll K H vs ds := by
  cases h with
  | tup h a => exact ⟨_, _, rfl, h, a⟩
theorem dg_two (i j : Nat) : DG C (gTup C.K 2 (gCons (gName i) (gCons (gName j) gNil))) [i, j] (gD2 i j) := by
  intro X env σ H x d Q Qd rp hd he q
  unfold gD2 at he
  split at he
  · obtain ⟨p, vs, rfl, h1, a⟩ := hd.tupI
    cases a with
    | @cons v1 _ _ _ a1 a =>
      cases a with
      | @cons v2 _ _ _ a2 a =>
        cases a
        refine ⟨p, _, rfl, .inl (.inl (vis_sub _ _ h1)), rfl, v1, _, rfl, v2, _, rfl, rfl, ?_⟩
        refine q _ _ ((rp.set i a1).set j a2) he (by rw [List.length_set, List.length_set]) (fun k hk => ?_) (fun k xs e hf => by
          obtain ⟨a1, b1⟩ := own_set (σ := σ.set i (some v1)) (o := some v2) k xs e hf
          obtain ⟨a2, b2⟩ := own_set (σ := σ) (o := some v1) k xs a1 hf
          exact ⟨a2, b1.trans b2⟩)
        have e1 : i ≠ k := fun z => hk (by simp [z])
        have e2 : j ≠ k := fun z => hk (by simp [z])
        rw [List.getElem?_set, if_neg e2, List.getElem?_set, if_neg e1]
  · exact he.elim
/-! ### comprehensions -/
def wipeS (env : List Sl) : List Nat → List Sl
  | [] => env
  | v :: vs => (wipeS env vs).set v .no
theorem Rep.unset (r : Rep C X env σ H) (j : Nat) (o : Option V) : Rep C X (env.set j .no) (σ.set j o) H where
  len := by rw [List.length_set, List.length_set, r.len]
  sup := r.sup
  new := r.new
  al := r.al
  frm := r.frm
  hands := r.hands
  slot := fun i s e => by
    rw [List.getElem?_set] at e ⊢
    by_cases c : j = i
    · subst c
      rw [if_pos rfl] at e ⊢
      by_cases hl : j < env.length
      · rw [if_pos hl] at e
        rw [if_pos (r.len ▸ hl)]
        cases e
        exact ⟨_, rfl, trivial⟩
      · rw [if_neg hl] at e; cases e
    · rw [if_neg c] at e ⊢
      exact r.slot i s e
  ap := r.ap.set fun _ f => f
  one := r.one.set fun _ _ _ z => by cases z
theorem Rep.wiped (r : Rep C X env σ H) : ∀ vs : List Nat, Rep C X (wipeS env vs) (wipe σ vs) H
  | [] => r
  | v :: vs => (r.wiped vs).unset v none
theorem wipe_at (σ : L2.St) : ∀ (vs : List Nat) (k : Nat), (wipe σ vs)[k]? = if k ∈ vs ∧ k < σ.length then some none else σ[k]?
  | [], k => by simp [wipe]
  | v :: vs, k => by
    show ((wipe σ vs).set v none)[k]? = _
    rw [List.getElem?_set, wipe_length, wipe_at σ vs k]
    by_cases c : v = k
    · subst c
      by_cases hl : v < σ.length
      · rw [if_pos rfl, if_pos hl, if_pos ⟨List.mem_cons_self, hl⟩]
      · rw [if_pos rfl, if_neg hl, if_neg fun z => hl z.2]
        exact (List.getElem?_eq_none_iff.mpr (by omega)).symm
    · rw [if_neg c]
      have e : (k ∈ v :: vs ∧ k < σ.length) ↔ (k ∈ vs ∧ k < σ.length) := by
        rw [List.mem_cons]
        constructor
        · rintro ⟨z | z, h⟩
          · exact absurd z.symm c
          · exact ⟨z, h⟩
        · rintro ⟨z, h⟩; exact ⟨.inr z, h⟩
      simp only [e]
theorem wipe_of {σ σ' : L2.St} {vs : List Nat} (hl : σ'.length = (wipe σ vs).length) (hk : ∀ k, k ∉ vs → σ'[k]? = (wipe σ vs)[k]?) : wipe σ' vs = wipe σ vs := by
  refine List.ext_getElem? fun k => ?_
  rw [wipe_length] at hl
  rw [wipe_at, wipe_at]
  by_cases c : k ∈ vs
  · by_cases h : k < σ.length
    · rw [if_pos ⟨c, by omega⟩, if_pos ⟨c, h⟩]
    · rw [if_neg fun z => h (by omega), if_neg fun z => h z.2, List.getElem?_eq_none_iff.mpr (by omega), List.getElem?_eq_none_iff.mpr (by omega)]
  · rw [if_neg fun z => c z.1, if_neg fun z => c z.1, hk k c, wipe_at, if_neg fun z => c z.1]
/-- a new thing is hidden -/
theorem Rep.hide {D : Addr} {H2 : Hp} (r : Rep C X env σ H) (n : H D = none) (f : Frm C.hd H H2) (t : ∃ o, H2 D = some o) : Rep C (fun a => X a ∨ a = D) env σ H2 := by
  have r2 := r.step f
  have nD : ∀ a o, H a = some o → a ≠ D := fun a o e => ne_of_none e n
  have sm : Same (Mine.vis H X) (Mine.vis H2 fun a => X a ∨ a = D) := fun a o e => by
    obtain ⟨n1, e1⟩ := vis_of e
    exact vis_mk (fun z => z.elim n1 (nD a o e1)) (f.1 a o e1 fun h c e' q => n1 (q ▸ r.hX h c e'))
  refine ⟨r.len, fun a z => .inl (r.sup a z), fun a z => ?_, fun a z => ?_, r2.frm, r2.hands, fun i s e => ?_, r.ap, r.one⟩
  · rcases z with z | rfl
    · exact r.new a z
    · exact .inr (r.h0 n)
  · rcases z with z | rfl
    · exact r2.al a z
    · exact t
  · obtain ⟨o, e1, q⟩ := r.slot i s e
    refine ⟨o, e1, ?_⟩
    cases s with
    | no => trivial
    | d x => obtain ⟨v, e2, h⟩ := q; exact ⟨v, e2, h.mono sm⟩
    | own xs =>
      obtain ⟨p, vs, e2, x1, x2, h1, h2⟩ := q
      exact ⟨p, vs, e2, .inl x1, x2, f.1 p _ h1 (r.nh x2), h2.mono sm⟩
    | hand => exact q
    | exc c fs => exact q.exc sm
    | ins C0 ns ds =>
      obtain ⟨p, dx, vs, e2, x1, x2, h1, l, h2⟩ := q
      exact ⟨p, dx, vs, e2, .inl x1, x2, f.1 p _ h1 (r.nh x2), l, h2.mono sm⟩
    | tab p qs rows => exact q.tab_to (fun _ _ x => .inl x) (fun a ha u h => f.1 a u h (r.nh (q.2.1 a ha).2)) sm
    | st S n =>
      obtain ⟨p, e2, x1, x2, h1⟩ := q
      exact ⟨p, e2, .inl x1, x2, f.1 p _ h1 (r.nh x2)⟩
end
def lcGo (f : DGX) (tt : DTX) (te : DX) (env : List Sl) (Q : Dt → Prop) : List Dt → List Dt → Prop
  | [], acc => Q (.lst acc)
  | x :: xs, acc => f x env fun env' => tt env' (fun b => if b = true then te env' (fun y => acc.length < LINE ∧ lcGo f tt te env Q xs (acc ++ [y])) (fun _ => False) else lcGo f tt te env Q xs acc) fun _ => False
def eLc (src : DAX) (f : DGX) (tt : DTX) (te : DX) (vs : List Nat) : DX := fun env Q E => src env (fun ds => lcGo f tt te (wipeS env vs) Q ds []) E
theorem xok_no {C : Bc} {X : Addr → Prop} {σ : L2.St} {H : Hp} : XOk C X σ H fun _ => False := fun _ _ _ _ _ _ z => z.elim
theorem frm_put {C : Bc} {X : Addr → Prop} {env : List Sl} {σ : L2.St} {H1 H : Hp} {D : Addr} {o : HO} (r : Rep C X env σ H1) (n : H1 D = none) (f : Frm C.hd H1 H) : Frm C.hd H1 (upd H D o) := by
  refine ⟨fun a u e k => ?_, fun h c e x => ?_⟩
  · rw [upd_ne (ne_of_none e n)]; exact f.1 a u e k
  · have x2 := f.2 h c e x
    obtain ⟨_, _, _, _, a1, a2, _⟩ := x
    obtain ⟨cells, at_, big, mix, b1, b2, b3⟩ := x2
    exact ⟨cells, at_, big, mix, by rw [upd_ne (ne_of_none a1 n)]; exact b1, by rw [upd_ne (ne_of_none a2 n)]; exact b2, b3⟩
theorem df_lc {C : Bc} {wi : TI} {g : TG} {tt : TT} {te : TE} {vs : List Nat} {src : DAX} {f : DGX} {et : DTX} {ee : DX} (hi : DIg Weak C wi src) (hg : DG C g vs f) (ht : DT C tt et) (he : DE C te ee) : DF C (tLc wi g tt te vs) (eLc src f et ee vs) := by
  intro X env σ H Q Qd Qx rp h q x
  refine hi X env σ H _ _ Qx rp h (fun ds J H1 f1 w h1 => ?_) x
  show ∀ D, H1 D = none → Lc J g tt te vs D σ H1 Q
  intro D hD
  have rp1 := rp.step f1
  let W : Nat → Nat → Hp → Prop := fun i m H2 => m + i = ds.length ∧ Frm C.hd H1 H2 ∧ ∃ acc us, H2 D = some (.lst us) ∧ DenAll C.K (vis H2 fun a => X a ∨ a = D) us acc ∧ lcGo f et ee (wipeS env vs) Qd (ds.drop i) acc
  refine ⟨W, ⟨ds.length, rfl, .upd hD, [], [], upd_same, .nil, h1⟩, fun i m H2 ⟨hm, f2, acc, us, hD2, a2, go⟩ => ?_⟩
  have rpY : Rep C (fun a => X a ∨ a = D) env σ H2 := rp1.hide hD f2 ⟨_, hD2⟩
  have rpW := rpY.wiped vs
  have sW : Weak C X H1 (fun a => X a ∨ a = D) H2 := ⟨f2, rp1.hX, fun a z => z.imp id fun (e : a = D) => by rw [e]; exact hD, rpY.al⟩
  have hw := w _ i H2 sW
  have nh : ∀ h c, C.hd = some (h, c) → D ≠ h := fun h c e z => by
    obtain ⟨_, _, _, _, q, _⟩ := (rp1.hands h c e).2.2
    rw [z, q] at hD; cases hD
  by_cases c : i < ds.length
  · obtain ⟨g1, g2⟩ := hw.1 c
    refine .inr ⟨g1, W (i + 1) (m - 1), fun H' hW => ⟨m - 1, by omega, hW⟩, fun y H3 hy => ?_⟩
    obtain ⟨s3, d, hd, den⟩ := g2 y H3 hy
    have ed : ds.drop i = d :: ds.drop (i + 1) := by
      rw [List.drop_eq_getElem_cons c]
      congr 1
      rw [List.getElem?_eq_getElem c] at hd
      exact Option.some.inj hd
    rw [ed] at go
    have step : ∀ H5, Frm C.hd H3 H5 → Frm C.hd H1 H5 ∧ H5 D = some (.lst us) ∧ DenAll C.K (vis H5 fun a => X a ∨ a = D) us acc := fun H5 f5 => by
      have f25 : Frm C.hd H2 H5 := (Frm.same s3).trans f5
      exact ⟨f2.trans f25, f25.1 D _ hD2 nh, a2.mono (rpY.vs f25)⟩
    refine hg _ _ _ H3 y d _ _ (rpW.step (.same s3)) den go fun env' σ' rp' he' hl hk _ => ⟨wipe_of hl hk, ?_⟩
    refine ht _ env' σ' H3 _ _ _ rp' he' (fun b H4 f4 hb => ?_) xok_no
    cases b with
    | false =>
      rw [if_neg (by decide)] at hb ⊢
      obtain ⟨k1, k2, k3⟩ := step H4 f4
      exact ⟨by omega, k1, acc, us, k2, k3, hb⟩
    | true =>
      rw [if_pos rfl] at hb ⊢
      refine he _ env' σ' H4 _ _ _ (rp'.step f4) hb (fun y2 v2 H5 f5 den5 hb5 => ?_) xok_no
      obtain ⟨k1, k2, k3⟩ := step H5 (f4.trans f5)
      have sv : Same (vis H5 fun a => X a ∨ a = D) (vis (upd H5 D (.lst (us ++ [v2]))) fun a => X a ∨ a = D) := fun a o e => by
        obtain ⟨n1, e1⟩ := vis_of e
        exact vis_mk n1 (by rw [upd_ne fun z => n1 (.inr z)]; exact e1)
      refine ⟨us, k2, by rw [k3.length, sizeLine_eq]; exact hb5.1, by omega, frm_put rp1 hD k1, acc ++ [y2], us ++ [v2], upd_same, (k3.snoc den5).mono sv, hb5.2⟩
  · have e : ds.drop i = [] := List.drop_eq_nil_of_le (by omega)
    rw [e] at go
    exact .inl ⟨hw.2 (by omega), q _ _ H2 (f1.trans f2) ⟨D, us, acc, rfl, rfl, f1.free (fun h c e => (rp.hands h c e).2.2) hD, hD2, a2⟩ go⟩
def eYes : DTX := fun _ Q _ => Q true
theorem dt_yes {C : Bc} : DT C tYes eYes := fun X env σ H Q Qd Qx rp he q x => q true H (.refl H) he
/-! ### calls of defs of one's own -/
abbrev DFn := List Sl → (Dt → Prop) → (Xc → Prop) → Prop
def spD (K : PySem.W.Frag) (F : DFn) : Sp := fun vs H Q E => ∃ (X : Addr → Prop) (hd : Hnd) (args : List Sl) (Qd : Dt → Prop) (Qx : Xc → Prop), (∀ a, X a → ∃ o, H a = some o) ∧ (∀ h c, hd = some (h, c) → X h ∧ HandC H h c) ∧ SlAll K hd X H vs args ∧ F args Qd Qx ∧
  (∀ d v H', Frm hd H H' → Den K (vis H' X) v d → Qd d → Q v H') ∧ (∀ x cls dx H', Frm hd H H' → XRep K (vis H' X) cls dx x → Qx x → E cls dx H')
def Dvs (dvs : List V) (dd : List Sl) : Prop := ∀ (K : PySem.W.Frag) (hd : Hnd) (X : Addr → Prop) (H : Hp), SlAll K hd X H dvs dd
theorem dv_nil : Dvs [] [] := fun _ _ _ _ => .nil
def eCall (F : DFn) (dd : List Sl) (a : DSX) : DX := fun env Q E => a env (fun ss => F (ss ++ dd) Q E) E
def eCall0 (F : DFn) (dd : List Sl) (a : DSX) : DX := fun env Q E => a env (fun ss => F (ss ++ dd) Q fun _ => False) E
section
variable {C : Bc} {F : DFn} {dvs : List V} {dd : List Sl} {t : TA} {a : DSX}
theorem spD_use {X : Addr → Prop} {env : List Sl} {σ : L2.St} {H : Hp} {vs : List V} {ss : List Sl} {Q : VK} {E : XK} {Qd : Dt → Prop} {Qx : Xc → Prop} (rp : Rep C X env σ H) (r : SlAll C.K C.hd X H vs ss) (h : F ss Qd Qx)
    (q : ∀ d v H', Frm C.hd H H' → Den C.K (vis H' X) v d → Qd d → Q v H') (x : ∀ x cls dx H', Frm C.hd H H' → XRep C.K (vis H' X) cls dx x → Qx x → E cls dx H') : spD C.K F vs H Q E :=
  ⟨X, C.hd, ss, Qd, Qx, rp.al, fun h c e => ⟨rp.hX h c e, (rp.hands h c e).2.2⟩, r, h, q, x⟩
theorem de_call0 (hd : Dvs dvs dd) (ha : DAs C t a) : DE C (tCall (spD C.K F) dvs E0 t) (eCall0 F dd a) := by
  intro X env σ H Q Qd Qx rp he q x
  refine ha X env σ H _ _ Qx rp he (fun ss vs H1 f1 r1 he1 => ?_) x
  exact spD_use (rp.step f1) (SlAll.append r1 (hd C.K C.hd X H1)) he1 (fun d v H' f h => q d v H' (f1.trans f) h) fun _ _ _ _ _ _ z => z.elim
theorem de_call {E : XK} (hE : C.E = fun _ => E) (hd : Dvs dvs dd) (ha : DAs C t a) : DE C (tCall (spD C.K F) dvs E t) (eCall F dd a) := by
  intro X env σ H Q Qd Qx rp he q x
  refine ha X env σ H _ _ Qx rp he (fun ss vs H1 f1 r1 he1 => ?_) x
  exact spD_use (rp.step f1) (SlAll.append r1 (hd C.K C.hd X H1)) he1 (fun d v H' f h => q d v H' (f1.trans f) h) fun y cls dx H' f r z => by
    have := x y cls dx H' (f1.trans f) r z
    rw [hE] at this
    exact this
theorem de_callS {E : L2.St → XK} (hE : C.E = E) (ha : DAs C t a) : DE C (tCallS (spD C.K F) E t) (eCall F [] a) := by
  intro X env σ H Q Qd Qx rp he q x
  refine ha X env σ H _ _ Qx rp he (fun ss vs H1 f1 r1 he1 => ?_) x
  rw [List.append_nil] at he1
  exact spD_use (rp.step f1) r1 he1 (fun d v H' f h => q d v H' (f1.trans f) h) fun y cls dx H' f r z => by
    have := x y cls dx H' (f1.trans f) r z
    rw [hE] at this
    exact this
end
end Mine

namespace Mine
open PySem PySem.Spec PyProof.Rows L2
/-! ### statements, by data -/
structure DEn where
  nx : List Sl → Prop
  rt : Dt → Prop
  bk : List Sl → Prop
  ct : List Sl → Prop
  xc : List Sl → Xc → Prop
abbrev DSt := DEn → List Sl → Prop
/-- what is wanted at the ends, from a place on -/
structure Lnk (C : Bc) (X : Addr → Prop) (H : Hp) (D : Ends) (d : DEn) : Prop where
  nx : ∀ X' env σ H', Rep C X' env σ H' → Same (vis H X) (vis H' X') → d.nx env → D.nx σ H'
  rt : ∀ X' env σ H' v x, Rep C X' env σ H' → Same (vis H X) (vis H' X') → Den C.K (vis H' X') v x → d.rt x → D.rt v H'
  bk : ∀ X' env σ H', Rep C X' env σ H' → Same (vis H X) (vis H' X') → d.bk env → D.bk σ H'
  ct : ∀ X' env σ H', Rep C X' env σ H' → Same (vis H X) (vis H' X') → d.ct env → D.ct σ H'
  xc : ∀ X' env σ H' x cls dx, Rep C X' env σ H' → Same (vis H X) (vis H' X') → XRep C.K (vis H' X') cls dx x → d.xc env x → C.E σ cls dx H'
def DS (C : Bc) (t : TS) (s : DSt) : Prop := ∀ X env σ H D d, Rep C X env σ H → Lnk C X H D d → s d env → t D σ H
section
variable {C : Bc} {X X1 : Addr → Prop} {env : List Sl} {σ : L2.St} {H H1 : Hp} {D : Ends} {d : DEn}
theorem Lnk.step (l : Lnk C X H D d) (s : Same (vis H X) (vis H1 X1)) : Lnk C X1 H1 D d where
  nx := fun X' env σ H' r k h => l.nx X' env σ H' r (s.trans k) h
  rt := fun X' env σ H' v x r k a h => l.rt X' env σ H' v x r (s.trans k) a h
  bk := fun X' env σ H' r k h => l.bk X' env σ H' r (s.trans k) h
  ct := fun X' env σ H' r k h => l.ct X' env σ H' r (s.trans k) h
  xc := fun X' env σ H' x cls dx r k a h => l.xc X' env σ H' x cls dx r (s.trans k) a h
theorem Lnk.xok (l : Lnk C X H D d) (r : Rep C X env σ H) : XOk C X σ H (d.xc env) := fun x cls dx H' f a h => l.xc X env σ H' x cls dx (r.step f) (r.vs f) a h
end
def sNext : DSt := fun d env => d.nx env
def sSeq (a b : DSt) : DSt := fun d env => a { d with nx := b d } env
def sDrop (e : DX) : DSt := fun d env => e env (fun _ => d.nx env) (d.xc env)
def sRet (e : DX) : DSt := fun d env => e env d.rt (d.xc env)
def sRetN : DSt := fun d _ => d.rt .non
def sIf (c : DTX) (a b : DSt) : DSt := fun d env => c env (fun k => if k = true then a d env else b d env) (d.xc env)
def sBreak : DSt := fun d env => d.bk env
def sCont : DSt := fun d env => d.ct env
def sAsg (e : DX) (f : DGX) : DSt := fun d env => e env (fun x => f x env d.nx) (d.xc env)
/-- name = a new list, a list of one's own from now on -/
def sOwn (j : Nat) (e : DX) : DSt := fun d env => e env (fun x => match x with
  | .lst xs => d.nx (env.set j (.own (.lst xs)))
  | _ => False) (d.xc env)
def sPar (i j : Nat) (a : DAX) : DSt := fun d env => a env (fun ds => match ds with
  | [x, y] => d.nx ((env.set i (.d x)).set j (.d y))
  | _ => False) (d.xc env)
def sPar3 (i j l : Nat) (a : DAX) : DSt := fun d env => a env (fun ds => match ds with
  | [x, y, z] => d.nx (((env.set i (.d x)).set j (.d y)).set l (.d z))
  | _ => False) (d.xc env)
def frz (env : List Sl) (i : Nat) : List Sl := match env[i]? with
  | some (.own w) => env.set i (.d w.fz)
  | _ => env
def sFrz (i : Nat) (s : DSt) : DSt := fun d env => s d (frz env i)
section
variable {C : Bc} {t u : TS} {a b : DSt} {te : TE} {e : DX} {c : TT} {ec : DTX} {ta : TA} {ea : DAX} {g : TG} {f : DGX} {js : List Nat}
theorem dst_next : DS C tNext sNext := fun X env σ H D d r l h => l.nx X env σ H r (Same.refl _) h
theorem dst_seq (ha : DS C t a) (hb : DS C u b) : DS C (tSeq t u) (sSeq a b) := by
  intro X env σ H D d r l h
  refine ha X env σ H { D with nx := u D } { d with nx := b d } r ⟨fun X' env' σ' H' r' k h' => ?_, l.rt, l.bk, l.ct, l.xc⟩ h
  exact hb X' env' σ' H' D d r' (l.step k) h'
theorem dst_drop (he : DE C te e) : DS C (tDrop te) (sDrop e) := fun X env σ H D d r l h =>
  he X env σ H _ _ _ r h (fun x v H1 f1 _ h1 => l.nx X env σ H1 (r.step f1) (r.vs f1) h1) (l.xok r)
theorem dst_ret (he : DE C te e) : DS C (tRet te) (sRet e) := fun X env σ H D d r l h =>
  he X env σ H _ _ _ r h (fun x v H1 f1 r1 h1 => l.rt X env σ H1 v x (r.step f1) (r.vs f1) r1 h1) (l.xok r)
theorem dst_if (hc : DT C c ec) (ha : DS C t a) (hb : DS C u b) : DS C (tIfS c t u) (sIf ec a b) := by
  intro X env σ H D d r l h
  refine hc X env σ H _ _ _ r h (fun k H1 f1 h1 => ?_) (l.xok r)
  cases k with
  | true => rw [if_pos rfl] at h1 ⊢; exact ha X env σ H1 D d (r.step f1) (l.step (r.vs f1)) h1
  | false => rw [if_neg (by decide)] at h1 ⊢; exact hb X env σ H1 D d (r.step f1) (l.step (r.vs f1)) h1
theorem dst_asg (he : DE C te e) (hg : DG C g js f) : DS C (tAsg te g) (sAsg e f) := by
  intro X env σ H D d r l h
  refine he X env σ H _ _ _ r h (fun x v H1 f1 r1 h1 => ?_) (l.xok r)
  exact hg X env σ H1 v x _ _ (r.step f1) r1 h1 fun env' σ' r' h' _ _ _ => l.nx X env' σ' H1 r' (r.vs f1) h'
theorem dst_par {i j : Nat} (ha : DA C ta ea) : DS C (tPar i j ta) (sPar i j ea) := by
  intro X env σ H D d r l h
  refine ha X env σ H _ _ _ r h (fun ds vs H1 f1 r1 h1 => ?_) (l.xok r)
  split at h1
  · have r1 : DenAll C.K (vis H1 X) vs _ := r1
    cases r1 with
    | cons a1 r1 =>
      cases r1 with
      | cons a2 r1 =>
        cases r1
        exact ⟨_, _, rfl, l.nx X _ _ H1 (((r.step f1).set i a1).set j a2) (r.vs f1) h1⟩
  · exact h1.elim
end
/-! ### lists of one's own -/
section
variable {C : Bc} {X : Addr → Prop} {env : List Sl} {σ : L2.St} {H : Hp}
/-- slot j holds the new list p -/
theorem Rep.setOwn {H1 : Hp} {p : Addr} {vs : HO} {xs : Ow} (r : Rep C X env σ H) (f : Frm C.hd H H1) (n : H p = none) (j : Nat) (h1 : H1 p = some vs) (h2 : DenO C.K (vis H1 fun a => X a ∨ a = p) vs xs) :
    Rep C (fun a => X a ∨ a = p) (env.set j (.own xs)) (σ.set j (some (.ref p))) H1 := by
  have r0 := r.hide n f ⟨_, h1⟩
  refine ⟨by rw [List.length_set, List.length_set, r.len], r0.sup, r0.new, r0.al, r0.frm, r0.hands, fun i s e => ?_, r.ap.setF fun i t u a ne e1 e2 f1 f2 => ?_, r0.one.set fun _ _ _ z => by cases z⟩
  · rw [List.getElem?_set] at e ⊢
    by_cases c : j = i
    · subst c
      rw [if_pos rfl] at e ⊢
      by_cases hl : j < env.length
      · rw [if_pos hl] at e
        rw [if_pos (r.len ▸ hl)]
        cases e
        refine ⟨_, rfl, p, vs, rfl, .inr rfl, fun z => ?_, h1, h2⟩
        obtain ⟨o, e⟩ := r.al p (r.sup p z)
        rw [n] at e; cases e
      · rw [if_neg hl] at e; cases e
    · rw [if_neg c] at e ⊢
      exact r0.slot i s e
  · have : a = p := by injection f1 with f1; injection f1 with f1; exact f1.symm
    subst this
    exact r.nofoot n i t u e1 e2 f2
/-- the list in slot i is changed -/
theorem Rep.own {i : Nat} {p : Addr} {vs' : HO} {xs xs' : Ow} (r : Rep C X env σ H) (e : env[i]? = some (.own xs)) (es : σ[i]? = some (some (.ref p))) (x1 : X p) (x2 : ¬ C.X0 p) (h2 : DenO C.K (vis H X) vs' xs') :
    Rep C X (env.set i (.own xs')) σ (upd H p vs') ∧ Same (vis H X) (vis (upd H p vs') X) := by
  have sm : Same (vis H X) (vis (upd H p vs') X) := fun a o q => by
    obtain ⟨n1, e1⟩ := vis_of q
    exact vis_mk n1 (by rw [upd_ne (fun (z : a = p) => n1 (by rw [z]; exact x1))]; exact e1)
  have h0 : C.H0 p = none := (r.new p x1).resolve_left x2
  have fm : Frm C.hd C.H0 (upd H p vs') := by
    refine ⟨fun a u q k => ?_, fun h c q x => ?_⟩
    · rw [upd_ne (ne_of_none q h0)]; exact r.frm.1 a u q k
    · have y := r.frm.2 h c q x
      obtain ⟨_, _, _, _, a1, a2, _⟩ := x
      obtain ⟨cells, at_, big, mix, b1, b2, b3⟩ := y
      exact ⟨cells, at_, big, mix, by rw [upd_ne (ne_of_none a1 h0)]; exact b1, by rw [upd_ne (ne_of_none a2 h0)]; exact b2, b3⟩
  refine ⟨⟨by rw [List.length_set, r.len], r.sup, r.new, fun a z => ?_, fm, fun h c q => ⟨(r.hands h c q).1, (r.hands h c q).2.1, fm.2 h c q (r.hands h c q).2.1⟩, fun j s q => ?_, r.ap.setS fun o a e1 f => ⟨_, e, f⟩, r.one.set fun _ _ _ z => by cases z⟩, sm⟩
  · by_cases c : a = p
    · subst c; exact ⟨_, upd_same⟩
    · obtain ⟨o, q⟩ := r.al a z
      exact ⟨o, by rw [upd_ne c]; exact q⟩
  · rw [List.getElem?_set] at q
    by_cases c : i = j
    · subst c
      have hl : i < env.length := (List.getElem?_eq_some_iff.mp e).1
      rw [if_pos rfl, if_pos hl] at q
      cases q
      exact ⟨_, es, p, vs', rfl, x1, x2, upd_same, h2.mono sm⟩
    · rw [if_neg c] at q
      obtain ⟨o, e1, w⟩ := r.slot j s q
      refine ⟨o, e1, ?_⟩
      cases s with
      | no => trivial
      | d x => obtain ⟨v, e2, h⟩ := w; exact ⟨v, e2, h.mono sm⟩
      | own ys =>
        obtain ⟨p', us, rfl, y1, y2, y3, y4⟩ := w
        have ne : p' ≠ p := fun z => r.inj i j xs ys c e q (by rw [es, e1, z])
        exact ⟨p', us, rfl, y1, y2, by rw [upd_ne ne]; exact y3, y4.mono sm⟩
      | hand => exact w
      | exc c' fs => exact w.exc sm
      | ins C0 ns ds =>
        obtain ⟨p', dx, us, rfl, y1, y2, y3, yl, y4⟩ := w
        have ne : p' ≠ p := fun z => by
          obtain ⟨o2, es2, p2, us2, rfl, _, _, k2, k3⟩ := r.slot i _ e
          rw [es] at es2; cases es2
          rw [z, k2] at y3; cases y3; exact k3.noins
        exact ⟨p', dx, us, rfl, y1, y2, by rw [upd_ne ne]; exact y3, yl, y4.mono sm⟩
      | tab p2 qs rows => exact w.tab_to (fun _ _ x => x) (fun a ha u h => by rw [upd_ne (show a ≠ p from fun z => r.ap i j _ _ _ _ p c e q es e1 rfl (show p ∈ p2 :: qs from z ▸ ha))]; exact h) sm
      | st S n =>
        obtain ⟨p', rfl, y1, y2, y3⟩ := w
        exact ⟨p', rfl, y1, y2, by rw [upd_ne (fun z => r.ap i j _ _ _ _ p c e q es e1 rfl (show some (V.ref p') = some (V.ref p) by rw [z]))]; exact y3⟩
/-- the list in slot i is no longer one's own -/
theorem Rep.frz (r : Rep C X env σ H) (i : Nat) : ∃ X', Rep C X' (frz env i) σ H ∧ Same (vis H X) (vis H X') := by
  unfold Mine.frz
  split
  · rename_i xs e
    obtain ⟨o, es, p, vs, rfl, x1, x2, h1, h2⟩ := r.slot i _ e
    have hl : i < env.length := (List.getElem?_eq_some_iff.mp e).1
    have sm : Same (vis H X) (vis H fun a => X a ∧ a ≠ p) := vis_anti fun a z => z.1
    refine ⟨fun a => X a ∧ a ≠ p, ⟨by rw [List.length_set, r.len], fun a z => ⟨r.sup a z, fun q => x2 (q ▸ z)⟩, fun a z => r.new a z.1, fun a z => r.al a z.1, r.frm, r.hands, fun j s q => ?_, r.ap.setS fun _ _ _ f => f.elim, r.one.set fun _ _ _ z => by cases z⟩, sm⟩
    · rw [List.getElem?_set] at q
      by_cases c : i = j
      · subst c
        rw [if_pos rfl, if_pos hl] at q
        cases q
        exact ⟨_, es, _, rfl, (h2.mono sm).fz (vis_mk (fun z => z.2 rfl) h1)⟩
      · rw [if_neg c] at q
        obtain ⟨o, e1, w⟩ := r.slot j s q
        refine ⟨o, e1, ?_⟩
        cases s with
        | no => trivial
        | d x => obtain ⟨v, e2, h⟩ := w; exact ⟨v, e2, h.mono sm⟩
        | own ys =>
          obtain ⟨p', us, rfl, y1, y2, y3, y4⟩ := w
          have ne : p' ≠ p := fun z => r.inj i j xs ys c e q (by rw [es, e1, z])
          exact ⟨p', us, rfl, ⟨y1, ne⟩, y2, y3, y4.mono sm⟩
        | hand => exact w
        | exc c' fs => exact w.exc sm
        | ins C0 ns ds =>
          obtain ⟨p', dx, us, rfl, y1, y2, y3, yl, y4⟩ := w
          have ne : p' ≠ p := fun z => by rw [z, h1] at y3; cases y3; exact h2.noins
          exact ⟨p', dx, us, rfl, ⟨y1, ne⟩, y2, y3, yl, y4.mono sm⟩
        | tab p2 qs rows => exact w.tab_to (fun a ha x => ⟨x, fun z => r.ap i j _ _ _ _ p c e q es e1 rfl (show p ∈ p2 :: qs from z ▸ ha)⟩) (fun _ _ _ h => h) sm
        | st S n =>
          obtain ⟨p', rfl, y1, y2, y3⟩ := w
          exact ⟨p', rfl, ⟨y1, fun z => r.ap i j _ _ _ _ p c e q es e1 rfl (show some (V.ref p') = some (V.ref p) by rw [z])⟩, y2, y3⟩
  · exact ⟨X, r, Same.refl _⟩
theorem Rep.ownAt (r : Rep C X env σ H) {i : Nat} {xs : List Dt} (e : env[i]? = some (.own (.lst xs))) : ∃ p vs, σ[i]? = some (some (.ref p)) ∧ X p ∧ ¬ C.X0 p ∧ H p = some (.lst vs) ∧ DenAll C.K (vis H X) vs xs := by
  obtain ⟨o, es, p, u, rfl, x1, x2, h1, h2⟩ := r.slot i _ e
  cases h2 with
  | @lst vs _ a => exact ⟨p, vs, es, x1, x2, h1, a⟩
theorem Rep.ownAtO (r : Rep C X env σ H) {i : Nat} {w : Ow} (e : env[i]? = some (.own w)) : ∃ p u, σ[i]? = some (some (.ref p)) ∧ X p ∧ ¬ C.X0 p ∧ H p = some u ∧ DenO C.K (vis H X) u w := by
  obtain ⟨o, es, p, u, rfl, x1, x2, h1, h2⟩ := r.slot i _ e
  exact ⟨p, u, es, x1, x2, h1, h2⟩
end
/-- x.append(e) -/
def sApp (i : Nat) (e : DX) : DSt := fun d env => match env[i]? with
  | some (.own (.lst xs)) => e env (fun y => xs.length < LINE ∧ d.nx (env.set i (.own (.lst (xs ++ [y]))))) (d.xc env)
  | _ => False
/-- x.extend(e), e a list -/
def sExt (i : Nat) (e : DX) : DSt := fun d env => match env[i]? with
  | some (.own (.lst xs)) => e env (fun y => match y with
    | .lst ys => xs.length + ys.length ≤ LINE ∧ d.nx (env.set i (.own (.lst (xs ++ ys))))
    | _ => False) (d.xc env)
  | _ => False
/-- x.pop() -/
def sPop (i : Nat) : DSt := fun d env => match env[i]? with
  | some (.own (.lst xs)) => xs ≠ [] ∧ d.nx (env.set i (.own (.lst xs.dropLast)))
  | _ => False
/-- y = x.pop() -/
def sPopTo (i j : Nat) : DSt := fun d env => match env[i]? with
  | some (.own (.lst xs)) => ∃ y, xs[xs.length - 1]? = some y ∧ d.nx ((env.set i (.own (.lst xs.dropLast))).set j (.d y))
  | _ => False
/-- x[k] = e -/
def sPut (i : Nat) (ek e : DX) : DSt := fun d env => match env[i]? with
  | some (.own (.lst xs)) => e env (fun y => ek env (fun k => match k with
    | .int k => ∃ j, ixN xs.length k = some j ∧ d.nx (env.set i (.own (.lst (xs.set j y))))
    | _ => False) (d.xc env)) (d.xc env)
  | _ => False
/-- x[k] += e -/
def sAugP (f : Int → Int → Int) (i : Nat) (ek e : DX) : DSt := fun d env => match env[i]? with
  | some (.own (.lst xs)) => ek env (fun k => match k with
    | .int k => ∃ j z, ixN xs.length k = some j ∧ xs[j]? = some (.int z) ∧ e env (fun y => match y with
      | .int y => d.nx (env.set i (.own (.lst (xs.set j (.int (f z y))))))
      | _ => False) (d.xc env)
    | _ => False) (d.xc env)
  | _ => False
/-- x += e at a name that holds a whole number -/
def sAug (f : Int → Int → Int) (i : Nat) (e : DX) : DSt := fun d env => match env[i]? with
  | some (.d (.int x)) => e env (fun y => match y with
    | .int y => d.nx (env.set i (.d (.int (f x y))))
    | _ => False) (d.xc env)
  | _ => False
section
variable {C : Bc} {te tk : TE} {e ek : DX} {i : Nat}
theorem dst_own {j : Nat} (he : DF C te e) : DS C (tAsg te (gName j)) (sOwn j e) := by
  intro X env σ H D d r l h
  refine he X env σ H _ _ _ r h (fun x v H1 f1 r1 h1 => ?_) (l.xok r)
  obtain ⟨p, vs, ds, rfl, rfl, n, h2, h3⟩ := r1
  refine l.nx _ _ _ H1 (r.setOwn f1 n j h2 (.lst h3)) (fun a o q => ?_) h1
  obtain ⟨n1, e1⟩ := vis_of q
  exact vis_mk (fun z => z.elim n1 (ne_of_none e1 n)) (vis_of (r.vs f1 _ _ q)).2
theorem dst_frz {t : TS} {s : DSt} (i : Nat) (h : DS C t s) : DS C t (sFrz i s) := by
  intro X env σ H D d r l q
  obtain ⟨X', r', sm⟩ := r.frz i
  exact h X' _ σ H D d r' (l.step sm) q
theorem tyv_lst {K : PySem.W.Frag} {H : Hp} {p : Addr} {xs : List V} (h : H p = some (.lst xs)) : tyV K "list" (.ref p) H := .inl ⟨rfl, xs, .inl (.inl h)⟩
theorem dst_app (he : DE C te e) : DS C (tDrop (tBM C.K "list" rAppend (tVar i) (tCons te tNil))) (sApp i e) := by
  intro X env σ H D d r l h
  unfold sApp at h
  split at h
  · rename_i xs e1
    obtain ⟨p, vs, es, x1, x2, h1, h2⟩ := r.ownAt e1
    refine ⟨.ref p, es, tyv_lst h1, ?_⟩
    refine he X env σ H _ _ _ r h (fun y v H1 f1 r1 hy => ?_) (l.xok r)
    have k2 := h2.mono (r.vs f1)
    refine ⟨p, vs, v, rfl, rfl, f1.1 p _ h1 (r.nh x2), by rw [h2.length, sizeLine_eq]; exact hy.1, ?_⟩
    obtain ⟨r3, sm⟩ := (r.step f1).own e1 es x1 x2 (.lst (k2.snoc r1))
    exact l.nx _ _ _ _ r3 ((r.vs f1).trans sm) hy.2
  · exact h.elim
theorem dst_put (he : DE C te e) (hk : DE C tk ek) : DS C (tAsg te (gSub (tVar i) tk rSetL)) (sPut i ek e) := by
  intro X env σ H D d r l h
  unfold sPut at h
  split at h
  · rename_i xs e1
    refine he X env σ H _ _ _ r h (fun y v H1 f1 r1 hy => ?_) (l.xok r)
    have rp1 := r.step f1
    obtain ⟨p, vs, es, x1, x2, h1, h2⟩ := rp1.ownAt e1
    refine ⟨.ref p, es, ?_⟩
    refine hk X env σ H1 _ _ _ rp1 hy (fun k u H2 f2 r2 hk2 => ?_) ((l.xok r).step f1)
    split at hk2
    · obtain ⟨j, hj, hk2⟩ := hk2
      have k2 := h2.mono (rp1.vs f2)
      refine ⟨p, vs, _, j, rfl, r2.flat rfl, f2.1 p _ h1 (rp1.nh x2), by rw [h2.length]; exact hj, ?_⟩
      obtain ⟨r3, sm⟩ := (rp1.step f2).own e1 es x1 x2 (.lst (k2.set j (Den.mono (rp1.vs f2) r1)))
      exact l.nx _ _ _ _ r3 ((r.vs f1).trans ((rp1.vs f2).trans sm)) hk2
    · exact hk2.elim
  · exact h.elim
end
/-! ### loops -/
def dFor (f : DGX) (b : DSt) (d : DEn) : List Dt → List Sl → Prop
  | [], env => d.nx env
  | x :: xs, env => f x env fun env' => b { d with nx := dFor f b d xs, ct := dFor f b d xs, bk := d.nx } env'
def sFor (src : DAX) (f : DGX) (b : DSt) : DSt := fun d env => src env (fun ds => dFor f b d ds env) (d.xc env)
section
variable {C : Bc} {wi : TI} {g : TG} {tb : TS} {src : DAX} {f : DGX} {b : DSt} {js : List Nat} {tc : TT} {ec : DTX}
theorem dst_for (hi : DIg Strong C wi src) (hg : DG C g js f) (hb : DS C tb b) : DS C (tFor wi g tb) (sFor src f b) := by
  intro X env σ H D d r l h
  refine hi X env σ H _ _ _ r h (fun ds J H1 f1 w h1 => ?_) (l.xok r)
  have rp1 := r.step f1
  have l1 := l.step (r.vs f1)
  let W : Nat → Nat → L2.St → Hp → Prop := fun i m σ2 H2 => m + i = ds.length ∧ ∃ X2 env2, Rep C X2 env2 σ2 H2 ∧ Same (vis H1 X) (vis H2 X2) ∧ dFor f b d (ds.drop i) env2
  refine ⟨W, ⟨ds.length, rfl, X, env, rp1, Same.refl _, h1⟩, fun i m σ2 H2 ⟨hm, X2, env2, r2, s2, go⟩ => ?_⟩
  have hw := w X2 i H2 ⟨s2, r2.al⟩
  by_cases c : i < ds.length
  · obtain ⟨g1, g2⟩ := hw.1 c
    refine .inr ⟨g1, W (i + 1) (m - 1), fun σ' H' hW => ⟨m - 1, by omega, hW⟩, fun y H3 hy => ?_⟩
    obtain ⟨s3, x, hx, den⟩ := g2 y H3 hy
    have ed : ds.drop i = x :: ds.drop (i + 1) := by
      rw [List.drop_eq_getElem_cons c]
      congr 1
      rw [List.getElem?_eq_getElem c] at hx
      exact Option.some.inj hx
    rw [ed] at go
    have r3 := r2.step (.same s3)
    have s13 : Same (vis H1 X) (vis H3 X2) := s2.trans (r2.vs (.same s3))
    refine hg X2 env2 σ2 H3 y x _ _ r3 den go fun env' σ' r' h' _ _ _ => ?_
    refine hb X2 env' σ' H3 _ { d with nx := dFor f b d (ds.drop (i + 1)), ct := dFor f b d (ds.drop (i + 1)), bk := d.nx } r' ⟨fun X4 env4 σ4 H4 r4 s4 h4 => ⟨by omega, X4, env4, r4, s13.trans s4, h4⟩, fun X4 env4 σ4 H4 v z r4 s4 a h4 => l1.rt X4 env4 σ4 H4 v z r4 (s13.trans s4) a h4,
      fun X4 env4 σ4 H4 r4 s4 h4 => l1.nx X4 env4 σ4 H4 r4 (s13.trans s4) h4, fun X4 env4 σ4 H4 r4 s4 h4 => ⟨by omega, X4, env4, r4, s13.trans s4, h4⟩, fun X4 env4 σ4 H4 z cls dx r4 s4 a h4 => l1.xc X4 env4 σ4 H4 z cls dx r4 (s13.trans s4) a h4⟩ h'
  · have e : ds.drop i = [] := List.drop_eq_nil_of_le (by omega)
    rw [e] at go
    exact .inl ⟨hw.2 (by omega), l1.nx X2 env2 σ2 H2 r2 s2 go⟩
end
end Mine

namespace Mine
open PySem PySem.Spec PyProof.Rows L2
/-! ### raise -/
def sRaise (c : Str) : DSt := fun d env => d.xc env ⟨c, []⟩
def sRaise1 (c f : Str) (e : DX) : DSt := fun d env => e env (fun x => match x.flat with
  | some u => d.xc env ⟨c, [(f, u)]⟩
  | none => False) (d.xc env)
section
variable {C : Bc} {W : WX} {te : TE} {e : DX} {c f : Str}
theorem dst_raise (hW : C.E = WE W) : DS C (fun _ σ H => W (.ref (He.ga C.K c)) none σ H) (sRaise c) := by
  intro X env σ H D d r l h
  have := l.xc X env σ H ⟨c, []⟩ (.ref (He.ga C.K c)) none r (Same.refl _) ⟨rfl, rfl⟩ h
  rw [hW] at this
  exact this
theorem dst_raise1 (hW : C.E = WE W) (he : DE C te e) : DS C (fun _ σ H => tMk1 (He.ga C.K c) f te σ H fun cls d H' => W cls d σ H') (sRaise1 c f e) := by
  intro X env σ H D d r l h
  refine he X env σ H _ _ _ r h (fun x v H1 f1 r1 h1 => ?_) (l.xok r)
  split at h1
  · rename_i u eu
    have ev : v = u := Den.flat r1 eu
    subst ev
    intro dd H' s n hd
    have r2 := r.step f1
    have r3 : Rep C X env σ H' := r2.step (.same s)
    have := l.xc X env σ H' ⟨c, [(f, v)]⟩ (.ref (He.ga C.K c)) (some dd) r3 ((r.vs f1).trans (r2.vs (.same s))) ⟨rfl, dd, rfl, vis_mk (r2.free n) hd⟩ h1
    rw [hW] at this
    exact this
  · exact h1.elim
end
/-! ### try -/
def clr : Sl → Sl
  | .exc _ _ => .no
  | s => s
def bindS (env : List Sl) (o : Option Nat) (x : Xc) : List Sl := match o with
  | none => env.map clr
  | some i => (env.map clr).set i (.exc x.cls x.fs)
def endS (d : DEn) : Option Nat → DEn
  | none => { d with xc := fun _ _ => False }
  | some i => { nx := fun e => d.nx (e.set i .no), rt := d.rt, bk := fun e => d.bk (e.set i .no), ct := fun e => d.ct (e.set i .no), xc := fun _ _ => False }
/-- the clauses; mt: what is an instance of what -/
def dHs (mt : Str → Str → Option Bool) : List (Str × Option Nat × DSt) → DEn → List Sl → Xc → Prop
  | [], d, env, x => d.xc env x
  | (c, o, s) :: r, d, env, x => ∃ b, mt x.cls c = some b ∧ (if b = true then s (endS d o) (bindS env o x) else dHs mt r d env x)
def sTry (mt : Str → Str → Option Bool) (b : DSt) (hs : List (Str × Option Nat × DSt)) : DSt := fun d env => b { d with xc := fun e x => dHs mt hs d e x } env
abbrev Bc.wE (C : Bc) (E : L2.St → XK) : Bc := { C with E := E }
abbrev Bc.wX (C : Bc) (a : Addr) (cls : Value) (d : Option Addr) : Bc := { C with ex := some (a, cls, d) }
inductive HsOk (C : Bc) : List (Value × Option Nat × Suit) → List (Str × Option Nat × DSt) → Prop
  | nil : HsOk C [] []
  | cons {c : Str} {o : Option Nat} {ts : Suit} {s : DSt} {l : List (Value × Option Nat × Suit)} {hs : List (Str × Option Nat × DSt)} (h : ∀ a cls d, DS (C.wX a cls d) (ts a cls d) s) (r : HsOk C l hs) : HsOk C ((.ref (He.ga C.K c), o, ts) :: l) ((c, o, s) :: hs)
section
variable {C : Bc} {X : Addr → Prop} {env : List Sl} {σ : L2.St} {H : Hp}
theorem Rep.inE (r : Rep C X env σ H) (E : L2.St → XK) : Rep (C.wE E) X env σ H := ⟨r.len, r.sup, r.new, r.al, r.frm, r.hands, r.slot, r.ap, r.one⟩
theorem Rep.outE {E : L2.St → XK} (r : Rep (C.wE E) X env σ H) : Rep C X env σ H := ⟨r.len, r.sup, r.new, r.al, r.frm, r.hands, r.slot, r.ap, r.one⟩
theorem Rep.outX {a : Addr} {cls : Value} {d : Option Addr} (hex : C.ex = none) (r : Rep (C.wX a cls d) X env σ H) : Rep C X env σ H := by
  refine ⟨r.len, r.sup, r.new, r.al, r.frm, r.hands, fun i s e => ?_, r.ap, r.one⟩
  obtain ⟨o, e1, q⟩ := r.slot i s e
  refine ⟨o, e1, ?_⟩
  cases s with
  | exc c fs => unfold SlRep; rw [hex]; trivial
  | no => trivial
  | d x => exact q
  | own xs => exact q
  | hand => exact q
  | ins _ _ _ => exact q
  | tab _ _ _ => exact q
  | st _ _ => exact q
theorem Rep.inX (r : Rep C X env σ H) (a : Addr) (cls : Value) (d : Option Addr) : Rep (C.wX a cls d) X (env.map clr) σ H := by
  refine ⟨by rw [List.length_map]; exact r.len, r.sup, r.new, r.al, r.frm, r.hands, fun i s e => ?_, r.ap.map (fun s o a f => by cases s <;> first | exact f | exact f.elim), r.one.map fun s C ns ds z => by cases s <;> first | exact z | cases z⟩
  · rw [List.getElem?_map, Option.map_eq_some_iff] at e
    obtain ⟨s0, e, rfl⟩ := e
    obtain ⟨o, e1, q⟩ := r.slot i s0 e
    refine ⟨o, e1, ?_⟩
    cases s0 with
    | exc c fs => trivial
    | no => trivial
    | d x => exact q
    | own xs => exact q
    | hand => exact q
    | ins _ _ _ => exact q
    | tab _ _ _ => exact q
    | st _ _ => exact q
theorem Rep.excAt {a : Addr} {cls : Value} {d : Option Addr} (r : Rep (C.wX a cls d) X env σ H) (j : Nat) {c : Str} {fs : List (Str × V)} (h : SlRep (C.wX a cls d) X H (.exc c fs) (some (.ref a))) : Rep (C.wX a cls d) X (env.set j (.exc c fs)) (σ.set j (some (.ref a))) H where
  len := by rw [List.length_set, List.length_set, r.len]
  sup := r.sup
  new := r.new
  al := r.al
  frm := r.frm
  hands := r.hands
  slot := fun i s e => by
    rw [List.getElem?_set] at e ⊢
    by_cases c : j = i
    · subst c
      rw [if_pos rfl] at e ⊢
      by_cases hl : j < env.length
      · rw [if_pos hl] at e
        rw [if_pos (r.len ▸ hl)]
        cases e
        exact ⟨_, rfl, h⟩
      · rw [if_neg hl] at e; cases e
    · rw [if_neg c] at e ⊢
      exact r.slot i s e
  ap := r.ap.set fun _ f => f
  one := r.one.set fun _ _ _ z => by cases z
theorem hs_run {Wout : WX} {D : Ends} {d : DEn} {mt : Str → Str → Option Bool} (hW : C.E = WE Wout) (hex : C.ex = none) (hm : ∀ a b r, mt a b = some r → PySem.W.exmOne C.K (.ref (He.ga C.K a)) (.ref (He.ga C.K b)) = some r) :
    ∀ {l : List (Value × Option Nat × Suit)} {hs : List (Str × Option Nat × DSt)}, HsOk C l hs → ∀ {x : Xc} {cls : Value} {dx : Option Addr}, Rep C X env σ H → Lnk C X H D d → XRep C.K (vis H X) cls dx x → dHs mt hs d env x → wNamed C.K Wout D l cls dx σ H
  | _, _, .nil, x, cls, dx, r, k, xr, h => by
    have := k.xc X env σ H x cls dx r (Same.refl _) xr h
    rw [hW] at this
    exact this
  | _, _, @HsOk.cons _ c o ts s l hs hts rest, x, cls, dx, r, k, xr, ⟨b, hb, h⟩ => by
    obtain ⟨ec, ed⟩ := xr
    refine ⟨b, by rw [ec]; exact hm _ _ _ hb, fun eb a na => ?_, fun eb => ?_⟩
    · rw [if_pos eb] at h
      have rx := r.inX a cls dx
      cases o with
      | none =>
        refine hts a cls dx X _ σ H D (endS d none) rx ⟨fun X' env' σ' H' r' s' h' => k.nx X' env' σ' H' (r'.outX hex) s' h', fun X' env' σ' H' v z r' s' w h' => k.rt X' env' σ' H' v z (r'.outX hex) s' w h',
          fun X' env' σ' H' r' s' h' => k.bk X' env' σ' H' (r'.outX hex) s' h', fun X' env' σ' H' r' s' h' => k.ct X' env' σ' H' (r'.outX hex) s' h', fun _ _ _ _ _ _ _ _ _ _ h' => h'.elim⟩ h
      | some i =>
        have re : Rep (C.wX a cls dx) X (bindS env (some i) x) (σ.set i (some (.ref a))) H := by
          refine rx.excAt i ⟨rfl, ec, ?_⟩
          obtain ⟨xc, xf⟩ := x
          cases xf with
          | nil => exact .inl ⟨rfl, ed⟩
          | cons f fr => obtain ⟨a, e1, e2⟩ := ed; exact .inr ⟨a, e1, e2⟩
        refine hts a cls dx X _ (σ.set i (some (.ref a))) H _ (endS d (some i)) re ⟨fun X' env' σ' H' r' s' h' => k.nx X' _ _ H' ((r'.outX hex).unset i none) s' h', fun X' env' σ' H' v z r' s' w h' => k.rt X' env' σ' H' v z (r'.outX hex) s' w h',
          fun X' env' σ' H' r' s' h' => k.bk X' _ _ H' ((r'.outX hex).unset i none) s' h', fun X' env' σ' H' r' s' h' => k.ct X' _ _ H' ((r'.outX hex).unset i none) s' h', fun _ _ _ _ _ _ _ _ _ _ h' => h'.elim⟩ h
    · rw [if_neg (by rw [eb]; decide)] at h
      exact hs_run hW hex hm rest r k ⟨ec, ed⟩ h
theorem dst_try {Wout : WX} {tb : WX → TS} {l : List (Value × Option Nat × Suit)} {sb : DSt} {hs : List (Str × Option Nat × DSt)} {mt : Str → Str → Option Bool} (hW : C.E = WE Wout) (hex : C.ex = none)
    (hm : ∀ a b r, mt a b = some r → PySem.W.exmOne C.K (.ref (He.ga C.K a)) (.ref (He.ga C.K b)) = some r) (hb : ∀ W, DS (C.wE (WE W)) (tb W) sb) (hh : HsOk C l hs) : DS C (fun D σ H => tb (wNamed C.K Wout D l) D σ H) (sTry mt sb hs) := by
  intro X env σ H D d r k h
  refine hb _ X env σ H D { d with xc := fun e x => dHs mt hs d e x } (r.inE _) ⟨fun X' env' σ' H' r' s' h' => k.nx X' env' σ' H' r'.outE s' h', fun X' env' σ' H' v z r' s' w h' => k.rt X' env' σ' H' v z r'.outE s' w h',
    fun X' env' σ' H' r' s' h' => k.bk X' env' σ' H' r'.outE s' h', fun X' env' σ' H' r' s' h' => k.ct X' env' σ' H' r'.outE s' h', fun X' env' σ' H' x cls dx r' s' w h' => ?_⟩ h
  exact hs_run hW hex hm hh r'.outE (k.step s') w h'
/-! ### the exception in hand -/
def Dt.ofV : V → Dt
  | .non => .non
  | .bl b => .bl b
  | .int i => .int i
  | .str x => .str x
  | v => .raw v
theorem den_ofV {K : PySem.W.Frag} {H : Hp} : ∀ v : V, Den K H v (Dt.ofV v)
  | .non => .non
  | .bl b => .bl b
  | .int i => .int i
  | .str x => .str x
  | .byt b => .raw _
  | .flt b => .raw _
  | .ref b => .raw _
  | .ty b => .raw _
/-- e.f, e of the class c -/
def eXf (i : Nat) (c f : Str) : DX := fun env Q _ => match env[i]? with
  | some (.exc c' fs) => c' = c ∧ ∃ u, fs.lookup f = some u ∧ Q (Dt.ofV u)
  | _ => False
theorem de_xf {i : Nat} {c f : Str} {a : Addr} {cls : Value} {d : Option Addr} : DE (C.wX a cls d) (tXf a cls d (He.ga C.K c) f (tVar i)) (eXf i c f) := by
  intro X env σ H Q Qd Qx r he q x
  unfold eXf at he
  split at he
  · rename_i c' fs e
    obtain ⟨rfl, u, hu, he⟩ := he
    obtain ⟨o, e1, rfl, e2, e3⟩ := r.slot i _ e
    rcases e3 with ⟨rfl, _⟩ | ⟨dd, e4, e5⟩
    · cases hu
    · exact ⟨_, e1, rfl, e2, dd, fs, u, e4, vis_sub _ _ e5, hu, q _ _ H (.refl H) (den_ofV u) he⟩
  · exact he.elim
/-- isinstance(e, C) -/
def eIsX (i : Nat) (tab : Str → Option Bool) : DX := fun env Q _ => match env[i]? with
  | some (.exc c fs) => ∃ b, tab c = some b ∧ Q (.bl b)
  | _ => False
end
/-! ### a def by its data -/
/-- np parameters, N names in all -/
def mkD (np N : Nat) (s : DSt) : DFn := fun args Q E => args.length = np ∧ s ⟨fun _ => Q .non, Q, fun _ => False, fun _ => False, fun _ x => E x⟩ (args ++ List.replicate (N - np) .no)
def mkD0 (np N : Nat) (s : DSt) : DFn := fun args Q E => args.length = np ∧ s ⟨fun _ => Q .non, Q, fun _ => False, fun _ => False, fun _ _ => False⟩ (args ++ List.replicate (N - np) .no)
theorem spD_len {K : PySem.W.Frag} {F : DFn} {np : Nat} (hF : ∀ args Q E, F args Q E → args.length = np) : ∀ vs H Q E, spD K F vs H Q E → vs.length = np := by
  rintro vs H Q E ⟨X, hd, args, Qd, Qx, _, _, sl, h, _⟩
  rw [sl.length]; exact hF _ _ _ h
/-- where a body begins -/
theorem rep_start {K : PySem.W.Frag} {X : Addr → Prop} {hd : Hnd} {H : Hp} {E : L2.St → XK} {vs : List V} {args : List Sl} {N : List Str} (al : ∀ a, X a → ∃ o, H a = some o) (hh : ∀ h c, hd = some (h, c) → X h ∧ HandC H h c) (sl : SlAll K hd X H vs args) :
    Rep ⟨K, H, X, hd, none, E, none⟩ X (args ++ List.replicate (N.length - args.length) .no) (L2.start N vs) H := by
  have hl := sl.length
  have slots : ∀ {vs : List V} {args : List Sl}, SlAll K hd X H vs args → ∀ (i : Nat) (s : Sl), args[i]? = some s → (∃ o, (vs.map some)[i]? = some o ∧ SlRep ⟨K, H, X, hd, none, E, none⟩ X H s o) ∧ ∀ o a, ¬ Foot s o a := by
    intro vs args sl
    induction sl with
    | nil => intro i s e; simp at e
    | d a r ih =>
      intro i s e
      cases i with
      | zero => simp at e; subst e; exact ⟨⟨_, rfl, _, rfl, a⟩, fun _ _ f => f⟩
      | succ i =>
        obtain ⟨⟨o, q⟩, n⟩ := ih i s (by simpa using e)
        exact ⟨⟨o, by simpa using q⟩, n⟩
    | hand a r ih =>
      intro i s e
      cases i with
      | zero => simp at e; subst e; exact ⟨⟨_, rfl, _, _, rfl, a⟩, fun _ _ f => f⟩
      | succ i =>
        obtain ⟨⟨o, q⟩, n⟩ := ih i s (by simpa using e)
        exact ⟨⟨o, by simpa using q⟩, n⟩
  have slotsI : ∀ {vs : List V} {args : List Sl}, SlAll K hd X H vs args → ∀ (i : Nat) (C0 : Str) (ns : List Str) (ds : List Dt), args[i]? ≠ some (.ins C0 ns ds) := by
    intro vs args sl
    induction sl with
    | nil => intro i C0 ns ds e; simp at e
    | d a r ih =>
      intro i C0 ns ds e
      cases i with
      | zero => simp at e
      | succ i => exact ih i C0 ns ds (by simpa using e)
    | hand a r ih =>
      intro i C0 ns ds e
      cases i with
      | zero => simp at e
      | succ i => exact ih i C0 ns ds (by simpa using e)
  have noins : ∀ (i : Nat) (C0 : Str) (ns : List Str) (ds : List Dt), (args ++ List.replicate (N.length - args.length) Sl.no)[i]? ≠ some (.ins C0 ns ds) := fun i C0 ns ds e => by
    rw [List.getElem?_append] at e
    split at e
    · exact slotsI sl i C0 ns ds e
    · rw [List.getElem?_replicate] at e
      split at e <;> cases e
  have noown : ∀ (i : Nat) (s : Sl), (args ++ List.replicate (N.length - args.length) Sl.no)[i]? = some s → ∀ o a, ¬ Foot s o a := fun i s e => by
    rw [List.getElem?_append] at e
    split at e
    · exact (slots sl i _ e).2
    · rw [List.getElem?_replicate] at e
      split at e
      · cases e; exact fun _ _ f => f
      · cases e
  refine ⟨?_, fun a z => z, fun a z => .inl z, al, .refl H, fun h c e => ⟨(hh h c e).1, (hh h c e).2, (hh h c e).2⟩, fun i s e => ?_, .none noown, fun i ⟨C0, ns, ds, e⟩ => absurd e (noins i C0 ns ds)⟩
  · unfold L2.start
    rw [List.length_append, List.length_append, List.length_replicate, List.length_replicate, List.length_map, hl]
  · unfold L2.start
    rw [List.getElem?_append] at e ⊢
    rw [List.length_map, hl]
    split at e
    · rename_i c
      rw [if_pos c]
      obtain ⟨⟨o, q⟩, _⟩ := slots sl i s e
      exact ⟨o, q⟩
    · rename_i c
      rw [if_neg c]
      rw [List.getElem?_replicate] at e ⊢
      split at e
      · rename_i c2
        cases e
        rw [if_pos c2]
        exact ⟨_, rfl, trivial⟩
      · cases e
/-- the reading of a whole body -/
theorem body_of {K : PySem.W.Frag} {N : List Str} {np n : Nat} {sb : DSt} {t : TS} {vs : List V} {H : Hp} {Q : VK} {E : XK} (hn : N.length = n) (h : spD K (mkD np n sb) vs H Q E)
    (hb : ∀ X hd, DS ⟨K, H, X, hd, none, fun _ => E, none⟩ t sb) : t { nx := fun _ H' => Q .non H', rt := Q } (L2.start N vs) H := by
  obtain ⟨X, hd, args, Qd, Qx, al, hh, sl, ⟨ha, h⟩, q, x⟩ := h
  have r := rep_start (N := N) (E := fun _ => E) al hh sl
  rw [ha, hn] at r
  refine hb X hd X _ _ H _ _ r ⟨fun X' env σ H' r' s' h' => q _ _ H' r'.frm .non h', fun X' env σ H' v z r' s' w h' => q z v H' r'.frm (w.mono (vis_anti r'.sup)) h', fun _ _ _ _ _ _ (h' : False) => h'.elim, fun _ _ _ _ _ _ (h' : False) => h'.elim, fun X' env σ H' z cls dx r' s' w h' => x z cls dx H' r'.frm (w.mono (vis_anti r'.sup)) h'⟩ h
theorem body_of0 {K : PySem.W.Frag} {N : List Str} {np n : Nat} {sb : DSt} {t : TS} {vs : List V} {H : Hp} {Q : VK} {E : XK} (hn : N.length = n) (h : spD K (mkD0 np n sb) vs H Q E)
    (hb : ∀ X hd, DS ⟨K, H, X, hd, none, fun _ _ _ _ => False, none⟩ t sb) : t { nx := fun _ H' => Q .non H', rt := Q } (L2.start N vs) H := by
  obtain ⟨X, hd, args, Qd, Qx, al, hh, sl, ⟨ha, h⟩, q, x⟩ := h
  have r := rep_start (N := N) (E := fun _ _ _ _ => False) al hh sl
  rw [ha, hn] at r
  refine hb X hd X _ _ H _ _ r ⟨fun X' env σ H' r' s' h' => q _ _ H' r'.frm .non h', fun X' env σ H' v z r' s' w h' => q z v H' r'.frm (w.mono (vis_anti r'.sup)) h', fun _ _ _ _ _ _ (h' : False) => h'.elim, fun _ _ _ _ _ _ (h' : False) => h'.elim, fun _ _ _ _ _ _ _ _ _ _ (h' : False) => h'.elim⟩ h
end Mine

namespace Mine
open PySem PySem.Spec PyProof.Rows L2
/-! ### comprehensions of two clauses -/
def lcIn (f : DGX) (tt : DTX) (te : DX) (env : List Sl) (K : List Dt → Prop) : List Dt → List Dt → Prop
  | [], acc => K acc
  | x :: xs, acc => f x env fun env' => tt env' (fun b => if b = true then te env' (fun y => acc.length < LINE ∧ lcIn f tt te env K xs (acc ++ [y])) (fun _ => False) else lcIn f tt te env K xs acc) fun _ => False
def lcGo2 (f : DGX) (tt : DTX) (src1 : DAX) (f1 : DGX) (tt1 : DTX) (te : DX) (vs1 : List Nat) (env : List Sl) (Q : Dt → Prop) : List Dt → List Dt → Prop
  | [], acc => Q (.lst acc)
  | x :: xs, acc => f x env fun env' => tt env' (fun b => if b = true then src1 env' (fun ds1 => lcIn f1 tt1 te (wipeS env' vs1) (fun acc' => lcGo2 f tt src1 f1 tt1 te vs1 env Q xs acc') ds1 acc) (fun _ => False)
      else lcGo2 f tt src1 f1 tt1 te vs1 env Q xs acc) fun _ => False
def eLc2 (src : DAX) (f : DGX) (tt : DTX) (src1 : DAX) (f1 : DGX) (tt1 : DTX) (te : DX) (vs1 vs : List Nat) : DX := fun env Q E => src env (fun ds => lcGo2 f tt src1 f1 tt1 te vs1 (wipeS env vs) Q ds []) E
section
variable {C : Bc} {X : Addr → Prop} {env : List Sl} {σ : L2.St} {H : Hp}
end
/-! ### not, by truth -/
def eNotVT (a : DX) : DX := fun env Q E => a env (fun d => dTru d fun c => Q (.bl (!c))) E
end Mine

namespace Mine
open PySem PySem.Spec PyProof.Rows L2
/-! ### the hand -/
/-- the hand at h: its cells at c -/
def HandAt (H : Hp) (h : Addr) : Prop := ∃ (c : Addr) (cells : List Int) (at_ : Nat) (big mix : Int), H h = some (.lst [.ref c, .int at_, .int big, .int mix]) ∧ H c = some (.lst (cells.map V.int)) ∧
  (∀ z ∈ cells, 0 ≤ z) ∧ at_ ≤ cells.length ∧ cells.length ≤ 63 ∧ 0 ≤ big ∧ 0 ≤ mix ∧ mix < 2147483563
def sp_hand (K : PySem.W.Frag) : Sp := fun vs H Q _ => ∃ (a : Addr) (ns : List Int), vs = [.ref a] ∧ SqL K H a (ns.map V.int) ∧ ns.length ≤ 63 ∧ ∀ H' h, Same H H' → H h = none → HandAt H' h → Q (.ref h) H'
def i_hand (H : Hp) (a c : Addr) (i : Nat) (σ : L2.St) (H' : Hp) : Prop := ∃ (tot : Int) (v3 : Option V) (cells : List Int), σ = [some (.ref a), some (.int tot), some (.ref c), v3] ∧ cells.length = i ∧ H' c = some (.lst (cells.map V.int)) ∧
  (∀ z ∈ cells, 0 ≤ z) ∧ Same H H' ∧ 0 ≤ tot ∧ tot < 2147483563
def mixedN (n t : Int) : Int :=
  ((((n * 39373 + t * 6151 + 50021) % 2147483399 * ((n * 39373 + t * 6151 + 50021) % 2147483399) + t * 81071 + (n * 39373 + t * 6151 + 50021) % 2147483399 / 137) % 2147483629 * 62089 +
    (n * 39373 + t * 6151 + 50021) % 2147483399 / 11) % 2147483587) / 64
theorem mixedN_pos (n t : Int) : 0 ≤ mixedN n t := Int.ediv_nonneg (Int.emod_nonneg _ (by decide)) (by decide)
def sp_mixed : Sp := fun vs H Q _ => ∃ n t : Int, vs = [.int n, .int t] ∧ (-(2 ^ 40) < n ∧ n < 2 ^ 40 ∧ -(2 ^ 40) < t ∧ t < 2 ^ 40) ∧ ∀ r, 0 ≤ r → Q (.int r) H
/-- what a drawing may make of the hand -/
def HandN (H : Hp) (h : Addr) (o : HO) : Prop := HandAt (upd H h o) h ∧ ∃ c r r', H h = some (.lst (V.ref c :: r)) ∧ o = .lst (V.ref c :: r')
def sp_take : Sp := fun vs H Q _ => ∃ (h : Addr) (m : Int), vs = [.ref h, .int m] ∧ HandAt H h ∧ 0 < m ∧ m < 115792089237316195423570985008687907853269984665640564039457584007913129639936 ∧ ∀ r o, 0 ≤ r → r < m → HandN H h o → Q (.int r) (upd H h o)
/-- a drawing, by data: any number below m -/
def F_law_take : DFn := fun args Q _ => match args with
  | [.hand, .d (.int m)] => (0 < m ∧ m < 115792089237316195423570985008687907853269984665640564039457584007913129639936) ∧ ∀ r : Nat, (r : Int) < m → Q (.int r)
  | _ => False
theorem take_spD {K : PySem.W.Frag} : ∀ vs H Q E, spD K F_law_take vs H Q E → sp_take vs H Q E := by
  rintro vs H Q E ⟨X, hd, args, Qd, Qx, al, hh, sl, hF, q, _⟩
  unfold F_law_take at hF
  split at hF
  · obtain ⟨⟨h1, h2⟩, hr⟩ := hF
    cases sl with
    | @hand h c vs ss e sl =>
      cases sl with
      | d den sl =>
        cases sl
        have ev := den.flat rfl
        subst ev
        obtain ⟨xh, cells, at_, big, mix, hH, hC, r⟩ := hh h c e
        refine ⟨h, _, rfl, ⟨c, cells, at_, big, mix, hH, hC, r⟩, h1, h2, fun z o z1 z2 hn => ?_⟩
        obtain ⟨⟨c2, cells2, at2, big2, mix2, hH2, hC2, rr⟩, c3, r1, r2, e1, rfl⟩ := hn
        rw [hH] at e1
        rw [upd_same] at hH2
        cases e1
        cases hH2
        have := q (.int z) (.int z) (upd H h (.lst [V.ref c, .int at2, .int big2, .int mix2])) ⟨fun b u eb nb => by rw [upd_ne (nb h c e)]; exact eb, fun h' c' e' _ => by
          rw [e] at e'
          cases e'
          exact ⟨cells2, at2, big2, mix2, upd_same, hC2, rr⟩⟩ (.int _) (by have := hr z.toNat (by omega); rwa [Int.toNat_of_nonneg z1] at this)
        exact this
  · exact hF.elim
/-! ### the law itself -/
def sp_law (K : PySem.W.Frag) : Sp := fun vs H Q _ => ∃ (a : Addr) (ns : List Int), vs = [.ref a] ∧ SqL K H a (ns.map V.int) ∧ ns.length ≤ 63 ∧ ∀ H', Q (.bl true) H'
/-- what is left of a law: its text behind the hand's making gives True, whatever is drawn -/
def LawGoal (n : Nat) (s : DSt) : Prop := s ⟨fun _ => False, fun d => d = .bl true, fun _ => False, fun _ => False, fun _ _ => False⟩ (.no :: .hand :: List.replicate n .no)
theorem body_law {K : PySem.W.Frag} {N : List Str} {n : Nat} {sb : DSt} {t : TS} {vs : List V} {H : Hp} {Q : VK} {E : XK} (hn : N.length = n + 2) (h : sp_law K vs H Q E) (g : LawGoal n sb)
    (hb : ∀ H X hd, DS ⟨K, H, X, hd, none, fun _ _ _ _ => False, none⟩ t sb) : tSeq (tAsg (tCall (sp_hand K) [] E0 (tCons (tVar 0) tNil)) (gName 1)) t { nx := fun _ H' => Q .non H', rt := Q } (L2.start N vs) H := by
  obtain ⟨a, ns, rfl, hS, hl, q⟩ := h
  refine ⟨.ref a, rfl, a, ns, rfl, hS, hl, fun H' h s hn' hA => ?_⟩
  obtain ⟨c, cells, at_, big, mix, hH, hC, r⟩ := hA
  have hc : HandC H' h c := ⟨cells, at_, big, mix, hH, hC, r⟩
  have es : (L2.start N [V.ref a]).set 1 (some (.ref h)) = some (.ref a) :: some (.ref h) :: List.replicate n none := by
    unfold L2.start
    have e : N.length - 1 = n + 1 := by omega
    show (some (V.ref a) :: List.replicate (N.length - 1) none).set 1 _ = _
    rw [e]
    rfl
  have rp : Rep ⟨K, H', fun z => z = h, some (h, c), none, fun _ _ _ _ => False, none⟩ (fun z => z = h) (.no :: .hand :: List.replicate n .no) ((L2.start N [V.ref a]).set 1 (some (.ref h))) H' := by
    rw [es]
    refine ⟨by simp, fun z e => e, fun z e => .inl e, fun z e => ⟨.lst [V.ref c, V.int ↑at_, V.int big, V.int mix], by rw [show z = h from e]; exact hH⟩, .refl _, fun h' c' e => ?_, fun i sl e => ?_, .none fun i s e1 => ?_, fun i ⟨C0, ns0, ds0, e1⟩ => ?_⟩
    · cases e; exact ⟨rfl, hc, hc⟩
    · match i, e with
      | 0, e => cases e; exact ⟨_, rfl, trivial⟩
      | 1, e => cases e; exact ⟨_, rfl, h, c, rfl, rfl⟩
      | i + 2, e =>
        have e : (List.replicate n Sl.no)[i]? = some sl := e
        rw [List.getElem?_replicate] at e
        split at e
        · rename_i hi
          cases e
          exact ⟨none, by show (List.replicate n none)[i]? = _; rw [List.getElem?_replicate, if_pos hi], trivial⟩
        · cases e
    · match i, e1 with
      | 0, e1 => cases e1; exact fun _ _ f => f
      | 1, e1 => cases e1; exact fun _ _ f => f
      | i + 2, e1 =>
        have e1 : (List.replicate n Sl.no)[i]? = some s := e1
        rw [List.getElem?_replicate] at e1
        split at e1
        · cases e1; exact fun _ _ f => f
        · cases e1
    · match i, e1 with
      | 0, e1 => rfl
      | 1, e1 => cases e1
      | i + 2, e1 =>
        have e1 : (List.replicate n Sl.no)[i]? = some (.ins C0 ns0 ds0) := e1
        rw [List.getElem?_replicate] at e1
        split at e1 <;> cases e1
  refine hb _ _ _ _ _ _ _ { nx := fun _ H' => Q .non H', rt := Q } _ rp ⟨fun _ _ _ _ _ _ (h' : False) => h'.elim, fun X' env σ H2 v z r' s' w h' => ?_, fun _ _ _ _ _ _ (h' : False) => h'.elim, fun _ _ _ _ _ _ (h' : False) => h'.elim, fun _ _ _ _ _ _ _ _ _ _ (h' : False) => h'.elim⟩ g
  have h' : z = .bl true := h'
  subst h'
  have ev := w.flat rfl
  subst ev
  exact q H2
/-! ### monotone, for errors' fields -/
end Mine

namespace Mine
open PySem PySem.Spec PyProof.Rows L2
/-! ### zip of two lists, two tuples, a tuple and a list -/
/-- by data; two lists, two tuples, a tuple and a list -/
def eZip (a b : DX) : DAX := fun env Q E => a env (fun d1 => b env (fun d2 => match d1, d2 with
  | .lst xs, .lst ys => Q (List.zipWith (fun x y => .tup [x, y]) xs ys)
  | .tup xs, .lst ys => xs.length = ys.length ∧ Q (List.zipWith (fun x y => .tup [x, y]) xs ys)
  | .tup xs, .tup ys => xs.length = ys.length ∧ Q (List.zipWith (fun x y => .tup [x, y]) xs ys)
  | _, _ => False) E) E
section
variable {C : Bc}
end
end Mine
namespace Mine
open PySem PySem.Spec PyProof.Rows L2
theorem ix_U {X : Cx} {K : PySem.W.Frag} (e : X.K = K) : IxR X (rIx K) := e ▸ ix_seq
end Mine
namespace Mine
open PySem PySem.Spec PyProof.Rows L2
theorem op_eqU {X : Cx} {K : PySem.W.Frag} (e : X.K = K) (hu : X.A.units + 64 < cLine) : OpR X (compareOp .Eq) (rEqD K) := e ▸ op_eqD hu
theorem op_neU {X : Cx} {K : PySem.W.Frag} (e : X.K = K) (hu : X.A.units + 64 < cLine) : OpR X (compareOp .NotEq) (rNeD K) := e ▸ op_neD hu
end Mine
namespace Mine
open PySem PySem.Spec PyProof.Rows L2
theorem dst_of {C : Bc} {t : TS} {s s' : DSt} (e : s = s') (h : DS C t s') : DS C t s := e ▸ h
end Mine

namespace L2
open PySem PySem.Spec PyProof.Rows
end L2
namespace Mine
open PySem PySem.Spec PyProof.Rows L2
/-! ### enumerate(t, start=k), t a tuple -/
end Mine
namespace Mine
open PySem PySem.Spec PyProof.Rows L2
def eEnumK (k : Nat) (a : DAX) : DAX := fun env Q E => a env (fun ds => match ds with
  | [.tup xs] => Q (xs.mapIdx fun i x => .tup [.int ((k : Int) + (i : Nat)), x])
  | _ => False) E
section
variable {C : Bc} {R : RR} {S : SS} {tl : TE} {el : DX}
end
/-! ### all, any -/
section
variable {C : Bc}
end
/-! ### a written dict of one pair of whole numbers -/
def eDk1 (k v : Int) : DX := fun _ Q _ => Q (.dk [.inl k] [.int v])
/-! ### sorted(set(rows)), sorted(rows): words of one length -/
def rSortedR (K : PySem.W.Frag) : List V → Hp → VK → Prop := fun vs H Q => ∃ (a : Addr) (L : List (Addr × List Int)) (d : Nat) (B : Int), vs = [V.ref a] ∧ SqL K H a (L.map fun q => V.ref q.1) ∧ (∀ p ∈ L, SqT K H p.1 (p.2.map V.int)) ∧ 1 ≤ d ∧
  (∀ p ∈ L, p.2.length = d ∧ TS.Bd B p.2) ∧ L.length < 64 ∧
  ∀ (L' : List (Addr × List Int)) (p : Addr), (∀ q, q ∈ L' → q ∈ L) → (L'.map fun q => V.ref q.1).Perm (L.map fun q => V.ref q.1) → L'.Pairwise (fun q r => TS.code B q.2 ≤ TS.code B r.2) → H p = none → Q (.ref p) (upd H p (.lst (L'.map fun q => V.ref q.1)))
theorem cr_sortedR {X : Cx} : CallR X (.builtin "sorted") (rSortedR X.K) := by
  intro pins s σ H vs us Q I r h
  obtain ⟨a, L, d, B, rfl, ha, hk, hd, hB, few, q⟩ := h
  obtain ⟨its, rv, pl, hz⟩ := I.list ha
  have ei := refs_of_vals rv
  rw [Vals.ref1 r]
  have tk : ∀ q ∈ L, TS.TupInts s.heap (.ref q.1) q.2 := fun q hq => tupInts_of (P := X.prog) (w := X.w) (I.isT (hk q hq))
  have x : TS.TupsOk s.heap d B its := fun v hv => by
    rw [ei] at hv
    obtain ⟨q, hq, e⟩ := List.mem_map.mp hv
    rw [← e]
    exact ⟨q.2, tk q hq, (hB q hq).1, (hB q hq).2⟩
  refine TS.sorted_tups (d := d) (B := B) (by simpa using pl.isList) (by rw [ei, List.length_map]; exact few) hd x fun out a1 a2 => ?_
  have ord : ∀ vs : List Value, (∀ v ∈ vs, ∃ q ∈ L, v = Value.ref q.1) → ∃ L1 : List (Addr × List Int), vs = L1.map (fun q => Value.ref q.1) ∧ ∀ q ∈ L1, q ∈ L := by
    intro vs
    induction vs with
    | nil => intro _; exact ⟨[], rfl, fun q hq => (by cases hq)⟩
    | cons v vs ih =>
      intro hv
      obtain ⟨q, hq, e⟩ := hv v List.mem_cons_self
      obtain ⟨L1, e1, hs⟩ := ih fun u hu => hv u (List.mem_cons_of_mem _ hu)
      refine ⟨q :: L1, by rw [List.map_cons, e, e1], fun r hr => ?_⟩
      rcases List.mem_cons.mp hr with z | z
      · rw [z]; exact hq
      · exact hs r z
  obtain ⟨L', e', hs'⟩ := ord out.toList fun v hv => by
    have := a1.mem_iff.mp hv
    rw [ei] at this
    obtain ⟨q, hq, e⟩ := List.mem_map.mp this
    exact ⟨q, hq, e.symm⟩
  have pw : L'.Pairwise (fun q r => TS.code B q.2 ≤ TS.code B r.2) := by
    rw [e'] at a2
    refine List.Pairwise.imp_of_mem (fun {q r} hq hr hle => ?_) (List.pairwise_map.mp a2)
    have f1 : TS.intsOf s.heap (.ref q.1) = q.2 := (tk q (hs' q hq)).ints
    have f2 : TS.intsOf s.heap (.ref r.1) = r.2 := (tk r (hs' r hr)).ints
    rw [← f1, ← f2]
    exact hle
  have pm : (L'.map fun q => V.ref q.1).Perm (L.map fun q => V.ref q.1) := by
    have : (L'.map fun q => Value.ref q.1).Perm (L.map fun q => Value.ref q.1) := by rw [← e', ← ei]; exact a1
    have := this.map (fun v : Value => match v with | .ref a => V.ref a | _ => V.non)
    rw [List.map_map, List.map_map] at this
    exact this
  obtain ⟨ep, he'⟩ := PyProof.Rows.sortedAll_at s.heap its out
  have hlen : (L'.map fun q => V.ref q.1).length ≤ sizeLine := by rw [pm.length_eq, List.length_map, sizeLine_eq]; omega
  exact ⟨.ref _, upd H (s.heap.objs.size + 1) (.lst (L'.map fun q => V.ref q.1)), I.laid (t' := s.toks) (fun _ _ => PyProof.Rows.sortedAll_old) (Nat.le_succ _) ⟨hlen, out.toList, ep, by rw [e']; exact vals_of_refs L', he'⟩, rfl, q L' _ hs' pm pw (I.hok.fresh (Nat.le_succ _))⟩
end Mine
namespace Mine
open PySem PySem.Spec PyProof.Rows L2
theorem DenAll.rows {K : PySem.W.Frag} {H : Hp} : ∀ {vs : List V} {ws : List (List Int)}, DenAll K H vs (ws.map fun w => Dt.tup (w.map .int)) → ∃ L : List (Addr × List Int), vs = L.map (fun q => V.ref q.1) ∧ L.map (·.2) = ws ∧ ∀ q ∈ L, H q.1 = some (.tup (q.2.map V.int))
  | _, [], .nil => ⟨[], rfl, rfl, fun _ h => by cases h⟩
  | _, w :: ws, .cons a b => by
    obtain ⟨L, e1, e2, h⟩ := DenAll.rows b
    obtain ⟨p, vs, rfl, hp, av⟩ := a.tupI
    rw [av.ints_of] at hp
    exact ⟨(p, w) :: L, by rw [List.map_cons, e1], by rw [List.map_cons, e2], fun q hq => by
      rcases List.mem_cons.mp hq with e | e
      · rw [e]; exact hp
      · exact h q e⟩
theorem DenAll.of_rows {K : PySem.W.Frag} {H : Hp} : ∀ {L : List (Addr × List Int)}, (∀ q ∈ L, H q.1 = some (.tup (q.2.map V.int))) → DenAll K H (L.map fun q => V.ref q.1) ((L.map (·.2)).map fun w => Dt.tup (w.map .int))
  | [], _ => .nil
  | q :: L, h => .cons (.tup (h q List.mem_cons_self) (DenAll.ints _)) (DenAll.of_rows fun r hr => h r (List.mem_cons_of_mem _ hr))
def intV : V → Int
  | .int i => i
  | _ => 0
noncomputable def rowAt (H : Hp) : V → List Int
  | .ref a => match H a with | some (.tup vs) => vs.map intV | _ => []
  | _ => []
def dSortedR : DL := fun ds Q => match ds with
  | [.lst xs] => ∃ (ws : List (List Int)) (d : Nat) (B : Int), xs = ws.map (fun w => Dt.tup (w.map .int)) ∧ ws.length < 64 ∧ 1 ≤ d ∧ Even d B ws ∧ ∀ ws' : List (List Int), ws'.Perm ws → ws'.Pairwise (fun x y => TS.code B x ≤ TS.code B y) → Q (.lst (ws'.map fun w => Dt.tup (w.map .int)))
  | _ => False
section
variable {C : Bc} {X : Addr → Prop} {env : List Sl} {σ : L2.St} {H H1 : Hp}
/-- a new list of tuples that were there -/
theorem fsh_rows {p : Addr} {L L' : List (Addr × List Int)} (rp : Rep C X env σ H) (hp : H1 p = none) (f : Frm C.hd H H1) (hL : ∀ q ∈ L, vis H X q.1 = some (.tup (q.2.map V.int))) (hs : ∀ q ∈ L', q ∈ L) :
    Fsh C X H (upd H1 p (.lst (L'.map fun q => V.ref q.1))) (.ref p) (.lst ((L'.map (·.2)).map fun w => Dt.tup (w.map .int))) := by
  have rp1 := rp.step f
  exact (fsh_new rp1 hp (DenAll.of_rows fun q hq => rp.vs f _ _ (hL q (hs q hq)))).frm rp f
theorem Bor.rows {v : V} {ws : List (List Int)} {H0 : Hp} (h : Bor C X H0 H v (.lst (ws.map fun w => Dt.tup (w.map .int)))) : ∃ (p : Addr) (L : List (Addr × List Int)), v = .ref p ∧ H p = some (.lst (L.map fun q => V.ref q.1)) ∧ L.map (·.2) = ws ∧ ∀ q ∈ L, vis H X q.1 = some (.tup (q.2.map V.int)) := by
  obtain ⟨p, vs, rfl, h1, a⟩ := h.lst
  obtain ⟨L, rfl, e, hL⟩ := a.rows
  exact ⟨p, L, rfl, h1, e, hL⟩
theorem cg_sortedR : CallG Fsh C (rSortedR C.K) dSortedR := by
  intro X env σ H vs ds Q Qd rp ra he q
  unfold dSortedR at he
  split at he
  · obtain ⟨v, rfl, r1⟩ := ra.one
    obtain ⟨ws, d, B, rfl, few, hd, ev, he⟩ := he
    obtain ⟨p, L, rfl, h1, e, hL⟩ := r1.rows
    have hlen : L.length = ws.length := by rw [← e, List.length_map]
    refine ⟨p, L, d, B, rfl, .inl (.inl h1), fun q hq => .inl (.inl (vis_sub _ _ (hL q hq))), hd, fun q hq => ev q.2 (e ▸ List.mem_map.mpr ⟨q, hq, rfl⟩), by omega, fun L' p' hs pm pw hp => ?_⟩
    have dec : ∀ q ∈ L, rowAt (vis H X) (V.ref q.1) = q.2 := fun q hq => by
      show (match vis H X q.1 with | some (.tup vs) => vs.map intV | _ => []) = q.2
      rw [hL q hq]
      show (q.2.map V.int).map intV = q.2
      rw [List.map_map]
      exact List.map_id'' (fun _ => rfl) q.2
    have pw2 : (L'.map (·.2)).Perm ws := by
      have := pm.map (rowAt (vis H X))
      rw [List.map_map, List.map_map] at this
      rw [← e]
      have e1 : L'.map (rowAt (vis H X) ∘ fun q => V.ref q.1) = L'.map (·.2) := List.map_congr_left fun q hq => dec q (hs q hq)
      have e2 : L.map (rowAt (vis H X) ∘ fun q => V.ref q.1) = L.map (·.2) := List.map_congr_left fun q hq => dec q hq
      rw [e1, e2] at this
      exact this
    exact q _ _ _ (.upd hp) (fsh_rows rp hp (.refl H) hL hs) (he _ pw2 (List.pairwise_map.mpr pw))
  · exact he.elim
end
end Mine
namespace Mine
open PySem PySem.Spec PyProof.Rows L2
/-! ### sorted(xs): whole numbers (any number of them), words of one length -/
def rSortedU (K : PySem.W.Frag) : List V → Hp → VK → Prop := fun xs H Q => rSortedI K xs H Q ∨ rSortedR K xs H Q
theorem call_sortedU {X : Cx} {K : PySem.W.Frag} (e : X.K = K) : CallR X (.builtin "sorted") (rSortedU K) := e ▸ cr_sortedI.or cr_sortedR
def dSortedI : DL := fun ds Q => match ds with
  | [.lst xs] => ∃ ns : List Int, xs = ns.map .int ∧ ∀ ns' : List Int, ns'.Perm ns → ns'.Pairwise (· ≤ ·) → Q (.lst (ns'.map .int))
  | _ => False
def dSortedU : DL := fun ds Q => dSortedI ds Q ∨ dSortedR ds Q
section
variable {C : Bc}
theorem cg_sortedI : CallG Fsh C (rSortedI C.K) dSortedI := by
  intro X env σ H vs ds Q Qd rp ra he q
  unfold dSortedI at he
  split at he
  · obtain ⟨v, rfl, r1⟩ := ra.one
    obtain ⟨ns, rfl, he⟩ := he
    obtain ⟨p, vs, rfl, h1, a1⟩ := r1.lst
    rw [a1.ints_of] at h1
    exact ⟨p, ns, rfl, .inl (.inl h1), fun ns' l h2 h3 hl => q _ _ _ (.upd hl) (fsh_new rp hl (DenAll.ints ns')) (he ns' h2 h3)⟩
  · exact he.elim
theorem cg_sortedU : CallG Fsh C (rSortedU C.K) dSortedU := by
  intro X env σ H vs ds Q Qd rp ra he q
  rcases he with he | he
  · exact .inl (cg_sortedI X env σ H vs ds Q Qd rp ra he q)
  · exact .inr (cg_sortedR X env σ H vs ds Q Qd rp ra he q)
end
end Mine
namespace Mine
open PySem PySem.Spec PyProof.Rows L2
theorem funD_inj {K : PySem.W.Frag} {name qual : Str} {params : Arguments} {body : List Stmt} {scope : Scope} {dvs dvs' : List V} {kws kws' : List (Str × V)} {f : Addr} {fd fd' : FuncData}
    (D : FunD K name qual params body scope dvs kws f fd) (D' : FunD K name qual params body scope dvs' kws' f fd') : fd = fd' := by
  obtain ⟨_, _, _, _, _, _, _, _, _, _, rfl, l1, _⟩ := D.ex
  obtain ⟨_, _, _, _, _, _, _, _, _, _, rfl, l0, _⟩ := D'.ex
  have z := l1.symm.trans l0
  injection z with z
  injection z with z1 z2 z3
  injection z3
end Mine
namespace Mine
open PySem PySem.Spec PyProof.Rows L2
/-- a written power -/
theorem de_powC {C : Bc} {a b c : Int} (h : CPow a b) (e : a ^ b.toNat = c) : DE C (tOp (rI CPow fun i j => .int (i ^ j.toNat)) (tC (.int a)) (tC (.int b))) (eC (.int c)) := by
  intro X env σ H Q Qd Qx rp he q x
  subst e
  exact ⟨_, _, rfl, rfl, h, q _ _ H (.refl H) (.int _) he⟩
theorem cpow_of {a b : Int} (h : decide (0 ≤ b) && decide (b ≤ 1000000) && decide (a.natAbs < 2 ^ 64) = true) : CPow a b := by
  simp only [Bool.and_eq_true, decide_eq_true_eq] at h
  exact ⟨h.1.1, h.1.2, h.2⟩
end Mine

namespace Mine
open PySem PySem.Spec PyProof.Rows L2
theorem mkD_W (np N : Nat) (s : DSt) {args} {Q} {E} : mkD np N s args Q E = (args.length = np ∧ s ⟨fun _ => Q .non, Q, fun _ => False, fun _ => False, fun _ x => E x⟩ (args ++ List.replicate (N - np) .no)) := rfl
theorem mkD0_W (np N : Nat) (s : DSt) {args} {Q} {E} : mkD0 np N s args Q E = (args.length = np ∧ s ⟨fun _ => Q .non, Q, fun _ => False, fun _ => False, fun _ _ => False⟩ (args ++ List.replicate (N - np) .no)) := rfl
theorem sSeq_W (a b : DSt) {d} {env} : sSeq a b d env = (a { d with nx := b d } env) := rfl
theorem sAsg_W (e : DX) (f : DGX) {d} {env} : sAsg e f d env = (e env (fun x => f x env d.nx) (d.xc env)) := rfl
theorem sRet_W (e : DX) {d} {env} : sRet e d env = (e env d.rt (d.xc env)) := rfl
theorem sRetN_W {d} {u1} : sRetN d u1 = (d.rt .non) := rfl
theorem sIf_W (c : DTX) (a b : DSt) {d} {env} : sIf c a b d env = (c env (fun k => if k = true then a d env else b d env) (d.xc env)) := rfl
theorem sNext_W {d} {env} : sNext d env = (d.nx env) := rfl
theorem sDrop_W (e : DX) {d} {env} : sDrop e d env = (e env (fun _ => d.nx env) (d.xc env)) := rfl
theorem sBreak_W {d} {env} : sBreak d env = (d.bk env) := rfl
theorem sCont_W {d} {env} : sCont d env = (d.ct env) := rfl
theorem sOwn_W (j : Nat) (e : DX) {d} {env} : sOwn j e d env = (e env (fun x => match x with
  | .lst xs => d.nx (env.set j (.own (.lst xs)))
  | _ => False) (d.xc env)) := rfl
theorem sPar_W (i j : Nat) (a : DAX) {d} {env} : sPar i j a d env = (a env (fun ds => match ds with
  | [x, y] => d.nx ((env.set i (.d x)).set j (.d y))
  | _ => False) (d.xc env)) := rfl
theorem sPar3_W (i j l : Nat) (a : DAX) {d} {env} : sPar3 i j l a d env = (a env (fun ds => match ds with
  | [x, y, z] => d.nx (((env.set i (.d x)).set j (.d y)).set l (.d z))
  | _ => False) (d.xc env)) := rfl
theorem sFrz_W (i : Nat) (s : DSt) {d} {env} : sFrz i s d env = (s d (frz env i)) := rfl
theorem sApp_W (i : Nat) (e : DX) {d} {env} : sApp i e d env = (match env[i]? with
  | some (.own (.lst xs)) => e env (fun y => xs.length < LINE ∧ d.nx (env.set i (.own (.lst (xs ++ [y]))))) (d.xc env)
  | _ => False) := rfl
theorem sExt_W (i : Nat) (e : DX) {d} {env} : sExt i e d env = (match env[i]? with
  | some (.own (.lst xs)) => e env (fun y => match y with
    | .lst ys => xs.length + ys.length ≤ LINE ∧ d.nx (env.set i (.own (.lst (xs ++ ys))))
    | _ => False) (d.xc env)
  | _ => False) := rfl
theorem sPop_W (i : Nat) {d} {env} : sPop i d env = (match env[i]? with
  | some (.own (.lst xs)) => xs ≠ [] ∧ d.nx (env.set i (.own (.lst xs.dropLast)))
  | _ => False) := rfl
theorem sPopTo_W (i j : Nat) {d} {env} : sPopTo i j d env = (match env[i]? with
  | some (.own (.lst xs)) => ∃ y, xs[xs.length - 1]? = some y ∧ d.nx ((env.set i (.own (.lst xs.dropLast))).set j (.d y))
  | _ => False) := rfl
theorem sPut_W (i : Nat) (ek e : DX) {d} {env} : sPut i ek e d env = (match env[i]? with
  | some (.own (.lst xs)) => e env (fun y => ek env (fun k => match k with
    | .int k => ∃ j, ixN xs.length k = some j ∧ d.nx (env.set i (.own (.lst (xs.set j y))))
    | _ => False) (d.xc env)) (d.xc env)
  | _ => False) := rfl
theorem sAugP_W (f : Int → Int → Int) (i : Nat) (ek e : DX) {d} {env} : sAugP f i ek e d env = (match env[i]? with
  | some (.own (.lst xs)) => ek env (fun k => match k with
    | .int k => ∃ j z, ixN xs.length k = some j ∧ xs[j]? = some (.int z) ∧ e env (fun y => match y with
      | .int y => d.nx (env.set i (.own (.lst (xs.set j (.int (f z y))))))
      | _ => False) (d.xc env)
    | _ => False) (d.xc env)
  | _ => False) := rfl
theorem sAug_W (f : Int → Int → Int) (i : Nat) (e : DX) {d} {env} : sAug f i e d env = (match env[i]? with
  | some (.d (.int x)) => e env (fun y => match y with
    | .int y => d.nx (env.set i (.d (.int (f x y))))
    | _ => False) (d.xc env)
  | _ => False) := rfl
theorem sFor_W (src : DAX) (f : DGX) (b : DSt) {d} {env} : sFor src f b d env = (src env (fun ds => dFor f b d ds env) (d.xc env)) := rfl
theorem sRaise_W (c : Str) {d} {env} : sRaise c d env = (d.xc env ⟨c, []⟩) := rfl
theorem sRaise1_W (c f : Str) (e : DX) {d} {env} : sRaise1 c f e d env = (e env (fun x => match x.flat with
  | some u => d.xc env ⟨c, [(f, u)]⟩
  | none => False) (d.xc env)) := rfl
theorem gD_W (j : Nat) {d} {env} {Q} : gD j d env Q = (Q (env.set j (.d d))) := rfl
theorem gD2_W (i j : Nat) {d} {env} {Q} : gD2 i j d env Q = (match d with
  | .tup [a, b] => Q ((env.set i (.d a)).set j (.d b))
  | _ => False) := rfl
theorem gD3_W (i j k : Nat) {d} {env} {Q} : gD3 i j k d env Q = (match d with
  | .tup [a, b, c] => Q (((env.set i (.d a)).set j (.d b)).set k (.d c))
  | _ => False) := rfl
theorem eVar_W (i : Nat) {env} {Q} {u2} : eVar i env Q u2 = (match env[i]? with
  | some (.d x) => Q x
  | _ => False) := rfl
theorem eVarB_W (i : Nat) {env} {Q} {u2} : eVarB i env Q u2 = (match env[i]? with
  | some (.d x) => Q x
  | some (.own (.lst xs)) => Q (.lst xs)
  | _ => False) := rfl
theorem eC_W (d : Dt) {u0} {Q} {u2} : eC d u0 Q u2 = (Q d) := rfl
theorem eOp_W (f : D2) (a b : DX) {env} {Q} {E} : eOp f a b env Q E = (a env (fun x => b env (fun y => f x y Q) E) E) := rfl
theorem eUn_W (f : D1) (a : DX) {env} {Q} {E} : eUn f a env Q E = (a env (fun x => f x Q) E) := rfl
theorem eCB_W (f : DL) (a : DAX) {env} {Q} {E} : eCB f a env Q E = (a env (fun ds => f ds Q) E) := rfl
theorem eCons_W (a : DX) (r : DAX) {env} {Q} {E} : eCons a r env Q E = (a env (fun d => r env (fun ds => Q (d :: ds)) E) E) := rfl
theorem eConsS_W (a : DX) (r : DSX) {env} {Q} {E} : eConsS a r env Q E = (a env (fun d => r env (fun ds => Q (.d d :: ds)) E) E) := rfl
theorem eConsH_W (i : Nat) (r : DSX) {env} {Q} {E} : eConsH i r env Q E = (match env[i]? with
  | some .hand => r env (fun ds => Q (.hand :: ds)) E
  | _ => False) := rfl
theorem eTup_W (r : DAX) {env} {Q} {E} : eTup r env Q E = (r env (fun ds => ds.length ≤ LINE ∧ Q (.tup ds)) E) := rfl
theorem eLst_W (r : DAX) {env} {Q} {E} : eLst r env Q E = (r env (fun ds => ds.length ≤ LINE ∧ Q (.lst ds)) E) := rfl
theorem eCall_W (F : DFn) (dd : List Sl) (a : DSX) {env} {Q} {E} : eCall F dd a env Q E = (a env (fun ss => F (ss ++ dd) Q E) E) := rfl
theorem eCall0_W (F : DFn) (dd : List Sl) (a : DSX) {env} {Q} {E} : eCall0 F dd a env Q E = (a env (fun ss => F (ss ++ dd) Q fun _ => False) E) := rfl
theorem eTest_W (e : DX) {env} {Q} {E} : eTest e env Q E = (e env (fun d => match d with
  | .bl b => Q b
  | _ => False) E) := rfl
theorem eNotT_W (t : DTX) {env} {Q} {E} : eNotT t env Q E = (t env (fun b => Q (!b)) E) := rfl
theorem eAndT_W (t u : DTX) {env} {Q} {E} : eAndT t u env Q E = (t env (fun b => if b = true then u env Q E else Q false) E) := rfl
theorem eOrT_W (t u : DTX) {env} {Q} {E} : eOrT t u env Q E = (t env (fun b => if b = true then Q true else u env Q E) E) := rfl
theorem eTru_W (e : DX) {env} {Q} {E} : eTru e env Q E = (e env (fun d => dTru d Q) E) := rfl
theorem eAndV_W (a b : DX) {env} {Q} {E} : eAndV a b env Q E = (a env (fun d => eBool d fun c => if c = true then b env Q E else Q (.bl false)) E) := rfl
theorem eOrV_W (a b : DX) {env} {Q} {E} : eOrV a b env Q E = (a env (fun d => eBool d fun c => if c = true then Q (.bl true) else b env Q E) E) := rfl
theorem eNotV_W (a : DX) {env} {Q} {E} : eNotV a env Q E = (a env (fun d => eBool d fun c => Q (.bl (!c))) E) := rfl
theorem eNotVT_W (a : DX) {env} {Q} {E} : eNotVT a env Q E = (a env (fun d => dTru d fun c => Q (.bl (!c))) E) := rfl
theorem eIf_W (t : DTX) (a b : DX) {env} {Q} {E} : eIf t a b env Q E = (t env (fun c => if c = true then a env Q E else b env Q E) E) := rfl
theorem eChain_W (f g : D2) (a b c : DX) {env} {Q} {E} : eChain f g a b c env Q E = (a env (fun x => b env (fun y => f x y fun d => eBool d fun k => if k = true then c env (fun z => g y z Q) E else Q (.bl false)) E) E) := rfl
theorem eLc_W (src : DAX) (f : DGX) (tt : DTX) (te : DX) (vs : List Nat) {env} {Q} {E} : eLc src f tt te vs env Q E = (src env (fun ds => lcGo f tt te (wipeS env vs) Q ds []) E) := rfl
theorem eLc2_W (src : DAX) (f : DGX) (tt : DTX) (src1 : DAX) (f1 : DGX) (tt1 : DTX) (te : DX) (vs1 vs : List Nat) {env} {Q} {E} : eLc2 src f tt src1 f1 tt1 te vs1 vs env Q E = (src env (fun ds => lcGo2 f tt src1 f1 tt1 te vs1 (wipeS env vs) Q ds []) E) := rfl
theorem eYes_W {u0} {Q} {u2} : eYes u0 Q u2 = (Q true) := rfl
theorem eSeq_W (a : DX) {env} {Q} {E} : eSeq a env Q E = (a env (fun d => match d with
  | .lst xs => Q xs
  | .tup xs => Q xs
  | _ => False) E) := rfl
theorem eRng1_W (a : DAX) {env} {Q} {E} : eRng1 a env Q E = (a env (fun ds => match ds with
  | [.int j] => (-(2 ^ 62) ≤ j ∧ j < 2 ^ 62) ∧ Q ((List.range j.toNat).map fun i => .int (i : Nat))
  | _ => False) E) := rfl
theorem eRng2_W (a : DAX) {env} {Q} {E} : eRng2 a env Q E = (a env (fun ds => match ds with
  | [.int i, .int j] => (-(2 ^ 62) ≤ i ∧ i < 2 ^ 62 ∧ -(2 ^ 62) ≤ j ∧ j < 2 ^ 62) ∧ Q ((List.range (j - i).toNat).map fun k => .int (i + (k : Nat)))
  | _ => False) E) := rfl
theorem eEnum_W (a : DAX) {env} {Q} {E} : eEnum a env Q E = (a env (fun ds => match ds with
  | [.lst xs] => Q (xs.mapIdx fun i x => .tup [.int (i : Nat), x])
  | [.tup xs] => Q (xs.mapIdx fun i x => .tup [.int (i : Nat), x])
  | _ => False) E) := rfl
theorem eEnumK_W (k : Nat) (a : DAX) {env} {Q} {E} : eEnumK k a env Q E = (a env (fun ds => match ds with
  | [.tup xs] => Q (xs.mapIdx fun i x => .tup [.int ((k : Int) + (i : Nat)), x])
  | _ => False) E) := rfl
theorem eZip_W (a b : DX) {env} {Q} {E} : eZip a b env Q E = (a env (fun d1 => b env (fun d2 => match d1, d2 with
  | .lst xs, .lst ys => Q (List.zipWith (fun x y => .tup [x, y]) xs ys)
  | .tup xs, .lst ys => xs.length = ys.length ∧ Q (List.zipWith (fun x y => .tup [x, y]) xs ys)
  | .tup xs, .tup ys => xs.length = ys.length ∧ Q (List.zipWith (fun x y => .tup [x, y]) xs ys)
  | _, _ => False) E) E) := rfl
theorem eSl_W (f : D3) (a : DX) (lo hi : DOX) {env} {Q} {E} : eSl f a lo hi env Q E = (a env (fun d => lo env (fun l => hi env (fun u => f d l u Q) E) E) E) := rfl
theorem ePart_W (e : DX) {env} {Q} {E} : ePart e env Q E = (e env (fun d => match d with
  | .int i => Q (some i)
  | _ => False) E) := rfl
theorem eNoPart_W {u0} {Q} {u2} : eNoPart u0 Q u2 = (Q none) := rfl
theorem eRev_W (a : DX) {env} {Q} {E} : eRev a env Q E = (a env (fun d => match d with
  | .lst xs => Q (.lst xs.reverse)
  | .tup xs => Q (.tup xs.reverse)
  | _ => False) E) := rfl
theorem eRevL_W (a : DX) {env} {Q} {E} : eRevL a env Q E = (a env (fun d => match d with
  | .lst xs => Q (.lst xs.reverse)
  | _ => False) E) := rfl
theorem eDk0_W {u0} {Q} {u2} : eDk0 u0 Q u2 = (Q (.dk [] [])) := rfl
theorem eDk1_W (k v : Int) {u0} {Q} {u2} : eDk1 k v u0 Q u2 = (Q (.dk [.inl k] [.int v])) := rfl
theorem eXf_W (i : Nat) (c f : Str) {env} {Q} {u2} : eXf i c f env Q u2 = (match env[i]? with
  | some (.exc c' fs) => c' = c ∧ ∃ u, fs.lookup f = some u ∧ Q (Dt.ofV u)
  | _ => False) := rfl
theorem eIsX_W (i : Nat) (tab : Str → Option Bool) {env} {Q} {u2} : eIsX i tab env Q u2 = (match env[i]? with
  | some (.exc c fs) => ∃ b, tab c = some b ∧ Q (.bl b)
  | _ => False) := rfl
theorem dIsN_W {a} {b} {Q} : dIsN a b Q = (match b with
  | .non => Q (.bl a.isN)
  | _ => False) := rfl
theorem dNotN_W {a} {b} {Q} : dNotN a b Q = (match b with
  | .non => Q (.bl (!a.isN))
  | _ => False) := rfl
theorem dIx_W {a} {b} {Q} : dIx a b Q = (match a, b with
  | .lst xs, .int k => ∃ x, atI xs k = some x ∧ Q x
  | .tup xs, .int k => ∃ x, atI xs k = some x ∧ Q x
  | .str z, .int k => z.length ≤ LINE ∧ ∃ c, atI z.cps.toList k = some c ∧ Q (.str ⟨#[c]⟩)
  | _, _ => False) := rfl
theorem dSl_W {a} {lo} {hi} {Q} : dSl a lo hi Q = (match a with
  | .lst xs => Q (.lst (cutG xs lo hi))
  | .tup xs => Q (.tup (cutG xs lo hi))
  | .str z => z.length ≤ LINE ∧ Q (.str (cutS z lo hi))
  | _ => False) := rfl
theorem dSlL_W {a} {lo} {hi} {Q} : dSlL a lo hi Q = (match a with
  | .lst xs => Q (.lst (cutG xs lo hi))
  | _ => False) := rfl
theorem dLen_W {ds} {Q} : dLen ds Q = (match ds with
  | [.lst xs] => Q (.int xs.length)
  | [.tup xs] => Q (.int xs.length)
  | [.str z] => z.length ≤ LINE ∧ Q (.int z.length)
  | [.dk ks _] => Q (.int ks.length)
  | _ => False) := rfl
theorem dInt_W {ds} {Q} : dInt ds Q = (match ds with
  | [.int i] => Q (.int i)
  | [.bl k] => Q (.int (if k then 1 else 0))
  | [.str z] => z.length ≤ 640 ∧ ∃ n, PySem.intText? z = some n ∧ Q (.int n)
  | _ => False) := rfl
theorem dStr_W {ds} {Q} : dStr ds Q = (match ds with
  | [.int i] => i.natAbs.log2 < 1920 ∧ Q (.str (toString i))
  | _ => False) := rfl
theorem dAbs_W {ds} {Q} : dAbs ds Q = (match ds with
  | [.int i] => Q (.int (if i < 0 then -i else i))
  | _ => False) := rfl
theorem dMax2_W {ds} {Q} : dMax2 ds Q = (match ds with
  | [.int i, .int j] => Q (.int (if j > i then j else i))
  | _ => False) := rfl
theorem dMin2_W {ds} {Q} : dMin2 ds Q = (match ds with
  | [.int i, .int j] => Q (.int (if j < i then j else i))
  | _ => False) := rfl
theorem dTupOf_W {ds} {Q} : dTupOf ds Q = (match ds with
  | [.lst xs] => Q (.tup xs)
  | [.tup xs] => Q (.tup xs)
  | _ => False) := rfl
theorem dLstOf_W {ds} {Q} : dLstOf ds Q = (match ds with
  | [.lst xs] => Q (.lst xs)
  | [.tup xs] => Q (.lst xs)
  | _ => False) := rfl
theorem dIsi_W (T : String) {ds} {Q} : dIsi T ds Q = (match ds with
  | [x, .raw (.ty T')] => T' = T ∧ x.kind.isSome = true ∧ Q (.bl (x.isa T))
  | _ => False) := rfl
theorem dIsi2_W (T U : String) {ds} {Q} : dIsi2 T U ds Q = (match ds with
  | [x, .tup [.raw (.ty T'), .raw (.ty U')]] => T' = T ∧ U' = U ∧ x.kind.isSome = true ∧ Q (.bl (x.isa T || x.isa U))
  | _ => False) := rfl
theorem sTry_W (mt : Str → Str → Option Bool) (b : DSt) (hs : List (Str × Option Nat × DSt)) {d} {env} : sTry mt b hs d env = (b { d with xc := fun e x => dHs mt hs d e x } env) := rfl
theorem eNil_W {δ : Type} {u0 : List Sl} {Q : List δ → Prop} {u2 : Xc → Prop} : (eNil (δ := δ)) u0 Q u2 = Q [] := rfl
theorem eBool_W {d : Dt} {Q : Bool → Prop} : eBool d Q = (match d with
  | .bl b => Q b
  | _ => False) := rfl
theorem frz_W {env : List Sl} {i : Nat} : frz env i = (match env[i]? with
  | some (.own w) => env.set i (.d w.fz)
  | _ => env) := rfl
theorem fz_lst {xs : List Dt} : (Ow.lst xs).fz = .lst xs := rfl
theorem fz_dk {ks : List Key} {xs : List Dt} : (Ow.dk ks xs).fz = .dk ks xs := rfl
theorem fz_dt {ks : List (List Key)} {xs : List Dt} : (Ow.dt ks xs).fz = .dt ks xs := rfl
theorem LINE_W : LINE = 16777216 := rfl
theorem take_W {m : Int} {Q : Dt → Prop} {E : Xc → Prop} : F_law_take [.hand, .d (.int m)] Q E = ((0 < m ∧ m < 115792089237316195423570985008687907853269984665640564039457584007913129639936) ∧ ∀ r : Nat, (r : Int) < m → Q (.int r)) := rfl
end Mine

namespace Mine
open PySem PySem.Spec PyProof.Rows L2
/-! ### instances of one's own classes: fields -/
def eFld (tab : Str → Str → Bool) (f : Str) (a : DX) : DX := fun env Q E => a env (fun d => match d with
  | .ins C ns ds => tab C f = true ∧ ∃ x, (ns.zip ds).lookup f = some x ∧ Q x
  | _ => False) E
/-- self.f while self is made -/
def eFldS (tab : Str → Str → Bool) (f : Str) (i : Nat) : DX := fun env Q _ => match env[i]? with
  | some (.ins C ns ds) => tab C f = true ∧ ∃ x, (ns.zip ds).lookup f = some x ∧ Q x
  | _ => False
/-- self.f = e: a new field, or an old one anew -/
def putNs (f : Str) : List Str → List Str
  | [] => [f]
  | n :: ns => if n = f then n :: ns else n :: putNs f ns
def putDs (f : Str) (y : Dt) : List Str → List Dt → List Dt
  | n :: ns, d :: ds => if n = f then y :: ds else d :: putDs f y ns ds
  | _, _ => [y]
def sSetF (tab : Str → Str → Bool) (f : Str) (i : Nat) (e : DX) : DSt := fun d env => match env[i]? with
  | some (.ins C ns ds) => e env (fun y => tab C f = true ∧ i = 0 ∧ ns.length < 900 ∧ d.nx (env.set i (.ins C (putNs f ns) (putDs f y ns ds)))) (d.xc env)
  | _ => False
section
variable {C : Bc} {X : Addr → Prop} {env : List Sl} {σ : L2.St} {H : Hp} {te : TE} {ea e : DX} {f : Str} {tab : Str → Str → Bool}
end
end Mine

namespace Mine
open PySem PySem.Spec PyProof.Rows L2
/-! ### C(..): __init__ by data; what it wants is the instance -/
/-- np parameters with self, N names in all -/
def mkI (cls : Str) (np N : Nat) (s : DSt) : DFn := fun args Q E => args.length + 1 = np ∧ s ⟨fun (env : List Sl) => match env[0]? with
  | some (Sl.ins C ns ds) => Q (.ins C ns ds)
  | _ => False, fun _ => False, fun _ => False, fun _ => False, fun _ x => E x⟩ (.ins cls [] [] :: (args ++ List.replicate (N - np) .no))
def mkI0 (cls : Str) (np N : Nat) (s : DSt) : DFn := fun args Q E => args.length + 1 = np ∧ s ⟨fun (env : List Sl) => match env[0]? with
  | some (Sl.ins C ns ds) => Q (.ins C ns ds)
  | _ => False, fun _ => False, fun _ => False, fun _ => False, fun _ _ => False⟩ (.ins cls [] [] :: (args ++ List.replicate (N - np) .no))
section
variable {C : Bc} {F : DFn} {cls : Str} {dvs : List V} {dd : List Sl} {t : TA} {a : DSX}
end
/-! ### o.m(..), o.p -/
def eMeth (c m : Str) (F : DFn) (dd : List Sl) (a : DX) (r : DSX) : DX := fun env Q E => a env (fun d => match d with
  | .ins c' ns ds => c' = c ∧ (ns.zip ds).lookup m = none ∧ r env (fun ss => F (.d (.ins c' ns ds) :: (ss ++ dd)) Q E) E
  | _ => False) E
def eMeth0 (c m : Str) (F : DFn) (dd : List Sl) (a : DX) (r : DSX) : DX := fun env Q E => a env (fun d => match d with
  | .ins c' ns ds => c' = c ∧ (ns.zip ds).lookup m = none ∧ r env (fun ss => F (.d (.ins c' ns ds) :: (ss ++ dd)) Q fun _ => False) E
  | _ => False) E
def eProp (c : Str) (F : DFn) (a : DX) : DX := fun env Q E => a env (fun d => match d with
  | .ins c' ns ds => c' = c ∧ F [.d (.ins c' ns ds)] Q fun _ => False
  | _ => False) E
section
variable {C : Bc} {F : DFn} {c m : Str} {dvs : List V} {dd : List Sl} {te : TE} {ea : DX} {t : TA} {a : DSX}
end
/-! ### isinstance(x, C), C a class of one's own -/
/-- what of the text isinstance asks: instances of the classes in the table, and the built-in kinds -/
structure IsOk (K : PySem.W.Frag) (cn : Str) (tab : Str → Option Bool) : Prop where
  ins : ∀ c b, tab c = some b → PySem.W.kitOne K (.ref (He.ga K c)) (.ref (He.ga K cn)) = some b ∧ ∀ (H : Hp) (a dx : Addr) (fs : List (Str × V)), H a = some (.ins (He.ga K c) dx fs) → TyX K H (.ref a) (.ref (He.ga K c))
  kin : ∀ n, n ∈ ["NoneType", "bool", "int", "str", "tuple", "list", "dict"] → PySem.W.kitOne K (.type n) (.ref (He.ga K cn)) = some false
section
variable {C : Bc} {te : TE} {ea : DX} {cn : Str} {tab : Str → Option Bool}
end
end Mine

namespace Mine
open PySem PySem.Spec PyProof.Rows L2
/-! ### the head's own hook: defs at any address, facts, one more Bool -/
/-! ### a property: its record, its getter -/
end Mine

namespace Mine
open PySem PySem.Spec PyProof.Rows L2
/-! ### dicts: keys whole numbers and texts, or tuples of them -/
section
variable {κ : Type} [DecidableEq κ]
def valD : List κ → List Dt → κ → Option Dt
  | k :: ks, d :: ds, j => if k = j then some d else valD ks ds j
  | _, _, _ => none
def putKs : List κ → κ → List κ
  | [], j => [j]
  | k :: ks, j => if k = j then k :: ks else k :: putKs ks j
def putVs : List κ → List Dt → κ → Dt → List Dt
  | k :: ks, d :: ds, j, y => if k = j then y :: ds else d :: putVs ks ds j y
  | _, _, _, y => [y]
theorem DenAll.val {K : PySem.W.Frag} {H : Hp} {j : κ} : ∀ {ks : List κ} {vs : List V} {ds : List Dt}, ks.length = vs.length → DenAll K H vs ds →
    (valD ks ds j = none ∧ valV (ks.zip vs) j = none) ∨ ∃ d v, valD ks ds j = some d ∧ valV (ks.zip vs) j = some v ∧ Den K H v d
  | [], [], _, _, .nil => .inl ⟨rfl, rfl⟩
  | k :: ks, v :: vs, d :: ds, l, .cons a r => by
    rw [List.zip_cons_cons]
    unfold valD
    by_cases c : k = j
    · rw [if_pos c, valV_pos (p := (k, v)) c]
      exact .inr ⟨d, v, rfl, rfl, a⟩
    · rw [if_neg c, valV_neg (p := (k, v)) c]
      exact DenAll.val (by simpa using l) r
theorem putK_pos {k j : κ} {u v : V} {r : List (κ × V)} (c : k = j) (nd : ∀ p ∈ r, p.1 ≠ j) : putK ((k, u) :: r) j v = (k, v) :: r := by
  unfold putK
  rw [if_pos (by simp [c]), List.map_cons]
  simp only [c, if_true]
  congr 1
  refine (List.map_congr_left fun p hp => ?_).trans (List.map_id r)
  rw [if_neg (nd p hp)]; rfl
theorem putK_neg {k j : κ} {u v : V} {r : List (κ × V)} (c : ¬ k = j) : putK ((k, u) :: r) j v = (k, u) :: putK r j v := by
  unfold putK
  rw [List.any_cons]
  simp only [c, decide_false, Bool.false_or, List.map_cons, if_false]
  split <;> rfl
/-- what stands in a dict of one's own: no key twice -/
theorem putF_K {K : PySem.W.Frag} {H : Hp} {j : κ} {v : V} {y : Dt} (hv : Den K H v y) : ∀ {ks : List κ} {vs : List V} {ds : List Dt}, ks.Nodup → ks.length = vs.length → DenAll K H vs ds →
    ∃ vs', putK (ks.zip vs) j v = (putKs ks j).zip vs' ∧ (putKs ks j).length = vs'.length ∧ DenAll K H vs' (putVs ks ds j y)
  | [], [], _, _, _, .nil => ⟨[v], rfl, rfl, .cons hv .nil⟩
  | k :: ks, u :: vs, d :: ds, nd, l, .cons a r => by
    have nd2 := List.nodup_cons.mp nd
    by_cases c : k = j
    · refine ⟨v :: vs, ?_, ?_, ?_⟩
      · unfold putKs
        rw [if_pos c, List.zip_cons_cons, List.zip_cons_cons]
        exact putK_pos c fun p hp z => nd2.1 (by rw [c, ← z]; exact (List.of_mem_zip hp).1)
      · unfold putKs; rw [if_pos c]; exact l
      · unfold putVs; rw [if_pos c]; exact .cons hv r
    · obtain ⟨vs', h1, h2, h3⟩ := putF_K (j := j) hv (ks := ks) nd2.2 (by simpa using l) r
      refine ⟨u :: vs', ?_, ?_, ?_⟩
      · unfold putKs
        rw [if_neg c, List.zip_cons_cons, putK_neg c, h1]; rfl
      · unfold putKs; rw [if_neg c, List.length_cons, List.length_cons, h2]
      · unfold putVs; rw [if_neg c]; exact .cons a h3
end
def keyOf : Dt → Option Key
  | .int i => some (.inl i)
  | .str x => some (.inr x)
  | _ => none
def keysOf : List Dt → Option (List Key)
  | [] => some []
  | d :: ds => match keyOf d, keysOf ds with
    | some k, some ks => some (k :: ks)
    | _, _ => none
theorem Den.key {K : PySem.W.Frag} {H : Hp} {v : V} {d : Dt} {k : Key} (h : Den K H v d) (e : keyOf d = some k) : v = kV k := by
  cases d <;> first
    | (injection e with e; subst e; exact h.flat rfl)
    | cases e
theorem DenAll.keys {K : PySem.W.Frag} {H : Hp} : ∀ {ds : List Dt} {vs : List V} {ks : List Key}, DenAll K H vs ds → keysOf ds = some ks → vs = ks.map kV
  | [], _, _, .nil, e => by cases e; rfl
  | d :: ds, _, ks, .cons a r, e => by
    unfold keysOf at e
    split at e
    · rename_i k ks' e1 e2
      cases e
      rw [List.map_cons, a.key e1, r.keys e2]
    · cases e
/-- a dict's thing at a key; a dict with a thing more -/
def Ow.get : Ow → Dt → Option (Option Dt)
  | .dk ks ds, y => (keyOf y).map fun k => valD ks ds k
  | .dt ks ds, .tup xs => (keysOf xs).map fun k => valD ks ds k
  | _, _ => none
def Ow.put : Ow → Dt → Dt → Option Ow
  | .dk ks ds, y, z => (keyOf y).map fun k => .dk (putKs ks k) (putVs ks ds k z)
  | .dt ks ds, .tup xs, z => (keysOf xs).map fun k => .dt (putKs ks k) (putVs ks ds k z)
  | _, _, _ => none
def Ow.keysN : Ow → Prop
  | .lst _ => True
  | .dk ks _ => ks.Nodup ∧ ks.length < LINE
  | .dt ks _ => ks.Nodup ∧ ks.length < LINE
/-- data that is a dict -/
def Dt.ow : Dt → Option Ow
  | .dk ks ds => some (.dk ks ds)
  | .dt ks ds => some (.dt ks ds)
  | _ => none
theorem DenO.get {K : PySem.W.Frag} {H H' : Hp} {p : Addr} {u : HO} {w : Ow} {v : V} {y : Dt} {r : Option Dt} (h : DenO K H' u w) (s : Same H' H) (e : H p = some u) (hy : Den K H' v y) (g : w.get y = some r) :
    IsD H p ∧ ((r = none ∧ DGet H p v none) ∨ ∃ d x, r = some d ∧ DGet H p v (some x) ∧ Den K H' x d) := by
  cases h with
  | lst a => cases g
  | @dk ks vs ds l a =>
    obtain ⟨k, e1, rfl⟩ := Option.map_eq_some_iff.mp g
    have ev := hy.key e1
    subst ev
    refine ⟨.inl ⟨_, .inl e⟩, ?_⟩
    rcases a.val (j := k) l with ⟨h1, h2⟩ | ⟨d, x, h1, h2, h3⟩
    · exact .inl ⟨h1, by rw [← h2]; exact .k e⟩
    · exact .inr ⟨d, x, h1, by rw [← h2]; exact .k e, h3⟩
  | @dt ks vs ds l a =>
    cases y with
    | tup xs =>
      obtain ⟨k, e1, rfl⟩ := Option.map_eq_some_iff.mp g
      cases hy with
      | tup hb ax =>
        have ev := ax.keys e1
        subst ev
        refine ⟨.inr ⟨_, .inl e⟩, ?_⟩
        rcases a.val (j := k) l with ⟨h1, h2⟩ | ⟨d, x, h1, h2, h3⟩
        · exact .inl ⟨h1, by rw [← h2]; exact .t e (s _ _ hb)⟩
        · exact .inr ⟨d, x, h1, by rw [← h2]; exact .t e (s _ _ hb), h3⟩
    | _ => cases g
theorem DenO.put {K : PySem.W.Frag} {H H' : Hp} {p : Addr} {u : HO} {w w' : Ow} {v x : V} {y z : Dt} (h : DenO K H' u w) (s : Same H' H) (e : H p = some u) (hy : Den K H' v y) (hz : Den K H' x z) (hn : w.keysN) (g : w.put y z = some w') :
    ∃ u', DPut H p v x (upd H p u') ∧ DenO K H' u' w' := by
  cases h with
  | lst a => cases g
  | @dk ks vs ds l a =>
    obtain ⟨k, e1, rfl⟩ := Option.map_eq_some_iff.mp g
    have ev := hy.key e1
    subst ev
    obtain ⟨vs', h1, h2, h3⟩ := putF_K (j := k) hz hn.1 l a
    refine ⟨_, .k e (by rw [List.length_zip, sizeLine_eq]; exact Nat.lt_of_le_of_lt (Nat.min_le_left _ _) hn.2), ?_⟩
    rw [h1]; exact .dk h2 h3
  | @dt ks vs ds l a =>
    cases y with
    | tup xs =>
      obtain ⟨k, e1, rfl⟩ := Option.map_eq_some_iff.mp g
      cases hy with
      | tup hb ax =>
        have ev := ax.keys e1
        subst ev
        obtain ⟨vs', h1, h2, h3⟩ := putF_K (j := k) hz hn.1 l a
        refine ⟨_, .t e (s _ _ hb) (by rw [List.length_zip, sizeLine_eq]; exact Nat.lt_of_le_of_lt (Nat.min_le_left _ _) hn.2), ?_⟩
        rw [h1]; exact .dt h2 h3
    | _ => cases g
end Mine

namespace Mine
open PySem PySem.Spec PyProof.Rows L2
theorem units1 {k : Nat} {A : Around} (hr : Room k A) : A.units + 1 < cLine := by have := hr.units; omega
/-! ### dicts that are read -/
def BorD : RR := fun C X _ H v d => ∃ w p u, d.ow = some w ∧ v = .ref p ∧ (∀ h c, C.hd = some (h, c) → p ≠ h) ∧ H p = some u ∧ DenO C.K (vis H X) u w
theorem Dt.ow_fz {w : Ow} (h : w.fz.ow.isSome = true) : w.fz.ow = some w := by cases w <;> first | rfl | cases h
theorem Ow.isD {K : PySem.W.Frag} {H H' : Hp} {d : Dt} {w : Ow} {u : HO} {p : Addr} (e : d.ow = some w) (h : DenO K H' u w) (h1 : H p = some u) : IsD H p := by
  cases h with
  | lst a => cases d <;> cases e
  | dk l a => exact .inl ⟨_, .inl h1⟩
  | dt l a => exact .inr ⟨_, .inl h1⟩
/-- a dict by its name, one's own or not -/
def eVarD (i : Nat) : DX := fun env Q _ => match env[i]? with
  | some (.d x) => x.ow.isSome = true ∧ Q x
  | some (.own w) => w.fz.ow.isSome = true ∧ Q w.fz
  | _ => False
/-- any dict -/
def eDic (a : DX) : DX := fun env Q E => a env (fun x => x.ow.isSome = true ∧ Q x) E
def eGet1 (ed ek : DX) : DX := fun env Q E => ed env (fun d => ek env (fun k => ∃ w r, d.ow = some w ∧ w.get k = some r ∧ Q (r.getD .non)) E) E
def eGet2 (ed ek ez : DX) : DX := fun env Q E => ed env (fun d => ek env (fun k => ez env (fun z => ∃ w r, d.ow = some w ∧ w.get k = some r ∧ Q (r.getD z)) E) E) E
def eAtD (ed ek : DX) : DX := fun env Q E => ed env (fun d => ek env (fun k => ∃ w r, d.ow = some w ∧ w.get k = some (some r) ∧ Q r) E) E
def eInD (ek ed : DX) : DX := fun env Q E => ek env (fun k => ed env (fun d => ∃ w r, d.ow = some w ∧ w.get k = some r ∧ Q (.bl r.isSome)) E) E
def eNotInD (ek ed : DX) : DX := fun env Q E => ek env (fun k => ed env (fun d => ∃ w r, d.ow = some w ∧ w.get k = some r ∧ Q (.bl (!r.isSome))) E) E
/-- x = {} -/
def sOwnD (j : Nat) (t : Bool) : DSt := fun d env => d.nx (env.set j (.own (if t = true then .dt [] [] else .dk [] [])))
/-- x[k] = e -/
def sPutD (i : Nat) (ek e : DX) : DSt := fun d env => match env[i]? with
  | some (.own w) => e env (fun y => ek env (fun k => w.keysN ∧ ∃ w', w.put k y = some w' ∧ d.nx (env.set i (.own w'))) (d.xc env)) (d.xc env)
  | _ => False
theorem Den.ow {C : Bc} {X : Addr → Prop} {env : List Sl} {σ : L2.St} {H H1 : Hp} {v : V} {x : Dt} (rp : Rep C X env σ H) (h : Den C.K (vis H X) v x) (e : x.ow.isSome = true) : BorD C X H1 H v x := by
  cases h with
  | dk h l a => exact ⟨_, _, _, rfl, rfl, fun y c q z => (vis_of h).1 (z ▸ rp.hX y c q), vis_sub _ _ h, .dk l a⟩
  | dt h l a => exact ⟨_, _, _, rfl, rfl, fun y c q z => (vis_of h).1 (z ▸ rp.hX y c q), vis_sub _ _ h, .dt l a⟩
  | _ => cases e
section
variable {C : Bc} {td ty tx : TE} {ed ek ez : DX}
theorem dd_var (i : Nat) : DEg BorD C (tVar i) (eVarD i) := by
  intro X env σ H Q Qd Qx rp he q x
  unfold eVarD at he
  split at he
  · rename_i y e
    obtain ⟨h0, he⟩ := he
    obtain ⟨v, e1, h⟩ := rp.at e
    exact ⟨v, e1, q _ v H (.refl H) (h.ow rp h0) he⟩
  · rename_i w e
    obtain ⟨h0, he⟩ := he
    obtain ⟨p, u, es, x1, x2, h1, h2⟩ := rp.ownAtO e
    exact ⟨_, es, q _ _ H (.refl H) ⟨w, p, u, Dt.ow_fz h0, rfl, rp.nh x2, h1, h2⟩ he⟩
  · exact he.elim
theorem de_get2 (hd : DEg BorD C td ed) (hk : DE C ty ek) (hz : DE C tx ez) : DE C (tDGet2 td ty tx) (eGet2 ed ek ez) := by
  intro X env σ H Q Qd Qx rp he q x
  refine hd X env σ H _ _ Qx rp he (fun d v H1 f1 ⟨w, p, u, e1, ev, n, h1, h2⟩ he1 => ?_) x
  refine ⟨p, ev, Ow.isD e1 h2 h1, ?_⟩
  refine hk X env σ H1 _ _ Qx (rp.step f1) he1 (fun k y H2 f2 r2 he2 => ?_) (x.step f1)
  refine hz X env σ H2 _ _ Qx ((rp.step f1).step f2) he2 (fun z zv H3 f3 r3 he3 => ?_) ((x.step f1).step f2)
  obtain ⟨w', r, e2, g, he3⟩ := he3
  rw [e1] at e2; cases e2
  have h3 := f3.1 p _ (f2.1 p _ h1 n) n
  have h4 := (h2.mono ((rp.step f1).vs f2)).mono (((rp.step f1).step f2).vs f3)
  have r4 : Den C.K (vis H3 X) y k := Den.mono (((rp.step f1).step f2).vs f3) r2
  rcases (h4.get vis_sub h3 r4 g).2 with ⟨rfl, dg⟩ | ⟨d', x', rfl, dg, den⟩
  · exact ⟨none, dg, q _ _ H3 (f1.trans (f2.trans f3)) r3 he3⟩
  · exact ⟨some x', dg, q _ _ H3 (f1.trans (f2.trans f3)) den he3⟩
theorem dst_ownK {j : Nat} : DS C (tAsg tDNewK (gName j)) (sOwnD j false) := by
  intro X env σ H D d r l h p n
  refine l.nx _ _ _ _ (r.setOwn (.upd n) n j upd_same (.dk (ks := []) (vs := []) rfl .nil)) (fun a o q => ?_) h
  obtain ⟨n1, e1⟩ := vis_of q
  exact vis_mk (fun z => z.elim n1 (ne_of_none e1 n)) (by rw [upd_ne (ne_of_none e1 n)]; exact e1)
theorem dst_putD {i : Nat} (he : DE C tx ez) (hk : DE C ty ek) : DS C (sDPut (tVar i) ty tx) (sPutD i ek ez) := by
  intro X env σ H D d r l h
  unfold sPutD at h
  split at h
  · rename_i w ei
    refine he X env σ H _ _ _ r h (fun y v H1 f1 r1 hy => ?_) (l.xok r)
    obtain ⟨p, u, es, x1, x2, h1, h2⟩ := (r.step f1).ownAtO ei
    refine ⟨_, es, ?_⟩
    refine hk X env σ H1 _ _ _ (r.step f1) hy (fun k kv H2 f2 r2 hk2 => ?_) ((l.xok r).step f1)
    obtain ⟨kn, w', g, hn⟩ := hk2
    have rp2 := (r.step f1).step f2
    have h3 := f2.1 p _ h1 (r.nh x2)
    have h4 := h2.mono ((r.step f1).vs f2)
    obtain ⟨u', dp, dn⟩ := h4.put vis_sub h3 r2 (Den.mono ((r.step f1).vs f2) r1) kn g
    obtain ⟨r3, sm⟩ := rp2.own ei es x1 x2 dn
    exact ⟨p, _, rfl, dp, l.nx _ _ _ _ r3 ((r.vs f1).trans (((r.step f1).vs f2).trans sm)) hn⟩
  · exact h.elim
end
end Mine

namespace Mine
open PySem PySem.Spec PyProof.Rows L2
theorem mkI_W (cls : Str) (np N : Nat) (s : DSt) {args} {Q} {E} : mkI cls np N s args Q E = (args.length + 1 = np ∧ s ⟨fun (env : List Sl) => match env[0]? with
  | some (Sl.ins C ns ds) => Q (.ins C ns ds)
  | _ => False, fun _ => False, fun _ => False, fun _ => False, fun _ x => E x⟩ (.ins cls [] [] :: (args ++ List.replicate (N - np) .no))) := rfl
theorem mkI0_W (cls : Str) (np N : Nat) (s : DSt) {args} {Q} {E} : mkI0 cls np N s args Q E = (args.length + 1 = np ∧ s ⟨fun (env : List Sl) => match env[0]? with
  | some (Sl.ins C ns ds) => Q (.ins C ns ds)
  | _ => False, fun _ => False, fun _ => False, fun _ => False, fun _ _ => False⟩ (.ins cls [] [] :: (args ++ List.replicate (N - np) .no))) := rfl
theorem eFld_W (tab : Str → Str → Bool) (f : Str) (a : DX) {env} {Q} {E} : eFld tab f a env Q E = (a env (fun d => match d with
  | .ins C ns ds => tab C f = true ∧ ∃ x, (ns.zip ds).lookup f = some x ∧ Q x
  | _ => False) E) := rfl
theorem eFldS_W (tab : Str → Str → Bool) (f : Str) (i : Nat) {env} {Q} {u2} : eFldS tab f i env Q u2 = (match env[i]? with
  | some (.ins C ns ds) => tab C f = true ∧ ∃ x, (ns.zip ds).lookup f = some x ∧ Q x
  | _ => False) := rfl
theorem sSetF_W (tab : Str → Str → Bool) (f : Str) (i : Nat) (e : DX) {d} {env} : sSetF tab f i e d env = (match env[i]? with
  | some (.ins C ns ds) => e env (fun y => tab C f = true ∧ i = 0 ∧ ns.length < 900 ∧ d.nx (env.set i (.ins C (putNs f ns) (putDs f y ns ds)))) (d.xc env)
  | _ => False) := rfl
theorem eMeth_W (c m : Str) (F : DFn) (dd : List Sl) (a : DX) (r : DSX) {env} {Q} {E} : eMeth c m F dd a r env Q E = (a env (fun d => match d with
  | .ins c' ns ds => c' = c ∧ (ns.zip ds).lookup m = none ∧ r env (fun ss => F (.d (.ins c' ns ds) :: (ss ++ dd)) Q E) E
  | _ => False) E) := rfl
theorem eMeth0_W (c m : Str) (F : DFn) (dd : List Sl) (a : DX) (r : DSX) {env} {Q} {E} : eMeth0 c m F dd a r env Q E = (a env (fun d => match d with
  | .ins c' ns ds => c' = c ∧ (ns.zip ds).lookup m = none ∧ r env (fun ss => F (.d (.ins c' ns ds) :: (ss ++ dd)) Q fun _ => False) E
  | _ => False) E) := rfl
theorem eProp_W (c : Str) (F : DFn) (a : DX) {env} {Q} {E} : eProp c F a env Q E = (a env (fun d => match d with
  | .ins c' ns ds => c' = c ∧ F [.d (.ins c' ns ds)] Q fun _ => False
  | _ => False) E) := rfl
theorem eVarD_W (i : Nat) {env} {Q} {u2} : eVarD i env Q u2 = (match env[i]? with
  | some (.d x) => x.ow.isSome = true ∧ Q x
  | some (.own w) => w.fz.ow.isSome = true ∧ Q w.fz
  | _ => False) := rfl
theorem eDic_W (a : DX) {env} {Q} {E} : eDic a env Q E = (a env (fun x => x.ow.isSome = true ∧ Q x) E) := rfl
theorem eGet1_W (ed ek : DX) {env} {Q} {E} : eGet1 ed ek env Q E = (ed env (fun d => ek env (fun k => ∃ w r, d.ow = some w ∧ w.get k = some r ∧ Q (r.getD .non)) E) E) := rfl
theorem eGet2_W (ed ek ez : DX) {env} {Q} {E} : eGet2 ed ek ez env Q E = (ed env (fun d => ek env (fun k => ez env (fun z => ∃ w r, d.ow = some w ∧ w.get k = some r ∧ Q (r.getD z)) E) E) E) := rfl
theorem eAtD_W (ed ek : DX) {env} {Q} {E} : eAtD ed ek env Q E = (ed env (fun d => ek env (fun k => ∃ w r, d.ow = some w ∧ w.get k = some (some r) ∧ Q r) E) E) := rfl
theorem eInD_W (ek ed : DX) {env} {Q} {E} : eInD ek ed env Q E = (ek env (fun k => ed env (fun d => ∃ w r, d.ow = some w ∧ w.get k = some r ∧ Q (.bl r.isSome)) E) E) := rfl
theorem eNotInD_W (ek ed : DX) {env} {Q} {E} : eNotInD ek ed env Q E = (ek env (fun k => ed env (fun d => ∃ w r, d.ow = some w ∧ w.get k = some r ∧ Q (.bl (!r.isSome))) E) E) := rfl
theorem sOwnD_W (j : Nat) (t : Bool) {d} {env} : sOwnD j t d env = (d.nx (env.set j (.own (if t = true then .dt [] [] else .dk [] [])))) := rfl
theorem sPutD_W (i : Nat) (ek e : DX) {d} {env} : sPutD i ek e d env = (match env[i]? with
  | some (.own w) => e env (fun y => ek env (fun k => w.keysN ∧ ∃ w', w.put k y = some w' ∧ d.nx (env.set i (.own w'))) (d.xc env)) (d.xc env)
  | _ => False) := rfl
end Mine

namespace Mine
open PySem PySem.Spec PyProof.Rows L2
/-! ### C.m(..), m a static method -/
/-- C's attributes are read the usual way; C.m is a static method, its def at g -/
structure StaOf (K : PySem.W.Frag) (C : Addr) (m : Str) (g : Addr) : Prop where
  rd : PySem.W.readsIn K C (.type "type") = true
  ga : PySem.W.specialIn K (.ref C) "__getattribute__" = some (some (.builtin "type.__getattribute__"))
  at_ : ∃ p, PySem.W.findCls K (.ref C) (.type "type") m = some (.get (.builtin "staticmethod.__get__") (.ref p) .none (.ref C)) ∧ ∃ rest, PySem.W.recIn K p "staticmethod" = some (.ref g :: rest)
section
variable {X : Cx} {CX : CXT} {k : Nat} {C g : Addr} {sp : Sp} {E : XK} {e : Expr} {es : List Expr} {x m : Str} {pos apos p0 : Pos} {t : TA} {pl : Sem Bool} {fd : FuncData} {ps : List Str} {ds : List Value} {dvs : List V}
end
end Mine

namespace Mine
open PySem PySem.Spec PyProof.Rows L2
/-! ### range(a, b, -1) -/
section
variable {C : Bc} {S : SS} {ta : TA} {ea : DAX}
end
/-! ### isinstance of one's own classes: what of the text it asks -/
structure InsK (K : PySem.W.Frag) (C : Addr) : Prop where
  ha : PySem.W.findIn K (.ref C) "__class__" = some (some (.builtin "object.__class__"))
  hn : PySem.W.specialIn K (.builtin "object.__class__") "__get__" = some (some (.builtin "getset_descriptor.__get__"))
  htk : PySem.W.takesIn K (.builtin "object.__class__") = some true
  hm : PySem.W.mroIn K C (.type "object") = some true
/-! ### within a try: makings, methods, static methods -/
section
variable {X : Cx} {CX : CXT} {k : Nat} {f C g : Addr} {fd : FuncData} {ps : List Str} {sp : Sp} {dvs : List V} {ds : List Value} {E : L2.St → XK} {x m : Str} {p pos apos p0 : Pos} {e o : Expr} {es : List Expr} {ta : TE} {t : TA} {pl : Sem Bool}
end
section
variable {C : Bc} {F : DFn} {cls c m : Str} {dvs : List V} {dd : List Sl} {t : TA} {a : DSX} {te : TE} {ea : DX}
end
end Mine

namespace Mine
open PySem PySem.Spec PyProof.Rows L2
/-! ### math.gcd, math.comb -/
section
variable {C : Bc}
end
/-! ### sep.join(a list of texts) -/
/-! ### a text walked through, and numbered -/
section
variable {C : Bc} {S : SS} {ta : TA} {ea : DAX} {tl : TE} {el : DX}
end
/-! ### a text times a number -/
end Mine

namespace Mine
open PySem PySem.Spec PyProof.Rows L2
/-! ### == of instances whose class has its own __eq__ -/
/-- what of the text == of the classes in the table asks -/
structure EqTab (K : PySem.W.Frag) (tabE : Str → Option DFn) (tabC : Str → Bool) : Prop where
  kin : ∀ c F, tabE c = some F → ∀ n, n ∈ ["NoneType", "bool", "int", "str", "tuple", "list", "dict"] → PySem.W.notFirst K (He.ga K c) (.type n) = true
  own : ∀ c F c', tabE c = some F → tabC c' = true → PySem.W.notFirst K (He.ga K c) (.ref (He.ga K c')) = true
  ins : ∀ c', tabC c' = true → ∀ (H : Hp) (a dx : Addr) (fs : List (Str × V)), H a = some (.ins (He.ga K c') dx fs) → TyX K H (.ref a) (.ref (He.ga K c'))
end Mine

namespace PySem
open PySem.SeqAt AutoSeq1 MeetsSeq PySem.W
section
variable {prog : Program} {w : World} {A : Around} {E : Value → Shared → Prop} {s : Shared} {K : Frag} {x C L f : Addr} {h₀ : Heap} {m : Str → Option Value} {ox : Obj} {od : Option Obj} {a : Value} {Ta ida : String}
end
end PySem

namespace Mine
open PySem PySem.Spec PyProof.Rows L2
/-! ### a built-in value == an instance whose class has its own __eq__ -/
inductive TyP (H : Hp) : V → String → Prop
  | non : TyP H .non "NoneType"
  | bl (b : Bool) : TyP H (.bl b) "bool"
  | int (i : Int) : TyP H (.int i) "int"
  | str (s : Str) : TyP H (.str s) "str"
  | lst {a : Addr} {xs : List V} (e : H a = some (.lst xs)) : TyP H (.ref a) "list"
  | tup {a : Addr} {xs : List V} (e : H a = some (.tup xs)) : TyP H (.ref a) "tuple"
abbrev kinds6 : List String := ["NoneType", "bool", "int", "str", "tuple", "list"]
theorem TyP.mem {H : Hp} {x : V} {n : String} (h : TyP H x n) : n ∈ kinds6 := by cases h <;> decide
structure EqTab2 (K : PySem.W.Frag) (tabE : Str → Option DFn) (tabC : Str → Bool) : Prop extends EqTab K tabE tabC where
  sub : ∀ c F, tabE c = some F → ∀ n, n ∈ kinds6 → PySem.W.subIn K (.ref (He.ga K c)) (.type n) = some false
end Mine

namespace Mine
open PySem PySem.Spec PyProof.Rows L2
/-! ### the tables for == of own classes -/
structure EqsOk (K : PySem.W.Frag) (cs : List Str) : Prop where
  kin : ∀ c, c ∈ cs → ∀ n, n ∈ ["NoneType", "bool", "int", "str", "tuple", "list", "dict"] → PySem.W.notFirst K (He.ga K c) (.type n) = true
  sub : ∀ c, c ∈ cs → ∀ n, n ∈ kinds6 → PySem.W.subIn K (.ref (He.ga K c)) (.type n) = some false
  own : ∀ c, c ∈ cs → ∀ c', c' ∈ cs → PySem.W.notFirst K (He.ga K c) (.ref (He.ga K c')) = true
/-! what == says in the pure part -/
section
variable {tabE : Str → Option DFn} {tabC : Str → Bool} {Q : Dt → Prop}
end
end Mine

namespace Mine
open PySem PySem.Spec PyProof.Rows L2
/-! ### len(set(xs)) of whole numbers; targets of four and five names -/
section
variable {C : Bc}
end
end Mine

namespace Mine
open PySem PySem.Spec PyProof.Rows L2
/-! ### list(range(..)), tuple(range(..)) -/
def eRgL (a b : DX) (k : List Dt → Dt) : DX := fun env Q E => a env (fun x => b env (fun y => match x, y with
  | .int i, .int j => (-(2 ^ 62) ≤ i ∧ i < 2 ^ 62 ∧ -(2 ^ 62) ≤ j ∧ j < 2 ^ 62 ∧ (j - i).toNat ≤ 16777216) ∧ Q (k ((List.range (j - i).toNat).map fun n : Nat => Dt.int (i + (n : Nat))))
  | _, _ => False) E) E
theorem eRgL_W (a b : DX) (k : List Dt → Dt) {env} {Q} {E} : eRgL a b k env Q E = a env (fun x => b env (fun y => match x, y with
  | .int i, .int j => (-(2 ^ 62) ≤ i ∧ i < 2 ^ 62 ∧ -(2 ^ 62) ≤ j ∧ j < 2 ^ 62 ∧ (j - i).toNat ≤ 16777216) ∧ Q (k ((List.range (j - i).toNat).map fun n : Nat => Dt.int (i + (n : Nat))))
  | _, _ => False) E) E := rfl
theorem den_rg {K : PySem.W.Frag} {H : Hp} (i j : Int) : DenAll K H (rgV i j) ((List.range (j - i).toNat).map fun n : Nat => Dt.int (i + (n : Nat))) := by
  unfold rgV
  generalize List.range (j - i).toNat = l
  induction l with
  | nil => exact .nil
  | cons x l ih => exact .cons (.int _) ih
section
variable {C : Bc} {ta tb : TE} {a b : DX}
theorem rg_core (ha : DE C ta a) (hb : DE C tb b) {X env σ H} {Qd : Dt → Prop} {Qx : Xc → Prop} {k : List Dt → Dt} {R : Int → Int → Hp → Prop} (rp : Rep C X env σ H) (h : eRgL a b k env Qd Qx) (x : XOk C X σ H Qx)
    (q : ∀ i j H', Frm C.hd H H' → Rep C X env σ H' → RgOk i j → Qd (k ((List.range (j - i).toNat).map fun n : Nat => Dt.int (i + (n : Nat)))) → R i j H') : tRg2 ta tb σ H R := by
  refine ha X env σ H _ _ Qx rp h (fun d v H1 f1 r1 h1 => ?_) x
  have rp1 := rp.step f1
  refine hb X env σ H1 _ _ Qx rp1 h1 (fun d2 v2 H2 f2 r2 h2 => ?_) (x.step f1)
  have r1 : Den C.K (vis H2 X) v d := Den.mono (rp1.vs f2) r1
  have r2 : Den C.K (vis H2 X) v2 d2 := r2
  split at h2
  · exact ⟨_, _, r1.flat rfl, r2.flat rfl, q _ _ _ (f1.trans f2) (rp1.step f2) h2.1 h2.2⟩
  · exact h2.elim
theorem df_listRg (ha : DE C ta a) (hb : DE C tb b) : DF C (tLstRg (tRg2 ta tb)) (eRgL a b .lst) := by
  intro X env σ H Q Qd Qx rp h q x
  exact rg_core ha hb rp h x fun i j H' f r ok h' => ⟨ok, fun p hp => q _ _ _ (f.trans (.upd hp)) (Fsh.frm rp f (fsh_new r hp (den_rg i j))) h'⟩
theorem rg_core1 (hb : DE C tb b) {X env σ H} {Qd : Dt → Prop} {Qx : Xc → Prop} {k : List Dt → Dt} {R : Int → Int → Hp → Prop} (rp : Rep C X env σ H) (h : eRgL (eC (.int 0)) b k env Qd Qx) (x : XOk C X σ H Qx)
    (q : ∀ i j H', Frm C.hd H H' → Rep C X env σ H' → RgOk i j → Qd (k ((List.range (j - i).toNat).map fun n : Nat => Dt.int (i + (n : Nat)))) → R i j H') : tRg1 tb σ H R := by
  refine hb X env σ H _ _ Qx rp h (fun d2 v2 H2 f2 r2 h2 => ?_) x
  have r2 : Den C.K (vis H2 X) v2 d2 := r2
  cases d2 with
  | int j => exact ⟨_, r2.flat rfl, q _ _ _ f2 (rp.step f2) h2.1 h2.2⟩
  | _ => exact h2.elim
theorem df_listRg1 (hb : DE C tb b) : DF C (tLstRg (tRg1 tb)) (eRgL (eC (.int 0)) b .lst) := by
  intro X env σ H Q Qd Qx rp h q x
  exact rg_core1 hb rp h x fun i j H' f r ok h' => ⟨ok, fun p hp => q _ _ _ (f.trans (.upd hp)) (Fsh.frm rp f (fsh_new r hp (den_rg i j))) h'⟩
end
end Mine

namespace Mine
open PySem PySem.Spec PyProof.Rows L2 PpSet
/-! ### a set comprehension whose items are tuples of whole numbers -/
section
variable {P : Program} {w : World} {A : Around} {E : Value → Shared → Prop} {s : Shared} {a : Addr} {L : List (Addr × List Int)} {es : Array (Int × Value)} {ep : Nat} {t : SetTable}
end
section
variable {X : Cx}
end
end Mine

namespace Mine
open PySem PySem.Spec PyProof.Rows L2 PpSet
/-! ### sorted({e for x in xs}), e tuples of whole numbers -/
end Mine

namespace Mine
open PySem PySem.Spec PyProof.Rows L2
/-! ### f'..{e}..' of texts and whole numbers -/
/-- the parts one by one -/
inductive DJ (C : Bc) : List TE → List DX → Prop where
  | nil : DJ C [] []
  | cons {t : TE} {a : DX} {ts : List TE} {as : List DX} (h : DE C t a) (r : DJ C ts as) : DJ C (t :: ts) (a :: as)
section
variable {C : Bc}
end
/-! ### text.find(sign), text.count(sign), text.startswith(..) -/
def eTm (k : Str → Str → Dt) (a b : DX) : DX := fun env Q E => a env (fun x => match x with
  | .str u => b env (fun y => match y with
    | .str z => Q (k u z)
    | _ => False) E
  | _ => False) E
theorem eTm_W (k : Str → Str → Dt) (a b : DX) {env} {Q} {E} : eTm k a b env Q E = a env (fun x => match x with
  | .str u => b env (fun y => match y with
    | .str z => Q (k u z)
    | _ => False) E
  | _ => False) E := rfl
theorem de_tm {C : Bc} {ta tb : TE} {a b : DX} {k : Str → Str → Dt} {kv : Str → Str → V} (hk : ∀ K H u z, Den K H (kv u z) (k u z)) (ha : DE C ta a) (hb : DE C tb b) :
    DE C (tM1 (fun x xs H Q => ∃ a b, x = .str a ∧ xs = [.str b] ∧ Q (kv a b) H) ta tb) (eTm k a b) := by
  intro X env σ H Q Qd Qx rp h q x
  refine ha X env σ H _ _ Qx rp h (fun d v H1 f1 r1 h1 => ?_) x
  have r1 : Den C.K (vis H1 X) v d := r1
  split at h1
  · refine ⟨⟨_, r1.flat rfl⟩, hb X env σ H1 _ _ Qx (rp.step f1) h1 (fun d2 v2 H2 f2 r2 h2 => ?_) (x.step f1)⟩
    have r2 : Den C.K (vis H2 X) v2 d2 := r2
    split at h2
    · exact ⟨_, _, r1.flat rfl, by rw [r2.flat rfl], q _ _ _ (f1.trans f2) (hk _ _ _ _) h2⟩
    · exact h2.elim
  · exact h1.elim
theorem pe_countT {X : Cx} {o e : Expr} {to te : TE} {apos pos : Pos} (ho : PE X o to) (he : PE X e te) (hs : starEach [e] X.env = [(false, eval e X.env)] := by rfl) (hbase : attributeBase o "count" X.env (eval o X.env) = eval o X.env := by rfl) (hline : (apos.endLine == pos.line) = true := by rfl) :
    PE X (.Call (.Attribute o "count" apos) [e] [] pos) (tM1 (fun x xs H Q => ∃ a b, x = .str a ∧ xs = [.str b] ∧ Q (.int (Txt.count a b)) H) to te) :=
  pe_m1 F.slot_str_count F.type_str_count mt_count ho he hs hbase hline
theorem de_countT {C : Bc} {ta tb : TE} {a b : DX} (ha : DE C ta a) (hb : DE C tb b) : DE C (tM1 (fun x xs H Q => ∃ a b, x = .str a ∧ xs = [.str b] ∧ Q (.int (Txt.count a b)) H) ta tb) (eTm (fun u z => .int (Txt.count u z)) a b) := de_tm (kv := fun u z => .int (Txt.count u z)) (fun _ _ _ _ => .int _) ha hb
end Mine

namespace Mine
open PySem PySem.Spec PyProof.Rows L2
/-! ### a comprehension within a comprehension -/
end Mine

namespace Mine
open PySem PySem.Spec PyProof.Rows L2
/-! ### a or b, a a text -/
end Mine

namespace ZN
open PySem
section
variable {M : Model} {A : Around} {E : Value → Shared → Prop}
end
structure Ap (z TI TO : Addr) (p : List (Addr × Addr)) : Prop where
  TIz : TI ≠ z
  TOz : TO ≠ z
  TITO : TI ≠ TO
  nd : (p.map (·.1)).Nodup
  iz : ∀ q ∈ p, q.1 ≠ z
  iTI : ∀ q ∈ p, TI ≠ q.1
  iTO : ∀ q ∈ p, TO ≠ q.1
  lz : ∀ q ∈ p, q.2 ≠ z
  lTO : ∀ q ∈ p, q.2 ≠ TO
  li : ∀ q ∈ p, ∀ r ∈ p, q.2 ≠ r.1
section
variable {prog : Program} {w : World} {A : Around} {E : Value → Shared → Prop} {s : Shared}
/-! made of four lists -/
abbrev li (l : Addr) : Obj := { cls := .type "list_iterator", data := .fields #[.ref l, .int 0 0] }
end
end ZN

namespace Mine
open PySem PySem.Spec PyProof.Rows L2 ZN
/-! ### zip(*xs) of four lists, one name for what it gives -/
def eZipS (a : DX) : DAX := fun env Q E => a env (fun d => ∃ (n : Nat) (xs : List (List Dt)), d = .lst (xs.map .lst) ∧ xs.length = 4 ∧ (∀ l ∈ xs, l.length = n) ∧ Q ((List.range n).map fun i => .tup (xs.map fun l => l.getD i .non))) E
theorem eZipS_W (a : DX) {env} {Q} {E} : eZipS a env Q E = a env (fun d => ∃ (n : Nat) (xs : List (List Dt)), d = .lst (xs.map .lst) ∧ xs.length = 4 ∧ (∀ l ∈ xs, l.length = n) ∧ Q ((List.range n).map fun i => .tup (xs.map fun l => l.getD i .non))) E := rfl
end Mine

namespace Mine
open PySem PySem.Spec PyProof.Rows L2
/-! ### a list of one's own handed to a def that only reads it: it stays one's own -/
section
variable {C : Bc} {X : Addr → Prop} {env : List Sl} {σ : L2.St} {H H1 : Hp}
end
/-- x = e, the list of one's own in slot i is handed on within e: what comes back is no part of it -/
def sKeep (i j : Nat) (e : DX) : DSt := fun d env => match env[i]? with
  | some (.own w) => e (frz env i) (fun x => ((∃ z, x = .int z) ∨ ∃ (ns : List Int) (xs : List Dt), x = .lst (ns.map .int) ∧ w = .lst xs ∧ ∃ y ∈ xs, y.flat = none) ∧ d.nx (env.set j (.d x))) (d.xc (frz env i))
  | _ => False
theorem sKeep_W (i j : Nat) (e : DX) {d} {env} : sKeep i j e d env = (match env[i]? with
  | some (.own w) => e (frz env i) (fun x => ((∃ z, x = .int z) ∨ ∃ (ns : List Int) (xs : List Dt), x = .lst (ns.map .int) ∧ w = .lst xs ∧ ∃ y ∈ xs, y.flat = none) ∧ d.nx (env.set j (.d x))) (d.xc (frz env i))
  | _ => False) := rfl
end Mine

namespace Mine
open PySem PySem.Spec PyProof.Rows L2 GenW
/-! ### generators: if and for around a yield -/
section
variable {prog : Program} {w : World} {A : Around} {R : GenEnd} {Y : Protocol} {n : Nat} {s₀ : Shared} {fs : List Frame} {s : Shared} {env : Env}
end
section
variable {X : Cx} {pos : Pos}
end
/-! ### generators over data -/
structure GDn where
  nx : List Dt → List Sl → Prop
  xc : List Sl → Xc → Prop
abbrev DGt := GDn → List Dt → List Sl → Prop
structure GLnk (C : Bc) (X : Addr → Prop) (H : Hp) (D : GEnds) (d : GDn) : Prop where
  nx : ∀ X' env σ H' ys ds, Rep C X' env σ H' → Same (vis H X) (vis H' X') → DenAll C.K (vis H' X') ys ds → d.nx ds env → D.nx ys σ H'
  xc : ∀ X' env σ H' x cls dx, Rep C X' env σ H' → Same (vis H X) (vis H' X') → XRep C.K (vis H' X') cls dx x → d.xc env x → C.E σ cls dx H'
section
variable {C : Bc} {X X1 : Addr → Prop} {env : List Sl} {σ : L2.St} {H H1 : Hp} {D : GEnds} {d : GDn}
theorem GLnk.step (l : GLnk C X H D d) (s : Same (vis H X) (vis H1 X1)) : GLnk C X1 H1 D d where
  nx := fun X' env σ H' ys ds r k a h => l.nx X' env σ H' ys ds r (s.trans k) a h
  xc := fun X' env σ H' x cls dx r k a h => l.xc X' env σ H' x cls dx r (s.trans k) a h
theorem GLnk.xok (l : GLnk C X H D d) (r : Rep C X env σ H) : XOk C X σ H (d.xc env) := fun x cls dx H' f a h => l.xc X env σ H' x cls dx (r.step f) (r.vs f) a h
end
def gPlain (s : DSt) : DGt := fun d acc env => s ⟨fun e => d.nx acc e, fun _ => False, fun _ => False, fun _ => False, d.xc⟩ env
def gSeq (a b : DGt) : DGt := fun d acc env => a { d with nx := fun acc' e => b d acc' e } acc env
def gNext : DGt := fun d acc env => d.nx acc env
def gIf (c : DTX) (a b : DGt) : DGt := fun d acc env => c env (fun k => if k = true then a d acc env else b d acc env) (d.xc env)
def gYield (e : DX) : DGt := fun d acc env => acc.length < LINE ∧ e env (fun x => d.nx (acc ++ [x]) env) (d.xc env)
def dGFor (f : DGX) (b : DGt) (d : GDn) : List Dt → List Dt → List Sl → Prop
  | [], acc, env => d.nx acc env
  | x :: xs, acc, env => f x env fun env' => b { d with nx := dGFor f b d xs } acc env'
def gFor (src : DAX) (f : DGX) (b : DGt) : DGt := fun d acc env => src env (fun ds => dGFor f b d ds acc env) (d.xc env)
section
variable {C : Bc} {t : TS} {s : DSt} {tc : TT} {ec : DTX} {te : TE} {e : DX} {tu tv : TGn} {a b : DGt} {wi : TI} {g : TG} {src : DAX} {f : DGX} {js : List Nat}
end
def mkG (np N : Nat) (s : DGt) : DFn := fun args Q E => args.length = np ∧ s ⟨fun acc _ => Q (.lst acc), fun _ x => E x⟩ [] (args ++ List.replicate (N - np) .no)
section
variable {P : Program} {w : World} {K : PySem.W.Frag} {mg : Str → Option Value} {base : Heap} {x qual : Str} {params : Arguments} {body : List Stmt} {scope : Scope} {dvs : List V} {kws : List (Str × V)} {f : Addr} {fd : FuncData}
end
section
variable {C : Bc} {F : DFn} {dvs : List V} {dd : List Sl} {t : TA} {a : DSX}
end
/-! ### monotone: calls, fields -/
/-! ### equations -/
theorem mkG_W {np N : Nat} {s : DGt} {args : List Sl} {Q : Dt → Prop} {E : Xc → Prop} : mkG np N s args Q E = (args.length = np ∧ s ⟨fun acc _ => Q (.lst acc), fun _ x => E x⟩ [] (args ++ List.replicate (N - np) .no)) := rfl
theorem gPlain_W {s : DSt} {d : GDn} {acc : List Dt} {env : List Sl} : gPlain s d acc env = s ⟨fun e => d.nx acc e, fun _ => False, fun _ => False, fun _ => False, d.xc⟩ env := rfl
theorem gSeq_W {a b : DGt} {d : GDn} {acc : List Dt} {env : List Sl} : gSeq a b d acc env = a { d with nx := fun acc' e => b d acc' e } acc env := rfl
theorem gNext_W {d : GDn} {acc : List Dt} {env : List Sl} : gNext d acc env = d.nx acc env := rfl
theorem gIf_W {c : DTX} {a b : DGt} {d : GDn} {acc : List Dt} {env : List Sl} : gIf c a b d acc env = c env (fun k => if k = true then a d acc env else b d acc env) (d.xc env) := rfl
theorem gYield_W {e : DX} {d : GDn} {acc : List Dt} {env : List Sl} : gYield e d acc env = (acc.length < LINE ∧ e env (fun x => d.nx (acc ++ [x]) env) (d.xc env)) := rfl
theorem gFor_W {src : DAX} {f : DGX} {b : DGt} {d : GDn} {acc : List Dt} {env : List Sl} : gFor src f b d acc env = src env (fun ds => dGFor f b d ds acc env) (d.xc env) := rfl
end Mine

namespace Mine
open PySem PySem.Spec PyProof.Rows L2
/-! ### rows = [a new list for ..]; rows[k1][k2] = a whole number, right behind: both rows together -/
section
variable {C : Bc} {X : Addr → Prop} {env : List Sl} {σ : L2.St} {H H1 H2 : Hp}
end
theorem rows_den {K : PySem.W.Frag} {H : Hp} : ∀ {qs : List Addr} {dss : List (List Dt)}, qs.length = dss.length → (∀ (j : Nat) (q : Addr) (ds : List Dt), qs[j]? = some q → dss[j]? = some ds → ∃ us, H q = some (.lst us) ∧ DenAll K H us ds) → DenAll K H (qs.map V.ref) (dss.map Dt.lst)
  | [], [], _, _ => .nil
  | [], _ :: _, h, _ => by cases h
  | _ :: _, [], h, _ => by cases h
  | q :: qs, ds :: dss, hl, h => by
    obtain ⟨us, h1, h2⟩ := h 0 q ds rfl rfl
    exact .cons (.lst h1 h2) (rows_den (by simpa using hl) fun j q' ds' e1 e2 => h (j + 1) q' ds' (by simpa using e1) (by simpa using e2))
def sRowPut (i : Nat) (lc ev e1 e2 : DX) : DSt := fun d env => i < env.length ∧ lc env (fun r => match r with
  | .lst rows => ev (env.set i .no) (fun v => match v with
    | .int z => e1 (env.set i .no) (fun a => match a with
      | .int m => ∃ m' : Nat, ixN rows.length m = some m' ∧ e2 (env.set i .no) (fun b => match b with
        | .int j => ∃ (j' : Nat) (ds : List Dt), rows[m']? = some (.lst ds) ∧ ixN ds.length j = some j' ∧ d.nx (env.set i (.d (.lst (rows.set m' (.lst (ds.set j' (.int z)))))))
        | _ => False) (d.xc (env.set i .no))
      | _ => False) (d.xc (env.set i .no))
    | _ => False) (d.xc (env.set i .no))
  | _ => False) (d.xc env)
section
variable {C : Bc} {wi : TI} {g : TG} {tt : TT} {te tv t1 t2 : TE} {vs : List Nat} {src : DAX} {f : DGX} {et : DTX} {ee ev e1 e2 : DX} {u : TS} {s : DSt} {i : Nat}
end
theorem sRowPut_W {i : Nat} {lc ev e1 e2 : DX} {d : DEn} {env : List Sl} : sRowPut i lc ev e1 e2 d env = (i < env.length ∧ lc env (fun r => match r with
  | .lst rows => ev (env.set i .no) (fun v => match v with
    | .int z => e1 (env.set i .no) (fun a => match a with
      | .int m => ∃ m' : Nat, ixN rows.length m = some m' ∧ e2 (env.set i .no) (fun b => match b with
        | .int j => ∃ (j' : Nat) (ds : List Dt), rows[m']? = some (.lst ds) ∧ ixN ds.length j = some j' ∧ d.nx (env.set i (.d (.lst (rows.set m' (.lst (ds.set j' (.int z)))))))
        | _ => False) (d.xc (env.set i .no))
      | _ => False) (d.xc (env.set i .no))
    | _ => False) (d.xc (env.set i .no))
  | _ => False) (d.xc env)) := rfl
end Mine

namespace Mine
open PySem PySem.Spec PyProof.Rows L2
/-! ### l.count(x) of any plain things -/
def eCnt (a b : DX) : DX := fun env Q E => a env (fun x => match x with
  | .lst ys => b env (fun z => z.sh ∧ Dt.sh (.lst ys) ∧ Q (.int ((ys.countP fun y => y.eqv z : Nat)))) E
  | _ => False) E
theorem eCnt_W (a b : DX) {env} {Q} {E} : eCnt a b env Q E = a env (fun x => match x with
  | .lst ys => b env (fun z => z.sh ∧ Dt.sh (.lst ys) ∧ Q (.int ((ys.countP fun y => y.eqv z : Nat)))) E
  | _ => False) E := rfl
end Mine

namespace Mine
open PySem PySem.Spec PyProof.Rows L2
/-! ### sorted(set(xs)) of whole numbers -/
def eSortedSetI (a : DX) : DX := fun env Q E => a env (fun d => ∃ ns : List Int, d = .lst (ns.map Dt.int) ∧ ns.length < 64 ∧ ∀ ms : List Int, ms.Pairwise (· < ·) → (∀ x, x ∈ ms ↔ x ∈ ns) → Q (.lst (ms.map Dt.int))) E
theorem eSortedSetI_W (a : DX) {env} {Q} {E} : eSortedSetI a env Q E = a env (fun d => ∃ ns : List Int, d = .lst (ns.map Dt.int) ∧ ns.length < 64 ∧ ∀ ms : List Int, ms.Pairwise (· < ·) → (∀ x, x ∈ ms ↔ x ∈ ns) → Q (.lst (ms.map Dt.int))) E := rfl
end Mine

namespace Mine
open PySem PySem.Spec PyProof.Rows L2
/-! ### tables of sets, of any mask 2 ^ e - 1: the way x -> 5 x + 1 meets each slot -/
def five : Nat → Nat → Nat
  | 0, x => x
  | n + 1, x => five n x * 5 + 1
theorem five_add (a x : Nat) : ∀ b, five (a + b) x = five b (five a x)
  | 0 => rfl
  | b + 1 => by show five (a + b) x * 5 + 1 = five b (five a x) * 5 + 1; rw [five_add a x b]
theorem five_pow : ∀ k, ∃ s t, ∀ x, five (2 ^ k) x = (1 + 4 * 2 ^ k * s) * x + 2 ^ k * (2 * t + 1)
  | 0 => ⟨1, 0, fun x => by show x * 5 + 1 = (1 + 4 * 1 * 1) * x + 1 * (2 * 0 + 1); omega⟩
  | k + 1 => by
    obtain ⟨s, t, h⟩ := five_pow k
    refine ⟨s + 2 * 2 ^ k * (s * s), t + 2 ^ k * s * (2 * t + 1), fun x => ?_⟩
    rw [Nat.pow_succ, Nat.mul_two, five_add, h, h]
    generalize 2 ^ k = K
    grind
theorem five_all : ∀ k i j, j < 2 ^ k → ∃ n, n < 2 ^ k ∧ five n i % 2 ^ k = j
  | 0, i, j, h => ⟨0, by decide, by rw [Nat.pow_zero, Nat.mod_one]; omega⟩
  | k + 1, i, j, h => by
    have pk : 0 < 2 ^ k := Nat.pow_pos (by decide)
    obtain ⟨n, hn, e⟩ := five_all k i (j % 2 ^ k) (Nat.mod_lt _ pk)
    obtain ⟨s, t, h5⟩ := five_pow k
    have e2 : 2 ^ (k + 1) = 2 * 2 ^ k := by rw [Nat.pow_succ, Nat.mul_comm]
    rw [e2] at h ⊢
    by_cases c : five n i % (2 * 2 ^ k) = j
    · exact ⟨n, by omega, c⟩
    · refine ⟨n + 2 ^ k, by omega, ?_⟩
      rw [five_add, h5]
      generalize five n i = y at e c
      generalize 2 ^ k = K at *
      have r1 := Nat.div_add_mod y K
      have r2 := Nat.div_add_mod j K
      have hb : j / K < 2 := Nat.div_lt_of_lt_mul (by rw [Nat.mul_comm]; exact h)
      have hq := Nat.div_add_mod (y / K) 2
      have hr := Nat.mod_lt (y / K) (show 0 < 2 by decide)
      rw [e] at r1
      -- y = K q + r, j = K b + r, q and b of unlike parity
      have ne : y / K % 2 ≠ j / K := fun z => c (by
        rw [← r1, ← hq, z, Nat.mul_add, ← Nat.mul_assoc, Nat.mul_comm K 2, Nat.add_assoc, Nat.mul_add_mod, r2]
        exact Nat.mod_eq_of_lt h)
      have main : ∃ m, (1 + 4 * K * s) * y + K * (2 * t + 1) = 2 * K * m + j := by
        generalize y / K = q at *
        generalize j / K = b at *
        generalize j % K = r at *
        have q1 : q % 2 = 0 ∧ b = 1 ∨ q % 2 = 1 ∧ b = 0 := by omega
        rcases q1 with ⟨a1, a2⟩ | ⟨a1, a2⟩
        · refine ⟨q / 2 + 2 * s * y + t, ?_⟩
          rw [a1] at hq; rw [a2] at r2
          generalize q / 2 = u at *
          subst hq; subst r2; subst r1
          grind
        · refine ⟨q / 2 + 1 + 2 * s * y + t, ?_⟩
          rw [a1] at hq; rw [a2] at r2
          generalize q / 2 = u at *
          subst hq; subst r2; subst r1
          grind
      obtain ⟨m, hm⟩ := main
      rw [hm, Nat.mul_add_mod]
      exact Nat.mod_eq_of_lt h
/-- the masks -/
def MaskG (m : Nat) : Prop := ∃ e, m + 1 = 2 ^ e ∧ (e = 3 ∨ e = 5 ∨ e = 7 ∨ e = 9 ∨ e = 11 ∨ e = 13)
theorem MaskG.six {m : Nat} (h : MaskG m) : m = 7 ∨ m = 31 ∨ m = 127 ∨ m = 511 ∨ m = 2047 ∨ m = 8191 := by
  obtain ⟨e, h1, rfl | rfl | rfl | rfl | rfl | rfl⟩ := h <;> omega
theorem MaskG.odd {m : Nat} (h : MaskG m) : m % 2 = 1 ∧ 7 ≤ m ∧ m ≤ 8191 := by
  have := h.six
  omega
theorem lcg_five {m i : Nat} (hi : i ≤ m) : ∀ n, lcgI m i n = five n i % (m + 1)
  | 0 => (Nat.mod_eq_of_lt (Nat.lt_succ_of_le hi)).symm
  | n + 1 => by
    show (lcgI m i n * 5 + 1) % (m + 1) = (five n i * 5 + 1) % (m + 1)
    rw [lcg_five hi n, Nat.add_mod, Nat.mul_mod, Nat.mod_mod, ← Nat.mul_mod, ← Nat.add_mod]
theorem MaskG.all {m : Nat} (h : MaskG m) {i j : Nat} (hi : i ≤ m) (hj : j ≤ m) : ∃ k, k ≤ m ∧ lcgI m i k = j := by
  obtain ⟨e, he, _⟩ := h
  obtain ⟨n, hn, en⟩ := five_all e i j (by omega)
  exact ⟨n, by omega, by rw [lcg_five hi, he]; exact en⟩
theorem MaskG.run {m : Nat} (hm : MaskG m) (h : Int) {j : Nat} (hj : j ≤ m) : ∃ n, n ≤ m + 12 ∧ runI m (SetTable.bits h) n = j := by
  obtain ⟨k, hk, e⟩ := hm.all (runI_le m (SetTable.bits h) 12) hj
  refine ⟨12 + k, by omega, ?_⟩
  rw [runI_tail (bits_lt h)]; exact e
theorem MaskG.met {m : Nat} (hm : MaskG m) (h : Int) {j : Nat} (hj : j ≤ m) : ∃ k, k < 10 * SetTable.turns m ∧ way m h k = j := by
  obtain ⟨n, hn, e⟩ := hm.run h hj
  obtain ⟨k, hk, e2⟩ := run_nth m (SetTable.bits h) n
  have lt : k < 10 * SetTable.turns m := by unfold SetTable.turns; omega
  exact ⟨k, lt, by unfold way; rw [e2]; exact e⟩
theorem way_top {m : Nat} (h : Int) (k : Nat) : way m h k ≤ m := by
  have lt : SetTable.bits h % (m + 1) ≤ m := Nat.le_of_lt_succ (Nat.mod_lt _ (Nat.succ_pos _))
  obtain ⟨r1, r2, _⟩ := runEnd_bd lt
  have := nth_in (m := m) k (runAt m (SetTable.bits h % (m + 1)) (SetTable.bits h)) (by unfold runAt; dsimp only; omega)
  exact Nat.le_trans (Nat.le_add_right _ _) this
end Mine

namespace Mine
open PySem PySem.Spec PyProof.Rows L2
/-- places and hashes: each hash finds its place by its way, over taken ones -/
structure Placed (m : Nat) (ps : List Nat) (hs : List Int) : Prop where
  asc : Ris ps
  len : ps.length = hs.length
  top : ∀ x ∈ ps, x ≤ m
  got : ∀ q ∈ ps.zip hs, ∃ k, way m q.2 k = q.1 ∧ ∀ i, i < k → way m q.2 i ∈ ps
structure TabG (t : SetTable) (hs : List Int) : Prop where
  mask : MaskG t.mask
  bare : t.dummies = #[]
  pl : Placed t.mask t.place.toList hs
/-- the first free place -/
theorem TabG.gap {t : SetTable} {hs : List Int} (T : TabG t hs) (hl : hs.length ≤ t.mask) (h : Int) :
    ∃ K, K < 10 * SetTable.turns t.mask ∧ way t.mask h K ∉ t.place.toList ∧ ∀ k, k < K → way t.mask h k ∈ t.place.toList := by
  obtain ⟨j, hj, hn⟩ := st_missing t.place.toList (t.mask + 1) (by have := T.pl.len; omega)
  obtain ⟨k, hk, e⟩ := T.mask.met h (Nat.le_of_lt_succ hj)
  obtain ⟨K, a, b, c⟩ := st_least (p := fun i => way t.mask h i ∉ t.place.toList) k (by rw [e]; exact hn)
  exact ⟨K, by omega, b, fun i hi => Classical.byContradiction fun z => c i hi z⟩
theorem zip_ins {α β : Type} {l : List α} {l' : List β} {p : Nat} (e : l.length = l'.length) (x : α) (y : β) {q : α × β} (hq : q ∈ (l.take p ++ x :: l.drop p).zip (l'.take p ++ y :: l'.drop p)) : q = (x, y) ∨ q ∈ l.zip l' := by
  rw [List.zip_append (by rw [List.length_take, List.length_take, e]), List.zip_cons_cons, List.mem_append, List.mem_cons] at hq
  have ez : l.zip l' = (l.take p).zip (l'.take p) ++ (l.drop p).zip (l'.drop p) := by
    rw [← List.zip_append (by rw [List.length_take, List.length_take, e]), List.take_append_drop, List.take_append_drop]
  rw [ez, List.mem_append]
  rcases hq with h | h | h
  · exact .inr (.inl h)
  · exact .inl h
  · exact .inr (.inr h)
/-- one more in the table -/
theorem TabG.more {t : SetTable} {hs : List Int} (T : TabG t hs) {h : Int} {K : Nat} (hK : way t.mask h K ∉ t.place.toList) (hb : ∀ k, k < K → way t.mask h k ∈ t.place.toList) {t' : SetTable} {p : Nat} (e : t.put (way t.mask h K) = (t', p)) :
    p ≤ hs.length ∧ TabG t' (hs.take p ++ h :: hs.drop p) ∧ t'.mask = t.mask ∧ t'.led = t.led ∧ t'.plain = t.plain ∧ t'.fill = hs.length + 1 := by
  have top := way_top (m := t.mask) h K
  obtain ⟨j, ej⟩ : ∃ j, way t.mask h K = j := ⟨_, rfl⟩
  rw [ej] at e hK top
  obtain ⟨c1, _, _⟩ := below_cut T.pl.asc j
  have ep : SetTable.below t.place j = p := congrArg Prod.snd e
  have et : (t.put j).1 = t' := congrArg Prod.fst e
  have pp := put_place t j
  have pd := put_dm T.bare j
  have pa : Ris (t.put j).1.place.toList := ris_insert T.pl.asc fun z => hK (List.mem_of_getElem? (by rw [Array.getElem?_toList]; exact z))
  have pm : (t.put j).1.mask = t.mask ∧ (t.put j).1.led = t.led ∧ (t.put j).1.plain = t.plain := ⟨rfl, rfl, rfl⟩
  rw [ep] at pp c1
  rw [et] at pp pd pa pm
  have hl := T.pl.len
  rw [Array.length_toList] at hl
  have lp : t'.place.toList.length = hs.length + 1 := by
    rw [pp, List.length_append, List.length_cons, List.length_take, List.length_drop, Array.length_toList]; omega
  have inn : ∀ {x : Nat}, x ∈ t'.place.toList ↔ x = j ∨ x ∈ t.place.toList := fun {x} => by rw [pp]; exact mem_ins
  refine ⟨by omega, ⟨by rw [pm.1]; exact T.mask, pd, pa, ?_, fun x hx => ?_, fun q hq => ?_⟩, pm.1, pm.2.1, pm.2.2, ?_⟩
  · rw [lp, List.length_append, List.length_cons, List.length_take, List.length_drop]; omega
  · rw [pm.1]
    rcases inn.mp hx with z | z
    · omega
    · exact T.pl.top x z
  · rw [pm.1]
    rw [pp] at hq
    rcases zip_ins T.pl.len j h hq with rfl | z
    · exact ⟨K, ej, fun i hi => inn.mpr (.inr (hb i hi))⟩
    · obtain ⟨k, a, b⟩ := T.pl.got q z
      exact ⟨k, a, fun i hi => inn.mpr (.inr (b i hi))⟩
  · unfold SetTable.fill
    rw [pd, ← Array.length_toList, lp]; rfl
/-- a place for one more when all is laid anew -/
theorem MaskG.free {m : Nat} (hm : MaskG m) (owner : Array (Option Nat)) (h : Int) {j : Nat} (hj : j ≤ m) (hf : oAt owner j = none) :
    ∃ K, SetTable.layClean.free m owner (SetTable.turns m) (SetTable.bits h % (m + 1)) (SetTable.bits h) = some (way m h K) ∧ oAt owner (way m h K) = none ∧ ∀ k, k < K → oAt owner (way m h k) ≠ none := by
  obtain ⟨n, hn, e⟩ := hm.run h hj
  obtain ⟨N, eN⟩ : ∃ N, off m (SetTable.bits h % (m + 1)) (SetTable.bits h) n = N := ⟨_, rfl⟩
  have at_ : way m h N = j := by
    unfold way
    rw [← eN, nth_off, itL_run]; exact e
  obtain ⟨K, a, b, c⟩ := st_least (p := fun i => oAt owner (way m h i) = none) N (by rw [at_]; exact hf)
  refine ⟨K, free_spec m owner (SetTable.turns m) n _ _ K (by unfold SetTable.turns; omega) (by rw [eN]; exact a) (fun i hi => ?_) ?_, b, c⟩
  · have := c i hi
    exact Option.isNone_eq_false_iff.mpr (Option.isSome_iff_ne_none.mpr this)
  · exact Option.isNone_iff_eq_none.mpr b
theorem own_next {m : Nat} (hm : MaskG m) {done : List Int} {owner : Array (Option Nat)} (W : Own m done owner) (hl : done.length ≤ m) (h : Int) :
    ∃ j, SetTable.layClean.free m owner (SetTable.turns m) (SetTable.bits h % (m + 1)) (SetTable.bits h) = some j ∧ Own m (done ++ [h]) (owner.setIfInBounds j (some done.length)) := by
  obtain ⟨ps, hps, hin⟩ := W.ps
  obtain ⟨i0, hi0, hn⟩ := st_missing ps (m + 1) (by omega)
  have fr : oAt owner i0 = none := Classical.byContradiction fun z => hn (hin i0 (Nat.le_of_lt_succ hi0) z)
  obtain ⟨K, e1, e2, e3⟩ := hm.free owner h (Nat.le_of_lt_succ hi0) fr
  have top := way_top (m := m) h K
  obtain ⟨j, ej⟩ : ∃ j, way m h K = j := ⟨_, rfl⟩
  rw [ej] at e1 e2 top
  have self := oAt_set_self (owner := owner) (some done.length) (show j < owner.size by rw [W.sz]; omega)
  have keep : ∀ i, oAt owner i ≠ none → oAt (owner.setIfInBounds j (some done.length)) i = oAt owner i := fun i hi => oAt_set_ne _ fun z => hi (by rw [z]; exact e2)
  refine ⟨j, e1, ?_⟩
  constructor
  · rw [Array.size_setIfInBounds]; exact W.sz
  · intro i k hi e
    by_cases c : i = j
    · subst c
      rw [self] at e
      cases e
      refine ⟨h, K, by simp, ej, fun a ha => ?_⟩
      rw [keep _ (e3 a ha)]; exact e3 a ha
    · rw [oAt_set_ne _ c] at e
      obtain ⟨h', K', a1, a2, a3⟩ := W.at_ i k hi e
      refine ⟨h', K', ?_, a2, fun a ha => by rw [keep _ (a3 a ha)]; exact a3 a ha⟩
      rw [List.getElem?_append_left (List.getElem?_eq_some_iff.mp a1).1]; exact a1
  · intro k hk
    rcases Nat.lt_or_ge k done.length with c | c
    · obtain ⟨i, hi, e⟩ := W.all k c
      exact ⟨i, hi, by rw [keep i (by rw [e]; simp)]; exact e⟩
    · have : k = done.length := by simp at hk; omega
      subst this
      exact ⟨j, top, self⟩
  · refine ⟨j :: ps, by simp [hps], fun i hi e => ?_⟩
    by_cases c : i = j
    · rw [c]; exact List.mem_cons_self
    · rw [oAt_set_ne _ c] at e
      exact List.mem_cons_of_mem _ (hin i hi e)
theorem lay_all {m : Nat} (hm : MaskG m) : ∀ (rest done : List Int) (owner : Array (Option Nat)), Own m done owner → done.length + rest.length ≤ m →
    ∃ o2, rest.foldl (stepF m) (some (owner, done.length)) = some (o2, (done ++ rest).length) ∧ Own m (done ++ rest) o2
  | [], done, owner, W, _ => ⟨owner, by simp, by simpa using W⟩
  | h :: rest, done, owner, W, hl => by
    rw [List.length_cons] at hl
    obtain ⟨j, e, W'⟩ := own_next hm W (by omega) h
    obtain ⟨o2, f, W2⟩ := lay_all hm rest (done ++ [h]) _ W' (by rw [List.length_append]; show _ + 1 + _ ≤ _; omega)
    rw [List.append_assoc, List.length_append] at f
    rw [List.append_assoc] at W2
    exact ⟨o2, by rw [List.foldl_cons, stepF_some e]; exact f, W2⟩
theorem lay_clean {m : Nat} (hm : MaskG m) {hs : Array Int} (hn : hs.size ≤ m) : ∃ owner, SetTable.layClean m hs = some owner ∧ Own m hs.toList owner := by
  obtain ⟨o2, f, W⟩ := lay_all hm hs.toList [] _ (Own.init m) (by show 0 + hs.toList.length ≤ m; rw [Array.length_toList]; omega)
  refine ⟨o2, ?_, W⟩
  rw [layClean_eq]
  show Option.map _ (hs.toList.foldl (stepF m) (some (Array.replicate (m + 1) none, ([] : List Int).length))) = _
  rw [f]; rfl
/-- the table laid anew -/
theorem lay_new (t : SetTable) {hs : Array Int} {wanted M : Nat} (hw : SetTable.sizeAbove wanted - 1 = M) (hM : MaskG M) (hn : hs.size ≤ M) :
    ∃ t' order, t.relaid hs wanted = some (t', order) ∧ order.toList.Perm (List.range hs.size) ∧ TabG t' (order.toList.map fun i => hs.getD i 0) ∧ t'.mask = M ∧ t'.led = t.led ∧ t'.plain = t.plain := by
  obtain ⟨owner, e, W⟩ := lay_clean hM hn
  obtain ⟨r1, r2⟩ := ris_live (fun j => owner.getD j none) (List.range (M + 1)) List.pairwise_lt_range
  obtain ⟨l, el⟩ : ∃ l, liveOf M owner = l := ⟨_, rfl⟩
  have r1 : Ris (l.map (·.1)) := by rw [← el]; exact r1
  have r2 : ∀ x ∈ l.map (·.1), x ∈ List.range (M + 1) := by rw [← el]; exact r2
  have ml : ∀ {j k : Nat}, (j, k) ∈ l ↔ j ≤ M ∧ oAt owner j = some k := fun {j k} => by rw [← el]; exact mem_live W.sz
  refine ⟨tabOf t M owner, (l.map (·.2)).toArray, ?_, ?_, ?_, rfl, rfl, rfl⟩
  · rw [relaid_eq, hw, e, ← el]; rfl
  · refine perm_range hs.size (l.map (·.2)) ?_ fun k hk => ?_
    · have up : l.length ≤ hs.size := by
        obtain ⟨ps, p1, p2⟩ := W.ps
        have nd : (l.map (·.1)).Nodup := List.Pairwise.imp (fun {a b} (h : a < b) => Nat.ne_of_lt h) r1
        have := nat_nodup_len (l.map (·.1)) ps nd fun x hx => by
          obtain ⟨⟨y, k⟩, hq, rfl⟩ := List.mem_map.mp hx
          obtain ⟨b1, b2⟩ := ml.mp hq
          exact p2 y b1 (by rw [b2]; simp)
        simp at this p1; omega
      have dn : hs.size ≤ l.length := by
        have := nat_nodup_len (List.range hs.size) (l.map (·.2)) List.nodup_range fun k hk => by
          obtain ⟨j, b1, b2⟩ := W.all k (by simpa using hk)
          exact List.mem_map.mpr ⟨(j, k), ml.mpr ⟨b1, b2⟩, rfl⟩
        simpa using this
      rw [List.length_map]; omega
    · obtain ⟨j, b1, b2⟩ := W.all k (by simpa using hk)
      exact List.mem_map.mpr ⟨(j, k), ml.mpr ⟨b1, b2⟩, rfl⟩
  · have pls : (tabOf t M owner).place.toList = l.map (·.1) := by show ((liveOf M owner).map (·.1)).toArray.toList = _; rw [el]
    refine ⟨hM, rfl, by rw [pls]; exact r1, by rw [pls]; simp, fun x hx => ?_, fun q hq => ?_⟩
    · rw [pls] at hx
      exact Nat.le_of_lt_succ (List.mem_range.mp (r2 x hx))
    · rw [pls] at hq ⊢
      have ez : (l.map (·.1)).zip ((l.map (·.2)).map fun i => hs.getD i 0) = l.map fun q => (q.1, hs.getD q.2 0) := by
        rw [List.map_map]; exact List.zip_map' ..
      obtain ⟨⟨j, k⟩, hm, rfl⟩ := List.mem_map.mp (show q ∈ l.map fun q => (q.1, hs.getD q.2 0) by rw [← ez]; exact hq)
      obtain ⟨b1, b2⟩ := ml.mp hm
      obtain ⟨h0, K, a1, a2, a3⟩ := W.at_ j k b1 b2
      have e0 : hs.getD k 0 = h0 := by
        rw [Array.getD_eq_getD_getElem?, ← Array.getElem?_toList, a1]; rfl
      refine ⟨K, by dsimp only; rw [e0]; exact a2, fun i hi => ?_⟩
      dsimp only
      rw [e0]
      have := a3 i hi
      obtain ⟨k2, z⟩ := Option.ne_none_iff_exists'.mp this
      exact List.mem_map.mpr ⟨(way M h0 i, k2), ml.mpr ⟨way_top h0 i, z⟩, rfl⟩
end Mine

namespace Mine
open PySem PySem.Spec PyProof.Rows L2
/-- a set of tuples of whole numbers at a: its rows, its table -/
structure SetG (P : Program) (w : World) (h : Heap) (a : Addr) (L : List (Addr × List Int)) (es : Array (Int × Value)) (ep : Nat) (t : SetTable) : Prop where
  at_ : ∃ o, h.get? a = some o ∧ o.ExactSet ∧ o.data = .set es ep t
  ents : es.toList = rowsOf P w L
  tab : TabG t (L.map fun p => thash P w p.2)
  keys : (L.map (·.2)).Nodup
  tups : ∀ p ∈ L, IsT P w h p.2 p.1
  byv : t.plain = true
  ldg : w.params.followText "set-order" = true ∨ t.led = true
  free : L.length * 5 < t.mask * 3
section
variable {P : Program} {w : World} {A : Around} {E : Value → Shared → Prop} {s : Shared} {a : Addr} {L : List (Addr × List Int)} {es : Array (Int × Value)} {ep : Nat} {t : SetTable}
theorem ents_len {L : List (Addr × List Int)} {es : Array (Int × Value)} (h : es.toList = rowsOf P w L) : es.size = L.length := by
  rw [← Array.length_toList, h]; exact List.length_map ..
theorem ents_at {L : List (Addr × List Int)} {es : Array (Int × Value)} (h : es.toList = rowsOf P w L) {i : Nat} {p : Addr × List Int} (e : L[i]? = some p) : es[i]? = some (thash P w p.2, Value.ref p.1) := by
  rw [← Array.getElem?_toList, h, rowsOf, List.getElem?_map, e]; rfl
theorem TabG.size {t : SetTable} {hs : List Int} (T : TabG t hs) : t.place.size = hs.length := by rw [← Array.length_toList]; exact T.pl.len
theorem fits_of {t : SetTable} {hs : List Int} (T : TabG t hs) {n : Nat} (e : n = hs.length) (l : n ≤ t.mask) : t.fits n = true := by
  have := T.size
  unfold SetTable.fits SetTable.fill
  rw [T.bare, Bool.and_eq_true, beq_iff_eq, decide_eq_true_eq]
  exact ⟨by omega, by show t.place.size + 0 ≤ t.mask; omega⟩
theorem SetG.size (R : SetG P w s.heap a L es ep t) : es.size = L.length := ents_len R.ents
theorem SetG.fits (R : SetG P w s.heap a L es ep t) : t.fits es.size = true := fits_of R.tab (by rw [R.size, List.length_map]) (by have := R.free; have := R.size; omega)
theorem SetG.stays (R : SetG P w s.heap a L es ep t) : ¬ t.gaveWay = true := by
  unfold SetTable.gaveWay
  rw [(MaskG.odd R.tab.mask).1]; decide
theorem nth_dummy (m : Nat) : ∀ (n : Nat) (p : SetTable.Probe), p.dummy = none → (nth m p n).dummy = none
  | 0, _, h => h
  | n + 1, p, h => nth_dummy m n (adv m p) (by unfold adv; split <;> exact h)
/-- the c-th state of the way -/
abbrev prb (m : Nat) (h : Int) (c : Nat) : SetTable.Probe := nth m (runAt m (SetTable.bits h % (m + 1)) (SetTable.bits h)) c
theorem find_from (R : SetG P w s.heap a L es ep t) {x : Addr} {k : List Int} (hx : IsT P w s.heap k x) (hu : A.units < cLine) {h : Int} (eh : thash P w k = h) {K : Nat} (hKf : K < 10 * SetTable.turns t.mask) (hK : way t.mask h K ∉ t.place.toList)
    (hKb : ∀ c, c < K → way t.mask h c ∈ t.place.toList) {Q : SetFound → Shared → Prop} (yes : k ∈ L.map (·.2) → Q (.there none) s) (no : k ∉ L.map (·.2) → Q (.free (way t.mask h K) false) s) : ∀ (f c : Nat) (stand : Option SetTable.Probe), stand.getD (t.probeStart h) = prb t.mask h c → c ≤ K → K - c < f →
      (∀ (i : Nat) p, L[i]? = some p → p.2 = k → ∃ c', c ≤ c' ∧ c' < K ∧ t.place.toList[i]? = some (way t.mask h c')) → wpAny (model P w) A (setSearchFrom a (.ref x) h true f stand) Q E s
  | 0, c, _, _, _, hf, _ => absurd hf (Nat.not_lt_zero _)
  | f + 1, c, stand, hst, hc, hf, hre => by
    obtain ⟨o, ho, hex, hd⟩ := R.at_
    have pl := R.tab.pl
    have step : ∀ q, nth t.mask (prb t.mask h c) q = prb t.mask h (c + q) := fun q => (nth_add t.mask c _ q).symm
    have stepj : ∀ q, (nth t.mask (prb t.mask h c) q).j = way t.mask h (c + q) := fun q => by rw [step]
    have last : c + (K - c) = K := by omega
    have spec := go_spec t pl.asc R.tab.bare (fun i => (es[i]?.map (·.1)).getD 0) h (10 * SetTable.turns t.mask) (K - c) (prb t.mask h c) (nth_dummy _ _ _ rfl) (by omega) (fun q hq => by rw [stepj]; exact hKb _ (by omega)) (by rw [stepj, last]; exact hK)
    have hash : ∀ (i : Nat) p, L[i]? = some p → (es[i]?.map (·.1)).getD 0 = thash P w p.2 := fun i p hp => by rw [ents_at R.ents hp]; rfl
    rw [setSearchFrom_succ]
    refine wpAny_bind (wpAny_setState_of ho hd R.fits ?_)
    dsimp only
    refine wp_if_neg R.stays ?_
    try refine wpAny_bind (wpAny_pure ?_)
    rcases spec with ⟨q, i, hq, hi, hh, before, ans⟩ | ⟨before, ans⟩
    · -- a row of this hash is met
      have ans' : t.probe (fun i => (es[i]?.map (·.1)).getD 0) h (stand.getD (t.probeStart h)) = some (.candidate (way t.mask h (c + q)) i (prb t.mask h (c + (q + 1)))) := by
        rw [hst, ← stepj, ← step]; exact ans
      rw [ans']
      dsimp only
      rw [stepj] at hi
      have il : i < L.length := by
        have := (List.getElem?_eq_some_iff.mp hi).1
        have := pl.len
        rw [List.length_map] at this
        omega
      obtain ⟨p, hp⟩ : ∃ p, L[i]? = some p := ⟨_, List.getElem?_eq_getElem il⟩
      have pin : p ∈ L := List.mem_of_getElem? hp
      have live : t.slot (way t.mask h (c + q)) = .live i := slot_live pl.asc hi
      have rest : wpAny (model P w) A (searchRest a (.ref x) h true f es t (way t.mask h (c + q)) i (prb t.mask h (c + (q + 1)))) Q E s := by
        unfold searchRest
        rw [ents_at R.ents hp]
        dsimp only
        refine wpAny_bind (wpAny_holding (wpAny_eqBool_tuple hu (R.tups p pin) hx ?_))
        refine wpAny_bind (wpAny_setState_of ho hd R.fits ?_)
        dsimp only
        by_cases same : p.2 = k
        · exact wp_if_pos (by simp [same]) (wpAny_pure (yes (List.mem_map.mpr ⟨p, pin, same⟩)))
        · refine wp_if_neg (by simp [same]) ?_
          try refine wpAny_bind (wpAny_pure ?_)
          rw [sameMem]
          dsimp only
          simp only [if_true, live, ents_at R.ents hp]
          refine wpAny_bind (wpAny_isSame_ref_self (wpAny_bind (wpAny_pure ?_)))
          simp only [if_true]
          refine wp_if_neg (by simp [same]) (find_from R hx hu eh hKf hK hKb yes no f (c + (q + 1)) _ rfl (by omega) (by omega) fun i0 p0 h0 e0 => ?_)
          obtain ⟨c', a1, a2, a3⟩ := hre i0 p0 h0 e0
          refine ⟨c', Classical.byContradiction fun lt => ?_, a2, a3⟩
          by_cases eq : c' = c + q
          · -- then it would be this row
            have := slot_live pl.asc (eq ▸ a3)
            rw [live] at this
            injection this with this
            rw [← this, hp] at h0
            cases h0
            exact same e0
          · refine before (c' - c) i0 (by omega) ?_ ((hash i0 p0 h0).trans (by rw [e0, eh]))
            rw [stepj, show c + (c' - c) = c' by omega]; exact a3
      by_cases hl : t.led = true
      · refine wp_if_neg (by simp [hl]) ?_
        first
        | exact rest
        | exact wpAny_bind (wpAny_pure rest)
      · refine wp_if_pos (by simp [hl]) (wpAny_bind (seen_tup hx (fun y hy => ?_) ?_))
        · obtain ⟨e, he, ee⟩ := List.mem_map.mp hy
          have he : e ∈ es.toList := by simpa using (show e ∈ es ∧ e.1 = h by simpa using he).1
          rw [R.ents] at he
          obtain ⟨p2, hp2, e2⟩ := List.mem_map.mp he
          exact ⟨p2.2, p2.1, by rw [← ee, ← e2], R.tups p2 hp2⟩
        · refine wp_if_neg (by decide) ?_
          first
          | exact rest
          | exact wpAny_bind (wpAny_pure rest)
    · -- the free place
      have ans' : t.probe (fun i => (es[i]?.map (·.1)).getD 0) h (stand.getD (t.probeStart h)) = some (.empty (way t.mask h K) none) := by
        have := stepj (K - c)
        rw [last] at this
        rw [hst, ← this]; exact ans
      rw [ans']
      dsimp only
      refine wpAny_pure (no fun hm => ?_)
      obtain ⟨p0, hp0, e0⟩ := List.mem_map.mp hm
      obtain ⟨i0, h0⟩ := List.getElem?_of_mem hp0
      obtain ⟨c', a1, a2, a3⟩ := hre i0 p0 h0 e0
      refine before (c' - c) i0 (by omega) ?_ ((hash i0 p0 h0).trans (by rw [e0, eh]))
      rw [stepj, show c + (c' - c) = c' by omega]; exact a3
/-- the search as adding asks for it -/
theorem find_it (R : SetG P w s.heap a L es ep t) {x : Addr} {k : List Int} (hx : IsT P w s.heap k x) (hu : A.units < cLine) {Q : SetFound → Shared → Prop} (yes : k ∈ L.map (·.2) → Q (.there none) s)
    (no : ∀ K, k ∉ L.map (·.2) → way t.mask (thash P w k) K ∉ t.place.toList → (∀ c, c < K → way t.mask (thash P w k) c ∈ t.place.toList) → Q (.free (way t.mask (thash P w k) K) false) s) : wpAny (model P w) A (setSearch a (.ref x) (thash P w k) true) Q E s := by
  obtain ⟨h, eh⟩ : ∃ h, thash P w k = h := ⟨_, rfl⟩
  rw [eh] at no ⊢
  have room := R.free
  have md := R.tab.mask.odd
  obtain ⟨K, hKf, hK, hKb⟩ := R.tab.gap (by rw [List.length_map]; omega) h
  have small : 10 * SetTable.turns t.mask < 100000 := by unfold SetTable.turns; omega
  unfold setSearch
  refine find_from R hx hu eh hKf hK hKb yes (fun z => no K z hK hKb) 100000 0 none rfl (Nat.zero_le _) (by omega) fun i p hp e => ?_
  have len := R.tab.pl.len
  rw [List.length_map] at len
  obtain ⟨j, hj⟩ : ∃ j, t.place.toList[i]? = some j := ⟨_, List.getElem?_eq_getElem (by have := (List.getElem?_eq_some_iff.mp hp).1; omega)⟩
  have hz : (t.place.toList.zip (L.map fun p => thash P w p.2))[i]? = some (j, h) := by
    rw [List.getElem?_zip_eq_some]
    exact ⟨hj, by rw [List.getElem?_map, hp, ← eh, ← e]; rfl⟩
  obtain ⟨c, e1, e2⟩ := R.tab.pl.got _ (List.mem_of_getElem? hz)
  refine ⟨c, Nat.zero_le _, ?_, by rw [hj]; exact congrArg some e1.symm⟩
  rcases Nat.lt_trichotomy c K with z | z | z
  · exact z
  · exact absurd (by rw [← z]; have := List.mem_of_getElem? hj; rw [← show way t.mask h c = j from e1] at this; exact this) hK
  · exact absurd (e2 K z) hK
end
end Mine

namespace Mine
open PySem PySem.Spec PyProof.Rows L2
section
variable {P : Program} {w : World} {A : Around} {E : Value → Shared → Prop} {s : Shared} {a : Addr} {L : List (Addr × List Int)} {es : Array (Int × Value)} {ep : Nat} {t : SetTable}
/-- laid anew, four times as large -/
theorem relayG {o : Obj} (ho : s.heap.get? a = some o) (hex : o.ExactSet) (hd : o.data = .set es ep t) (hrows : es.toList = rowsOf P w L) (T0 : TabG t (L.map fun p => thash P w p.2)) (lt : L.length ≤ t.mask)
    (nd : (L.map (·.2)).Nodup) (tup : ∀ p ∈ L, IsT P w s.heap p.2 p.1) (pl : t.plain = true) (ld : w.params.followText "set-order" = true ∨ t.led = true) {wanted M : Nat}
    (hw : SetTable.sizeAbove wanted - 1 = M) (hM : MaskG M) (hn : L.length * 5 < M * 3) {Q : Unit → Shared → Prop}
    (hQ : ∀ h' L' es' ep' t', Heap.SameBut a s.heap h' → SetG P w h' a L' es' ep' t' → L'.Perm L → Q () { s with heap := h' }) : wpAny (model P w) A (setRelay a wanted) Q E s := by
  have sz : es.size = L.length := ents_len hrows
  have fit : t.fits es.size = true := fits_of T0 (by rw [sz, List.length_map]) (by omega)
  have md := hM.odd
  obtain ⟨t2, order, e, hp, T, em, el, epl⟩ := lay_new t (hs := es.map (·.1)) hw hM (by rw [Array.size_map]; omega)
  rw [Array.size_map, sz] at hp
  obtain ⟨L2, r1, r2, r3⟩ := order_rows L es order hrows hp
  rw [← r3] at T
  have len2 : L2.length = L.length := r2.length_eq
  have sz2 : (order.filterMap (es[·]?)).size = es.size := (ents_len r1).trans (len2.trans sz.symm)
  rw [setRelay_eq]
  refine wpAny_bind (wpAny_setState_of ho hd fit ?_)
  dsimp only
  refine wp_if_neg (by rw [sizeLine_eq]; omega) ?_
  try refine wpAny_bind (wpAny_pure ?_)
  rw [e]
  dsimp only
  refine wpAny_bind (wp_if_neg (by rw [sz2]; simp) ?_)
  try refine wpAny_bind (wpAny_pure ?_)
  refine wpAny_pure ?_
  dsimp only
  refine wpAny_storeSet_of ho hd ?_ (by rw [sz2, sizeLine_eq]; omega)
  have sb : Heap.SameBut a s.heap (s.heap.update a (Obj.putSet (order.filterMap (es[·]?)) t2)) := Heap.SameBut.update ..
  refine hQ _ L2 (order.filterMap (es[·]?)) (ep + 1) t2 sb ?_ r2
  constructor
  · exact ⟨_, store_at (es' := order.filterMap (es[·]?)) (t' := t2) ho hd, ⟨hex.1, hex.2.1, hex.2.2⟩, rfl⟩
  · exact r1
  · exact T
  · exact (r2.map (·.2)).nodup_iff.mpr nd
  · exact fun p hpm => isT_same (tup p (r2.mem_iff.mp hpm)) ho hd sb
  · rw [epl]; exact pl
  · rw [el]; exact ld
  · rw [len2, em]; exact hn
theorem sizes_up : SetTable.sizeAbove (SetTable.grown 5) = 32 ∧ SetTable.sizeAbove (SetTable.grown 19) = 128 ∧ SetTable.sizeAbove (SetTable.grown 77) = 512 ∧ SetTable.sizeAbove (SetTable.grown 307) = 2048 ∧ SetTable.sizeAbove (SetTable.grown 1229) = 8192 := by decide +kernel
/-- one more row -/
theorem addG (R : SetG P w s.heap a L es ep t) {x : Addr} {k : List Int} (hx : IsT P w s.heap k x) (hu : A.units < cLine) (hfew : L.length + 1 < 4000) {Q : Bool → Shared → Prop}
    (hQ : ∀ b h' L' es' ep' t', Heap.SameBut a s.heap h' → SetG P w h' a L' es' ep' t' → (k ∈ L.map (·.2) → L' = L) → (k ∉ L.map (·.2) → L'.Perm ((x, k) :: L)) → Q b { s with heap := h' }) :
    wpAny (model P w) A (setAddHashed a (.ref x) (thash P w k)) Q E s := by
  obtain ⟨o, ho, hex, hd⟩ := R.at_
  have sz := R.size
  have room := R.free
  have md := R.tab.mask.odd
  unfold setAddHashed
  refine wpAny_holding ?_
  rw [show (100000 : Nat) = 99999 + 1 from rfl, setAddHashedIn_succ]
  refine wpAny_bind (wpAny_setState_of ho hd R.fits ?_)
  dsimp only
  refine wp_if_neg (by simp [byScan, Value.scannable]) ?_
  try refine wpAny_bind (wpAny_pure ?_)
  refine wpAny_bind (find_it R hx hu (fun hm => ?_) fun K hm hK hb => ?_)
  · dsimp only
    exact wpAny_pure (hQ false s.heap L es ep t (Heap.SameBut.refl a s.heap) R (fun _ => rfl) fun z => absurd hm z)
  · dsimp only
    refine wpAny_bind (wpAny_setState_of ho hd R.fits ?_)
    dsimp only
    obtain ⟨j, ej⟩ : ∃ j, way t.mask (thash P w k) K = j := ⟨_, rfl⟩
    obtain ⟨t1, p, ept⟩ : ∃ t1 p, t.put (way t.mask (thash P w k) K) = (t1, p) := ⟨_, _, rfl⟩
    obtain ⟨pl, T1, em, el, epl, efl⟩ := R.tab.more hK hb ept
    rw [ept]
    dsimp only
    have by1 : t1.plain = true := epl.trans R.byv
    first
      | (refine wpAny_bind ?_; refine wp_if_pos by1 ?_; refine hashBy_tup hx ?_)
      | refine wp_if_pos by1 (wpAny_bind (hashBy_tup hx ?_))
    simp only [if_true]
    rw [List.length_map] at pl efl
    have rows1 : (SetTable.insertAt es p (thash P w k, Value.ref x)).toList = rowsOf P w (L.take p ++ (x, k) :: L.drop p) := by
      rw [SetTable.toList_insertAt, rows_put, R.ents]
    have pm := put_perm L p (x, k)
    have hashes : (L.take p ++ (x, k) :: L.drop p).map (fun p => thash P w p.2) = (L.map fun p => thash P w p.2).take p ++ thash P w k :: (L.map fun p => thash P w p.2).drop p := by
      simp only [List.map_append, List.map_cons, List.map_take, List.map_drop]
    rw [← hashes] at T1
    obtain ⟨L1, eL1⟩ : ∃ L1, L.take p ++ (x, k) :: L.drop p = L1 := ⟨_, rfl⟩
    obtain ⟨es1, ees⟩ : ∃ es1, SetTable.insertAt es p (thash P w k, Value.ref x) = es1 := ⟨_, rfl⟩
    rw [eL1] at rows1 pm T1
    rw [ees] at rows1 ⊢
    have len1 : L1.length = L.length + 1 := pm.length_eq
    have sz1 : es1.size = L.length + 1 := (ents_len rows1).trans len1
    have keys1 : (L1.map (·.2)).Nodup := (pm.map (·.2)).nodup_iff.mpr (List.nodup_cons.mpr ⟨hm, R.keys⟩)
    refine wpAny_bind (wpAny_storeSet_of ho hd ?_ (by rw [sz1, sizeLine_eq]; omega))
    have sb : Heap.SameBut a s.heap (s.heap.update a (Obj.putSet es1 t1)) := Heap.SameBut.update ..
    have at1 := store_at (es' := es1) (t' := t1) ho hd
    obtain ⟨h1, eh1⟩ : ∃ h1, s.heap.update a (Obj.putSet es1 t1) = h1 := ⟨_, rfl⟩
    rw [eh1] at sb at1 ⊢
    have tups1 : ∀ p ∈ L1, IsT P w h1 p.2 p.1 := fun p hp => by
      rcases List.mem_cons.mp (pm.mem_iff.mp hp) with e | hp
      · rw [e]; exact isT_same hx ho hd sb
      · exact isT_same (R.tups p hp) ho hd sb
    have ld1 : w.params.followText "set-order" = true ∨ t1.led = true := by rw [el]; exact R.ldg
    have fullIff : t1.tooFull = true ↔ t.mask * 3 ≤ (L.length + 1) * 5 := by
      unfold SetTable.tooFull
      rw [decide_eq_true_eq, efl, em]
    by_cases hf : t1.tooFull = true
    · first
        | (refine wpAny_bind ?_; refine wp_if_pos (by simp [hf]) ?_)
        | (refine wp_if_pos (by simp [hf]) ?_; refine wpAny_bind ?_)
      have full := fullIff.mp hf
      rw [sz]
      have go : ∀ M, SetTable.sizeAbove (SetTable.grown (L.length + 1)) - 1 = M → MaskG M → L.length + 1 ≤ t.mask → (L.length + 1) * 5 < M * 3 →
          wpAny (model P w) A (setRelay a (SetTable.grown (L.length + 1))) (fun _ s' => wpAny (model P w) A (pure true) Q E s') E { s with heap := h1 } := fun M a1 a2 a3 a4 => by
        refine relayG (s := { s with heap := h1 }) at1 ⟨hex.1, hex.2.1, hex.2.2⟩ rfl rows1 T1 (by rw [len1, em]; exact a3) keys1 tups1 by1 ld1 a1 a2 (by rw [len1]; exact a4) fun h2 L2 es2 ep2 t2 sb2 R2 pm2 => ?_
        exact wpAny_pure (hQ true h2 L2 es2 ep2 t2 (sb.trans sb2) R2 (fun z => absurd z hm) fun _ => pm2.trans pm)
      obtain ⟨u1, u2, u3, u4, u5⟩ := sizes_up
      have six := R.tab.mask.six
      have which : L.length + 1 = 5 ∨ L.length + 1 = 19 ∨ L.length + 1 = 77 ∨ L.length + 1 = 307 ∨ L.length + 1 = 1229 := by omega
      rcases which with e | e | e | e | e
      · exact go 31 (by rw [e, u1]) ⟨5, rfl, by omega⟩ (by omega) (by omega)
      · exact go 127 (by rw [e, u2]) ⟨7, rfl, by omega⟩ (by omega) (by omega)
      · exact go 511 (by rw [e, u3]) ⟨9, rfl, by omega⟩ (by omega) (by omega)
      · exact go 2047 (by rw [e, u4]) ⟨11, rfl, by omega⟩ (by omega) (by omega)
      · exact go 8191 (by rw [e, u5]) ⟨13, rfl, by omega⟩ (by omega) (by omega)
    · first
        | refine wp_if_neg (by simp [hf]) ?_
        | (refine wpAny_bind ?_; refine wp_if_neg (by simp [hf]) ?_; refine wpAny_pure ?_)
      refine wpAny_pure (hQ true h1 L1 es1 (ep + 1) t1 sb ?_ (fun z => absurd z hm) fun _ => pm)
      have : ¬ t.mask * 3 ≤ (L.length + 1) * 5 := fun z => hf (fullIff.mpr z)
      exact ⟨⟨_, at1, ⟨hex.1, hex.2.1, hex.2.2⟩, rfl⟩, rows1, T1, keys1, tups1, by1, ld1, by rw [len1, em]; omega⟩
end
end Mine

namespace Mine
open PySem PySem.Spec PyProof.Rows L2
def Few (n : Nat) (ws : List (List Int)) : Prop := ∀ us : List (List Int), us.Nodup → (∀ x ∈ us, x ∈ ws) → us.length < n
section
variable {P : Program} {w : World} {A : Around} {E : Value → Shared → Prop} {s : Shared}
abbrev Kept (h h' : Heap) : Prop := ∀ b o, h.get? b = some o → h'.get? b = some o
theorem SetG.moved {h h' : Heap} {a : Addr} {L : List (Addr × List Int)} {es : Array (Int × Value)} {ep : Nat} {t : SetTable} (R : SetG P w h a L es ep t) (ha : ∀ o, h.get? a = some o → h'.get? a = some o) (ht : ∀ p ∈ L, IsT P w h' p.2 p.1) : SetG P w h' a L es ep t :=
  ⟨R.at_.imp fun o q => ⟨ha o q.1, q.2⟩, R.ents, R.tab, R.keys, ht, R.byv, R.ldg, R.free⟩
theorem setG_new {h : Heap} {a : Addr} (ho : h.get? a = some (mineSet0 w)) : SetG P w h a [] #[] 0 (.fresh 0 0 (!w.params.followText "set-order")) where
  at_ := ⟨_, ho, ⟨rfl, rfl, rfl⟩, rfl⟩
  ents := rfl
  tab := ⟨⟨3, rfl, .inl rfl⟩, rfl, List.Pairwise.nil, rfl, nofun, nofun⟩
  keys := List.nodup_nil
  tups := nofun
  byv := rfl
  ldg := by
    cases e : w.params.followText "set-order"
    · exact .inr rfl
    · exact .inl rfl
  free := by show 0 * 5 < 7 * 3; decide
theorem rows_loop {I : Addr} {fp wr : List Addr} {G : Array GenState → Array GenState → Prop} {n : Nat} {Pv : Nat → Value → Prop} {St : Nat → Shared → Prop} {R : Result → Shared → Prop} (W : WalksS P w A.in1 I fp wr G n Pv St) (S : Addr) (off : S ∉ fp)
    (ks : List (Addr × List Int)) (len : n = ks.length) (few : Few 3999 (ks.map (·.2))) (val : ∀ i v, Pv i v → ∃ p, ks[i]? = some p ∧ v = .ref p.1) (h0 : Heap) (tup : ∀ p ∈ ks, IsT P w h0 p.2 p.1) (n1 : h0.get? S = none) (n2 : ∀ b ∈ wr, h0.get? b = none) (hu : A.in1.units < cLine) :
    ∀ (k i : Nat) (s : Shared), k + i = n → St i s → Kept h0 s.heap → (∃ L es ep t, SetG P w s.heap S L es ep t ∧ Got ks i L) →
      (∀ s' L es ep t, Moved (S :: wr) G s s' → SetG P w s'.heap S L es ep t → Got ks n L → Kept h0 s'.heap → R (.ok (.ret .none)) s') → codeAny (model P w) A (.builtin "set.update.loop" ⟨[.ref S, .ref I], []⟩) R s := by
  have off2 : S ∉ wr := fun h => off (W.sub _ h)
  have sub2 : ∀ b ∈ wr, b ∈ S :: wr := fun b hb => List.mem_cons_of_mem S hb
  have kept : ∀ {s s' : Shared}, Moved wr G s s' → Kept h0 s.heap → Kept h0 s'.heap := fun m q b o e => m.heap b o (fun hb => nomatch (n2 b hb).symm.trans e) (q b o e)
  intro k
  induction k with
  | zero =>
    intro i s e hst hkp ⟨L, es, ep, t, hS, g⟩ fin
    obtain rfl : i = n := by omega
    refine codeAny_builtin F.entry_set_update_loop ?_
    rw [Around.under_plainId F.plain_set_update_loop _]
    show wpAny _ A.in1 (pyNext (.ref I) >>= _) _ _ s
    refine wpAny_bind (W.done s _ _ hst fun s' m => wpAny_pure ?_)
    have q := kept m hkp
    exact fin s' L es ep t (m.mono sub2) (hS.moved (fun o z => m.heap S o off2 z) fun p hp => isT_keep (tup p (List.mem_of_mem_take (g.sub p hp))) q) g q
  | succ k ih =>
    intro i s e hst hkp ⟨L, es, ep, t, hS, g⟩ fin
    refine codeAny_builtin F.entry_set_update_loop ?_
    rw [Around.under_plainId F.plain_set_update_loop _]
    show wpAny _ A.in1 (pyNext (.ref I) >>= _) _ _ s
    refine wpAny_bind (W.item i s _ _ (by omega) hst fun v s' hP hst' m => ?_)
    obtain ⟨p, hp, rfl⟩ := val i v hP
    have q := kept m hkp
    have inn : ∀ p ∈ L, p ∈ ks := fun p hp => List.mem_of_mem_take (g.sub p hp)
    have hS' : SetG P w s'.heap S L es ep t := hS.moved (fun o z => m.heap S o off2 z) fun p hp => isT_keep (tup p (inn p hp)) q
    have hx : IsT P w s'.heap p.2 p.1 := isT_keep (tup p (List.mem_of_getElem? hp)) q
    have room : L.length + 1 < 4000 := by
      have := few (L.map (·.2)) hS.keys fun x hx => by
        obtain ⟨r, hr, rfl⟩ := List.mem_map.mp hx
        exact List.mem_map.mpr ⟨r, inn r hr, rfl⟩
      rw [List.length_map] at this; omega
    show wpAny _ A.in1 (holding [Value.ref p.1] (setAdd S (.ref p.1)) >>= _) _ _ s'
    unfold setAdd
    refine wpAny_bind (wpAny_holding (wpAny_holding (wpAny_bind (wpAny_pyHash_tuple hu hx ?_))))
    refine addG (s := { s' with toks := s'.toks + (p.2.length + 1) }) hS' hx hu room fun b h' L' es' ep' t' sb R2 c1 c2 => ?_
    have q2 : Kept h0 h' := fun b o z => (sb.2 b fun y => nomatch (y ▸ n1).symm.trans z).trans (q b o z)
    have g2 : Got ks (i + 1) L' := by
      by_cases c : p.2 ∈ L.map (·.2)
      · rw [c1 c]; exact g.same hp c
      · exact g.more hp (c2 c)
    refine wpAny_pure ⟨plainId_quiet F.plain_set_update_loop _, ih (i + 1) _ (by omega) (W.frame _ s' _ _ hst' (Nat.le_add_right _ _) fun b hb o z => ?_) q2 ⟨L', es', ep', t', R2, g2⟩ fun s2 L2 es2 ep2 t2 m2 R3 g3 q3 => ?_⟩
    · exact (sb.2 b fun y => off (y ▸ hb)).trans z
    · exact fin s2 L2 es2 ep2 t2 (Moved.trans W.gtrans ((m.mono sub2).then_heap (Nat.le_add_right _ _) fun b o hb z => (sb.2 b fun y => hb (y ▸ List.mem_cons_self)).trans z) m2) R3 g3 q3
/-- set(xs), xs a list of tuples of whole numbers, fewer than 3999 distinct ones -/
theorem set_rows {l : Addr} {items : Array Value} (ks : List (Addr × List Int)) {Q : Value → Shared → Prop} (hh : A.handled = none) (hl : s.heap.IsList l items) (hit : items.toList = ks.map fun p => Value.ref p.1) (tup : ∀ p ∈ ks, IsT P w s.heap p.2 p.1) (few : Few 3999 (ks.map (·.2)))
    (hu : A.units + 3 < cLine) (h : ∀ (h' : Heap) (tk : Nat) L es ep t, SetG P w h' s.heap.objs.size L es ep t → Got ks ks.length L → Kept s.heap h' → Q (.ref s.heap.objs.size) { s with heap := h', toks := tk }) : wpAny (model P w) A (call (.type "set") [.ref l]) Q E s := by
  have len : items.size = ks.length := by rw [← Array.length_toList, hit, List.length_map]
  have lt : l < s.heap.objs.size := by obtain ⟨_, e, _⟩ := hl; exact Heap.lt_size e
  have old : ∀ b o, s.heap.get? b = some o → (s.heap.push (mineSet0 w)).get? b = some o := fun b o e => Heap.get?_push_of_some _ e
  have new : (s.heap.push (mineSet0 w)).get? s.heap.objs.size = some (mineSet0 w) := Heap.get?_push_size _ rfl
  have size1 : (s.heap.push (mineSet0 w)).objs.size = s.heap.objs.size + 1 := Heap.size_push ..
  have none_ : ∀ b, s.heap.objs.size ≤ b → s.heap.get? b = none := fun b hb => by
    cases q : s.heap.get? b with
    | none => rfl
    | some o => exact absurd (Nat.lt_of_lt_of_le (Heap.lt_size q) hb) (Nat.lt_irrefl _)
  refine mine_call_set ?_
  obtain ⟨⟨c0, d0, dt0, sl0⟩, ho, hc, n0, hd⟩ := id hl
  dsimp only at hc hd
  subst hc hd
  have ho1 := old _ _ ho
  have isL : (s.heap.push (mineSet0 w)).IsList l items := ⟨_, ho1, rfl, n0, rfl⟩
  have notS := F.sub_list_set
  have notF := F.sub_list_frozenset
  have notD : (Value.type "list" == Value.type "dict") = false := by decide
  unfold Builtin.«set.__init__» noKeywords Builtin.Frozenset.updateFrom
  generalize hPI : pyIter = PI
  wp_walk
  subst hPI
  refine wpAny_pyIter_list isL (wpAny_bind (wpAny_runValue ?_))
  refine rows_loop (A := A.in1.in1) ((Walks.list (A := A.in1.in1.in1) (by simpa using hh) (s.heap.push (mineSet0 w)).objs.size l (by rw [size1]; exact Nat.ne_of_lt (Nat.lt_succ_of_lt lt)) items).toS) s.heap.objs.size
    (by rw [size1]; simp only [List.mem_cons, List.not_mem_nil, or_false, not_or]; exact ⟨Nat.ne_of_lt (Nat.lt_succ_self _), Nat.ne_of_gt lt⟩) ks len few (fun i v hv => ?_) s.heap tup (none_ _ (Nat.le_refl _)) (fun b hb => ?_) hu items.size 0 _ (by omega) ?_ (fun b o e => Heap.get?_push_of_some _ (old b o e)) ⟨[], #[], 0, .fresh 0 0 (!w.params.followText "set-order"), ?_, Got.zero ks⟩ fun s' L es ep t hm hS' g hkp => ?_
  · have q : items.toList[i]? = some v := by rw [Array.getElem?_toList]; exact hv
    rw [hit, List.getElem?_map] at q
    obtain ⟨p, hp, e⟩ := Option.map_eq_some_iff.mp q
    exact ⟨p, hp, e.symm⟩
  · rw [List.mem_singleton.mp hb, size1]; exact none_ _ (Nat.le_succ _)
  · exact ⟨⟨_, Heap.get?_push_size _ rfl, rfl, rfl⟩, isL.push _⟩
  · exact setG_new (Heap.get?_push_of_some _ new)
  · obtain ⟨h', g2, d', tk', os'⟩ := s'
    obtain rfl : g2 = s.gens := hm.gens
    obtain rfl : d' = s.drawn := hm.drawn
    obtain rfl : os' = s.os := hm.os
    rw [len] at g
    exact wpAny_pure (wpAny_pure ⟨rfl, h h' tk' L es ep t hS' g hkp⟩)
end
end Mine

namespace Mine
open PySem PySem.Spec PyProof.Rows L2
/-! ### sorting rows, any number of them -/
section
variable {P : Program} {w : World} {A : Around} {E : Value → Shared → Prop} {s : Shared}
end
end Mine

namespace Mine
open PySem PySem.Spec PyProof.Rows L2
/-! ### set(xs), sorted(set(xs)), sorted(xs) of tuples of whole numbers, any number of them -/
/-- the set, without the tuples themselves -/
def SetG0 (P : Program) (w : World) (h : Heap) (a : Addr) (L : List (Addr × List Int)) : Prop := ∃ (es : Array (Int × Value)) (ep : Nat) (t : SetTable), (∃ o, h.get? a = some o ∧ o.ExactSet ∧ o.data = .set es ep t) ∧
  (es.toList = rowsOf P w L ∧ TabG t (L.map fun p => thash P w p.2) ∧ (L.map (·.2)).Nodup ∧ t.plain = true ∧ (w.params.followText "set-order" = true ∨ t.led = true) ∧ L.length * 5 < t.mask * 3)
def SetGO (P : Program) (w : World) (a : Addr) (L : List (Addr × List Int)) : HO := .ext fun h => SetG0 P w h a L
theorem SetG.g0 {P : Program} {w : World} {h : Heap} {a : Addr} {L : List (Addr × List Int)} {es : Array (Int × Value)} {ep : Nat} {t : SetTable} (R : SetG P w h a L es ep t) : SetG0 P w h a L :=
  ⟨es, ep, t, R.at_, R.ents, R.tab, R.keys, R.byv, R.ldg, R.free⟩
theorem SetG0.all {P : Program} {w : World} {h : Heap} {a : Addr} {L : List (Addr × List Int)} (R : SetG0 P w h a L) (tup : ∀ p ∈ L, IsT P w h p.2 p.1) : ∃ es ep t, SetG P w h a L es ep t := by
  obtain ⟨es, ep, t, q0, q1, q2, q3, q4, q5, q6⟩ := R
  exact ⟨es, ep, t, q0, q1, q2, q3, tup, q4, q5, q6⟩
theorem setGO_new {P : Program} {w : World} {H : Hp} {h : Heap} {a : Addr} {L : List (Addr × List Int)} (R : SetG0 P w h a L) : ObjOk P w H h a (SetGO P w a L) := by
  obtain ⟨es, ep, t, ⟨o, ho, r⟩, q⟩ := id R
  refine ⟨R, ⟨o, ho⟩, fun h1 h2 z k => ?_⟩
  obtain ⟨es', ep', t', ⟨o', ho', r'⟩, q'⟩ := (show SetG0 P w _ a L from z)
  exact (show SetG0 P w _ a L from ⟨es', ep', t', ⟨o', k o' ho', r'⟩, q'⟩)
section
variable {X : Cx}
def rSetOfG (K : PySem.W.Frag) (P : Program) (w : World) : List V → Hp → VK → Prop := fun xs H Q => ∃ (l : Addr) (ks : List (Addr × List Int)), xs = [V.ref l] ∧ SqL K H l (ks.map fun p => V.ref p.1) ∧ (∀ p ∈ ks, SqT K H p.1 (p.2.map V.int)) ∧ Few 3999 (ks.map (·.2)) ∧
  ∀ a L, H a = none → (L.map (·.2)).Nodup → (∀ p ∈ L, p ∈ ks) → (∀ p ∈ ks, p.2 ∈ L.map (·.2)) → Q (.ref a) (upd H a (SetGO P w a L))
theorem cr_setOfG (hc : X.calm = true) (hu : X.A.units + 64 < cLine) : CallR X (.type "set") (rSetOfG X.K X.prog X.w) := by
  intro pins s σ H xs us Q I r h
  obtain ⟨l, ks, rfl, hl, hk, few, q⟩ := h
  rw [Vals.ref1 r]
  obtain ⟨its, rv, pl, hz⟩ := I.list hl
  refine set_rows (P := X.prog) (w := X.w) ks (I.ok.hd hc) pl.isList (by simpa using refs_of_vals rv) (fun p hp => I.isT (hk p hp)) few (by omega) fun h' tk L es ep t R g k => ?_
  exact ⟨.ref s.heap.objs.size, _, I.laid (t' := tk) k (Nat.le_refl _) (setGO_new R.g0), rfl, q _ L (I.hok.fresh (Nat.le_refl _)) R.keys (fun p hp => List.mem_of_mem_take (g.sub p hp)) fun p hp => g.all p (by rw [List.take_length]; exact hp)⟩
end
/-! over data -/
abbrev rowsD (ws : List (List Int)) : Dt := .lst (ws.map fun w => Dt.tup (w.map .int))
/-- rows of one kind: none is empty, or all are -/
def Plain (ws : List (List Int)) : Prop := (∀ x ∈ ws, x ≠ []) ∨ ∀ x ∈ ws, x = []
def eSortedSetG (a : DX) : DX := fun env Q E => a env (fun d => ∃ ws : List (List Int), d = rowsD ws ∧ Few 3999 ws ∧ Plain ws ∧ ∀ us : List (List Int), us.Pairwise (· < ·) → (∀ x, x ∈ us ↔ x ∈ ws) → Q (rowsD us)) E
theorem eSortedSetG_W (a : DX) {env} {Q} {E} : eSortedSetG a env Q E = a env (fun d => ∃ ws : List (List Int), d = rowsD ws ∧ Few 3999 ws ∧ Plain ws ∧ ∀ us : List (List Int), us.Pairwise (· < ·) → (∀ x, x ∈ us ↔ x ∈ ws) → Q (rowsD us)) E := rfl
end Mine

namespace Mine
open PySem PySem.Spec PyProof.Rows L2 PpSet
/-! ### a set comprehension whose items are tuples of whole numbers -/
section
variable {P : Program} {w : World} {A : Around} {E : Value → Shared → Prop} {s : Shared} {a : Addr} {L : List (Addr × List Int)} {es : Array (Int × Value)} {ep : Nat} {t : SetTable}
end
section
variable {X : Cx}
end

/-! ### sorted({e for x in xs if ..}), e tuples of whole numbers -/
def scGoG (f : DGX) (tt : DTX) (te : DX) (env : List Sl) (Q : List (List Int) → Prop) : List Dt → List (List Int) → Prop
  | [], acc => Q acc
  | x :: xs, acc => f x env fun env' => tt env' (fun b => if b = true then te env' (fun y => ∃ w : List Int, y = .tup (w.map .int) ∧ Few 3999 acc ∧ scGoG f tt te env Q xs (acc ++ [w])) (fun _ => False) else scGoG f tt te env Q xs acc) (fun _ => False)
def scEndG (Q : Dt → Prop) (ws : List (List Int)) : Prop := Few 4000 ws ∧ Plain ws ∧ ∀ us : List (List Int), us.Pairwise (· < ·) → (∀ x, x ∈ us ↔ x ∈ ws) → Q (rowsD us)
def eSortScG (src : DAX) (f : DGX) (tt : DTX) (te : DX) (vs : List Nat) : DX := fun env Q E => src env (fun ds => scGoG f tt te (wipeS env vs) (scEndG Q) ds []) E
theorem eSortScG_W (src : DAX) (f : DGX) (tt : DTX) (te : DX) (vs : List Nat) {env} {Q} {E} : eSortScG src f tt te vs env Q E = src env (fun ds => scGoG f tt te (wipeS env vs) (scEndG Q) ds []) E := rfl
end Mine

namespace Mine
open PySem PySem.Spec PyProof.Rows L2
/-! ### the least of rows; the least and the greatest of whole numbers, or a default -/
section
variable {X : Cx}
end
/-! over data -/
end Mine

namespace Mine
open PySem PySem.Spec PyProof.Rows L2
/-! ### a method without arguments that may raise, within a try -/
section
variable {X : Cx} {CX : CXT} {k : Nat} {f C g : Addr} {fd : FuncData} {ps : List Str} {sp : Sp} {dvs : List V} {ds : List Value} {E : L2.St → XK} {x m : Str} {p pos apos p0 : Pos} {e o : Expr} {es : List Expr} {ta : TE} {t : TA} {pl : Sem Bool}
end
end Mine

namespace Mine
open PySem PySem.Spec PyProof.Rows L2
/-! ### min(ints, default=d), max(ints, default=d) -/
section
variable {X : Cx} {id : String} {x : Str} {ks : List Str} {p pos : Pos} {e : Expr} {es : List Expr} {kws : List Keyword} {t tk : TA} {r : List V → List V → Hp → VK → Prop}
end
/-! over data -/
def eMinDf (a d : DX) : DX := fun env Q E => a env (fun x => d env (fun z => ∃ ns : List Int, (x = .lst (ns.map .int) ∨ x = .tup (ns.map .int)) ∧ (ns = [] → Q z) ∧ ∀ m ∈ ns, (∀ y ∈ ns, m ≤ y) → Q (.int m)) E) E
def eMaxDf (a d : DX) : DX := fun env Q E => a env (fun x => d env (fun z => ∃ ns : List Int, (x = .lst (ns.map .int) ∨ x = .tup (ns.map .int)) ∧ (ns = [] → Q z) ∧ ∀ m ∈ ns, (∀ y ∈ ns, y ≤ m) → Q (.int m)) E) E
theorem eMinDf_W (a d : DX) {env} {Q} {E} : eMinDf a d env Q E = a env (fun x => d env (fun z => ∃ ns : List Int, (x = .lst (ns.map .int) ∨ x = .tup (ns.map .int)) ∧ (ns = [] → Q z) ∧ ∀ m ∈ ns, (∀ y ∈ ns, m ≤ y) → Q (.int m)) E) E := rfl
theorem eMaxDf_W (a d : DX) {env} {Q} {E} : eMaxDf a d env Q E = a env (fun x => d env (fun z => ∃ ns : List Int, (x = .lst (ns.map .int) ∨ x = .tup (ns.map .int)) ∧ (ns = [] → Q z) ∧ ∀ m ∈ ns, (∀ y ∈ ns, y ≤ m) → Q (.int m)) E) E := rfl
section
variable {C : Bc} {ta td : TE} {a d : DX}
end
end Mine

namespace Mine
open PySem PySem.Spec PyProof.Rows L2
/-! ### x.bit_length() -/
def eBits (a : DX) : DX := fun env Q E => a env (fun d => match d with
  | .int i => Q (.int (Builtin.Int.intBits i : Nat))
  | _ => False) E
theorem eBits_W (a : DX) {env} {Q} {E} : eBits a env Q E = a env (fun d => match d with
  | .int i => Q (.int (Builtin.Int.intBits i : Nat))
  | _ => False) E := rfl
end Mine

namespace Mine
open PySem PySem.Spec PyProof.Rows L2
/-! ### len(set(xs)) of tuples of whole numbers -/
section
variable {X : Cx}
def rLenSG (P : Program) (w : World) : List V → Hp → VK → Prop := fun vs H Q => ∃ (a : Addr) (L : List (Addr × List Int)), vs = [V.ref a] ∧ H a = some (SetGO P w a L) ∧ L.length < 4000 ∧ Q (.int L.length) H
theorem cr_lenSG : CallR X (.builtin "len") (rLenSG X.prog X.w) := by
  intro pins s σ H vs us Q I r h
  obtain ⟨a, L, rfl, ha, few, q⟩ := h
  rw [Vals.ref1 r]
  obtain ⟨es, ep, t, ⟨o, ho, hex, hd⟩, ents, tab, _, _, _, free⟩ := (show SetG0 X.prog X.w s.heap a L from (I.hok a _ ha).1)
  have el := ents_len ents
  exact call_len_set ho hex hd (fits_of tab (by rw [el, List.length_map]) (by omega)) (by rw [el]; omega) ⟨.int L.length, H, I.tok _, ⟨_, by rw [el]⟩, q⟩
end
def eLenSetG (a : DX) : DX := fun env Q E => a env (fun d => ∃ ws : List (List Int), d = rowsD ws ∧ Few 3999 ws ∧ ∀ us : List (List Int), us.Nodup → (∀ x, x ∈ us ↔ x ∈ ws) → Q (.int us.length)) E
theorem eLenSetG_W (a : DX) {env} {Q} {E} : eLenSetG a env Q E = a env (fun d => ∃ ws : List (List Int), d = rowsD ws ∧ Few 3999 ws ∧ ∀ us : List (List Int), us.Nodup → (∀ x, x ∈ us ↔ x ∈ ws) → Q (.int us.length)) E := rfl
theorem de_lenSetG {C : Bc} {P : Program} {w : World} {t : TE} {e : DX} (h : DB C t e) : DE C (tCB (rLenSG P w) (tCons (tCB (rSetOfG C.K P w) (tCons t tNil)) tNil)) (eLenSetG e) := by
  intro X env σ H Q Qd Qx rp he q x
  refine h X env σ H _ _ Qx rp he (fun d v H1 f1 r1 he1 => ?_) x
  obtain ⟨ws, rfl, few, he1⟩ := he1
  obtain ⟨l, L, rfl, h1, e, hL⟩ := r1.rows
  show rSetOfG C.K P w [V.ref l] H1 (fun x H1 => rLenSG P w [x] H1 Q)
  refine ⟨l, L, rfl, .inl (.inl h1), fun k hk => .inl (.inl (vis_sub _ _ (hL k hk))), by rw [e]; exact few, fun a L2 ha nd sub all => ?_⟩
  have key : ∀ k ∈ L2, k.2 ∈ ws := fun k hk => e ▸ List.mem_map.mpr ⟨k, sub k hk, rfl⟩
  have few2 : L2.length < 3999 := by
    have := few (L2.map (·.2)) nd fun x hx => by obtain ⟨k, hk, rfl⟩ := List.mem_map.mp hx; exact key k hk
    rwa [List.length_map] at this
  refine ⟨a, L2, rfl, upd_same, by omega, ?_⟩
  have f2 : Frm C.hd H1 (upd H1 a (SetGO P w a L2)) := .upd ha
  have q1 := he1 (L2.map (·.2)) nd fun x => ⟨fun hx => by
      obtain ⟨k, hk, rfl⟩ := List.mem_map.mp hx
      exact key k hk, fun hx => by
      rw [← e] at hx
      obtain ⟨k, hk, rfl⟩ := List.mem_map.mp hx
      exact all k hk⟩
  rw [List.length_map] at q1
  exact q _ _ _ (f1.trans f2) (.int _) q1
/-! wide numbers to the left -/
abbrev dShlW : D2 := dI CShl fun i j => .int (i * 2 ^ j.toNat)
theorem dShlW_int {i j : Int} {Q : Dt → Prop} : dShlW (.int i) (.int j) Q = (CShl i j ∧ Q (.int (i * 2 ^ j.toNat))) := rfl
end Mine

namespace Mine
open PySem PySem.Spec PyProof.Rows L2
/-! ### a, b, c = a tuple or a list of that length -/
def gD3L (i j k : Nat) : DGX := fun d env Q => match d with
  | .tup [a, b, c] => Q (((env.set i (.d a)).set j (.d b)).set k (.d c))
  | .lst [a, b, c] => Q (((env.set i (.d a)).set j (.d b)).set k (.d c))
  | _ => False
theorem gD3L_W (i j k : Nat) {d} {env} {Q} : gD3L i j k d env Q = (match d with
  | .tup [a, b, c] => Q (((env.set i (.d a)).set j (.d b)).set k (.d c))
  | .lst [a, b, c] => Q (((env.set i (.d a)).set j (.d b)).set k (.d c))
  | _ => False) := rfl
end Mine

namespace Mine
open PySem PySem.Spec PyProof.Rows L2
/-! ### x is True, x is False, of truth values -/
def dIsB : D2 := fun a b Q => match a, b with
  | .bl i, .bl j => Q (.bl (decide (i = j)))
  | _, _ => False
def dNotB : D2 := fun a b Q => match a, b with
  | .bl i, .bl j => Q (.bl (!decide (i = j)))
  | _, _ => False
theorem dIsB_bl {i j : Bool} {Q : Dt → Prop} : dIsB (.bl i) (.bl j) Q = Q (.bl (decide (i = j))) := rfl
theorem dNotB_bl {i j : Bool} {Q : Dt → Prop} : dNotB (.bl i) (.bl j) Q = Q (.bl (!decide (i = j))) := rfl
section
variable {C : Bc}
end
end Mine

namespace Mine
open PySem PySem.Spec PyProof.Rows L2
/-! ### f'{x:b}' of a whole number that is not below nought -/
def binS (n : Nat) : Str := ⟨((Nat.toDigits 2 n).map Char.toNat).toArray⟩
def fmB : Builtin.Float.FormatSpec := { align := 62, type := some 98 }
theorem fmB_ok : Builtin.Float.parseFormatSpec (PySem.Str.mk #[98]).cps.toList "int" 62 = .ok fmB := by kernel_rfl
theorem field_txt {n : Nat} : intField' fmB (decide ((n : Int) < 0)) [] ((Nat.toDigits 2 (n : Int).natAbs).map fun c => (if (98 : Nat) == 88 then c.toUpper else c).toNat) [] 4 = binS n := by
  have h0 : decide ((n : Int) < 0) = false := decide_eq_false (by omega)
  have ne : ((Nat.toDigits 2 n).map fun c => (if (98 : Nat) == 88 then c.toUpper else c).toNat).isEmpty = false := by
    have := tDigits_len_ge 2 n
    cases h : Nat.toDigits 2 n with
    | nil => rw [h] at this; simp at this
    | cons a l => rfl
  have e2 : ((Nat.toDigits 2 n).map fun c => (if (98 : Nat) == 88 then c.toUpper else c).toNat) = (Nat.toDigits 2 n).map Char.toNat := rfl
  rw [h0, Int.natAbs_natCast, e2]
  rw [e2] at ne
  unfold intField' fmB binS
  simp [ne]
theorem ret_eq {M : Model} {A : Around} {E : Value → Shared → Prop} {s : Shared} {X T : PySem.Str} {Q : Fin → Shared → Prop} (e : X = T) (hT : T.length ≤ sizeLine) (h : ∀ t k, Q (.done (.ret (.str T t))) { s with toks := k }) : wpAny M A (retStr X) Q E s := by
  subst e
  exact PySem.W.KXf.ret_text rfl hT h
section
variable {prog : Program} {w : World} {A : Around} {E : Value → Shared → Prop} {s : Shared}
theorem field_b {n : Nat} {t : Tok} {Q : Value → Shared → Prop} (h : ∀ t' k, Q (.str (binS n) t') { s with toks := k }) (hsz : (binS n).length ≤ sizeLine) : wpAny (model prog w) A (formatField (.int (n : Int) t) (PySem.Str.mk #[98])) Q E s := by
  obtain ⟨a, ea⟩ : ∃ a : Int, a = n := ⟨_, rfl⟩
  rw [← ea]
  refine PySem.W.KXf.field_int (y := binS n) rfl (by decide +kernel) (by decide +kernel) ?_ h
  intro u
  apply PySem.W.KPc.meets_of
  intro prog w A s Q E hq
  unfold Builtin.«int.__format__»
  simp only [selfAndOne, noKeywords, Builtin.Int.intOfSelf, asInt?, asStr?, List.isEmpty_nil, if_true, pure_bind, bind_pure, bind_assoc, Bool.false_eq_true, if_false, show (Value.str (PySem.Str.mk #[98]) u == Value.none) = false from rfl]
  refine wpAny_bind (wpAny_typeNameOf (T := "str") (typeIs_str _ _ _) (by decide) fun _ => ?_)
  refine wpAny_bind (wpAny_typeNameOfCut_int ?_)
  rw [show Builtin.Float.parseFormatSpec _ "int" 62 = .ok fmB from fmB_ok]
  simp only [show ∀ z : Nat, fmB.type.getD z = 98 from fun _ => rfl]
  rw [if_pos (by decide)]
  show wpAny _ _ (retStr _) _ _ _
  refine ret_eq (T := binS n) ?_ hsz hq
  subst ea
  exact field_txt
theorem pe_fmtB {X : Cx} {e : Expr} {te : TE} {p p2 pos : Pos} {k0 : Nat} (he : PE X e te) : PE X (.FormattedValue e (-1) (some (.JoinedStr [.Constant (.str "b") k0 p2] p)) pos) (fun σ H Q => te σ H fun x H1 => ∃ n : Nat, x = .int n ∧ (binS n).length ≤ sizeLine ∧ Q (.str (binS n)) H1) := by
  refine ⟨fun pins s σ H Q I h => ?_⟩
  refine wpAny_FormattedValue_spec (thn (he.run pins s σ H _ I h) fun v s1 hv => ?_)
  obtain ⟨x, H1, I1, r1, n, rfl, hz, q⟩ := hv
  obtain ⟨t, rfl⟩ := r1
  refine wpAny_JoinedStr_one ?_
  refine wpAny_Constant_str ⟨_, _, rfl, ?_⟩
  rw [show Str.ofString "b" = PySem.Str.mk #[98] by decide +kernel]
  refine field_b (fun t' k => ⟨.str (binS n), H1, ?_, ⟨t', rfl⟩, q⟩) hz
  have I2 : L2.Inv X pins σ H1 { s1 with heap := s1.heap, toks := k } := I1.kept (t' := k) fun b o e => e
  exact I2
end
/-! over data -/
def eFmtB (a : DX) : DX := fun env Q E => a env (fun d => match d with
  | .int i => ∃ n : Nat, i = n ∧ (binS n).length ≤ sizeLine ∧ Q (.str (binS n))
  | _ => False) E
theorem eFmtB_W (a : DX) {env} {Q} {E} : eFmtB a env Q E = a env (fun d => match d with
  | .int i => ∃ n : Nat, i = n ∧ (binS n).length ≤ sizeLine ∧ Q (.str (binS n))
  | _ => False) E := rfl
theorem de_fmtB {C : Bc} {ta : TE} {a : DX} (ha : DB C ta a) : DE C (fun σ H Q => ta σ H fun x H1 => ∃ n : Nat, x = .int n ∧ (binS n).length ≤ sizeLine ∧ Q (.str (binS n)) H1) (eFmtB a) := by
  intro X env σ H Q Qd Qx rp h q x
  refine ha X env σ H _ _ Qx rp h (fun d v H1 f1 r1 h1 => ?_) x
  split at h1
  · obtain ⟨n, rfl, hz, h1⟩ := h1
    exact ⟨n, r1.int, hz, q _ _ _ f1 (.str _) h1⟩
  · exact h1.elim
/-! x.count(y) of a text, y one sign -/
theorem sub_one (s : Str) (z a : Nat) : (a + 1 ≤ s.length ∧ Builtin.Str.subAt s ⟨#[z]⟩ a = true) ↔ (s.cps[a]? == some z) = true := by
  by_cases h2 : a < s.cps.size
  · have e : s.cps.extract a (a + 1) = #[s.cps[a]] := by
      apply Array.ext
      · simp; omega
      · intro i hi1 hi2
        simp at hi2
        subst hi2
        simp
    have sub : Builtin.Str.subAt s ⟨#[z]⟩ a = (s.cps[a]? == some z) := by
      unfold Builtin.Str.subAt
      show (s.cps.extract a (a + 1) == #[z]) = _
      rw [e, Array.getElem?_eq_getElem h2]
      simp
    rw [sub]
    exact ⟨fun h => h.2, fun h => ⟨h2, h⟩⟩
  · rw [Array.getElem?_eq_none (by omega)]
    exact ⟨fun h => absurd h.1 h2, fun h => by cases h⟩
theorem occ_one (s : Str) (z : Nat) : ∀ (l : List Nat) (st : Array Nat × Nat), (∀ i ∈ l, st.snd ≤ i) → l.Pairwise (· < ·) → st.fst.size + l.length ≤ s.length + 1 → (forIn l st (StrLaws.occBody s ⟨#[z]⟩ s.length (s.length + 1))).run.fst.toList = st.fst.toList ++ l.filter fun i => s.cps[i]? == some z
  | [], st, _, _, _ => by simp
  | a :: l, st, h, hp, hs => by
    have h1 := h a List.mem_cons_self
    obtain ⟨p1, p2⟩ := List.pairwise_cons.mp hp
    rw [List.length_cons] at hs
    have sub := sub_one s z a
    rw [List.forIn_cons]
    unfold StrLaws.occBody
    by_cases c : (s.cps[a]? == some z) = true
    · rw [if_pos ⟨⟨⟨by omega, h1⟩, (sub.2 c).1⟩, (sub.2 c).2⟩]
      have ih := occ_one s z l (st.fst.push a, a + 1) (fun i hi => p1 i hi) p2 (by rw [Array.size_push]; omega)
      refine ih.trans ?_
      rw [List.filter_cons, if_pos c]
      simp
    · rw [if_neg fun g => c (sub.1 ⟨g.1.2, g.2⟩)]
      have ih := occ_one s z l st (fun i hi => h i (List.mem_cons_of_mem _ hi)) p2 (by omega)
      refine ih.trans ?_
      rw [List.filter_cons, if_neg c]
theorem filter_get {α : Type} [BEq α] (z : α) : ∀ (l : List α), ((List.range l.length).filter fun i => l[i]? == some z).length = (l.filter fun x => x == z).length
  | [] => rfl
  | a :: l => by
    rw [List.length_cons, List.range_succ_eq_map, List.filter_cons, List.filter_map, List.filter_cons]
    have ih := filter_get z l
    have e : (fun i => (a :: l)[i]? == some z) ∘ Nat.succ = fun i => l[i]? == some z := rfl
    rw [e]
    have e0 : ((a :: l)[0]? == some z) = (a == z) := rfl
    rw [e0]
    by_cases c : (a == z) = true
    · rw [if_pos c, if_pos c, List.length_cons, List.length_cons, List.length_map, ih]
    · rw [if_neg c, if_neg c, List.length_map, ih]
theorem count_sign (l : List Nat) (z : Nat) : Txt.count ⟨l.toArray⟩ ⟨#[z]⟩ = ((l.filter fun x => x == z).length : Int) := by
  show ((Builtin.Str.occurrences ⟨l.toArray⟩ ⟨#[z]⟩ 0 l.toArray.size (l.toArray.size + 1)).length : Int) = _
  rw [StrLaws.occ_eq]
  have h := occ_one ⟨l.toArray⟩ z (List.range' 0 (l.length + 1)) (#[], 0) (fun i _ => Nat.zero_le i) List.pairwise_lt_range' (by rw [List.length_range']; show 0 + (l.length + 1) ≤ l.length + 1; omega)
  have e : l.toArray.size = l.length := by simp
  rw [e]
  have h2 : (forIn (List.range' 0 (l.length + 1 - 0)) ((#[] : Array Nat), 0) (StrLaws.occBody ⟨l.toArray⟩ ⟨#[z]⟩ l.length (l.length + 1))).run.fst.toList = (List.range' 0 (l.length + 1)).filter fun i => (Str.mk l.toArray).cps[i]? == some z := h
  rw [h2, ← List.range_eq_range', List.range_succ, List.filter_append, List.length_append]
  have a1 : ((List.range l.length).filter fun i => (Str.mk l.toArray).cps[i]? == some z).length = (l.filter fun x => x == z).length := by
    rw [← filter_get z l]
    simp
  have a2 : ([l.length].filter fun i => (Str.mk l.toArray).cps[i]? == some z).length = 0 := by simp
  rw [a1, a2]; rfl
end Mine

namespace Mine
open PySem PySem.Spec PyProof.Rows L2 PpSet
/-! ### a set comprehension of two clauses whose items are tuples of whole numbers -/
section
variable {prog : Program} {w : World} {A : Around} {R : Result → Shared → Prop} {s : Shared} {el a0 b0 a1 b1 : Expr} {f0 f1 : List Expr} {sp : Scope} {po : Pos} {i acc : Value} {ev : Env}
abbrev tests (fs : List Expr) (ev : Env) : Sem Bool := forIn fs true fun c r => if r = true then do let ok ← isTrue c ev (eval c ev); pure (ForInStep.yield ok) else pure (ForInStep.yield r)
end
section
variable {X : Cx}
end
/-! ### sorted({e for x in xs for y in ys}) over data -/
def scGo2G (f : DGX) (tt : DTX) (src1 : DAX) (f1 : DGX) (tt1 : DTX) (te : DX) (vs1 : List Nat) (env : List Sl) (Q : List (List Int) → Prop) : List Dt → List (List Int) → Prop
  | [], acc => Q acc
  | x :: xs, acc => f x env fun env' => tt env' (fun b => if b = true then src1 env' (fun ds1 => scGoG f1 tt1 te (wipeS env' vs1) (fun acc' => scGo2G f tt src1 f1 tt1 te vs1 env Q xs acc') ds1 acc) (fun _ => False) else scGo2G f tt src1 f1 tt1 te vs1 env Q xs acc) fun _ => False
def eSortScG2 (src : DAX) (f : DGX) (tt : DTX) (src1 : DAX) (f1 : DGX) (tt1 : DTX) (te : DX) (vs1 vs : List Nat) : DX := fun env Q E => src env (fun ds => scGo2G f tt src1 f1 tt1 te vs1 (wipeS env vs) (scEndG Q) ds []) E
theorem eSortScG2_W (src : DAX) (f : DGX) (tt : DTX) (src1 : DAX) (f1 : DGX) (tt1 : DTX) (te : DX) (vs1 vs : List Nat) {env} {Q} {E} : eSortScG2 src f tt src1 f1 tt1 te vs1 vs env Q E = src env (fun ds => scGo2G f tt src1 f1 tt1 te vs1 (wipeS env vs) (scEndG Q) ds []) E := rfl
end Mine

namespace Mine
open PySem PySem.Spec PyProof.Rows L2
/-! ### sorted(xs) of at most one tuple, that may be the empty one -/
section
variable {X : Cx}
end
end Mine

/-! ### zip(*rows), any number of tuples -/
namespace ZT
open PySem ZN
section
variable {prog : Program} {w : World} {A : Around} {E : Value → Shared → Prop} {s : Shared}
end
end ZT
namespace ZT
open PySem ZN
section
variable {prog : Program} {w : World} {A : Around} {E : Value → Shared → Prop} {s : Shared}
end
section
variable {prog : Program} {w : World} {A : Around} {E : Value → Shared → Prop} {s : Shared}
end
end ZT
namespace Mine
open PySem PySem.Spec PyProof.Rows L2 ZN
end Mine
namespace Mine
open PySem PySem.Spec PyProof.Rows L2 ZN
/-- zip(*rows) of a list of tuples of one length -/
def eZipT (a : DX) : DAX := fun env Q E => a env (fun d => ∃ (n : Nat) (xs : List (List Dt)), d = .lst (xs.map .tup) ∧ xs ≠ [] ∧ xs.length ≤ 100 ∧ (∀ l ∈ xs, l.length = n) ∧ Q ((List.range n).map fun i => .tup (xs.map fun l => l.getD i .non))) E
theorem eZipT_W (a : DX) {env} {Q} {E} : eZipT a env Q E = a env (fun d => ∃ (n : Nat) (xs : List (List Dt)), d = .lst (xs.map .tup) ∧ xs ≠ [] ∧ xs.length ≤ 100 ∧ (∀ l ∈ xs, l.length = n) ∧ Q ((List.range n).map fun i => .tup (xs.map fun l => l.getD i .non))) E := rfl
end Mine
namespace Mine
open PySem PySem.Spec PyProof.Rows L2
/-! ### the least of a tuple of whole numbers -/
end Mine

namespace Mine
open PySem PySem.Spec PyProof.Rows L2 GenW
/-! ### list(g(..)) of a generator def that lets an exception of one class out -/
section
variable {C : Bc} {F : DFn} {dvs : List V} {dd : List Sl} {t : TA} {a : DSX}
end
end Mine

namespace Mine
open PySem PySem.Spec PyProof.Rows L2 GenW
/-! ### a, b = .., new list: the second one own -/
section
variable {C : Bc} {te tk : TE} {e ek : DX}
end
/-! ### x in range(n), x not in range(n): whole numbers -/
def eInRg (neg : Bool) (a b : DX) : DX := fun env Q E => a env (fun x => b env (fun y => match x, y with
  | .int i, .int n => Q (.bl (neg != decide (0 ≤ i ∧ i < n)))
  | _, _ => False) E) E
theorem eInRg_W {neg : Bool} {a b : DX} {env : List Sl} {Q : Dt → Prop} {E : Xc → Prop} : eInRg neg a b env Q E = a env (fun x => b env (fun y => match x, y with
  | .int i, .int n => Q (.bl (neg != decide (0 ≤ i ∧ i < n)))
  | _, _ => False) E) E := rfl
section
variable {C : Bc} {ta tb : TE} {a b : DX} {neg : Bool}
end
end Mine

namespace Mine
open PySem PySem.Spec PyProof.Rows L2
/-! ### rows = [a new list for ..]: a list of one's own of lists of one's own -/
def sTab (i : Nat) (lc : DX) : DSt := fun d env => lc env (fun r => match r with
  | .lst rs => ∃ rows : List (List Dt), rs = rows.map .lst ∧ ∀ p qs, d.nx (env.set i (.tab p qs rows))
  | _ => False) (d.xc env)
/-- rows[k1][k2] -/
def eTab (i : Nat) (e1 e2 : DX) : DX := fun env Q E => match env[i]? with
  | some (.tab _ _ rows) => e1 env (fun a => match a with
    | .int m => ∃ (m' : Nat) (ds : List Dt), ixN rows.length m = some m' ∧ rows[m']? = some ds ∧ e2 env (fun b => match b with
      | .int j => ∃ x, atI ds j = some x ∧ Q x
      | _ => False) E
    | _ => False) E
  | _ => False
/-- rows[k1][k2] = e -/
def sTabPut (i : Nat) (ev e1 e2 : DX) : DSt := fun d env => match env[i]? with
  | some (.tab p qs rows) => ev env (fun v => e1 env (fun a => match a with
    | .int m => ∃ (m' : Nat) (ds : List Dt), ixN rows.length m = some m' ∧ rows[m']? = some ds ∧ e2 env (fun b => match b with
      | .int j => ∃ j' : Nat, ixN ds.length j = some j' ∧ d.nx (env.set i (.tab p qs (rows.set m' (ds.set j' v))))
      | _ => False) (d.xc env)
    | _ => False) (d.xc env)) (d.xc env)
  | _ => False
/-- rows[k].append(e) -/
def sTabApp (i : Nat) (e1 ev : DX) : DSt := fun d env => match env[i]? with
  | some (.tab p qs rows) => e1 env (fun a => match a with
    | .int m => ∃ (m' : Nat) (ds : List Dt), ixN rows.length m = some m' ∧ rows[m']? = some ds ∧ ds.length < LINE ∧ ev env (fun v => d.nx (env.set i (.tab p qs (rows.set m' (ds ++ [v]))))) (d.xc env)
    | _ => False) (d.xc env)
  | _ => False
/-- from here on the rows are data -/
def frzT (env : List Sl) (i : Nat) : List Sl := match env[i]? with
  | some (.tab _ _ rows) => env.set i (.d (.lst (rows.map .lst)))
  | _ => env
def sFrzT (i : Nat) (s : DSt) : DSt := fun d env => s d (frzT env i)
theorem sTab_W {i : Nat} {lc : DX} {d : DEn} {env : List Sl} : sTab i lc d env = lc env (fun r => match r with
  | .lst rs => ∃ rows : List (List Dt), rs = rows.map .lst ∧ ∀ p qs, d.nx (env.set i (.tab p qs rows))
  | _ => False) (d.xc env) := rfl
theorem eTab_W {i : Nat} {e1 e2 : DX} {env : List Sl} {Q : Dt → Prop} {E : Xc → Prop} : eTab i e1 e2 env Q E = (match env[i]? with
  | some (.tab _ _ rows) => e1 env (fun a => match a with
    | .int m => ∃ (m' : Nat) (ds : List Dt), ixN rows.length m = some m' ∧ rows[m']? = some ds ∧ e2 env (fun b => match b with
      | .int j => ∃ x, atI ds j = some x ∧ Q x
      | _ => False) E
    | _ => False) E
  | _ => False) := rfl
theorem sTabPut_W {i : Nat} {ev e1 e2 : DX} {d : DEn} {env : List Sl} : sTabPut i ev e1 e2 d env = (match env[i]? with
  | some (.tab p qs rows) => ev env (fun v => e1 env (fun a => match a with
    | .int m => ∃ (m' : Nat) (ds : List Dt), ixN rows.length m = some m' ∧ rows[m']? = some ds ∧ e2 env (fun b => match b with
      | .int j => ∃ j' : Nat, ixN ds.length j = some j' ∧ d.nx (env.set i (.tab p qs (rows.set m' (ds.set j' v))))
      | _ => False) (d.xc env)
    | _ => False) (d.xc env)) (d.xc env)
  | _ => False) := rfl
theorem sTabApp_W {i : Nat} {e1 ev : DX} {d : DEn} {env : List Sl} : sTabApp i e1 ev d env = (match env[i]? with
  | some (.tab p qs rows) => e1 env (fun a => match a with
    | .int m => ∃ (m' : Nat) (ds : List Dt), ixN rows.length m = some m' ∧ rows[m']? = some ds ∧ ds.length < LINE ∧ ev env (fun v => d.nx (env.set i (.tab p qs (rows.set m' (ds ++ [v]))))) (d.xc env)
    | _ => False) (d.xc env)
  | _ => False) := rfl
theorem sFrzT_W {i : Nat} {s : DSt} {d : DEn} {env : List Sl} : sFrzT i s d env = s d (match env[i]? with
  | some (.tab _ _ rows) => env.set i (.d (.lst (rows.map .lst)))
  | _ => env) := rfl
section
variable {C : Bc} {X : Addr → Prop} {env : List Sl} {σ : L2.St} {H H1 : Hp}
theorem Rep.tabAt (r : Rep C X env σ H) {i : Nat} {p : Addr} {qs : List Addr} {rows : List (List Dt)} (e : env[i]? = some (.tab p qs rows)) : σ[i]? = some (some (.ref p)) ∧ (∀ a ∈ p :: qs, X a ∧ ¬ C.X0 a) ∧ (p :: qs).Nodup ∧ H p = some (.lst (qs.map V.ref)) ∧ RowsAt C.K (Mine.vis H X) H qs rows := by
  obtain ⟨o, es, rfl, h1, h2, h3, h4⟩ := r.slot i _ e
  exact ⟨es, h1, h2, h3, h4⟩
/-- the rows are no longer one's own -/
theorem Rep.frzT (r : Rep C X env σ H) (i : Nat) : ∃ X', Rep C X' (Mine.frzT env i) σ H ∧ Same (Mine.vis H X) (Mine.vis H X') := by
  unfold Mine.frzT
  split
  · rename_i p qs rows e
    obtain ⟨es, own, nd, hp, hl, hr⟩ := r.tabAt e
    have hlt : i < env.length := (List.getElem?_eq_some_iff.mp e).1
    have sm : Same (Mine.vis H X) (Mine.vis H fun a => X a ∧ a ∉ p :: qs) := vis_anti fun a z => z.1
    refine ⟨fun a => X a ∧ a ∉ p :: qs, ⟨by rw [List.length_set, r.len], fun a z => ⟨r.sup a z, fun m => (own a m).2 z⟩, fun a z => r.new a z.1, fun a z => r.al a z.1, r.frm, r.hands, fun j s z => ?_, r.ap.setS fun _ _ _ f => f.elim, r.one.set fun _ _ _ z => by cases z⟩, sm⟩
    rw [List.getElem?_set] at z
    by_cases c : i = j
    · subst c
      rw [if_pos rfl, if_pos hlt] at z
      cases z
      refine ⟨_, es, _, rfl, .lst (vis_mk (fun z => z.2 List.mem_cons_self) hp) (rows_den hl fun k q ds e1 e2 => ?_)⟩
      obtain ⟨us, g1, g2⟩ := hr k q ds e1 e2
      exact ⟨us, vis_mk (fun z => z.2 (List.mem_cons_of_mem _ (List.mem_of_getElem? e1))) g1, g2.mono sm⟩
    · rw [if_neg c] at z
      obtain ⟨o, e1, w⟩ := r.slot j s z
      refine ⟨o, e1, ?_⟩
      have no : ∀ a ∈ p :: qs, ¬ Foot s o a := fun a ha => r.ap i j _ _ _ _ a c e z es e1 ha
      cases s with
      | no => trivial
      | d x => obtain ⟨v, e2, h⟩ := w; exact ⟨v, e2, h.mono sm⟩
      | own ys =>
        obtain ⟨p', us, rfl, y1, y2, y3, y4⟩ := w
        exact ⟨p', us, rfl, ⟨y1, fun m => no p' m rfl⟩, y2, y3, y4.mono sm⟩
      | hand => exact w
      | exc c' fs => exact w.exc sm
      | ins C0 ns ds =>
        obtain ⟨p', dx, us, rfl, y1, y2, y3, yl, y4⟩ := w
        have ne : p' ∉ p :: qs := fun m => by
          obtain ⟨us2, g⟩ := (show SlRep C X H (.tab p qs rows) _ from (r.slot i _ e).choose_spec.2).tab_lst p' m
          rw [g] at y3; cases y3
        exact ⟨p', dx, us, rfl, ⟨y1, ne⟩, y2, y3, yl, y4.mono sm⟩
      | tab p2 qs2 rows2 => exact w.tab_to (fun a ha x => ⟨x, fun m => no a m ha⟩) (fun _ _ _ h => h) sm
      | st S n =>
        obtain ⟨p', rfl, y1, y2, y3⟩ := w
        exact ⟨p', rfl, ⟨y1, fun m => no p' m rfl⟩, y2, y3⟩
  · exact ⟨X, r, Same.refl _⟩
end
section
variable {C : Bc} {wi : TI} {g : TG} {tt : TT} {te tv t1 t2 : TE} {vs : List Nat} {src : DAX} {f : DGX} {et : DTX} {ee ev e1 e2 : DX} {u : TS} {s : DSt} {i : Nat}
end
end Mine

namespace Mine
open PySem PySem.Spec PyProof.Rows L2
/-! ### a < b of data of any depth, alike -/
end Mine

namespace Mine
open PySem PySem.Spec PyProof.Rows L2
/-! ### the pure part: rules -/
theorem iteQ {c : Prop} [Decidable c] {a b : Prop} (h : c → a) (k : ¬ c → b) : if c then a else b := by
  split
  · exact h (by assumption)
  · exact k (by assumption)
/-- a loop by an invariant over the number of turns; K: what is wanted behind the turn, B: behind a break -/
theorem dFor_inv {f : DGX} {b : DSt} {nx bk ct : List Sl → Prop} {rt : Dt → Prop} {xc : List Sl → Xc → Prop} (I : Nat → List Sl → Prop) : ∀ {xs : List Dt} {env : List Sl}, I 0 env →
    (∀ (i : Nat) (x : Dt) (e : List Sl) (K : List Sl → Prop) (B : { B : List Sl → Prop // ∀ e', nx e' → B e' }), xs[i]? = some x → I i e → (∀ e', I (i + 1) e' → K e') → f x e fun e' => b ⟨K, rt, B.1, K, xc⟩ e') → (∀ e, I xs.length e → nx e) → dFor f b ⟨nx, rt, bk, ct, xc⟩ xs env := by
  intro xs
  induction xs generalizing I with
  | nil => intro env h0 _ fin; exact fin _ h0
  | cons x xs ih =>
    intro env h0 step fin
    refine step 0 x env _ ⟨nx, fun _ h => h⟩ rfl h0 fun e' h1 => ?_
    exact ih (fun i => I (i + 1)) h1 (fun i y e K B e1 => step (i + 1) y e K B (by simpa using e1)) fin
/-- a comprehension: which items stay, what becomes of them -/
theorem lc_ok {α : Type} {f : DGX} {tt : DTX} {te : DX} {env : List Sl} {Q : Dt → Prop} (e : α → Dt) (p : α → Bool) (g : α → Dt) : ∀ {xs : List α} {acc : List Dt},
    (∀ x ∈ xs, ∀ (K1 : Dt → Prop) (K0 : Prop), (p x = true → K1 (g x)) → (p x = false → K0) → f (e x) env fun env' => tt env' (fun b => if b = true then te env' K1 (fun _ => False) else K0) fun _ => False) →
    acc.length + xs.length ≤ 16777216 → Q (.lst (acc ++ (xs.filter p).map g)) → lcGo f tt te env Q (xs.map e) acc := by
  intro xs
  induction xs with
  | nil => intro acc _ _ q; show Q (.lst acc); simpa using q
  | cons x xs ih =>
    intro acc step hl q
    refine step x List.mem_cons_self _ _ (fun hp => ?_) fun hp => ?_
    · rw [List.length_cons] at hl
      refine ⟨by show acc.length < 16777216; omega, ih (fun y hy => step y (List.mem_cons_of_mem _ hy)) (by rw [List.length_append]; show acc.length + 1 + _ ≤ _; omega) ?_⟩
      rw [List.filter_cons, if_pos hp, List.map_cons] at q
      simpa using q
    · rw [List.length_cons] at hl
      refine ih (fun y hy => step y (List.mem_cons_of_mem _ hy)) (by omega) ?_
      rw [List.filter_cons, if_neg (by rw [hp]; decide)] at q
      exact q
/-- without a test -/
theorem lc_map {α : Type} {f : DGX} {te : DX} {env : List Sl} {Q : Dt → Prop} (e : α → Dt) (g : α → Dt) {xs : List α}
    (step : ∀ x ∈ xs, ∀ K1 : Dt → Prop, K1 (g x) → f (e x) env fun env' => te env' K1 (fun _ => False)) (hl : xs.length ≤ 16777216) (q : Q (.lst (xs.map g))) : lcGo f eYes te env Q (xs.map e) [] := by
  refine lc_ok e (fun _ => true) g (fun x hx K1 K0 h1 _ => ?_) (by simpa using hl) (by rw [List.filter_eq_self.mpr fun _ _ => rfl]; exact q)
  exact step x hx K1 (h1 rfl)
/-! ### data of a type -/
abbrev iT (w : List Int) : Dt := .tup (w.map .int)
abbrev iL (w : List Int) : Dt := .lst (w.map .int)
def Dt.shN (n : Nat) (a : Dt) : Prop := ∃ p, a.py = some p ∧ p.canLay0 = true ∧ p.depth ≤ n
theorem Dt.shN.sh {n : Nat} {a : Dt} (h : a.shN n) (hn : n ≤ 64 := by decide) : a.sh := by
  obtain ⟨p, e, c, d⟩ := h
  exact ⟨p, e, by unfold SeqAt.shaped; rw [c, decide_eq_true (by omega)]; rfl⟩
theorem shN_int (i : Int) : (Dt.int i).shN 0 := ⟨.int i, by rw [Dt.py], by rw [PyData.canLay0], by rw [PyData.depth]; exact Nat.le_refl _⟩
theorem shN_all {n : Nat} : ∀ {xs : List Dt}, (∀ x ∈ xs, x.shN n) → ∃ ps, Dt.pys xs = some ps ∧ PyData.canLayAll0 ps = true ∧ PyData.depthAll ps ≤ n
  | [], _ => ⟨[], by rw [Dt.pys], by rw [PyData.canLayAll0], by rw [PyData.depthAll]; exact Nat.zero_le _⟩
  | x :: xs, h => by
    obtain ⟨p, e, c, d⟩ := h x List.mem_cons_self
    obtain ⟨ps, e2, c2, d2⟩ := shN_all fun y hy => h y (List.mem_cons_of_mem _ hy)
    exact ⟨p :: ps, by rw [Dt.pys, e, e2], by rw [PyData.canLayAll0, c, c2]; rfl, by rw [PyData.depthAll]; omega⟩
theorem shN_tup {n : Nat} {xs : List Dt} (h : ∀ x ∈ xs, x.shN n) : (Dt.tup xs).shN (n + 1) := by
  obtain ⟨ps, e, c, d⟩ := shN_all h
  exact ⟨.tuple ps, by rw [Dt.py, e]; rfl, by rw [PyData.canLay0]; exact c, by rw [PyData.depth]; omega⟩
theorem shN_lst {n : Nat} {xs : List Dt} (h : ∀ x ∈ xs, x.shN n) : (Dt.lst xs).shN (n + 1) := by
  obtain ⟨ps, e, c, d⟩ := shN_all h
  exact ⟨.list ps, by rw [Dt.py, e]; rfl, by rw [PyData.canLay0]; exact c, by rw [PyData.depth]; omega⟩
theorem shN_str {z : Str} (h : PyData.strOk z = true) : (Dt.str z).shN 0 := ⟨.str z, by rw [Dt.py], by rw [PyData.canLay0]; exact h, by rw [PyData.depth]; exact Nat.le_refl _⟩
/-! equality -/
def eqvL : List Dt → List Dt → Bool
  | [], [] => true
  | x :: xs, y :: ys => x.eqv y && eqvL xs ys
  | _, _ => false
theorem eqvL_of {n m : Nat} : ∀ {xs ys : List Dt} {ps qs : List PyData}, Dt.pys xs = some ps → Dt.pys ys = some qs → PyData.eqvAll ps qs = eqvL xs ys
  | [], [], _, _, e1, e2 => by
    rw [Dt.pys] at e1 e2; cases e1; cases e2; rw [PyData.eqvAll]; rfl
  | [], y :: ys, _, _, e1, e2 => by
    rw [Dt.pys] at e1
    rw [Dt.pys] at e2
    cases e1
    split at e2
    · cases e2; rw [PyData.eqvAll]; rfl
    · cases e2
  | x :: xs, [], _, _, e1, e2 => by
    rw [Dt.pys] at e1
    rw [Dt.pys] at e2
    cases e2
    split at e1
    · cases e1; rw [PyData.eqvAll]; rfl
    · cases e1
  | x :: xs, y :: ys, _, _, e1, e2 => by
    rw [Dt.pys] at e1
    rw [Dt.pys] at e2
    split at e1
    · rename_i p ps h1 h2
      cases e1
      split at e2
      · rename_i q qs h3 h4
        cases e2
        rw [PyData.eqvAll, eqvL_of (n := n) (m := m) h2 h4, ← Dt.eqv_of h1 h3]; rfl
      · cases e2
    · cases e1
theorem eqv_seq {xs ys : List Dt} (h1 : ∃ ps, Dt.pys xs = some ps) (h2 : ∃ ps, Dt.pys ys = some ps) : (Dt.tup xs).eqv (.tup ys) = eqvL xs ys ∧ (Dt.lst xs).eqv (.lst ys) = eqvL xs ys ∧ (Dt.tup xs).eqv (.lst ys) = false ∧ (Dt.lst xs).eqv (.tup ys) = false := by
  obtain ⟨ps, e1⟩ := h1
  obtain ⟨qs, e2⟩ := h2
  have a : (Dt.tup xs).py = some (.tuple ps) := by rw [Dt.py, e1]; rfl
  have b : (Dt.tup ys).py = some (.tuple qs) := by rw [Dt.py, e2]; rfl
  have c : (Dt.lst xs).py = some (.list ps) := by rw [Dt.py, e1]; rfl
  have d : (Dt.lst ys).py = some (.list qs) := by rw [Dt.py, e2]; rfl
  rw [Dt.eqv_of a b, Dt.eqv_of c d, Dt.eqv_of a d, Dt.eqv_of c b]
  refine ⟨?_, ?_, ?_, ?_⟩
  · rw [PyData.eqv]; exact eqvL_of (n := 0) (m := 0) e1 e2
  · rw [PyData.eqv]; exact eqvL_of (n := 0) (m := 0) e1 e2
  · rw [PyData.eqv]
  · rw [PyData.eqv]
theorem eqv_int (i j : Int) : (Dt.int i).eqv (.int j) = decide (i = j) := by
  rw [Dt.eqv_of (a := .int i) (b := .int j) (by rw [Dt.py]) (by rw [Dt.py]), PyData.eqv]; rfl
/-- a type whose things are data, equal exactly if they are -/
structure EqE {α : Type} [DecidableEq α] (e : α → Dt) (n : Nat) : Prop where
  sh : ∀ a, (e a).shN n
  eq : ∀ a b, (e a).eqv (e b) = decide (a = b)
theorem eqE_int : EqE Dt.int 0 := ⟨shN_int, eqv_int⟩
section
variable {α : Type} [DecidableEq α] {e : α → Dt} {n : Nat}
theorem EqE.pys (h : EqE e n) (xs : List α) : ∃ ps, Dt.pys (xs.map e) = some ps := by
  obtain ⟨ps, e1, _⟩ := shN_all (n := n) (xs := xs.map e) fun x hx => by
    obtain ⟨a, _, rfl⟩ := List.mem_map.mp hx
    exact h.sh a
  exact ⟨ps, e1⟩
theorem EqE.eqvL (h : EqE e n) : ∀ xs ys : List α, Mine.eqvL (xs.map e) (ys.map e) = decide (xs = ys)
  | [], [] => by simp [Mine.eqvL]
  | [], y :: ys => by simp [Mine.eqvL]
  | x :: xs, [] => by simp [Mine.eqvL]
  | x :: xs, y :: ys => by
    rw [List.map_cons, List.map_cons, Mine.eqvL, h.eq, EqE.eqvL h xs ys]
    by_cases a : x = y <;> by_cases b : xs = ys <;> simp [a, b]
theorem EqE.tup (h : EqE e n) : EqE (fun xs : List α => Dt.tup (xs.map e)) (n + 1) :=
  ⟨fun xs => shN_tup fun x hx => by obtain ⟨a, _, rfl⟩ := List.mem_map.mp hx; exact h.sh a, fun xs ys => by
    show (Dt.tup (xs.map e)).eqv (.tup (ys.map e)) = _
    rw [(eqv_seq (h.pys xs) (h.pys ys)).1]; exact h.eqvL xs ys⟩
theorem EqE.lst (h : EqE e n) : EqE (fun xs : List α => Dt.lst (xs.map e)) (n + 1) :=
  ⟨fun xs => shN_lst fun x hx => by obtain ⟨a, _, rfl⟩ := List.mem_map.mp hx; exact h.sh a, fun xs ys => by
    show (Dt.lst (xs.map e)).eqv (.lst (ys.map e)) = _
    rw [(eqv_seq (h.pys xs) (h.pys ys)).2.1]; exact h.eqvL xs ys⟩
theorem EqE.dEq (h : EqE e n) {a b : α} {Q : Dt → Prop} (q : Q (.bl (decide (a = b)))) (hn : n ≤ 64 := by decide) : dEq (e a) (e b) Q :=
  ⟨(h.sh a).sh hn, (h.sh b).sh hn, by rw [h.eq]; exact q⟩
theorem EqE.dNe (h : EqE e n) {a b : α} {Q : Dt → Prop} (q : Q (.bl (!decide (a = b)))) (hn : n ≤ 64 := by decide) : dNe (e a) (e b) Q :=
  ⟨(h.sh a).sh hn, (h.sh b).sh hn, by rw [h.eq]; exact q⟩
end
theorem eqE_L : EqE iL 1 := eqE_int.lst
theorem dEq_int {i j : Int} {Q : Dt → Prop} : dEq (.int i) (.int j) Q = Q (.bl (decide (i = j))) := by
  refine propext ⟨fun h => ?_, fun h => eqE_int.dEq h⟩
  have := h.2.2
  rwa [eqv_int] at this
theorem dNe_int {i j : Int} {Q : Dt → Prop} : dNe (.int i) (.int j) Q = Q (.bl (!decide (i = j))) := by
  refine propext ⟨fun h => ?_, fun h => eqE_int.dNe h⟩
  have := h.2.2
  rwa [eqv_int] at this
/-! items -/
theorem ix_at {xs : List Dt} {k : Int} {n : Nat} {Q : Dt → Prop} (e : k = n) (h : n < xs.length) (q : Q xs[n]) : ∃ x, atI xs k = some x ∧ Q x :=
  ⟨xs[n], by rw [e]; exact atI_nat (by rw [List.getElem?_eq_getElem h]), q⟩
theorem ix_map {α : Type} {e : α → Dt} {xs : List α} {k : Int} {n : Nat} {Q : Dt → Prop} (hk : k = n) (h : n < xs.length) (q : Q (e xs[n])) : ∃ x, atI (xs.map e) k = some x ∧ Q x :=
  ix_at hk (by rw [List.length_map]; exact h) (by rw [List.getElem_map]; exact q)
end Mine
namespace Mine
open PySem PySem.Spec PyProof.Rows L2
mutual
theorem Dt.eqv_self0 : ∀ {a : Dt} {p : PyData}, a.py = some p → PyData.eqv p p = true
  | .non, _, e => by rw [Dt.py] at e; cases e; rw [PyData.eqv]
  | .bl b, _, e => by rw [Dt.py] at e; cases e; rw [PyData.eqv]; simp
  | .int b, _, e => by rw [Dt.py] at e; cases e; rw [PyData.eqv]; simp
  | .str b, _, e => by rw [Dt.py] at e; cases e; rw [PyData.eqv]; simp
  | .tup xs, _, e => by
    rw [Dt.py, Option.map_eq_some_iff] at e
    obtain ⟨ps, e1, rfl⟩ := e
    rw [PyData.eqv]; exact Dt.eqv_selfs e1
  | .lst xs, _, e => by
    rw [Dt.py, Option.map_eq_some_iff] at e
    obtain ⟨ps, e1, rfl⟩ := e
    rw [PyData.eqv]; exact Dt.eqv_selfs e1
  | .dk _ _, _, e => by rw [Dt.py] at e <;> cases e
  | .ins _ _ _, _, e => by rw [Dt.py] at e <;> cases e
  | .raw _, _, e => by rw [Dt.py] at e <;> cases e
theorem Dt.eqv_selfs : ∀ {xs : List Dt} {ps : List PyData}, Dt.pys xs = some ps → PyData.eqvAll ps ps = true
  | [], _, e => by rw [Dt.pys] at e; cases e; rw [PyData.eqvAll]
  | x :: xs, _, e => by
    rw [Dt.pys] at e
    split at e
    · rename_i p ps h1 h2
      cases e
      rw [PyData.eqvAll, Dt.eqv_self0 h1, Dt.eqv_selfs h2]; rfl
    · cases e
end
theorem Dt.eqv_self {a : Dt} (h : a.sh) : a.eqv a = true := by
  obtain ⟨p, e, _⟩ := h
  rw [Dt.eqv_of e e]; exact Dt.eqv_self0 e
theorem dEq_self {a : Dt} {Q : Dt → Prop} (h : a.sh) (q : Q (.bl true)) : dEq a a Q := ⟨h, h, by rw [Dt.eqv_self h]; exact q⟩
theorem dNe_self {a : Dt} {Q : Dt → Prop} (h : a.sh) (q : Q (.bl false)) : dNe a a Q := ⟨h, h, by rw [Dt.eqv_self h]; exact q⟩
theorem take_snoc {α : Type} {xs : List α} {i : Nat} {x : α} (h : xs[i]? = some x) : xs.take (i + 1) = xs.take i ++ [x] := by
  rw [List.take_add_one, h]; rfl
theorem map_get {α : Type} {e : α → Dt} {xs : List α} {i : Nat} {x : Dt} (h : (xs.map e)[i]? = some x) : ∃ a, xs[i]? = some a ∧ x = e a := by
  rw [List.getElem?_map, Option.map_eq_some_iff] at h
  obtain ⟨a, h1, h2⟩ := h
  exact ⟨a, h1, h2.symm⟩
theorem ix_get {xs : List Dt} {k : Int} {n : Nat} {x : Dt} {Q : Dt → Prop} (e : k = n) (h : xs[n]? = some x) (q : Q x) : ∃ x, atI xs k = some x ∧ Q x :=
  ⟨x, by rw [e]; exact atI_nat h, q⟩
theorem ix_mget {α : Type} {f : α → Dt} {xs : List α} {k : Int} {n : Nat} {a : α} {Q : Dt → Prop} (e : k = n) (h : xs[n]? = some a) (q : Q (f a)) : ∃ x, atI (xs.map f) k = some x ∧ Q x :=
  ix_get e (by rw [List.getElem?_map, h]; rfl) q
end Mine
namespace Mine
open PySem PySem.Spec PyProof.Rows L2
theorem cutG_take {α : Type} {xs : List α} {z : Int} {k : Nat} (e : z = k) : cutG xs none (some z) = xs.take k := by
  subst e
  unfold cutG
  rw [HT.sIx_none, HT.sIx_nat, List.drop_zero, Nat.sub_zero]
  by_cases h : k ≤ xs.length
  · rw [Nat.min_eq_left h]
  · rw [Nat.min_eq_right (by omega), List.take_length, List.take_of_length_le (by omega)]
theorem cutG_drop {α : Type} {xs : List α} {z : Int} {k : Nat} (e : z = k) : cutG xs (some z) none = xs.drop k := by
  subst e
  unfold cutG
  rw [HT.sIx_none, HT.sIx_nat]
  by_cases h : k ≤ xs.length
  · rw [Nat.min_eq_left h, List.take_of_length_le (by rw [List.length_drop]; omega)]
  · rw [Nat.min_eq_right (by omega), List.drop_of_length_le (Nat.le_refl _), List.drop_of_length_le (by omega), List.take_nil]
end Mine
namespace Mine
open PySem PySem.Spec PyProof.Rows L2
end Mine

namespace Mine
open PySem PySem.Spec PyProof.Rows L2
/-! ### any thing: its kind -/
/-- a thing whose kind is known -/
def Dt.kn (a : Dt) : Prop := a.kind.isSome = true
theorem kn_int (i : Int) : (Dt.int i).kind.isSome = true := rfl
theorem kn_bl (i : Bool) : (Dt.bl i).kind.isSome = true := rfl
theorem kn_non : (Dt.non).kind.isSome = true := rfl
theorem kn_str (i : Str) : (Dt.str i).kind.isSome = true := rfl
theorem kn_tup (i : List Dt) : (Dt.tup i).kind.isSome = true := rfl
theorem kn_lst (i : List Dt) : (Dt.lst i).kind.isSome = true := rfl
theorem kn_dt (i : List (List Key)) (j : List Dt) : (Dt.dt i j).kind.isSome = true := rfl
theorem isN_dt (i : List (List Key)) (j : List Dt) : Dt.isN (.dt i j) = false := rfl
theorem kn_dk (i : List Key) (j : List Dt) : (Dt.dk i j).kind.isSome = true := rfl
def isW : Dt → Bool
  | .int _ => true
  | _ => false
def isSeq : Dt → Bool
  | .lst _ => true
  | .tup _ => true
  | _ => false
def isTp : Dt → Bool
  | .tup _ => true
  | _ => false
def isSt : Dt → Bool
  | .str _ => true
  | _ => false
def isLs : Dt → Bool
  | .lst _ => true
  | _ => false
def itemsOf : Dt → List Dt
  | .lst xs => xs
  | .tup xs => xs
  | _ => []
/-- a whole number within bounds -/
def inB (lo hi : Int) : Dt → Bool
  | .int i => decide (lo ≤ i) && decide (i ≤ hi)
  | _ => false
theorem isa_int (a : Dt) : a.isa "int" = (isW a || (match a with | .bl _ => true | _ => false)) := by cases a <;> (unfold Dt.isa; rfl)
theorem isa_bool (a : Dt) : a.isa "bool" = (match a with | .bl _ => true | _ => false) := by cases a <;> (unfold Dt.isa; rfl)
theorem isa_tup (a : Dt) : a.isa "tuple" = isTp a := by cases a <;> (unfold Dt.isa; rfl)
theorem isa_str (a : Dt) : a.isa "str" = isSt a := by cases a <;> (unfold Dt.isa; rfl)
theorem isa_lst (a : Dt) : a.isa "list" = isLs a := by cases a <;> (unfold Dt.isa; rfl)
theorem isa_seq (a : Dt) : (a.isa "list" || a.isa "tuple") = isSeq a := by cases a <;> (unfold Dt.isa; rfl)
theorem isa_int_int (i : Int) : (Dt.int i).isa "int" = true := rfl
theorem isa_int_bool (i : Int) : (Dt.int i).isa "bool" = false := rfl
theorem isa_tup_tup (i : List Dt) : (Dt.tup i).isa "tuple" = true := rfl
theorem isa_bl_bool (i : Bool) : (Dt.bl i).isa "bool" = true := rfl
theorem isa_seq_tup (i : List Dt) : ((Dt.tup i).isa "list" || (Dt.tup i).isa "tuple") = true := rfl
theorem isa_seq_lst (i : List Dt) : ((Dt.lst i).isa "list" || (Dt.lst i).isa "tuple") = true := rfl
theorem isa_seq2 (a : Dt) : (isLs a || isTp a) = isSeq a := by cases a <;> rfl
section
variable {i j : Int} {x y : List Dt} {u v : Str} {Q : Dt → Prop}
theorem dAdd_int : dAdd (.int i) (.int j) Q = Q (.int (i + j)) := rfl
theorem dAdd_lst : dAdd (.lst x) (.lst y) Q = (x.length + y.length ≤ 16777216 ∧ Q (.lst (x ++ y))) := rfl
theorem dAdd_tup : dAdd (.tup x) (.tup y) Q = (x.length + y.length ≤ 16777216 ∧ Q (.tup (x ++ y))) := rfl
theorem dAdd_str : dAdd (.str u) (.str v) Q = (u.length + v.length ≤ 16777216 ∧ Q (.str (u ++ v))) := rfl
theorem dAddL_lst : dAddL (.lst x) (.lst y) Q = (x.length + y.length ≤ 16777216 ∧ Q (.lst (x ++ y))) := rfl
theorem dSub_int : dSub (.int i) (.int j) Q = Q (.int (i - j)) := rfl
theorem dMul_int : dMul (.int i) (.int j) Q = (CMul i j ∧ Q (.int (i * j))) := rfl
theorem dMul_lst : dMul (.lst x) (.int j) Q = ((-(2 ^ 63) ≤ j ∧ j < 2 ^ 63 ∧ x.length * j.toNat ≤ 16777216) ∧ Q (.lst (List.replicate j.toNat x).flatten)) := rfl
theorem dMulL_lst : dMulL (.lst x) (.int j) Q = ((-(2 ^ 63) ≤ j ∧ j < 2 ^ 63 ∧ x.length * j.toNat ≤ 16777216) ∧ Q (.lst (List.replicate j.toNat x).flatten)) := rfl
theorem dMul_tup : dMul (.tup x) (.int j) Q = ((x ≠ [] ∧ -(2 ^ 62) ≤ j ∧ j ≤ 1000 ∧ x.length ≤ 1000) ∧ Q (.tup (List.replicate j.toNat x).flatten)) := rfl
theorem dFdiv_int : dFdiv (.int i) (.int j) Q = (CDiv i j ∧ Q (.int (i / j))) := rfl
theorem dMod_int : dMod (.int i) (.int j) Q = (0 < j ∧ Q (.int (i % j))) := rfl
theorem dPow_int : dPow (.int i) (.int j) Q = (CPow i j ∧ Q (.int (i ^ j.toNat))) := rfl
theorem dShl_int : dShl (.int i) (.int j) Q = (CPow i j ∧ Q (.int (i * 2 ^ j.toNat))) := rfl
theorem dShr_int : dShr (.int i) (.int j) Q = (0 ≤ j ∧ Q (.int (i / 2 ^ j.toNat))) := rfl
theorem dLe_int : dLe (.int i) (.int j) Q = Q (.bl (decide (i ≤ j))) := rfl
theorem dLt_int : dLt (.int i) (.int j) Q = Q (.bl (decide (i < j))) := rfl
theorem dGt_int : dGt (.int i) (.int j) Q = Q (.bl (decide (j < i))) := rfl
theorem dGe_int : dGe (.int i) (.int j) Q = Q (.bl (decide (j ≤ i))) := rfl
theorem dNeg_int : dNeg (.int i) Q = Q (.int (-i)) := rfl
end
theorem isSeq_lst (x : List Dt) : isSeq (.lst x) = true := rfl
theorem isSeq_tup (x : List Dt) : isSeq (.tup x) = true := rfl
theorem isTp_tup (x : List Dt) : isTp (.tup x) = true := rfl
theorem isTp_lst (x : List Dt) : isTp (.lst x) = false := rfl
theorem isLs_lst (x : List Dt) : isLs (.lst x) = true := rfl
theorem isLs_tup (x : List Dt) : isLs (.tup x) = false := rfl
theorem isN_non : Dt.isN .non = true := rfl
theorem isN_int (i : Int) : Dt.isN (.int i) = false := rfl
theorem isN_bl (i : Bool) : Dt.isN (.bl i) = false := rfl
theorem isN_str (i : Str) : Dt.isN (.str i) = false := rfl
theorem isN_tup (i : List Dt) : Dt.isN (.tup i) = false := rfl
theorem isN_lst (i : List Dt) : Dt.isN (.lst i) = false := rfl
theorem isN_dk (i : List Key) (j : List Dt) : Dt.isN (.dk i j) = false := rfl
theorem isN_ins (c : Str) (i : List Str) (j : List Dt) : Dt.isN (.ins c i j) = false := rfl
theorem line0 : ((0 : Nat) ≤ 16777216) = True := eq_true (by decide)
theorem line1 : ((1 : Nat) ≤ 16777216) = True := eq_true (by decide)
theorem line2 : ((2 : Nat) ≤ 16777216) = True := eq_true (by decide)
theorem line3 : ((3 : Nat) ≤ 16777216) = True := eq_true (by decide)
theorem line4 : ((4 : Nat) ≤ 16777216) = True := eq_true (by decide)
theorem line5 : ((5 : Nat) ≤ 16777216) = True := eq_true (by decide)
theorem line6 : ((6 : Nat) ≤ 16777216) = True := eq_true (by decide)
theorem line7 : ((7 : Nat) ≤ 16777216) = True := eq_true (by decide)
theorem line8 : ((8 : Nat) ≤ 16777216) = True := eq_true (by decide)
theorem line9 : ((9 : Nat) ≤ 16777216) = True := eq_true (by decide)
theorem line10 : ((10 : Nat) ≤ 16777216) = True := eq_true (by decide)
theorem line11 : ((11 : Nat) ≤ 16777216) = True := eq_true (by decide)
theorem line12 : ((12 : Nat) ≤ 16777216) = True := eq_true (by decide)
theorem dTru_non {Q : Bool → Prop} : dTru .non Q = Q false := rfl
theorem dTru_bl {b : Bool} {Q : Bool → Prop} : dTru (.bl b) Q = Q b := rfl
theorem dTru_int {i : Int} {Q : Bool → Prop} : dTru (.int i) Q = Q (i != 0) := rfl
theorem dTru_lst {x : List Dt} {Q : Bool → Prop} : dTru (.lst x) Q = Q (!x.isEmpty) := rfl
theorem dTru_tup {x : List Dt} {Q : Bool → Prop} : dTru (.tup x) Q = Q (!x.isEmpty) := rfl
theorem dTru_str {x : Str} {Q : Bool → Prop} : dTru (.str x) Q = (x.length ≤ 16777216 ∧ Q ((x.length : Int) != 0)) := rfl
theorem dTru_dk {x : List Key} {y : List Dt} {Q : Bool → Prop} : dTru (.dk x y) Q = Q (!x.isEmpty) := rfl
theorem isTp_non : isTp .non = false := rfl
theorem isTp_int (i : Int) : isTp (.int i) = false := rfl
theorem isTp_str (i : Str) : isTp (.str i) = false := rfl
theorem isW_int (i : Int) : isW (.int i) = true := rfl
theorem enum_get {xs : List Dt} {i : Nat} {x : Dt} (h : (xs.mapIdx fun i x => Dt.tup [.int (i : Nat), x])[i]? = some x) : ∃ y, xs[i]? = some y ∧ x = .tup [.int (i : Nat), y] := by
  rw [List.getElem?_mapIdx, Option.map_eq_some_iff] at h
  obtain ⟨y, h1, h2⟩ := h
  exact ⟨y, h1, h2.symm⟩
theorem rng_get {n i : Nat} {x : Dt} (h : ((List.range n).map fun i => Dt.int (i : Nat))[i]? = some x) : i < n ∧ x = .int (i : Nat) := by
  rw [List.getElem?_map, Option.map_eq_some_iff] at h
  obtain ⟨y, h1, h2⟩ := h
  obtain ⟨hl, e⟩ := List.getElem?_eq_some_iff.mp h1
  rw [List.length_range] at hl
  rw [List.getElem_range] at e
  exact ⟨hl, by rw [← h2, e]⟩
end Mine

namespace Mine
open PySem PySem.Spec PyProof.Rows L2
/-! ### dicts as tables -/
section
variable {κ : Type} [DecidableEq κ]
theorem putKs_mem {j k : κ} : ∀ {ks : List κ}, k ∈ putKs ks j ↔ k ∈ ks ∨ k = j
  | [] => by simp [putKs]
  | a :: ks => by
    unfold putKs
    by_cases c : a = j
    · rw [if_pos c]
      refine ⟨.inl, fun h => h.elim id fun e => ?_⟩
      rw [e, ← c]; exact List.mem_cons_self
    · rw [if_neg c, List.mem_cons, List.mem_cons, putKs_mem (ks := ks), or_assoc]
theorem putKs_nodup {j : κ} : ∀ {ks : List κ}, ks.Nodup → (putKs ks j).Nodup
  | [], _ => by simp [putKs]
  | a :: ks, h => by
    have h2 := List.nodup_cons.mp h
    unfold putKs
    by_cases c : a = j
    · rw [if_pos c]; exact h
    · rw [if_neg c]
      refine List.nodup_cons.mpr ⟨fun m => ?_, putKs_nodup h2.2⟩
      rcases putKs_mem.mp m with m | m
      · exact h2.1 m
      · exact c m
theorem putKs_len {j : κ} : ∀ {ks : List κ}, (putKs ks j).length ≤ ks.length + 1
  | [] => Nat.le_refl _
  | a :: ks => by
    unfold putKs
    split
    · exact Nat.le_succ _
    · rw [List.length_cons, List.length_cons]; exact Nat.succ_le_succ putKs_len
theorem put_len {j : κ} {y : Dt} : ∀ {ks : List κ} {ds : List Dt}, ks.length = ds.length → (putKs ks j).length = (putVs ks ds j y).length
  | [], [], _ => rfl
  | a :: ks, d :: ds, h => by
    unfold putKs putVs
    split
    · simpa using h
    · rw [List.length_cons, List.length_cons, put_len (by simpa using h)]
theorem valD_put {j k : κ} {y : Dt} : ∀ {ks : List κ} {ds : List Dt}, ks.length = ds.length → valD (putKs ks j) (putVs ks ds j y) k = if k = j then some y else valD ks ds k
  | [], [], _ => by
    show (if j = k then some y else none) = if k = j then some y else none
    by_cases c : k = j
    · rw [if_pos c, if_pos c.symm]
    · rw [if_neg c, if_neg fun e => c e.symm]
  | a :: ks, d :: ds, h => by
    unfold putKs putVs
    by_cases c : a = j
    · rw [if_pos c, if_pos c]
      unfold valD
      by_cases c2 : a = k
      · rw [if_pos c2, if_pos (c2 ▸ c)]
      · rw [if_neg c2, if_neg fun e => c2 (c.trans e.symm), if_neg c2]
    · rw [if_neg c, if_neg c]
      show (if a = k then some d else valD (putKs ks j) (putVs ks ds j y) k) = _
      rw [valD_put (by simpa using h)]
      show _ = if k = j then some y else if a = k then some d else valD ks ds k
      by_cases c2 : a = k
      · rw [if_pos c2, if_pos c2, if_neg fun e => c (c2.trans e)]
      · rw [if_neg c2, if_neg c2]
/-- the dict ks, ds is this table, with at most n keys -/
structure Tb (ks : List κ) (ds : List Dt) (f : κ → Option Dt) (n : Nat) : Prop where
  nd : ks.Nodup
  len : ks.length = ds.length
  few : ks.length ≤ n
  val : ∀ k, valD ks ds k = f k
theorem Tb.nil : Tb ([] : List κ) [] (fun _ => none) 0 := ⟨List.nodup_nil, rfl, Nat.le_refl _, fun _ => rfl⟩
theorem Tb.put {ks : List κ} {ds : List Dt} {f : κ → Option Dt} {n : Nat} (h : Tb ks ds f n) (j : κ) (y : Dt) : Tb (putKs ks j) (putVs ks ds j y) (fun k => if k = j then some y else f k) (n + 1) :=
  ⟨putKs_nodup h.nd, put_len h.len, Nat.le_trans putKs_len (Nat.succ_le_succ h.few), fun k => by rw [valD_put h.len, h.val]⟩
theorem Tb.congr {ks : List κ} {ds : List Dt} {f g : κ → Option Dt} {n m : Nat} (h : Tb ks ds f n) (e : ∀ k, f k = g k) (l : n ≤ m) : Tb ks ds g m := ⟨h.nd, h.len, Nat.le_trans h.few l, fun k => (h.val k).trans (e k)⟩
end
theorem get_dk {ks : List Key} {ds : List Dt} {i : Int} : (Ow.dk ks ds).get (.int i) = some (valD ks ds (.inl i)) := rfl
theorem put_dk {ks : List Key} {ds : List Dt} {i : Int} {y : Dt} : (Ow.dk ks ds).put (.int i) y = some (.dk (putKs ks (.inl i)) (putVs ks ds (.inl i) y)) := rfl
theorem ow_dk {ks : List Key} {ds : List Dt} : (Dt.dk ks ds).ow = some (.dk ks ds) := rfl
theorem keysN_dk {ks : List Key} {ds : List Dt} : (Ow.dk ks ds).keysN = (ks.Nodup ∧ ks.length < 16777216) := rfl
end Mine

namespace Mine
open PySem PySem.Spec PyProof.Rows L2
/-! ### a comprehension of two walks within another's element -/
end Mine

namespace Mine
open PySem PySem.Spec PyProof.Rows L2
/-! ### defs that hand out a list of the caller's own -/
section
variable {C : Bc} {F : DFn} {dvs : List V} {dd : List Sl} {t : TA} {a : DSX}
end
/-- what the last row hands out is new since the entry, and nothing hangs on it -/
structure LnkO (C : Bc) (X : Addr → Prop) (H : Hp) (D : Ends) (d : DEn) : Prop where
  rt : ∀ X' env σ H' p us ds, Rep C X' env σ H' → C.H0 p = none → H' p = some (.lst us) → DenAll C.K (vis H' fun a => C.X0 a ∨ a = p) us ds → d.rt (.lst ds) → D.rt (.ref p) H'
  xc : ∀ X' env σ H' x cls dx, Rep C X' env σ H' → Same (vis H X) (vis H' X') → XRep C.K (vis H' X') cls dx x → d.xc env x → C.E σ cls dx H'
/-- rows with no return, then the last one -/
def sOut (a b : DSt) : DSt := fun d env => a ⟨fun e => b d e, fun _ => False, fun _ => False, fun _ => False, d.xc⟩ env
def sRetO (e : DX) : DSt := fun d env => e env d.rt (d.xc env)
def sRetOwn (i : Nat) : DSt := fun d env => match env[i]? with
  | some (.own (.lst xs)) => d.rt (.lst xs)
  | _ => False
section
variable {C : Bc} {t u : TS} {a b : DSt} {te : TE} {e : DX}
theorem LnkO.step {X X1 : Addr → Prop} {H H1 : Hp} {D : Ends} {d : DEn} (l : LnkO C X H D d) (s : Same (vis H X) (vis H1 X1)) : LnkO C X1 H1 D d where
  rt := l.rt
  xc := fun X' env σ H' x cls dx r k a h => l.xc X' env σ H' x cls dx r (s.trans k) a h
end
theorem sOut_W {a b : DSt} {d : DEn} {env : List Sl} : sOut a b d env = a ⟨fun e => b d e, fun _ => False, fun _ => False, fun _ => False, d.xc⟩ env := rfl
theorem sRetO_W {e : DX} {d : DEn} {env : List Sl} : sRetO e d env = e env d.rt (d.xc env) := rfl
theorem sRetOwn_W {i : Nat} {d : DEn} {env : List Sl} : sRetOwn i d env = (match env[i]? with
  | some (.own (.lst xs)) => d.rt (.lst xs)
  | _ => False) := rfl
end Mine

namespace Mine
open PySem PySem.Spec PyProof.Rows L2
/-! ### calls of one's own defs with keywords: f(a, .., k = v, ..), the keywords behind what lacks -/
section
variable {K : PySem.W.Frag} {x qual : Str} {params : Arguments} {body : List Stmt} {scope : Scope} {dvs : List V} {kws : List (Str × V)} {f : Addr} {fd : FuncData} {ps : List Str}
end
def eCallK (n m : Nat) (F : DFn) (dd ee : List Sl) (a b : DSX) : DX := fun env Q E => a env (fun ss => b env (fun zs => ss.length = n ∧ zs.length = m ∧ F (ss ++ dd ++ zs ++ ee) Q E) E) E
def eCallK0 (n m : Nat) (F : DFn) (dd ee : List Sl) (a b : DSX) : DX := fun env Q E => a env (fun ss => b env (fun zs => ss.length = n ∧ zs.length = m ∧ F (ss ++ dd ++ zs ++ ee) Q fun _ => False) E) E
section
variable {C : Bc} {F : DFn} {dvs evs : List V} {dd ee : List Sl} {t tk : TA} {a b : DSX} {n m : Nat}
end
theorem eCallK_W {n m : Nat} {F : DFn} {dd ee : List Sl} {a b : DSX} {env : List Sl} {Q : Dt → Prop} {E : Xc → Prop} : eCallK n m F dd ee a b env Q E = a env (fun ss => b env (fun zs => ss.length = n ∧ zs.length = m ∧ F (ss ++ dd ++ zs ++ ee) Q E) E) E := rfl
theorem eCallK0_W {n m : Nat} {F : DFn} {dd ee : List Sl} {a b : DSX} {env : List Sl} {Q : Dt → Prop} {E : Xc → Prop} : eCallK0 n m F dd ee a b env Q E = a env (fun ss => b env (fun zs => ss.length = n ∧ zs.length = m ∧ F (ss ++ dd ++ zs ++ ee) Q fun _ => False) E) E := rfl
end Mine

namespace Mine
open PySem PySem.Spec PyProof.Rows L2
/-! ### defs that show things by repr: they want that no repr is under way around them -/
structure FnG (P : Program) (w : World) (K : PySem.W.Frag) (mg : Str → Option Value) (base : Heap) (Z : CXT) (k : Nat) (f : Addr) (fd : FuncData) (ps : List Str) (sp : Sp) : Prop where
  len : ∀ vs H Q E, sp vs H Q E → vs.length = ps.length
  go : ∀ (A : Around) (out : List Env) (s : Shared) (H : Hp) (gs : Args) (us : List Value) (vs : List V) (Q : VK) (E : XK), A.guards = some [] → Room k A → Env0 P w K mg base A out s H → BindsTo s fd gs (ps.zip us) → Vals vs us → sp vs H Q E →
    codeAny (model P w) A (.call (.ref f) gs) (CR Z out P w H s Q E) s
section
variable {P : Program} {w : World} {K : PySem.W.Frag} {mg : Str → Option Value} {base : Heap} {Z : CXT} {j k : Nat} {f : Addr} {fd : FuncData} {ps : List Str} {sp : Sp}
theorem FnG.of (F : FnOk P w K mg base Z k f fd ps sp) : FnG P w K mg base Z k f fd ps sp := ⟨F.len, fun A out s H gs us vs Q E _ => F.run A out s H gs us vs Q E⟩
theorem FnG.mono (F : FnG P w K mg base Z j f fd ps sp) (h : j ≤ k) : FnG P w K mg base Z k f fd ps sp := ⟨F.len, fun A out s H gs us vs Q E hg hr => F.go A out s H gs us vs Q E hg (hr.mono h)⟩
end
/-! their calls -/
section
variable {X : Cx} {Z : CXT} {k : Nat} {f : Addr} {fd : FuncData} {ps : List Str} {sp : Sp} {dvs : List V} {ds : List Value} {E : XK} {x : Str} {p pos : Pos} {e : Expr} {es : List Expr} {t : TA}
theorem run_fnG {pins : List (Addr × Obj)} {σ : L2.St} {H : Hp} {s : Shared} {Q : VK} {us : List Value} {vs : List V} (F : FnG X.prog X.w X.K X.mg X.base Z k f fd ps sp) (gu : X.A.guards = some []) (hr : Room k X.A) (hb : Binds X.K fd ps ds) (hd : Vals dvs ds) (hx : Passes Z X E)
    (I : Inv X pins σ H s) (r : Vals vs us) (h : sp (vs ++ dvs) H Q E) : wpAny (model X.prog X.w) X.A (call (.ref f) us) (EP X pins σ Q) X.xe s := by
  have all : Vals (vs ++ dvs) (us ++ ds) := r.append hd
  have many : (us ++ ds).length = ps.length := all.length.symm.trans (F.len _ _ _ _ h)
  have run := F.go X.A X.stack s H ⟨us, []⟩ (us ++ ds) (vs ++ dvs) Q E gu hr I.env0 (hb s us I.kIn many) all h
  refine wpAny_call (codeAny_mono run fun r s' hq => ?_)
  match r, hq with
  | .error e, hq => exact hx pins σ H s e s' I hq
  | .ok (.ret u), hq => exact I.after hq
  | .ok .next, hq => exact hq.elim
  | .ok .brk, hq => exact hq.elim
  | .ok .cont, hq => exact hq.elim
theorem pe_callG (F : FnG X.prog X.w X.K X.mg X.base Z k f fd ps sp) (gu : X.A.guards = some []) (hr : Room k X.A) (hg : Gl X x) (hm : X.mg x = some (.ref f)) (hk : PySem.W.keepIn X.K (.ref f) = true) (hb : Binds X.K fd ps ds) (hd : Vals dvs ds) (hx : Passes Z X E)
    (ha : PA X (e :: es) t) (dbg : (x == ("__debug__" : Str)) = false := by decide) (st : starEach (e :: es) X.env = (false, eval e X.env) :: starEach es X.env := by rfl) (pl : (backTo pos (starEach es X.env)).any (·.1) = false := by rfl) :
    PE X (.Call (.Name x p) (e :: es) [] pos) (tCall sp dvs E t) :=
  ⟨fun pins s σ H Q I h => wpAny_Call_Name_kw (ld_glob I hg hm (PySem.W.callWith_K (h₀ := X.base) I.ok.mod.kin hk
    (thn (ha.run pos pins s σ H _ I h) fun us s1 ⟨vs, H1, I1, r, q⟩ => ⟨I1.kIn, run_fnG F gu hr hb hd hx I1 r q⟩) st pl) dbg)⟩
end
/-! such a def by its body -/
theorem fnG_of {Z : CXT} {P : Program} {w : World} {K : PySem.W.Frag} {mg : Str → Option Value} {base : Heap} {k : Nat} {f : Addr} {name qual : Str} {params : Arguments} {body : List Stmt} {scope : Scope} {dV kV doc pm cdv ct oc : Value} {an od : Option Addr} {osl : Array (Option Value)}
    {N ps : List Str} {sp : Sp} (lk : K.lookup f = some ⟨oc, od, .func (PySem.W.fnOf name qual params body scope dV kV doc pm an cdv ct), osl⟩) (code : PySem.W.codeIn K cdv qual = true) (S : FnScope N ps scope)
    (len : ∀ vs H Q E, sp vs H Q E → vs.length = ps.length)
    (hb : ∀ (A : Around) (out : List Env) (s : Shared) (H : Hp) (vs : List V) (Q : VK) (E : XK), A.guards = some [] → Room k (A.deeper (envOfC qual scope s.heap.objs.size f cdv)) → sp vs H Q E →
      ∃ t, PSs (cxOf Z P w K mg base N qual scope f cdv A out s H E) body t ∧ t { nx := fun _ H' => Q .non H', rt := Q } (L2.start N vs) H) :
    FnG P w K mg base Z (k + 1) f (PySem.W.fnOf name qual params body scope dV kV doc pm an cdv ct) ps sp := by
  refine ⟨len, fun A out s H gs us vs Q E gu hr env bnd r h => ?_⟩
  have there : ∀ b o, base.get? b = some o → s.heap.get? b = some o := fun b o e => (env.bs b o e).1
  have kin := env.mod.kin.keeps there
  have kinds : ∀ z ∈ ps.zip us, scope.names.lookup z.1 = some .local ∨ (scope.names.lookup z.1 = some .cell ∧ ((cellsFrom (s.heap.objs.size + 1) scope.names []).lookup z.1).isSome = true) := fun z hz =>
    (S.par z.1 (List.of_mem_zip (a := z.1) (b := z.2) hz).1).imp id fun q => ⟨q, PySem.W.cellsFrom_some _ _ _ (.inl q)⟩
  refine codeAny_call_function hr.depth (kin _ _ lk) rfl S.co S.gen rfl (PySem.W.codeRec_of kin code) (bnd _ _ _ _ (wpAny_newFunctionEnv_cells S.kind kinds fun env2 e2 s1 x => ?_))
  subst e2
  refine ⟨(env.mod.nolimit.keeps there).keeps x.toInCall.keep, codeAny_func ?_⟩
  obtain ⟨t, ps1, run⟩ := hb A out s H vs Q E gu (hr.deeper _) h
  have I : Inv (cxOf Z P w K mg base N qual scope f cdv A out s H E) [] (L2.start N vs) H s1 := inv_start S hr.hd env (len _ _ _ _ h) r x
  refine wpAny_mono (ps1.run [] s1 (L2.start N vs) H _ I run) (fun fl s' hs => ?_) fun _ _ hs => hs
  match fl, hs with
  | .ret u, ⟨v, σ', H', J, rv, q⟩ => exact ⟨v, H', J.os, J.bare, J.base, J.hok, rv, q⟩
  | .next, ⟨σ', H', J, q⟩ => exact ⟨.non, H', J.os, J.bare, J.base, J.hok, rfl, q⟩
  | .brk, ⟨_, _, _, q⟩ => exact False.elim q
  | .cont, ⟨_, _, _, q⟩ => exact False.elim q
theorem funD_okG {P : Program} {w : World} {K : PySem.W.Frag} {mg : Str → Option Value} {base : Heap} {x qual : Str} {params : Arguments} {body : List Stmt} {scope : Scope} {dvs : List V} {kws : List (Str × V)} {f : Addr} {fd : FuncData} {Z : CXT} {N ps : List Str} {k : Nat} {sp : Sp}
    (F : FunD K x qual params body scope dvs kws f fd) (S : FnScope N ps scope) (len : ∀ vs H Q E, sp vs H Q E → vs.length = ps.length)
    (hb : ∀ (cdv : Value) (A : Around) (out : List Env) (s : Shared) (H : Hp) (vs : List V) (Q : VK) (E : XK), A.guards = some [] → Room k (A.deeper (envOfC qual scope s.heap.objs.size f cdv)) → sp vs H Q E →
      ∃ t, PSs (cxOf Z P w K mg base N qual scope f cdv A out s H E) body t ∧ t { nx := fun _ H' => Q .non H', rt := Q } (L2.start N vs) H) : FnG P w K mg base Z (k + 1) f fd ps sp := by
  obtain ⟨_, _, _, _, _, _, _, cdv, _, _, rfl, lk, code, _, _⟩ := F.ex
  exact fnG_of lk code S len fun A out s H vs Q E gu hr h => hb cdv A out s H vs Q E gu hr h
/-! ### the head over such a promise -/
section
variable {P : Program} {w : World} {K : PySem.W.Frag} {mg mb : Str → Option Value} {Z : CXT} {k : Nat} {fa a : Addr} {fd : FuncData} {x : Str} {sp : Sp} {s₁ : Shared} {vs : List Value} {ns : List Int}
/-- from an abstract heap in which nothing but the script may be tracked -/
theorem law_coreG {H : Hp} (KX : K.In s₁.heap) (hns : s₁.heap.Ns mainGlobals mg) (hb : s₁.heap.Ns builtinsNs mb) (hbb : ∀ x : Str, x ≠ "__name__" → mb x = bootBuiltins x) (hlim : s₁.heap.NoLimit) (hg : s₁.gens = #[]) {o : Obj}
    (ha : s₁.heap.get? a = some o) (hod : ∀ es ep, o.data ≠ .dict es ep) (hr : Room k callerA) (F : ∀ base : Heap, K.In base → base.Ns mainGlobals mg → FnG P w K mg base Z k fa fd [x] sp) (hbind : ∀ (s : Shared) (u : Value), BindsTo s fd ⟨[u], []⟩ [(x, u)])
    (hsp : sp [.ref a] H (fun v _ => v = .bl true) fun _ _ _ => False) (hZ : ∀ e s', Z [] H s₁ (fun _ _ _ => False) e s' → False) (hO : Only H) (hok : HOk P w H s₁.heap) (hA : ∀ b, H b ≠ none → b = a) (hK : H a ≠ none → K.lookup a = none) :
    codeAny (model P w) callerA (.call (.ref fa) ⟨[.ref a], []⟩) (fun r s' => r = .ok (.ret (.bool true)) ∧ OldK s₁.heap s'.heap ∧ s'.os = s₁.os ∧ AllBare s'.gens) s₁ := by
  have at_a : ∀ {b : Addr} {u : HO}, H b = some u → b = a := fun {b u} q => hA b (q ▸ Option.some_ne_none u)
  have plain : ∀ {b : Addr} {ob : Obj} {es : Array DictEntry} {ep : Nat}, s₁.heap.get? b = some ob → ob.data = .dict es ep → H b = none := fun {b ob es ep} e d => by
    rcases q : H b with _ | u
    · rfl
    · cases at_a q
      cases ha.symm.trans e
      exact absurd d (hod es ep)
  have ns : ∀ {b : Addr} {m : Str → Option Value}, s₁.heap.Ns b m → (hidT s₁.heap H).Ns b m := fun {b m} ⟨ob, es, ep, e, d, r⟩ => ⟨ob, es, ep, hidT_get e (plain e d), d, r⟩
  have kb : K.In (hidT s₁.heap H) := fun b ob e => hidT_get (KX b ob e) (by
    rcases q : H b with _ | u
    · rfl
    · cases at_a q
      rw [hK (q ▸ Option.some_ne_none u)] at e
      cases e)
  obtain ⟨mc, l1, l2⟩ := hlim
  have env : Env0 P w K mg (hidT s₁.heap H) callerA [] s₁ H := ⟨rfl, ⟨kb, ns hns, ⟨mb, ns hb, hbb⟩, ⟨mc, ns l1, l2⟩⟩, fun b ob e => of_hidT e, Nat.le_of_eq (hidT_size _ _), trivial, fun b z => (nomatch z), hok, .of_eq hg⟩
  refine codeAny_mono ((F _ kb (ns hns)).go callerA [] s₁ H ⟨[.ref a], []⟩ [.ref a] [.ref a] _ _ rfl hr env (hbind s₁ (.ref a)) (.cons rfl .nil) hsp) fun r s' h => ?_
  match r, h with
  | .error e, h => exact (hZ e s' h).elim
  | .ok .next, h => exact h.elim
  | .ok .brk, h => exact h.elim
  | .ok .cont, h => exact h.elim
  | .ok (.ret u), ⟨v, H', os, bare, un, hok', rv, q⟩ =>
    obtain rfl : v = .bl true := q
    obtain rfl : u = Value.bool true := rv
    refine ⟨rfl, OldK.of_keep fun b ob e => ?_, os, bare⟩
    rcases q : H b with _ | u
    · exact un.keep b ob e q (fun z => nomatch z) (fun z => nomatch z)
    · rcases hO b with z | ⟨o2, xs, z⟩
      · cases z.symm.trans q
      · have e1 := (hok b _ z).1
        have e2 := (hok' b _ (un.frzs b o2 _ z)).1
        cases e1.symm.trans e
        exact e2
theorem law_callG (KX : K.In s₁.heap) (hns : s₁.heap.Ns mainGlobals mg) (hb : s₁.heap.Ns builtinsNs mb) (hbb : ∀ x : Str, x ≠ "__name__" → mb x = bootBuiltins x) (hlim : s₁.heap.NoLimit) (hg : s₁.gens = #[])
    (ha : s₁.heap.get? a = some { cls := .type "list", data := .seq vs.toArray }) (hi : IntsAre vs ns) (hl : ns.length ≤ sizeLine) (hr : Room k callerA) (F : ∀ base : Heap, K.In base → base.Ns mainGlobals mg → FnG P w K mg base Z k fa fd [x] sp)
    (hbind : ∀ (s : Shared) (u : Value), BindsTo s fd ⟨[u], []⟩ [(x, u)]) (hsp : ∀ H : Hp, Only H → SqL K H a (ns.map V.int) → sp [.ref a] H (fun v _ => v = .bl true) fun _ _ _ => False)
    (hZ : ∀ H e s', Z [] H s₁ (fun _ _ _ => False) e s' → False) :
    codeAny (model P w) callerA (.call (.ref fa) ⟨[.ref a], []⟩) (fun r s' => r = .ok (.ret (.bool true)) ∧ OldK s₁.heap s'.heap ∧ s'.os = s₁.os ∧ AllBare s'.gens) s₁ := by
  have rv := vals_ints hi
  have nd : ∀ (es : Array DictEntry) (ep : Nat), ({ cls := .type "list", data := .seq vs.toArray } : Obj).data ≠ .dict es ep := fun _ _ => nofun
  rcases hk : K.lookup a with _ | o
  · let O : HO := .frz { cls := .type "list", data := .seq vs.toArray } (.lst (ns.map V.int))
    have e1 : (fun b => if b = a then some O else none : Hp) a = some O := if_pos rfl
    have e2 : ∀ b, b ≠ a → (fun b => if b = a then some O else none : Hp) b = none := fun b h => if_neg h
    generalize (fun b => if b = a then some O else none : Hp) = H at e1 e2
    have only : Only H := fun b => by
      by_cases h : b = a
      · subst h; exact .inr ⟨_, _, e1⟩
      · exact .inl (e2 b h)
    refine law_coreG KX hns hb hbb hlim hg ha nd hr F hbind (hsp H only (.inl (.inr ⟨_, e1⟩))) (hZ H) only (fun b u z => ?_) (fun b z => ?_) fun _ => hk
    · by_cases h : b = a
      · subst h
        cases e1.symm.trans z
        exact ⟨ha, by rw [List.length_map]; exact hl, vs, _, rv, ha⟩
      · cases (e2 b h).symm.trans z
    · by_cases h : b = a
      · exact h
      · exact absurd (e2 b h) z
  · have e := KX a o hk
    rw [ha] at e
    cases e
    have len := hi.length
    refine law_coreG (H := fun _ => none) KX hns hb hbb hlim hg ha nd hr F hbind (hsp _ (fun _ => .inl rfl) (.inr ⟨_, vs.toArray, _, hk, rfl, rfl, rfl, by rw [List.size_toArray, len]; exact hl, by simpa using rv⟩)) (hZ _) (fun _ => .inl rfl) (fun b u z => nomatch z) (fun b z => absurd rfl z) fun z => absurd rfl z
end
theorem walk_ofG {l : PySem.W.OpenLaw} {n k : Nat} {q : Program} {loose : List Str} {XP : (Str → Option Value) → Heap → Prop} {YP : World → Heap → Prop} {d : DefRec} {Z : CXT} {x : Str} (hn : l.most = some n) (hn2 : n ≤ sizeLine) (hdf : d.params.defaults = []) (hr : Room k callerA)
    (F : ∀ (w : World) (mg : Str → Option Value) (fa : Addr) (h : Heap), YP w h → h.Ns mainGlobals mg → mg d.name = some (.ref fa) →
      ∃ (K : PySem.W.Frag) (fd : FuncData) (sp : Sp), K.In h ∧ (∀ (s : Shared) (u : Value), BindsTo s fd ⟨[u], []⟩ [(x, u)]) ∧ (∀ (H : Hp) (a : Addr) (ns : List Int), ns.length ≤ n → Only H → SqL K H a (ns.map V.int) → sp [.ref a] H (fun v _ => v = .bl true) fun _ _ _ => False) ∧
        ∀ base : Heap, K.In base → base.Ns mainGlobals mg → FnG l.prog w K mg base Z k fa fd [x] sp)
    (hZ : ∀ (H : Hp) (s : Shared) (e : Value) (s' : Shared), Z [] H s (fun _ _ _ => False) e s' → False) : PySem.W.WalkO q loose XP YP l.row.toRowW d [] (fun f vs => PySem.call f vs) :=
  Att.attach_call hn hdf fun w s₀ s₁ mg mb fa o pm cd doc a vs ns G Y ho hd hcd hmg hobj hints hlen hg => by
    obtain ⟨K, fd, sp, KX, hb, hsp, hF⟩ := F w mg fa _ Y G.T.g hmg
    exact law_callG KX G.T.g G.T.b G.T.builtins G.T.nolimit hg hobj hints (Nat.le_trans hlen hn2) hr hF hb (fun H hO hS => hsp H a ns hlen hO hS) fun H e s' => hZ H s₁ e s'
/-! ### repr -/
def rReprG (K : PySem.W.Frag) : List V → Hp → VK → Prop := fun xs H Q => ∃ x d, xs = [x] ∧ Dp K H x d ∧ d.showable = true ∧ d.hasDict = false ∧ d.depth ≤ 60 ∧ d.shown.length ≤ sizeLine ∧ Q (.str d.shown) H
theorem call_reprG {X : Cx} {K : PySem.W.Frag} (e : X.K = K) (gu : X.A.guards = some []) (hu : X.A.units + 64 < cLine) : CallR X (.builtin "repr") (rReprG K) := by
  subst e
  intro pins s σ H xs us Q I r h
  obtain ⟨x, d, rfl, hd, sh, nd, dp, sz, q⟩ := h
  obtain ⟨u, rfl, rx⟩ := vals1 r
  obtain ⟨as, rd⟩ := Dp.reads I d x u hd rx
  have big : ∀ a, u = .ref a → wpAny (model X.prog X.w) X.A (call (.builtin "repr") [u]) (EP X pins σ Q) X.xe s := fun a e => by
    subst e
    exact repr_of_reads' rd sh (PyData.noDict_hsm nd) gu (by omega) (fun _ _ e => e) (fun h' u tk hk => ⟨.str _, H, I.kept hk, ⟨_, rfl⟩, q⟩) sz
  cases rd with
  | none => exact PySem.P.repr_of_none ⟨.str _, H, I.tok _, ⟨_, rfl⟩, by simpa only [PyData.shown] using q⟩
  | bool b => exact PySem.P.repr_of_bool ⟨.str _, H, I.tok _, ⟨_, rfl⟩, by simpa only [PyData.shown] using q⟩
  | int i t => exact PySem.P.repr_of_int (by simpa [PyData.showable] using sh) ⟨.str _, H, I.tok _, ⟨_, rfl⟩, by simpa only [PyData.shown] using q⟩
  | str z t => exact PySem.P.repr_of_str ⟨.str _, H, I.tok _, ⟨_, rfl⟩, by simpa only [PyData.shown] using q⟩ (by simpa only [PyData.shown] using sz)
  | _ => exact big _ rfl
/-- the text of data -/
def shownD (a : Dt) : Str := match a.py with
  | some p => p.shown
  | none => ""
def Shw (a : Dt) : Prop := ∃ p, a.py = some p ∧ p.showable = true ∧ p.hasDict = false ∧ p.depth ≤ 60 ∧ p.shown.length ≤ sizeLine
def dRepr : DL := fun ds Q => match ds with
  | [a] => Shw a ∧ Q (.str (shownD a))
  | _ => False
theorem cg_repr {C : Bc} : CallG Cln C (rReprG C.K) dRepr := by
  intro X env σ H vs ds Q Qd rpr ra he q
  unfold dRepr at he
  split at he
  · obtain ⟨v, rfl, r1⟩ := ra.one
    obtain ⟨⟨p, e, sh, nd, dp, sz⟩, he⟩ := he
    refine ⟨v, p, rfl, r1.dp e, sh, nd, dp, sz, ?_⟩
    unfold shownD at he
    rw [e] at he
    exact q _ _ H (.refl H) (.str _) he
  · exact he.elim
theorem dRepr_W {a : Dt} {Q : Dt → Prop} : dRepr [a] Q = (Shw a ∧ Q (.str (shownD a))) := rfl
end Mine

namespace Mine
open PySem PySem.Spec PyProof.Rows L2
/-! ### a list of one's own read by a call within a test, within what is put behind it: it stays one's own -/
def sIfK (i : Nat) (ec : DTX) (a b : DSt) : DSt := fun d env => match env[i]? with
  | some (.own _) => ec (frz env i) (fun k => if k = true then a d env else b d env) (d.xc (frz env i))
  | _ => False
theorem sIfK_W {i : Nat} {ec : DTX} {a b : DSt} {d : DEn} {env : List Sl} : sIfK i ec a b d env = (match env[i]? with
  | some (.own _) => ec (frz env i) (fun k => if k = true then a d env else b d env) (d.xc (frz env i))
  | _ => False) := rfl
/-- xs.append(e), xs read whole within e, e a whole number -/
def sAppK (i : Nat) (e : DX) : DSt := fun d env => match env[i]? with
  | some (.own (.lst xs)) => e (frz env i) (fun y => (∃ z, y = .int z) ∧ xs.length < 16777216 ∧ d.nx (env.set i (.own (.lst (xs ++ [y]))))) (d.xc (frz env i))
  | _ => False
theorem sAppK_W {i : Nat} {e : DX} {d : DEn} {env : List Sl} : sAppK i e d env = (match env[i]? with
  | some (.own (.lst xs)) => e (frz env i) (fun y => (∃ z, y = .int z) ∧ xs.length < 16777216 ∧ d.nx (env.set i (.own (.lst (xs ++ [y]))))) (d.xc (frz env i))
  | _ => False) := rfl
end Mine

namespace Mine
open PySem PySem.Spec PyProof.Rows L2
/-! ### x.pop(k), k a place of the list -/
theorem DenAll.eraseIdx {K : PySem.W.Frag} {H : Hp} {vs : List V} {ds : List Dt} (h : DenAll K H vs ds) (k : Nat) : DenAll K H (vs.eraseIdx k) (ds.eraseIdx k) := by
  rw [List.eraseIdx_eq_take_drop_succ, List.eraseIdx_eq_take_drop_succ]
  exact (h.take k).append (h.drop (k + 1))
/-- x.pop(e) -/
def sPopAt (i : Nat) (e : DX) : DSt := fun d env => match env[i]? with
  | some (.own (.lst xs)) => e env (fun y => ∃ j : Nat, y = .int j ∧ j < xs.length ∧ xs.length ≤ LINE ∧ d.nx (env.set i (.own (.lst (xs.eraseIdx j))))) (d.xc env)
  | _ => False
theorem sPopAt_W {i : Nat} {e : DX} {d : DEn} {env : List Sl} : sPopAt i e d env = (match env[i]? with
  | some (.own (.lst xs)) => e env (fun y => ∃ j : Nat, y = .int j ∧ j < xs.length ∧ xs.length ≤ LINE ∧ d.nx (env.set i (.own (.lst (xs.eraseIdx j))))) (d.xc env)
  | _ => False) := rfl
/-- y = x.pop(e) -/
def sPopToAt (i j : Nat) (e : DX) : DSt := fun d env => match env[i]? with
  | some (.own (.lst xs)) => e env (fun y => ∃ k : Nat, ∃ w, y = .int k ∧ xs[k]? = some w ∧ xs.length ≤ LINE ∧ d.nx ((env.set i (.own (.lst (xs.eraseIdx k)))).set j (.d w))) (d.xc env)
  | _ => False
theorem sPopToAt_W {i j : Nat} {e : DX} {d : DEn} {env : List Sl} : sPopToAt i j e d env = (match env[i]? with
  | some (.own (.lst xs)) => e env (fun y => ∃ k : Nat, ∃ w, y = .int k ∧ xs[k]? = some w ∧ xs.length ≤ LINE ∧ d.nx ((env.set i (.own (.lst (xs.eraseIdx k)))).set j (.d w))) (d.xc env)
  | _ => False) := rfl
theorem seqIx_nat {j n : Nat} (h : j < n) : seqIndex? (j : Int) n = some j := by
  unfold seqIndex?
  first | (simp; omega) | (split <;> simp_all <;> omega)
section
variable {C : Bc} {te : TE} {e : DX} {i : Nat}
end
/-! ### calls with keywords, the keywords in the contrary order -/
section
variable {K : PySem.W.Frag} {x qual : Str} {params : Arguments} {body : List Stmt} {scope : Scope} {dvs : List V} {kws : List (Str × V)} {f : Addr} {fd : FuncData} {ps : List Str}
end
def eCallKR0 (n m : Nat) (F : DFn) (dd ee : List Sl) (a b : DSX) : DX := fun env Q E => a env (fun ss => b env (fun zs => ss.length = n ∧ zs.length = m ∧ F (ss ++ dd ++ zs.reverse ++ ee) Q fun _ => False) E) E
section
variable {C : Bc} {F : DFn} {dvs evs : List V} {dd ee : List Sl} {t tk : TA} {a b : DSX} {n m : Nat}
end
theorem eCallKR0_W {n m : Nat} {F : DFn} {dd ee : List Sl} {a b : DSX} {env : List Sl} {Q : Dt → Prop} {E : Xc → Prop} : eCallKR0 n m F dd ee a b env Q E = a env (fun ss => b env (fun zs => ss.length = n ∧ zs.length = m ∧ F (ss ++ dd ++ zs.reverse ++ ee) Q fun _ => False) E) E := rfl
end Mine

namespace Mine
open PySem PySem.Spec PyProof.Rows L2
/-! ### sets of whole numbers of one's own: s = set(), s.add(e), e in s -/
section
variable {X : Cx}
theorem setI_get {pins : List (Addr × Obj)} {σ : L2.St} {H : Hp} {s : Shared} {a : Addr} {S : Int → Bool} {n : Nat} (I : Inv X pins σ H s) (ha : H a = some (.set S n)) : s.heap.SetOf (intKind X.prog X.w) a S n := I.hok a _ ha
theorem int_scan {i : Int} {u : Value} (r : RelV (.int i) u) : u.scannable = true := by
  obtain ⟨t, rfl⟩ := r
  rfl
theorem int_is {X : Cx} {i : Int} {u : Value} (r : RelV (.int i) u) : (intKind X.prog X.w).is i u = true := by
  obtain ⟨t, rfl⟩ := r
  unfold PySem.intKind
  simp [PySem.Value.isInt]
def rSet0I : List V → Hp → VK → Prop := fun xs H Q => xs = [] ∧ ∀ p, H p = none → Q (.ref p) (upd H p (.set (fun _ => false) 0))
theorem cr_set0I : CallR X (.type "set") rSet0I := by
  intro pins s σ H xs us Q I r h
  obtain ⟨rfl, q⟩ := h
  cases r
  refine setR_new fun _ => ?_
  have new : (s.heap.push { cls := .type "set", dict := none, data := .set #[] 0 (.fresh 0 0 (!X.w.params.followText "set-order")) }).SetOf (intKind X.prog X.w) s.heap.objs.size (fun _ => false) 0 :=
    ⟨_, #[], 0, _, Heap.get?_push_size _ rfl, ⟨rfl, rfl, rfl⟩, rfl, (fun e he => by simp at he), (fun k => by simp), (by decide), (by rfl), rfl⟩
  exact ⟨.ref _, upd H s.heap.objs.size (.set (fun _ => false) 0), I.laid (t' := s.toks) (fun b u e => Heap.get?_push_of_some _ e) (Nat.le_refl _) new, rfl, q _ (I.hok.fresh (Nat.le_refl _))⟩
def rSAddI : V → List V → Hp → VK → Prop := fun x xs H Q => ∃ (a : Addr) (k : Int) (S : Int → Bool) (n : Nat), x = V.ref a ∧ xs = [.int k] ∧ H a = some (.set S n) ∧ n + 1 < scanBound ∧
  Q .non (upd H a (.set (fun j => S j || decide (j = k)) (if S k = true then n else n + 1)))
theorem mt_saddI : MtM X "set.add" rSAddI := by
  intro pins s σ H x xs v us Q I rx rxs h
  obtain ⟨a, k, S, n, rfl, rfl, ha, room, q⟩ := h
  cases rx
  obtain ⟨u, rfl, ry⟩ := rxs.one
  refine call_set_add (int_is ry) (int_scan ry) (setI_get I ha) room fun h' sb new => ?_
  have he : ∃ u, h'.get? a = some u := by
    have ⟨o, _, _, _, ho, _⟩ := new
    exact ⟨o, ho⟩
  exact ⟨.non, upd H a (.set (fun j => S j || decide (j = k)) (if S k = true then n else n + 1)), I.write (e := a) (t' := s.toks + 1) (by rw [ha]; trivial) (.inl rfl) (fun b u hb hu => (sb.2 b hb).trans hu) he new, rfl, q⟩
def rSInI (neg : Bool) : V → V → Hp → VK → Prop := fun x y H Q => ∃ (k : Int) (a : Addr) (S : Int → Bool) (n : Nat), x = .int k ∧ y = V.ref a ∧ H a = some (.set S n) ∧ Q (.bl (if neg then !S k else S k)) H
theorem or_sinI : OpR X (compareOp .In) (rSInI false) := by
  intro pins s σ H x y v u Q I rx ry h
  obtain ⟨k, a, S, n, rfl, rfl, ha, q⟩ := h
  cases ry
  exact wpAny_inSet_of (int_is rx) (int_scan rx) (setI_get I ha) ⟨.bl (S k), H, I.tok _, rfl, q⟩
end
section
variable {C : Bc} {X : Addr → Prop} {env : List Sl} {σ : L2.St} {H : Hp}
theorem Rep.stAt (r : Rep C X env σ H) {i : Nat} {S : Int → Bool} {n : Nat} (e : env[i]? = some (.st S n)) : ∃ p, σ[i]? = some (some (.ref p)) ∧ X p ∧ ¬ C.X0 p ∧ H p = some (.set S n) := by
  obtain ⟨o, es, p, rfl, x1, x2, h⟩ := r.slot i _ e
  exact ⟨p, es, x1, x2, h⟩
theorem Rep.setSt {H1 : Hp} {p : Addr} {S : Int → Bool} {m : Nat} (r : Rep C X env σ H) (f : Frm C.hd H H1) (n : H p = none) (j : Nat) (h1 : H1 p = some (.set S m)) :
    Rep C (fun a => X a ∨ a = p) (env.set j (.st S m)) (σ.set j (some (.ref p))) H1 := by
  have r0 := r.hide n f ⟨_, h1⟩
  refine ⟨by rw [List.length_set, List.length_set, r.len], r0.sup, r0.new, r0.al, r0.frm, r0.hands, fun i s e => ?_, r.ap.setF fun i t u a ne e1 e2 f1 f2 => ?_, r0.one.set fun _ _ _ z => by cases z⟩
  · rw [List.getElem?_set] at e ⊢
    by_cases c : j = i
    · subst c
      rw [if_pos rfl] at e ⊢
      by_cases hl : j < env.length
      · rw [if_pos hl] at e
        rw [if_pos (r.len ▸ hl)]
        cases e
        refine ⟨_, rfl, p, rfl, .inr rfl, fun z => ?_, h1⟩
        obtain ⟨o, e⟩ := r.al p (r.sup p z)
        rw [n] at e; cases e
      · rw [if_neg hl] at e; cases e
    · rw [if_neg c] at e ⊢
      exact r0.slot i s e
  · have : a = p := by injection f1 with f1; injection f1 with f1; exact f1.symm
    subst this
    exact r.nofoot n i t u e1 e2 f2
theorem Rep.stUpd {i : Nat} {p : Addr} {S S' : Int → Bool} {m m' : Nat} (r : Rep C X env σ H) (e : env[i]? = some (.st S m)) (es : σ[i]? = some (some (.ref p))) (x1 : X p) (x2 : ¬ C.X0 p) (hp : H p = some (.set S m)) :
    Rep C X (env.set i (.st S' m')) σ (upd H p (.set S' m')) ∧ Same (vis H X) (vis (upd H p (.set S' m')) X) := by
  have sm : Same (vis H X) (vis (upd H p (.set S' m')) X) := fun a o q => by
    obtain ⟨n1, e1⟩ := vis_of q
    exact vis_mk n1 (by rw [upd_ne (fun (z : a = p) => n1 (by rw [z]; exact x1))]; exact e1)
  have h0 : C.H0 p = none := (r.new p x1).resolve_left x2
  have fm : Frm C.hd C.H0 (upd H p (.set S' m')) := by
    refine ⟨fun a u q k => ?_, fun h c q x => ?_⟩
    · rw [upd_ne (ne_of_none q h0)]; exact r.frm.1 a u q k
    · have y := r.frm.2 h c q x
      obtain ⟨_, _, _, _, a1, a2, _⟩ := x
      obtain ⟨cells, at_, big, mix, b1, b2, b3⟩ := y
      exact ⟨cells, at_, big, mix, by rw [upd_ne (ne_of_none a1 h0)]; exact b1, by rw [upd_ne (ne_of_none a2 h0)]; exact b2, b3⟩
  refine ⟨⟨by rw [List.length_set, r.len], r.sup, r.new, fun a z => ?_, fm, fun h c q => ⟨(r.hands h c q).1, (r.hands h c q).2.1, fm.2 h c q (r.hands h c q).2.1⟩, fun j s q => ?_, r.ap.setS fun o a e1 f => ⟨_, e, f⟩, r.one.set fun _ _ _ z => by cases z⟩, sm⟩
  · by_cases c : a = p
    · subst c; exact ⟨_, upd_same⟩
    · obtain ⟨o, q⟩ := r.al a z
      exact ⟨o, by rw [upd_ne c]; exact q⟩
  · rw [List.getElem?_set] at q
    by_cases c : i = j
    · subst c
      have hl : i < env.length := (List.getElem?_eq_some_iff.mp e).1
      rw [if_pos rfl, if_pos hl] at q
      cases q
      exact ⟨_, es, p, rfl, x1, x2, upd_same⟩
    · rw [if_neg c] at q
      obtain ⟨o, e1, w⟩ := r.slot j s q
      refine ⟨o, e1, ?_⟩
      have no : ¬ Foot s o p := r.ap i j _ _ _ _ p c e q es e1 rfl
      cases s with
      | no => trivial
      | d x => obtain ⟨v, e2, h⟩ := w; exact ⟨v, e2, h.mono sm⟩
      | own ys =>
        obtain ⟨p', us, rfl, y1, y2, y3, y4⟩ := w
        have ne : p' ≠ p := fun z => no (by rw [z]; rfl)
        exact ⟨p', us, rfl, y1, y2, by rw [upd_ne ne]; exact y3, y4.mono sm⟩
      | hand => exact w
      | exc c' fs => exact w.exc sm
      | ins C0 ns ds =>
        obtain ⟨p', dx, us, rfl, y1, y2, y3, yl, y4⟩ := w
        have ne : p' ≠ p := fun z => by rw [z, hp] at y3; cases y3
        exact ⟨p', dx, us, rfl, y1, y2, by rw [upd_ne ne]; exact y3, yl, y4.mono sm⟩
      | tab p2 qs rows => exact w.tab_to (fun _ _ x => x) (fun a ha u h => by rw [upd_ne (show a ≠ p from fun z => no (show p ∈ p2 :: qs from z ▸ ha))]; exact h) sm
      | st S2 n2 =>
        obtain ⟨p', rfl, y1, y2, y3⟩ := w
        have ne : p' ≠ p := fun z => no (by rw [z]; rfl)
        exact ⟨p', rfl, y1, y2, by rw [upd_ne ne]; exact y3⟩
end
/-- s = set() -/
def sSet0 (j : Nat) : DSt := fun d env => d.nx (env.set j (.st (fun _ => false) 0))
/-- s.add(e), e a whole number -/
def sSetAdd (i : Nat) (e : DX) : DSt := fun d env => match env[i]? with
  | some (.st S n) => e env (fun y => ∃ k, y = .int k ∧ n + 1 < 4000 ∧ d.nx (env.set i (.st (fun j => S j || decide (j = k)) (if S k = true then n else n + 1)))) (d.xc env)
  | _ => False
/-- e in s, e a whole number -/
def eInS (neg : Bool) (i : Nat) (e : DX) : DX := fun env Q E => match env[i]? with
  | some (.st S _) => e env (fun y => ∃ k, y = .int k ∧ Q (.bl (if neg then !S k else S k))) E
  | _ => False
theorem sSet0_W {j : Nat} {d : DEn} {env : List Sl} : sSet0 j d env = d.nx (env.set j (.st (fun _ => false) 0)) := rfl
theorem sSetAdd_W {i : Nat} {e : DX} {d : DEn} {env : List Sl} : sSetAdd i e d env = (match env[i]? with
  | some (.st S n) => e env (fun y => ∃ k, y = .int k ∧ n + 1 < 4000 ∧ d.nx (env.set i (.st (fun j => S j || decide (j = k)) (if S k = true then n else n + 1)))) (d.xc env)
  | _ => False) := rfl
theorem eInS_W {neg : Bool} {i : Nat} {e : DX} {env : List Sl} {Q : Dt → Prop} {E : Xc → Prop} : eInS neg i e env Q E = (match env[i]? with
  | some (.st S _) => e env (fun y => ∃ k, y = .int k ∧ Q (.bl (if neg then !S k else S k))) E
  | _ => False) := rfl
section
variable {C : Bc} {te : TE} {e : DX} {i : Nat}
theorem dst_set0 {j : Nat} : DS C (tAsg (tCB rSet0I tNil) (gName j)) (sSet0 j) := by
  intro X env σ H D d r l h
  refine ⟨rfl, fun p n => ?_⟩
  refine l.nx _ _ _ _ (r.setSt (.upd n) n j upd_same) (fun a o q => ?_) h
  obtain ⟨n1, e1⟩ := vis_of q
  exact vis_mk (fun z => z.elim n1 (ne_of_none e1 n)) (by rw [upd_ne (ne_of_none e1 n)]; exact e1)
theorem dst_setAdd (he : DE C te e) : DS C (tDrop (tBM C.K "set" rSAddI (tVar i) (tCons te tNil))) (sSetAdd i e) := by
  intro X env σ H D d r l h
  unfold sSetAdd at h
  split at h
  · rename_i S n e1
    obtain ⟨p, es, x1, x2, h1⟩ := r.stAt e1
    refine ⟨.ref p, es, .inr (.inr (.inr ⟨rfl, S, n, h1⟩)), ?_⟩
    refine he X env σ H _ _ _ r h (fun y v H1 f1 r1 hy => ?_) (l.xok r)
    obtain ⟨k, rfl, room, hy⟩ := hy
    have h2 := f1.1 p _ h1 (r.nh x2)
    refine ⟨p, k, S, n, rfl, by rw [show v = V.int k from r1.flat rfl], h2, by unfold scanBound; omega, ?_⟩
    obtain ⟨r3, sm⟩ := (r.step f1).stUpd e1 es x1 x2 h2
    exact l.nx _ _ _ _ r3 ((r.vs f1).trans sm) hy
  · exact h.elim
theorem de_inS {neg : Bool} (he : DE C te e) : DE C (tOp (rSInI neg) te (tVar i)) (eInS neg i e) := by
  intro X env σ H Q Qd Qx rp h q x
  unfold eInS at h
  split at h
  · rename_i S n e1
    obtain ⟨p, es, x1, x2, h1⟩ := rp.stAt e1
    refine he X env σ H _ _ Qx rp h (fun y v H1 f1 r1 hy => ?_) x
    obtain ⟨k, rfl, hy⟩ := hy
    refine ⟨.ref p, es, k, p, S, n, r1.flat rfl, rfl, f1.1 p _ h1 (rp.nh x2), q _ _ H1 f1 (.bl _) hy⟩
  · exact h.elim
end
end Mine

namespace Mine
open PySem PySem.Spec PyProof.Rows L2
/-! ### x.append(y.pop(e)), x and y lists of one's own -/
def sAppPop (i j : Nat) (e : DX) : DSt := fun d env => match env[i]?, env[j]? with
  | some (.own (.lst xs)), some (.own (.lst ys)) => e env (fun y => ∃ k : Nat, ∃ w, y = .int k ∧ ys[k]? = some w ∧ ys.length ≤ LINE ∧ xs.length < LINE ∧ d.nx ((env.set j (.own (.lst (ys.eraseIdx k)))).set i (.own (.lst (xs ++ [w]))))) (d.xc env)
  | _, _ => False
theorem sAppPop_W {i j : Nat} {e : DX} {d : DEn} {env : List Sl} : sAppPop i j e d env = (match env[i]?, env[j]? with
  | some (.own (.lst xs)), some (.own (.lst ys)) => e env (fun y => ∃ k : Nat, ∃ w, y = .int k ∧ ys[k]? = some w ∧ ys.length ≤ LINE ∧ xs.length < LINE ∧ d.nx ((env.set j (.own (.lst (ys.eraseIdx k)))).set i (.own (.lst (xs ++ [w]))))) (d.xc env)
  | _, _ => False) := rfl
theorem dst_appPop {C : Bc} {te : TE} {e : DX} {i j : Nat} (ne : i ≠ j) (he : DE C te e) : DS C (tDrop (tBM C.K "list" rAppend (tVar i) (tCons (tBM C.K "list" rPopAt (tVar j) (tCons te tNil)) tNil))) (sAppPop i j e) := by
  intro X env σ H D d r l h
  unfold sAppPop at h
  split at h
  · rename_i xs ys e1 e2
    obtain ⟨p, vs, es, x1, x2, h1, h2⟩ := r.ownAt e1
    obtain ⟨q, us, fs, y1, y2, g1, g2⟩ := r.ownAt e2
    refine ⟨.ref p, es, tyv_lst h1, ?_⟩
    refine ⟨.ref q, fs, tyv_lst g1, ?_⟩
    refine he X env σ H _ _ _ r h (fun y v H1 f1 r1 hy => ?_) (l.xok r)
    obtain ⟨k, w, rfl, hw, hl, hx, hy⟩ := hy
    have k2 := g2.mono (r.vs f1)
    obtain ⟨v', hv, dv⟩ := k2.get hw
    have hlen := g2.length
    have hk := (List.getElem?_eq_some_iff.mp hw).1
    have hL : ys.length < 2 ^ 62 := by unfold LINE at hl; omega
    obtain ⟨r3, sm⟩ := (r.step f1).own e2 fs y1 y2 (.lst (k2.eraseIdx k))
    have pq : p ≠ q := fun z => r.inj i j _ _ ne e1 e2 (by rw [es, fs, z])
    have e3 : (env.set j (.own (.lst (ys.eraseIdx k))))[i]? = some (.own (.lst xs)) := by rw [List.getElem?_set, if_neg (Ne.symm ne)]; exact e1
    have h3 : upd H1 q (.lst (us.eraseIdx k)) p = some (.lst vs) := by rw [upd_ne pq]; exact f1.1 p _ h1 (r.nh x2)
    have m2 := (h2.mono (r.vs f1)).mono sm
    refine ⟨q, us, (k : Int), k, v', rfl, by rw [show v = V.int (k : Int) from r1.flat rfl], f1.1 q _ g1 (r.nh y2), by omega, by omega, seqIx_nat (by omega), hv, ?_⟩
    refine ⟨p, vs, v', rfl, rfl, h3, by rw [h2.length, sizeLine_eq]; exact hx, ?_⟩
    obtain ⟨r4, sm4⟩ := r3.own e3 es x1 x2 (.lst (m2.snoc (dv.mono sm)))
    exact l.nx _ _ _ _ r4 ((r.vs f1).trans (sm.trans sm4)) hy
  · exact h.elim
end Mine

namespace Mine
open PySem PySem.Spec PyProof.Rows L2
def mt (a b : Str) : Option Bool :=
  if a = "BadNumber" ∧ b = "BadNumber" then some true else
  if a = "BadNumber" ∧ b = "BadRow" then some false else
  if a = "BadNumber" ∧ b = "PlaceError" then some true else
  if a = "BadRow" ∧ b = "BadNumber" then some false else
  if a = "BadRow" ∧ b = "BadRow" then some true else
  if a = "BadRow" ∧ b = "PlaceError" then some true else
  none
theorem mt_BadNumber_BadNumber : mt "BadNumber" "BadNumber" = some true := by decide +kernel
theorem mt_BadNumber_BadRow : mt "BadNumber" "BadRow" = some false := by decide +kernel
theorem mt_BadNumber_PlaceError : mt "BadNumber" "PlaceError" = some true := by decide +kernel
theorem mt_BadRow_BadNumber : mt "BadRow" "BadNumber" = some false := by decide +kernel
theorem mt_BadRow_BadRow : mt "BadRow" "BadRow" = some true := by decide +kernel
theorem mt_BadRow_PlaceError : mt "BadRow" "PlaceError" = some true := by decide +kernel


def S_law_length : DSt := (sRet (eIf (eTest (eOp dEq (eCall0 F_law_take [] (eConsH 0 (eConsS (eC (.int 6)) eNil))) (eC (.int 0)))) (eOp dAdd (eC (.int 1)) (eCall0 F_law_take [] (eConsH 0 (eConsS (eC (.int 40)) eNil)))) (eOp dAdd (eC (.int 1)) (eCall0 F_law_take [] (eConsH 0 (eConsS (eC (.int 8)) eNil))))))
theorem F_law_length_ex : ∃ x : DFn, x = mkD0 1 1 S_law_length := ⟨_, rfl⟩
noncomputable def F_law_length : DFn := F_law_length_ex.choose
theorem F_law_length_eq : F_law_length = mkD0 1 1 S_law_length := F_law_length_ex.choose_spec
def S_law_order : DSt := (sSeq (sOwn 2 (eRgL (eC (.int 1)) (eOp dAdd (eVarB 1) (eC (.int 1))) .lst))
    (sSeq (sOwn 3 (eLst eNil))
    (sSeq (sFor (eRng1 (eCons (eVarB 1) eNil)) (gD 4)
    (sAppPop 3 2 (eCall0 F_law_take [] (eConsH 0 (eConsS (eCB dLen (eCons (eVarB 2) eNil)) eNil)))))
    (sRet (eCB dTupOf (eCons (eVarB 3) eNil))))))
theorem F_law_order_ex : ∃ x : DFn, x = mkD0 2 5 S_law_order := ⟨_, rfl⟩
noncomputable def F_law_order : DFn := F_law_order_ex.choose
theorem F_law_order_eq : F_law_order = mkD0 2 5 S_law_order := F_law_order_ex.choose_spec
def S_law_without : DSt := (sRet (eCB dTupOf (eCons (eLc (eSeq (eVarB 0)) (gD 2) (eTest (eOp dNe (eVarB 2) (eVarB 1))) (eVar 2) [2]) eNil)))
theorem F_law_without_ex : ∃ x : DFn, x = mkD0 2 3 S_law_without := ⟨_, rfl⟩
noncomputable def F_law_without : DFn := F_law_without_ex.choose
theorem F_law_without_eq : F_law_without = mkD0 2 3 S_law_without := F_law_without_ex.choose_spec
def S_lacking : DSt := (sRet (eOp dSub (eOp dFdiv (eOp dMul (eVarB 0) (eOp dAdd (eVarB 0) (eC (.int 1)))) (eC (.int 2))) (eCB dSum (eCons (eVarB 1) eNil))))
theorem F_lacking_ex : ∃ x : DFn, x = mkD0 2 2 S_lacking := ⟨_, rfl⟩
noncomputable def F_lacking : DFn := F_lacking_ex.choose
theorem F_lacking_eq : F_lacking = mkD0 2 2 S_lacking := F_lacking_ex.choose_spec
def S_is_whole : DSt := (sSeq (sIf (eOrT (eNotT (eTru (eCB (dIsi "int") (eCons (eVarB 0) (eCons (eC (.raw (.ty "int"))) eNil))))) (eTru (eCB (dIsi "bool") (eCons (eVarB 0) (eCons (eC (.raw (.ty "bool"))) eNil)))))
    (sRet (eC (.bl false)))
    sNext)
    (sRet (eAndV (eOrV (eOp dIsN (eVarB 1) (eC .non)) (eOp dGe (eVarB 0) (eVarB 1))) (eOrV (eOp dIsN (eVarB 2) (eC .non)) (eOp dLe (eVarB 0) (eVarB 2))))))
theorem F_is_whole_ex : ∃ x : DFn, x = mkD0 3 3 S_is_whole := ⟨_, rfl⟩
noncomputable def F_is_whole : DFn := F_is_whole_ex.choose
theorem F_is_whole_eq : F_is_whole = mkD0 3 3 S_is_whole := F_is_whole_ex.choose_spec
def S_check_number : DSt := (sSeq (sIf (eNotT (eTru (eCall0 F_is_whole [] (eConsS (eVar 0) (eConsS (eVar 1) (eConsS (eVar 2) eNil))))))
    (sRaise "BadNumber")
    sNext)
    (sRet (eVar 0)))
theorem F_check_number_ex : ∃ x : DFn, x = mkD 3 3 S_check_number := ⟨_, rfl⟩
noncomputable def F_check_number : DFn := F_check_number_ex.choose
theorem F_check_number_eq : F_check_number = mkD 3 3 S_check_number := F_check_number_ex.choose_spec
def S_check_row : DSt := (sSeq (sIf (eOrT (eNotT (eTru (eCB (dIsi2 "list" "tuple") (eCons (eVarB 1) (eCons (eTup (eCons (eC (.raw (.ty "list"))) (eCons (eC (.raw (.ty "tuple"))) eNil))) eNil))))) (eTest (eOp dNe (eCB dLen (eCons (eVarB 1) eNil)) (eVarB 2))))
    (sRaise1 "BadRow" "index" (eUn dNeg (eC (.int 1))))
    sNext)
    (sSeq (sSet0 3)
    (sSeq (sFor (eEnum (eCons (eVar 1) eNil)) (gD2 4 5)
    (sSeq (sIf (eOrT (eNotT (eTru (eCall0 F_is_whole [] (eConsS (eVar 5) (eConsS (eC (.int 1)) (eConsS (eVar 0) eNil)))))) (eTest (eInS false 3 (eVar 5))))
    (sRaise1 "BadRow" "index" (eVar 4))
    sNext)
    (sSetAdd 3 (eVar 5))))
    (sRet (eCB dTupOf (eCons (eVarB 1) eNil))))))
theorem F_check_row_ex : ∃ x : DFn, x = mkD 3 6 S_check_row := ⟨_, rfl⟩
noncomputable def F_check_row : DFn := F_check_row_ex.choose
theorem F_check_row_eq : F_check_row = mkD 3 6 S_check_row := F_check_row_ex.choose_spec
def S_check_short_row : DSt := (sSeq (sDrop (eCall F_check_number [] (eConsS (eVar 0) (eConsS (eC (.int 1)) (eConsS (eC (.int (40))) eNil)))))
    (sRet (eCall F_check_row [] (eConsS (eVar 0) (eConsS (eVar 1) (eConsS (eOp dSub (eVarB 0) (eC (.int 1))) eNil))))))
theorem F_check_short_row_ex : ∃ x : DFn, x = mkD 2 2 S_check_short_row := ⟨_, rfl⟩
noncomputable def F_check_short_row : DFn := F_check_short_row_ex.choose
theorem F_check_short_row_eq : F_check_short_row = mkD 2 2 S_check_short_row := F_check_short_row_ex.choose_spec
def S_lacking_member : DSt := (sRet (eCall0 F_lacking [] (eConsS (eVar 0) (eConsS (eCall F_check_short_row [] (eConsS (eVar 0) (eConsS (eVar 1) eNil))) eNil))))
theorem F_lacking_member_ex : ∃ x : DFn, x = mkD 2 2 S_lacking_member := ⟨_, rfl⟩
noncomputable def F_lacking_member : DFn := F_lacking_member_ex.choose
theorem F_lacking_member_eq : F_lacking_member = mkD 2 2 S_lacking_member := F_lacking_member_ex.choose_spec
def S_check_order : DSt := (sSeq (sIf (eOrT (eNotT (eTru (eCB (dIsi2 "list" "tuple") (eCons (eVarB 0) (eCons (eTup (eCons (eC (.raw (.ty "list"))) (eCons (eC (.raw (.ty "tuple"))) eNil))) eNil))))) (eNotT (eTru (eCall0 F_is_whole [] (eConsS (eCB dLen (eCons (eVarB 0) eNil)) (eConsS (eC (.int 1)) (eConsS (eC (.int (40))) eNil)))))))
    (sRaise1 "BadRow" "index" (eUn dNeg (eC (.int 1))))
    sNext)
    (sRet (eCall F_check_row [] (eConsS (eCB dLen (eCons (eVarB 0) eNil)) (eConsS (eVar 0) (eConsS (eCB dLen (eCons (eVarB 0) eNil)) eNil))))))
theorem F_check_order_ex : ∃ x : DFn, x = mkD 1 1 S_check_order := ⟨_, rfl⟩
noncomputable def F_check_order : DFn := F_check_order_ex.choose
theorem F_check_order_eq : F_check_order = mkD 1 1 S_check_order := F_check_order_ex.choose_spec
def S_row_without : DSt := (sSeq (sAsg (eCall F_check_order [] (eConsS (eVar 0) eNil)) (gD 0))
    (sSeq (sDrop (eCall F_check_number [] (eConsS (eVar 1) (eConsS (eC (.int 1)) (eConsS (eCB dLen (eCons (eVarB 0) eNil)) eNil)))))
    (sRet (eCB dTupOf (eCons (eLc (eSeq (eVarB 0)) (gD 2) (eTest (eOp dNe (eVarB 2) (eVarB 1))) (eVar 2) [2]) eNil)))))
theorem F_row_without_ex : ∃ x : DFn, x = mkD 2 3 S_row_without := ⟨_, rfl⟩
noncomputable def F_row_without : DFn := F_row_without_ex.choose
theorem F_row_without_eq : F_row_without = mkD 2 3 S_row_without := F_row_without_ex.choose_spec
def S_rise_word : DSt := (sRet (eCB dTupOf (eCons (eLc (eRng2 (eCons (eC (.int 1)) (eCons (eCB dLen (eCons (eVarB 0) eNil)) eNil))) (gD 1) eYes (eIf (eTest (eOp dGt (eOp dIx (eVarB 0) (eVarB 1)) (eOp dIx (eVarB 0) (eOp dSub (eVarB 1) (eC (.int 1)))))) (eC (.int 1)) (eC (.int 0))) [1]) eNil)))
theorem F_rise_word_ex : ∃ x : DFn, x = mkD0 1 2 S_rise_word := ⟨_, rfl⟩
noncomputable def F_rise_word : DFn := F_rise_word_ex.choose
theorem F_rise_word_eq : F_rise_word = mkD0 1 2 S_rise_word := F_rise_word_ex.choose_spec
def S_places_tried : DSt := (sSeq (sAsg (eCall F_check_short_row [] (eConsS (eVar 0) (eConsS (eVar 1) eNil))) (gD 1))
    (sSeq (sAsg (eCall0 F_lacking [] (eConsS (eVar 0) (eConsS (eVar 1) eNil))) (gD 2))
    (sRet (eCB dTupOf (eCons (eLc (eRng1 (eCons (eVarB 0) eNil)) (gD 3) eYes (eCall0 F_rise_word [] (eConsS (eOp dAdd (eOp dAdd (eSl dSl (eVarB 1) eNoPart (ePart (eVar 3))) (eTup (eCons (eVar 2) eNil))) (eSl dSl (eVarB 1) (ePart (eVar 3)) eNoPart)) eNil)) [3]) eNil)))))
theorem F_places_tried_ex : ∃ x : DFn, x = mkD 2 4 S_places_tried := ⟨_, rfl⟩
noncomputable def F_places_tried : DFn := F_places_tried_ex.choose
theorem F_places_tried_eq : F_places_tried = mkD 2 4 S_places_tried := F_places_tried_ex.choose_spec
def S_law_with : DSt := (sRet (eOp dAdd (eOp dAdd (eSl dSl (eVarB 0) eNoPart (ePart (eOp dSub (eVarB 2) (eC (.int 1))))) (eTup (eCons (eVar 1) eNil))) (eSl dSl (eVarB 0) (ePart (eOp dSub (eVarB 2) (eC (.int 1)))) eNoPart)))
theorem F_law_with_ex : ∃ x : DFn, x = mkD0 3 3 S_law_with := ⟨_, rfl⟩
noncomputable def F_law_with : DFn := F_law_with_ex.choose
theorem F_law_with_eq : F_law_with = mkD0 3 3 S_law_with := F_law_with_ex.choose_spec
def S_law_rise_word : DSt := (sRet (eCB dTupOf (eCons (eLc (eRng1 (eCons (eOp dSub (eCB dLen (eCons (eVarB 0) eNil)) (eC (.int 1))) eNil)) (gD 1) eYes (eCB dInt (eCons (eOp dGt (eOp dIx (eVarB 0) (eOp dAdd (eVarB 1) (eC (.int 1)))) (eOp dIx (eVarB 0) (eVarB 1))) eNil)) [1]) eNil)))
theorem F_law_rise_word_ex : ∃ x : DFn, x = mkD0 1 2 S_law_rise_word := ⟨_, rfl⟩
noncomputable def F_law_rise_word : DFn := F_law_rise_word_ex.choose
theorem F_law_rise_word_eq : F_law_rise_word = mkD0 1 2 S_law_rise_word := F_law_rise_word_ex.choose_spec
def S_law_rise_total : DSt := (sRet (eCB dSum (eCons (eLc (eRng2 (eCons (eC (.int 1)) (eCons (eCB dLen (eCons (eVarB 0) eNil)) eNil))) (gD 1) (eTest (eOp dGt (eOp dIx (eVarB 0) (eVarB 1)) (eOp dIx (eVarB 0) (eOp dSub (eVarB 1) (eC (.int 1)))))) (eVar 1) [1]) eNil)))
theorem F_law_rise_total_ex : ∃ x : DFn, x = mkD0 1 2 S_law_rise_total := ⟨_, rfl⟩
noncomputable def F_law_rise_total : DFn := F_law_rise_total_ex.choose
theorem F_law_rise_total_eq : F_law_rise_total = mkD0 1 2 S_law_rise_total := F_law_rise_total_ex.choose_spec
def S_order_with : DSt := (sSeq (sAsg (eCall F_check_short_row [] (eConsS (eVar 0) (eConsS (eVar 1) eNil))) (gD 1))
    (sSeq (sDrop (eCall F_check_number [] (eConsS (eVar 2) (eConsS (eC (.int 1)) (eConsS (eVar 0) eNil)))))
    (sRet (eOp dAdd (eOp dAdd (eSl dSl (eVarB 1) eNoPart (ePart (eOp dSub (eVarB 2) (eC (.int 1))))) (eTup (eCons (eCall0 F_lacking [] (eConsS (eVar 0) (eConsS (eVar 1) eNil))) eNil))) (eSl dSl (eVarB 1) (ePart (eOp dSub (eVarB 2) (eC (.int 1)))) eNoPart)))))
theorem F_order_with_ex : ∃ x : DFn, x = mkD 3 3 S_order_with := ⟨_, rfl⟩
noncomputable def F_order_with : DFn := F_order_with_ex.choose
theorem F_order_with_eq : F_order_with = mkD 3 3 S_order_with := F_order_with_ex.choose_spec
theorem S_law_places_right_r17_ex : ∃ x : DSt, x = (sApp 8 (eOp dMod (eCB dInt (eCons (eCall0 F_law_rise_total [] (eConsS (eVar 10) eNil)) eNil)) (eVarB 1))) := ⟨_, rfl⟩
noncomputable def S_law_places_right_r17 : DSt := S_law_places_right_r17_ex.choose
theorem S_law_places_right_r17_eq : S_law_places_right_r17 = (sApp 8 (eOp dMod (eCB dInt (eCons (eCall0 F_law_rise_total [] (eConsS (eVar 10) eNil)) eNil)) (eVarB 1))) := S_law_places_right_r17_ex.choose_spec
theorem S_law_places_right_r15_ex : ∃ x : DSt, x = (sSeq (sIf (eTest (eOp dNe (eCB dRepr (eCons (eOp dIx (eVarB 7) (eOp dSub (eVarB 9) (eC (.int 1)))) eNil)) (eCB dRepr (eCons (eCall0 F_law_rise_word [] (eConsS (eVar 10) eNil)) eNil))))
    (sRet (eC (.bl false)))
    sNext)
    S_law_places_right_r17) := ⟨_, rfl⟩
noncomputable def S_law_places_right_r15 : DSt := S_law_places_right_r15_ex.choose
theorem S_law_places_right_r15_eq : S_law_places_right_r15 = (sSeq (sIf (eTest (eOp dNe (eCB dRepr (eCons (eOp dIx (eVarB 7) (eOp dSub (eVarB 9) (eC (.int 1)))) eNil)) (eCB dRepr (eCons (eCall0 F_law_rise_word [] (eConsS (eVar 10) eNil)) eNil))))
    (sRet (eC (.bl false)))
    sNext)
    S_law_places_right_r17) := S_law_places_right_r15_ex.choose_spec
theorem S_law_places_right_b14_ex : ∃ x : DSt, x = (sSeq (sAsg (eCall0 F_law_with [] (eConsS (eVar 5) (eConsS (eVar 4) (eConsS (eVar 9) eNil)))) (gD 10))
    S_law_places_right_r15) := ⟨_, rfl⟩
noncomputable def S_law_places_right_b14 : DSt := S_law_places_right_b14_ex.choose
theorem S_law_places_right_b14_eq : S_law_places_right_b14 = (sSeq (sAsg (eCall0 F_law_with [] (eConsS (eVar 5) (eConsS (eVar 4) (eConsS (eVar 9) eNil)))) (gD 10))
    S_law_places_right_r15) := S_law_places_right_b14_ex.choose_spec
theorem S_law_places_right_r21_ex : ∃ x : DSt, x = (sIf (eTest (eOp dNe (eCB dRepr (eCons (eCall0 F_order_with [] (eConsS (eVar 1) (eConsS (eVar 6) (eConsS (eVar 9) eNil)))) eNil)) (eCB dRepr (eCons (eCall0 F_law_with [] (eConsS (eVar 5) (eConsS (eVar 4) (eConsS (eVar 9) eNil)))) eNil))))
    (sRet (eC (.bl false)))
    sNext) := ⟨_, rfl⟩
noncomputable def S_law_places_right_r21 : DSt := S_law_places_right_r21_ex.choose
theorem S_law_places_right_r21_eq : S_law_places_right_r21 = (sIf (eTest (eOp dNe (eCB dRepr (eCons (eCall0 F_order_with [] (eConsS (eVar 1) (eConsS (eVar 6) (eConsS (eVar 9) eNil)))) eNil)) (eCB dRepr (eCons (eCall0 F_law_with [] (eConsS (eVar 5) (eConsS (eVar 4) (eConsS (eVar 9) eNil)))) eNil))))
    (sRet (eC (.bl false)))
    sNext) := S_law_places_right_r21_ex.choose_spec
theorem S_law_places_right_r20_ex : ∃ x : DSt, x = (sSeq (sAsg (eOp dAdd (eC (.int 1)) (eCall0 F_law_take [] (eConsH 0 (eConsS (eVar 1) eNil)))) (gD 9))
    S_law_places_right_r21) := ⟨_, rfl⟩
noncomputable def S_law_places_right_r20 : DSt := S_law_places_right_r20_ex.choose
theorem S_law_places_right_r20_eq : S_law_places_right_r20 = (sSeq (sAsg (eOp dAdd (eC (.int 1)) (eCall0 F_law_take [] (eConsH 0 (eConsS (eVar 1) eNil)))) (gD 9))
    S_law_places_right_r21) := S_law_places_right_r20_ex.choose_spec
theorem S_law_places_right_r18_ex : ∃ x : DSt, x = (sSeq (sIf (eOrT (eTest (eOp dNe (eCB dSortedU (eCons (eVarB 8) eNil)) (eRgL (eC (.int 0)) (eVar 1) .lst))) (eTest (eOp dNe (eLenSetG (eCB dLstOf (eCons (eVarB 7) eNil))) (eVarB 1))))
    (sRet (eC (.bl false)))
    sNext)
    S_law_places_right_r20) := ⟨_, rfl⟩
noncomputable def S_law_places_right_r18 : DSt := S_law_places_right_r18_ex.choose
theorem S_law_places_right_r18_eq : S_law_places_right_r18 = (sSeq (sIf (eOrT (eTest (eOp dNe (eCB dSortedU (eCons (eVarB 8) eNil)) (eRgL (eC (.int 0)) (eVar 1) .lst))) (eTest (eOp dNe (eLenSetG (eCB dLstOf (eCons (eVarB 7) eNil))) (eVarB 1))))
    (sRet (eC (.bl false)))
    sNext)
    S_law_places_right_r20) := S_law_places_right_r18_ex.choose_spec
theorem S_law_places_right_r13_ex : ∃ x : DSt, x = (sSeq (sFor (eRng2 (eCons (eC (.int 1)) (eCons (eOp dAdd (eVarB 1) (eC (.int 1))) eNil))) (gD 9)
    S_law_places_right_b14)
    S_law_places_right_r18) := ⟨_, rfl⟩
noncomputable def S_law_places_right_r13 : DSt := S_law_places_right_r13_ex.choose
theorem S_law_places_right_r13_eq : S_law_places_right_r13 = (sSeq (sFor (eRng2 (eCons (eC (.int 1)) (eCons (eOp dAdd (eVarB 1) (eC (.int 1))) eNil))) (gD 9)
    S_law_places_right_b14)
    S_law_places_right_r18) := S_law_places_right_r13_ex.choose_spec
theorem S_law_places_right_r12_ex : ∃ x : DSt, x = (sSeq (sOwn 8 (eLst eNil))
    S_law_places_right_r13) := ⟨_, rfl⟩
noncomputable def S_law_places_right_r12 : DSt := S_law_places_right_r12_ex.choose
theorem S_law_places_right_r12_eq : S_law_places_right_r12 = (sSeq (sOwn 8 (eLst eNil))
    S_law_places_right_r13) := S_law_places_right_r12_ex.choose_spec
theorem S_law_places_right_r10_ex : ∃ x : DSt, x = (sSeq (sIf (eOrT (eTest (eOp dNe (eVarB 6) (eCB dLstOf (eCons (eVarB 5) eNil)))) (eOrT (eNotT (eTru (eCB (dIsi "tuple") (eCons (eVarB 7) (eCons (eC (.raw (.ty "tuple"))) eNil))))) (eTest (eOp dNe (eCB dLen (eCons (eVarB 7) eNil)) (eVarB 1)))))
    (sRet (eC (.bl false)))
    sNext)
    S_law_places_right_r12) := ⟨_, rfl⟩
noncomputable def S_law_places_right_r10 : DSt := S_law_places_right_r10_ex.choose
theorem S_law_places_right_r10_eq : S_law_places_right_r10 = (sSeq (sIf (eOrT (eTest (eOp dNe (eVarB 6) (eCB dLstOf (eCons (eVarB 5) eNil)))) (eOrT (eNotT (eTru (eCB (dIsi "tuple") (eCons (eVarB 7) (eCons (eC (.raw (.ty "tuple"))) eNil))))) (eTest (eOp dNe (eCB dLen (eCons (eVarB 7) eNil)) (eVarB 1)))))
    (sRet (eC (.bl false)))
    sNext)
    S_law_places_right_r12) := S_law_places_right_r10_ex.choose_spec
theorem S_law_places_right_r9_ex : ∃ x : DSt, x = (sSeq (sAsg (eCall0 F_places_tried [] (eConsS (eVar 1) (eConsS (eVar 6) eNil))) (gD 7))
    S_law_places_right_r10) := ⟨_, rfl⟩
noncomputable def S_law_places_right_r9 : DSt := S_law_places_right_r9_ex.choose
theorem S_law_places_right_r9_eq : S_law_places_right_r9 = (sSeq (sAsg (eCall0 F_places_tried [] (eConsS (eVar 1) (eConsS (eVar 6) eNil))) (gD 7))
    S_law_places_right_r10) := S_law_places_right_r9_ex.choose_spec
theorem S_law_places_right_r7_ex : ∃ x : DSt, x = (sSeq (sIf (eOrT (eTest (eOp dNe (eCB dRepr (eCons (eCall0 F_row_without [] (eConsS (eVar 2) (eConsS (eVar 4) eNil))) eNil)) (eCB dRepr (eCons (eVarB 5) eNil)))) (eTest (eOp dNe (eCB dRepr (eCons (eCall0 F_lacking_member [] (eConsS (eVar 1) (eConsS (eVar 6) eNil))) eNil)) (eCB dRepr (eCons (eVarB 4) eNil)))))
    (sRet (eC (.bl false)))
    sNext)
    S_law_places_right_r9) := ⟨_, rfl⟩
noncomputable def S_law_places_right_r7 : DSt := S_law_places_right_r7_ex.choose
theorem S_law_places_right_r7_eq : S_law_places_right_r7 = (sSeq (sIf (eOrT (eTest (eOp dNe (eCB dRepr (eCons (eCall0 F_row_without [] (eConsS (eVar 2) (eConsS (eVar 4) eNil))) eNil)) (eCB dRepr (eCons (eVarB 5) eNil)))) (eTest (eOp dNe (eCB dRepr (eCons (eCall0 F_lacking_member [] (eConsS (eVar 1) (eConsS (eVar 6) eNil))) eNil)) (eCB dRepr (eCons (eVarB 4) eNil)))))
    (sRet (eC (.bl false)))
    sNext)
    S_law_places_right_r9) := S_law_places_right_r7_ex.choose_spec
theorem S_law_places_right_r6_ex : ∃ x : DSt, x = (sSeq (sAsg (eCB dLstOf (eCons (eVarB 5) eNil)) (gD 6))
    S_law_places_right_r7) := ⟨_, rfl⟩
noncomputable def S_law_places_right_r6 : DSt := S_law_places_right_r6_ex.choose
theorem S_law_places_right_r6_eq : S_law_places_right_r6 = (sSeq (sAsg (eCB dLstOf (eCons (eVarB 5) eNil)) (gD 6))
    S_law_places_right_r7) := S_law_places_right_r6_ex.choose_spec
theorem S_law_places_right_b5_ex : ∃ x : DSt, x = (sSeq (sAsg (eCall0 F_law_without [] (eConsS (eVar 2) (eConsS (eVar 4) eNil))) (gD 5))
    S_law_places_right_r6) := ⟨_, rfl⟩
noncomputable def S_law_places_right_b5 : DSt := S_law_places_right_b5_ex.choose
theorem S_law_places_right_b5_eq : S_law_places_right_b5 = (sSeq (sAsg (eCall0 F_law_without [] (eConsS (eVar 2) (eConsS (eVar 4) eNil))) (gD 5))
    S_law_places_right_r6) := S_law_places_right_b5_ex.choose_spec
theorem S_law_places_right_r23_ex : ∃ x : DSt, x = (sRet (eC (.bl true))) := ⟨_, rfl⟩
noncomputable def S_law_places_right_r23 : DSt := S_law_places_right_r23_ex.choose
theorem S_law_places_right_r23_eq : S_law_places_right_r23 = (sRet (eC (.bl true))) := S_law_places_right_r23_ex.choose_spec
theorem S_law_places_right_r4_ex : ∃ x : DSt, x = (sSeq (sFor (eSeq (eVar 3)) (gD 4)
    S_law_places_right_b5)
    S_law_places_right_r23) := ⟨_, rfl⟩
noncomputable def S_law_places_right_r4 : DSt := S_law_places_right_r4_ex.choose
theorem S_law_places_right_r4_eq : S_law_places_right_r4 = (sSeq (sFor (eSeq (eVar 3)) (gD 4)
    S_law_places_right_b5)
    S_law_places_right_r23) := S_law_places_right_r4_ex.choose_spec
theorem S_law_places_right_r3_ex : ∃ x : DSt, x = (sSeq (sAsg (eIf (eTest (eOp dLt (eVarB 1) (eC (.int 9)))) (eCB dLstOf (eCons (eVarB 2) eNil)) (eLst (eCons (eOp dIx (eVarB 2) (eCall0 F_law_take [] (eConsH 0 (eConsS (eVar 1) eNil)))) (eCons (eC (.int 1)) (eCons (eVar 1) eNil))))) (gD 3))
    S_law_places_right_r4) := ⟨_, rfl⟩
noncomputable def S_law_places_right_r3 : DSt := S_law_places_right_r3_ex.choose
theorem S_law_places_right_r3_eq : S_law_places_right_r3 = (sSeq (sAsg (eIf (eTest (eOp dLt (eVarB 1) (eC (.int 9)))) (eCB dLstOf (eCons (eVarB 2) eNil)) (eLst (eCons (eOp dIx (eVarB 2) (eCall0 F_law_take [] (eConsH 0 (eConsS (eVar 1) eNil)))) (eCons (eC (.int 1)) (eCons (eVar 1) eNil))))) (gD 3))
    S_law_places_right_r4) := S_law_places_right_r3_ex.choose_spec
theorem S_law_places_right_r2_ex : ∃ x : DSt, x = (sSeq (sAsg (eCall0 F_law_order [] (eConsH 0 (eConsS (eVar 1) eNil))) (gD 2))
    S_law_places_right_r3) := ⟨_, rfl⟩
noncomputable def S_law_places_right_r2 : DSt := S_law_places_right_r2_ex.choose
theorem S_law_places_right_r2_eq : S_law_places_right_r2 = (sSeq (sAsg (eCall0 F_law_order [] (eConsH 0 (eConsS (eVar 1) eNil))) (gD 2))
    S_law_places_right_r3) := S_law_places_right_r2_ex.choose_spec
def S_law_places_right : DSt := (sSeq (sAsg (eCall0 F_law_length [] (eConsH 0 eNil)) (gD 1))
    S_law_places_right_r2)
theorem F_law_places_right_ex : ∃ x : DFn, x = mkD0 1 11 S_law_places_right := ⟨_, rfl⟩
noncomputable def F_law_places_right : DFn := F_law_places_right_ex.choose
theorem F_law_places_right_eq : F_law_places_right = mkD0 1 11 S_law_places_right := F_law_places_right_ex.choose_spec
def S_check_any_row : DSt := (sSeq (sIf (eOrT (eNotT (eTru (eCB (dIsi2 "list" "tuple") (eCons (eVarB 0) (eCons (eTup (eCons (eC (.raw (.ty "list"))) (eCons (eC (.raw (.ty "tuple"))) eNil))) eNil))))) (eTest (eOp dGt (eCB dLen (eCons (eVarB 0) eNil)) (eC (.int (40))))))
    (sRaise1 "BadRow" "index" (eUn dNeg (eC (.int 1))))
    sNext)
    (sRet (eCall F_check_row [] (eConsS (eC (.int (40))) (eConsS (eVar 0) (eConsS (eCB dLen (eCons (eVarB 0) eNil)) eNil))))))
theorem F_check_any_row_ex : ∃ x : DFn, x = mkD 1 1 S_check_any_row := ⟨_, rfl⟩
noncomputable def F_check_any_row : DFn := F_check_any_row_ex.choose
theorem F_check_any_row_eq : F_check_any_row = mkD 1 1 S_check_any_row := F_check_any_row_ex.choose_spec
def S_order_rises : DSt := (sRet (eCall0 F_rise_word [] (eConsS (eCall F_check_any_row [] (eConsS (eVar 0) eNil)) eNil)))
theorem F_order_rises_ex : ∃ x : DFn, x = mkD 1 1 S_order_rises := ⟨_, rfl⟩
noncomputable def F_order_rises : DFn := F_order_rises_ex.choose
theorem F_order_rises_eq : F_order_rises = mkD 1 1 S_order_rises := F_order_rises_ex.choose_spec
def S_order_total : DSt := (sSeq (sAsg (eCall F_check_any_row [] (eConsS (eVar 0) eNil)) (gD 0))
    (sRet (eCB dSum (eCons (eLc (eRng2 (eCons (eC (.int 1)) (eCons (eCB dLen (eCons (eVarB 0) eNil)) eNil))) (gD 1) (eTest (eOp dGt (eOp dIx (eVarB 0) (eVarB 1)) (eOp dIx (eVarB 0) (eOp dSub (eVarB 1) (eC (.int 1)))))) (eVar 1) [1]) eNil))))
theorem F_order_total_ex : ∃ x : DFn, x = mkD 1 2 S_order_total := ⟨_, rfl⟩
noncomputable def F_order_total : DFn := F_order_total_ex.choose
theorem F_order_total_eq : F_order_total = mkD 1 2 S_order_total := F_order_total_ex.choose_spec
theorem S_law_any_right_r4_ex : ∃ x : DSt, x = (sRet (eAndV (eOp dEq (eCB dRepr (eCons (eCall0 F_order_total [] (eConsS (eVar 1) eNil)) eNil)) (eCB dRepr (eCons (eCall0 F_law_rise_total [] (eConsS (eVar 1) eNil)) eNil))) (eOp dEq (eCB dRepr (eCons (eCall0 F_check_row [] (eConsS (eC (.int 40)) (eConsS (eVar 1) (eConsS (eCB dLen (eCons (eVarB 1) eNil)) eNil)))) eNil)) (eCB dRepr (eCons (eVarB 1) eNil))))) := ⟨_, rfl⟩
noncomputable def S_law_any_right_r4 : DSt := S_law_any_right_r4_ex.choose
theorem S_law_any_right_r4_eq : S_law_any_right_r4 = (sRet (eAndV (eOp dEq (eCB dRepr (eCons (eCall0 F_order_total [] (eConsS (eVar 1) eNil)) eNil)) (eCB dRepr (eCons (eCall0 F_law_rise_total [] (eConsS (eVar 1) eNil)) eNil))) (eOp dEq (eCB dRepr (eCons (eCall0 F_check_row [] (eConsS (eC (.int 40)) (eConsS (eVar 1) (eConsS (eCB dLen (eCons (eVarB 1) eNil)) eNil)))) eNil)) (eCB dRepr (eCons (eVarB 1) eNil))))) := S_law_any_right_r4_ex.choose_spec
theorem S_law_any_right_r2_ex : ∃ x : DSt, x = (sSeq (sIf (eTest (eOp dNe (eCB dRepr (eCons (eCall0 F_order_rises [] (eConsS (eCB dLstOf (eCons (eVarB 1) eNil)) eNil)) eNil)) (eCB dRepr (eCons (eCall0 F_law_rise_word [] (eConsS (eVar 1) eNil)) eNil))))
    (sRet (eC (.bl false)))
    sNext)
    S_law_any_right_r4) := ⟨_, rfl⟩
noncomputable def S_law_any_right_r2 : DSt := S_law_any_right_r2_ex.choose
theorem S_law_any_right_r2_eq : S_law_any_right_r2 = (sSeq (sIf (eTest (eOp dNe (eCB dRepr (eCons (eCall0 F_order_rises [] (eConsS (eCB dLstOf (eCons (eVarB 1) eNil)) eNil)) eNil)) (eCB dRepr (eCons (eCall0 F_law_rise_word [] (eConsS (eVar 1) eNil)) eNil))))
    (sRet (eC (.bl false)))
    sNext)
    S_law_any_right_r4) := S_law_any_right_r2_ex.choose_spec
def S_law_any_right : DSt := (sSeq (sAsg (eSl dSl (eCall0 F_law_order [] (eConsH 0 (eConsS (eC (.int 40)) eNil))) eNoPart (ePart (eCall0 F_law_take [] (eConsH 0 (eConsS (eC (.int 41)) eNil))))) (gD 1))
    S_law_any_right_r2)
theorem F_law_any_right_ex : ∃ x : DFn, x = mkD0 1 2 S_law_any_right := ⟨_, rfl⟩
noncomputable def F_law_any_right : DFn := F_law_any_right_ex.choose
theorem F_law_any_right_eq : F_law_any_right = mkD0 1 2 S_law_any_right := F_law_any_right_ex.choose_spec
def S_contrary_order : DSt := (sSeq (sAsg (eCall F_check_order [] (eConsS (eVar 0) eNil)) (gD 0))
    (sRet (eCB dTupOf (eCons (eLc (eSeq (eVarB 0)) (gD 1) eYes (eOp dSub (eOp dAdd (eCB dLen (eCons (eVarB 0) eNil)) (eC (.int 1))) (eVarB 1)) [1]) eNil))))
theorem F_contrary_order_ex : ∃ x : DFn, x = mkD 1 2 S_contrary_order := ⟨_, rfl⟩
noncomputable def F_contrary_order : DFn := F_contrary_order_ex.choose
theorem F_contrary_order_eq : F_contrary_order = mkD 1 2 S_contrary_order := F_contrary_order_ex.choose_spec
def S_turned_order : DSt := (sRet (eRev (eCall F_check_order [] (eConsS (eVar 0) eNil))))
theorem F_turned_order_ex : ∃ x : DFn, x = mkD 1 1 S_turned_order := ⟨_, rfl⟩
noncomputable def F_turned_order : DFn := F_turned_order_ex.choose
theorem F_turned_order_eq : F_turned_order = mkD 1 1 S_turned_order := F_turned_order_ex.choose_spec
def S_law_turned_right : DSt := (sSeq (sAsg (eCall0 F_law_length [] (eConsH 0 eNil)) (gD 1))
    (sSeq (sAsg (eCall0 F_law_order [] (eConsH 0 (eConsS (eVar 1) eNil))) (gD 2))
    (sSeq (sPar 3 4 (eCons (eOp dFdiv (eOp dMul (eVarB 1) (eOp dSub (eVarB 1) (eC (.int 1)))) (eC (.int 2))) (eCons (eCall0 F_law_rise_total [] (eConsS (eVar 2) eNil)) eNil)))
    (sSeq (sAsg (eCB dLstOf (eCons (eVarB 2) eNil)) (gD 5))
    (sSeq (sPar 6 7 (eCons (eCall0 F_turned_order [] (eConsS (eVar 5) eNil)) (eCons (eCall0 F_contrary_order [] (eConsS (eVar 5) eNil)) eNil)))
    (sSeq (sIf (eOrT (eTest (eOp dNe (eCB dRepr (eCons (eVarB 6) eNil)) (eCB dRepr (eCons (eRev (eVarB 2)) eNil)))) (eTest (eOp dNe (eCB dRepr (eCons (eVarB 7) eNil)) (eCB dRepr (eCons (eCB dTupOf (eCons (eLc (eSeq (eVarB 2)) (gD 8) eYes (eOp dSub (eOp dAdd (eVarB 1) (eC (.int 1))) (eVarB 8)) [8]) eNil)) eNil)))))
    (sRet (eC (.bl false)))
    sNext)
    (sSeq (sIf (eOrT (eTest (eOp dNe (eCB dRepr (eCons (eCall0 F_order_total [] (eConsS (eVar 5) eNil)) eNil)) (eCB dRepr (eCons (eVarB 4) eNil)))) (eTest (eOp dNe (eCB dRepr (eCons (eCall0 F_order_rises [] (eConsS (eVar 5) eNil)) eNil)) (eCB dRepr (eCons (eCall0 F_law_rise_word [] (eConsS (eVar 2) eNil)) eNil)))))
    (sRet (eC (.bl false)))
    sNext)
    (sSeq (sIf (eOrT (eTest (eOp dNe (eVarB 5) (eCB dLstOf (eCons (eVarB 2) eNil)))) (eTest (eOp dNe (eCB dRepr (eCons (eCall0 F_check_row [] (eConsS (eVar 1) (eConsS (eVar 5) (eConsS (eVar 1) eNil)))) eNil)) (eCB dRepr (eCons (eVarB 2) eNil)))))
    (sRet (eC (.bl false)))
    sNext)
    (sSeq (sIf (eOrT (eTest (eOp dNe (eOp dMod (eCB dInt (eCons (eOp dAdd (eOp dSub (eCall0 F_order_total [] (eConsS (eVar 6) eNil)) (eVarB 4)) (eVarB 3)) eNil)) (eVarB 1)) (eC (.int 0)))) (eTest (eOp dNe (eOp dMod (eCB dInt (eCons (eOp dAdd (eOp dSub (eCall0 F_order_total [] (eConsS (eVar 7) eNil)) (eVarB 3)) (eVarB 4)) eNil)) (eVarB 1)) (eC (.int 0)))))
    (sRet (eC (.bl false)))
    sNext)
    (sRet (eOp dEq (eOp dMod (eCB dInt (eCons (eOp dAdd (eCall0 F_order_total [] (eConsS (eCall0 F_turned_order [] (eConsS (eVar 7) eNil)) eNil)) (eVarB 4)) eNil)) (eVarB 1)) (eC (.int 0)))))))))))))
theorem F_law_turned_right_ex : ∃ x : DFn, x = mkD0 1 9 S_law_turned_right := ⟨_, rfl⟩
noncomputable def F_law_turned_right : DFn := F_law_turned_right_ex.choose
theorem F_law_turned_right_eq : F_law_turned_right = mkD0 1 9 S_law_turned_right := F_law_turned_right_ex.choose_spec
def S_longest_common : DSt := (sSeq (sOwnD 2 false)
    (sSeq (sFor (eEnum (eCons (eVar 0) eNil)) (gD2 3 4)
    (sPutD 2 (eVar 4) (eOp dOr (eGet2 (eVarD 2) (eVar 4) (eC (.int 0))) (eOp dShl (eC (.int 1)) (eVarB 3)))))
    (sSeq (sAsg (eOp dSub (eOp dShl (eC (.int 1)) (eCB dLen (eCons (eVarB 0) eNil))) (eC (.int 1))) (gD 5))
    (sSeq (sAsg (eVar 5) (gD 6))
    (sSeq (sFor (eSeq (eVar 1)) (gD 4)
    (sSeq (sAsg (eOp dAnd (eVarB 6) (eGet2 (eVarD 2) (eVar 4) (eC (.int 0)))) (gD 7))
    (sAsg (eOp dAnd (eOp dOr (eOp dAdd (eVarB 6) (eVarB 7)) (eOp dSub (eVarB 6) (eVarB 7))) (eVarB 5)) (gD 6))))
    (sSeq (sAsg (eFmtB (eVarB 6)) (gD 8))
    (sRet (eOp dSub (eCB dLen (eCons (eVarB 0) eNil)) (eTm (fun u z => .int (Txt.count u z)) (eVar 8) (eC (.str "1")))))))))))
theorem F_longest_common_ex : ∃ x : DFn, x = mkD0 2 9 S_longest_common := ⟨_, rfl⟩
noncomputable def F_longest_common : DFn := F_longest_common_ex.choose
theorem F_longest_common_eq : F_longest_common = mkD0 2 9 S_longest_common := F_longest_common_ex.choose_spec
def S_moves_apart : DSt := (sSeq (sAsg (eCall F_check_order [] (eConsS (eVar 0) eNil)) (gD 0))
    (sSeq (sAsg (eCall F_check_row [] (eConsS (eCB dLen (eCons (eVarB 0) eNil)) (eConsS (eVar 1) (eConsS (eCB dLen (eCons (eVarB 0) eNil)) eNil)))) (gD 1))
    (sRet (eOp dSub (eCB dLen (eCons (eVarB 0) eNil)) (eCall0 F_longest_common [] (eConsS (eVar 0) (eConsS (eVar 1) eNil)))))))
theorem F_moves_apart_ex : ∃ x : DFn, x = mkD 2 2 S_moves_apart := ⟨_, rfl⟩
noncomputable def F_moves_apart : DFn := F_moves_apart_ex.choose
theorem F_moves_apart_eq : F_moves_apart = mkD 2 2 S_moves_apart := F_moves_apart_ex.choose_spec
def S_law_called : DSt := (sSeq (sAsg (eC .non) (gD 2))
    (sSeq (sTry mt (sIf (eTest (eOp dEq (eVarB 0) (eC (.int 0))))
    (sAsg (eCall F_check_row [] (eConsS (eOp dIx (eVarB 1) (eC (.int 0))) (eConsS (eOp dIx (eVarB 1) (eC (.int 1))) (eConsS (eOp dIx (eVarB 1) (eC (.int 2))) eNil)))) (gD 2))
    (sIf (eTest (eOp dEq (eVarB 0) (eC (.int 1))))
    (sAsg (eCall F_order_rises [] (eConsS (eOp dIx (eVarB 1) (eC (.int 0))) eNil)) (gD 2))
    (sIf (eTest (eOp dEq (eVarB 0) (eC (.int 2))))
    (sAsg (eCall F_order_total [] (eConsS (eOp dIx (eVarB 1) (eC (.int 0))) eNil)) (gD 2))
    (sIf (eTest (eOp dEq (eVarB 0) (eC (.int 3))))
    (sAsg (eCall F_turned_order [] (eConsS (eOp dIx (eVarB 1) (eC (.int 0))) eNil)) (gD 2))
    (sIf (eTest (eOp dEq (eVarB 0) (eC (.int 4))))
    (sAsg (eCall F_contrary_order [] (eConsS (eOp dIx (eVarB 1) (eC (.int 0))) eNil)) (gD 2))
    (sIf (eTest (eOp dEq (eVarB 0) (eC (.int 5))))
    (sAsg (eCall F_lacking_member [] (eConsS (eOp dIx (eVarB 1) (eC (.int 0))) (eConsS (eOp dIx (eVarB 1) (eC (.int 1))) eNil))) (gD 2))
    (sIf (eTest (eOp dEq (eVarB 0) (eC (.int 6))))
    (sAsg (eCall F_row_without [] (eConsS (eOp dIx (eVarB 1) (eC (.int 0))) (eConsS (eOp dIx (eVarB 1) (eC (.int 1))) eNil))) (gD 2))
    (sIf (eTest (eOp dEq (eVarB 0) (eC (.int 7))))
    (sAsg (eCall F_order_with [] (eConsS (eOp dIx (eVarB 1) (eC (.int 0))) (eConsS (eOp dIx (eVarB 1) (eC (.int 1))) (eConsS (eOp dIx (eVarB 1) (eC (.int 2))) eNil)))) (gD 2))
    (sIf (eTest (eOp dEq (eVarB 0) (eC (.int 8))))
    (sAsg (eCall F_places_tried [] (eConsS (eOp dIx (eVarB 1) (eC (.int 0))) (eConsS (eOp dIx (eVarB 1) (eC (.int 1))) eNil))) (gD 2))
    (sAsg (eCall F_moves_apart [] (eConsS (eOp dIx (eVarB 1) (eC (.int 0))) (eConsS (eOp dIx (eVarB 1) (eC (.int 1))) eNil))) (gD 2))))))))))) (("BadNumber", none, (sRet (eLst (eCons (eC (.str "number")) eNil)))) :: (("BadRow", some 3, (sRet (eLst (eCons (eC (.str "row")) (eCons (eXf 3 "BadRow" "index") eNil))))) :: (("PlaceError", none, (sRet (eLst (eCons (eC (.str "other")) eNil)))) :: []))))
    (sRet (eLst (eCons (eC (.str "let")) (eCons (eVar 2) eNil))))))
theorem F_law_called_ex : ∃ x : DFn, x = mkD0 2 4 S_law_called := ⟨_, rfl⟩
noncomputable def F_law_called : DFn := F_law_called_ex.choose
theorem F_law_called_eq : F_law_called = mkD0 2 4 S_law_called := F_law_called_ex.choose_spec
theorem S_law_refused_b19_ex : ∃ x : DSt, x = (sIf (eTest (eOp dNe (eCB dRepr (eCons (eVarB 15) eNil)) (eCB dRepr (eCons (eVarB 16) eNil))))
    (sRet (eC (.bl false)))
    sNext) := ⟨_, rfl⟩
noncomputable def S_law_refused_b19 : DSt := S_law_refused_b19_ex.choose
theorem S_law_refused_b19_eq : S_law_refused_b19 = (sIf (eTest (eOp dNe (eCB dRepr (eCons (eVarB 15) eNil)) (eCB dRepr (eCons (eVarB 16) eNil))))
    (sRet (eC (.bl false)))
    sNext) := S_law_refused_b19_ex.choose_spec
theorem S_law_refused_r21_ex : ∃ x : DSt, x = (sRet (eC (.bl true))) := ⟨_, rfl⟩
noncomputable def S_law_refused_r21 : DSt := S_law_refused_r21_ex.choose
theorem S_law_refused_r21_eq : S_law_refused_r21 = (sRet (eC (.bl true))) := S_law_refused_r21_ex.choose_spec
theorem S_law_refused_r18_ex : ∃ x : DSt, x = (sSeq (sFor (eSeq (eVar 14)) (gD2 15 16)
    S_law_refused_b19)
    S_law_refused_r21) := ⟨_, rfl⟩
noncomputable def S_law_refused_r18 : DSt := S_law_refused_r18_ex.choose
theorem S_law_refused_r18_eq : S_law_refused_r18 = (sSeq (sFor (eSeq (eVar 14)) (gD2 15 16)
    S_law_refused_b19)
    S_law_refused_r21) := S_law_refused_r18_ex.choose_spec
theorem S_law_refused_r17_ex : ∃ x : DSt, x = (sSeq (sFrz 4 (sFrz 9 (sAsg (eLst (eCons (eTup (eCons (eCall0 F_law_called [] (eConsS (eC (.int 0)) (eConsS (eLst (eCons (eVar 1) (eCons (eVar 6) (eCons (eVar 1) eNil)))) eNil))) (eCons (eLst (eCons (eC (.str "row")) (eCons (eVar 3) eNil))) eNil))) (eCons (eTup (eCons (eCall0 F_law_called [] (eConsS (eC (.int 0)) (eConsS (eLst (eCons (eVar 1) (eCons (eVar 6) (eCons (eOp dAdd (eVarB 1) (eC (.int 1))) eNil)))) eNil))) (eCons (eLst (eCons (eC (.str "row")) (eCons (eUn dNeg (eC (.int 1))) eNil))) eNil))) (eCons (eTup (eCons (eCall0 F_law_called [] (eConsS (eC (.int 0)) (eConsS (eLst (eCons (eVar 1) (eCons (eVar 12) (eCons (eVar 1) eNil)))) eNil))) (eCons (eLst (eCons (eC (.str "row")) (eCons (eUn dNeg (eC (.int 1))) eNil))) eNil))) (eCons (eTup (eCons (eCall0 F_law_called [] (eConsS (eC (.int 0)) (eConsS (eLst (eCons (eVar 1) (eCons (eVar 2) (eCons (eVar 1) eNil)))) eNil))) (eCons (eLst (eCons (eC (.str "let")) (eCons (eCB dTupOf (eCons (eVarB 2) eNil)) eNil))) eNil))) (eCons (eTup (eCons (eCall0 F_law_called [] (eConsS (eC (.int 0)) (eConsS (eLst (eCons (eVar 1) (eCons (eVar 7) (eCons (eOp dSub (eVarB 1) (eC (.int 1))) eNil)))) eNil))) (eCons (eLst (eCons (eC (.str "let")) (eCons (eCB dTupOf (eCons (eVarB 7) eNil)) eNil))) eNil))) (eCons (eTup (eCons (eCall0 F_law_called [] (eConsS (eC (.int 0)) (eConsS (eLst (eCons (eVar 1) (eCons (eVar 2) (eCons (eOp dSub (eVarB 1) (eC (.int 1))) eNil)))) eNil))) (eCons (eLst (eCons (eC (.str "row")) (eCons (eUn dNeg (eC (.int 1))) eNil))) eNil))) (eCons (eTup (eCons (eCall0 F_law_called [] (eConsS (eC (.int 1)) (eConsS (eLst (eCons (eVar 4) eNil)) eNil))) (eCons (eLst (eCons (eC (.str "row")) (eCons (eVar 3) eNil))) eNil))) (eCons (eTup (eCons (eCall0 F_law_called [] (eConsS (eC (.int 2)) (eConsS (eLst (eCons (eVar 4) eNil)) eNil))) (eCons (eLst (eCons (eC (.str "row")) (eCons (eVar 3) eNil))) eNil))) (eCons (eTup (eCons (eCall0 F_law_called [] (eConsS (eC (.int 1)) (eConsS (eLst (eCons (eVar 13) eNil)) eNil))) (eCons (eLst (eCons (eC (.str "row")) (eCons (eUn dNeg (eC (.int 1))) eNil))) eNil))) (eCons (eTup (eCons (eCall0 F_law_called [] (eConsS (eC (.int 2)) (eConsS (eLst (eCons (eVar 13) eNil)) eNil))) (eCons (eLst (eCons (eC (.str "row")) (eCons (eUn dNeg (eC (.int 1))) eNil))) eNil))) (eCons (eTup (eCons (eCall0 F_law_called [] (eConsS (eC (.int 1)) (eConsS (eLst (eCons (eVar 12) eNil)) eNil))) (eCons (eLst (eCons (eC (.str "row")) (eCons (eUn dNeg (eC (.int 1))) eNil))) eNil))) (eCons (eTup (eCons (eCall0 F_law_called [] (eConsS (eC (.int 2)) (eConsS (eLst (eCons (eVar 12) eNil)) eNil))) (eCons (eLst (eCons (eC (.str "row")) (eCons (eUn dNeg (eC (.int 1))) eNil))) eNil))) (eCons (eTup (eCons (eCall0 F_law_called [] (eConsS (eC (.int 1)) (eConsS (eLst (eCons (eLst eNil) eNil)) eNil))) (eCons (eLst (eCons (eC (.str "let")) (eCons (eTup eNil) eNil))) eNil))) (eCons (eTup (eCons (eCall0 F_law_called [] (eConsS (eC (.int 2)) (eConsS (eLst (eCons (eTup eNil) eNil)) eNil))) (eCons (eLst (eCons (eC (.str "let")) (eCons (eC (.int 0)) eNil))) eNil))) (eCons (eTup (eCons (eCall0 F_law_called [] (eConsS (eC (.int 1)) (eConsS (eLst (eCons (eLst (eCons (eC (.int 41)) (eCons (eC (.int 0)) eNil))) eNil)) eNil))) (eCons (eLst (eCons (eC (.str "row")) (eCons (eC (.int 0)) eNil))) eNil))) (eCons (eTup (eCons (eCall0 F_law_called [] (eConsS (eC (.int 2)) (eConsS (eLst (eCons (eLst (eCons (eC (.int 40)) (eCons (eC (.int 41)) eNil))) eNil)) eNil))) (eCons (eLst (eCons (eC (.str "row")) (eCons (eC (.int 1)) eNil))) eNil))) (eCons (eTup (eCons (eCall0 F_law_called [] (eConsS (eC (.int 3)) (eConsS (eLst (eCons (eVar 6) eNil)) eNil))) (eCons (eLst (eCons (eC (.str "row")) (eCons (eVar 3) eNil))) eNil))) (eCons (eTup (eCons (eCall0 F_law_called [] (eConsS (eC (.int 4)) (eConsS (eLst (eCons (eVar 6) eNil)) eNil))) (eCons (eLst (eCons (eC (.str "row")) (eCons (eVar 3) eNil))) eNil))) (eCons (eTup (eCons (eCall0 F_law_called [] (eConsS (eC (.int 3)) (eConsS (eLst (eCons (eLst eNil) eNil)) eNil))) (eCons (eLst (eCons (eC (.str "row")) (eCons (eUn dNeg (eC (.int 1))) eNil))) eNil))) (eCons (eTup (eCons (eCall0 F_law_called [] (eConsS (eC (.int 4)) (eConsS (eLst (eCons (eVar 13) eNil)) eNil))) (eCons (eLst (eCons (eC (.str "row")) (eCons (eUn dNeg (eC (.int 1))) eNil))) eNil))) (eCons (eTup (eCons (eCall0 F_law_called [] (eConsS (eC (.int 3)) (eConsS (eLst (eCons (eVar 13) eNil)) eNil))) (eCons (eLst (eCons (eC (.str "row")) (eCons (eUn dNeg (eC (.int 1))) eNil))) eNil))) (eCons (eTup (eCons (eCall0 F_law_called [] (eConsS (eC (.int 4)) (eConsS (eLst (eCons (eVar 12) eNil)) eNil))) (eCons (eLst (eCons (eC (.str "row")) (eCons (eUn dNeg (eC (.int 1))) eNil))) eNil))) (eCons (eTup (eCons (eCall0 F_law_called [] (eConsS (eC (.int 5)) (eConsS (eLst (eCons (eVar 10) (eCons (eVar 9) eNil))) eNil))) (eCons (eLst (eCons (eC (.str "number")) eNil)) eNil))) (eCons (eTup (eCons (eCall0 F_law_called [] (eConsS (eC (.int 5)) (eConsS (eLst (eCons (eVar 1) (eCons (eVar 9) eNil))) eNil))) (eCons (eLst (eCons (eC (.str "row")) (eCons (eVar 8) eNil))) eNil))) (eCons (eTup (eCons (eCall0 F_law_called [] (eConsS (eC (.int 5)) (eConsS (eLst (eCons (eVar 1) (eCons (eVar 2) eNil))) eNil))) (eCons (eLst (eCons (eC (.str "row")) (eCons (eUn dNeg (eC (.int 1))) eNil))) eNil))) (eCons (eTup (eCons (eCall0 F_law_called [] (eConsS (eC (.int 5)) (eConsS (eLst (eCons (eOp dAdd (eVarB 1) (eC (.int 1))) (eCons (eVar 7) eNil))) eNil))) (eCons (eLst (eCons (eC (.str "row")) (eCons (eUn dNeg (eC (.int 1))) eNil))) eNil))) (eCons (eTup (eCons (eCall0 F_law_called [] (eConsS (eC (.int 6)) (eConsS (eLst (eCons (eVar 6) (eCons (eVar 11) eNil))) eNil))) (eCons (eLst (eCons (eC (.str "row")) (eCons (eVar 3) eNil))) eNil))) (eCons (eTup (eCons (eCall0 F_law_called [] (eConsS (eC (.int 6)) (eConsS (eLst (eCons (eVar 2) (eCons (eVar 11) eNil))) eNil))) (eCons (eLst (eCons (eC (.str "number")) eNil)) eNil))) (eCons (eTup (eCons (eCall0 F_law_called [] (eConsS (eC (.int 7)) (eConsS (eLst (eCons (eVar 10) (eCons (eVar 9) (eCons (eVar 11) eNil)))) eNil))) (eCons (eLst (eCons (eC (.str "number")) eNil)) eNil))) (eCons (eTup (eCons (eCall0 F_law_called [] (eConsS (eC (.int 7)) (eConsS (eLst (eCons (eVar 1) (eCons (eVar 9) (eCons (eVar 11) eNil)))) eNil))) (eCons (eLst (eCons (eC (.str "row")) (eCons (eVar 8) eNil))) eNil))) (eCons (eTup (eCons (eCall0 F_law_called [] (eConsS (eC (.int 7)) (eConsS (eLst (eCons (eVar 1) (eCons (eVar 7) (eCons (eVar 11) eNil)))) eNil))) (eCons (eLst (eCons (eC (.str "number")) eNil)) eNil))) (eCons (eTup (eCons (eCall0 F_law_called [] (eConsS (eC (.int 7)) (eConsS (eLst (eCons (eVar 1) (eCons (eVar 7) (eCons (eVar 1) eNil)))) eNil))) (eCons (eLst (eCons (eC (.str "let")) (eCons (eOp dAdd (eCB dTupOf (eCons (eVarB 7) eNil)) (eTup (eCons (eOp dIx (eVarB 2) (eC (.int 0))) eNil))) eNil))) eNil))) (eCons (eTup (eCons (eCall0 F_law_called [] (eConsS (eC (.int 8)) (eConsS (eLst (eCons (eVar 10) (eCons (eVar 9) eNil))) eNil))) (eCons (eLst (eCons (eC (.str "number")) eNil)) eNil))) (eCons (eTup (eCons (eCall0 F_law_called [] (eConsS (eC (.int 8)) (eConsS (eLst (eCons (eVar 1) (eCons (eVar 9) eNil))) eNil))) (eCons (eLst (eCons (eC (.str "row")) (eCons (eVar 8) eNil))) eNil))) (eCons (eTup (eCons (eCall0 F_law_called [] (eConsS (eC (.int 9)) (eConsS (eLst (eCons (eVar 6) (eCons (eVar 12) eNil))) eNil))) (eCons (eLst (eCons (eC (.str "row")) (eCons (eVar 3) eNil))) eNil))) (eCons (eTup (eCons (eCall0 F_law_called [] (eConsS (eC (.int 9)) (eConsS (eLst (eCons (eVar 2) (eCons (eVar 6) eNil))) eNil))) (eCons (eLst (eCons (eC (.str "row")) (eCons (eVar 3) eNil))) eNil))) (eCons (eTup (eCons (eCall0 F_law_called [] (eConsS (eC (.int 9)) (eConsS (eLst (eCons (eVar 2) (eCons (eVar 7) eNil))) eNil))) (eCons (eLst (eCons (eC (.str "row")) (eCons (eUn dNeg (eC (.int 1))) eNil))) eNil))) (eCons (eTup (eCons (eCall0 F_law_called [] (eConsS (eC (.int 9)) (eConsS (eLst (eCons (eVar 12) (eCons (eVar 2) eNil))) eNil))) (eCons (eLst (eCons (eC (.str "row")) (eCons (eUn dNeg (eC (.int 1))) eNil))) eNil))) eNil))))))))))))))))))))))))))))))))))))))) (gD 14))))
    S_law_refused_r18) := ⟨_, rfl⟩
noncomputable def S_law_refused_r17 : DSt := S_law_refused_r17_ex.choose
theorem S_law_refused_r17_eq : S_law_refused_r17 = (sSeq (sFrz 4 (sFrz 9 (sAsg (eLst (eCons (eTup (eCons (eCall0 F_law_called [] (eConsS (eC (.int 0)) (eConsS (eLst (eCons (eVar 1) (eCons (eVar 6) (eCons (eVar 1) eNil)))) eNil))) (eCons (eLst (eCons (eC (.str "row")) (eCons (eVar 3) eNil))) eNil))) (eCons (eTup (eCons (eCall0 F_law_called [] (eConsS (eC (.int 0)) (eConsS (eLst (eCons (eVar 1) (eCons (eVar 6) (eCons (eOp dAdd (eVarB 1) (eC (.int 1))) eNil)))) eNil))) (eCons (eLst (eCons (eC (.str "row")) (eCons (eUn dNeg (eC (.int 1))) eNil))) eNil))) (eCons (eTup (eCons (eCall0 F_law_called [] (eConsS (eC (.int 0)) (eConsS (eLst (eCons (eVar 1) (eCons (eVar 12) (eCons (eVar 1) eNil)))) eNil))) (eCons (eLst (eCons (eC (.str "row")) (eCons (eUn dNeg (eC (.int 1))) eNil))) eNil))) (eCons (eTup (eCons (eCall0 F_law_called [] (eConsS (eC (.int 0)) (eConsS (eLst (eCons (eVar 1) (eCons (eVar 2) (eCons (eVar 1) eNil)))) eNil))) (eCons (eLst (eCons (eC (.str "let")) (eCons (eCB dTupOf (eCons (eVarB 2) eNil)) eNil))) eNil))) (eCons (eTup (eCons (eCall0 F_law_called [] (eConsS (eC (.int 0)) (eConsS (eLst (eCons (eVar 1) (eCons (eVar 7) (eCons (eOp dSub (eVarB 1) (eC (.int 1))) eNil)))) eNil))) (eCons (eLst (eCons (eC (.str "let")) (eCons (eCB dTupOf (eCons (eVarB 7) eNil)) eNil))) eNil))) (eCons (eTup (eCons (eCall0 F_law_called [] (eConsS (eC (.int 0)) (eConsS (eLst (eCons (eVar 1) (eCons (eVar 2) (eCons (eOp dSub (eVarB 1) (eC (.int 1))) eNil)))) eNil))) (eCons (eLst (eCons (eC (.str "row")) (eCons (eUn dNeg (eC (.int 1))) eNil))) eNil))) (eCons (eTup (eCons (eCall0 F_law_called [] (eConsS (eC (.int 1)) (eConsS (eLst (eCons (eVar 4) eNil)) eNil))) (eCons (eLst (eCons (eC (.str "row")) (eCons (eVar 3) eNil))) eNil))) (eCons (eTup (eCons (eCall0 F_law_called [] (eConsS (eC (.int 2)) (eConsS (eLst (eCons (eVar 4) eNil)) eNil))) (eCons (eLst (eCons (eC (.str "row")) (eCons (eVar 3) eNil))) eNil))) (eCons (eTup (eCons (eCall0 F_law_called [] (eConsS (eC (.int 1)) (eConsS (eLst (eCons (eVar 13) eNil)) eNil))) (eCons (eLst (eCons (eC (.str "row")) (eCons (eUn dNeg (eC (.int 1))) eNil))) eNil))) (eCons (eTup (eCons (eCall0 F_law_called [] (eConsS (eC (.int 2)) (eConsS (eLst (eCons (eVar 13) eNil)) eNil))) (eCons (eLst (eCons (eC (.str "row")) (eCons (eUn dNeg (eC (.int 1))) eNil))) eNil))) (eCons (eTup (eCons (eCall0 F_law_called [] (eConsS (eC (.int 1)) (eConsS (eLst (eCons (eVar 12) eNil)) eNil))) (eCons (eLst (eCons (eC (.str "row")) (eCons (eUn dNeg (eC (.int 1))) eNil))) eNil))) (eCons (eTup (eCons (eCall0 F_law_called [] (eConsS (eC (.int 2)) (eConsS (eLst (eCons (eVar 12) eNil)) eNil))) (eCons (eLst (eCons (eC (.str "row")) (eCons (eUn dNeg (eC (.int 1))) eNil))) eNil))) (eCons (eTup (eCons (eCall0 F_law_called [] (eConsS (eC (.int 1)) (eConsS (eLst (eCons (eLst eNil) eNil)) eNil))) (eCons (eLst (eCons (eC (.str "let")) (eCons (eTup eNil) eNil))) eNil))) (eCons (eTup (eCons (eCall0 F_law_called [] (eConsS (eC (.int 2)) (eConsS (eLst (eCons (eTup eNil) eNil)) eNil))) (eCons (eLst (eCons (eC (.str "let")) (eCons (eC (.int 0)) eNil))) eNil))) (eCons (eTup (eCons (eCall0 F_law_called [] (eConsS (eC (.int 1)) (eConsS (eLst (eCons (eLst (eCons (eC (.int 41)) (eCons (eC (.int 0)) eNil))) eNil)) eNil))) (eCons (eLst (eCons (eC (.str "row")) (eCons (eC (.int 0)) eNil))) eNil))) (eCons (eTup (eCons (eCall0 F_law_called [] (eConsS (eC (.int 2)) (eConsS (eLst (eCons (eLst (eCons (eC (.int 40)) (eCons (eC (.int 41)) eNil))) eNil)) eNil))) (eCons (eLst (eCons (eC (.str "row")) (eCons (eC (.int 1)) eNil))) eNil))) (eCons (eTup (eCons (eCall0 F_law_called [] (eConsS (eC (.int 3)) (eConsS (eLst (eCons (eVar 6) eNil)) eNil))) (eCons (eLst (eCons (eC (.str "row")) (eCons (eVar 3) eNil))) eNil))) (eCons (eTup (eCons (eCall0 F_law_called [] (eConsS (eC (.int 4)) (eConsS (eLst (eCons (eVar 6) eNil)) eNil))) (eCons (eLst (eCons (eC (.str "row")) (eCons (eVar 3) eNil))) eNil))) (eCons (eTup (eCons (eCall0 F_law_called [] (eConsS (eC (.int 3)) (eConsS (eLst (eCons (eLst eNil) eNil)) eNil))) (eCons (eLst (eCons (eC (.str "row")) (eCons (eUn dNeg (eC (.int 1))) eNil))) eNil))) (eCons (eTup (eCons (eCall0 F_law_called [] (eConsS (eC (.int 4)) (eConsS (eLst (eCons (eVar 13) eNil)) eNil))) (eCons (eLst (eCons (eC (.str "row")) (eCons (eUn dNeg (eC (.int 1))) eNil))) eNil))) (eCons (eTup (eCons (eCall0 F_law_called [] (eConsS (eC (.int 3)) (eConsS (eLst (eCons (eVar 13) eNil)) eNil))) (eCons (eLst (eCons (eC (.str "row")) (eCons (eUn dNeg (eC (.int 1))) eNil))) eNil))) (eCons (eTup (eCons (eCall0 F_law_called [] (eConsS (eC (.int 4)) (eConsS (eLst (eCons (eVar 12) eNil)) eNil))) (eCons (eLst (eCons (eC (.str "row")) (eCons (eUn dNeg (eC (.int 1))) eNil))) eNil))) (eCons (eTup (eCons (eCall0 F_law_called [] (eConsS (eC (.int 5)) (eConsS (eLst (eCons (eVar 10) (eCons (eVar 9) eNil))) eNil))) (eCons (eLst (eCons (eC (.str "number")) eNil)) eNil))) (eCons (eTup (eCons (eCall0 F_law_called [] (eConsS (eC (.int 5)) (eConsS (eLst (eCons (eVar 1) (eCons (eVar 9) eNil))) eNil))) (eCons (eLst (eCons (eC (.str "row")) (eCons (eVar 8) eNil))) eNil))) (eCons (eTup (eCons (eCall0 F_law_called [] (eConsS (eC (.int 5)) (eConsS (eLst (eCons (eVar 1) (eCons (eVar 2) eNil))) eNil))) (eCons (eLst (eCons (eC (.str "row")) (eCons (eUn dNeg (eC (.int 1))) eNil))) eNil))) (eCons (eTup (eCons (eCall0 F_law_called [] (eConsS (eC (.int 5)) (eConsS (eLst (eCons (eOp dAdd (eVarB 1) (eC (.int 1))) (eCons (eVar 7) eNil))) eNil))) (eCons (eLst (eCons (eC (.str "row")) (eCons (eUn dNeg (eC (.int 1))) eNil))) eNil))) (eCons (eTup (eCons (eCall0 F_law_called [] (eConsS (eC (.int 6)) (eConsS (eLst (eCons (eVar 6) (eCons (eVar 11) eNil))) eNil))) (eCons (eLst (eCons (eC (.str "row")) (eCons (eVar 3) eNil))) eNil))) (eCons (eTup (eCons (eCall0 F_law_called [] (eConsS (eC (.int 6)) (eConsS (eLst (eCons (eVar 2) (eCons (eVar 11) eNil))) eNil))) (eCons (eLst (eCons (eC (.str "number")) eNil)) eNil))) (eCons (eTup (eCons (eCall0 F_law_called [] (eConsS (eC (.int 7)) (eConsS (eLst (eCons (eVar 10) (eCons (eVar 9) (eCons (eVar 11) eNil)))) eNil))) (eCons (eLst (eCons (eC (.str "number")) eNil)) eNil))) (eCons (eTup (eCons (eCall0 F_law_called [] (eConsS (eC (.int 7)) (eConsS (eLst (eCons (eVar 1) (eCons (eVar 9) (eCons (eVar 11) eNil)))) eNil))) (eCons (eLst (eCons (eC (.str "row")) (eCons (eVar 8) eNil))) eNil))) (eCons (eTup (eCons (eCall0 F_law_called [] (eConsS (eC (.int 7)) (eConsS (eLst (eCons (eVar 1) (eCons (eVar 7) (eCons (eVar 11) eNil)))) eNil))) (eCons (eLst (eCons (eC (.str "number")) eNil)) eNil))) (eCons (eTup (eCons (eCall0 F_law_called [] (eConsS (eC (.int 7)) (eConsS (eLst (eCons (eVar 1) (eCons (eVar 7) (eCons (eVar 1) eNil)))) eNil))) (eCons (eLst (eCons (eC (.str "let")) (eCons (eOp dAdd (eCB dTupOf (eCons (eVarB 7) eNil)) (eTup (eCons (eOp dIx (eVarB 2) (eC (.int 0))) eNil))) eNil))) eNil))) (eCons (eTup (eCons (eCall0 F_law_called [] (eConsS (eC (.int 8)) (eConsS (eLst (eCons (eVar 10) (eCons (eVar 9) eNil))) eNil))) (eCons (eLst (eCons (eC (.str "number")) eNil)) eNil))) (eCons (eTup (eCons (eCall0 F_law_called [] (eConsS (eC (.int 8)) (eConsS (eLst (eCons (eVar 1) (eCons (eVar 9) eNil))) eNil))) (eCons (eLst (eCons (eC (.str "row")) (eCons (eVar 8) eNil))) eNil))) (eCons (eTup (eCons (eCall0 F_law_called [] (eConsS (eC (.int 9)) (eConsS (eLst (eCons (eVar 6) (eCons (eVar 12) eNil))) eNil))) (eCons (eLst (eCons (eC (.str "row")) (eCons (eVar 3) eNil))) eNil))) (eCons (eTup (eCons (eCall0 F_law_called [] (eConsS (eC (.int 9)) (eConsS (eLst (eCons (eVar 2) (eCons (eVar 6) eNil))) eNil))) (eCons (eLst (eCons (eC (.str "row")) (eCons (eVar 3) eNil))) eNil))) (eCons (eTup (eCons (eCall0 F_law_called [] (eConsS (eC (.int 9)) (eConsS (eLst (eCons (eVar 2) (eCons (eVar 7) eNil))) eNil))) (eCons (eLst (eCons (eC (.str "row")) (eCons (eUn dNeg (eC (.int 1))) eNil))) eNil))) (eCons (eTup (eCons (eCall0 F_law_called [] (eConsS (eC (.int 9)) (eConsS (eLst (eCons (eVar 12) (eCons (eVar 2) eNil))) eNil))) (eCons (eLst (eCons (eC (.str "row")) (eCons (eUn dNeg (eC (.int 1))) eNil))) eNil))) eNil))))))))))))))))))))))))))))))))))))))) (gD 14))))
    S_law_refused_r18) := S_law_refused_r17_ex.choose_spec
theorem S_law_refused_r16_ex : ∃ x : DSt, x = (sSeq (sAsg (eRgL (eC (.int 1)) (eC (.int 42)) .lst) (gD 13))
    S_law_refused_r17) := ⟨_, rfl⟩
noncomputable def S_law_refused_r16 : DSt := S_law_refused_r16_ex.choose
theorem S_law_refused_r16_eq : S_law_refused_r16 = (sSeq (sAsg (eRgL (eC (.int 1)) (eC (.int 42)) .lst) (gD 13))
    S_law_refused_r17) := S_law_refused_r16_ex.choose_spec
theorem S_law_refused_r15_ex : ∃ x : DSt, x = (sSeq (sAsg (eOp dIx (eLst (eCons (eC .non) (eCons (eC (.str "12")) (eCons (eC (.int 7)) (eCons (eC (.bl true)) eNil))))) (eCall0 F_law_take [] (eConsH 0 (eConsS (eC (.int 4)) eNil)))) (gD 12))
    S_law_refused_r16) := ⟨_, rfl⟩
noncomputable def S_law_refused_r15 : DSt := S_law_refused_r15_ex.choose
theorem S_law_refused_r15_eq : S_law_refused_r15 = (sSeq (sAsg (eOp dIx (eLst (eCons (eC .non) (eCons (eC (.str "12")) (eCons (eC (.int 7)) (eCons (eC (.bl true)) eNil))))) (eCall0 F_law_take [] (eConsH 0 (eConsS (eC (.int 4)) eNil)))) (gD 12))
    S_law_refused_r16) := S_law_refused_r15_ex.choose_spec
theorem S_law_refused_r14_ex : ∃ x : DSt, x = (sSeq (sAsg (eOp dIx (eLst (eCons (eC (.int 0)) (eCons (eOp dAdd (eVarB 1) (eC (.int 1))) (eCons (eC (.bl true)) (eCons (eC .non) (eCons (eC (.str "2")) (eCons (eUn dNeg (eC (.int 1))) (eCons (eC (.bl false)) (eCons (eC (.int (100000000000000000000))) eNil))))))))) (eCall0 F_law_take [] (eConsH 0 (eConsS (eC (.int 8)) eNil)))) (gD 11))
    S_law_refused_r15) := ⟨_, rfl⟩
noncomputable def S_law_refused_r14 : DSt := S_law_refused_r14_ex.choose
theorem S_law_refused_r14_eq : S_law_refused_r14 = (sSeq (sAsg (eOp dIx (eLst (eCons (eC (.int 0)) (eCons (eOp dAdd (eVarB 1) (eC (.int 1))) (eCons (eC (.bl true)) (eCons (eC .non) (eCons (eC (.str "2")) (eCons (eUn dNeg (eC (.int 1))) (eCons (eC (.bl false)) (eCons (eC (.int (100000000000000000000))) eNil))))))))) (eCall0 F_law_take [] (eConsH 0 (eConsS (eC (.int 8)) eNil)))) (gD 11))
    S_law_refused_r15) := S_law_refused_r14_ex.choose_spec
theorem S_law_refused_r13_ex : ∃ x : DSt, x = (sSeq (sAsg (eOp dIx (eLst (eCons (eC (.int 0)) (eCons (eC (.int 41)) (eCons (eC (.bl true)) (eCons (eC .non) (eCons (eC (.str "2")) (eCons (eUn dNeg (eC (.int 1))) (eCons (eC (.bl false)) (eCons (eC (.int (100000000000000000000))) eNil))))))))) (eCall0 F_law_take [] (eConsH 0 (eConsS (eC (.int 8)) eNil)))) (gD 10))
    S_law_refused_r14) := ⟨_, rfl⟩
noncomputable def S_law_refused_r13 : DSt := S_law_refused_r13_ex.choose
theorem S_law_refused_r13_eq : S_law_refused_r13 = (sSeq (sAsg (eOp dIx (eLst (eCons (eC (.int 0)) (eCons (eC (.int 41)) (eCons (eC (.bl true)) (eCons (eC .non) (eCons (eC (.str "2")) (eCons (eUn dNeg (eC (.int 1))) (eCons (eC (.bl false)) (eCons (eC (.int (100000000000000000000))) eNil))))))))) (eCall0 F_law_take [] (eConsH 0 (eConsS (eC (.int 8)) eNil)))) (gD 10))
    S_law_refused_r14) := S_law_refused_r13_ex.choose_spec
theorem S_law_refused_r12_ex : ∃ x : DSt, x = (sSeq (sPut 9 (eVar 8) (eOp dIx (eLst (eCons (eC (.int 0)) (eCons (eOp dAdd (eVarB 1) (eC (.int 1))) (eCons (eC (.bl true)) (eCons (eC .non) (eCons (eC (.str "1")) (eCons (eUn dNeg (eC (.int 1))) (eCons (eC (.bl false)) (eCons (eIf (eTest (eOp dGt (eVarB 8) (eC (.int 0)))) (eOp dIx (eVarB 7) (eOp dSub (eVarB 8) (eC (.int 1)))) (eC (.int 0))) eNil))))))))) (eCall0 F_law_take [] (eConsH 0 (eConsS (eC (.int 8)) eNil)))))
    S_law_refused_r13) := ⟨_, rfl⟩
noncomputable def S_law_refused_r12 : DSt := S_law_refused_r12_ex.choose
theorem S_law_refused_r12_eq : S_law_refused_r12 = (sSeq (sPut 9 (eVar 8) (eOp dIx (eLst (eCons (eC (.int 0)) (eCons (eOp dAdd (eVarB 1) (eC (.int 1))) (eCons (eC (.bl true)) (eCons (eC .non) (eCons (eC (.str "1")) (eCons (eUn dNeg (eC (.int 1))) (eCons (eC (.bl false)) (eCons (eIf (eTest (eOp dGt (eVarB 8) (eC (.int 0)))) (eOp dIx (eVarB 7) (eOp dSub (eVarB 8) (eC (.int 1)))) (eC (.int 0))) eNil))))))))) (eCall0 F_law_take [] (eConsH 0 (eConsS (eC (.int 8)) eNil)))))
    S_law_refused_r13) := S_law_refused_r12_ex.choose_spec
theorem S_law_refused_r11_ex : ∃ x : DSt, x = (sSeq (sOwn 9 (eCB dLstOf (eCons (eVarB 7) eNil)))
    S_law_refused_r12) := ⟨_, rfl⟩
noncomputable def S_law_refused_r11 : DSt := S_law_refused_r11_ex.choose
theorem S_law_refused_r11_eq : S_law_refused_r11 = (sSeq (sOwn 9 (eCB dLstOf (eCons (eVarB 7) eNil)))
    S_law_refused_r12) := S_law_refused_r11_ex.choose_spec
theorem S_law_refused_r10_ex : ∃ x : DSt, x = (sSeq (sAsg (eCall0 F_law_take [] (eConsH 0 (eConsS (eOp dSub (eVarB 1) (eC (.int 1))) eNil))) (gD 8))
    S_law_refused_r11) := ⟨_, rfl⟩
noncomputable def S_law_refused_r10 : DSt := S_law_refused_r10_ex.choose
theorem S_law_refused_r10_eq : S_law_refused_r10 = (sSeq (sAsg (eCall0 F_law_take [] (eConsH 0 (eConsS (eOp dSub (eVarB 1) (eC (.int 1))) eNil))) (gD 8))
    S_law_refused_r11) := S_law_refused_r10_ex.choose_spec
theorem S_law_refused_r9_ex : ∃ x : DSt, x = (sSeq (sAsg (eSl dSl (eVarB 2) (ePart (eC (.int 1))) eNoPart) (gD 7))
    S_law_refused_r10) := ⟨_, rfl⟩
noncomputable def S_law_refused_r9 : DSt := S_law_refused_r9_ex.choose
theorem S_law_refused_r9_eq : S_law_refused_r9 = (sSeq (sAsg (eSl dSl (eVarB 2) (ePart (eC (.int 1))) eNoPart) (gD 7))
    S_law_refused_r10) := S_law_refused_r9_ex.choose_spec
theorem S_law_refused_r8_ex : ∃ x : DSt, x = (sSeq (sFrz 4 (sFrz 5 (sAsg (eOp dIx (eLst (eCons (eVar 4) (eCons (eVar 5) eNil))) (eCall0 F_law_take [] (eConsH 0 (eConsS (eC (.int 2)) eNil)))) (gD 6))))
    S_law_refused_r9) := ⟨_, rfl⟩
noncomputable def S_law_refused_r8 : DSt := S_law_refused_r8_ex.choose
theorem S_law_refused_r8_eq : S_law_refused_r8 = (sSeq (sFrz 4 (sFrz 5 (sAsg (eOp dIx (eLst (eCons (eVar 4) (eCons (eVar 5) eNil))) (eCall0 F_law_take [] (eConsH 0 (eConsS (eC (.int 2)) eNil)))) (gD 6))))
    S_law_refused_r9) := S_law_refused_r8_ex.choose_spec
theorem S_law_refused_r7_ex : ∃ x : DSt, x = (sSeq (sPut 5 (eVar 3) (eOp dIx (eLst (eCons (eC (.int 0)) (eCons (eOp dAdd (eVarB 1) (eC (.int 1))) (eCons (eC (.bl true)) (eCons (eC .non) (eCons (eC (.str "1")) (eCons (eUn dNeg (eC (.int 1))) (eCons (eC (.bl false)) (eCons (eTup (eCons (eC (.int 1)) eNil)) eNil))))))))) (eCall0 F_law_take [] (eConsH 0 (eConsS (eC (.int 8)) eNil)))))
    S_law_refused_r8) := ⟨_, rfl⟩
noncomputable def S_law_refused_r7 : DSt := S_law_refused_r7_ex.choose
theorem S_law_refused_r7_eq : S_law_refused_r7 = (sSeq (sPut 5 (eVar 3) (eOp dIx (eLst (eCons (eC (.int 0)) (eCons (eOp dAdd (eVarB 1) (eC (.int 1))) (eCons (eC (.bl true)) (eCons (eC .non) (eCons (eC (.str "1")) (eCons (eUn dNeg (eC (.int 1))) (eCons (eC (.bl false)) (eCons (eTup (eCons (eC (.int 1)) eNil)) eNil))))))))) (eCall0 F_law_take [] (eConsH 0 (eConsS (eC (.int 8)) eNil)))))
    S_law_refused_r8) := S_law_refused_r7_ex.choose_spec
theorem S_law_refused_r6_ex : ∃ x : DSt, x = (sSeq (sOwn 5 (eCB dLstOf (eCons (eVarB 2) eNil)))
    S_law_refused_r7) := ⟨_, rfl⟩
noncomputable def S_law_refused_r6 : DSt := S_law_refused_r6_ex.choose
theorem S_law_refused_r6_eq : S_law_refused_r6 = (sSeq (sOwn 5 (eCB dLstOf (eCons (eVarB 2) eNil)))
    S_law_refused_r7) := S_law_refused_r6_ex.choose_spec
theorem S_law_refused_r5_ex : ∃ x : DSt, x = (sSeq (sPut 4 (eVar 3) (eIf (eTest (eOp dGt (eVarB 3) (eC (.int 0)))) (eOp dIx (eVarB 2) (eCall0 F_law_take [] (eConsH 0 (eConsS (eVar 3) eNil)))) (eC (.int 0))))
    S_law_refused_r6) := ⟨_, rfl⟩
noncomputable def S_law_refused_r5 : DSt := S_law_refused_r5_ex.choose
theorem S_law_refused_r5_eq : S_law_refused_r5 = (sSeq (sPut 4 (eVar 3) (eIf (eTest (eOp dGt (eVarB 3) (eC (.int 0)))) (eOp dIx (eVarB 2) (eCall0 F_law_take [] (eConsH 0 (eConsS (eVar 3) eNil)))) (eC (.int 0))))
    S_law_refused_r6) := S_law_refused_r5_ex.choose_spec
theorem S_law_refused_r4_ex : ∃ x : DSt, x = (sSeq (sOwn 4 (eCB dLstOf (eCons (eVarB 2) eNil)))
    S_law_refused_r5) := ⟨_, rfl⟩
noncomputable def S_law_refused_r4 : DSt := S_law_refused_r4_ex.choose
theorem S_law_refused_r4_eq : S_law_refused_r4 = (sSeq (sOwn 4 (eCB dLstOf (eCons (eVarB 2) eNil)))
    S_law_refused_r5) := S_law_refused_r4_ex.choose_spec
theorem S_law_refused_r3_ex : ∃ x : DSt, x = (sSeq (sAsg (eCall0 F_law_take [] (eConsH 0 (eConsS (eVar 1) eNil))) (gD 3))
    S_law_refused_r4) := ⟨_, rfl⟩
noncomputable def S_law_refused_r3 : DSt := S_law_refused_r3_ex.choose
theorem S_law_refused_r3_eq : S_law_refused_r3 = (sSeq (sAsg (eCall0 F_law_take [] (eConsH 0 (eConsS (eVar 1) eNil))) (gD 3))
    S_law_refused_r4) := S_law_refused_r3_ex.choose_spec
theorem S_law_refused_r2_ex : ∃ x : DSt, x = (sSeq (sAsg (eCB dLstOf (eCons (eCall0 F_law_order [] (eConsH 0 (eConsS (eVar 1) eNil))) eNil)) (gD 2))
    S_law_refused_r3) := ⟨_, rfl⟩
noncomputable def S_law_refused_r2 : DSt := S_law_refused_r2_ex.choose
theorem S_law_refused_r2_eq : S_law_refused_r2 = (sSeq (sAsg (eCB dLstOf (eCons (eCall0 F_law_order [] (eConsH 0 (eConsS (eVar 1) eNil))) eNil)) (gD 2))
    S_law_refused_r3) := S_law_refused_r2_ex.choose_spec
def S_law_refused : DSt := (sSeq (sAsg (eOp dAdd (eC (.int 2)) (eCall0 F_law_take [] (eConsH 0 (eConsS (eC (.int 7)) eNil)))) (gD 1))
    S_law_refused_r2)
theorem F_law_refused_ex : ∃ x : DFn, x = mkD0 1 17 S_law_refused := ⟨_, rfl⟩
noncomputable def F_law_refused : DFn := F_law_refused_ex.choose
theorem F_law_refused_eq : F_law_refused = mkD0 1 17 S_law_refused := F_law_refused_ex.choose_spec
def S_law_common : DSt := (sSeq (sOwn 2 (eOp dMulL (eLst (eCons (eC (.int 0)) eNil)) (eOp dAdd (eCB dLen (eCons (eVarB 1) eNil)) (eC (.int 1)))))
    (sSeq (sFor (eSeq (eVar 0)) (gD 3)
    (sSeq (sAsg (eC (.int 0)) (gD 4))
    (sFor (eRng1 (eCons (eCB dLen (eCons (eVarB 1) eNil)) eNil)) (gD 5)
    (sSeq (sAsg (eOp dIx (eVarB 2) (eOp dAdd (eVarB 5) (eC (.int 1)))) (gD 6))
    (sSeq (sIf (eTest (eOp dEq (eOp dIx (eVarB 1) (eVarB 5)) (eVarB 3)))
    (sPut 2 (eOp dAdd (eVarB 5) (eC (.int 1))) (eOp dAdd (eVarB 4) (eC (.int 1))))
    (sPut 2 (eOp dAdd (eVarB 5) (eC (.int 1))) (eCB dMax2 (eCons (eOp dIx (eVarB 2) (eOp dAdd (eVarB 5) (eC (.int 1)))) (eCons (eOp dIx (eVarB 2) (eVarB 5)) eNil)))))
    (sAsg (eVar 6) (gD 4)))))))
    (sRet (eOp dIx (eVarB 2) (eCB dLen (eCons (eVarB 1) eNil))))))
theorem F_law_common_ex : ∃ x : DFn, x = mkD0 2 7 S_law_common := ⟨_, rfl⟩
noncomputable def F_law_common : DFn := F_law_common_ex.choose
theorem F_law_common_eq : F_law_common = mkD0 2 7 S_law_common := F_law_common_ex.choose_spec
theorem S_law_moves_right_r8_ex : ∃ x : DSt, x = (sAsg (eCall0 F_law_with [] (eConsS (eCall0 F_law_without [] (eConsS (eVar 3) (eConsS (eVar 5) eNil))) (eConsS (eVar 5) (eConsS (eOp dAdd (eC (.int 1)) (eCall0 F_law_take [] (eConsH 0 (eConsS (eVar 1) eNil)))) eNil)))) (gD 3)) := ⟨_, rfl⟩
noncomputable def S_law_moves_right_r8 : DSt := S_law_moves_right_r8_ex.choose
theorem S_law_moves_right_r8_eq : S_law_moves_right_r8 = (sAsg (eCall0 F_law_with [] (eConsS (eCall0 F_law_without [] (eConsS (eVar 3) (eConsS (eVar 5) eNil))) (eConsS (eVar 5) (eConsS (eOp dAdd (eC (.int 1)) (eCall0 F_law_take [] (eConsH 0 (eConsS (eVar 1) eNil)))) eNil)))) (gD 3)) := S_law_moves_right_r8_ex.choose_spec
theorem S_law_moves_right_b7_ex : ∃ x : DSt, x = (sSeq (sAsg (eOp dAdd (eC (.int 1)) (eCall0 F_law_take [] (eConsH 0 (eConsS (eVar 1) eNil)))) (gD 5))
    S_law_moves_right_r8) := ⟨_, rfl⟩
noncomputable def S_law_moves_right_b7 : DSt := S_law_moves_right_b7_ex.choose
theorem S_law_moves_right_b7_eq : S_law_moves_right_b7 = (sSeq (sAsg (eOp dAdd (eC (.int 1)) (eCall0 F_law_take [] (eConsH 0 (eConsS (eVar 1) eNil)))) (gD 5))
    S_law_moves_right_r8) := S_law_moves_right_b7_ex.choose_spec
theorem S_law_moves_right_r6_ex : ∃ x : DSt, x = (sFor (eRng1 (eCons (eCall0 F_law_take [] (eConsH 0 (eConsS (eC (.int 5)) eNil))) eNil)) (gD 4)
    S_law_moves_right_b7) := ⟨_, rfl⟩
noncomputable def S_law_moves_right_r6 : DSt := S_law_moves_right_r6_ex.choose
theorem S_law_moves_right_r6_eq : S_law_moves_right_r6 = (sFor (eRng1 (eCons (eCall0 F_law_take [] (eConsH 0 (eConsS (eC (.int 5)) eNil))) eNil)) (gD 4)
    S_law_moves_right_b7) := S_law_moves_right_r6_ex.choose_spec
theorem S_law_moves_right_r12_ex : ∃ x : DSt, x = (sRet (eOp dEq (eCB dRepr (eCons (eCall0 F_moves_apart [] (eConsS (eVar 2) (eConsS (eVar 2) eNil))) eNil)) (eC (.str "0")))) := ⟨_, rfl⟩
noncomputable def S_law_moves_right_r12 : DSt := S_law_moves_right_r12_ex.choose
theorem S_law_moves_right_r12_eq : S_law_moves_right_r12 = (sRet (eOp dEq (eCB dRepr (eCons (eCall0 F_moves_apart [] (eConsS (eVar 2) (eConsS (eVar 2) eNil))) eNil)) (eC (.str "0")))) := S_law_moves_right_r12_ex.choose_spec
theorem S_law_moves_right_r10_ex : ∃ x : DSt, x = (sSeq (sIf (eOrT (eTest (eOp dNe (eCB dRepr (eCons (eCall0 F_moves_apart [] (eConsS (eCB dLstOf (eCons (eVarB 2) eNil)) (eConsS (eVar 3) eNil))) eNil)) (eCB dRepr (eCons (eVarB 6) eNil)))) (eTest (eOp dNe (eCB dRepr (eCons (eCall0 F_moves_apart [] (eConsS (eVar 3) (eConsS (eCB dLstOf (eCons (eVarB 2) eNil)) eNil))) eNil)) (eCB dRepr (eCons (eVarB 6) eNil)))))
    (sRet (eC (.bl false)))
    sNext)
    S_law_moves_right_r12) := ⟨_, rfl⟩
noncomputable def S_law_moves_right_r10 : DSt := S_law_moves_right_r10_ex.choose
theorem S_law_moves_right_r10_eq : S_law_moves_right_r10 = (sSeq (sIf (eOrT (eTest (eOp dNe (eCB dRepr (eCons (eCall0 F_moves_apart [] (eConsS (eCB dLstOf (eCons (eVarB 2) eNil)) (eConsS (eVar 3) eNil))) eNil)) (eCB dRepr (eCons (eVarB 6) eNil)))) (eTest (eOp dNe (eCB dRepr (eCons (eCall0 F_moves_apart [] (eConsS (eVar 3) (eConsS (eCB dLstOf (eCons (eVarB 2) eNil)) eNil))) eNil)) (eCB dRepr (eCons (eVarB 6) eNil)))))
    (sRet (eC (.bl false)))
    sNext)
    S_law_moves_right_r12) := S_law_moves_right_r10_ex.choose_spec
theorem S_law_moves_right_r9_ex : ∃ x : DSt, x = (sSeq (sAsg (eOp dSub (eVarB 1) (eCall0 F_law_common [] (eConsS (eVar 2) (eConsS (eVar 3) eNil)))) (gD 6))
    S_law_moves_right_r10) := ⟨_, rfl⟩
noncomputable def S_law_moves_right_r9 : DSt := S_law_moves_right_r9_ex.choose
theorem S_law_moves_right_r9_eq : S_law_moves_right_r9 = (sSeq (sAsg (eOp dSub (eVarB 1) (eCall0 F_law_common [] (eConsS (eVar 2) (eConsS (eVar 3) eNil)))) (gD 6))
    S_law_moves_right_r10) := S_law_moves_right_r9_ex.choose_spec
theorem S_law_moves_right_r4_ex : ∃ x : DSt, x = (sSeq (sIf (eTest (eOp dGt (eCall0 F_law_take [] (eConsH 0 (eConsS (eC (.int 3)) eNil))) (eC (.int 0))))
    (sSeq (sAsg (eVar 2) (gD 3))
    S_law_moves_right_r6)
    sNext)
    S_law_moves_right_r9) := ⟨_, rfl⟩
noncomputable def S_law_moves_right_r4 : DSt := S_law_moves_right_r4_ex.choose
theorem S_law_moves_right_r4_eq : S_law_moves_right_r4 = (sSeq (sIf (eTest (eOp dGt (eCall0 F_law_take [] (eConsH 0 (eConsS (eC (.int 3)) eNil))) (eC (.int 0))))
    (sSeq (sAsg (eVar 2) (gD 3))
    S_law_moves_right_r6)
    sNext)
    S_law_moves_right_r9) := S_law_moves_right_r4_ex.choose_spec
theorem S_law_moves_right_r3_ex : ∃ x : DSt, x = (sSeq (sAsg (eCall0 F_law_order [] (eConsH 0 (eConsS (eVar 1) eNil))) (gD 3))
    S_law_moves_right_r4) := ⟨_, rfl⟩
noncomputable def S_law_moves_right_r3 : DSt := S_law_moves_right_r3_ex.choose
theorem S_law_moves_right_r3_eq : S_law_moves_right_r3 = (sSeq (sAsg (eCall0 F_law_order [] (eConsH 0 (eConsS (eVar 1) eNil))) (gD 3))
    S_law_moves_right_r4) := S_law_moves_right_r3_ex.choose_spec
theorem S_law_moves_right_r2_ex : ∃ x : DSt, x = (sSeq (sAsg (eCall0 F_law_order [] (eConsH 0 (eConsS (eVar 1) eNil))) (gD 2))
    S_law_moves_right_r3) := ⟨_, rfl⟩
noncomputable def S_law_moves_right_r2 : DSt := S_law_moves_right_r2_ex.choose
theorem S_law_moves_right_r2_eq : S_law_moves_right_r2 = (sSeq (sAsg (eCall0 F_law_order [] (eConsH 0 (eConsS (eVar 1) eNil))) (gD 2))
    S_law_moves_right_r3) := S_law_moves_right_r2_ex.choose_spec
def S_law_moves_right : DSt := (sSeq (sAsg (eIf (eTest (eOp dEq (eCall0 F_law_take [] (eConsH 0 (eConsS (eC (.int 6)) eNil))) (eC (.int 0)))) (eOp dAdd (eC (.int 1)) (eCall0 F_law_take [] (eConsH 0 (eConsS (eC (.int 24)) eNil)))) (eOp dAdd (eC (.int 1)) (eCall0 F_law_take [] (eConsH 0 (eConsS (eC (.int 8)) eNil))))) (gD 1))
    S_law_moves_right_r2)
theorem F_law_moves_right_ex : ∃ x : DFn, x = mkD0 1 7 S_law_moves_right := ⟨_, rfl⟩
noncomputable def F_law_moves_right : DFn := F_law_moves_right_ex.choose
theorem F_law_moves_right_eq : F_law_moves_right = mkD0 1 7 S_law_moves_right := F_law_moves_right_ex.choose_spec
theorem S_law_r4_ex : ∃ x : DSt, x = (sRet (eAndV (eCall0 F_law_moves_right [] (eConsH 1 eNil)) (eCall0 F_law_refused [] (eConsH 1 eNil)))) := ⟨_, rfl⟩
noncomputable def S_law_r4 : DSt := S_law_r4_ex.choose
theorem S_law_r4_eq : S_law_r4 = (sRet (eAndV (eCall0 F_law_moves_right [] (eConsH 1 eNil)) (eCall0 F_law_refused [] (eConsH 1 eNil)))) := S_law_r4_ex.choose_spec
def S_law : DSt := (sSeq (sIf (eOrT (eNotT (eTru (eCall0 F_law_turned_right [] (eConsH 1 eNil)))) (eOrT (eNotT (eTru (eCall0 F_law_any_right [] (eConsH 1 eNil)))) (eNotT (eTru (eCall0 F_law_places_right [] (eConsH 1 eNil))))))
    (sRet (eC (.bl false)))
    sNext)
    S_law_r4)
abbrev Goal : Prop := LawGoal 0 S_law
end Mine

namespace Mine
open PySem PySem.Spec PyProof.Rows L2
abbrev PG : Program := PySem.Challenge.pw_lostplaces_k23_whole_orders_rows_and_mov
def top (i : Nat) : Stmt := PG.main.body.getD i (.Pass ⟨0, 0, 0, 0⟩)
abbrev s_BadRow___init : Stmt := inClass (top 3) 0
abbrev N_BadRow___init : List Str := ["self", "index"]
abbrev P_BadRow___init : List Str := ["self", "index"]
theorem sc_BadRow___init : FnScope N_BadRow___init P_BadRow___init (defScope s_BadRow___init) := ⟨rfl, rfl, rfl, by decide +kernel, rfl, by decide +kernel, by decide +kernel⟩
abbrev D_BadRow___init (K : PySem.W.Frag) (f : Addr) (fd : FuncData) : Prop := FunD K "__init__" "BadRow.__init__" (defArgs s_BadRow___init) (defBody s_BadRow___init) (defScope s_BadRow___init) [] [] f fd
abbrev s_is_whole : Stmt := top 5
abbrev N_is_whole : List Str := ["thing", "low", "high"]
abbrev P_is_whole : List Str := ["thing", "low", "high"]
theorem sc_is_whole : FnScope N_is_whole P_is_whole (defScope s_is_whole) := ⟨rfl, rfl, rfl, by decide +kernel, rfl, by decide +kernel, by decide +kernel⟩
abbrev D_is_whole (K : PySem.W.Frag) (f : Addr) (fd : FuncData) : Prop := FunD K "is_whole" "is_whole" (defArgs s_is_whole) (defBody s_is_whole) (defScope s_is_whole) [.non, .non] [] f fd
abbrev s_check_number : Stmt := top 6
abbrev N_check_number : List Str := ["thing", "low", "high"]
abbrev P_check_number : List Str := ["thing", "low", "high"]
theorem sc_check_number : FnScope N_check_number P_check_number (defScope s_check_number) := ⟨rfl, rfl, rfl, by decide +kernel, rfl, by decide +kernel, by decide +kernel⟩
abbrev D_check_number (K : PySem.W.Frag) (f : Addr) (fd : FuncData) : Prop := FunD K "check_number" "check_number" (defArgs s_check_number) (defBody s_check_number) (defScope s_check_number) [] [] f fd
abbrev s_longest_common : Stmt := top 8
abbrev N_longest_common : List Str := ["one", "other", "bits_of", "at", "letter", "full", "row", "met", "not_met"]
abbrev P_longest_common : List Str := ["one", "other"]
theorem sc_longest_common : FnScope N_longest_common P_longest_common (defScope s_longest_common) := ⟨rfl, rfl, rfl, by decide +kernel, rfl, by decide +kernel, by decide +kernel⟩
abbrev D_longest_common (K : PySem.W.Frag) (f : Addr) (fd : FuncData) : Prop := FunD K "longest_common" "longest_common" (defArgs s_longest_common) (defBody s_longest_common) (defScope s_longest_common) [] [] f fd
abbrev s_check_row : Stmt := top 11
abbrev N_check_row : List Str := ["length", "row", "many", "stood", "index", "member"]
abbrev P_check_row : List Str := ["length", "row", "many"]
theorem sc_check_row : FnScope N_check_row P_check_row (defScope s_check_row) := ⟨rfl, rfl, rfl, by decide +kernel, rfl, by decide +kernel, by decide +kernel⟩
abbrev D_check_row (K : PySem.W.Frag) (f : Addr) (fd : FuncData) : Prop := FunD K "check_row" "check_row" (defArgs s_check_row) (defBody s_check_row) (defScope s_check_row) [] [] f fd
abbrev s_check_any_row : Stmt := top 12
abbrev N_check_any_row : List Str := ["row"]
abbrev P_check_any_row : List Str := ["row"]
theorem sc_check_any_row : FnScope N_check_any_row P_check_any_row (defScope s_check_any_row) := ⟨rfl, rfl, rfl, by decide +kernel, rfl, by decide +kernel, by decide +kernel⟩
abbrev D_check_any_row (K : PySem.W.Frag) (f : Addr) (fd : FuncData) : Prop := FunD K "_check_any_row" "_check_any_row" (defArgs s_check_any_row) (defBody s_check_any_row) (defScope s_check_any_row) [] [] f fd
abbrev s_check_order : Stmt := top 13
abbrev N_check_order : List Str := ["order"]
abbrev P_check_order : List Str := ["order"]
theorem sc_check_order : FnScope N_check_order P_check_order (defScope s_check_order) := ⟨rfl, rfl, rfl, by decide +kernel, rfl, by decide +kernel, by decide +kernel⟩
abbrev D_check_order (K : PySem.W.Frag) (f : Addr) (fd : FuncData) : Prop := FunD K "check_order" "check_order" (defArgs s_check_order) (defBody s_check_order) (defScope s_check_order) [] [] f fd
abbrev s_order_rises : Stmt := top 14
abbrev N_order_rises : List Str := ["row"]
abbrev P_order_rises : List Str := ["row"]
theorem sc_order_rises : FnScope N_order_rises P_order_rises (defScope s_order_rises) := ⟨rfl, rfl, rfl, by decide +kernel, rfl, by decide +kernel, by decide +kernel⟩
abbrev D_order_rises (K : PySem.W.Frag) (f : Addr) (fd : FuncData) : Prop := FunD K "order_rises" "order_rises" (defArgs s_order_rises) (defBody s_order_rises) (defScope s_order_rises) [] [] f fd
abbrev s_rise_word : Stmt := top 15
abbrev N_rise_word : List Str := ["row", "place"]
abbrev P_rise_word : List Str := ["row"]
theorem sc_rise_word : FnScope N_rise_word P_rise_word (defScope s_rise_word) := ⟨rfl, rfl, rfl, by decide +kernel, rfl, by decide +kernel, by decide +kernel⟩
abbrev D_rise_word (K : PySem.W.Frag) (f : Addr) (fd : FuncData) : Prop := FunD K "_rise_word" "_rise_word" (defArgs s_rise_word) (defBody s_rise_word) (defScope s_rise_word) [] [] f fd
abbrev s_order_total : Stmt := top 16
abbrev N_order_total : List Str := ["row", "place"]
abbrev P_order_total : List Str := ["row"]
theorem sc_order_total : FnScope N_order_total P_order_total (defScope s_order_total) := ⟨rfl, rfl, rfl, by decide +kernel, rfl, by decide +kernel, by decide +kernel⟩
abbrev D_order_total (K : PySem.W.Frag) (f : Addr) (fd : FuncData) : Prop := FunD K "order_total" "order_total" (defArgs s_order_total) (defBody s_order_total) (defScope s_order_total) [] [] f fd
abbrev s_turned_order : Stmt := top 17
abbrev N_turned_order : List Str := ["order"]
abbrev P_turned_order : List Str := ["order"]
theorem sc_turned_order : FnScope N_turned_order P_turned_order (defScope s_turned_order) := ⟨rfl, rfl, rfl, by decide +kernel, rfl, by decide +kernel, by decide +kernel⟩
abbrev D_turned_order (K : PySem.W.Frag) (f : Addr) (fd : FuncData) : Prop := FunD K "turned_order" "turned_order" (defArgs s_turned_order) (defBody s_turned_order) (defScope s_turned_order) [] [] f fd
abbrev s_contrary_order : Stmt := top 18
abbrev N_contrary_order : List Str := ["order", "member"]
abbrev P_contrary_order : List Str := ["order"]
theorem sc_contrary_order : FnScope N_contrary_order P_contrary_order (defScope s_contrary_order) := ⟨rfl, rfl, rfl, by decide +kernel, rfl, by decide +kernel, by decide +kernel⟩
abbrev D_contrary_order (K : PySem.W.Frag) (f : Addr) (fd : FuncData) : Prop := FunD K "contrary_order" "contrary_order" (defArgs s_contrary_order) (defBody s_contrary_order) (defScope s_contrary_order) [] [] f fd
abbrev s_check_short_row : Stmt := top 19
abbrev N_check_short_row : List Str := ["length", "row"]
abbrev P_check_short_row : List Str := ["length", "row"]
theorem sc_check_short_row : FnScope N_check_short_row P_check_short_row (defScope s_check_short_row) := ⟨rfl, rfl, rfl, by decide +kernel, rfl, by decide +kernel, by decide +kernel⟩
abbrev D_check_short_row (K : PySem.W.Frag) (f : Addr) (fd : FuncData) : Prop := FunD K "_check_short_row" "_check_short_row" (defArgs s_check_short_row) (defBody s_check_short_row) (defScope s_check_short_row) [] [] f fd
abbrev s_lacking_member : Stmt := top 20
abbrev N_lacking_member : List Str := ["length", "row"]
abbrev P_lacking_member : List Str := ["length", "row"]
theorem sc_lacking_member : FnScope N_lacking_member P_lacking_member (defScope s_lacking_member) := ⟨rfl, rfl, rfl, by decide +kernel, rfl, by decide +kernel, by decide +kernel⟩
abbrev D_lacking_member (K : PySem.W.Frag) (f : Addr) (fd : FuncData) : Prop := FunD K "lacking_member" "lacking_member" (defArgs s_lacking_member) (defBody s_lacking_member) (defScope s_lacking_member) [] [] f fd
abbrev s_lacking : Stmt := top 21
abbrev N_lacking : List Str := ["length", "row"]
abbrev P_lacking : List Str := ["length", "row"]
theorem sc_lacking : FnScope N_lacking P_lacking (defScope s_lacking) := ⟨rfl, rfl, rfl, by decide +kernel, rfl, by decide +kernel, by decide +kernel⟩
abbrev D_lacking (K : PySem.W.Frag) (f : Addr) (fd : FuncData) : Prop := FunD K "_lacking" "_lacking" (defArgs s_lacking) (defBody s_lacking) (defScope s_lacking) [] [] f fd
abbrev s_row_without : Stmt := top 22
abbrev N_row_without : List Str := ["order", "member", "other"]
abbrev P_row_without : List Str := ["order", "member"]
theorem sc_row_without : FnScope N_row_without P_row_without (defScope s_row_without) := ⟨rfl, rfl, rfl, by decide +kernel, rfl, by decide +kernel, by decide +kernel⟩
abbrev D_row_without (K : PySem.W.Frag) (f : Addr) (fd : FuncData) : Prop := FunD K "row_without" "row_without" (defArgs s_row_without) (defBody s_row_without) (defScope s_row_without) [] [] f fd
abbrev s_order_with : Stmt := top 23
abbrev N_order_with : List Str := ["length", "row", "place"]
abbrev P_order_with : List Str := ["length", "row", "place"]
theorem sc_order_with : FnScope N_order_with P_order_with (defScope s_order_with) := ⟨rfl, rfl, rfl, by decide +kernel, rfl, by decide +kernel, by decide +kernel⟩
abbrev D_order_with (K : PySem.W.Frag) (f : Addr) (fd : FuncData) : Prop := FunD K "order_with" "order_with" (defArgs s_order_with) (defBody s_order_with) (defScope s_order_with) [] [] f fd
abbrev s_places_tried : Stmt := top 24
abbrev N_places_tried : List Str := ["length", "row", "member", "at"]
abbrev P_places_tried : List Str := ["length", "row"]
theorem sc_places_tried : FnScope N_places_tried P_places_tried (defScope s_places_tried) := ⟨rfl, rfl, rfl, by decide +kernel, rfl, by decide +kernel, by decide +kernel⟩
abbrev D_places_tried (K : PySem.W.Frag) (f : Addr) (fd : FuncData) : Prop := FunD K "places_tried" "places_tried" (defArgs s_places_tried) (defBody s_places_tried) (defScope s_places_tried) [] [] f fd
abbrev s_moves_apart : Stmt := top 25
abbrev N_moves_apart : List Str := ["one", "other"]
abbrev P_moves_apart : List Str := ["one", "other"]
theorem sc_moves_apart : FnScope N_moves_apart P_moves_apart (defScope s_moves_apart) := ⟨rfl, rfl, rfl, by decide +kernel, rfl, by decide +kernel, by decide +kernel⟩
abbrev D_moves_apart (K : PySem.W.Frag) (f : Addr) (fd : FuncData) : Prop := FunD K "moves_apart" "moves_apart" (defArgs s_moves_apart) (defBody s_moves_apart) (defScope s_moves_apart) [] [] f fd
abbrev s_law_hand : Stmt := top 27
abbrev N_law_hand : List Str := ["_law_script", "_law_total", "_law_cells", "_law_cell"]
abbrev P_law_hand : List Str := ["_law_script"]
theorem sc_law_hand : FnScope N_law_hand P_law_hand (defScope s_law_hand) := ⟨rfl, rfl, rfl, by decide +kernel, rfl, by decide +kernel, by decide +kernel⟩
abbrev D_law_hand (K : PySem.W.Frag) (f : Addr) (fd : FuncData) : Prop := FunD K "_law_hand" "_law_hand" (defArgs s_law_hand) (defBody s_law_hand) (defScope s_law_hand) [] [] f fd
abbrev s_law_mixed : Stmt := top 28
abbrev N_law_mixed : List Str := ["_law_number", "_law_turn", "_law_once", "_law_twice"]
abbrev P_law_mixed : List Str := ["_law_number", "_law_turn"]
theorem sc_law_mixed : FnScope N_law_mixed P_law_mixed (defScope s_law_mixed) := ⟨rfl, rfl, rfl, by decide +kernel, rfl, by decide +kernel, by decide +kernel⟩
abbrev D_law_mixed (K : PySem.W.Frag) (f : Addr) (fd : FuncData) : Prop := FunD K "_law_mixed" "_law_mixed" (defArgs s_law_mixed) (defBody s_law_mixed) (defScope s_law_mixed) [] [] f fd
abbrev s_law_take : Stmt := top 29
abbrev N_law_take : List Str := ["_law_hand_here", "_law_many", "_law_cell", "_law_rest"]
abbrev P_law_take : List Str := ["_law_hand_here", "_law_many"]
theorem sc_law_take : FnScope N_law_take P_law_take (defScope s_law_take) := ⟨rfl, rfl, rfl, by decide +kernel, rfl, by decide +kernel, by decide +kernel⟩
abbrev D_law_take (K : PySem.W.Frag) (f : Addr) (fd : FuncData) : Prop := FunD K "_law_take" "_law_take" (defArgs s_law_take) (defBody s_law_take) (defScope s_law_take) [] [] f fd
abbrev s_law_common : Stmt := top 30
abbrev N_law_common : List Str := ["_law_one", "_law_other", "_law_row", "_law_letter", "_law_last", "_law_k", "_law_here"]
abbrev P_law_common : List Str := ["_law_one", "_law_other"]
theorem sc_law_common : FnScope N_law_common P_law_common (defScope s_law_common) := ⟨rfl, rfl, rfl, by decide +kernel, rfl, by decide +kernel, by decide +kernel⟩
abbrev D_law_common (K : PySem.W.Frag) (f : Addr) (fd : FuncData) : Prop := FunD K "_law_common" "_law_common" (defArgs s_law_common) (defBody s_law_common) (defScope s_law_common) [] [] f fd
abbrev s_law_order : Stmt := top 31
abbrev N_law_order : List Str := ["_law_hand_here", "_law_n", "_law_left", "_law_told", "_law_k"]
abbrev P_law_order : List Str := ["_law_hand_here", "_law_n"]
theorem sc_law_order : FnScope N_law_order P_law_order (defScope s_law_order) := ⟨rfl, rfl, rfl, by decide +kernel, rfl, by decide +kernel, by decide +kernel⟩
abbrev D_law_order (K : PySem.W.Frag) (f : Addr) (fd : FuncData) : Prop := FunD K "_law_order" "_law_order" (defArgs s_law_order) (defBody s_law_order) (defScope s_law_order) [] [] f fd
abbrev s_law_rise_word : Stmt := top 32
abbrev N_law_rise_word : List Str := ["_law_row", "_law_k"]
abbrev P_law_rise_word : List Str := ["_law_row"]
theorem sc_law_rise_word : FnScope N_law_rise_word P_law_rise_word (defScope s_law_rise_word) := ⟨rfl, rfl, rfl, by decide +kernel, rfl, by decide +kernel, by decide +kernel⟩
abbrev D_law_rise_word (K : PySem.W.Frag) (f : Addr) (fd : FuncData) : Prop := FunD K "_law_rise_word" "_law_rise_word" (defArgs s_law_rise_word) (defBody s_law_rise_word) (defScope s_law_rise_word) [] [] f fd
abbrev s_law_rise_total : Stmt := top 33
abbrev N_law_rise_total : List Str := ["_law_row", "_law_k"]
abbrev P_law_rise_total : List Str := ["_law_row"]
theorem sc_law_rise_total : FnScope N_law_rise_total P_law_rise_total (defScope s_law_rise_total) := ⟨rfl, rfl, rfl, by decide +kernel, rfl, by decide +kernel, by decide +kernel⟩
abbrev D_law_rise_total (K : PySem.W.Frag) (f : Addr) (fd : FuncData) : Prop := FunD K "_law_rise_total" "_law_rise_total" (defArgs s_law_rise_total) (defBody s_law_rise_total) (defScope s_law_rise_total) [] [] f fd
abbrev s_law_without : Stmt := top 34
abbrev N_law_without : List Str := ["_law_row", "_law_member", "_law_x"]
abbrev P_law_without : List Str := ["_law_row", "_law_member"]
theorem sc_law_without : FnScope N_law_without P_law_without (defScope s_law_without) := ⟨rfl, rfl, rfl, by decide +kernel, rfl, by decide +kernel, by decide +kernel⟩
abbrev D_law_without (K : PySem.W.Frag) (f : Addr) (fd : FuncData) : Prop := FunD K "_law_without" "_law_without" (defArgs s_law_without) (defBody s_law_without) (defScope s_law_without) [] [] f fd
abbrev s_law_with : Stmt := top 35
abbrev N_law_with : List Str := ["_law_row", "_law_member", "_law_place"]
abbrev P_law_with : List Str := ["_law_row", "_law_member", "_law_place"]
theorem sc_law_with : FnScope N_law_with P_law_with (defScope s_law_with) := ⟨rfl, rfl, rfl, by decide +kernel, rfl, by decide +kernel, by decide +kernel⟩
abbrev D_law_with (K : PySem.W.Frag) (f : Addr) (fd : FuncData) : Prop := FunD K "_law_with" "_law_with" (defArgs s_law_with) (defBody s_law_with) (defScope s_law_with) [] [] f fd
abbrev s_law_length : Stmt := top 36
abbrev N_law_length : List Str := ["_law_hand_here"]
abbrev P_law_length : List Str := ["_law_hand_here"]
theorem sc_law_length : FnScope N_law_length P_law_length (defScope s_law_length) := ⟨rfl, rfl, rfl, by decide +kernel, rfl, by decide +kernel, by decide +kernel⟩
abbrev D_law_length (K : PySem.W.Frag) (f : Addr) (fd : FuncData) : Prop := FunD K "_law_length" "_law_length" (defArgs s_law_length) (defBody s_law_length) (defScope s_law_length) [] [] f fd
abbrev s_law_turned_right : Stmt := top 37
abbrev N_law_turned_right : List Str := ["_law_hand_here", "_law_n", "_law_order_here", "_law_half", "_law_total", "_law_given", "_law_back", "_law_contrary", "_law_x"]
abbrev P_law_turned_right : List Str := ["_law_hand_here"]
theorem sc_law_turned_right : FnScope N_law_turned_right P_law_turned_right (defScope s_law_turned_right) := ⟨rfl, rfl, rfl, by decide +kernel, rfl, by decide +kernel, by decide +kernel⟩
abbrev D_law_turned_right (K : PySem.W.Frag) (f : Addr) (fd : FuncData) : Prop := FunD K "_law_turned_right" "_law_turned_right" (defArgs s_law_turned_right) (defBody s_law_turned_right) (defScope s_law_turned_right) [] [] f fd
abbrev s_law_any_right : Stmt := top 38
abbrev N_law_any_right : List Str := ["_law_hand_here", "_law_row"]
abbrev P_law_any_right : List Str := ["_law_hand_here"]
theorem sc_law_any_right : FnScope N_law_any_right P_law_any_right (defScope s_law_any_right) := ⟨rfl, rfl, rfl, by decide +kernel, rfl, by decide +kernel, by decide +kernel⟩
abbrev D_law_any_right (K : PySem.W.Frag) (f : Addr) (fd : FuncData) : Prop := FunD K "_law_any_right" "_law_any_right" (defArgs s_law_any_right) (defBody s_law_any_right) (defScope s_law_any_right) [] [] f fd
abbrev s_law_places_right : Stmt := top 39
abbrev N_law_places_right : List Str := ["_law_hand_here", "_law_n", "_law_order_here", "_law_members", "_law_member", "_law_row", "_law_given", "_law_tried", "_law_rests", "_law_place", "_law_due"]
abbrev P_law_places_right : List Str := ["_law_hand_here"]
theorem sc_law_places_right : FnScope N_law_places_right P_law_places_right (defScope s_law_places_right) := ⟨rfl, rfl, rfl, by decide +kernel, rfl, by decide +kernel, by decide +kernel⟩
abbrev D_law_places_right (K : PySem.W.Frag) (f : Addr) (fd : FuncData) : Prop := FunD K "_law_places_right" "_law_places_right" (defArgs s_law_places_right) (defBody s_law_places_right) (defScope s_law_places_right) [] [] f fd
abbrev s_law_moves_right : Stmt := top 40
abbrev N_law_moves_right : List Str := ["_law_hand_here", "_law_n", "_law_one", "_law_other", "_law_k", "_law_member", "_law_due"]
abbrev P_law_moves_right : List Str := ["_law_hand_here"]
theorem sc_law_moves_right : FnScope N_law_moves_right P_law_moves_right (defScope s_law_moves_right) := ⟨rfl, rfl, rfl, by decide +kernel, rfl, by decide +kernel, by decide +kernel⟩
abbrev D_law_moves_right (K : PySem.W.Frag) (f : Addr) (fd : FuncData) : Prop := FunD K "_law_moves_right" "_law_moves_right" (defArgs s_law_moves_right) (defBody s_law_moves_right) (defScope s_law_moves_right) [] [] f fd
abbrev s_law_called : Stmt := top 41
abbrev N_law_called : List Str := ["_law_which", "_law_parts", "_law_told", "e"]
abbrev P_law_called : List Str := ["_law_which", "_law_parts"]
theorem sc_law_called : FnScope N_law_called P_law_called (defScope s_law_called) := ⟨rfl, rfl, rfl, by decide +kernel, rfl, by decide +kernel, by decide +kernel⟩
abbrev D_law_called (K : PySem.W.Frag) (f : Addr) (fd : FuncData) : Prop := FunD K "_law_called" "_law_called" (defArgs s_law_called) (defBody s_law_called) (defScope s_law_called) [] [] f fd
abbrev s_law_refused : Stmt := top 42
abbrev N_law_refused : List Str := ["_law_hand_here", "_law_n", "_law_order_here", "_law_k", "_law_twice", "_law_wrong", "_law_bad", "_law_short", "_law_m", "_law_spoilt", "_law_length_here", "_law_member", "_law_nothing", "_law_great", "_law_due", "_law_told", "_law_wanted"]
abbrev P_law_refused : List Str := ["_law_hand_here"]
theorem sc_law_refused : FnScope N_law_refused P_law_refused (defScope s_law_refused) := ⟨rfl, rfl, rfl, by decide +kernel, rfl, by decide +kernel, by decide +kernel⟩
abbrev D_law_refused (K : PySem.W.Frag) (f : Addr) (fd : FuncData) : Prop := FunD K "_law_refused" "_law_refused" (defArgs s_law_refused) (defBody s_law_refused) (defScope s_law_refused) [] [] f fd
abbrev s_law : Stmt := top 43
abbrev N_law : List Str := ["_law_script", "_law_hand_here"]
abbrev P_law : List Str := ["_law_script"]
theorem sc_law : FnScope N_law P_law (defScope s_law) := ⟨rfl, rfl, rfl, by decide +kernel, rfl, by decide +kernel, by decide +kernel⟩
abbrev D_law (K : PySem.W.Frag) (f : Addr) (fd : FuncData) : Prop := FunD K "law" "law" (defArgs s_law) (defBody s_law) (defScope s_law) [] [] f fd
structure Txt (K : PySem.W.Frag) (mg : Str → Option Value) : Prop where
  x_BadRow : FldExc K (He.ga K "BadRow") (He.ma K (He.ga K "BadRow") "__init__")
  n_BadRow_is_index : PySem.W.findIn K (.ref (He.ga K "BadRow")) "index" = some none
  z_isinstance : mg "isinstance" = none
  z_bool : mg "bool" = none
  z_int : mg "int" = none
  g_is_whole : mg "is_whole" = some (.ref (He.ga K "is_whole"))
  g_BadNumber : mg "BadNumber" = some (.ref (He.ga K "BadNumber"))
  e_BadNumber : OwnExc K (He.ga K "BadNumber")
  z_enumerate : mg "enumerate" = none
  z_len : mg "len" = none
  z_tuple : mg "tuple" = none
  z_list : mg "list" = none
  g_BadRow : mg "BadRow" = some (.ref (He.ga K "BadRow"))
  z_set : mg "set" = none
  c_MOST_MEMBERS : ∃ t, mg "MOST_MEMBERS" = some (.int 40 t)
  g_check_row : mg "check_row" = some (.ref (He.ga K "check_row"))
  g__rise_word : mg "_rise_word" = some (.ref (He.ga K "_rise_word"))
  g__check_any_row : mg "_check_any_row" = some (.ref (He.ga K "_check_any_row"))
  z_range : mg "range" = none
  z_sum : mg "sum" = none
  g_check_order : mg "check_order" = some (.ref (He.ga K "check_order"))
  g_check_number : mg "check_number" = some (.ref (He.ga K "check_number"))
  g__lacking : mg "_lacking" = some (.ref (He.ga K "_lacking"))
  g__check_short_row : mg "_check_short_row" = some (.ref (He.ga K "_check_short_row"))
  g_longest_common : mg "longest_common" = some (.ref (He.ga K "longest_common"))
  z_abs : mg "abs" = none
  g__law_mixed : mg "_law_mixed" = some (.ref (He.ga K "_law_mixed"))
  z_max : mg "max" = none
  g__law_take : mg "_law_take" = some (.ref (He.ga K "_law_take"))
  g__law_length : mg "_law_length" = some (.ref (He.ga K "_law_length"))
  g__law_order : mg "_law_order" = some (.ref (He.ga K "_law_order"))
  g__law_rise_total : mg "_law_rise_total" = some (.ref (He.ga K "_law_rise_total"))
  g_contrary_order : mg "contrary_order" = some (.ref (He.ga K "contrary_order"))
  g_turned_order : mg "turned_order" = some (.ref (He.ga K "turned_order"))
  z_repr : mg "repr" = none
  g_order_rises : mg "order_rises" = some (.ref (He.ga K "order_rises"))
  g__law_rise_word : mg "_law_rise_word" = some (.ref (He.ga K "_law_rise_word"))
  g_order_total : mg "order_total" = some (.ref (He.ga K "order_total"))
  g__law_without : mg "_law_without" = some (.ref (He.ga K "_law_without"))
  g_lacking_member : mg "lacking_member" = some (.ref (He.ga K "lacking_member"))
  g_row_without : mg "row_without" = some (.ref (He.ga K "row_without"))
  g_places_tried : mg "places_tried" = some (.ref (He.ga K "places_tried"))
  g__law_with : mg "_law_with" = some (.ref (He.ga K "_law_with"))
  z_sorted : mg "sorted" = none
  g_order_with : mg "order_with" = some (.ref (He.ga K "order_with"))
  g__law_common : mg "_law_common" = some (.ref (He.ga K "_law_common"))
  g_moves_apart : mg "moves_apart" = some (.ref (He.ga K "moves_apart"))
  g_PlaceError : mg "PlaceError" = some (.ref (He.ga K "PlaceError"))
  g__law_called : mg "_law_called" = some (.ref (He.ga K "_law_called"))
  g__law_hand : mg "_law_hand" = some (.ref (He.ga K "_law_hand"))
  g__law_places_right : mg "_law_places_right" = some (.ref (He.ga K "_law_places_right"))
  g__law_any_right : mg "_law_any_right" = some (.ref (He.ga K "_law_any_right"))
  g__law_turned_right : mg "_law_turned_right" = some (.ref (He.ga K "_law_turned_right"))
  g__law_refused : mg "_law_refused" = some (.ref (He.ga K "_law_refused"))
  g__law_moves_right : mg "_law_moves_right" = some (.ref (He.ga K "_law_moves_right"))
  m_BadNumber_is_BadNumber : PySem.W.exmOne K (.ref (He.ga K "BadNumber")) (.ref (He.ga K "BadNumber")) = some true
  m_BadNumber_is_BadRow : PySem.W.exmOne K (.ref (He.ga K "BadNumber")) (.ref (He.ga K "BadRow")) = some false
  m_BadNumber_is_PlaceError : PySem.W.exmOne K (.ref (He.ga K "BadNumber")) (.ref (He.ga K "PlaceError")) = some true
  m_BadRow_is_BadNumber : PySem.W.exmOne K (.ref (He.ga K "BadRow")) (.ref (He.ga K "BadNumber")) = some false
  m_BadRow_is_BadRow : PySem.W.exmOne K (.ref (He.ga K "BadRow")) (.ref (He.ga K "BadRow")) = some true
  m_BadRow_is_PlaceError : PySem.W.exmOne K (.ref (He.ga K "BadRow")) (.ref (He.ga K "PlaceError")) = some true
  F_BadRow___init : ∃ fd, D_BadRow___init K (He.ma K (He.ga K "BadRow") "__init__") fd
  F_is_whole : ∃ fd, D_is_whole K (He.ga K "is_whole") fd
  F_check_number : ∃ fd, D_check_number K (He.ga K "check_number") fd
  F_longest_common : ∃ fd, D_longest_common K (He.ga K "longest_common") fd
  F_check_row : ∃ fd, D_check_row K (He.ga K "check_row") fd
  F_check_any_row : ∃ fd, D_check_any_row K (He.ga K "_check_any_row") fd
  F_check_order : ∃ fd, D_check_order K (He.ga K "check_order") fd
  F_order_rises : ∃ fd, D_order_rises K (He.ga K "order_rises") fd
  F_rise_word : ∃ fd, D_rise_word K (He.ga K "_rise_word") fd
  F_order_total : ∃ fd, D_order_total K (He.ga K "order_total") fd
  F_turned_order : ∃ fd, D_turned_order K (He.ga K "turned_order") fd
  F_contrary_order : ∃ fd, D_contrary_order K (He.ga K "contrary_order") fd
  F_check_short_row : ∃ fd, D_check_short_row K (He.ga K "_check_short_row") fd
  F_lacking_member : ∃ fd, D_lacking_member K (He.ga K "lacking_member") fd
  F_lacking : ∃ fd, D_lacking K (He.ga K "_lacking") fd
  F_row_without : ∃ fd, D_row_without K (He.ga K "row_without") fd
  F_order_with : ∃ fd, D_order_with K (He.ga K "order_with") fd
  F_places_tried : ∃ fd, D_places_tried K (He.ga K "places_tried") fd
  F_moves_apart : ∃ fd, D_moves_apart K (He.ga K "moves_apart") fd
  F_law_hand : ∃ fd, D_law_hand K (He.ga K "_law_hand") fd
  F_law_mixed : ∃ fd, D_law_mixed K (He.ga K "_law_mixed") fd
  F_law_take : ∃ fd, D_law_take K (He.ga K "_law_take") fd
  F_law_common : ∃ fd, D_law_common K (He.ga K "_law_common") fd
  F_law_order : ∃ fd, D_law_order K (He.ga K "_law_order") fd
  F_law_rise_word : ∃ fd, D_law_rise_word K (He.ga K "_law_rise_word") fd
  F_law_rise_total : ∃ fd, D_law_rise_total K (He.ga K "_law_rise_total") fd
  F_law_without : ∃ fd, D_law_without K (He.ga K "_law_without") fd
  F_law_with : ∃ fd, D_law_with K (He.ga K "_law_with") fd
  F_law_length : ∃ fd, D_law_length K (He.ga K "_law_length") fd
  F_law_turned_right : ∃ fd, D_law_turned_right K (He.ga K "_law_turned_right") fd
  F_law_any_right : ∃ fd, D_law_any_right K (He.ga K "_law_any_right") fd
  F_law_places_right : ∃ fd, D_law_places_right K (He.ga K "_law_places_right") fd
  F_law_moves_right : ∃ fd, D_law_moves_right K (He.ga K "_law_moves_right") fd
  F_law_called : ∃ fd, D_law_called K (He.ga K "_law_called") fd
  F_law_refused : ∃ fd, D_law_refused K (He.ga K "_law_refused") fd
  F_law : ∃ fd, D_law K (He.ga K "law") fd
theorem bd_BadRow___init {K : PySem.W.Frag} {f : Addr} {fd : FuncData} (F : D_BadRow___init K f fd) : Binds K fd P_BadRow___init [] := F.bindsN fun _ _ _ _ _ _ us hl => match us, hl with | [_, _], _ => rfl
theorem bd_check_number {K : PySem.W.Frag} {f : Addr} {fd : FuncData} (F : D_check_number K f fd) : Binds K fd P_check_number [] := F.bindsN fun _ _ _ _ _ _ us hl => match us, hl with | [_, _, _], _ => rfl
theorem bd_longest_common {K : PySem.W.Frag} {f : Addr} {fd : FuncData} (F : D_longest_common K f fd) : Binds K fd P_longest_common [] := F.bindsN fun _ _ _ _ _ _ us hl => match us, hl with | [_, _], _ => rfl
theorem bd_check_row {K : PySem.W.Frag} {f : Addr} {fd : FuncData} (F : D_check_row K f fd) : Binds K fd P_check_row [] := F.bindsN fun _ _ _ _ _ _ us hl => match us, hl with | [_, _, _], _ => rfl
theorem bd_check_any_row {K : PySem.W.Frag} {f : Addr} {fd : FuncData} (F : D_check_any_row K f fd) : Binds K fd P_check_any_row [] := F.bindsN fun _ _ _ _ _ _ us hl => match us, hl with | [_], _ => rfl
theorem bd_check_order {K : PySem.W.Frag} {f : Addr} {fd : FuncData} (F : D_check_order K f fd) : Binds K fd P_check_order [] := F.bindsN fun _ _ _ _ _ _ us hl => match us, hl with | [_], _ => rfl
theorem bd_order_rises {K : PySem.W.Frag} {f : Addr} {fd : FuncData} (F : D_order_rises K f fd) : Binds K fd P_order_rises [] := F.bindsN fun _ _ _ _ _ _ us hl => match us, hl with | [_], _ => rfl
theorem bd_rise_word {K : PySem.W.Frag} {f : Addr} {fd : FuncData} (F : D_rise_word K f fd) : Binds K fd P_rise_word [] := F.bindsN fun _ _ _ _ _ _ us hl => match us, hl with | [_], _ => rfl
theorem bd_order_total {K : PySem.W.Frag} {f : Addr} {fd : FuncData} (F : D_order_total K f fd) : Binds K fd P_order_total [] := F.bindsN fun _ _ _ _ _ _ us hl => match us, hl with | [_], _ => rfl
theorem bd_turned_order {K : PySem.W.Frag} {f : Addr} {fd : FuncData} (F : D_turned_order K f fd) : Binds K fd P_turned_order [] := F.bindsN fun _ _ _ _ _ _ us hl => match us, hl with | [_], _ => rfl
theorem bd_contrary_order {K : PySem.W.Frag} {f : Addr} {fd : FuncData} (F : D_contrary_order K f fd) : Binds K fd P_contrary_order [] := F.bindsN fun _ _ _ _ _ _ us hl => match us, hl with | [_], _ => rfl
theorem bd_check_short_row {K : PySem.W.Frag} {f : Addr} {fd : FuncData} (F : D_check_short_row K f fd) : Binds K fd P_check_short_row [] := F.bindsN fun _ _ _ _ _ _ us hl => match us, hl with | [_, _], _ => rfl
theorem bd_lacking_member {K : PySem.W.Frag} {f : Addr} {fd : FuncData} (F : D_lacking_member K f fd) : Binds K fd P_lacking_member [] := F.bindsN fun _ _ _ _ _ _ us hl => match us, hl with | [_, _], _ => rfl
theorem bd_lacking {K : PySem.W.Frag} {f : Addr} {fd : FuncData} (F : D_lacking K f fd) : Binds K fd P_lacking [] := F.bindsN fun _ _ _ _ _ _ us hl => match us, hl with | [_, _], _ => rfl
theorem bd_row_without {K : PySem.W.Frag} {f : Addr} {fd : FuncData} (F : D_row_without K f fd) : Binds K fd P_row_without [] := F.bindsN fun _ _ _ _ _ _ us hl => match us, hl with | [_, _], _ => rfl
theorem bd_order_with {K : PySem.W.Frag} {f : Addr} {fd : FuncData} (F : D_order_with K f fd) : Binds K fd P_order_with [] := F.bindsN fun _ _ _ _ _ _ us hl => match us, hl with | [_, _, _], _ => rfl
theorem bd_places_tried {K : PySem.W.Frag} {f : Addr} {fd : FuncData} (F : D_places_tried K f fd) : Binds K fd P_places_tried [] := F.bindsN fun _ _ _ _ _ _ us hl => match us, hl with | [_, _], _ => rfl
theorem bd_moves_apart {K : PySem.W.Frag} {f : Addr} {fd : FuncData} (F : D_moves_apart K f fd) : Binds K fd P_moves_apart [] := F.bindsN fun _ _ _ _ _ _ us hl => match us, hl with | [_, _], _ => rfl
theorem bd_law_hand {K : PySem.W.Frag} {f : Addr} {fd : FuncData} (F : D_law_hand K f fd) : Binds K fd P_law_hand [] := F.bindsN fun _ _ _ _ _ _ us hl => match us, hl with | [_], _ => rfl
theorem bd_law_mixed {K : PySem.W.Frag} {f : Addr} {fd : FuncData} (F : D_law_mixed K f fd) : Binds K fd P_law_mixed [] := F.bindsN fun _ _ _ _ _ _ us hl => match us, hl with | [_, _], _ => rfl
theorem bd_law_take {K : PySem.W.Frag} {f : Addr} {fd : FuncData} (F : D_law_take K f fd) : Binds K fd P_law_take [] := F.bindsN fun _ _ _ _ _ _ us hl => match us, hl with | [_, _], _ => rfl
theorem bd_law_common {K : PySem.W.Frag} {f : Addr} {fd : FuncData} (F : D_law_common K f fd) : Binds K fd P_law_common [] := F.bindsN fun _ _ _ _ _ _ us hl => match us, hl with | [_, _], _ => rfl
theorem bd_law_order {K : PySem.W.Frag} {f : Addr} {fd : FuncData} (F : D_law_order K f fd) : Binds K fd P_law_order [] := F.bindsN fun _ _ _ _ _ _ us hl => match us, hl with | [_, _], _ => rfl
theorem bd_law_rise_word {K : PySem.W.Frag} {f : Addr} {fd : FuncData} (F : D_law_rise_word K f fd) : Binds K fd P_law_rise_word [] := F.bindsN fun _ _ _ _ _ _ us hl => match us, hl with | [_], _ => rfl
theorem bd_law_rise_total {K : PySem.W.Frag} {f : Addr} {fd : FuncData} (F : D_law_rise_total K f fd) : Binds K fd P_law_rise_total [] := F.bindsN fun _ _ _ _ _ _ us hl => match us, hl with | [_], _ => rfl
theorem bd_law_without {K : PySem.W.Frag} {f : Addr} {fd : FuncData} (F : D_law_without K f fd) : Binds K fd P_law_without [] := F.bindsN fun _ _ _ _ _ _ us hl => match us, hl with | [_, _], _ => rfl
theorem bd_law_with {K : PySem.W.Frag} {f : Addr} {fd : FuncData} (F : D_law_with K f fd) : Binds K fd P_law_with [] := F.bindsN fun _ _ _ _ _ _ us hl => match us, hl with | [_, _, _], _ => rfl
theorem bd_law_length {K : PySem.W.Frag} {f : Addr} {fd : FuncData} (F : D_law_length K f fd) : Binds K fd P_law_length [] := F.bindsN fun _ _ _ _ _ _ us hl => match us, hl with | [_], _ => rfl
theorem bd_law_turned_right {K : PySem.W.Frag} {f : Addr} {fd : FuncData} (F : D_law_turned_right K f fd) : Binds K fd P_law_turned_right [] := F.bindsN fun _ _ _ _ _ _ us hl => match us, hl with | [_], _ => rfl
theorem bd_law_any_right {K : PySem.W.Frag} {f : Addr} {fd : FuncData} (F : D_law_any_right K f fd) : Binds K fd P_law_any_right [] := F.bindsN fun _ _ _ _ _ _ us hl => match us, hl with | [_], _ => rfl
theorem bd_law_places_right {K : PySem.W.Frag} {f : Addr} {fd : FuncData} (F : D_law_places_right K f fd) : Binds K fd P_law_places_right [] := F.bindsN fun _ _ _ _ _ _ us hl => match us, hl with | [_], _ => rfl
theorem bd_law_moves_right {K : PySem.W.Frag} {f : Addr} {fd : FuncData} (F : D_law_moves_right K f fd) : Binds K fd P_law_moves_right [] := F.bindsN fun _ _ _ _ _ _ us hl => match us, hl with | [_], _ => rfl
theorem bd_law_called {K : PySem.W.Frag} {f : Addr} {fd : FuncData} (F : D_law_called K f fd) : Binds K fd P_law_called [] := F.bindsN fun _ _ _ _ _ _ us hl => match us, hl with | [_, _], _ => rfl
theorem bd_law_refused {K : PySem.W.Frag} {f : Addr} {fd : FuncData} (F : D_law_refused K f fd) : Binds K fd P_law_refused [] := F.bindsN fun _ _ _ _ _ _ us hl => match us, hl with | [_], _ => rfl
theorem bd_law {K : PySem.W.Frag} {f : Addr} {fd : FuncData} (F : D_law K f fd) : Binds K fd P_law [] := F.bindsN fun _ _ _ _ _ _ us hl => match us, hl with | [_], _ => rfl
theorem bd_is_whole_3 {K : PySem.W.Frag} {f : Addr} {fd : FuncData} (F : D_is_whole K f fd) : ∃ ds, Vals [] ds ∧ Binds K fd P_is_whole ds := F.binds1 3 2 (by simp) rfl fun _ _ _ _ _ _ _ us its h1 h2 => match us, its, h1, h2 with | [_, _, _], [_, _], _, _ => ⟨_, rfl, rfl⟩
theorem mt_ok {K : PySem.W.Frag} {mg : Str → Option Value} (T : Txt K mg) : ∀ a b r, mt a b = some r → PySem.W.exmOne K (.ref (He.ga K a)) (.ref (He.ga K b)) = some r := by
  intro a b r h
  unfold mt at h
  by_cases c : a = "BadNumber" ∧ b = "BadNumber"
  · rw [if_pos c] at h; obtain ⟨rfl, rfl⟩ := c; cases h; exact T.m_BadNumber_is_BadNumber
  rw [if_neg c] at h; clear c
  by_cases c : a = "BadNumber" ∧ b = "BadRow"
  · rw [if_pos c] at h; obtain ⟨rfl, rfl⟩ := c; cases h; exact T.m_BadNumber_is_BadRow
  rw [if_neg c] at h; clear c
  by_cases c : a = "BadNumber" ∧ b = "PlaceError"
  · rw [if_pos c] at h; obtain ⟨rfl, rfl⟩ := c; cases h; exact T.m_BadNumber_is_PlaceError
  rw [if_neg c] at h; clear c
  by_cases c : a = "BadRow" ∧ b = "BadNumber"
  · rw [if_pos c] at h; obtain ⟨rfl, rfl⟩ := c; cases h; exact T.m_BadRow_is_BadNumber
  rw [if_neg c] at h; clear c
  by_cases c : a = "BadRow" ∧ b = "BadRow"
  · rw [if_pos c] at h; obtain ⟨rfl, rfl⟩ := c; cases h; exact T.m_BadRow_is_BadRow
  rw [if_neg c] at h; clear c
  by_cases c : a = "BadRow" ∧ b = "PlaceError"
  · rw [if_pos c] at h; obtain ⟨rfl, rfl⟩ := c; cases h; exact T.m_BadRow_is_PlaceError
  rw [if_neg c] at h; clear c
  cases h



end Mine

namespace Mine
open PySem PySem.Spec PyProof.Rows L2
def q_BadRow___init : He.DefD := ⟨("BadRow", some "__init__"), "__init__", "BadRow.__init__", defArgs s_BadRow___init, defBody s_BadRow___init, defScope s_BadRow___init, [], []⟩
def q_is_whole : He.DefD := ⟨("is_whole", none), "is_whole", "is_whole", defArgs s_is_whole, defBody s_is_whole, defScope s_is_whole, [.non, .non], []⟩
def q_check_number : He.DefD := ⟨("check_number", none), "check_number", "check_number", defArgs s_check_number, defBody s_check_number, defScope s_check_number, [], []⟩
def q_longest_common : He.DefD := ⟨("longest_common", none), "longest_common", "longest_common", defArgs s_longest_common, defBody s_longest_common, defScope s_longest_common, [], []⟩
def q_check_row : He.DefD := ⟨("check_row", none), "check_row", "check_row", defArgs s_check_row, defBody s_check_row, defScope s_check_row, [], []⟩
def q_check_any_row : He.DefD := ⟨("_check_any_row", none), "_check_any_row", "_check_any_row", defArgs s_check_any_row, defBody s_check_any_row, defScope s_check_any_row, [], []⟩
def q_check_order : He.DefD := ⟨("check_order", none), "check_order", "check_order", defArgs s_check_order, defBody s_check_order, defScope s_check_order, [], []⟩
def q_order_rises : He.DefD := ⟨("order_rises", none), "order_rises", "order_rises", defArgs s_order_rises, defBody s_order_rises, defScope s_order_rises, [], []⟩
def q_rise_word : He.DefD := ⟨("_rise_word", none), "_rise_word", "_rise_word", defArgs s_rise_word, defBody s_rise_word, defScope s_rise_word, [], []⟩
def q_order_total : He.DefD := ⟨("order_total", none), "order_total", "order_total", defArgs s_order_total, defBody s_order_total, defScope s_order_total, [], []⟩
def q_turned_order : He.DefD := ⟨("turned_order", none), "turned_order", "turned_order", defArgs s_turned_order, defBody s_turned_order, defScope s_turned_order, [], []⟩
def q_contrary_order : He.DefD := ⟨("contrary_order", none), "contrary_order", "contrary_order", defArgs s_contrary_order, defBody s_contrary_order, defScope s_contrary_order, [], []⟩
def q_check_short_row : He.DefD := ⟨("_check_short_row", none), "_check_short_row", "_check_short_row", defArgs s_check_short_row, defBody s_check_short_row, defScope s_check_short_row, [], []⟩
def q_lacking_member : He.DefD := ⟨("lacking_member", none), "lacking_member", "lacking_member", defArgs s_lacking_member, defBody s_lacking_member, defScope s_lacking_member, [], []⟩
def q_lacking : He.DefD := ⟨("_lacking", none), "_lacking", "_lacking", defArgs s_lacking, defBody s_lacking, defScope s_lacking, [], []⟩
def q_row_without : He.DefD := ⟨("row_without", none), "row_without", "row_without", defArgs s_row_without, defBody s_row_without, defScope s_row_without, [], []⟩
def q_order_with : He.DefD := ⟨("order_with", none), "order_with", "order_with", defArgs s_order_with, defBody s_order_with, defScope s_order_with, [], []⟩
def q_places_tried : He.DefD := ⟨("places_tried", none), "places_tried", "places_tried", defArgs s_places_tried, defBody s_places_tried, defScope s_places_tried, [], []⟩
def q_moves_apart : He.DefD := ⟨("moves_apart", none), "moves_apart", "moves_apart", defArgs s_moves_apart, defBody s_moves_apart, defScope s_moves_apart, [], []⟩
def q_law_hand : He.DefD := ⟨("_law_hand", none), "_law_hand", "_law_hand", defArgs s_law_hand, defBody s_law_hand, defScope s_law_hand, [], []⟩
def q_law_mixed : He.DefD := ⟨("_law_mixed", none), "_law_mixed", "_law_mixed", defArgs s_law_mixed, defBody s_law_mixed, defScope s_law_mixed, [], []⟩
def q_law_take : He.DefD := ⟨("_law_take", none), "_law_take", "_law_take", defArgs s_law_take, defBody s_law_take, defScope s_law_take, [], []⟩
def q_law_common : He.DefD := ⟨("_law_common", none), "_law_common", "_law_common", defArgs s_law_common, defBody s_law_common, defScope s_law_common, [], []⟩
def q_law_order : He.DefD := ⟨("_law_order", none), "_law_order", "_law_order", defArgs s_law_order, defBody s_law_order, defScope s_law_order, [], []⟩
def q_law_rise_word : He.DefD := ⟨("_law_rise_word", none), "_law_rise_word", "_law_rise_word", defArgs s_law_rise_word, defBody s_law_rise_word, defScope s_law_rise_word, [], []⟩
def q_law_rise_total : He.DefD := ⟨("_law_rise_total", none), "_law_rise_total", "_law_rise_total", defArgs s_law_rise_total, defBody s_law_rise_total, defScope s_law_rise_total, [], []⟩
def q_law_without : He.DefD := ⟨("_law_without", none), "_law_without", "_law_without", defArgs s_law_without, defBody s_law_without, defScope s_law_without, [], []⟩
def q_law_with : He.DefD := ⟨("_law_with", none), "_law_with", "_law_with", defArgs s_law_with, defBody s_law_with, defScope s_law_with, [], []⟩
def q_law_length : He.DefD := ⟨("_law_length", none), "_law_length", "_law_length", defArgs s_law_length, defBody s_law_length, defScope s_law_length, [], []⟩
def q_law_turned_right : He.DefD := ⟨("_law_turned_right", none), "_law_turned_right", "_law_turned_right", defArgs s_law_turned_right, defBody s_law_turned_right, defScope s_law_turned_right, [], []⟩
def q_law_any_right : He.DefD := ⟨("_law_any_right", none), "_law_any_right", "_law_any_right", defArgs s_law_any_right, defBody s_law_any_right, defScope s_law_any_right, [], []⟩
def q_law_places_right : He.DefD := ⟨("_law_places_right", none), "_law_places_right", "_law_places_right", defArgs s_law_places_right, defBody s_law_places_right, defScope s_law_places_right, [], []⟩
def q_law_moves_right : He.DefD := ⟨("_law_moves_right", none), "_law_moves_right", "_law_moves_right", defArgs s_law_moves_right, defBody s_law_moves_right, defScope s_law_moves_right, [], []⟩
def q_law_called : He.DefD := ⟨("_law_called", none), "_law_called", "_law_called", defArgs s_law_called, defBody s_law_called, defScope s_law_called, [], []⟩
def q_law_refused : He.DefD := ⟨("_law_refused", none), "_law_refused", "_law_refused", defArgs s_law_refused, defBody s_law_refused, defScope s_law_refused, [], []⟩
def q_law : He.DefD := ⟨("law", none), "law", "law", defArgs s_law, defBody s_law, defScope s_law, [], []⟩
def fn : List He.DefD := [q_BadRow___init, q_is_whole, q_check_number, q_longest_common, q_check_row, q_check_any_row, q_check_order, q_order_rises, q_rise_word, q_order_total, q_turned_order, q_contrary_order, q_check_short_row, q_lacking_member, q_lacking, q_row_without, q_order_with, q_places_tried, q_moves_apart, q_law_hand, q_law_mixed, q_law_take, q_law_common, q_law_order, q_law_rise_word, q_law_rise_total, q_law_without, q_law_with, q_law_length, q_law_turned_right, q_law_any_right, q_law_places_right, q_law_moves_right, q_law_called, q_law_refused, q_law]
def fa : List He.Fa := [.free "isinstance", .free "bool", .free "int", .glo "is_whole", .glo "BadNumber", .exc "BadNumber", .free "enumerate", .free "len", .free "tuple", .free "list", .glo "BadRow", .free "set", .int "MOST_MEMBERS" 40, .glo "check_row", .glo "_rise_word", .glo "_check_any_row", .free "range", .free "sum", .glo "check_order", .glo "check_number", .glo "_lacking", .glo "_check_short_row", .glo "longest_common", .free "abs", .glo "_law_mixed", .free "max", .glo "_law_take", .glo "_law_length", .glo "_law_order", .glo "_law_rise_total", .glo "contrary_order", .glo "turned_order", .free "repr", .glo "order_rises", .glo "_law_rise_word", .glo "order_total", .glo "_law_without", .glo "lacking_member", .glo "row_without", .glo "places_tried", .glo "_law_with", .free "sorted", .glo "order_with", .glo "_law_common", .glo "moves_apart", .glo "PlaceError", .glo "_law_called", .glo "_law_hand", .glo "_law_places_right", .glo "_law_any_right", .glo "_law_turned_right", .glo "_law_refused", .glo "_law_moves_right", .exm "BadNumber" "BadNumber" true, .exm "BadNumber" "BadRow" false, .exm "BadNumber" "PlaceError" true, .exm "BadRow" "BadNumber" false, .exm "BadRow" "BadRow" true, .exm "BadRow" "PlaceError" true, .glo "law"]
def ex (K : PySem.W.Frag) : Bool := (fexB K "BadRow" && (He.eqO (PySem.W.findIn K (.ref (He.ga K "BadRow")) "index") (some none) && true))
theorem txt_of {K : PySem.W.Frag} {h : Heap} {mg : Str → Option Value} (X : K.In h) (G : h.Ns mainGlobals mg) (c : He.SaysD fa fn K) (E : ex K = true) : Txt K mg := by
  obtain ⟨E0, E⟩ := He.ba E
  obtain ⟨E1, E⟩ := He.ba E
  exact {
    x_BadRow := fexB_ok E0,
    n_BadRow_is_index := He.eqO_ok E1,
    z_isinstance := He.free_ok X G (c.fact 0 (f := .free "isinstance") rfl),
    z_bool := He.free_ok X G (c.fact 1 (f := .free "bool") rfl),
    z_int := He.free_ok X G (c.fact 2 (f := .free "int") rfl),
    g_is_whole := He.glo_ok X G (c.fact 3 (f := .glo "is_whole") rfl),
    g_BadNumber := He.glo_ok X G (c.fact 4 (f := .glo "BadNumber") rfl),
    e_BadNumber := own_of (c.fact 5 (f := .exc "BadNumber") rfl),
    z_enumerate := He.free_ok X G (c.fact 6 (f := .free "enumerate") rfl),
    z_len := He.free_ok X G (c.fact 7 (f := .free "len") rfl),
    z_tuple := He.free_ok X G (c.fact 8 (f := .free "tuple") rfl),
    z_list := He.free_ok X G (c.fact 9 (f := .free "list") rfl),
    g_BadRow := He.glo_ok X G (c.fact 10 (f := .glo "BadRow") rfl),
    z_set := He.free_ok X G (c.fact 11 (f := .free "set") rfl),
    c_MOST_MEMBERS := He.int_ok X G (c.fact 12 (f := .int "MOST_MEMBERS" 40) rfl),
    g_check_row := He.glo_ok X G (c.fact 13 (f := .glo "check_row") rfl),
    g__rise_word := He.glo_ok X G (c.fact 14 (f := .glo "_rise_word") rfl),
    g__check_any_row := He.glo_ok X G (c.fact 15 (f := .glo "_check_any_row") rfl),
    z_range := He.free_ok X G (c.fact 16 (f := .free "range") rfl),
    z_sum := He.free_ok X G (c.fact 17 (f := .free "sum") rfl),
    g_check_order := He.glo_ok X G (c.fact 18 (f := .glo "check_order") rfl),
    g_check_number := He.glo_ok X G (c.fact 19 (f := .glo "check_number") rfl),
    g__lacking := He.glo_ok X G (c.fact 20 (f := .glo "_lacking") rfl),
    g__check_short_row := He.glo_ok X G (c.fact 21 (f := .glo "_check_short_row") rfl),
    g_longest_common := He.glo_ok X G (c.fact 22 (f := .glo "longest_common") rfl),
    z_abs := He.free_ok X G (c.fact 23 (f := .free "abs") rfl),
    g__law_mixed := He.glo_ok X G (c.fact 24 (f := .glo "_law_mixed") rfl),
    z_max := He.free_ok X G (c.fact 25 (f := .free "max") rfl),
    g__law_take := He.glo_ok X G (c.fact 26 (f := .glo "_law_take") rfl),
    g__law_length := He.glo_ok X G (c.fact 27 (f := .glo "_law_length") rfl),
    g__law_order := He.glo_ok X G (c.fact 28 (f := .glo "_law_order") rfl),
    g__law_rise_total := He.glo_ok X G (c.fact 29 (f := .glo "_law_rise_total") rfl),
    g_contrary_order := He.glo_ok X G (c.fact 30 (f := .glo "contrary_order") rfl),
    g_turned_order := He.glo_ok X G (c.fact 31 (f := .glo "turned_order") rfl),
    z_repr := He.free_ok X G (c.fact 32 (f := .free "repr") rfl),
    g_order_rises := He.glo_ok X G (c.fact 33 (f := .glo "order_rises") rfl),
    g__law_rise_word := He.glo_ok X G (c.fact 34 (f := .glo "_law_rise_word") rfl),
    g_order_total := He.glo_ok X G (c.fact 35 (f := .glo "order_total") rfl),
    g__law_without := He.glo_ok X G (c.fact 36 (f := .glo "_law_without") rfl),
    g_lacking_member := He.glo_ok X G (c.fact 37 (f := .glo "lacking_member") rfl),
    g_row_without := He.glo_ok X G (c.fact 38 (f := .glo "row_without") rfl),
    g_places_tried := He.glo_ok X G (c.fact 39 (f := .glo "places_tried") rfl),
    g__law_with := He.glo_ok X G (c.fact 40 (f := .glo "_law_with") rfl),
    z_sorted := He.free_ok X G (c.fact 41 (f := .free "sorted") rfl),
    g_order_with := He.glo_ok X G (c.fact 42 (f := .glo "order_with") rfl),
    g__law_common := He.glo_ok X G (c.fact 43 (f := .glo "_law_common") rfl),
    g_moves_apart := He.glo_ok X G (c.fact 44 (f := .glo "moves_apart") rfl),
    g_PlaceError := He.glo_ok X G (c.fact 45 (f := .glo "PlaceError") rfl),
    g__law_called := He.glo_ok X G (c.fact 46 (f := .glo "_law_called") rfl),
    g__law_hand := He.glo_ok X G (c.fact 47 (f := .glo "_law_hand") rfl),
    g__law_places_right := He.glo_ok X G (c.fact 48 (f := .glo "_law_places_right") rfl),
    g__law_any_right := He.glo_ok X G (c.fact 49 (f := .glo "_law_any_right") rfl),
    g__law_turned_right := He.glo_ok X G (c.fact 50 (f := .glo "_law_turned_right") rfl),
    g__law_refused := He.glo_ok X G (c.fact 51 (f := .glo "_law_refused") rfl),
    g__law_moves_right := He.glo_ok X G (c.fact 52 (f := .glo "_law_moves_right") rfl),
    m_BadNumber_is_BadNumber := He.exm_ok (c.fact 53 (f := .exm "BadNumber" "BadNumber" true) rfl),
    m_BadNumber_is_BadRow := He.exm_ok (c.fact 54 (f := .exm "BadNumber" "BadRow" false) rfl),
    m_BadNumber_is_PlaceError := He.exm_ok (c.fact 55 (f := .exm "BadNumber" "PlaceError" true) rfl),
    m_BadRow_is_BadNumber := He.exm_ok (c.fact 56 (f := .exm "BadRow" "BadNumber" false) rfl),
    m_BadRow_is_BadRow := He.exm_ok (c.fact 57 (f := .exm "BadRow" "BadRow" true) rfl),
    m_BadRow_is_PlaceError := He.exm_ok (c.fact 58 (f := .exm "BadRow" "PlaceError" true) rfl),
    F_BadRow___init := c.def_ 0 (d := q_BadRow___init) rfl,
    F_is_whole := c.def_ 1 (d := q_is_whole) rfl,
    F_check_number := c.def_ 2 (d := q_check_number) rfl,
    F_longest_common := c.def_ 3 (d := q_longest_common) rfl,
    F_check_row := c.def_ 4 (d := q_check_row) rfl,
    F_check_any_row := c.def_ 5 (d := q_check_any_row) rfl,
    F_check_order := c.def_ 6 (d := q_check_order) rfl,
    F_order_rises := c.def_ 7 (d := q_order_rises) rfl,
    F_rise_word := c.def_ 8 (d := q_rise_word) rfl,
    F_order_total := c.def_ 9 (d := q_order_total) rfl,
    F_turned_order := c.def_ 10 (d := q_turned_order) rfl,
    F_contrary_order := c.def_ 11 (d := q_contrary_order) rfl,
    F_check_short_row := c.def_ 12 (d := q_check_short_row) rfl,
    F_lacking_member := c.def_ 13 (d := q_lacking_member) rfl,
    F_lacking := c.def_ 14 (d := q_lacking) rfl,
    F_row_without := c.def_ 15 (d := q_row_without) rfl,
    F_order_with := c.def_ 16 (d := q_order_with) rfl,
    F_places_tried := c.def_ 17 (d := q_places_tried) rfl,
    F_moves_apart := c.def_ 18 (d := q_moves_apart) rfl,
    F_law_hand := c.def_ 19 (d := q_law_hand) rfl,
    F_law_mixed := c.def_ 20 (d := q_law_mixed) rfl,
    F_law_take := c.def_ 21 (d := q_law_take) rfl,
    F_law_common := c.def_ 22 (d := q_law_common) rfl,
    F_law_order := c.def_ 23 (d := q_law_order) rfl,
    F_law_rise_word := c.def_ 24 (d := q_law_rise_word) rfl,
    F_law_rise_total := c.def_ 25 (d := q_law_rise_total) rfl,
    F_law_without := c.def_ 26 (d := q_law_without) rfl,
    F_law_with := c.def_ 27 (d := q_law_with) rfl,
    F_law_length := c.def_ 28 (d := q_law_length) rfl,
    F_law_turned_right := c.def_ 29 (d := q_law_turned_right) rfl,
    F_law_any_right := c.def_ 30 (d := q_law_any_right) rfl,
    F_law_places_right := c.def_ 31 (d := q_law_places_right) rfl,
    F_law_moves_right := c.def_ 32 (d := q_law_moves_right) rfl,
    F_law_called := c.def_ 33 (d := q_law_called) rfl,
    F_law_refused := c.def_ 34 (d := q_law_refused) rfl,
    F_law := c.def_ 35 (d := q_law) rfl }
def loose0 : List Str := ["PlaceError", "BadNumber", "BadRow", "is_whole", "check_number", "longest_common", "MOST_MEMBERS", "check_row", "_check_any_row", "check_order", "order_rises", "_rise_word", "order_total", "turned_order", "contrary_order", "_check_short_row", "lacking_member", "_lacking", "row_without", "order_with", "places_tried", "moves_apart", "_law_hand", "_law_mixed", "_law_take", "_law_common", "_law_order", "_law_rise_word", "_law_rise_total", "_law_without"]
def loose1 : List Str := ["_law_with", "_law_length", "_law_turned_right", "_law_any_right", "_law_places_right", "_law_moves_right", "_law_called", "_law_refused"]
def loose : List Str := loose0 ++ loose1
abbrev R : PySem.W.OpenRow := PySem.W.OpenLaw.row PySem.Challenge.rw_lostplaces_k23_whole_orders_rows_and_mov
def at0 : List Nat := [3, 6, 4, 24, 37, 56, 66, 73, 80, 87, 94, 101, 108, 113, 118, 125, 130, 137, 144, 151, 156, 163, 168, 175, 182, 189, 196, 203, 210, 215, 220, 225, 232, 239, 244, 251, 258, 265, 272, 279, 286, 0, 23, 36, 55, 65, 59, 72, 79, 86, 93, 100, 107, 112, 117, 124, 129, 136, 143, 150, 155, 162, 167, 174, 181, 188, 195, 202, 209, 214, 219, 224, 231, 238, 243, 250, 257, 264, 271, 278, 285, 22, 25, 35, 53, 54, 60, 61, 62, 63, 64, 67, 68, 69, 70, 71, 74, 75, 76, 77, 78, 81, 82, 83, 84, 85, 88, 89, 90, 91, 92, 95, 96, 97, 98, 99, 102, 103, 104, 105, 106, 109, 110, 111, 114, 115, 116, 119, 120, 121, 122, 123, 126, 127, 128, 131, 132, 133, 134, 135, 138, 139, 140, 141, 142, 145, 146, 147, 148, 149, 152, 153, 154, 157, 158, 159, 160, 161, 164, 165, 166, 169, 170, 171, 172, 173, 176, 177, 178, 179, 180, 183, 184, 185, 186, 187, 190, 191, 192, 193, 194, 197, 198, 199, 200, 201, 204, 205, 206, 207, 208, 211, 212, 213, 216, 217, 218, 221, 222, 223, 226, 227, 228, 229, 230, 233, 234, 235, 236, 237, 240, 241, 242, 245, 246, 247, 248, 249, 252, 253, 254, 255, 256, 259, 260, 261, 262, 263, 266, 267, 268, 269, 270, 273, 274, 275, 276, 277, 280, 281, 282, 283, 284, 52, 47, 48, 49, 50, 51, 2]
def obsL (n : List Nat) (fa : List He.Fa) (fn : List He.DefD) (ex : PySem.W.Frag → Bool) (g : Addr → Option Obj) : He.AlD × Bool := (He.obsD fa fn (He.frG g n), ex (He.frG g n))
def hookL (n : List Nat) (fa : List He.Fa) (fn : List He.DefD) (ex : PySem.W.Frag → Bool) : PySem.W.Hook where
  α := He.AlD × Bool
  obs := fun s => obsL n fa fn ex s.heap.get?
  val := fun _ => (He.valD fn, true)
  says := fun _ h => ∃ K : PySem.W.Frag, K.In h ∧ He.SaysD fa fn K ∧ ex K = true
  of := fun _ _ e => ⟨_, He.frG_in, congrArg (fun z : He.AlD × Bool => z.1) e, congrArg (fun z : He.AlD × Bool => z.2) e⟩
  keeps := fun _ _ _ ⟨K, hK, c⟩ k => ⟨K, PySem.W.Frag.In.keeps hK k, c⟩
theorem obsL_eq {n : List Nat} {fa : List He.Fa} {fn : List He.DefD} {ex : PySem.W.Frag → Bool} {g : Addr → Option Obj} {s : Shared} (h : ∀ a, g a = s.heap.get? a) : obsL n fa fn ex g = (hookL n fa fn ex).obs s := by
  have e : g = s.heap.get? := funext h
  rw [e] <;> rfl
abbrev hk : PySem.W.Hook := hookL at0 fa fn ex
def ob (s : PySem.W.SharedT) : He.AlD × Bool := obsL at0 fa fn ex (HandSHeadRun.getT s)
theorem ob_eq (s : PySem.W.SharedT) : ob s = hk.obs s.abs := obsL_eq (HandSHeadRun.getT_eq s)
theorem opt_six {α β γ δ : Type} {o : Option α} {a : α → β} {b : α → γ} {c d f : α → Bool} {e : α → δ} {ta : β} {tb : γ} {te : δ} (h1 : o.map a = some ta) (h2 : o.map b = some tb) (h3 : o.map c = some true) (h4 : o.map d = some true) (h5 : o.map e = some te) (h6 : o.map f = some true) :
    o.map (fun x => (a x, b x, ((c x && d x, e x), f x))) = some (ta, tb, ((true, te), true)) := by
  cases o with
  | none => cases h1
  | some x =>
    injection h1 with h1
    injection h2 with h2
    injection h3 with h3
    injection h4 with h4
    injection h5 with h5
    injection h6 with h6
    show some (a x, b x, ((c x && d x, e x), f x)) = _
    rw [h1, h2, h3, h4, h5, h6] <;> rfl
open PySem.W PySem.Calls HandSHeadRun in
theorem run1 (w : World) (os : OsState) : (endF (stepQ (denQ tabQ) R.prog w) 20000 R.prog w os).map (fun x => looksF R.prog (boot_heap w.params) x.abs) = some true := by kernel_rfl
open PySem.W PySem.Calls HandSHeadRun in
theorem run2 (w : World) (os : OsState) : (endF (stepQ (denQ tabQ) R.prog w) 20000 R.prog w os).map (fun x => seenQ (PySem.W.view R.prog [43]) loose (importedModules R.prog.main.body) (fun s => xlAt (PySem.W.view R.prog [43]) [] s && recOk R.toRowW.records s) x.abs) = some (openGood (PySem.W.view R.prog [43]) loose) := by kernel_rfl
open PySem.W PySem.Calls HandSHeadRun in
theorem run3 (w : World) (os : OsState) : (endF (stepQ (denQ tabQ) R.prog w) 20000 R.prog w os).map (fun x => fa.all fun f => f.ok (He.frG (getT x) at0)) = some true := by kernel_rfl
open PySem.W PySem.Calls HandSHeadRun in
theorem run4 (w : World) (os : OsState) : (endF (stepQ (denQ tabQ) R.prog w) 20000 R.prog w os).map (fun x => fn.all fun d => d.ok (He.frG (getT x) at0)) = some true := by kernel_rfl
open PySem.W PySem.Calls HandSHeadRun in
theorem run5 (w : World) (os : OsState) : (endF (stepQ (denQ tabQ) R.prog w) 20000 R.prog w os).map (fun x => fn.map fun d => He.fnW (He.frG (getT x) at0) d.at_) = some (fn.map He.DefD.val) := by kernel_rfl
open PySem.W PySem.Calls HandSHeadRun in
theorem run6 (w : World) (os : OsState) : (endF (stepQ (denQ tabQ) R.prog w) 20000 R.prog w os).map (fun x => ex (He.frG (getT x) at0)) = some true := by kernel_rfl
open PySem.W PySem.Calls HandSHeadRun in
theorem run (w : World) : RunEq R (PySem.W.view R.prog [43]) hk ob 20000 loose w := by
  intro os
  exact opt_six (run1 w os) (run2 w os) (run3 w os) (run4 w os) (run5 w os) (run6 w os)
end Mine
namespace Mine
open PySem PySem.W PySem.Calls PyProof.Rows HandSHeadRun
abbrev rr := OpenLaw.row PySem.Challenge.rw_lostplaces_k23_whole_orders_rows_and_mov
abbrev qq := view (OpenLaw.row PySem.Challenge.rw_lostplaces_k23_whole_orders_rows_and_mov).prog [43]
abbrev dd := HandSHeadRun.topDef rr.prog 43
theorem h_e : opening rr.prog = plainProg rr.prog.main.scope.names := by kernel_rfl
theorem h_f : ∀ s, fenceModules? rr.prog s = some s := fun s => by kernel_rfl
theorem h_def : defOf qq rr.name = some (dd, []) := by kernel_rfl
theorem h_p : rr.prog.theDef rr.name = some (dd.params, dd.body, dd.scope) := by kernel_rfl
theorem h_k : kwWritten? dd.params.kwonlyargs dd.params.kw_defaults = some [] := by kernel_rfl
theorem h_wr : (!rr.writes || rr.records.isEmpty) = true := by rfl
theorem h_ws : rr.wellSaid = true := by first | assumption | decide +kernel
theorem h_ok : (chainsOk qq && opensWell rr.prog && (frees rr.toRowW && rr.within.isEmpty)) = true := by decide +kernel
theorem h_b : rr.prog.bare := ⟨rfl, rfl, rfl, rfl, rfl, by decide +kernel⟩
end Mine

namespace Mine
open PySem PySem.Spec PyProof.Rows L2
local macro_rules | `(tactic| walk_at "wp") => `(tactic| try simp -implicitDefEqProofs only [eFld_W, eFldS_W, sSetF_W, eMeth_W, eMeth0_W, eProp_W, mkI_W, mkI0_W, eVarD_W, eDic_W, eGet1_W, eGet2_W, eAtD_W, eInD_W, eNotInD_W, sOwnD_W, sPutD_W, Bool.false_eq_true, LINE_W, line0, line1, line2, line3, line4, line5, line6, line7, line8, line9, line10, line11, line12, take_W, Int.reduceLT, Int.reduceLE, Int.reduceNeg, mkD_W, mkD0_W, sSeq_W, sAsg_W, sRet_W, sRetN_W, sIf_W, sNext_W, sDrop_W, sBreak_W, sCont_W, sOwn_W, sPar_W, sPar3_W, sFrz_W, frz_W, fz_lst, fz_dk, fz_dt, sApp_W, sExt_W, sPop_W, sPopTo_W, sPut_W, sAugP_W, sAug_W, sFor_W, sRaise_W, sRaise1_W, gD_W, gD2_W, gD3_W, eVar_W, eVarB_W, eC_W, eOp_W, eUn_W, eCB_W, eNil_W, eCons_W, eConsS_W, eConsH_W, eTup_W, eLst_W, eCall_W, eCall0_W, eTest_W, eNotT_W, eAndT_W, eOrT_W, eTru_W, dTru_non, dTru_bl, dTru_int, dTru_lst, dTru_tup, dTru_str, dTru_dk, eBool_W, eAndV_W, eOrV_W, eNotV_W, eNotVT_W, eIf_W, eChain_W, eLc_W, eLc2_W, eYes_W, eSeq_W, eRng1_W, eRng2_W, eEnum_W, eZip_W, eSl_W, ePart_W, eNoPart_W, eRev_W, eRevL_W, eDk0_W, dAdd_int, dAdd_lst, dAdd_tup, dAdd_str, dAddL_lst, dSub_int, dMul_int, dMul_lst, dMulL_lst, dMul_tup, dFdiv_int, dMod_int, dPow_int, dShl_int, dShr_int, dLe_int, dLt_int, dGt_int, dGe_int, dNeg_int, isa_seq2, isLs_lst, isLs_tup, Bool.or_false, Bool.or_true, Bool.true_or, Bool.false_or, Bool.and_true, Bool.true_and, Bool.and_false, Bool.false_and, isSeq_lst, isSeq_tup, isTp_tup, isTp_lst, isTp_non, isTp_int, isTp_str, isW_int, dIsN_W, dNotN_W, isN_non, isN_int, isN_bl, isN_str, isN_tup, isN_lst, isN_dk, isN_dt, isN_ins, dIx_W, dSl_W, dSlL_W, dLen_W, dInt_W, dStr_W, dAbs_W, dMax2_W, dMin2_W, dTupOf_W, dLstOf_W, dIsi_W, dIsi2_W, kn_int, kn_bl, kn_non, kn_str, kn_tup, kn_lst, kn_dk, kn_dt, isa_int_int, isa_int_bool, isa_tup_tup, isa_bl_bool, isa_seq_tup, isa_seq_lst, isa_int, isa_bool, isa_seq, isa_tup, isa_str, isa_lst, dEq_int, dNe_int, Dt.flat, wipeS, List.getElem?_cons_zero, List.getElem?_cons_succ, List.set_cons_zero, List.set_cons_succ, List.replicate, List.append_nil, List.cons_append, List.nil_append, List.length_cons, List.length_nil, Nat.reduceAdd, Nat.reduceSub, Nat.zero_add, Option.isSome_some, Bool.true_eq_false, Bool.false_eq_true, if_true, if_false, ite_true, ite_false, eq_self, not_true_eq_false, not_false_eq_true, true_and, and_true, decide_eq_true_eq, Bool.not_true, Bool.not_false, Bool.not_eq_true', decide_eq_false_iff_not, decide_true, decide_false, List.length_map, List.map_cons, List.map_nil, Option.some.injEq, reduceCtorEq, Bool.not_eq_eq_eq_not, eEnumK_W, eDk1_W, eXf_W, eIsX_W, sTry_W, sKeep_W, eZipS_W, eZipT_W, eRgL_W, mkG_W, gPlain_W, gSeq_W, gNext_W, gIf_W, gYield_W, gFor_W, sRowPut_W, eCnt_W, eSortedSetI_W, eSortedSetG_W, eSortScG_W, eMinDf_W, eMaxDf_W, eBits_W, eLenSetG_W, dShlW_int, gD3L_W, dIsB_bl, dNotB_bl, eFmtB_W, eTm_W, eSortScG2_W, eCallK0_W, eCallK_W, sRetOwn_W, sRetO_W, sOut_W, sTab_W, eTab_W, sTabPut_W, sTabApp_W, sFrzT_W, eInRg_W, dRepr_W, sIfK_W, sAppK_W, sPopAt_W, sPopToAt_W, eCallKR0_W, sSet0_W, sSetAdd_W, eInS_W, sAppPop_W])

section
theorem is_whole_ok {x : Dt} {lo hi : Int} {Q : Dt → Prop} {E : Xc → Prop} (hk : x.kind.isSome = true) (q : Q (.bl (inB lo hi x))) : F_is_whole [.d x, .d (.int lo), .d (.int hi)] Q E := by
  rw [F_is_whole_eq]; unfold S_is_whole
  cases x with
  | int i =>
    walk_at "wp"
    by_cases a : lo ≤ i <;> simpa [inB, a, isW] using q
  | raw v => cases hk
  | ins c ns vs => cases hk
  | _ => walk_at "wp"; simpa [isW, inB] using q
end

section
end

section
end

section
/-! ### letters put in and taken out, place sums -/
def ins (a : Int) : Nat → List Int → List Int
  | 0, w => a :: w
  | _ + 1, [] => [a]
  | k + 1, c :: w => c :: ins a k w
def del : Nat → List Int → List Int
  | _, [] => []
  | 0, _ :: w => w
  | k + 1, c :: w => c :: del k w
def Bits (y : List Int) : Prop := ∀ x ∈ y, x = 0 ∨ x = 1
theorem Bits.head {c : Int} {y : List Int} (h : Bits (c :: y)) : c = 0 ∨ c = 1 := h c List.mem_cons_self
/-- the places of the rises -/
def dv (b : Int) (i : Nat) (y : List Int) : Int := ((i : Int) + 1) * b + (y.drop i).sum
/-! the loss at i: how much it lowers the place sum -/
def dl (i : Nat) (u : List Int) : Int := ((i : Int) + 1) * u.getD i 0 + (u.drop (i + 1)).sum
end

section
end

section
theorem nodup_len {α : Type} [DecidableEq α] : ∀ {xs ys : List α}, xs.Nodup → (∀ x ∈ xs, x ∈ ys) → xs.length ≤ ys.length
  | [], ys, _, _ => Nat.zero_le _
  | x :: xs, ys, h, s => by
    obtain ⟨h1, h2⟩ := List.nodup_cons.mp h
    have hx := s x List.mem_cons_self
    have := nodup_len (xs := xs) (ys := ys.erase x) h2 fun y hy => (List.mem_erase_of_ne (a := y) (b := x) fun e => h1 (by rw [← e]; exact hy)).mpr (s y (List.mem_cons_of_mem _ hy))
    rw [List.length_erase_of_mem hx] at this
    have := List.length_pos_of_mem hx
    rw [List.length_cons]; omega
end

section
theorem map_nodup {α β : Type} {f : α → β} {xs : List α} (hx : xs.Nodup) (h : ∀ x ∈ xs, ∀ y ∈ xs, f x = f y → x = y) : (xs.map f).Nodup :=
  List.pairwise_map.mpr (List.Pairwise.imp_of_mem (fun {x y} hx hy hne e => hne (h x hx y hy e)) hx)
end

section
end

section
end

section
theorem check_number_ok {x : Dt} {lo hi : Int} {Q : Dt → Prop} {E : Xc → Prop} (hk : x.kind.isSome = true) (q : inB lo hi x = true → Q x) (h1 : inB lo hi x = false → E ⟨"BadNumber", []⟩) : F_check_number [.d x, .d (.int lo), .d (.int hi)] Q E := by
  rw [F_check_number_eq]; unfold S_check_number
  walk_at "wp"
  refine is_whole_ok hk ?_
  walk_at "wp"
  cases h : inB lo hi x with
  | true => simpa using q h
  | false => simpa using h1 h
theorem inB_int {lo hi i : Int} (a : lo ≤ i) (b : i ≤ hi) : inB lo hi (.int i) = true := by
  unfold inB; simp [a, b, isW]
theorem num_in {lo hi : Int} {i : Int} {Q : Dt → Prop} {E : Xc → Prop} (a : lo ≤ i) (b : i ≤ hi) (q : Q (.int i)) : F_check_number [.d (.int i), .d (.int lo), .d (.int hi)] Q E :=
  check_number_ok rfl (fun _ => q) fun h => by rw [inB_int a b] at h; cases h
end

section
/-! ### one letter less; the words below, level by level -/
end

section
end

section

end

section
end

section
/-! ### alignments of two words: pairs and wrong ones -/
inductive Al : List Int → List Int → Nat → Nat → Prop
  | nil (u v : List Int) : Al u v 0 0
  | left {u v : List Int} {p w : Nat} (a : Int) (h : Al u v p w) : Al (a :: u) v p w
  | right {u v : List Int} {p w : Nat} (b : Int) (h : Al u v p w) : Al u (b :: v) p w
  | alike {u v : List Int} {p w : Nat} (a : Int) (h : Al u v p w) : Al (a :: u) (a :: v) (p + 1) w
  | unlike {u v : List Int} {p w : Nat} (a b : Int) (ne : a ≠ b) (h : Al u v p w) : Al (a :: u) (b :: v) (p + 1) (w + 1)
def wr (a b : Int) : Nat := if a = b then 0 else 1
theorem Al.pair {u v : List Int} {p w : Nat} (a b : Int) (h : Al u v p w) : Al (a :: u) (b :: v) (p + 1) (w + wr a b) := by
  unfold wr
  split
  · subst_vars; exact .alike _ h
  · exact .unlike _ _ (by assumption) h
theorem Al.symm {u v : List Int} {p w : Nat} (h : Al u v p w) : Al v u p w := by
  induction h with
  | nil u v => exact .nil _ _
  | left a _ ih => exact .right _ ih
  | right b _ ih => exact .left _ ih
  | alike a _ ih => exact .alike _ ih
  | unlike a b ne _ ih => exact .unlike _ _ (Ne.symm ne) ih
theorem Al.lefts {u v : List Int} {p w : Nat} (x : List Int) (h : Al u v p w) : Al (x ++ u) v p w := by
  induction x with
  | nil => exact h
  | cons a x ih => exact .left a ih
theorem Al.rights {u v : List Int} {p w : Nat} (y : List Int) (h : Al u v p w) : Al u (y ++ v) p w := (h.symm.lefts y).symm
theorem Al.app {u v u' v' : List Int} {p w p' w' : Nat} (h : Al u v p w) (h' : Al u' v' p' w') : Al (u ++ u') (v ++ v') (p + p') (w + w') := by
  induction h with
  | nil u v => simpa using (h'.lefts u).rights v
  | left a _ ih => exact .left a ih
  | right b _ ih => exact .right b ih
  | alike a _ ih => rw [Nat.add_right_comm]; exact .alike a ih
  | unlike a b ne _ ih => rw [Nat.add_right_comm, Nat.add_right_comm _ 1 w']; exact .unlike a b ne ih
theorem Al.rev {u v : List Int} {p w : Nat} (h : Al u v p w) : Al u.reverse v.reverse p w := by
  induction h with
  | nil u v => exact .nil _ _
  | left a _ ih => simpa using ih.app (.nil [a] [])
  | right b _ ih => simpa using ih.app (.nil [] [b])
  | alike a _ ih => simpa using ih.app (.alike a (.nil [] []))
  | unlike a b ne _ ih => simpa using ih.app (.unlike a b ne (.nil [] []))
theorem Al.le {u v : List Int} {p w : Nat} (h : Al u v p w) : w ≤ p ∧ p ≤ u.length ∧ p ≤ v.length := by
  induction h with
  | nil u v => simp
  | left a _ ih => simp; omega
  | right b _ ih => simp; omega
  | alike a _ ih => simp; omega
  | unlike a b ne _ ih => simp; omega
theorem Al.less {u v : List Int} {p w : Nat} (h : Al u v p w) : ∀ {q : Nat}, p = q + 1 → ∃ k, k ≤ w ∧ Al u v q k := by
  induction h with
  | nil u v => intro q e; omega
  | left a _ ih => intro q e; obtain ⟨k, l, g⟩ := ih e; exact ⟨k, l, .left a g⟩
  | right a _ ih => intro q e; obtain ⟨k, l, g⟩ := ih e; exact ⟨k, l, .right a g⟩
  | @alike u v p w a h ih =>
    intro q e
    exact ⟨w, Nat.le_refl _, by rw [show q = p by omega]; exact .left a (.right a h)⟩
  | @unlike u v p w a b ne h ih =>
    intro q e
    exact ⟨w, by omega, by rw [show q = p by omega]; exact .left a (.right b h)⟩
theorem Al.fewer {u v : List Int} {p w : Nat} (h : Al u v p w) {q : Nat} (le : q ≤ p) : ∃ k, k ≤ w ∧ Al u v q k := by
  induction p generalizing w with
  | zero => exact ⟨w, Nat.le_refl _, by rw [show q = 0 by omega]; exact h⟩
  | succ p ih =>
    by_cases e : q = p + 1
    · exact ⟨w, Nat.le_refl _, e ▸ h⟩
    · obtain ⟨k, l, g⟩ := h.less rfl
      obtain ⟨k', l', g'⟩ := ih g (by omega)
      exact ⟨k', by omega, g'⟩
/-- inversion on the right word -/
theorem Al.inv_cons {u z : List Int} {p w : Nat} (h : Al u z p w) : ∀ {c : Int} {z' : List Int}, z = c :: z' → Al u z' p w ∨ ∃ u1 a u' p0 w0, u = u1 ++ a :: u' ∧ p = p0 + 1 ∧ w = w0 + wr a c ∧ Al u' z' p0 w0 := by
  induction h with
  | nil u v => intro c z' e; exact .inl (.nil _ _)
  | @left u v p w a h ih =>
    intro c z' e
    rcases ih e with g | ⟨u1, b, u', p0, w0, rfl, rfl, rfl, g⟩
    · exact .inl (.left a g)
    · exact .inr ⟨a :: u1, b, u', p0, w0, rfl, rfl, rfl, g⟩
  | right b h ih => intro c z' e; cases e; exact .inl h
  | @alike u v p w a h ih => intro c z' e; cases e; exact .inr ⟨[], a, u, p, w, rfl, rfl, by simp [wr], h⟩
  | @unlike u v p w a b ne h ih => intro c z' e; cases e; exact .inr ⟨[], a, u, p, w, rfl, rfl, by simp [wr, ne], h⟩
theorem Al.nil_right {u : List Int} {p w : Nat} (h : Al u [] p w) : p = 0 ∧ w = 0 := by
  have l := h.le
  simp at l
  omega
theorem wr_tri (a b c : Int) : wr a b ≤ wr a c + wr b c := by
  unfold wr
  split <;> split <;> split <;> simp_all
/-- two alignments with one word let one of the two -/
theorem Al.over {z : List Int} : ∀ {u v : List Int} {p w p' w' : Nat}, Al u z p w → Al v z p' w' → ∃ r k, p + p' ≤ z.length + r ∧ k ≤ w + w' ∧ Al u v r k := by
  induction z with
  | nil =>
    intro u v p w p' w' h h'
    obtain ⟨rfl, rfl⟩ := h.nil_right
    obtain ⟨rfl, rfl⟩ := h'.nil_right
    exact ⟨0, 0, by simp, by simp, .nil _ _⟩
  | cons c z ih =>
    intro u v p w p' w' h h'
    rcases h.inv_cons rfl with g | ⟨u1, a, u', p0, w0, rfl, rfl, rfl, g⟩ <;> rcases h'.inv_cons rfl with g' | ⟨v1, b, v', p1, w1, rfl, rfl, rfl, g'⟩
    · obtain ⟨r, k, l, l', e⟩ := ih g g'
      exact ⟨r, k, by simp; omega, l', e⟩
    · obtain ⟨r, k, l, l', e⟩ := ih g g'
      exact ⟨r, k, by simp; omega, by omega, (e.right b).rights v1⟩
    · obtain ⟨r, k, l, l', e⟩ := ih g g'
      exact ⟨r, k, by simp; omega, by omega, (e.left a).lefts u1⟩
    · obtain ⟨r, k, l, l', e⟩ := ih g g'
      have t := wr_tri a b c
      exact ⟨r + 1, k + wr a b, by simp; omega, by omega, ((e.pair a b).lefts u1).rights v1⟩
theorem Al.up {x y : List Int} {p w : Nat} (h : Al x y p w) : ∀ {u v : List Int}, x.Sublist u → y.Sublist v → Al u v p w := by
  have one : ∀ {x u y : List Int} {p w : Nat}, x.Sublist u → Al x y p w → Al u y p w := by
    intro x u y p w s h
    induction s generalizing y p w with
    | slnil => exact h
    | cons a s ih => exact .left a (ih h)
    | cons_cons a s ih =>
      rename_i l₁ l₂
      rcases h.symm.inv_cons rfl with g | ⟨v1, b, v', p0, w0, rfl, rfl, rfl, g⟩
      · exact .left a (ih g.symm)
      · have q := (ih g.symm).pair a b
        rw [show wr b a = wr a b by unfold wr; simp [eq_comm]]
        exact q.rights v1
  intro u v s t
  exact (one t (one s h).symm).symm
end

section
theorem al_cons {a b : Int} {u v : List Int} {p w : Nat} : Al (a :: u) (b :: v) p w ↔ Al u (b :: v) p w ∨ Al (a :: u) v p w ∨ ∃ p0 w0, p = p0 + 1 ∧ w = w0 + wr a b ∧ Al u v p0 w0 := by
  constructor
  · intro h
    cases h with
    | nil => exact .inl (.nil _ _)
    | left _ h => exact .inl h
    | right _ h => exact .inr (.inl h)
    | alike _ h => exact .inr (.inr ⟨_, _, rfl, by simp [wr], h⟩)
    | unlike _ _ ne h => exact .inr (.inr ⟨_, _, rfl, by simp [wr, ne], h⟩)
  · rintro (h | h | ⟨p0, w0, rfl, rfl, h⟩)
    · exact .left a h
    · exact .right b h
    · exact h.pair a b
end

section
theorem Al.self (u : List Int) : Al u u u.length 0 := by
  induction u with
  | nil => exact .nil _ _
  | cons a x ih => exact .alike a ih
end

section
/-- the longest word below both, by the recurrence -/
def com : List Int → List Int → Nat
  | [], _ => 0
  | _ :: _, [] => 0
  | a :: u, b :: v => if a = b then com u v + 1 else max (com u (b :: v)) (com (a :: u) v)
theorem com_al : ∀ (u v : List Int), Al u v (com u v) 0
  | [], v => by rw [com]; exact .nil _ _
  | a :: u, [] => by rw [com]; exact .nil _ _
  | a :: u, b :: v => by
    rw [com]
    split
    · subst_vars; exact .alike _ (com_al u v)
    · rcases Nat.le_total (com u (b :: v)) (com (a :: u) v) with h | h
      · rw [Nat.max_eq_right h]; exact .right b (com_al (a :: u) v)
      · rw [Nat.max_eq_left h]; exact .left a (com_al u (b :: v))
theorem com_le : ∀ (u v : List Int) (p : Nat), Al u v p 0 → p ≤ com u v
  | [], v, p, h => by rw [com]; have := h.le; simp at this; omega
  | a :: u, [], p, h => by rw [com]; have := h.le; simp at this; omega
  | a :: u, b :: v, p, h => by
    have lu : ∀ q, Al u (b :: v) q 0 → q ≤ com u (b :: v) := com_le u (b :: v)
    have lv : ∀ q, Al (a :: u) v q 0 → q ≤ com (a :: u) v := com_le (a :: u) v
    have ll : ∀ q, Al u v q 0 → q ≤ com u v := com_le u v
    rw [com]
    split
    · subst_vars
      rcases al_cons.1 h with g | g | ⟨p0, w0, rfl, e, g⟩
      · rcases g.inv_cons rfl with g' | ⟨u1, x, u', p0, w0, rfl, rfl, e, g'⟩
        · have := ll _ g'; omega
        · have z : w0 = 0 := by omega
          subst z
          have := ll _ (g'.up ((List.sublist_cons_self x u').trans (List.sublist_append_right u1 _)) (List.Sublist.refl _)); omega
      · rcases g.symm.inv_cons rfl with g' | ⟨u1, x, u', p0, w0, rfl, rfl, e, g'⟩
        · have := ll _ g'.symm; omega
        · have z : w0 = 0 := by omega
          subst z
          have := ll _ (g'.symm.up (List.Sublist.refl _) ((List.sublist_cons_self x u').trans (List.sublist_append_right u1 _))); omega
      · have z : w0 = 0 := by omega
        subst z
        have := ll _ g; omega
    · rename_i ne
      rcases al_cons.1 h with g | g | ⟨p0, w0, rfl, e, g⟩
      · have := lu _ g; omega
      · have := lv _ g; omega
      · simp [wr, ne] at e
end

section
theorem com_rev (u v : List Int) : com u.reverse v.reverse = com u v := by
  apply Nat.le_antisymm
  · have h := (com_al u.reverse v.reverse).rev
    rw [List.reverse_reverse, List.reverse_reverse] at h
    exact com_le u v _ h
  · exact com_le _ _ _ (com_al u v).rev
end

section
/-! ### a row of bits as a number -/
def nb : List Bool → Nat
  | [] => 0
  | b :: l => b.toNat + 2 * nb l
theorem nb_lt : ∀ l : List Bool, nb l < 2 ^ l.length
  | [] => by simp [nb]
  | b :: l => by
    have := nb_lt l
    rw [nb, List.length_cons, Nat.pow_succ]
    cases b <;> simp <;> omega
theorem half_bit (b : Bool) (x : Nat) : (b.toNat + 2 * x) / 2 = x := by cases b <;> simp <;> omega
theorem low_is (b : Bool) (x : Nat) : (b.toNat + 2 * x).testBit 0 = b := by
  rw [Nat.testBit_zero]
  cases b <;> simp <;> omega
theorem or_bit (p q : Bool) (x y : Nat) : (p.toNat + 2 * x) ||| (q.toNat + 2 * y) = (p || q).toNat + 2 * (x ||| y) := by
  apply Nat.eq_of_testBit_eq
  intro i
  rw [Nat.testBit_or]
  cases i with
  | zero => rw [low_is, low_is, low_is]
  | succ i => rw [Nat.testBit_succ, Nat.testBit_succ, Nat.testBit_succ, half_bit, half_bit, half_bit, Nat.testBit_or]
theorem and_bit (p q : Bool) (x y : Nat) : (p.toNat + 2 * x) &&& (q.toNat + 2 * y) = (p && q).toNat + 2 * (x &&& y) := by
  apply Nat.eq_of_testBit_eq
  intro i
  rw [Nat.testBit_and]
  cases i with
  | zero => rw [low_is, low_is, low_is]
  | succ i => rw [Nat.testBit_succ, Nat.testBit_succ, Nat.testBit_succ, half_bit, half_bit, half_bit, Nat.testBit_and]
theorem nb_and : ∀ (a b : List Bool), a.length = b.length → nb a &&& nb b = nb (List.zipWith and a b)
  | [], [], _ => by simp [nb]
  | p :: a, q :: b, h => by
    rw [nb, nb, and_bit, nb_and a b (by simpa using h)]; rfl
theorem nb_or : ∀ (a b : List Bool), a.length = b.length → nb a ||| nb b = nb (List.zipWith or a b)
  | [], [], _ => by simp [nb]
  | p :: a, q :: b, h => by
    rw [nb, nb, or_bit, nb_or a b (by simpa using h)]; rfl
theorem nb_true : ∀ n : Nat, nb (List.replicate n true) = 2 ^ n - 1
  | 0 => rfl
  | n + 1 => by
    have := nb_true n
    have p := Nat.two_pow_pos n
    rw [List.replicate_succ, nb, this, Nat.pow_succ]
    show 1 + 2 * (2 ^ n - 1) = _
    omega
theorem nb_snoc : ∀ (l : List Bool) (b : Bool), nb (l ++ [b]) = nb l + b.toNat * 2 ^ l.length
  | [], b => by simp [nb]
  | a :: l, b => by
    rw [List.cons_append, nb, nb, nb_snoc l b, List.length_cons, Nat.pow_succ]
    cases b <;> simp <;> omega
theorem nb_sub : ∀ (v m : List Bool), v.length = m.length → nb v - nb (List.zipWith and v m) = nb (List.zipWith (fun p q => p && !q) v m) ∧ nb (List.zipWith and v m) ≤ nb v
  | [], [], _ => ⟨rfl, Nat.le_refl _⟩
  | p :: v, q :: m, h => by
    obtain ⟨h1, h2⟩ := nb_sub v m (by simpa using h)
    rw [List.zipWith_cons_cons, List.zipWith_cons_cons, nb, nb, nb]
    cases p <;> cases q <;> simp <;> omega
/-- the sum v + (v and m) + c, bit by bit, and what is carried out -/
def sumL : List Bool → List Bool → Bool → List Bool
  | v :: vs, m :: ms, c => (xor (xor v (v && m)) c) :: sumL vs ms ((v && m) || (v && c))
  | _, _, _ => []
def carL : List Bool → List Bool → Bool → Bool
  | v :: vs, m :: ms, c => carL vs ms ((v && m) || (v && c))
  | _, _, c => c
theorem sum_bits : ∀ (v m : List Bool) (c : Bool), v.length = m.length → nb v + nb (List.zipWith and v m) + c.toNat = nb (sumL v m c) + 2 ^ v.length * (carL v m c).toNat
  | [], [], c, _ => by simp [nb, sumL, carL]
  | p :: v, q :: m, c, h => by
    have ih := sum_bits v m ((p && q) || (p && c)) (by simpa using h)
    rw [List.zipWith_cons_cons, nb, nb, sumL, carL, nb, List.length_cons, Nat.pow_succ]
    cases p <;> cases q <;> cases c <;> simp at ih ⊢ <;> rw [Nat.mul_right_comm] <;> omega
theorem sumL_len : ∀ (v m : List Bool) (c : Bool), v.length = m.length → (sumL v m c).length = v.length
  | [], [], _, _ => rfl
  | p :: v, q :: m, c, h => by
    rw [sumL, List.length_cons, List.length_cons, sumL_len v m _ (by simpa using h)]
/-- one step of the row -/
def stepB : List Bool → List Bool → Bool → List Bool
  | v :: vs, m :: ms, c => ((xor (xor v (v && m)) c) || (v && !m)) :: stepB vs ms ((v && m) || (v && c))
  | _, _, _ => []
theorem stepB_zip : ∀ (v m : List Bool) (c : Bool), v.length = m.length → List.zipWith or (sumL v m c) (List.zipWith (fun p q => p && !q) v m) = stepB v m c
  | [], [], _, _ => rfl
  | p :: v, q :: m, c, h => by
    rw [sumL, List.zipWith_cons_cons, List.zipWith_cons_cons, stepB, stepB_zip v m _ (by simpa using h)]
theorem step_row {v m : List Bool} (h : v.length = m.length) : ((nb v + (nb v &&& nb m)) ||| (nb v - (nb v &&& nb m))) &&& (2 ^ v.length - 1) = nb (stepB v m false) := by
  obtain ⟨h1, _⟩ := nb_sub v m h
  have s := sum_bits v m false h
  have l := sumL_len v m false h
  have lt := nb_lt (sumL v m false)
  have lt2 := nb_lt (List.zipWith (fun p q => p && !q) v m)
  rw [l] at lt
  rw [List.length_zipWith, h, Nat.min_self, ← h] at lt2
  rw [nb_and v m h, h1, Nat.and_two_pow_sub_one_eq_mod, Nat.or_mod_two_pow, Nat.mod_eq_of_lt lt2]
  rw [show nb v + nb (List.zipWith and v m) = nb (sumL v m false) + 2 ^ v.length * (carL v m false).toNat by simpa using s, Nat.add_mul_mod_self_left, Nat.mod_eq_of_lt lt, nb_or _ _ (by rw [l, List.length_zipWith, ← h, Nat.min_self]), stepB_zip v m false h]
/-! the row of bits tells where the longest words below both grow -/
theorem com_up (a : Int) (U W : List Int) : com U W ≤ com (a :: U) W ∧ com (a :: U) W ≤ com U W + 1 := by
  refine ⟨com_le _ _ _ (.left a (com_al U W)), ?_⟩
  rcases (com_al (a :: U) W).symm.inv_cons rfl with g | ⟨u1, b, u', p0, w0, rfl, e1, e2, g⟩
  · have := com_le _ _ _ g.symm; omega
  · have z : w0 = 0 := by omega
    subst z
    have := com_le _ _ _ (g.symm.up (List.Sublist.refl U) ((List.sublist_cons_self b u').trans (List.sublist_append_right u1 _)))
    omega
theorem com_nilR (u : List Int) : com u [] = 0 := by cases u <;> rw [com]
def grow : List Int → List Int → List Int → List Bool
  | [], _, _ => []
  | a :: r, U, W => decide (com (a :: U) W = com U W) :: grow r (a :: U) W
theorem grow_len : ∀ (r U W : List Int), (grow r U W).length = r.length
  | [], _, _ => rfl
  | a :: r, U, W => by rw [grow, List.length_cons, List.length_cons, grow_len]
theorem grow_start : ∀ (r U : List Int), grow r U [] = List.replicate r.length true
  | [], _ => rfl
  | a :: r, U => by
    rw [grow, com_nilR, com_nilR, grow_start r, List.length_cons, List.replicate_succ]; simp
theorem grow_step (b : Int) : ∀ (r U W : List Int) (c : Bool), com U (b :: W) = com U W + c.toNat → stepB (grow r U W) (r.map fun a => decide (a = b)) c = grow r U (b :: W)
  | [], _, _, _, _ => rfl
  | a :: r, U, W, c, h => by
    obtain ⟨l1, l2⟩ := com_up a U W
    obtain ⟨l3, l4⟩ := com_up a U (b :: W)
    have e : com (a :: U) (b :: W) = if a = b then com U W + 1 else max (com U (b :: W)) (com (a :: U) W) := by rw [com]
    rw [grow, List.map_cons, stepB, grow]
    by_cases g : com (a :: U) W = com U W
    · by_cases d : a = b
      · rw [if_pos d] at e
        rw [decide_eq_true g, decide_eq_true d, grow_step b r (a :: U) W _ (by simp; omega)]
        congr 1
        cases c
        · simp at h ⊢; omega
        · simp at h ⊢; omega
      · rw [if_neg d] at e
        rw [decide_eq_true g, decide_eq_false d, grow_step b r (a :: U) W _ (by cases c <;> simp at h ⊢ <;> omega)]
        congr 1
        cases c <;> simp at h ⊢ <;> omega
    · by_cases d : a = b
      · rw [if_pos d] at e
        rw [decide_eq_false g, decide_eq_true d, grow_step b r (a :: U) W _ (by simp; omega)]
        congr 1
        cases c <;> simp at h ⊢ <;> omega
      · rw [if_neg d] at e
        rw [decide_eq_false g, decide_eq_false d, grow_step b r (a :: U) W _ (by cases c <;> simp at h ⊢ <;> omega)]
        congr 1
        cases c <;> simp at h ⊢ <;> omega
theorem grow_count : ∀ (r U W : List Int), ((grow r U W).filter id).length + com (r.reverse ++ U) W = r.length + com U W
  | [], U, W => by simp [grow]
  | a :: r, U, W => by
    obtain ⟨l1, l2⟩ := com_up a U W
    have ih := grow_count r (a :: U) W
    rw [grow, List.reverse_cons, List.append_assoc, List.filter_cons, List.length_cons]
    show (if decide (com (a :: U) W = com U W) = true then _ else _ : List Bool).length + com (r.reverse ++ (a :: U)) W = _
    by_cases g : com (a :: U) W = com U W
    · rw [if_pos (decide_eq_true g), List.length_cons]; omega
    · rw [if_neg (by rw [decide_eq_false g]; decide)]; omega
/-! how many ones a number's text has -/
def ones (n : Nat) : Nat := ((Nat.toDigits 2 n).filter fun c => c == '1').length
theorem ones_bit (b : Bool) (x : Nat) : ones (b.toNat + 2 * x) = b.toNat + ones x := by
  unfold ones
  by_cases h : b.toNat + 2 * x < 2
  · have x0 : x = 0 := by omega
    subst x0
    cases b <;> decide
  · rw [Nat.toDigits_of_base_le (by decide) (by omega), half_bit, List.filter_append, List.length_append]
    have e : (b.toNat + 2 * x) % 2 = b.toNat := by cases b <;> simp <;> omega
    rw [e]
    cases b <;> simp [Nat.digitChar] <;> omega
theorem ones_nb : ∀ l : List Bool, ones (nb l) = (l.filter id).length
  | [] => by decide
  | b :: l => by
    rw [nb, ones_bit, ones_nb l, List.filter_cons]
    cases b <;> simp <;> omega
theorem count_ones (n : Nat) : Txt.count (binS n) (PySem.Str.mk #[49]) = (ones n : Nat) := by
  unfold binS ones
  rw [count_sign, List.filter_map, List.length_map]
  have e : (fun x : Nat => x == 49) ∘ Char.toNat = fun c : Char => c == '1' := by
    funext c
    show (c.toNat == 49) = (c == '1')
    rw [Bool.eq_iff_iff, beq_iff_eq, beq_iff_eq]
    constructor
    · intro h
      exact Char.ext (UInt32.toNat_inj.mp h)
    · rintro rfl; rfl
  rw [e]
end

section
theorem or_nat (m n : Nat) : Builtin.bitOr (m : Int) (n : Int) = ((m ||| n : Nat) : Int) := by
  have h : ∀ k : Nat, Builtin.bitNot (k : Int) = -(k : Int) - 1 := fun k => by simp [Builtin.bitNot]
  unfold Builtin.bitOr Builtin.bitAnd
  rw [h m, h n]
  have a : decide ((0 : Int) ≤ -(m : Int) - 1) = false := by simp; omega
  have b : decide ((0 : Int) ≤ -(n : Int) - 1) = false := by simp; omega
  rw [a, b]
  have c : (Builtin.bitNot (-(m : Int) - 1)).toNat = m := by simp only [Builtin.bitNot]; omega
  have d : (Builtin.bitNot (-(n : Int) - 1)).toNat = n := by simp only [Builtin.bitNot]; omega
  simp only [c, d]
  simp only [Builtin.bitNot]
  omega
end

section
/-! ### longest_common, walked -/
theorem and_nat (m n : Nat) : Builtin.bitAnd (m : Int) (n : Int) = ((m &&& n : Nat) : Int) := by
  unfold Builtin.bitAnd
  have a : decide ((0 : Int) ≤ (m : Int)) = true := by simp
  have b : decide ((0 : Int) ≤ (n : Int)) = true := by simp
  rw [a, b]
  simp
theorem nb_bits {l : List Bool} {n : Nat} (h : l.length ≤ n) : (binS (nb l)).length ≤ n + 1 := by
  have key : ∀ (k x : Nat), x < 2 ^ k → (Nat.toDigits 2 x).length ≤ k + 1 := by
    intro k
    induction k with
    | zero => intro x hx; have : x = 0 := by simpa using hx
              subst this; decide
    | succ k ih =>
      intro x hx
      rw [Nat.toDigits_eq_if (by decide)]
      split
      · simp
      · have := ih (x / 2) (by rw [Nat.pow_succ] at hx; omega)
        rw [List.length_append]; show _ + 1 ≤ _; omega
  have e : (binS (nb l)).length = (Nat.toDigits 2 (nb l)).length := by
    show ((Nat.toDigits 2 (nb l)).map Char.toNat).toArray.size = _
    simp
  rw [e]
  have := key l.length (nb l) (nb_lt l)
  omega
/-- where a letter stands -/
def msk (u : List Int) (z : Int) : List Bool := u.map fun a => decide (a = z)
theorem longest_common_ok {u v : List Int} {Q : Dt → Prop} {E : Xc → Prop} (hu : u.length ≤ 100) (hv : v.length ≤ 1000) (k : Q (.int (com u v : Nat))) : F_longest_common [.d (iT u), .d (iT v)] Q E := by
  rw [F_longest_common_eq]; unfold S_longest_common
  walk_at "wp"
  refine dFor_inv (fun i e => ∃ (ks : List Key) (ds : List Dt) (s3 s4 s5 s6 s7 s8 : Sl), e = [.d (iT u), .d (iT v), .own (.dk ks ds), s3, s4, s5, s6, s7, s8] ∧ Tb ks ds (valD ks ds) i ∧ ∀ z : Int, (valD ks ds (.inl z)).getD (.int 0) = .int (nb (msk (u.take i) z) : Nat))
    ⟨[], [], _, _, _, _, _, _, rfl, Tb.nil.congr (fun _ => rfl) (Nat.le_refl _), fun z => rfl⟩ ?_ ?_
  · rintro i x _ K B hx ⟨ks, ds, s3, s4, s5, s6, s7, s8, rfl, T, hf⟩ hK
    obtain ⟨y, hy, rfl⟩ := enum_get hx
    obtain ⟨a, ha, rfl⟩ := map_get hy
    obtain ⟨hi, ea⟩ := List.getElem?_eq_some_iff.mp ha
    walk_at "wp"
    have e0 : (u.take (i + 1)) = u.take i ++ [a] := take_snoc ha
    have ml : ∀ z, (msk (u.take i) z).length = i := fun z => by unfold msk; rw [List.length_map, List.length_take]; omega
    have e1 : Builtin.bitOr ((nb (msk (u.take i) a) : Nat) : Int) (1 * 2 ^ ((i : Nat) : Int).toNat) = ((nb (msk (u.take (i + 1)) a) : Nat) : Int) := by
      have lt := nb_lt (msk (u.take i) a)
      rw [ml] at lt
      have o := Nat.two_pow_add_eq_or_of_lt lt 1
      rw [Int.one_mul, Int.toNat_natCast, show ((2 : Int) ^ i) = ((2 ^ i : Nat) : Int) by push_cast; rfl, or_nat, e0]
      unfold msk at o lt ⊢
      rw [List.map_append, List.map_cons, List.map_nil, nb_snoc, List.length_map, List.length_take, Nat.min_eq_left (by omega), decide_eq_true rfl, Nat.or_comm]
      rw [Nat.mul_one] at o
      rw [← o]
      show _ = ((_ + 1 * 2 ^ i : Nat) : Int)
      congr 1
      omega
    refine ⟨rfl, _, _, ow_dk, get_dk, ⟨by omega, by omega, by decide⟩, ?_⟩
    rw [hf a]
    show (Ow.dk ks ds).keysN ∧ _
    rw [keysN_dk]
    refine ⟨⟨T.nd, by have := T.few; omega⟩, _, put_dk, hK _ ⟨_, _, _, _, _, _, _, _, rfl, (T.put (.inl a) _).congr (fun k => (valD_put T.len).symm) (Nat.le_refl _), fun z => ?_⟩⟩
    rw [valD_put T.len]
    by_cases c : z = a
    · subst c
      rw [if_pos rfl, Option.getD_some]
      exact congrArg Dt.int e1
    · rw [if_neg (fun e => c (Sum.inl.inj e)), hf z, e0]
      unfold msk
      rw [List.map_append, List.map_cons, List.map_nil, nb_snoc, decide_eq_false (fun e => c e.symm)]
      simp
  · rintro _ ⟨ks, ds, s3, s4, s5, s6, s7, s8, rfl, T, hf⟩
    rw [List.length_mapIdx, List.length_map, List.take_length] at hf
    walk_at "wp"
    have fe : (1 : Int) * 2 ^ ((u.length : Nat) : Int).toNat - 1 = ((2 ^ u.length - 1 : Nat) : Int) := by
      have := Nat.two_pow_pos u.length
      rw [Int.one_mul, Int.toNat_natCast, show ((2 : Int) ^ u.length) = ((2 ^ u.length : Nat) : Int) by push_cast; rfl]
      omega
    rw [fe]
    refine ⟨⟨by omega, by omega, by decide⟩, ?_⟩
    refine dFor_inv (fun j e => ∃ s4 s7, e = [.d (iT u), .d (iT v), .own (.dk ks ds), s3, s4, .d (.int (2 ^ u.length - 1 : Nat)), .d (.int (nb (grow u [] (v.take j).reverse) : Nat)), s7, s8]) ⟨_, _, by rw [List.take_zero]; show _ = [_, _, _, _, _, _, Sl.d (Dt.int ((nb (grow u [] []) : Nat) : Int)), _, _]; rw [grow_start, nb_true]⟩ ?_ ?_
    · rintro j x _ K B hx ⟨s4, s7, rfl⟩ hK
      obtain ⟨b, hb, rfl⟩ := map_get hx
      obtain ⟨hj, eb⟩ := List.getElem?_eq_some_iff.mp hb
      have ve : (v.take (j + 1)).reverse = b :: (v.take j).reverse := by rw [take_snoc hb, List.reverse_append]; rfl
      generalize (v.take j).reverse = W at *
      have gl : (grow u [] W).length = (msk u b).length := by unfold msk; rw [grow_len, List.length_map]
      have st := step_row gl
      rw [grow_len] at st
      have gs : stepB (grow u [] W) (msk u b) false = grow u [] (b :: W) := grow_step b u [] W false (by rw [com, com]; rfl)
      rw [gs] at st
      have al : nb (grow u [] W) &&& nb (msk u b) ≤ nb (grow u [] W) := Nat.and_le_left
      walk_at "wp"
      refine ⟨rfl, _, _, ow_dk, get_dk, ?_⟩
      rw [hf b]
      show K _
      dsimp only
      rw [and_nat, show ((nb (grow u [] W) : Nat) : Int) + ((nb (grow u [] W) &&& nb (msk u b) : Nat) : Int) = ((nb (grow u [] W) + (nb (grow u [] W) &&& nb (msk u b)) : Nat) : Int) by omega, show ((nb (grow u [] W) : Nat) : Int) - ((nb (grow u [] W) &&& nb (msk u b) : Nat) : Int) = ((nb (grow u [] W) - (nb (grow u [] W) &&& nb (msk u b)) : Nat) : Int) by omega, or_nat, and_nat, st]
      exact hK _ ⟨_, _, by rw [ve]⟩
    · rintro _ ⟨s4, s7, rfl⟩
      rw [List.length_map, List.take_length]
      have gl := grow_len u [] v.reverse
      have gc := grow_count u [] v.reverse
      walk_at "wp"
      refine ⟨nb (grow u [] v.reverse), rfl, ?_, ?_⟩
      · have := nb_bits (l := grow u [] v.reverse) (n := 100) (by omega)
        rw [sizeLine_eq]; omega
      · rw [show Str.ofString "1" = PySem.Str.mk #[49] by decide +kernel, count_ones, ones_nb]
        rw [List.append_nil, com_rev] at gc
        have z : com [] v.reverse = 0 := by rw [com]
        rw [show (u.length : Int) - (((grow u [] v.reverse).filter id).length : Nat) = ((com u v : Nat) : Int) by omega]
        exact k
end

section
theorem rev_take {l : List Int} {i : Nat} (h : i < l.length) : (l.take (i + 1)).reverse = l[i] :: (l.take i).reverse := by
  rw [List.take_add_one, List.getElem?_eq_getElem h]; simp
end

section
/-! ### the longest common words -/
/-- the row of the text's walk: k letters of the second word -/
def comRow (u v : List Int) (m : Nat) : List Dt := (List.range m).map fun k => Dt.int ((com u (v.take k).reverse : Nat) : Int)
theorem com_nil_right (u : List Int) : com u [] = 0 := by cases u <;> rw [com]
theorem comRow_get {u v : List Int} {m k : Nat} (h : k < m) : (comRow u v m)[k]? = some (.int (com u (v.take k).reverse : Nat)) := by
  unfold comRow; rw [List.getElem?_map, List.getElem?_range h]; rfl
/-- a row half of the new one, half of the old -/
def comMix (a : Int) (u v : List Int) (m j : Nat) : List Dt := (List.range m).map fun k => Dt.int ((if k ≤ j then com (a :: u) (v.take k).reverse else com u (v.take k).reverse : Nat) : Int)
theorem comMix_get {a : Int} {u v : List Int} {m j k : Nat} (h : k < m) : (comMix a u v m j)[k]? = some (.int (if k ≤ j then com (a :: u) (v.take k).reverse else com u (v.take k).reverse : Nat)) := by
  unfold comMix; rw [List.getElem?_map, List.getElem?_range h]; rfl
theorem comMix_zero {a : Int} {u v : List Int} {m : Nat} : comMix a u v m 0 = comRow u v m := by
  unfold comMix comRow
  refine List.map_congr_left fun k _ => ?_
  by_cases c : k ≤ 0
  · rw [if_pos c, show k = 0 by omega]
    show Dt.int ((com (a :: u) [] : Nat) : Int) = Dt.int ((com u [] : Nat) : Int)
    rw [com_nil_right, com_nil_right]
  · rw [if_neg c]
theorem comMix_all {a : Int} {u v : List Int} {m j : Nat} (h : m ≤ j + 1) : comMix a u v m j = comRow (a :: u) v m := by
  unfold comMix comRow
  refine List.map_congr_left fun k hk => ?_
  have := List.mem_range.mp hk
  rw [if_pos (by omega)]
theorem comMix_set {a : Int} {u v : List Int} {m j : Nat} (h : j + 1 < m) : (comMix a u v m j).set (j + 1) (.int (com (a :: u) (v.take (j + 1)).reverse : Nat)) = comMix a u v m (j + 1) := by
  refine List.ext_getElem? fun k => ?_
  by_cases hk : k < m
  · rw [comMix_get hk, List.getElem?_set]
    by_cases c : j + 1 = k
    · subst c
      rw [if_pos rfl, if_pos (by unfold comMix; rw [List.length_map, List.length_range]; exact hk), if_pos (Nat.le_refl _)]
    · rw [if_neg c, comMix_get hk]
      by_cases d : k ≤ j
      · rw [if_pos d, if_pos (by omega)]
      · rw [if_neg d, if_neg (by omega)]
  · rw [List.getElem?_eq_none (by rw [List.length_set]; unfold comMix; rw [List.length_map, List.length_range]; omega), List.getElem?_eq_none (by unfold comMix; rw [List.length_map, List.length_range]; omega)]
theorem law_common_ok {u v : List Int} {Q : Dt → Prop} {E : Xc → Prop} (hu : u.length ≤ 1000) (hv : v.length ≤ 1000) (k : Q (.int (com u v : Nat))) : F_law_common [.d (iT u), .d (iT v)] Q E := by
  rw [F_law_common_eq]; unfold S_law_common
  walk_at "wp"
  refine ⟨by omega, ?_⟩
  have r0 : (List.replicate ((v.length : Int) + 1).toNat [Dt.int 0]).flatten = comRow [] v (v.length + 1) := by
    rw [show ((v.length : Int) + 1).toNat = v.length + 1 by omega, List.flatten_replicate_singleton]
    refine (List.eq_replicate_iff.mpr ⟨by unfold comRow; rw [List.length_map, List.length_range], fun b hb => ?_⟩).symm
    obtain ⟨k, _, rfl⟩ := List.mem_map.mp hb
    show Dt.int ((com [] _ : Nat) : Int) = _
    rw [com]; rfl
  rw [r0]
  refine dFor_inv (fun i e => ∃ s3 s4 s5 s6, e = [.d (iT u), .d (iT v), .own (.lst (comRow (u.take i).reverse v (v.length + 1))), s3, s4, s5, s6]) ⟨_, _, _, _, rfl⟩ ?_ ?_
  · rintro i x _ K B hx ⟨s3, s4, s5, s6, rfl⟩ hK
    obtain ⟨a, ha, rfl⟩ := map_get hx
    obtain ⟨hi, ea⟩ := List.getElem?_eq_some_iff.mp ha
    have ue : (u.take (i + 1)).reverse = a :: (u.take i).reverse := by rw [rev_take hi, ea]
    generalize (u.take i).reverse = U at *
    walk_at "wp"
    refine ⟨by omega, ?_⟩
    rw [Int.toNat_natCast, ← comMix_zero (a := a)]
    refine dFor_inv (fun j e => ∃ s5 s6, e = [.d (iT u), .d (iT v), .own (.lst (comMix a U v (v.length + 1) j)), .d (.int a), .d (.int (com U (v.take j).reverse : Nat)), s5, s6]) ⟨_, _, by rw [List.take_zero]; show _ = [_, _, _, _, Sl.d (Dt.int ((com U [] : Nat) : Int)), _, _]; rw [com_nil_right]; rfl⟩ ?_ ?_
    · rintro j x _ K2 B2 hx2 ⟨s5, s6, rfl⟩ hK2
      obtain ⟨hj, rfl⟩ := rng_get hx2
      have g1 := comMix_get (a := a) (u := U) (v := v) (m := v.length + 1) (j := j) (k := j + 1) (by omega)
      rw [if_neg (by omega)] at g1
      have g2 := comMix_get (a := a) (u := U) (v := v) (m := v.length + 1) (j := j) (k := j) (by omega)
      rw [if_pos (Nat.le_refl _)] at g2
      have cl : (comMix a U v (v.length + 1) j).length = v.length + 1 := by unfold comMix; rw [List.length_map, List.length_range]
      have ve : (v.take (j + 1)).reverse = v[j] :: (v.take j).reverse := rev_take hj
      have st := comMix_set (a := a) (u := U) (v := v) (m := v.length + 1) (j := j) (by omega)
      have ce : com (a :: U) (v.take (j + 1)).reverse = if a = v[j] then com U (v.take j).reverse + 1 else max (com U (v.take (j + 1)).reverse) (com (a :: U) (v.take j).reverse) := by
        rw [ve, com]
      walk_at "wp"
      refine ix_get (n := j + 1) (by omega) g1 ?_
      walk_at "wp"
      refine ix_map (n := j) rfl hj ?_
      walk_at "wp"
      have ix : ixN (comMix a U v (v.length + 1) j).length ((j : Int) + 1) = some (j + 1) := by
        rw [cl, show (j : Int) + 1 = ((j + 1 : Nat) : Int) by omega]
        unfold ixN
        rw [if_pos (by omega), if_pos (by omega)]; rfl
      refine iteQ (fun c => ?_) fun c => ?_
      · rw [if_pos c.symm] at ce
        refine ⟨j + 1, ix, hK2 _ ⟨.d (.int (j : Nat)), .d (.int (com U (v.take (j + 1)).reverse : Nat)), ?_⟩⟩
        rw [← st, ce]; rfl
      · rw [if_neg fun e => c e.symm] at ce
        refine ix_get (n := j + 1) (by omega) g1 ?_
        refine ix_get (n := j) rfl g2 ?_
        refine ⟨j + 1, ix, hK2 _ ⟨.d (.int (j : Nat)), .d (.int (com U (v.take (j + 1)).reverse : Nat)), ?_⟩⟩
        rw [← st, ce]
        have e : (if ((com (a :: U) (v.take j).reverse : Nat) : Int) > ((com U (v.take (j + 1)).reverse : Nat) : Int) then ((com (a :: U) (v.take j).reverse : Nat) : Int) else ((com U (v.take (j + 1)).reverse : Nat) : Int)) = ((max (com U (v.take (j + 1)).reverse) (com (a :: U) (v.take j).reverse) : Nat) : Int) := by split <;> omega
        rw [e]
    · rintro _ ⟨s5, s6, rfl⟩
      rw [List.length_map, List.length_range, comMix_all (by omega)]
      exact hK _ ⟨_, _, _, _, by rw [ue]⟩
  · rintro _ ⟨s3, s4, s5, s6, rfl⟩
    rw [List.length_map, List.take_length]
    walk_at "wp"
    refine ix_get (n := v.length) rfl (comRow_get (by omega)) ?_
    rw [List.take_length, com_rev]
    exact k
end

section
/-! ### texts of data -/
theorem strOk_app (x y : Str) : PyData.strOk (x ++ y) = (PyData.strOk x && PyData.strOk y) := by
  show Array.all (x.cps ++ y.cps) _ = _
  rw [Array.all_append]; rfl
theorem strOk_of (s : String) : PyData.strOk (Str.ofString s) = true := by
  rw [Str.ofString_eq_toList]
  show Array.all (s.toList.map Char.toNat).toArray _ = true
  rw [List.all_toArray, List.all_eq_true]
  intro n hn
  obtain ⟨c, _, rfl⟩ := List.mem_map.mp hn
  refine decide_eq_true ?_
  rcases c.valid with h | h
  · have h : c.val.toNat < 0xD800 := h
    show c.val.toNat < _
    omega
  · exact h.2
theorem textFrom_ok : ∀ (ts : List Str) (k : Nat) (acc : Str), PyData.strOk acc = true → (∀ t ∈ ts, PyData.strOk t = true) → PyData.strOk (textFrom k acc ts) = true
  | [], k, acc, h, _ => h
  | t :: ts, k, acc, h, hs => by
    refine textFrom_ok ts (k + 1) _ ?_ fun u hu => hs u (List.mem_cons_of_mem _ hu)
    rw [strOk_app, strOk_app, h, hs t List.mem_cons_self, strOk_of]; rfl
theorem join_ok : ∀ ts : List Str, (∀ t ∈ ts, PyData.strOk t = true) → PyData.strOk (Str.join ", " ts) = true
  | [], _ => by show PyData.strOk Str.empty = true; unfold PyData.strOk Str.empty; simp
  | [x], h => h x List.mem_cons_self
  | x :: y :: r, h => by
    show PyData.strOk (x ++ ", " ++ Str.join ", " (y :: r)) = true
    rw [strOk_app, strOk_app, h x List.mem_cons_self, join_ok (y :: r) fun t ht => h t (List.mem_cons_of_mem _ ht), strOk_of]; rfl
theorem textFrom_size : ∀ (ts : List Str) (k : Nat) (acc : Str) (n : Nat), (∀ t ∈ ts, t.length ≤ n) → (textFrom k acc ts).length ≤ acc.length + ts.length * (n + 2)
  | [], k, acc, n, _ => by show acc.length ≤ _; omega
  | t :: ts, k, acc, n, h => by
    have r := textFrom_size ts (k + 1) (acc ++ (if k > 0 then ", " else "" : String) ++ t) n fun u hu => h u (List.mem_cons_of_mem _ hu)
    have ht := h t List.mem_cons_self
    have e : (acc ++ (if k > 0 then ", " else "" : String) ++ t).length ≤ acc.length + 2 + t.length := by
      rw [strLen_append, strLen_append]
      have : (Str.ofString (if k > 0 then ", " else "" : String)).length ≤ 2 := by split <;> decide
      omega
    show (textFrom (k + 1) _ ts).length ≤ _
    rw [List.length_cons, Nat.succ_mul]
    omega
theorem join_size : ∀ (ts : List Str) (n : Nat), (∀ t ∈ ts, t.length ≤ n) → (Str.join ", " ts).length ≤ ts.length * (n + 2)
  | [], n, _ => by show 0 ≤ _; omega
  | [x], n, h => by
    have := h x List.mem_cons_self
    show x.length ≤ 1 * (n + 2); omega
  | x :: y :: r, n, h => by
    have i := join_size (y :: r) n fun t ht => h t (List.mem_cons_of_mem _ ht)
    have hx := h x List.mem_cons_self
    have e2 : (Str.ofString ", ").length = 2 := by decide
    show (x ++ ", " ++ Str.join ", " (y :: r)).length ≤ _
    rw [strLen_append, strLen_append, e2, List.length_cons, Nat.succ_mul]
    omega
/-- shows in at most n signs, m deep -/
def Sho (n m : Nat) (a : Dt) : Prop := ∃ p, a.py = some p ∧ p.showable = true ∧ p.hasDict = false ∧ p.depth ≤ m ∧ p.shown.length ≤ n ∧ PyData.strOk p.shown = true
theorem Sho.shw {n m : Nat} {a : Dt} (h : Sho n m a) (hn : n ≤ 16777216) (hm : m ≤ 60) : Shw a := by
  obtain ⟨p, e, h1, h2, h3, h4, _⟩ := h
  exact ⟨p, e, h1, h2, by omega, by rw [sizeLine_eq]; exact Nat.le_trans h4 hn⟩
theorem Sho.ok {n m : Nat} {a : Dt} (h : Sho n m a) : PyData.strOk (shownD a) = true := by
  obtain ⟨p, e, _, _, _, _, h5⟩ := h
  unfold shownD
  rw [e]; exact h5
theorem Sho.mono {n m n' m' : Nat} {a : Dt} (h : Sho n m a) (hn : n ≤ n') (hm : m ≤ m') : Sho n' m' a := by
  obtain ⟨p, e, h1, h2, h3, h4, h5⟩ := h
  exact ⟨p, e, h1, h2, Nat.le_trans h3 hm, Nat.le_trans h4 hn, h5⟩
theorem sho_int {i : Int} (h : i.natAbs < 2 ^ 1920) : Sho 1921 0 (.int i) := by
  have g : i.natAbs.log2 < 1920 := by
    rcases Nat.eq_zero_or_pos i.natAbs with e | e
    · rw [e]; decide
    · exact (Nat.log2_lt (by omega)).mpr h
  have l : (Str.ofString (toString i)).length = (toString i).length := by
    rw [Str.ofString_eq_toList]
    show (List.map Char.toNat (toString i).toList).toArray.size = _
    rw [List.size_toArray, List.length_map, String.length_toList]
  exact ⟨.int i, by rw [Dt.py], by rw [PyData.showable]; exact decide_eq_true g, by rw [PyData.hasDict], by rw [PyData.depth]; exact Nat.le_refl _, by
    rw [PyData.shown, l]
    exact int_text_length_le (k := 1920) (by decide) g, by rw [PyData.shown]; exact strOk_of _⟩
theorem sho_all {n m : Nat} : ∀ {xs : List Dt}, (∀ x ∈ xs, Sho n m x) → ∃ ps, Dt.pys xs = some ps ∧ ps.length = xs.length ∧ PyData.showableAll ps = true ∧ PyData.hasDictAll ps = false ∧ PyData.depthAll ps ≤ m ∧ (∀ t ∈ PyData.shownAll ps, t.length ≤ n ∧ PyData.strOk t = true) ∧ (PyData.shownAll ps).length = ps.length
  | [], _ => ⟨[], by rw [Dt.pys], rfl, by rw [PyData.showableAll], by rw [PyData.hasDictAll], by rw [PyData.depthAll]; exact Nat.zero_le _, fun t ht => (by rw [PyData.shownAll] at ht; exact absurd ht List.not_mem_nil), by rw [PyData.shownAll]; rfl⟩
  | x :: xs, h => by
    obtain ⟨p, e, h1, h2, h3, h4, h5⟩ := h x List.mem_cons_self
    obtain ⟨ps, f, g0, g1, g2, g3, g4, g5⟩ := sho_all fun y hy => h y (List.mem_cons_of_mem _ hy)
    refine ⟨p :: ps, by rw [Dt.pys, e, f], by rw [List.length_cons, g0]; rfl, by rw [PyData.showableAll, h1, g1]; rfl, by rw [PyData.hasDictAll, h2, g2]; rfl, by rw [PyData.depthAll]; omega, fun t ht => ?_, by rw [PyData.shownAll, List.length_cons, g5]; rfl⟩
    rw [PyData.shownAll] at ht
    rcases List.mem_cons.mp ht with rfl | ht
    · exact ⟨h4, h5⟩
    · exact g4 t ht
theorem sho_lst {n m : Nat} {xs : List Dt} (h : ∀ x ∈ xs, Sho n m x) : Sho (xs.length * (n + 2) + 4) (m + 1) (.lst xs) := by
  obtain ⟨ps, f, g0, g1, g2, g3, g4, g5⟩ := sho_all h
  refine ⟨.list ps, by rw [Dt.py, f]; rfl, by rw [PyData.showable]; exact g1, by rw [PyData.hasDict]; exact g2, by rw [PyData.depth]; omega, ?_, ?_⟩
  · rw [PyData.shown, listText, strLen_append]
    have := textFrom_size (PyData.shownAll ps) 0 "[" n fun t ht => (g4 t ht).1
    rw [g5, g0] at this
    have e1 : (Str.ofString "[").length = 1 := by decide
    have e2 : (Str.ofString "]").length = 1 := by decide
    omega
  · rw [PyData.shown, listText, strOk_app, textFrom_ok _ _ _ (strOk_of _) fun t ht => (g4 t ht).2, strOk_of]; rfl
theorem sho_tup {n m : Nat} {xs : List Dt} (h : ∀ x ∈ xs, Sho n m x) : Sho (xs.length * (n + 2) + 4) (m + 1) (.tup xs) := by
  obtain ⟨ps, f, g0, g1, g2, g3, g4, g5⟩ := sho_all h
  refine ⟨.tuple ps, by rw [Dt.py, f]; rfl, by rw [PyData.showable]; exact g1, by rw [PyData.hasDict]; exact g2, by rw [PyData.depth]; omega, ?_, ?_⟩
  · rw [PyData.shown, tupleText, strLen_append, strLen_append]
    have := join_size (PyData.shownAll ps) n fun t ht => (g4 t ht).1
    rw [g5, g0] at this
    have e1 : (Str.ofString "(").length = 1 := by decide
    have e2 : (Str.ofString (if ((PyData.shownAll ps).length == 1) = true then ",)" else ")")).length ≤ 2 := by split <;> decide
    omega
  · rw [PyData.shown, tupleText, strOk_app, strOk_app, join_ok _ fun t ht => (g4 t ht).2, strOk_of, strOk_of]; rfl
theorem sho_iT {w : List Int} (h : ∀ x ∈ w, x.natAbs < 2 ^ 1920) : Sho (w.length * 1923 + 4) 1 (iT w) := by
  have := sho_tup (n := 1921) (m := 0) (xs := w.map Dt.int) fun x hx => by obtain ⟨i, hi, rfl⟩ := List.mem_map.mp hx; exact sho_int (h i hi)
  rw [List.length_map] at this
  exact this
theorem shw_ne {n m : Nat} {a : Dt} {Q : Dt → Prop} (h : Sho n m a) (q : Q (.bl false)) : dNe (.str (shownD a)) (.str (shownD a)) Q := dNe_self (shN_str h.ok).sh q
theorem shw_eq {n m : Nat} {a : Dt} {Q : Dt → Prop} (h : Sho n m a) (q : Q (.bl true)) : dEq (.str (shownD a)) (.str (shownD a)) Q := dEq_self (shN_str h.ok).sh q
end

section
/-! ### rows of unlike whole numbers -/
/-- w: unlike numbers from 1 to L -/
def Row (L : Int) (w : List Int) : Prop := (∀ x ∈ w, 1 ≤ x ∧ x ≤ L) ∧ w.Nodup
theorem Row.take {L : Int} {w : List Int} (h : Row L w) (i : Nat) : Row L (w.take i) := ⟨fun x hx => h.1 x (List.mem_of_mem_take hx), h.2.sublist (List.take_sublist _ _)⟩
abbrev crE (L : Int) (a : Dt) (m : Int) (S : Int → Bool) (n : Nat) (s4 s5 : Sl) : List Sl := [.d (.int L), .d a, .d (.int m), .st S n, s4, s5]
abbrev crB : DSt := sSeq (sIf (eOrT (eNotT (eTru (eCall0 F_is_whole [] (eConsS (eVar 5) (eConsS (eC (.int 1)) (eConsS (eVar 0) eNil)))))) (eTest (eInS false 3 (eVar 5)))) (sRaise1 "BadRow" "index" (eVar 4)) sNext) (sSetAdd 3 (eVar 5))
/-- one member more that is let -/
theorem cr_step {L m : Int} {a : Dt} {ys : List Int} {S : Int → Bool} {n i : Nat} {s4 s5 : Sl} {y : Int} {d : DEn} (hy : 1 ≤ y ∧ y ≤ L) (ni : y ∉ ys) (hn : n ≤ i) (hi : i ≤ 1000) (hS : ∀ j, S j = true ↔ j ∈ ys) (k : ∀ S' n' s4 s5, n' ≤ i + 1 → (∀ j, S' j = true ↔ j ∈ ys ∨ j = y) → d.nx (crE L a m S' n' s4 s5)) :
    (gD2 4 5) (.tup [.int (i : Nat), .int y]) (crE L a m S n s4 s5) fun e => crB d e := by
  have no : S y = false := by
    cases h : S y with
    | false => rfl
    | true => exact absurd ((hS y).mp h) ni
  unfold crE
  walk_at "wp"
  refine is_whole_ok rfl ?_
  rw [inB_int hy.1 hy.2]
  walk_at "wp"
  refine ⟨y, rfl, ?_⟩
  rw [no]
  walk_at "wp"
  refine ⟨y, rfl, by omega, ?_⟩
  refine k _ _ _ _ (by split <;> omega) fun j => ?_
  rw [Bool.or_eq_true, hS, decide_eq_true_eq]
theorem cr_good {L m : Int} {a : Dt} {w : List Int} {d : DEn} (h : Row L w) (wl : w.length ≤ 1000) (k : ∀ S n s4 s5, d.nx (crE L a m S n s4 s5)) :
    dFor (gD2 4 5) crB d ((w.map Dt.int).mapIdx fun i x => .tup [.int (i : Nat), x]) (crE L a m (fun _ => false) 0 .no .no) := by
  refine dFor_inv (fun i e => ∃ S n s4 s5, e = crE L a m S n s4 s5 ∧ n ≤ i ∧ ∀ j, S j = true ↔ j ∈ w.take i) ⟨_, _, _, _, rfl, Nat.le_refl _, fun j => by simp⟩ ?_ ?_
  · rintro i x _ K B hx ⟨S, n, s4, s5, rfl, hn, hS⟩ hK
    rw [List.getElem?_mapIdx, Option.map_eq_some_iff] at hx
    obtain ⟨y0, hy0, rfl⟩ := hx
    obtain ⟨y, hy, rfl⟩ := map_get hy0
    have il := (List.getElem?_eq_some_iff.mp hy).1
    have ni : y ∉ w.take i := fun c => by
      have nd := h.2
      rw [← List.take_append_drop i w] at nd
      have yd : y ∈ w.drop i := List.mem_of_getElem? (i := 0) (by rw [List.getElem?_drop]; exact hy)
      exact (List.nodup_append.mp nd).2.2 y c y yd rfl
    refine cr_step (h.1 y (List.mem_of_getElem? hy)) ni hn (by omega) hS fun S' n' s4 s5 h1 h2 => hK _ ⟨S', n', s4, s5, rfl, h1, fun j => ?_⟩
    rw [h2, take_snoc hy, List.mem_append, List.mem_singleton]
  · rintro _ ⟨S, n, s4, s5, rfl, _, _⟩
    exact k _ _ _ _
theorem cr_bad {L m : Int} {a : Dt} {w : List Int} {y : Dt} {zs : List Dt} {d : DEn} (h : Row L w) (wl : w.length ≤ 1000) (yk : y.kind.isSome = true) (hy : inB 1 L y = false ∨ ∃ z ∈ w, y = .int z) (k : ∀ e, d.xc e ⟨"BadRow", [("index", .int w.length)]⟩) :
    dFor (gD2 4 5) crB d ((w.map Dt.int ++ y :: zs).mapIdx fun i x => .tup [.int (i : Nat), x]) (crE L a m (fun _ => false) 0 .no .no) := by
  refine dFor_inv (fun i e => i ≤ w.length ∧ ∃ S n s4 s5, e = crE L a m S n s4 s5 ∧ n ≤ i ∧ ∀ j, S j = true ↔ j ∈ w.take i) ⟨Nat.zero_le _, _, _, _, _, rfl, Nat.le_refl _, fun j => by simp⟩ ?_ ?_
  · rintro i x _ K B hx ⟨iw, S, n, s4, s5, rfl, hn, hS⟩ hK
    rw [List.getElem?_mapIdx, Option.map_eq_some_iff] at hx
    obtain ⟨y0, hy0, rfl⟩ := hx
    by_cases c : i < w.length
    · rw [List.getElem?_append_left (by rw [List.length_map]; exact c)] at hy0
      obtain ⟨y1, hy1, rfl⟩ := map_get hy0
      have ni : y1 ∉ w.take i := fun c => by
        have nd := h.2
        rw [← List.take_append_drop i w] at nd
        have yd : y1 ∈ w.drop i := List.mem_of_getElem? (i := 0) (by rw [List.getElem?_drop]; exact hy1)
        exact (List.nodup_append.mp nd).2.2 y1 c y1 yd rfl
      refine cr_step (h.1 y1 (List.mem_of_getElem? hy1)) ni hn (by omega) hS fun S' n' s4 s5 h1 h2 => hK _ ⟨by omega, S', n', s4, s5, rfl, h1, fun j => ?_⟩
      rw [h2, take_snoc hy1, List.mem_append, List.mem_singleton]
    · have e : i = w.length := by omega
      subst e
      rw [List.getElem?_append_right (by rw [List.length_map]; exact Nat.le_refl _), List.length_map, Nat.sub_self] at hy0
      cases hy0
      rw [List.take_length] at hS
      unfold crE
      walk_at "wp"
      refine is_whole_ok yk ?_
      cases hb : inB 1 L y with
      | false =>
        walk_at "wp"
        exact k _
      | true =>
        rcases hy with hy | ⟨z, hz, rfl⟩
        · rw [hb] at hy; cases hy
        · walk_at "wp"
          refine ⟨z, rfl, ?_⟩
          rw [(hS z).mpr hz]
          walk_at "wp"
          exact k _
  · rintro _ ⟨iw, S, n, s4, s5, rfl, _, _⟩
    rw [List.length_mapIdx, List.length_append, List.length_map, List.length_cons] at iw
    omega
theorem check_row_good {a : Dt} {L m : Int} {w : List Int} {Q : Dt → Prop} {E : Xc → Prop} (ha : a = iT w ∨ a = iL w) (h : Row L w) (hm : m = w.length) (wl : w.length ≤ 1000) (k : Q (iT w)) : F_check_row [.d (.int L), .d a, .d (.int m)] Q E := by
  have fin : ∀ a : Dt, a = iT w ∨ a = iL w → F_check_row [.d (.int L), .d a, .d (.int m)] Q E := fun a ha => by
    rw [F_check_row_eq]; unfold S_check_row
    rcases ha with rfl | rfl
    all_goals
      walk_at "wp"
      rw [if_neg (by omega)]
      refine cr_good h wl fun S n s4 s5 => ?_
      walk_at "wp"
      exact k
  exact fin a ha
/-- what is wrong with a row: its first index, or less one -/
theorem check_row_at {L m : Int} {xs : List Dt} {a : Dt} {w : List Int} {y : Dt} {zs : List Dt} {Q : Dt → Prop} {E : Xc → Prop} (ha : a = .tup xs ∨ a = .lst xs) (hx : xs = w.map Dt.int ++ y :: zs) (h : Row L w) (hm : m = xs.length) (wl : w.length ≤ 1000) (yk : y.kind.isSome = true) (hy : inB 1 L y = false ∨ ∃ z ∈ w, y = .int z) (k : E ⟨"BadRow", [("index", .int w.length)]⟩) : F_check_row [.d (.int L), .d a, .d (.int m)] Q E := by
  have fin : ∀ a : Dt, a = .tup xs ∨ a = .lst xs → F_check_row [.d (.int L), .d a, .d (.int m)] Q E := fun a ha => by
    rw [F_check_row_eq]; unfold S_check_row
    rcases ha with rfl | rfl
    all_goals
      walk_at "wp"
      rw [if_neg (by omega)]
      rw [hx]
      exact cr_bad h wl yk hy fun _ => k
  exact fin a ha
theorem check_row_not {L m : Int} {a : Dt} {Q : Dt → Prop} {E : Xc → Prop} (hk : a.kind.isSome = true) (h : isSeq a = false ∨ (isSeq a = true ∧ ((itemsOf a).length : Int) ≠ m)) (k : E ⟨"BadRow", [("index", .int (-1))]⟩) : F_check_row [.d (.int L), .d a, .d (.int m)] Q E := by
  rw [F_check_row_eq]; unfold S_check_row
  rcases h with h | ⟨h, g⟩
  · cases a <;> first | (cases hk; done) | (cases h; done) | (walk_at "wp"; exact k)
  · cases a <;> first | (cases h; done) | (walk_at "wp"; exact iteQ (fun _ => k) fun c => absurd g c)
/-! ### a drawn order -/
theorem eraseIdx_mapD (w : List Int) (k : Nat) : (w.map Dt.int).eraseIdx k = (w.eraseIdx k).map Dt.int := by
  rw [List.eraseIdx_eq_take_drop_succ, List.eraseIdx_eq_take_drop_succ, List.map_append, List.map_take, List.map_drop]
theorem law_order_ok {n : Nat} {Q : Dt → Prop} {E : Xc → Prop} (hn : n ≤ 1000) (k : ∀ w : List Int, w.length = n → Row n w → Q (iT w)) : F_law_order [.hand, .d (.int n)] Q E := by
  rw [F_law_order_eq]; unfold S_law_order
  walk_at "wp"
  refine ⟨by omega, ?_⟩
  have e0 : (List.range ((n : Int) + 1 - 1).toNat).map (fun k : Nat => Dt.int (1 + (k : Nat))) = ((List.range n).map fun k : Nat => 1 + (k : Int)).map Dt.int := by
    rw [List.map_map, show ((n : Int) + 1 - 1).toNat = n by omega]; rfl
  rw [e0]
  have nd0 : ((List.range n).map fun k : Nat => 1 + (k : Int)).Nodup := map_nodup List.nodup_range fun a _ b _ (e : 1 + (a : Int) = 1 + (b : Int)) => by omega
  refine ⟨by omega, ?_⟩
  refine dFor_inv (fun i e => ∃ (told left : List Int) (s4 : Sl), e = [.hand, .d (.int n), .own (.lst (left.map .int)), .own (.lst (told.map .int)), s4] ∧ told.length = i ∧ left.length + i = n ∧ (told ++ left).Nodup ∧ ∀ x ∈ told ++ left, 1 ≤ x ∧ x ≤ n)
    ⟨[], _, _, rfl, rfl, by simp, nd0, fun x hx => ?_⟩ ?_ ?_
  · obtain ⟨i, hi, rfl⟩ := List.mem_map.mp hx
    have := List.mem_range.mp hi
    omega
  · rintro i x _ K B hx ⟨told, left, s4, rfl, tl, ll, nd, mm⟩ hK
    obtain ⟨hi, rfl⟩ := rng_get hx
    have hi : i < n := by simpa using hi
    walk_at "wp"
    refine ⟨by omega, fun r hr => ?_⟩
    have hr : r < left.length := by omega
    have P : (told ++ [left[r]] ++ left.eraseIdx r).Perm (told ++ left) := by
      rw [List.append_assoc]
      refine List.Perm.append_left told ?_
      have e : left = left.take r ++ left[r] :: left.drop (r + 1) := by rw [← List.drop_eq_getElem_cons hr, List.take_append_drop]
      rw [List.eraseIdx_eq_take_drop_succ]
      have p : (left[r] :: (left.take r ++ left.drop (r + 1))).Perm (left.take r ++ left[r] :: left.drop (r + 1)) := List.perm_middle.symm
      rw [← e] at p
      exact p
    refine ⟨r, .int left[r], rfl, by rw [List.getElem?_map, List.getElem?_eq_getElem hr]; rfl, by omega, by omega, hK _ ⟨told ++ [left[r]], left.eraseIdx r, .d (.int (i : Nat)), ?_, by rw [List.length_append, List.length_singleton, tl], ?_, P.nodup_iff.mpr nd, fun x hx => mm x (P.mem_iff.mp hx)⟩⟩
    · rw [List.map_append, eraseIdx_mapD]; rfl
    · rw [List.length_eraseIdx_of_lt hr]; omega
  · rintro _ ⟨told, left, s4, rfl, tl, ll, nd, mm⟩
    rw [List.length_map, List.length_range, Int.toNat_natCast] at tl
    walk_at "wp"
    exact k told tl ⟨fun x hx => mm x (List.mem_append_left _ hx), (List.nodup_append.mp nd).1⟩
end

section
/-! ### rises and their total -/
theorem int_small {x : Int} (h : 0 ≤ x) (g : x ≤ 1000000000000000000) : x.natAbs < 2 ^ 1920 := by
  have a : (1000000000000000000 : Nat) < 2 ^ 1920 := by decide +kernel
  exact Nat.lt_of_le_of_lt (by omega) a
theorem check_order_good {a : Dt} {w : List Int} {Q : Dt → Prop} {E : Xc → Prop} (ha : a = iT w ∨ a = iL w) (h : Row w.length w) (w1 : 1 ≤ w.length) (wl : w.length ≤ 40) (k : Q (iT w)) : F_check_order [.d a] Q E := by
  have fin : ∀ a : Dt, a = iT w ∨ a = iL w → F_check_order [.d a] Q E := fun a ha => by
    rw [F_check_order_eq]; unfold S_check_order
    rcases ha with rfl | rfl
    · walk_at "wp"
      refine is_whole_ok rfl ?_
      rw [inB_int (by omega) (by omega)]
      walk_at "wp"
      exact check_row_good (.inl rfl) h rfl (by omega) k
    · walk_at "wp"
      refine is_whole_ok rfl ?_
      rw [inB_int (by omega) (by omega)]
      walk_at "wp"
      exact check_row_good (.inr rfl) h rfl (by omega) k
  exact fin a ha
theorem check_any_good {a : Dt} {w : List Int} {Q : Dt → Prop} {E : Xc → Prop} (ha : a = iT w ∨ a = iL w) (h : Row 40 w) (wl : w.length ≤ 40) (k : Q (iT w)) : F_check_any_row [.d a] Q E := by
  have fin : ∀ a : Dt, a = iT w ∨ a = iL w → F_check_any_row [.d a] Q E := fun a ha => by
    rw [F_check_any_row_eq]; unfold S_check_any_row
    rcases ha with rfl | rfl
    · walk_at "wp"
      rw [if_neg (by omega)]
      exact check_row_good (.inl rfl) h rfl (by omega) k
    · walk_at "wp"
      rw [if_neg (by omega)]
      exact check_row_good (.inr rfl) h rfl (by omega) k
  exact fin a ha
/-- does the row rise behind its place k (from 0) -/
def ris (w : List Int) (k : Nat) : Bool := decide (w.getD k 0 < w.getD (k + 1) 0)
def risW (w : List Int) : List Int := (List.range (w.length - 1)).map fun k => if ris w k = true then 1 else 0
def risT (w : List Int) : Int := (((List.range (w.length - 1)).filter (ris w)).map fun k : Nat => (k : Int) + 1).sum
theorem ridx {w : List Int} {i : Nat} (h : i < w.length) : w[i]? = some (w.getD i 0) := by
  rw [List.getD_eq_getElem?_getD, List.getElem?_eq_getElem h]; rfl
theorem risW_D {w : List Int} : iT (risW w) = .tup ((List.range (w.length - 1)).map fun i => Dt.int (if ris w i = true then 1 else 0)) := by
  show Dt.tup ((risW w).map Dt.int) = _
  unfold risW
  rw [List.map_map]; rfl
theorem rise_word_ok {w : List Int} {Q : Dt → Prop} {E : Xc → Prop} (wl : w.length ≤ 1000) (k : Q (iT (risW w))) : F_rise_word [.d (iT w)] Q E := by
  rw [F_rise_word_eq]; unfold S_rise_word
  walk_at "wp"
  refine ⟨by omega, ?_⟩
  rw [show ((w.length : Int) - 1).toNat = w.length - 1 by omega]
  refine lc_map (e := fun i : Nat => Dt.int (1 + (i : Nat))) (fun i => Dt.int (if ris w i = true then 1 else 0)) (fun i hi K1 hK => ?_) (by rw [List.length_range]; omega) ?_
  · have hi := List.mem_range.mp hi
    walk_at "wp"
    refine ix_mget (n := i + 1) (by omega) (ridx (by omega)) (ix_mget (n := i) (by omega) (ridx (by omega)) ?_)
    walk_at "wp"
    unfold ris at hK
    refine iteQ (fun c => ?_) fun c => ?_
    · rw [if_pos (decide_eq_true c)] at hK; exact hK
    · rw [if_neg (by rw [decide_eq_true_eq]; exact c)] at hK; exact hK
  · walk_at "wp"
    rw [risW_D] at k
    exact k
theorem law_rise_word_ok {w : List Int} {Q : Dt → Prop} {E : Xc → Prop} (wl : w.length ≤ 1000) (k : Q (iT (risW w))) : F_law_rise_word [.d (iT w)] Q E := by
  rw [F_law_rise_word_eq]; unfold S_law_rise_word
  walk_at "wp"
  refine ⟨by omega, ?_⟩
  rw [show ((w.length : Int) - 1).toNat = w.length - 1 by omega]
  refine lc_map (e := fun i : Nat => Dt.int (i : Nat)) (fun i => Dt.int (if ris w i = true then 1 else 0)) (fun i hi K1 hK => ?_) (by rw [List.length_range]; omega) ?_
  · have hi := List.mem_range.mp hi
    walk_at "wp"
    refine ix_mget (n := i + 1) (by omega) (ridx (by omega)) (ix_mget (n := i) (by omega) (ridx (by omega)) ?_)
    walk_at "wp"
    unfold ris at hK
    first | exact hK | simpa using hK
  · walk_at "wp"
    rw [risW_D] at k
    exact k
theorem tot_lc {w : List Int} {Q : Dt → Prop} (wl : w.length ≤ 1000) (k : Q (.int (risT w))) : lcGo (gD 1) (eTest (eOp dGt (eOp dIx (eVarB 0) (eVarB 1)) (eOp dIx (eVarB 0) (eOp dSub (eVarB 1) (eC (.int 1)))))) (eVar 1) [.d (iT w), .no] (fun d => dSum [d] Q) ((List.range (w.length - 1)).map fun k : Nat => Dt.int (1 + (k : Nat))) [] := by
  refine lc_ok (fun i : Nat => Dt.int (1 + (i : Nat))) (ris w) (fun i : Nat => Dt.int (1 + (i : Nat))) (fun i hi K1 K0 h1 h0 => ?_) (by rw [List.length_range, List.length_nil]; omega) ?_
  · have hi := List.mem_range.mp hi
    walk_at "wp"
    refine ix_mget (n := i + 1) (by omega) (ridx (by omega)) (ix_mget (n := i) (by omega) (ridx (by omega)) ?_)
    walk_at "wp"
    unfold ris at h1 h0
    refine iteQ (fun c => h1 (decide_eq_true c)) fun c => h0 (decide_eq_false c)
  · rw [List.nil_append]
    unfold dSum
    refine ⟨((List.range (w.length - 1)).filter (ris w)).map fun k : Nat => (k : Int) + 1, by rw [List.map_map]; exact List.map_congr_left fun i _ => congrArg Dt.int (Int.add_comm _ _), k⟩
theorem law_rise_total_ok {w : List Int} {Q : Dt → Prop} {E : Xc → Prop} (wl : w.length ≤ 1000) (k : Q (.int (risT w))) : F_law_rise_total [.d (iT w)] Q E := by
  rw [F_law_rise_total_eq]; unfold S_law_rise_total
  walk_at "wp"
  refine ⟨by omega, ?_⟩
  rw [show ((w.length : Int) - 1).toNat = w.length - 1 by omega]
  exact tot_lc wl k
theorem order_total_ok {a : Dt} {w : List Int} {Q : Dt → Prop} {E : Xc → Prop} (ha : a = iT w ∨ a = iL w) (h : Row 40 w) (wl : w.length ≤ 40) (k : Q (.int (risT w))) : F_order_total [.d a] Q E := by
  rw [F_order_total_eq]; unfold S_order_total
  walk_at "wp"
  refine check_any_good ha h wl ?_
  walk_at "wp"
  refine ⟨by omega, ?_⟩
  rw [show ((w.length : Int) - 1).toNat = w.length - 1 by omega]
  exact tot_lc (by omega) k
theorem order_rises_ok {a : Dt} {w : List Int} {Q : Dt → Prop} {E : Xc → Prop} (ha : a = iT w ∨ a = iL w) (h : Row 40 w) (wl : w.length ≤ 40) (k : Q (iT (risW w))) : F_order_rises [.d a] Q E := by
  rw [F_order_rises_eq]; unfold S_order_rises
  walk_at "wp"
  refine check_any_good ha h wl ?_
  exact rise_word_ok (by omega) k
end

section
/-! ### totals of turned and contrary orders -/
def sN (N : Nat) (f : Nat → Int) : Int := ((List.range N).map f).sum
theorem sN_0 (f : Nat → Int) : sN 0 f = 0 := rfl
theorem sN_succ (N : Nat) (f : Nat → Int) : sN (N + 1) f = sN N f + f N := by
  unfold sN
  rw [List.range_succ, List.map_append, List.sum_append]
  show _ + (f N + 0) = _
  omega
theorem sN_front : ∀ (N : Nat) (f : Nat → Int), sN (N + 1) f = f 0 + sN N fun i => f (i + 1)
  | 0, f => by rw [sN_succ, sN_0, sN_0]; omega
  | N + 1, f => by rw [sN_succ, sN_front N f, sN_succ N]; omega
theorem sN_congr {N : Nat} {f g : Nat → Int} (h : ∀ i, i < N → f i = g i) : sN N f = sN N g := by
  unfold sN
  rw [List.map_congr_left fun i hi => h i (List.mem_range.mp hi)]
theorem sN_rev : ∀ (N : Nat) (f : Nat → Int), sN N (fun i => f (N - 1 - i)) = sN N f
  | 0, f => rfl
  | N + 1, f => by
    rw [sN_front, sN_succ]
    have : sN N (fun i => f (N + 1 - 1 - (i + 1))) = sN N fun i => f (N - 1 - i) := sN_congr fun i hi => by rw [show N + 1 - 1 - (i + 1) = N - 1 - i by omega]
    rw [this, sN_rev N f, show N + 1 - 1 - 0 = N by omega]
    omega
theorem sN_add (f g : Nat → Int) : ∀ N, sN N (fun i => f i + g i) = sN N f + sN N g
  | 0 => rfl
  | N + 1 => by rw [sN_succ, sN_succ, sN_succ, sN_add f g N]; omega
theorem sN_mul (c : Int) (f : Nat → Int) : ∀ N, sN N (fun i => c * f i) = c * sN N f
  | 0 => by rw [sN_0, sN_0, Int.mul_zero]
  | N + 1 => by rw [sN_succ, sN_succ, sN_mul c f N, Int.mul_add]
theorem sN_half : ∀ N : Nat, 2 * sN N (fun i => (i : Int) + 1) = (N : Int) * (N + 1)
  | 0 => rfl
  | N + 1 => by
    rw [sN_succ, Int.mul_add, sN_half N]
    push_cast
    rw [show ((N : Int) + 1) * ((N : Int) + 1 + 1) = (N : Int) * (N + 1) + 2 * (N + 1) by rw [Int.add_mul, Int.mul_add, Int.mul_add]; omega]
theorem sum_if (p : Nat → Bool) (g : Nat → Int) : ∀ L : List Nat, ((L.filter p).map g).sum = (L.map fun i => if p i = true then g i else 0).sum
  | [] => rfl
  | x :: L => by
    rw [List.map_cons, List.sum_cons, List.filter_cons]
    by_cases c : p x = true
    · rw [if_pos c, if_pos c, List.map_cons, List.sum_cons, sum_if p g L]
    · rw [if_neg c, if_neg c, sum_if p g L]; omega
theorem risT_sN (w : List Int) : risT w = sN (w.length - 1) fun i => if ris w i = true then (i : Int) + 1 else 0 := sum_if _ _ _
theorem ris_rev {L : Int} {w : List Int} (h : Row L w) {i : Nat} (hi : i < w.length - 1) : ris w.reverse i = !ris w (w.length - 1 - 1 - i) := by
  have g : ∀ j, j < w.length → w.reverse.getD j 0 = w.getD (w.length - 1 - j) 0 := fun j hj => by
    rw [List.getD_eq_getElem?_getD, List.getD_eq_getElem?_getD, List.getElem?_reverse hj]
  unfold ris
  rw [g i (by omega), g (i + 1) (by omega), show w.length - 1 - 1 - i + 1 = w.length - 1 - i by omega, show w.length - 1 - (i + 1) = w.length - 1 - 1 - i by omega]
  have a := ridx (w := w) (i := w.length - 1 - i) (by omega)
  have b := ridx (w := w) (i := w.length - 1 - 1 - i) (by omega)
  have ne : w.getD (w.length - 1 - i) 0 ≠ w.getD (w.length - 1 - 1 - i) 0 := fun e => by
    rw [e] at a
    obtain ⟨h1, e1⟩ := List.getElem?_eq_some_iff.mp a
    obtain ⟨h2, e2⟩ := List.getElem?_eq_some_iff.mp b
    have := (List.getElem_inj h.2).mp (e1.trans e2.symm)
    omega
  rw [Bool.eq_iff_iff, decide_eq_true_eq, Bool.not_eq_true', decide_eq_false_iff_not]
  omega
/-- the order with n + 1 - k for each k -/
def cty (w : List Int) : List Int := w.map fun x => (w.length : Int) + 1 - x
theorem cty_len (w : List Int) : (cty w).length = w.length := by unfold cty; rw [List.length_map]
theorem cty_row {w : List Int} (h : Row w.length w) : Row w.length (cty w) := ⟨fun x hx => by
  unfold cty at hx
  obtain ⟨y, hy, rfl⟩ := List.mem_map.mp hx
  have := h.1 y hy
  omega, map_nodup h.2 fun a _ b _ e => by omega⟩
theorem rev_row {L : Int} {w : List Int} (h : Row L w) : Row L w.reverse := ⟨fun x hx => h.1 x (List.mem_reverse.mp hx), (List.reverse_perm w).nodup_iff.mpr h.2⟩
theorem ris_cty {L : Int} {w : List Int} (h : Row L w) {i : Nat} (hi : i < w.length - 1) : ris (cty w) i = !ris w i := by
  have g : ∀ j, j < w.length → (cty w).getD j 0 = (w.length : Int) + 1 - w.getD j 0 := fun j hj => by
    have := ridx hj
    unfold cty
    rw [List.getD_eq_getElem?_getD, List.getElem?_map, this]; rfl
  unfold ris
  rw [g i (by omega), g (i + 1) (by omega)]
  have a := ridx (w := w) (i := i) (by omega)
  have b := ridx (w := w) (i := i + 1) (by omega)
  have ne : w.getD i 0 ≠ w.getD (i + 1) 0 := fun e => by
    rw [e] at a
    obtain ⟨h1, e1⟩ := List.getElem?_eq_some_iff.mp a
    obtain ⟨h2, e2⟩ := List.getElem?_eq_some_iff.mp b
    have := (List.getElem_inj h.2).mp (e1.trans e2.symm)
    omega
  rw [Bool.eq_iff_iff, decide_eq_true_eq, Bool.not_eq_true', decide_eq_false_iff_not]
  omega
/-- the sum of the places -/
def hlf (w : List Int) : Int := sN (w.length - 1) fun i => (i : Int) + 1
theorem risT_cty {L : Int} {w : List Int} (h : Row L w) : risT (cty w) = hlf w - risT w := by
  have e : hlf w = risT (cty w) + risT w := by
    rw [risT_sN, risT_sN, cty_len, ← sN_add]
    unfold hlf
    refine sN_congr fun i hi => ?_
    rw [ris_cty h hi]
    cases ris w i <;> simp
  omega
theorem risT_rev {L : Int} {w : List Int} (h : Row L w) (w1 : 1 ≤ w.length) : (risT w.reverse - risT w + hlf w) % (w.length : Int) = 0 := by
  have e : risT w.reverse + hlf w = (w.length : Int) * sN (w.length - 1) (fun i => if ris w i = true then 0 else 1) + risT w := by
    rw [← sN_mul, risT_sN, risT_sN, List.length_reverse]
    have r : sN (w.length - 1) (fun i => if ris w.reverse i = true then (i : Int) + 1 else 0) = sN (w.length - 1) fun i => if ris w i = true then 0 else (w.length : Int) - 1 - i := by
      rw [← sN_rev (w.length - 1) fun i => if ris w i = true then 0 else (w.length : Int) - 1 - i]
      refine sN_congr fun i hi => ?_
      rw [ris_rev h hi]
      cases ris w (w.length - 1 - 1 - i) <;> simp <;> omega
    rw [r]
    unfold hlf
    rw [← sN_add, ← sN_add]
    refine sN_congr fun i hi => ?_
    cases ris w i <;> simp <;> omega
  rw [show risT w.reverse - risT w + hlf w = (w.length : Int) * sN (w.length - 1) (fun i => if ris w i = true then 0 else 1) by omega]
  exact Int.mul_emod_right _ _
end

section
/-! ### turned and contrary orders, any rows -/
theorem sho_row {w : List Int} (h : ∀ x ∈ w, 0 ≤ x ∧ x ≤ 1000000) (wl : w.length ≤ 40) : Sho 80000 1 (iT w) := by
  have := sho_iT (w := w) fun x hx => int_small (h x hx).1 (by have := (h x hx).2; omega)
  exact this.mono (by omega) (by omega)
theorem Row.sho {L : Int} {w : List Int} (h : Row L w) (hL : L ≤ 1000) (wl : w.length ≤ 40) : Sho 80000 1 (iT w) := sho_row (fun x hx => by have := h.1 x hx; omega) wl
theorem Row.mono {L M : Int} {w : List Int} (h : Row L w) (hL : L ≤ M) : Row M w := ⟨fun x hx => by have := h.1 x hx; omega, h.2⟩
theorem risW_sho {w : List Int} (wl : w.length ≤ 40) : Sho 80000 1 (iT (risW w)) := sho_row (fun x hx => by
  unfold risW at hx
  obtain ⟨k, _, rfl⟩ := List.mem_map.mp hx
  split <;> omega) (by unfold risW; rw [List.length_map, List.length_range]; omega)
theorem risT_bd {w : List Int} (wl : w.length ≤ 40) : 0 ≤ risT w ∧ risT w ≤ 1600 := by
  have : ∀ N : Nat, ∀ p : Nat → Bool, 0 ≤ sN N (fun i => if p i = true then (i : Int) + 1 else 0) ∧ sN N (fun i => if p i = true then (i : Int) + 1 else 0) ≤ N * N := by
    intro N p
    induction N with
    | zero => exact ⟨Int.le_refl _, Int.le_refl _⟩
    | succ N ih =>
      rw [sN_succ]
      have e : ((N + 1 : Nat) : Int) * ((N + 1 : Nat) : Int) = (N : Int) * N + 2 * N + 1 := by
        push_cast
        rw [Int.add_mul, Int.mul_add]; omega
      rw [e]
      split <;> omega
  have g := this (w.length - 1) (ris w)
  rw [← risT_sN] at g
  have b : ((w.length - 1 : Nat) : Int) * ((w.length - 1 : Nat) : Int) ≤ 39 * 39 := Int.mul_le_mul (by omega) (by omega) (by omega) (by omega)
  omega
theorem law_length_ok {Q : Dt → Prop} {E : Xc → Prop} (k : ∀ n : Nat, 1 ≤ n → n ≤ 40 → Q (.int n)) : F_law_length [.hand] Q E := by
  rw [F_law_length_eq]; unfold S_law_length
  walk_at "wp"
  refine fun a ha => iteQ (fun _ => fun b hb => ?_) fun _ => fun b hb => ?_
  · rw [show (1 : Int) + (b : Int) = ((1 + b : Nat) : Int) by omega]; exact k _ (by omega) (by omega)
  · rw [show (1 : Int) + (b : Int) = ((1 + b : Nat) : Int) by omega]; exact k _ (by omega) (by omega)
theorem law_any_right_ok {Q : Dt → Prop} {E : Xc → Prop} (k : Q (.bl true)) : F_law_any_right [.hand] Q E := by
  rw [F_law_any_right_eq]; unfold S_law_any_right
  walk_at "wp"
  refine law_order_ok (n := 40) (by omega) fun w0 wl0 h0 => ?_
  walk_at "wp"
  refine fun b hb => ?_
  rw [cutG_take (show (b : Int) = (b : Nat) from rfl), ← List.map_take]
  have h : Row 40 (w0.take b) := h0.take b
  have wl : (w0.take b).length ≤ 40 := by rw [List.length_take]; omega
  generalize w0.take b = w at h wl ⊢
  have S1 := risW_sho wl
  have S2 := h.sho (by omega) wl
  have bd := risT_bd wl
  have S3 := sho_int (i := risT w) (int_small bd.1 (by omega))
  rw [S_law_any_right_r2_eq]
  walk_at "wp"
  refine order_rises_ok (.inr rfl) h wl ?_
  walk_at "wp"
  refine ⟨S1.shw (by omega) (by decide), ?_⟩
  refine law_rise_word_ok (by omega) ?_
  walk_at "wp"
  refine ⟨S1.shw (by omega) (by decide), shw_ne S1 ?_⟩
  walk_at "wp"
  rw [S_law_any_right_r4_eq]
  walk_at "wp"
  refine order_total_ok (.inl rfl) h wl ?_
  walk_at "wp"
  refine ⟨S3.shw (by omega) (by decide), ?_⟩
  refine law_rise_total_ok (by omega) ?_
  walk_at "wp"
  refine ⟨S3.shw (by omega) (by decide), shw_eq S3 ?_⟩
  walk_at "wp"
  refine check_row_good (.inl rfl) h rfl (by omega) ?_
  walk_at "wp"
  exact ⟨S2.shw (by omega) (by decide), ⟨S2.shw (by omega) (by decide), shw_eq S2 k⟩⟩
theorem turned_ok {a : Dt} {w : List Int} {Q : Dt → Prop} {E : Xc → Prop} (ha : a = iT w ∨ a = iL w) (h : Row w.length w) (w1 : 1 ≤ w.length) (wl : w.length ≤ 40) (k : Q (iT w.reverse)) : F_turned_order [.d a] Q E := by
  rw [F_turned_order_eq]; unfold S_turned_order
  walk_at "wp"
  refine check_order_good ha h w1 wl ?_
  walk_at "wp"
  first | exact k | (rw [← List.map_reverse]; exact k)
theorem contrary_ok {a : Dt} {w : List Int} {Q : Dt → Prop} {E : Xc → Prop} (ha : a = iT w ∨ a = iL w) (h : Row w.length w) (w1 : 1 ≤ w.length) (wl : w.length ≤ 40) (k : Q (iT (cty w))) : F_contrary_order [.d a] Q E := by
  rw [F_contrary_order_eq]; unfold S_contrary_order
  walk_at "wp"
  refine check_order_good ha h w1 wl ?_
  walk_at "wp"
  refine lc_map (e := Dt.int) (fun x => Dt.int ((w.length : Int) + 1 - x)) (fun x hx K1 hK => ?_) (by omega) ?_
  · walk_at "wp"
    exact hK
  · walk_at "wp"
    have e : iT (cty w) = .tup (w.map fun x => Dt.int ((w.length : Int) + 1 - x)) := by
      show Dt.tup ((cty w).map Dt.int) = _
      unfold cty
      rw [List.map_map]; rfl
    rw [e] at k
    exact k
end

section
/-! ### the law of turned orders -/
theorem law_turned_right_ok {Q : Dt → Prop} {E : Xc → Prop} (k : Q (.bl true)) : F_law_turned_right [.hand] Q E := by
  rw [F_law_turned_right_eq]; unfold S_law_turned_right
  walk_at "wp"
  refine law_length_ok fun n n1 n40 => ?_
  walk_at "wp"
  refine law_order_ok (by omega) fun w wl h => ?_
  subst wl
  have h40 : Row 40 w := h.mono (by omega)
  have hl : (w.length : Int) * ((w.length : Int) - 1) = 2 * hlf w := by
    have := sN_half (w.length - 1)
    unfold hlf
    rw [this, Int.mul_comm, show ((w.length - 1 : Nat) : Int) = (w.length : Int) - 1 by omega, show (w.length : Int) - 1 + 1 = (w.length : Int) by omega]
  have hd : (w.length : Int) * ((w.length : Int) - 1) / 2 = hlf w := by omega
  have hc := cty_row h
  have hr := rev_row h
  have hcr := rev_row hc
  have cl := cty_len w
  have rl : w.reverse.length = w.length := List.length_reverse
  have crl : (cty w).reverse.length = w.length := by rw [List.length_reverse, cl]
  have Sr := hr.sho (by omega) (by omega)
  have Sc := hc.sho (by omega) (by omega)
  have Sw := h.sho (by omega) n40
  have S1 := risW_sho n40
  have bd := risT_bd n40
  have S3 := sho_int (i := risT w) (int_small bd.1 (by omega))
  have ec : iT (cty w) = .tup (w.map fun x => Dt.int ((w.length : Int) + 1 - x)) := by
    show Dt.tup ((cty w).map Dt.int) = _
    unfold cty
    rw [List.map_map]; rfl
  walk_at "wp"
  refine ⟨by unfold CMul; omega, by unfold CDiv; omega, ?_⟩
  rw [hd]
  refine law_rise_total_ok (by omega) ?_
  refine turned_ok (.inr rfl) h n1 n40 ?_
  refine contrary_ok (.inr rfl) h n1 n40 ?_
  rw [← List.map_reverse]
  refine ⟨Sr.shw (by omega) (by decide), ⟨Sr.shw (by omega) (by decide), shw_ne Sr ?_⟩⟩
  walk_at "wp"
  refine ⟨Sc.shw (by omega) (by decide), ?_⟩
  refine lc_map (e := Dt.int) (fun x => Dt.int ((w.length : Int) + 1 - x)) (fun x hx K1 hK => ?_) (by omega) ?_
  · walk_at "wp"
    exact hK
  rw [ec] at Sc
  walk_at "wp"
  rw [ec]
  refine ⟨Sc.shw (by omega) (by decide), shw_ne Sc ?_⟩
  rw [← ec]
  walk_at "wp"
  refine order_total_ok (.inr rfl) h40 n40 ?_
  refine ⟨S3.shw (by omega) (by decide), ⟨S3.shw (by omega) (by decide), shw_ne S3 ?_⟩⟩
  walk_at "wp"
  refine order_rises_ok (.inr rfl) h40 n40 ?_
  refine ⟨S1.shw (by omega) (by decide), ?_⟩
  refine law_rise_word_ok (by omega) ?_
  refine ⟨S1.shw (by omega) (by decide), shw_ne S1 ?_⟩
  walk_at "wp"
  refine dNe_self (eqE_L.sh _).sh ?_
  walk_at "wp"
  refine check_row_good (.inr rfl) h rfl (by omega) ?_
  refine ⟨Sw.shw (by omega) (by decide), ⟨Sw.shw (by omega) (by decide), shw_ne Sw ?_⟩⟩
  walk_at "wp"
  refine order_total_ok (.inl rfl) (hr.mono (by omega)) (by omega) ?_
  walk_at "wp"
  refine ⟨by omega, ?_⟩
  have m1 := risT_rev h n1
  have m2 := risT_cty h
  have m3 := risT_rev hc (by omega)
  rw [cl] at m3
  have hh : hlf (cty w) = hlf w := by unfold hlf; rw [cl]
  rw [hh] at m3
  rw [if_neg (by rw [m1]; simp)]
  refine order_total_ok (.inl rfl) (hc.mono (by omega)) (by omega) ?_
  walk_at "wp"
  refine ⟨by omega, ?_⟩
  have z : risT (cty w) - hlf w + risT w = 0 := by omega
  rw [z, if_neg (by simp)]
  have hcc : Row (cty w).length (cty w) := by rw [cl]; exact hc
  refine turned_ok (.inl rfl) hcc (by omega) (by omega) ?_
  refine order_total_ok (.inl rfl) (hcr.mono (by omega)) (by omega) ?_
  walk_at "wp"
  have y : risT (cty w).reverse - risT (cty w) + hlf w = risT (cty w).reverse + risT w := by omega
  rw [y] at m3
  refine ⟨by omega, ?_⟩
  rw [m3]
  exact k
end

section
/-! ### moves -/
theorem com_symm (u v : List Int) : com u v = com v u := Nat.le_antisymm (com_le v u _ (com_al u v).symm) (com_le u v _ (com_al v u).symm)
theorem com_same (u : List Int) : com u u = u.length := Nat.le_antisymm (by have := (com_al u u).le; omega) (com_le u u _ (Al.self u))
theorem law_without_ok {w : List Int} {y : Int} {Q : Dt → Prop} {E : Xc → Prop} (wl : w.length ≤ 1000) (k : Q (iT (w.filter fun x => decide (x ≠ y)))) : F_law_without [.d (iT w), .d (.int y)] Q E := by
  rw [F_law_without_eq]; unfold S_law_without
  walk_at "wp"
  refine lc_ok (e := Dt.int) (fun x => decide (x ≠ y)) Dt.int (fun x hx K1 K0 h1 h0 => ?_) (by rw [List.length_nil]; omega) ?_
  · walk_at "wp"
    refine iteQ (fun c => h1 (decide_eq_true c)) fun c => h0 (decide_eq_false c)
  · walk_at "wp"
    exact k
/-- the row with y put in at place p (from 0) -/
def put (w : List Int) (y : Int) (p : Nat) : List Int := w.take p ++ y :: w.drop p
theorem law_with_ok {w : List Int} {y : Int} {p : Nat} {z : Int} {Q : Dt → Prop} {E : Xc → Prop} (wl : w.length ≤ 1000) (hz : z = p + 1) (k : Q (iT (put w y p))) : F_law_with [.d (iT w), .d (.int y), .d (.int z)] Q E := by
  rw [F_law_with_eq]; unfold S_law_with
  walk_at "wp"
  have zp : z - 1 = (p : Int) := by omega
  rw [zp, cutG_take (show (p : Int) = (p : Nat) from rfl), cutG_drop (show (p : Int) = (p : Nat) from rfl), ← List.map_take, ← List.map_drop]
  refine ⟨by rw [List.length_map, List.length_take]; omega, by rw [List.length_append, List.length_map, List.length_map, List.length_take, List.length_drop, List.length_singleton]; omega, ?_⟩
  have e : iT (put w y p) = .tup ((w.take p).map Dt.int ++ [Dt.int y] ++ (w.drop p).map Dt.int) := by
    show Dt.tup ((put w y p).map Dt.int) = _
    unfold put
    rw [List.map_append, List.map_cons, List.append_assoc]; rfl
  rw [e] at k
  exact k
theorem put_perm (w : List Int) (y : Int) (p : Nat) : (put w y p).Perm (y :: w) := by
  unfold put
  have := List.perm_middle (a := y) (l₁ := w.take p) (l₂ := w.drop p)
  rwa [List.take_append_drop] at this
theorem wo_perm {L : Int} {w : List Int} {y : Int} (h : Row L w) (hy : y ∈ w) : (y :: w.filter fun x => decide (x ≠ y)).Perm w := by
  obtain ⟨s, t, rfl⟩ := List.append_of_mem hy
  have nd := h.2
  have n1 : y ∉ s := fun c => (List.nodup_append.mp nd).2.2 y c y List.mem_cons_self rfl
  have n2 : y ∉ t := (List.nodup_cons.mp (List.nodup_append.mp nd).2.1).1
  have f : ∀ r : List Int, y ∉ r → r.filter (fun x => decide (x ≠ y)) = r := fun r hr => List.filter_eq_self.mpr fun x hx => decide_eq_true fun e => hr (e ▸ hx)
  rw [List.filter_append, List.filter_cons, if_neg (by simp), f s n1, f t n2]
  exact List.perm_middle.symm
/-- all numbers from 1 to n stand in an order of n -/
theorem order_all {w : List Int} (h : Row w.length w) {y : Int} (h1 : 1 ≤ y) (h2 : y ≤ w.length) : y ∈ w := by
  by_cases c : y ∈ w
  · exact c
  · exfalso
    have := nodup_len (xs := y :: w) (ys := (List.range w.length).map fun i : Nat => (i : Int) + 1) (List.nodup_cons.mpr ⟨c, h.2⟩) fun x hx => by
      have hx2 : 1 ≤ x ∧ x ≤ w.length := by
        rcases List.mem_cons.mp hx with rfl | hx
        · exact ⟨h1, h2⟩
        · exact h.1 x hx
      exact List.mem_map.mpr ⟨(x - 1).toNat, List.mem_range.mpr (by omega), by omega⟩
    rw [List.length_map, List.length_range, List.length_cons] at this
    omega
theorem moves_ok {a b : Dt} {u v : List Int} {Q : Dt → Prop} {E : Xc → Prop} (ha : a = iT u ∨ a = iL u) (hb : b = iT v ∨ b = iL v) (hu : Row u.length u) (u1 : 1 ≤ u.length) (ul : u.length ≤ 40) (hv : Row u.length v) (vl : v.length = u.length) (k : Q (.int ((u.length : Int) - com u v))) : F_moves_apart [.d a, .d b] Q E := by
  rw [F_moves_apart_eq]; unfold S_moves_apart
  walk_at "wp"
  refine check_order_good ha hu u1 ul ?_
  walk_at "wp"
  refine check_row_good hb hv (by omega) (by omega) ?_
  walk_at "wp"
  refine longest_common_ok (by omega) (by omega) ?_
  walk_at "wp"
  exact k
end

section
/-! ### the law of moves -/
theorem moved_row {n : Nat} {v : List Int} {y : Int} {p : Nat} (hv : Row n v) (vl : v.length = n) (h1 : 1 ≤ y) (h2 : y ≤ n) : Row n (put (v.filter fun x => decide (x ≠ y)) y p) ∧ (put (v.filter fun x => decide (x ≠ y)) y p).length = n := by
  have hv' : Row v.length v := by rw [vl]; exact hv
  have P := (put_perm (v.filter fun x => decide (x ≠ y)) y p).trans (wo_perm hv (order_all hv' h1 (by rw [vl]; exact h2)))
  exact ⟨⟨fun x hx => hv.1 x (P.mem_iff.mp hx), P.nodup_iff.mpr hv.2⟩, P.length_eq.trans vl⟩
end

section
/-! ### the lacking member at each place: the rests are all rests -/
theorem risT_snoc {w : List Int} (w1 : 1 ≤ w.length) (x : Int) : risT (w ++ [x]) = risT w + if w.getD (w.length - 1) 0 < x then (w.length : Int) else 0 := by
  have g : ∀ j, j < w.length → (w ++ [x]).getD j 0 = w.getD j 0 := fun j hj => by
    rw [List.getD_eq_getElem?_getD, List.getD_eq_getElem?_getD, List.getElem?_append_left hj]
  rw [risT_sN, risT_sN, List.length_append, List.length_singleton, show w.length + 1 - 1 = (w.length - 1) + 1 by omega, sN_succ]
  have a : sN (w.length - 1) (fun i => if ris (w ++ [x]) i = true then (i : Int) + 1 else 0) = sN (w.length - 1) fun i => if ris w i = true then (i : Int) + 1 else 0 := sN_congr fun i hi => by
    unfold ris
    rw [g i (by omega), g (i + 1) (by omega)]
  rw [a]
  have b : ris (w ++ [x]) (w.length - 1) = decide (w.getD (w.length - 1) 0 < x) := by
    unfold ris
    rw [g _ (by omega), show w.length - 1 + 1 = w.length by omega]
    have : (w ++ [x]).getD w.length 0 = x := by
      rw [List.getD_eq_getElem?_getD, List.getElem?_append_right (Nat.le_refl _), Nat.sub_self]; rfl
    rw [this]
  rw [b]
  congr 1
  by_cases c : w.getD (w.length - 1) 0 < x
  · rw [if_pos (decide_eq_true c), if_pos c]; omega
  · rw [if_neg (by rw [decide_eq_true_eq]; exact c), if_neg c]
/-- the last of w is l -/
theorem risT_snoc2 (s : List Int) (l x : Int) : risT (s ++ [l] ++ [x]) = risT (s ++ [l]) + if l < x then (s.length : Int) + 1 else 0 := by
  rw [risT_snoc (by rw [List.length_append, List.length_singleton]; omega)]
  have : (s ++ [l]).getD ((s ++ [l]).length - 1) 0 = l := by
    rw [List.length_append, List.length_singleton, List.getD_eq_getElem?_getD, List.getElem?_append_right (by omega), show s.length + 1 - 1 - s.length = 0 by omega]; rfl
  rw [this, List.length_append, List.length_singleton]
  push_cast
  rfl
def rgI (n : Nat) : List Int := (List.range n).map fun i : Nat => (i : Int)
theorem rgI_succ (n : Nat) : rgI (n + 1) = rgI n ++ [(n : Int)] := by unfold rgI; rw [List.range_succ, List.map_append]; rfl
theorem rgI_front (n : Nat) : rgI (n + 1) = 0 :: (rgI n).map fun x => x + 1 := by
  unfold rgI
  rw [List.range_succ_eq_map, List.map_cons, List.map_map, List.map_map]; rfl
theorem put_snoc {w : List Int} {x y : Int} {p : Nat} (hp : p ≤ w.length) : put (w ++ [x]) y p = put w y p ++ [x] := by
  unfold put
  rw [List.take_append_of_le_length hp, List.drop_append_of_le_length hp, List.append_assoc]; rfl
theorem put_end (w : List Int) (y : Int) : put w y w.length = w ++ [y] := by
  unfold put
  rw [List.take_length, List.drop_length]
/-- by how much the total grows -/
def dlt (w : List Int) (y : Int) (p : Nat) : Int := risT (put w y p) - risT w
theorem dlt_perm (y : Int) : ∀ (n : Nat) (w : List Int), w.length = n → w.Nodup → y ∉ w → ((List.range (n + 1)).map (dlt w y)).Perm (rgI (n + 1))
  | 0, w, wl, _, _ => by
    have : w = [] := List.length_eq_zero_iff.mp wl
    subst this
    exact List.Perm.refl _
  | 1, w, wl, nd, ny => by
    obtain ⟨x, rfl⟩ := List.length_eq_one_iff.mp wl
    have ne : y ≠ x := fun e => ny (by rw [e]; exact List.mem_singleton_self _)
    have a : dlt [x] y 0 = if y < x then 1 else 0 := by
      show risT ([] ++ [y] ++ [x]) - risT ([] ++ [x]) = _
      rw [risT_snoc2]
      show 0 + _ - 0 = _
      split <;> simp
    have b : dlt [x] y 1 = if x < y then 1 else 0 := by
      show risT ([] ++ [x] ++ [y]) - risT ([] ++ [x]) = _
      rw [risT_snoc2]
      show 0 + _ - 0 = _
      split <;> simp
    show [dlt [x] y 0, dlt [x] y 1].Perm [(0 : Int), 1]
    rw [a, b]
    by_cases c : y < x
    · rw [if_pos c, if_neg (by omega)]
      exact List.Perm.swap _ _ _
    · rw [if_neg c, if_pos (by omega)]
  | m + 2, w, wl, nd, ny => by
    have hw : w ≠ [] := fun e => by rw [e] at wl; cases wl
    obtain ⟨v, x, rfl⟩ : ∃ v x, w = v ++ [x] := ⟨w.dropLast, w.getLast hw, (List.dropLast_concat_getLast hw).symm⟩
    have vl : v.length = m + 1 := by rw [List.length_append, List.length_singleton] at wl; omega
    have hv : v ≠ [] := fun e => by rw [e] at vl; cases vl
    obtain ⟨s, l, rfl⟩ : ∃ s l, v = s ++ [l] := ⟨v.dropLast, v.getLast hv, (List.dropLast_concat_getLast hv).symm⟩
    have sl : s.length = m := by rw [List.length_append, List.length_singleton] at vl; omega
    have nx : y ≠ x := fun e => ny (by rw [e]; exact List.mem_append_right _ (List.mem_singleton_self _))
    have nl : y ≠ l := fun e => ny (by rw [e]; exact List.mem_append_left _ (List.mem_append_right _ (List.mem_singleton_self _)))
    have lx : l ≠ x := fun e => (List.nodup_append.mp nd).2.2 l (List.mem_append_right _ (List.mem_singleton_self _)) x (List.mem_singleton_self _) e
    have ih := dlt_perm y (m + 1) (s ++ [l]) vl (List.nodup_append.mp nd).1 fun c => ny (List.mem_append_left _ c)
    -- the places ahead of the last but one
    have A : ∀ p, p ≤ m → dlt (s ++ [l] ++ [x]) y p = dlt (s ++ [l]) y p + if l < x then 1 else 0 := fun p hp => by
      unfold dlt
      rw [put_snoc (by omega), put_snoc (by omega : p ≤ s.length), risT_snoc2, risT_snoc2]
      have : (put s y p).length = m + 1 := by rw [(put_perm s y p).length_eq, List.length_cons, sl]
      rw [this, sl]
      push_cast
      split <;> omega
    have V : dlt (s ++ [l]) y (m + 1) = if l < y then (m : Int) + 1 else 0 := by
      unfold dlt
      rw [← vl, put_end, risT_snoc2, sl]; omega
    have B : dlt (s ++ [l] ++ [x]) y (m + 1) = (if l < y then (m : Int) + 1 else 0) + (if y < x then (m : Int) + 2 else 0) - if l < x then (m : Int) + 1 else 0 := by
      unfold dlt
      have e : put (s ++ [l] ++ [x]) y (m + 1) = s ++ [l] ++ [y] ++ [x] := by
        rw [put_snoc (by omega), ← vl, put_end]
      rw [e, risT_snoc2, risT_snoc2, risT_snoc2, vl, sl]
      push_cast
      split <;> split <;> split <;> omega
    have C : dlt (s ++ [l] ++ [x]) y (m + 2) = if x < y then (m : Int) + 2 else 0 := by
      unfold dlt
      rw [← wl, put_end, risT_snoc2, vl]
      push_cast
      split <;> omega
    have e1 : (List.range (m + 2 + 1)).map (dlt (s ++ [l] ++ [x]) y) = (List.range (m + 1)).map (dlt (s ++ [l] ++ [x]) y) ++ [dlt (s ++ [l] ++ [x]) y (m + 1), dlt (s ++ [l] ++ [x]) y (m + 2)] := by
      rw [List.range_succ, List.range_succ, List.map_append, List.map_append, List.append_assoc]; rfl
    have e2 : (List.range (m + 1 + 1)).map (dlt (s ++ [l]) y) = (List.range (m + 1)).map (dlt (s ++ [l]) y) ++ [dlt (s ++ [l]) y (m + 1)] := by
      rw [List.range_succ, List.map_append]; rfl
    rw [e2, V] at ih
    rw [e1, B, C]
    by_cases c : l < x
    · have e3 : (List.range (m + 1)).map (dlt (s ++ [l] ++ [x]) y) = ((List.range (m + 1)).map (dlt (s ++ [l]) y)).map fun z => z + 1 := by
        rw [List.map_map]
        refine List.map_congr_left fun p hp => ?_
        have := List.mem_range.mp hp
        rw [A p (by omega), if_pos c]; rfl
      have g := ih.map fun z => z + 1
      rw [List.map_append] at g
      rw [e3, rgI_front]
      refine List.Perm.trans ?_ (List.Perm.cons 0 g)
      refine List.Perm.trans ?_ List.perm_middle
      refine List.Perm.append_left _ ?_
      rw [if_pos c]
      by_cases d : y < l
      · rw [if_neg (show ¬ l < y by omega), if_pos (show y < x by omega), if_neg (show ¬ x < y by omega)]
        rw [show (0 : Int) + (m + 2) - (m + 1) = 0 + 1 by omega]
        exact List.Perm.swap _ _ _
      · by_cases d2 : y < x
        · rw [if_pos (show l < y by omega), if_pos d2, if_neg (show ¬ x < y by omega)]
          rw [show (m : Int) + 1 + (m + 2) - (m + 1) = m + 1 + 1 by omega]
          exact List.Perm.swap _ _ _
        · rw [if_pos (show l < y by omega), if_neg d2, if_pos (show x < y by omega)]
          rw [show (m : Int) + 1 + 0 - (m + 1) = 0 by omega, show (m : Int) + 2 = m + 1 + 1 by omega]
          exact List.Perm.refl _
    · have e3 : (List.range (m + 1)).map (dlt (s ++ [l] ++ [x]) y) = (List.range (m + 1)).map (dlt (s ++ [l]) y) := by
        refine List.map_congr_left fun p hp => ?_
        have := List.mem_range.mp hp
        rw [A p (by omega), if_neg c]; omega
      have g := ih.append_right [((m + 2 : Nat) : Int)]
      rw [e3, rgI_succ (m + 2)]
      refine List.Perm.trans ?_ g
      rw [List.append_assoc]
      refine List.Perm.append_left _ ?_
      rw [if_neg c]
      show List.Perm _ [_, _]
      by_cases d : y < x
      · rw [if_neg (show ¬ l < y by omega), if_pos d, if_neg (show ¬ x < y by omega)]
        rw [show (0 : Int) + (m + 2) - 0 = ((m + 2 : Nat) : Int) by omega]
        exact List.Perm.swap _ _ _
      · by_cases d2 : l < y
        · rw [if_pos d2, if_neg d, if_pos (show x < y by omega)]
          rw [show (m : Int) + 1 + 0 - 0 = m + 1 by omega, show (m : Int) + 2 = ((m + 2 : Nat) : Int) by omega]
        · rw [if_neg d2, if_neg d, if_pos (show x < y by omega)]
          rw [show (0 : Int) + 0 - 0 = 0 by omega, show (m : Int) + 2 = ((m + 2 : Nat) : Int) by omega]
/-- all rests, each once -/
theorem rests_perm {w : List Int} {y : Int} (nd : w.Nodup) (ny : y ∉ w) : ((List.range (w.length + 1)).map fun p => risT (put w y p) % ((w.length + 1 : Nat) : Int)).Perm (rgI (w.length + 1)) := by
  have P := (dlt_perm y w.length w rfl nd ny).map fun z => (risT w + z) % ((w.length + 1 : Nat) : Int)
  rw [List.map_map] at P
  have e : ((fun z => (risT w + z) % ((w.length + 1 : Nat) : Int)) ∘ dlt w y) = fun p => risT (put w y p) % ((w.length + 1 : Nat) : Int) := funext fun p => by
    show (risT w + (risT (put w y p) - risT w)) % _ = _
    rw [show risT w + (risT (put w y p) - risT w) = risT (put w y p) by omega]
  rw [e] at P
  refine P.trans ?_
  generalize risT w = t
  have np : (0 : Int) < ((w.length + 1 : Nat) : Int) := by omega
  generalize hN : w.length + 1 = N at np ⊢
  refine (List.perm_ext_iff_of_nodup ?_ ?_).mpr fun z => ?_
  · unfold rgI
    rw [List.map_map]
    refine map_nodup List.nodup_range fun a ha b hb e => ?_
    have ha := List.mem_range.mp ha
    have hb := List.mem_range.mp hb
    have e : (t + (a : Int)) % (N : Int) = (t + (b : Int)) % (N : Int) := e
    have d := Int.emod_emod_of_dvd (t + (a : Int) - (t + (b : Int))) (Int.dvd_refl (N : Int))
    have e2 := Int.emod_eq_emod_iff_emod_sub_eq_zero.mp e
    obtain ⟨c, hc⟩ := Int.dvd_of_emod_eq_zero e2
    have : (a : Int) - b = N * c := by omega
    rcases Int.lt_trichotomy c 0 with h | h | h
    · have : (N : Int) * c ≤ N * (-1) := Int.mul_le_mul_of_nonneg_left (by omega) (by omega)
      omega
    · subst h; omega
    · have : (N : Int) * 1 ≤ N * c := Int.mul_le_mul_of_nonneg_left (by omega) (by omega)
      omega
  · exact map_nodup List.nodup_range fun a _ b _ (e : (a : Int) = b) => by omega
  · unfold rgI
    rw [List.mem_map, List.mem_map]
    constructor
    · rintro ⟨a, ha, rfl⟩
      exact ⟨((t + a) % N).toNat, List.mem_range.mpr (by have := Int.emod_lt_of_pos (t + a) np; have := Int.emod_nonneg (t + a) (by omega : (N : Int) ≠ 0); omega), by have := Int.emod_nonneg (t + a) (by omega : (N : Int) ≠ 0); omega⟩
    · rintro ⟨b, hb, rfl⟩
      have hb := List.mem_range.mp hb
      refine ⟨((b : Int) - t) % N, List.mem_map.mpr ⟨(((b : Int) - t) % N).toNat, List.mem_range.mpr (by have := Int.emod_lt_of_pos ((b : Int) - t) np; have := Int.emod_nonneg ((b : Int) - t) (by omega : (N : Int) ≠ 0); omega), by have := Int.emod_nonneg ((b : Int) - t) (by omega : (N : Int) ≠ 0); omega⟩, ?_⟩
      rw [Int.add_emod, Int.emod_emod, ← Int.add_emod, show t + ((b : Int) - t) = b by omega]
      exact Int.emod_eq_of_lt (by omega) (by omega)
end

section
/-! ### the law of moves -/
theorem moves_r9 {n : Nat} {u v : List Int} {s4 s5 : Sl} {d : DEn} (n1 : 1 ≤ n) (n40 : n ≤ 40) (hu : Row n u) (ul : u.length = n) (hv : Row n v) (vl : v.length = n) (k : d.rt (.bl true)) : S_law_moves_right_r9 d [.hand, .d (.int n), .d (iT u), .d (iT v), s4, s5, .no] := by
  subst ul
  have hv' : Row v.length v := by rw [vl]; exact hv
  have cl : com u v ≤ u.length := by have := (com_al u v).le; omega
  rw [S_law_moves_right_r9_eq]
  walk_at "wp"
  refine law_common_ok (by omega) (by omega) ?_
  walk_at "wp"
  have S := sho_int (i := (u.length : Int) - com u v) (int_small (by omega) (by omega))
  have S0 := sho_int (i := 0) (int_small (by omega) (by omega))
  rw [S_law_moves_right_r10_eq]
  walk_at "wp"
  refine moves_ok (.inr rfl) (.inl rfl) hu n1 n40 hv vl ?_
  walk_at "wp"
  refine ⟨S.shw (by omega) (by decide), ⟨S.shw (by omega) (by decide), shw_ne S ?_⟩⟩
  walk_at "wp"
  refine moves_ok (.inl rfl) (.inr rfl) hv' (by omega) (by omega) (by rw [vl]; exact hu) (by omega) ?_
  walk_at "wp"
  rw [vl, com_symm v u]
  refine ⟨S.shw (by omega) (by decide), ⟨S.shw (by omega) (by decide), shw_ne S ?_⟩⟩
  walk_at "wp"
  rw [S_law_moves_right_r12_eq]
  walk_at "wp"
  refine moves_ok (.inl rfl) (.inl rfl) hu n1 n40 hu rfl ?_
  rw [com_same, show (u.length : Int) - (u.length : Nat) = 0 by omega]
  walk_at "wp"
  refine ⟨S0.shw (by omega) (by decide), ?_⟩
  have e : Dt.str "0" = .str (shownD (.int 0)) := by
    rw [show shownD (.int 0) = "0" by decide +kernel]
  rw [e]
  exact shw_eq S0 k
theorem law_moves_right_ok {Q : Dt → Prop} {E : Xc → Prop} (k : Q (.bl true)) : F_law_moves_right [.hand] Q E := by
  have fin : ∀ (n : Nat), 1 ≤ n → n ≤ 40 → S_law_moves_right_r2 ⟨fun _ => Q .non, Q, fun _ => False, fun _ => False, fun _ _ => False⟩ [.hand, .d (.int n), .no, .no, .no, .no, .no] := fun n n1 n40 => by
    rw [S_law_moves_right_r2_eq]
    walk_at "wp"
    refine law_order_ok (by omega) fun u ul hu => ?_
    walk_at "wp"
    rw [S_law_moves_right_r3_eq]
    walk_at "wp"
    refine law_order_ok (by omega) fun v vl hv => ?_
    walk_at "wp"
    rw [S_law_moves_right_r4_eq]
    walk_at "wp"
    refine fun c hc => iteQ (fun _ => ?_) fun _ => ?_
    · rw [S_law_moves_right_r6_eq]
      walk_at "wp"
      refine fun z hz => ?_
      refine ⟨by omega, ?_⟩
      refine dFor_inv (fun i e => ∃ (v : List Int) (s4 s5 : Sl), e = [.hand, .d (.int n), .d (iT u), .d (iT v), s4, s5, .no] ∧ Row n v ∧ v.length = n) ⟨u, _, _, rfl, hu, ul⟩ ?_ ?_
      · rintro i x _ K B hx ⟨v, s4, s5, rfl, hv, vl⟩ hK
        obtain ⟨hi, rfl⟩ := rng_get hx
        walk_at "wp"
        rw [S_law_moves_right_b7_eq]
        walk_at "wp"
        refine ⟨by omega, fun m hm => ?_⟩
        walk_at "wp"
        rw [S_law_moves_right_r8_eq]
        walk_at "wp"
        refine law_without_ok (by omega) ?_
        walk_at "wp"
        refine ⟨by omega, fun p hp => ?_⟩
        have P := moved_row (y := 1 + (m : Nat)) (p := p) hv vl (by omega) (by omega)
        have fl : (v.filter fun x => decide (x ≠ 1 + ((m : Nat) : Int))).length ≤ 1000 := Nat.le_trans (List.length_filter_le _ _) (show v.length ≤ 1000 by omega)
        refine law_with_ok (p := p) fl (by omega) ?_
        exact hK _ ⟨_, _, _, rfl, P.1, P.2⟩
      · rintro _ ⟨v, s4, s5, rfl, hv, vl⟩
        exact moves_r9 n1 n40 hu ul hv vl k
    · exact moves_r9 n1 n40 hu ul hv vl k
  rw [F_law_moves_right_eq]; unfold S_law_moves_right
  walk_at "wp"
  refine fun c hc => iteQ (fun _ => fun a ha => ?_) fun _ => fun a ha => ?_
  · rw [show (1 : Int) + (a : Int) = ((1 + a : Nat) : Int) by omega]; exact fin (1 + a) (by omega) (by omega)
  · rw [show (1 : Int) + (a : Int) = ((1 + a : Nat) : Int) by omega]; exact fin (1 + a) (by omega) (by omega)
end

section
/-! ### short rows, the lacking member, the places tried -/
/-- a row of n - 1 of the numbers from 1 to n lacks just this one -/
def lck (n : Nat) (r : List Int) : Int := (n : Int) * (n + 1) / 2 - r.sum
theorem sum_perm {u v : List Int} (h : u.Perm v) : u.sum = v.sum := by
  induction h with
  | nil => rfl
  | cons x _ ih => rw [List.sum_cons, List.sum_cons, ih]
  | swap x y l => rw [List.sum_cons, List.sum_cons, List.sum_cons, List.sum_cons]; omega
  | trans _ _ a b => exact a.trans b
theorem order_perm {n : Nat} {w : List Int} (h : Row n w) (wl : w.length = n) : w.Perm ((List.range n).map fun i : Nat => (i : Int) + 1) := by
  refine (List.perm_ext_iff_of_nodup h.2 (map_nodup List.nodup_range fun a _ b _ e => by omega)).mpr fun x => ?_
  rw [List.mem_map]
  constructor
  · intro hx
    have := h.1 x hx
    exact ⟨(x - 1).toNat, List.mem_range.mpr (by omega), by omega⟩
  · rintro ⟨i, hi, rfl⟩
    have := List.mem_range.mp hi
    exact order_all (w := w) (by rw [wl]; exact h) (by omega) (by rw [wl]; omega)
theorem lck_of {n : Nat} {w r : List Int} {y : Int} (h : Row n w) (wl : w.length = n) (P : (y :: r).Perm w) : lck n r = y := by
  have s := sum_perm (P.trans (order_perm h wl))
  rw [List.sum_cons] at s
  have e : ((List.range n).map fun i : Nat => (i : Int) + 1).sum = sN n fun i => (i : Int) + 1 := rfl
  rw [e] at s
  have := sN_half n
  unfold lck
  omega
theorem check_short_good {a : Dt} {n : Nat} {r : List Int} {Q : Dt → Prop} {E : Xc → Prop} (ha : a = iT r ∨ a = iL r) (h : Row n r) (rl : r.length + 1 = n) (n40 : n ≤ 40) (k : Q (iT r)) : F_check_short_row [.d (.int n), .d a] Q E := by
  rw [F_check_short_row_eq]; unfold S_check_short_row
  walk_at "wp"
  refine num_in (by omega) (by omega) ?_
  walk_at "wp"
  exact check_row_good ha h (by omega) (by omega) k
theorem lacking_ok {n : Nat} {r : List Int} {Q : Dt → Prop} {E : Xc → Prop} (n40 : n ≤ 40) (k : Q (.int (lck n r))) : F_lacking [.d (.int n), .d (iT r)] Q E := by
  rw [F_lacking_eq]; unfold S_lacking
  have hb : (n : Int) * ((n : Int) + 1) ≤ 40 * 41 := Int.mul_le_mul (by omega) (by omega) (by omega) (by omega)
  have hb0 : 0 ≤ (n : Int) * ((n : Int) + 1) := Int.mul_nonneg (by omega) (by omega)
  walk_at "wp"
  refine ⟨by unfold CMul; omega, by unfold CDiv; omega, ?_⟩
  unfold dSum
  exact ⟨r, rfl, k⟩
theorem lacking_member_ok {a : Dt} {n : Nat} {r : List Int} {Q : Dt → Prop} {E : Xc → Prop} (ha : a = iT r ∨ a = iL r) (h : Row n r) (rl : r.length + 1 = n) (n40 : n ≤ 40) (k : Q (.int (lck n r))) : F_lacking_member [.d (.int n), .d a] Q E := by
  rw [F_lacking_member_eq]; unfold S_lacking_member
  walk_at "wp"
  refine check_short_good ha h rl n40 ?_
  exact lacking_ok n40 k
theorem row_without_ok {a : Dt} {w : List Int} {y : Int} {Q : Dt → Prop} {E : Xc → Prop} (ha : a = iT w ∨ a = iL w) (h : Row w.length w) (w1 : 1 ≤ w.length) (wl : w.length ≤ 40) (y1 : 1 ≤ y) (y2 : y ≤ w.length) (k : Q (iT (w.filter fun x => decide (x ≠ y)))) : F_row_without [.d a, .d (.int y)] Q E := by
  rw [F_row_without_eq]; unfold S_row_without
  walk_at "wp"
  refine check_order_good ha h w1 wl ?_
  walk_at "wp"
  refine num_in y1 y2 ?_
  walk_at "wp"
  refine lc_ok (e := Dt.int) (fun x => decide (x ≠ y)) Dt.int (fun x hx K1 K0 h1 h0 => ?_) (by rw [List.length_nil]; omega) ?_
  · walk_at "wp"
    refine iteQ (fun c => h1 (decide_eq_true c)) fun c => h0 (decide_eq_false c)
  · walk_at "wp"
    exact k
theorem put_D {r : List Int} {y : Int} {p : Nat} : iT (put r y p) = .tup ((r.take p).map Dt.int ++ [Dt.int y] ++ (r.drop p).map Dt.int) := by
  show Dt.tup ((put r y p).map Dt.int) = _
  unfold put
  rw [List.map_append, List.map_cons, List.append_assoc]; rfl
theorem order_with_ok {a : Dt} {n : Nat} {r : List Int} {p : Nat} {z : Int} {Q : Dt → Prop} {E : Xc → Prop} (ha : a = iT r ∨ a = iL r) (h : Row n r) (rl : r.length + 1 = n) (n40 : n ≤ 40) (hz : z = p + 1) (hp : p < n) (k : Q (iT (put r (lck n r) p))) : F_order_with [.d (.int n), .d a, .d (.int z)] Q E := by
  rw [F_order_with_eq]; unfold S_order_with
  walk_at "wp"
  refine check_short_good ha h rl n40 ?_
  walk_at "wp"
  refine num_in (by omega) (by omega) ?_
  walk_at "wp"
  have zp : z - 1 = (p : Int) := by omega
  rw [zp, cutG_take (show (p : Int) = (p : Nat) from rfl), cutG_drop (show (p : Int) = (p : Nat) from rfl), ← List.map_take, ← List.map_drop]
  refine lacking_ok n40 ?_
  walk_at "wp"
  refine ⟨by simp only [List.length_append, List.length_map, List.length_take, List.length_drop, List.length_singleton]; omega, by simp only [List.length_append, List.length_map, List.length_take, List.length_drop, List.length_singleton]; omega, ?_⟩
  rw [put_D] at k
  exact k
theorem places_tried_ok {a : Dt} {n : Nat} {r : List Int} {Q : Dt → Prop} {E : Xc → Prop} (ha : a = iT r ∨ a = iL r) (h : Row n r) (rl : r.length + 1 = n) (n40 : n ≤ 40) (k : Q (.tup ((List.range n).map fun p => iT (risW (put r (lck n r) p))))) : F_places_tried [.d (.int n), .d a] Q E := by
  rw [F_places_tried_eq]; unfold S_places_tried
  walk_at "wp"
  refine check_short_good ha h rl n40 ?_
  walk_at "wp"
  refine lacking_ok n40 ?_
  walk_at "wp"
  refine ⟨by omega, ?_⟩
  rw [show ((n : Int)).toNat = n by omega]
  refine lc_map (e := fun i : Nat => Dt.int (i : Nat)) (fun p => iT (risW (put r (lck n r) p))) (fun i hi K1 hK => ?_) (by rw [List.length_range]; omega) ?_
  · walk_at "wp"
    rw [cutG_take (show (i : Int) = (i : Nat) from rfl), cutG_drop (show (i : Int) = (i : Nat) from rfl), ← List.map_take, ← List.map_drop]
    refine ⟨by simp only [List.length_append, List.length_map, List.length_take, List.length_drop, List.length_singleton]; omega, by simp only [List.length_append, List.length_map, List.length_take, List.length_drop, List.length_singleton]; omega, ?_⟩
    rw [← put_D]
    have pl : (put r (lck n r) i).length = n := by rw [(put_perm _ _ _).length_eq, List.length_cons, rl]
    exact rise_word_ok (by omega) hK
  · walk_at "wp"
    exact k
end

section
/-! ### the law of places -/
/-- the total is a thing of the rise word -/
theorem risT_of_risW {u v : List Int} (h : risW u = risW v) : risT u = risT v := by
  have l : u.length - 1 = v.length - 1 := by
    have := congrArg List.length h
    unfold risW at this
    rwa [List.length_map, List.length_map, List.length_range, List.length_range] at this
  rw [risT_sN, risT_sN, l]
  refine sN_congr fun i hi => ?_
  have g := congrArg (fun w => w[i]?) h
  unfold risW at g
  simp only [List.getElem?_map, List.getElem?_range (show i < u.length - 1 by omega), List.getElem?_range hi, Option.map_some, Option.some.injEq] at g
  by_cases a : ris u i = true <;> by_cases b : ris v i = true
  · rw [if_pos a, if_pos b]
  · rw [if_pos a, if_neg b] at g; omega
  · rw [if_neg a, if_pos b] at g; omega
  · rw [if_neg a, if_neg b]
theorem rgI_asc (n : Nat) : (rgI n).Pairwise (· ≤ ·) := by
  unfold rgI
  rw [List.pairwise_map]
  exact List.pairwise_lt_range.imp fun h => by omega
theorem le_uniq {u v : List Int} (h : u.Perm v) (a : u.Pairwise (· ≤ ·)) (b : v.Pairwise (· ≤ ·)) : u = v := h.eq_of_pairwise (fun x y _ _ h1 h2 => Int.le_antisymm h1 h2) a b
theorem wo_row {n : Nat} {w : List Int} {y : Int} (h : Row n w) (wl : w.length = n) (hy : y ∈ w) : Row n (w.filter fun x => decide (x ≠ y)) ∧ (w.filter fun x => decide (x ≠ y)).length + 1 = n ∧ lck n (w.filter fun x => decide (x ≠ y)) = y ∧ y ∉ (w.filter fun x => decide (x ≠ y)) := by
  have P := wo_perm h hy
  refine ⟨⟨fun x hx => h.1 x (List.mem_filter.mp hx).1, h.2.filter _⟩, ?_, lck_of h wl P, fun c => ?_⟩
  · have := P.length_eq
    rw [List.length_cons] at this; omega
  · have := (List.mem_filter.mp c).2
    rw [decide_eq_true_eq] at this
    exact this rfl
/-- how the law goes on for one member -/
abbrev plE (n : Nat) (w : List Int) (ms : Dt) (s4 s5 s6 s7 s8 s9 s10 : Sl) : List Sl := [.hand, .d (.int n), .d (iT w), .d ms, s4, s5, s6, s7, s8, s9, s10]
theorem places_r18 {n : Nat} {w r : List Int} {y : Int} {ms : Dt} {s9 s10 : Sl} {d : DEn} (n40 : n ≤ 40) (hr : Row n r) (rl : r.length + 1 = n) (hy : lck n r = y) (ny : y ∉ r) (y1 : 1 ≤ y) (y2 : y ≤ n) (k : ∀ s8 s9 s10, d.nx (plE n w ms (.d (.int y)) (.d (iT r)) (.d (iL r)) (.d (.tup ((List.range n).map fun p => iT (risW (put r y p))))) s8 s9 s10)) : S_law_places_right_r18 d (plE n w ms (.d (.int y)) (.d (iT r)) (.d (iL r)) (.d (.tup ((List.range n).map fun p => iT (risW (put r y p))))) (.own (.lst (((List.range n).map fun p => risT (put r y p) % (n : Int)).map Dt.int))) s9 s10) := by
  have P := rests_perm hr.2 ny
  rw [rl] at P
  rw [S_law_places_right_r18_eq]
  unfold plE
  walk_at "wp"
  refine .inl ⟨_, rfl, fun ns' p1 p2 => ?_⟩
  have e : ns' = rgI n := le_uniq (p1.trans P) p2 (rgI_asc n)
  subst e
  have el : Dt.lst ((List.range ((n : Int) - 0).toNat).map fun k : Nat => Dt.int (0 + (k : Nat))) = iL (rgI n) := by
    show _ = Dt.lst ((rgI n).map Dt.int)
    unfold rgI
    rw [List.map_map, show ((n : Int) - 0).toNat = n by omega]
    exact congrArg Dt.lst (List.map_congr_left fun k _ => congrArg Dt.int (by simp))
  refine ⟨by omega, ?_⟩
  rw [el]
  refine dNe_self (eqE_L.sh _).sh ?_
  walk_at "wp"
  have wsn : ((List.range n).map fun p => risW (put r y p)).Nodup := by
    have g := P.nodup_iff.mpr (show (rgI n).Nodup from map_nodup List.nodup_range fun a _ b _ (e : (a : Int) = b) => by omega)
    exact List.pairwise_map.mpr ((List.pairwise_map.mp g).imp fun h e => h (by rw [risT_of_risW e]))
  refine ⟨(List.range n).map fun p => risW (put r y p), ?_, fun us hu hm => ?_, fun us hu hm => ?_⟩
  · show _ = Dt.lst _
    rw [List.map_map]; rfl
  · have := nodup_len hu hm
    rw [List.length_map, List.length_range] at this
    omega
  · have l : us.length = n := by
      have a := nodup_len hu fun x hx => (hm x).mp hx
      have b := nodup_len wsn fun x hx => (hm x).mpr hx
      rw [List.length_map, List.length_range] at a b
      omega
    rw [if_neg (by rw [l]; simp)]
    rw [S_law_places_right_r20_eq]
    walk_at "wp"
    refine ⟨by omega, fun p hp => ?_⟩
    walk_at "wp"
    rw [S_law_places_right_r21_eq]
    walk_at "wp"
    have pp := (put_perm r y p)
    refine order_with_ok (p := p) (.inr rfl) hr rl n40 (by omega) (by omega) ?_
    rw [hy]
    have S : Sho 80000 1 (iT (put r y p)) := sho_row (fun x hx => by
      rcases List.mem_cons.mp (pp.mem_iff.mp hx) with rfl | hx
      · omega
      · have := hr.1 x hx; omega) (by rw [pp.length_eq, List.length_cons]; omega)
    walk_at "wp"
    refine ⟨S.shw (by omega) (by decide), ?_⟩
    refine law_with_ok (p := p) (by omega) (by omega) ?_
    walk_at "wp"
    refine ⟨S.shw (by omega) (by decide), shw_ne S ?_⟩
    walk_at "wp"
    exact k _ _ _
theorem places_one {n : Nat} {w : List Int} {y : Int} {ms : Dt} {s5 s6 s7 s8 s9 s10 : Sl} {d : DEn} (n1 : 1 ≤ n) (n40 : n ≤ 40) (h : Row n w) (wl : w.length = n) (y1 : 1 ≤ y) (y2 : y ≤ n) (k : ∀ s4 s5 s6 s7 s8 s9 s10, d.nx (plE n w ms s4 s5 s6 s7 s8 s9 s10)) : S_law_places_right_b5 d (plE n w ms (.d (.int y)) s5 s6 s7 s8 s9 s10) := by
  have hw : Row w.length w := by rw [wl]; exact h
  have ym : y ∈ w := order_all hw y1 (by rw [wl]; exact y2)
  obtain ⟨hr, rl, hy, ny⟩ := wo_row h wl ym
  rw [S_law_places_right_b5_eq]
  unfold plE
  walk_at "wp"
  refine law_without_ok (by omega) ?_
  generalize hR : (w.filter fun x => decide (x ≠ y)) = r at hr rl hy ny
  walk_at "wp"
  rw [S_law_places_right_r6_eq]
  walk_at "wp"
  rw [S_law_places_right_r7_eq]
  walk_at "wp"
  have Sr := hr.sho (by omega) (by omega)
  have Sy := sho_int (i := y) (int_small (by omega) (by omega))
  refine row_without_ok (.inl rfl) hw (by omega) (by omega) y1 (by omega) ?_
  rw [hR]
  walk_at "wp"
  refine ⟨Sr.shw (by omega) (by decide), ⟨Sr.shw (by omega) (by decide), shw_ne Sr ?_⟩⟩
  walk_at "wp"
  refine lacking_member_ok (.inr rfl) hr rl n40 ?_
  rw [hy]
  walk_at "wp"
  refine ⟨Sy.shw (by omega) (by decide), ⟨Sy.shw (by omega) (by decide), shw_ne Sy ?_⟩⟩
  walk_at "wp"
  rw [S_law_places_right_r9_eq]
  walk_at "wp"
  refine places_tried_ok (.inr rfl) hr rl n40 ?_
  rw [hy]
  walk_at "wp"
  rw [S_law_places_right_r10_eq]
  walk_at "wp"
  refine dNe_self (eqE_L.sh _).sh ?_
  walk_at "wp"
  rw [List.length_range, if_neg (by simp)]
  rw [S_law_places_right_r12_eq]
  walk_at "wp"
  rw [S_law_places_right_r13_eq]
  walk_at "wp"
  refine ⟨by omega, ?_⟩
  rw [show ((n : Int) + 1 - 1).toNat = n by omega]
  refine dFor_inv (fun i e => ∃ s9 s10 : Sl, e = plE n w ms (.d (.int y)) (.d (iT r)) (.d (iL r)) (.d (.tup ((List.range n).map fun p => iT (risW (put r y p))))) (.own (.lst (((List.range i).map fun p => risT (put r y p) % (n : Int)).map Dt.int))) s9 s10) ⟨_, _, rfl⟩ ?_ ?_
  · rintro i x _ K B hx ⟨s9, s10, rfl⟩ hK
    obtain ⟨p, hp, rfl⟩ := map_get hx
    have hp := List.getElem?_eq_some_iff.mp hp
    obtain ⟨pl, e⟩ := hp
    rw [List.getElem_range] at e
    subst e
    rw [List.length_range] at pl
    have pp := put_perm r y i
    have pln : (put r y i).length = n := by rw [pp.length_eq, List.length_cons, rl]
    have S1 := risW_sho (w := put r y i) (by omega)
    unfold plE
    walk_at "wp"
    rw [S_law_places_right_b14_eq]
    walk_at "wp"
    refine law_with_ok (p := i) (by omega) (by omega) ?_
    walk_at "wp"
    rw [S_law_places_right_r15_eq]
    walk_at "wp"
    refine ix_mget (n := i) (by omega) (show (List.range n)[i]? = some i by rw [List.getElem?_range pl]) ?_
    walk_at "wp"
    refine ⟨S1.shw (by omega) (by decide), ?_⟩
    refine law_rise_word_ok (by omega) ?_
    walk_at "wp"
    refine ⟨S1.shw (by omega) (by decide), shw_ne S1 ?_⟩
    walk_at "wp"
    rw [S_law_places_right_r17_eq]
    walk_at "wp"
    refine law_rise_total_ok (by omega) ?_
    walk_at "wp"
    refine ⟨by omega, ?_⟩
    refine ⟨by rw [List.length_range]; omega, hK _ ⟨.d (.int (1 + (i : Nat))), .d (iT (put r y i)), ?_⟩⟩
    unfold plE
    rw [List.range_succ, List.map_append, List.map_append]
    rfl
  · rintro _ ⟨s9, s10, rfl⟩
    rw [List.length_map, List.length_range]
    exact places_r18 n40 hr rl hy ny y1 y2 fun s8 s9 s10 => k _ _ _ _ _ _ _
theorem law_places_right_ok {Q : Dt → Prop} {E : Xc → Prop} (k : Q (.bl true)) : F_law_places_right [.hand] Q E := by
  rw [F_law_places_right_eq]; unfold S_law_places_right
  walk_at "wp"
  refine law_length_ok fun n n1 n40 => ?_
  walk_at "wp"
  rw [S_law_places_right_r2_eq]
  walk_at "wp"
  refine law_order_ok (by omega) fun w wl h => ?_
  walk_at "wp"
  have fin : ∀ ms : List Int, (∀ y ∈ ms, 1 ≤ y ∧ y ≤ n) → S_law_places_right_r4 ⟨fun _ => Q .non, Q, fun _ => False, fun _ => False, fun _ _ => False⟩ (plE n w (iL ms) .no .no .no .no .no .no .no) := fun ms hms => by
    rw [S_law_places_right_r4_eq]
    unfold plE
    walk_at "wp"
    refine dFor_inv (fun i e => ∃ s4 s5 s6 s7 s8 s9 s10, e = plE n w (iL ms) s4 s5 s6 s7 s8 s9 s10) ⟨_, _, _, _, _, _, _, rfl⟩ ?_ ?_
    · rintro i x _ K B hx ⟨s4, s5, s6, s7, s8, s9, s10, rfl⟩ hK
      obtain ⟨y, hy, rfl⟩ := map_get hx
      have yb := hms y (List.mem_of_getElem? hy)
      unfold plE
      walk_at "wp"
      exact places_one n1 n40 h wl yb.1 yb.2 fun s4 s5 s6 s7 s8 s9 s10 => hK _ ⟨s4, s5, s6, s7, s8, s9, s10, rfl⟩
    · rintro _ ⟨s4, s5, s6, s7, s8, s9, s10, rfl⟩
      rw [S_law_places_right_r23_eq]
      walk_at "wp"
      exact k
  rw [S_law_places_right_r3_eq]
  walk_at "wp"
  refine iteQ (fun _ => fin w h.1) fun _ => ⟨by omega, fun b hb => ?_⟩
  have hb : b < w.length := by omega
  refine ix_mget (n := b) rfl (List.getElem?_eq_getElem hb) ?_
  refine fin [w[b], 1, (n : Int)] fun y hy => ?_
  rcases List.mem_cons.mp hy with rfl | hy
  · exact h.1 _ (List.getElem_mem hb)
  · rcases List.mem_cons.mp hy with rfl | hy
    · omega
    · rw [List.mem_singleton.mp hy]; omega
end

section
/-! ### refusals -/
/-- what a call is told as -/
def Tells (f : DFn) (as : List Sl) (t : Dt) : Prop :=
  (∃ i : Int, t = .lst [.str "row", .int i] ∧ ∀ (Q : Dt → Prop) (E : Xc → Prop), E ⟨"BadRow", [("index", .int i)]⟩ → f as Q E) ∨
  (t = .lst [.str "number"] ∧ ∀ (Q : Dt → Prop) (E : Xc → Prop), E ⟨"BadNumber", []⟩ → f as Q E) ∨
  ∃ v : Dt, t = .lst [.str "let", v] ∧ ∀ (Q : Dt → Prop) (E : Xc → Prop), Q v → f as Q E
theorem Tells.row {f : DFn} {as : List Sl} {i : Int} (h : ∀ (Q : Dt → Prop) (E : Xc → Prop), E ⟨"BadRow", [("index", .int i)]⟩ → f as Q E) : Tells f as (.lst [.str "row", .int i]) := .inl ⟨i, rfl, h⟩
theorem Tells.num {f : DFn} {as : List Sl} (h : ∀ (Q : Dt → Prop) (E : Xc → Prop), E ⟨"BadNumber", []⟩ → f as Q E) : Tells f as (.lst [.str "number"]) := .inr (.inl ⟨rfl, h⟩)
theorem Tells.val {f : DFn} {as : List Sl} {v : Dt} (h : ∀ (Q : Dt → Prop) (E : Xc → Prop), Q v → f as Q E) : Tells f as (.lst [.str "let", v]) := .inr (.inr ⟨v, rfl, h⟩)
section
variable {a b c t : Dt} {Q : Dt → Prop} {E : Xc → Prop}
theorem called0 (g : Tells F_check_row [.d a, .d b, .d c] t) (k : Q t) : F_law_called [.d (.int 0), .d (.lst [a, b, c])] Q E := by
  rw [F_law_called_eq]; unfold S_law_called
  walk_at "wp"
  rcases g with ⟨i, rfl, h⟩ | ⟨rfl, h⟩ | ⟨v, rfl, h⟩
  · repeat rw [if_neg (by decide)]
    repeat (first | refine ix_get (n := 0) rfl rfl ?_ | refine ix_get (n := 1) rfl rfl ?_ | refine ix_get (n := 2) rfl rfl ?_)
    refine h _ _ ?_
    refine ⟨false, mt_BadRow_BadNumber, ?_⟩
    rw [if_neg (by decide)]
    refine ⟨true, mt_BadRow_BadRow, ?_⟩
    rw [if_pos rfl]
    walk_at "wp"
    exact ⟨rfl, _, rfl, k⟩
  · repeat rw [if_neg (by decide)]
    repeat (first | refine ix_get (n := 0) rfl rfl ?_ | refine ix_get (n := 1) rfl rfl ?_ | refine ix_get (n := 2) rfl rfl ?_)
    refine h _ _ ?_
    refine ⟨true, mt_BadNumber_BadNumber, ?_⟩
    rw [if_pos rfl]
    walk_at "wp"
    exact k
  · repeat rw [if_neg (by decide)]
    repeat (first | refine ix_get (n := 0) rfl rfl ?_ | refine ix_get (n := 1) rfl rfl ?_ | refine ix_get (n := 2) rfl rfl ?_)
    refine h _ _ ?_
    walk_at "wp"
    exact k
theorem called1 (g : Tells F_order_rises [.d a] t) (k : Q t) : F_law_called [.d (.int 1), .d (.lst [a])] Q E := by
  rw [F_law_called_eq]; unfold S_law_called
  walk_at "wp"
  rcases g with ⟨i, rfl, h⟩ | ⟨rfl, h⟩ | ⟨v, rfl, h⟩
  · repeat rw [if_neg (by decide)]
    repeat (first | refine ix_get (n := 0) rfl rfl ?_ | refine ix_get (n := 1) rfl rfl ?_ | refine ix_get (n := 2) rfl rfl ?_)
    refine h _ _ ?_
    refine ⟨false, mt_BadRow_BadNumber, ?_⟩
    rw [if_neg (by decide)]
    refine ⟨true, mt_BadRow_BadRow, ?_⟩
    rw [if_pos rfl]
    walk_at "wp"
    exact ⟨rfl, _, rfl, k⟩
  · repeat rw [if_neg (by decide)]
    repeat (first | refine ix_get (n := 0) rfl rfl ?_ | refine ix_get (n := 1) rfl rfl ?_ | refine ix_get (n := 2) rfl rfl ?_)
    refine h _ _ ?_
    refine ⟨true, mt_BadNumber_BadNumber, ?_⟩
    rw [if_pos rfl]
    walk_at "wp"
    exact k
  · repeat rw [if_neg (by decide)]
    repeat (first | refine ix_get (n := 0) rfl rfl ?_ | refine ix_get (n := 1) rfl rfl ?_ | refine ix_get (n := 2) rfl rfl ?_)
    refine h _ _ ?_
    walk_at "wp"
    exact k
theorem called2 (g : Tells F_order_total [.d a] t) (k : Q t) : F_law_called [.d (.int 2), .d (.lst [a])] Q E := by
  rw [F_law_called_eq]; unfold S_law_called
  walk_at "wp"
  rcases g with ⟨i, rfl, h⟩ | ⟨rfl, h⟩ | ⟨v, rfl, h⟩
  · repeat rw [if_neg (by decide)]
    repeat (first | refine ix_get (n := 0) rfl rfl ?_ | refine ix_get (n := 1) rfl rfl ?_ | refine ix_get (n := 2) rfl rfl ?_)
    refine h _ _ ?_
    refine ⟨false, mt_BadRow_BadNumber, ?_⟩
    rw [if_neg (by decide)]
    refine ⟨true, mt_BadRow_BadRow, ?_⟩
    rw [if_pos rfl]
    walk_at "wp"
    exact ⟨rfl, _, rfl, k⟩
  · repeat rw [if_neg (by decide)]
    repeat (first | refine ix_get (n := 0) rfl rfl ?_ | refine ix_get (n := 1) rfl rfl ?_ | refine ix_get (n := 2) rfl rfl ?_)
    refine h _ _ ?_
    refine ⟨true, mt_BadNumber_BadNumber, ?_⟩
    rw [if_pos rfl]
    walk_at "wp"
    exact k
  · repeat rw [if_neg (by decide)]
    repeat (first | refine ix_get (n := 0) rfl rfl ?_ | refine ix_get (n := 1) rfl rfl ?_ | refine ix_get (n := 2) rfl rfl ?_)
    refine h _ _ ?_
    walk_at "wp"
    exact k
theorem called3 (g : Tells F_turned_order [.d a] t) (k : Q t) : F_law_called [.d (.int 3), .d (.lst [a])] Q E := by
  rw [F_law_called_eq]; unfold S_law_called
  walk_at "wp"
  rcases g with ⟨i, rfl, h⟩ | ⟨rfl, h⟩ | ⟨v, rfl, h⟩
  · repeat rw [if_neg (by decide)]
    repeat (first | refine ix_get (n := 0) rfl rfl ?_ | refine ix_get (n := 1) rfl rfl ?_ | refine ix_get (n := 2) rfl rfl ?_)
    refine h _ _ ?_
    refine ⟨false, mt_BadRow_BadNumber, ?_⟩
    rw [if_neg (by decide)]
    refine ⟨true, mt_BadRow_BadRow, ?_⟩
    rw [if_pos rfl]
    walk_at "wp"
    exact ⟨rfl, _, rfl, k⟩
  · repeat rw [if_neg (by decide)]
    repeat (first | refine ix_get (n := 0) rfl rfl ?_ | refine ix_get (n := 1) rfl rfl ?_ | refine ix_get (n := 2) rfl rfl ?_)
    refine h _ _ ?_
    refine ⟨true, mt_BadNumber_BadNumber, ?_⟩
    rw [if_pos rfl]
    walk_at "wp"
    exact k
  · repeat rw [if_neg (by decide)]
    repeat (first | refine ix_get (n := 0) rfl rfl ?_ | refine ix_get (n := 1) rfl rfl ?_ | refine ix_get (n := 2) rfl rfl ?_)
    refine h _ _ ?_
    walk_at "wp"
    exact k
theorem called4 (g : Tells F_contrary_order [.d a] t) (k : Q t) : F_law_called [.d (.int 4), .d (.lst [a])] Q E := by
  rw [F_law_called_eq]; unfold S_law_called
  walk_at "wp"
  rcases g with ⟨i, rfl, h⟩ | ⟨rfl, h⟩ | ⟨v, rfl, h⟩
  · repeat rw [if_neg (by decide)]
    repeat (first | refine ix_get (n := 0) rfl rfl ?_ | refine ix_get (n := 1) rfl rfl ?_ | refine ix_get (n := 2) rfl rfl ?_)
    refine h _ _ ?_
    refine ⟨false, mt_BadRow_BadNumber, ?_⟩
    rw [if_neg (by decide)]
    refine ⟨true, mt_BadRow_BadRow, ?_⟩
    rw [if_pos rfl]
    walk_at "wp"
    exact ⟨rfl, _, rfl, k⟩
  · repeat rw [if_neg (by decide)]
    repeat (first | refine ix_get (n := 0) rfl rfl ?_ | refine ix_get (n := 1) rfl rfl ?_ | refine ix_get (n := 2) rfl rfl ?_)
    refine h _ _ ?_
    refine ⟨true, mt_BadNumber_BadNumber, ?_⟩
    rw [if_pos rfl]
    walk_at "wp"
    exact k
  · repeat rw [if_neg (by decide)]
    repeat (first | refine ix_get (n := 0) rfl rfl ?_ | refine ix_get (n := 1) rfl rfl ?_ | refine ix_get (n := 2) rfl rfl ?_)
    refine h _ _ ?_
    walk_at "wp"
    exact k
theorem called5 (g : Tells F_lacking_member [.d a, .d b] t) (k : Q t) : F_law_called [.d (.int 5), .d (.lst [a, b])] Q E := by
  rw [F_law_called_eq]; unfold S_law_called
  walk_at "wp"
  rcases g with ⟨i, rfl, h⟩ | ⟨rfl, h⟩ | ⟨v, rfl, h⟩
  · repeat rw [if_neg (by decide)]
    repeat (first | refine ix_get (n := 0) rfl rfl ?_ | refine ix_get (n := 1) rfl rfl ?_ | refine ix_get (n := 2) rfl rfl ?_)
    refine h _ _ ?_
    refine ⟨false, mt_BadRow_BadNumber, ?_⟩
    rw [if_neg (by decide)]
    refine ⟨true, mt_BadRow_BadRow, ?_⟩
    rw [if_pos rfl]
    walk_at "wp"
    exact ⟨rfl, _, rfl, k⟩
  · repeat rw [if_neg (by decide)]
    repeat (first | refine ix_get (n := 0) rfl rfl ?_ | refine ix_get (n := 1) rfl rfl ?_ | refine ix_get (n := 2) rfl rfl ?_)
    refine h _ _ ?_
    refine ⟨true, mt_BadNumber_BadNumber, ?_⟩
    rw [if_pos rfl]
    walk_at "wp"
    exact k
  · repeat rw [if_neg (by decide)]
    repeat (first | refine ix_get (n := 0) rfl rfl ?_ | refine ix_get (n := 1) rfl rfl ?_ | refine ix_get (n := 2) rfl rfl ?_)
    refine h _ _ ?_
    walk_at "wp"
    exact k
theorem called6 (g : Tells F_row_without [.d a, .d b] t) (k : Q t) : F_law_called [.d (.int 6), .d (.lst [a, b])] Q E := by
  rw [F_law_called_eq]; unfold S_law_called
  walk_at "wp"
  rcases g with ⟨i, rfl, h⟩ | ⟨rfl, h⟩ | ⟨v, rfl, h⟩
  · repeat rw [if_neg (by decide)]
    repeat (first | refine ix_get (n := 0) rfl rfl ?_ | refine ix_get (n := 1) rfl rfl ?_ | refine ix_get (n := 2) rfl rfl ?_)
    refine h _ _ ?_
    refine ⟨false, mt_BadRow_BadNumber, ?_⟩
    rw [if_neg (by decide)]
    refine ⟨true, mt_BadRow_BadRow, ?_⟩
    rw [if_pos rfl]
    walk_at "wp"
    exact ⟨rfl, _, rfl, k⟩
  · repeat rw [if_neg (by decide)]
    repeat (first | refine ix_get (n := 0) rfl rfl ?_ | refine ix_get (n := 1) rfl rfl ?_ | refine ix_get (n := 2) rfl rfl ?_)
    refine h _ _ ?_
    refine ⟨true, mt_BadNumber_BadNumber, ?_⟩
    rw [if_pos rfl]
    walk_at "wp"
    exact k
  · repeat rw [if_neg (by decide)]
    repeat (first | refine ix_get (n := 0) rfl rfl ?_ | refine ix_get (n := 1) rfl rfl ?_ | refine ix_get (n := 2) rfl rfl ?_)
    refine h _ _ ?_
    walk_at "wp"
    exact k
theorem called7 (g : Tells F_order_with [.d a, .d b, .d c] t) (k : Q t) : F_law_called [.d (.int 7), .d (.lst [a, b, c])] Q E := by
  rw [F_law_called_eq]; unfold S_law_called
  walk_at "wp"
  rcases g with ⟨i, rfl, h⟩ | ⟨rfl, h⟩ | ⟨v, rfl, h⟩
  · repeat rw [if_neg (by decide)]
    repeat (first | refine ix_get (n := 0) rfl rfl ?_ | refine ix_get (n := 1) rfl rfl ?_ | refine ix_get (n := 2) rfl rfl ?_)
    refine h _ _ ?_
    refine ⟨false, mt_BadRow_BadNumber, ?_⟩
    rw [if_neg (by decide)]
    refine ⟨true, mt_BadRow_BadRow, ?_⟩
    rw [if_pos rfl]
    walk_at "wp"
    exact ⟨rfl, _, rfl, k⟩
  · repeat rw [if_neg (by decide)]
    repeat (first | refine ix_get (n := 0) rfl rfl ?_ | refine ix_get (n := 1) rfl rfl ?_ | refine ix_get (n := 2) rfl rfl ?_)
    refine h _ _ ?_
    refine ⟨true, mt_BadNumber_BadNumber, ?_⟩
    rw [if_pos rfl]
    walk_at "wp"
    exact k
  · repeat rw [if_neg (by decide)]
    repeat (first | refine ix_get (n := 0) rfl rfl ?_ | refine ix_get (n := 1) rfl rfl ?_ | refine ix_get (n := 2) rfl rfl ?_)
    refine h _ _ ?_
    walk_at "wp"
    exact k
theorem called8 (g : Tells F_places_tried [.d a, .d b] t) (k : Q t) : F_law_called [.d (.int 8), .d (.lst [a, b])] Q E := by
  rw [F_law_called_eq]; unfold S_law_called
  walk_at "wp"
  rcases g with ⟨i, rfl, h⟩ | ⟨rfl, h⟩ | ⟨v, rfl, h⟩
  · repeat rw [if_neg (by decide)]
    repeat (first | refine ix_get (n := 0) rfl rfl ?_ | refine ix_get (n := 1) rfl rfl ?_ | refine ix_get (n := 2) rfl rfl ?_)
    refine h _ _ ?_
    refine ⟨false, mt_BadRow_BadNumber, ?_⟩
    rw [if_neg (by decide)]
    refine ⟨true, mt_BadRow_BadRow, ?_⟩
    rw [if_pos rfl]
    walk_at "wp"
    exact ⟨rfl, _, rfl, k⟩
  · repeat rw [if_neg (by decide)]
    repeat (first | refine ix_get (n := 0) rfl rfl ?_ | refine ix_get (n := 1) rfl rfl ?_ | refine ix_get (n := 2) rfl rfl ?_)
    refine h _ _ ?_
    refine ⟨true, mt_BadNumber_BadNumber, ?_⟩
    rw [if_pos rfl]
    walk_at "wp"
    exact k
  · repeat rw [if_neg (by decide)]
    repeat (first | refine ix_get (n := 0) rfl rfl ?_ | refine ix_get (n := 1) rfl rfl ?_ | refine ix_get (n := 2) rfl rfl ?_)
    refine h _ _ ?_
    walk_at "wp"
    exact k
theorem called9 (g : Tells F_moves_apart [.d a, .d b] t) (k : Q t) : F_law_called [.d (.int 9), .d (.lst [a, b])] Q E := by
  rw [F_law_called_eq]; unfold S_law_called
  walk_at "wp"
  rcases g with ⟨i, rfl, h⟩ | ⟨rfl, h⟩ | ⟨v, rfl, h⟩
  · repeat rw [if_neg (by decide)]
    repeat (first | refine ix_get (n := 0) rfl rfl ?_ | refine ix_get (n := 1) rfl rfl ?_ | refine ix_get (n := 2) rfl rfl ?_)
    refine h _ _ ?_
    refine ⟨false, mt_BadRow_BadNumber, ?_⟩
    rw [if_neg (by decide)]
    refine ⟨true, mt_BadRow_BadRow, ?_⟩
    rw [if_pos rfl]
    walk_at "wp"
    exact ⟨rfl, _, rfl, k⟩
  · repeat rw [if_neg (by decide)]
    repeat (first | refine ix_get (n := 0) rfl rfl ?_ | refine ix_get (n := 1) rfl rfl ?_ | refine ix_get (n := 2) rfl rfl ?_)
    refine h _ _ ?_
    refine ⟨true, mt_BadNumber_BadNumber, ?_⟩
    rw [if_pos rfl]
    walk_at "wp"
    exact k
  · repeat rw [if_neg (by decide)]
    repeat (first | refine ix_get (n := 0) rfl rfl ?_ | refine ix_get (n := 1) rfl rfl ?_ | refine ix_get (n := 2) rfl rfl ?_)
    refine h _ _ ?_
    walk_at "wp"
    exact k
end
end

section
/-! ### what is wrong with a row -/
/-- n members, the first odd one behind k good ones -/
def BadAt (L : Int) (k n : Nat) (a : Dt) : Prop := ∃ (xs : List Dt) (w : List Int) (y : Dt) (zs : List Dt), a = .lst xs ∧ xs = w.map Dt.int ++ y :: zs ∧ Row L w ∧ w.length = k ∧ xs.length = n ∧ y.kind.isSome = true ∧ (inB 1 L y = false ∨ ∃ z ∈ w, y = .int z)
/-- no row of m things -/
def NotRow (m : Int) (a : Dt) : Prop := a.kind.isSome = true ∧ (isSeq a = false ∨ (isSeq a = true ∧ ((itemsOf a).length : Int) ≠ m))
section
variable {a b c : Dt} {L : Int} {k n : Nat} {Q : Dt → Prop} {E : Xc → Prop}
theorem BadAt.row (h : BadAt L k n a) (hn : n ≤ 1000) (e : E ⟨"BadRow", [("index", .int k)]⟩) : F_check_row [.d (.int L), .d a, .d (.int n)] Q E := by
  obtain ⟨xs, w, y, zs, rfl, hx, hw, rfl, rfl, yk, hy⟩ := h
  have : w.length ≤ 1000 := by rw [hx, List.length_append, List.length_map] at hn; omega
  exact check_row_at (.inr rfl) hx hw rfl this yk hy e
theorem NotRow.row {m : Int} (h : NotRow m a) (e : E ⟨"BadRow", [("index", .int (-1))]⟩) : F_check_row [.d (.int L), .d a, .d (.int m)] Q E := check_row_not h.1 h.2 e
theorem BadAt.order (h : BadAt n k n a) (n1 : 1 ≤ n) (n40 : n ≤ 40) (e : E ⟨"BadRow", [("index", .int k)]⟩) : F_check_order [.d a] Q E := by
  have h0 := h
  obtain ⟨xs, w, y, zs, rfl, hx, hw, wl, xl, yk, hy⟩ := h
  rw [F_check_order_eq]; unfold S_check_order
  walk_at "wp"
  refine is_whole_ok rfl ?_
  rw [inB_int (by omega) (by omega)]
  walk_at "wp"
  rw [xl]
  exact h0.row (by omega) e
theorem BadAt.any (h : BadAt 40 k n a) (n40 : n ≤ 40) (e : E ⟨"BadRow", [("index", .int k)]⟩) : F_check_any_row [.d a] Q E := by
  have h0 := h
  obtain ⟨xs, w, y, zs, rfl, hx, hw, wl, xl, yk, hy⟩ := h
  rw [F_check_any_row_eq]; unfold S_check_any_row
  walk_at "wp"
  rw [if_neg (by omega), xl]
  exact h0.row (by omega) e
/-- no row at all, or one of no or more than 40 things -/
def OffSeq (a : Dt) : Prop := a.kind.isSome = true ∧ (isSeq a = false ∨ (isSeq a = true ∧ 40 < (itemsOf a).length))
theorem off_order (h : a.kind.isSome = true ∧ (isSeq a = false ∨ (isSeq a = true ∧ ((itemsOf a).length = 0 ∨ 40 < (itemsOf a).length)))) (e : E ⟨"BadRow", [("index", .int (-1))]⟩) : F_check_order [.d a] Q E := by
  obtain ⟨hk, h⟩ := h
  rw [F_check_order_eq]; unfold S_check_order
  rcases h with h | ⟨h, g⟩
  · cases a <;> first | (cases hk; done) | (cases h; done) | (walk_at "wp"; exact e)
  · have hb : inB 1 40 (.int (itemsOf a).length) = false := by
      cases c : inB 1 40 (.int ((itemsOf a).length : Int)) with
      | false => rfl
      | true => 
        unfold inB at c
        rw [Bool.and_eq_true, decide_eq_true_eq, decide_eq_true_eq] at c
        omega
    cases a <;> first | (cases h; done) | (walk_at "wp"; refine is_whole_ok rfl ?_; (first | rw [hb] | (simp only [itemsOf] at hb; rw [hb])); walk_at "wp"; exact e)
theorem OffSeq.any (h : OffSeq a) (e : E ⟨"BadRow", [("index", .int (-1))]⟩) : F_check_any_row [.d a] Q E := by
  obtain ⟨hk, h⟩ := h
  rw [F_check_any_row_eq]; unfold S_check_any_row
  rcases h with h | ⟨h, g⟩
  · cases a <;> first | (cases hk; done) | (cases h; done) | (walk_at "wp"; exact e)
  · cases a <;> first | (cases h; done) | (simp only [itemsOf] at g; walk_at "wp"; rw [if_pos (by omega)]; exact e)
theorem short_num (hk : a.kind.isSome = true) (h : inB 1 40 a = false) (e : E ⟨"BadNumber", []⟩) : F_check_short_row [.d a, .d b] Q E := by
  rw [F_check_short_row_eq]; unfold S_check_short_row
  walk_at "wp"
  refine check_number_ok hk (fun c => by rw [h] at c; cases c) fun _ => e
theorem short_at (h : BadAt n k (n - 1) a) (n1 : 1 ≤ n) (n40 : n ≤ 40) (e : E ⟨"BadRow", [("index", .int k)]⟩) : F_check_short_row [.d (.int n), .d a] Q E := by
  rw [F_check_short_row_eq]; unfold S_check_short_row
  walk_at "wp"
  refine num_in (by omega) (by omega) ?_
  walk_at "wp"
  rw [show (n : Int) - 1 = ((n - 1 : Nat) : Int) by omega]
  exact h.row (by omega) e
theorem short_not (h : NotRow ((n : Int) - 1) a) (n1 : 1 ≤ n) (n40 : n ≤ 40) (e : E ⟨"BadRow", [("index", .int (-1))]⟩) : F_check_short_row [.d (.int n), .d a] Q E := by
  rw [F_check_short_row_eq]; unfold S_check_short_row
  walk_at "wp"
  refine num_in (by omega) (by omega) ?_
  walk_at "wp"
  exact h.row e
end
end

section
/-! ### each call is told so -/
section
variable {a b c : Dt} {k n : Nat}
theorem tl_row {L : Int} (h : BadAt L k n a) (hn : n ≤ 1000) : Tells F_check_row [.d (.int L), .d a, .d (.int n)] (.lst [.str "row", .int k]) := .row fun _ _ e => h.row hn e
theorem tl_rowN {L m : Int} (h : NotRow m a) : Tells F_check_row [.d (.int L), .d a, .d (.int m)] (.lst [.str "row", .int (-1)]) := .row fun _ _ e => h.row e
theorem tl_rowV {L m : Int} {w : List Int} (h : Row L w) (hm : m = w.length) (wl : w.length ≤ 1000) : Tells F_check_row [.d (.int L), .d (iL w), .d (.int m)] (.lst [.str "let", iT w]) := .val fun _ _ e => check_row_good (.inr rfl) h hm wl e
theorem tl_rises (h : BadAt 40 k n a) (n40 : n ≤ 40) : Tells F_order_rises [.d a] (.lst [.str "row", .int k]) := .row fun _ _ e => by
  rw [F_order_rises_eq]; unfold S_order_rises
  walk_at "wp"
  exact h.any n40 e
theorem tl_risesN (h : OffSeq a) : Tells F_order_rises [.d a] (.lst [.str "row", .int (-1)]) := .row fun _ _ e => by
  rw [F_order_rises_eq]; unfold S_order_rises
  walk_at "wp"
  exact h.any e
theorem tl_total (h : BadAt 40 k n a) (n40 : n ≤ 40) : Tells F_order_total [.d a] (.lst [.str "row", .int k]) := .row fun _ _ e => by
  rw [F_order_total_eq]; unfold S_order_total
  walk_at "wp"
  exact h.any n40 e
theorem tl_totalN (h : OffSeq a) : Tells F_order_total [.d a] (.lst [.str "row", .int (-1)]) := .row fun _ _ e => by
  rw [F_order_total_eq]; unfold S_order_total
  walk_at "wp"
  exact h.any e
theorem tl_turned (h : BadAt n k n a) (n1 : 1 ≤ n) (n40 : n ≤ 40) : Tells F_turned_order [.d a] (.lst [.str "row", .int k]) := .row fun _ _ e => by
  rw [F_turned_order_eq]; unfold S_turned_order
  walk_at "wp"
  exact h.order n1 n40 e
/-- no order: no row, an empty one, one of more than 40 -/
def OffOrd (a : Dt) : Prop := a.kind.isSome = true ∧ (isSeq a = false ∨ (isSeq a = true ∧ ((itemsOf a).length = 0 ∨ 40 < (itemsOf a).length)))
theorem tl_turnedN (h : OffOrd a) : Tells F_turned_order [.d a] (.lst [.str "row", .int (-1)]) := .row fun _ _ e => by
  rw [F_turned_order_eq]; unfold S_turned_order
  walk_at "wp"
  exact off_order h e
theorem tl_contrary (h : BadAt n k n a) (n1 : 1 ≤ n) (n40 : n ≤ 40) : Tells F_contrary_order [.d a] (.lst [.str "row", .int k]) := .row fun _ _ e => by
  rw [F_contrary_order_eq]; unfold S_contrary_order
  walk_at "wp"
  exact h.order n1 n40 e
theorem tl_contraryN (h : OffOrd a) : Tells F_contrary_order [.d a] (.lst [.str "row", .int (-1)]) := .row fun _ _ e => by
  rw [F_contrary_order_eq]; unfold S_contrary_order
  walk_at "wp"
  exact off_order h e
theorem tl_lackB (hk : a.kind.isSome = true) (h : inB 1 40 a = false) : Tells F_lacking_member [.d a, .d b] (.lst [.str "number"]) := .num fun _ _ e => by
  rw [F_lacking_member_eq]; unfold S_lacking_member
  walk_at "wp"
  exact short_num hk h e
theorem tl_lack (h : BadAt n k (n - 1) a) (n1 : 1 ≤ n) (n40 : n ≤ 40) : Tells F_lacking_member [.d (.int n), .d a] (.lst [.str "row", .int k]) := .row fun _ _ e => by
  rw [F_lacking_member_eq]; unfold S_lacking_member
  walk_at "wp"
  exact short_at h n1 n40 e
theorem tl_lackN (h : NotRow ((n : Int) - 1) a) (n1 : 1 ≤ n) (n40 : n ≤ 40) : Tells F_lacking_member [.d (.int n), .d a] (.lst [.str "row", .int (-1)]) := .row fun _ _ e => by
  rw [F_lacking_member_eq]; unfold S_lacking_member
  walk_at "wp"
  exact short_not h n1 n40 e
theorem tl_wo (h : BadAt n k n a) (n1 : 1 ≤ n) (n40 : n ≤ 40) : Tells F_row_without [.d a, .d b] (.lst [.str "row", .int k]) := .row fun _ _ e => by
  rw [F_row_without_eq]; unfold S_row_without
  walk_at "wp"
  exact h.order n1 n40 e
theorem tl_woB {w : List Int} (h : Row w.length w) (n1 : 1 ≤ w.length) (n40 : w.length ≤ 40) (hk : b.kind.isSome = true) (hb : inB 1 w.length b = false) : Tells F_row_without [.d (iL w), .d b] (.lst [.str "number"]) := .num fun _ _ e => by
  rw [F_row_without_eq]; unfold S_row_without
  walk_at "wp"
  refine check_order_good (.inr rfl) h n1 n40 ?_
  walk_at "wp"
  exact check_number_ok hk (fun c => by rw [hb] at c; cases c) fun _ => e
theorem tl_owB (hk : a.kind.isSome = true) (h : inB 1 40 a = false) : Tells F_order_with [.d a, .d b, .d c] (.lst [.str "number"]) := .num fun _ _ e => by
  rw [F_order_with_eq]; unfold S_order_with
  walk_at "wp"
  exact short_num hk h e
theorem tl_ow (h : BadAt n k (n - 1) a) (n1 : 1 ≤ n) (n40 : n ≤ 40) : Tells F_order_with [.d (.int n), .d a, .d c] (.lst [.str "row", .int k]) := .row fun _ _ e => by
  rw [F_order_with_eq]; unfold S_order_with
  walk_at "wp"
  exact short_at h n1 n40 e
theorem tl_owP {r : List Int} (h : Row n r) (rl : r.length + 1 = n) (n40 : n ≤ 40) (hk : c.kind.isSome = true) (hc : inB 1 n c = false) : Tells F_order_with [.d (.int n), .d (iL r), .d c] (.lst [.str "number"]) := .num fun _ _ e => by
  rw [F_order_with_eq]; unfold S_order_with
  walk_at "wp"
  refine check_short_good (.inr rfl) h rl n40 ?_
  walk_at "wp"
  exact check_number_ok hk (fun g => by rw [hc] at g; cases g) fun _ => e
theorem tl_owV {r : List Int} {y : Int} (h : Row n r) (rl : r.length + 1 = n) (n40 : n ≤ 40) (hy : lck n r = y) : Tells F_order_with [.d (.int n), .d (iL r), .d (.int n)] (.lst [.str "let", iT (r ++ [y])]) := .val fun _ _ e => by
  refine order_with_ok (p := n - 1) (.inr rfl) h rl n40 (by omega) (by omega) ?_
  rw [hy, show n - 1 = r.length by omega, put_end]
  exact e
theorem tl_ptB (hk : a.kind.isSome = true) (h : inB 1 40 a = false) : Tells F_places_tried [.d a, .d b] (.lst [.str "number"]) := .num fun _ _ e => by
  rw [F_places_tried_eq]; unfold S_places_tried
  walk_at "wp"
  exact short_num hk h e
theorem tl_pt (h : BadAt n k (n - 1) a) (n1 : 1 ≤ n) (n40 : n ≤ 40) : Tells F_places_tried [.d (.int n), .d a] (.lst [.str "row", .int k]) := .row fun _ _ e => by
  rw [F_places_tried_eq]; unfold S_places_tried
  walk_at "wp"
  exact short_at h n1 n40 e
theorem tl_ma (h : BadAt n k n a) (n1 : 1 ≤ n) (n40 : n ≤ 40) : Tells F_moves_apart [.d a, .d b] (.lst [.str "row", .int k]) := .row fun _ _ e => by
  rw [F_moves_apart_eq]; unfold S_moves_apart
  walk_at "wp"
  exact h.order n1 n40 e
theorem tl_maN (h : OffOrd a) : Tells F_moves_apart [.d a, .d b] (.lst [.str "row", .int (-1)]) := .row fun _ _ e => by
  rw [F_moves_apart_eq]; unfold S_moves_apart
  walk_at "wp"
  exact off_order h e
theorem tl_ma2 {w : List Int} (h : Row w.length w) (n1 : 1 ≤ w.length) (n40 : w.length ≤ 40) (hb : BadAt w.length k w.length b) : Tells F_moves_apart [.d (iL w), .d b] (.lst [.str "row", .int k]) := .row fun _ _ e => by
  rw [F_moves_apart_eq]; unfold S_moves_apart
  walk_at "wp"
  refine check_order_good (.inr rfl) h n1 n40 ?_
  walk_at "wp"
  exact hb.row (by omega) e
theorem tl_ma2N {w : List Int} (h : Row w.length w) (n1 : 1 ≤ w.length) (n40 : w.length ≤ 40) (hb : NotRow w.length b) : Tells F_moves_apart [.d (iL w), .d b] (.lst [.str "row", .int (-1)]) := .row fun _ _ e => by
  rw [F_moves_apart_eq]; unfold S_moves_apart
  walk_at "wp"
  refine check_order_good (.inr rfl) h n1 n40 ?_
  walk_at "wp"
  exact hb.row e
end
end

section
/-! ### the law of refusals -/
theorem refused_r18 {s1 s2 s3 s4 s5 s6 s7 s8 s9 s10 s11 s12 s13 s15 s16 : Sl} {xs : List Dt} {Q : Dt → Prop} (h : ∀ x ∈ xs, ∃ t : Dt, x = .tup [t, t] ∧ Sho 200000 2 t) (k : Q (.bl true)) : S_law_refused_r18 ⟨fun _ => Q .non, Q, fun _ => False, fun _ => False, fun _ _ => False⟩ [.hand, s1, s2, s3, s4, s5, s6, s7, s8, s9, s10, s11, s12, s13, .d (.lst xs), s15, s16] := by
  rw [S_law_refused_r18_eq]
  walk_at "wp"
  refine dFor_inv (fun i e => ∃ s15 s16 : Sl, e = [.hand, s1, s2, s3, s4, s5, s6, s7, s8, s9, s10, s11, s12, s13, .d (.lst xs), s15, s16]) ⟨_, _, rfl⟩ ?_ ?_
  · rintro i x _ K B hx ⟨s15, s16, rfl⟩ hK
    obtain ⟨t, rfl, S⟩ := h x (List.mem_of_getElem? hx)
    walk_at "wp"
    rw [S_law_refused_b19_eq]
    walk_at "wp"
    refine ⟨S.shw (by omega) (by decide), ⟨S.shw (by omega) (by decide), shw_ne S ?_⟩⟩
    walk_at "wp"
    exact hK _ ⟨_, _, rfl⟩
  · rintro _ ⟨s15, s16, rfl⟩
    rw [S_law_refused_r21_eq]
    walk_at "wp"
    exact k
/-- the things that are drawn -/
structure Drw (n k m : Nat) (w : List Int) (tw bad : Dt) (sp : List Dt) (le me nt : Dt) : Prop where
  n2 : 2 ≤ n
  n8 : n ≤ 8
  kn : k < n
  mn : m + 1 < n
  row : Row n w
  wl : w.length = n
  tw : BadAt 40 k n tw
  bad : BadAt n k n bad
  sp : BadAt n m (n - 1) (.lst sp)
  lk : le.kind.isSome = true
  le : inB 1 40 le = false
  ek : me.kind.isSome = true
  me : inB 1 n me = false
  nk : nt.kind.isSome = true
  nt : isSeq nt = false
theorem sho_str' {z : Str} (h : (reprText z).length ≤ 1921) (g : PyData.strOk (reprText z) = true) : Sho 80000 1 (.str z) :=
  (show Sho 1921 0 (.str z) from ⟨.str z, by rw [Dt.py], by rw [PyData.showable], by rw [PyData.hasDict], by rw [PyData.depth]; exact Nat.le_refl _, by rw [PyData.shown]; exact h, by rw [PyData.shown]; exact g⟩).mono (by omega) (by omega)
theorem sho_num : Sho 200000 2 (.lst [.str "number"]) := (sho_lst (n := 80000) (m := 1) (xs := [.str "number"]) fun x hx => by
  rw [List.mem_singleton.mp hx]; exact sho_str' (by decide +kernel) (by decide +kernel)).mono (by show 1 * 80002 + 4 ≤ _; omega) (by omega)
theorem sho_rowI {i : Int} (h : i.natAbs ≤ 1000) : Sho 200000 2 (.lst [.str "row", .int i]) := (sho_lst (n := 80000) (m := 1) (xs := [.str "row", .int i]) fun x hx => by
  rcases List.mem_cons.mp hx with rfl | hx
  · exact sho_str' (by decide +kernel) (by decide +kernel)
  · rw [List.mem_singleton.mp hx]
    exact (sho_int (Nat.lt_of_le_of_lt h (by decide +kernel))).mono (by omega) (by omega)).mono (by show 2 * 80002 + 4 ≤ _; omega) (by omega)
theorem sho_let {d : Dt} (h : Sho 80000 1 d) : Sho 200000 2 (.lst [.str "let", d]) := (sho_lst (n := 80000) (m := 1) (xs := [.str "let", d]) fun x hx => by
  rcases List.mem_cons.mp hx with rfl | hx
  · exact sho_str' (by decide +kernel) (by decide +kernel)
  · rw [List.mem_singleton.mp hx]
    exact h).mono (by show 2 * 80002 + 4 ≤ _; omega) (by omega)
/-- the rest of the list is all couples of one thing -/
def Ready (env : List Sl) (E : Xc → Prop) (R : DAX) (m : Nat) : Prop := ∀ K : List Dt → Prop, (∀ ds, (∀ x ∈ ds, ∃ t : Dt, x = .tup [t, t] ∧ Sho 200000 2 t) → ds.length = m → K ds) → R env K E
theorem Ready.nil {env : List Sl} {E : Xc → Prop} : Ready env E eNil 0 := fun K h => h [] (fun x hx => (nomatch hx)) rfl
theorem Ready.item {env : List Sl} {E : Xc → Prop} {A B : DX} {R : DAX} {m : Nat} (t : Dt) (S : Sho 200000 2 t) (hA : ∀ K : Dt → Prop, K t → A env K E) (hB : ∀ K : Dt → Prop, K t → B env K E) (k : Ready env E R m) : Ready env E (eCons (eTup (eCons A (eCons B eNil))) R) (m + 1) := fun K h => by
  rw [eCons_W, eTup_W, eCons_W]
  refine hA _ ?_
  rw [eCons_W]
  refine hB _ ?_
  rw [eNil_W]
  refine ⟨by rw [LINE_W]; show (2 : Nat) ≤ 16777216; omega, ?_⟩
  refine k _ fun ds g l => h _ (fun x hx => ?_) (by rw [List.length_cons, l])
  rcases List.mem_cons.mp hx with rfl | hx
  · exact ⟨t, rfl, S⟩
  · exact g x hx
theorem refused_r17 {n k m : Nat} {w : List Int} {tw bad le me nt : Dt} {sp : List Dt} {s5 : Sl} {Q : Dt → Prop} (D : Drw n k m w tw bad sp le me nt) (q : Q (.bl true)) : S_law_refused_r17 ⟨fun _ => Q .non, Q, fun _ => False, fun _ => False, fun _ _ => False⟩ [.hand, .d (.int n), .d (iL w), .d (.int k), .d tw, s5, .d bad, .d (iL (w.drop 1)), .d (.int m), .own (.lst sp), .d le, .d me, .d nt, .d (.lst ((List.range (42 - 1)).map fun k : Nat => Dt.int (1 + (k : Nat)))), .no, .no, .no] := by
  rw [S_law_refused_r17_eq]
  have hE : frz (frz [.hand, .d (.int n), .d (iL w), .d (.int k), .d tw, s5, .d bad, .d (iL (w.drop 1)), .d (.int m), .own (.lst sp), .d le, .d me, .d nt, .d (.lst ((List.range (42 - 1)).map fun k : Nat => Dt.int (1 + (k : Nat)))), .no, .no, .no] 4) 9 = [.hand, .d (.int n), .d (iL w), .d (.int k), .d tw, s5, .d bad, .d (iL (w.drop 1)), .d (.int m), .d (.lst sp), .d le, .d me, .d nt, .d (.lst ((List.range (42 - 1)).map fun k : Nat => Dt.int (1 + (k : Nat)))), .no, .no, .no] := rfl
  rw [sSeq_W, sFrz_W, sFrz_W, sAsg_W, hE, eLst_W]
  have n8 := D.n8
  have n2 := D.n2
  have kn := D.kn
  have mn := D.mn
  have wl := D.wl
  have hw : Row w.length w := by rw [wl]; exact D.row
  have dl : (w.drop 1).length = n - 1 := by rw [List.length_drop, wl]
  have ds : Row n (w.drop 1) := ⟨fun x hx => D.row.1 x (List.mem_of_mem_drop hx), D.row.2.sublist (List.drop_sublist _ _)⟩
  have sk := fun j : Nat => fun h : j < 40 => (sho_rowI (i := (j : Int)) (by omega))
  have s1 : Sho 200000 2 (.lst [.str "row", .int (-1)]) := sho_rowI (by decide)
  have sw : Sho 200000 2 (.lst [.str "let", iT w]) := sho_let (D.row.sho (by omega) (by omega))
  have sd : Sho 200000 2 (.lst [.str "let", iT (w.drop 1)]) := sho_let (ds.sho (by omega) (by omega))
  obtain ⟨y, r, rfl⟩ : ∃ y r, w = y :: r := by
    cases w with
    | nil => rw [List.length_nil] at wl; omega
    | cons y r => exact ⟨y, r, rfl⟩
  rw [List.drop_one, List.tail_cons] at *
  have hl : lck n r = y := lck_of D.row wl (List.Perm.refl _)
  have se : Sho 200000 2 (.lst [.str "let", iT (r ++ [y])]) := sho_let (sho_row (fun x hx => by
    rcases List.mem_append.mp hx with hx | hx
    · have := ds.1 x hx; omega
    · rw [List.mem_singleton.mp hx]; have := D.row.1 y List.mem_cons_self; omega) (by rw [List.length_append, List.length_singleton]; omega))
  have no : NotRow n nt := ⟨D.nk, .inl D.nt⟩
  have nq : OffSeq nt := ⟨D.nk, .inl D.nt⟩
  have nr : OffOrd nt := ⟨D.nk, .inl D.nt⟩
  have gl : ((List.range (42 - 1)).map fun k : Nat => Dt.int (1 + (k : Nat))).length = 41 := by rw [List.length_map, List.length_range]
  have gq : OffSeq (.lst ((List.range (42 - 1)).map fun k : Nat => Dt.int (1 + (k : Nat)))) := ⟨rfl, .inr ⟨rfl, by show 40 < ((List.range (42 - 1)).map fun k : Nat => Dt.int (1 + (k : Nat))).length; rw [gl]; omega⟩⟩
  have gr : OffOrd (.lst ((List.range (42 - 1)).map fun k : Nat => Dt.int (1 + (k : Nat)))) := ⟨rfl, .inr ⟨rfl, .inr (by show 40 < ((List.range (42 - 1)).map fun k : Nat => Dt.int (1 + (k : Nat))).length; rw [gl]; omega)⟩⟩
  have er : OffOrd (.lst []) := ⟨rfl, .inr ⟨rfl, .inl rfl⟩⟩
  have nw : ∀ z : Int, z ≠ n → NotRow z (iL (y :: r)) := fun z hz => ⟨rfl, .inr ⟨rfl, by show ((((y :: r).map Dt.int).length : Nat) : Int) ≠ z; rw [List.length_map, wl]; omega⟩⟩
  have nd : ∀ z : Int, z ≠ (n : Int) - 1 → NotRow z (iL r) := fun z hz => ⟨rfl, .inr ⟨rfl, by show (((r.map Dt.int).length : Nat) : Int) ≠ z; rw [List.length_map]; omega⟩⟩
  have bl : ∀ z : Int, z ≠ n → NotRow z bad := fun z hz => by
    obtain ⟨xs, _, _, _, rfl, _, _, _, xl, _⟩ := D.bad
    exact ⟨rfl, .inr ⟨rfl, by show ((xs.length : Nat) : Int) ≠ z; omega⟩⟩
  have t0 : Tells F_order_rises [.d (.lst [])] (.lst [.str "let", .tup []]) := .val fun Q E e => order_rises_ok (w := []) (.inr rfl) ⟨fun _ hx => (nomatch hx), List.nodup_nil⟩ (by decide) e
  have t1 : Tells F_order_total [.d (.tup [])] (.lst [.str "let", .int 0]) := .val fun Q E e => order_total_ok (w := []) (.inl rfl) ⟨fun _ hx => (nomatch hx), List.nodup_nil⟩ (by decide) e
  have b0 : BadAt 40 0 2 (.lst [.int 41, .int 0]) := ⟨_, [], .int 41, [.int 0], rfl, rfl, ⟨fun _ hx => (nomatch hx), List.nodup_nil⟩, rfl, rfl, rfl, .inl rfl⟩
  have b1 : BadAt 40 1 2 (.lst [.int 40, .int 41]) := ⟨_, [40], .int 41, [], rfl, rfl, ⟨fun x hx => by rw [List.mem_singleton.mp hx]; omega, List.nodup_cons.mpr ⟨List.not_mem_nil, List.nodup_nil⟩⟩, rfl, rfl, rfl, .inl rfl⟩
  refine (show Ready _ _ _ 38 from ?_) _ fun ds h l => ⟨by rw [l, LINE_W]; omega, ?_⟩
  rotate_left
  · exact refused_r18 h q
  refine .item (.lst [.str "row", .int k]) (sk k (by omega)) (fun K h => ?_) (fun K h => ?_) ?_
  · walk_at "wp"
    exact called0 (tl_row D.bad (by omega)) h
  · walk_at "wp"
    exact h
  refine .item (.lst [.str "row", .int (-1)]) (s1) (fun K h => ?_) (fun K h => ?_) ?_
  · walk_at "wp"
    exact called0 (tl_rowN (bl _ (by omega))) h
  · walk_at "wp"
    exact h
  refine .item (.lst [.str "row", .int (-1)]) (s1) (fun K h => ?_) (fun K h => ?_) ?_
  · walk_at "wp"
    exact called0 (tl_rowN no) h
  · walk_at "wp"
    exact h
  refine .item (.lst [.str "let", iT (y :: r)]) (sw) (fun K h => ?_) (fun K h => ?_) ?_
  · walk_at "wp"
    exact called0 (tl_rowV D.row (by omega) (by omega)) h
  · walk_at "wp"
    exact h
  refine .item (.lst [.str "let", iT r]) (sd) (fun K h => ?_) (fun K h => ?_) ?_
  · walk_at "wp"
    exact called0 (tl_rowV ds (by omega) (by omega)) h
  · walk_at "wp"
    exact h
  refine .item (.lst [.str "row", .int (-1)]) (s1) (fun K h => ?_) (fun K h => ?_) ?_
  · walk_at "wp"
    exact called0 (tl_rowN (nw _ (by omega))) h
  · walk_at "wp"
    exact h
  refine .item (.lst [.str "row", .int k]) (sk k (by omega)) (fun K h => ?_) (fun K h => ?_) ?_
  · walk_at "wp"
    exact called1 (tl_rises D.tw (by omega)) h
  · walk_at "wp"
    exact h
  refine .item (.lst [.str "row", .int k]) (sk k (by omega)) (fun K h => ?_) (fun K h => ?_) ?_
  · walk_at "wp"
    exact called2 (tl_total D.tw (by omega)) h
  · walk_at "wp"
    exact h
  refine .item (.lst [.str "row", .int (-1)]) (s1) (fun K h => ?_) (fun K h => ?_) ?_
  · walk_at "wp"
    exact called1 (tl_risesN gq) h
  · walk_at "wp"
    exact h
  refine .item (.lst [.str "row", .int (-1)]) (s1) (fun K h => ?_) (fun K h => ?_) ?_
  · walk_at "wp"
    exact called2 (tl_totalN gq) h
  · walk_at "wp"
    exact h
  refine .item (.lst [.str "row", .int (-1)]) (s1) (fun K h => ?_) (fun K h => ?_) ?_
  · walk_at "wp"
    exact called1 (tl_risesN nq) h
  · walk_at "wp"
    exact h
  refine .item (.lst [.str "row", .int (-1)]) (s1) (fun K h => ?_) (fun K h => ?_) ?_
  · walk_at "wp"
    exact called2 (tl_totalN nq) h
  · walk_at "wp"
    exact h
  refine .item (.lst [.str "let", .tup []]) (sho_let (sho_row (w := []) (fun _ hx => (nomatch hx)) (by decide))) (fun K h => ?_) (fun K h => ?_) ?_
  · walk_at "wp"
    exact called1 (t0) h
  · walk_at "wp"
    exact h
  refine .item (.lst [.str "let", .int 0]) (sho_let ((sho_int (i := 0) (by decide +kernel)).mono (by omega) (by omega))) (fun K h => ?_) (fun K h => ?_) ?_
  · walk_at "wp"
    exact called2 (t1) h
  · walk_at "wp"
    exact h
  refine .item (.lst [.str "row", .int 0]) (sk 0 (by omega)) (fun K h => ?_) (fun K h => ?_) ?_
  · walk_at "wp"
    exact called1 (tl_rises b0 (by omega)) h
  · walk_at "wp"
    exact h
  refine .item (.lst [.str "row", .int 1]) (sk 1 (by omega)) (fun K h => ?_) (fun K h => ?_) ?_
  · walk_at "wp"
    exact called2 (tl_total b1 (by omega)) h
  · walk_at "wp"
    exact h
  refine .item (.lst [.str "row", .int k]) (sk k (by omega)) (fun K h => ?_) (fun K h => ?_) ?_
  · walk_at "wp"
    exact called3 (tl_turned D.bad (by omega) (by omega)) h
  · walk_at "wp"
    exact h
  refine .item (.lst [.str "row", .int k]) (sk k (by omega)) (fun K h => ?_) (fun K h => ?_) ?_
  · walk_at "wp"
    exact called4 (tl_contrary D.bad (by omega) (by omega)) h
  · walk_at "wp"
    exact h
  refine .item (.lst [.str "row", .int (-1)]) (s1) (fun K h => ?_) (fun K h => ?_) ?_
  · walk_at "wp"
    exact called3 (tl_turnedN er) h
  · walk_at "wp"
    exact h
  refine .item (.lst [.str "row", .int (-1)]) (s1) (fun K h => ?_) (fun K h => ?_) ?_
  · walk_at "wp"
    exact called4 (tl_contraryN gr) h
  · walk_at "wp"
    exact h
  refine .item (.lst [.str "row", .int (-1)]) (s1) (fun K h => ?_) (fun K h => ?_) ?_
  · walk_at "wp"
    exact called3 (tl_turnedN gr) h
  · walk_at "wp"
    exact h
  refine .item (.lst [.str "row", .int (-1)]) (s1) (fun K h => ?_) (fun K h => ?_) ?_
  · walk_at "wp"
    exact called4 (tl_contraryN nr) h
  · walk_at "wp"
    exact h
  refine .item (.lst [.str "number"]) (sho_num) (fun K h => ?_) (fun K h => ?_) ?_
  · walk_at "wp"
    exact called5 (tl_lackB D.lk D.le) h
  · walk_at "wp"
    exact h
  refine .item (.lst [.str "row", .int m]) (sk m (by omega)) (fun K h => ?_) (fun K h => ?_) ?_
  · walk_at "wp"
    exact called5 (tl_lack D.sp (by omega) (by omega)) h
  · walk_at "wp"
    exact h
  refine .item (.lst [.str "row", .int (-1)]) (s1) (fun K h => ?_) (fun K h => ?_) ?_
  · walk_at "wp"
    exact called5 (tl_lackN (nw _ (by omega)) (by omega) (by omega)) h
  · walk_at "wp"
    exact h
  refine .item (.lst [.str "row", .int (-1)]) (s1) (fun K h => ?_) (fun K h => ?_) ?_
  · walk_at "wp"
    exact called5 (tl_lackN (n := n + 1) (nd _ (by omega)) (by omega) (by omega)) h
  · walk_at "wp"
    exact h
  refine .item (.lst [.str "row", .int k]) (sk k (by omega)) (fun K h => ?_) (fun K h => ?_) ?_
  · walk_at "wp"
    exact called6 (tl_wo D.bad (by omega) (by omega)) h
  · walk_at "wp"
    exact h
  refine .item (.lst [.str "number"]) (sho_num) (fun K h => ?_) (fun K h => ?_) ?_
  · walk_at "wp"
    exact called6 (tl_woB hw (by omega) (by omega) D.ek (by rw [wl]; exact D.me)) h
  · walk_at "wp"
    exact h
  refine .item (.lst [.str "number"]) (sho_num) (fun K h => ?_) (fun K h => ?_) ?_
  · walk_at "wp"
    exact called7 (tl_owB D.lk D.le) h
  · walk_at "wp"
    exact h
  refine .item (.lst [.str "row", .int m]) (sk m (by omega)) (fun K h => ?_) (fun K h => ?_) ?_
  · walk_at "wp"
    exact called7 (tl_ow D.sp (by omega) (by omega)) h
  · walk_at "wp"
    exact h
  refine .item (.lst [.str "number"]) (sho_num) (fun K h => ?_) (fun K h => ?_) ?_
  · walk_at "wp"
    exact called7 (tl_owP ds (by omega) (by omega) D.ek D.me) h
  · walk_at "wp"
    exact h
  refine .item (.lst [.str "let", iT (r ++ [y])]) (se) (fun K h => ?_) (fun K h => ?_) ?_
  · walk_at "wp"
    exact called7 (tl_owV ds (by omega) (by omega) hl) h
  · walk_at "wp"
    refine ix_get (n := 0) rfl rfl ⟨by omega, ?_⟩
    have e : iT (r ++ [y]) = .tup (r.map Dt.int ++ [Dt.int y]) := congrArg Dt.tup List.map_append
    rw [e] at h
    exact h
  refine .item (.lst [.str "number"]) (sho_num) (fun K h => ?_) (fun K h => ?_) ?_
  · walk_at "wp"
    exact called8 (tl_ptB D.lk D.le) h
  · walk_at "wp"
    exact h
  refine .item (.lst [.str "row", .int m]) (sk m (by omega)) (fun K h => ?_) (fun K h => ?_) ?_
  · walk_at "wp"
    exact called8 (tl_pt D.sp (by omega) (by omega)) h
  · walk_at "wp"
    exact h
  refine .item (.lst [.str "row", .int k]) (sk k (by omega)) (fun K h => ?_) (fun K h => ?_) ?_
  · walk_at "wp"
    exact called9 (tl_ma D.bad (by omega) (by omega)) h
  · walk_at "wp"
    exact h
  refine .item (.lst [.str "row", .int k]) (sk k (by omega)) (fun K h => ?_) (fun K h => ?_) ?_
  · walk_at "wp"
    exact called9 (tl_ma2 hw (by omega) (by omega) (by rw [wl]; exact D.bad)) h
  · walk_at "wp"
    exact h
  refine .item (.lst [.str "row", .int (-1)]) (s1) (fun K h => ?_) (fun K h => ?_) ?_
  · walk_at "wp"
    exact called9 (tl_ma2N hw (by omega) (by omega) (nd _ (by omega))) h
  · walk_at "wp"
    exact h
  refine .item (.lst [.str "row", .int (-1)]) (s1) (fun K h => ?_) (fun K h => ?_) ?_
  · walk_at "wp"
    exact called9 (tl_maN nr) h
  · walk_at "wp"
    exact h
  exact .nil
end

section
/-! ### the law of refusals, from its beginning -/
theorem set_bad {L : Int} {n k : Nat} {w : List Int} {y : Dt} (h : Row L w) (wl : w.length = n) (hk : k < n) (yk : y.kind.isSome = true) (hy : inB 1 L y = false ∨ ∃ z ∈ w.take k, y = .int z) : BadAt L k n (.lst ((w.map Dt.int).set k y)) := by
  refine ⟨_, w.take k, y, (w.drop (k + 1)).map Dt.int, rfl, ?_, h.take k, by rw [List.length_take]; omega, by rw [List.length_set, List.length_map, wl], yk, hy⟩
  rw [List.set_eq_take_append_cons_drop, if_pos (by rw [List.length_map]; omega), List.map_take, List.map_drop]
theorem ixN_lt2 {n k : Nat} (h : k < n) : ixN n (k : Int) = some k := by
  unfold ixN
  rw [if_pos (by omega), if_pos (by omega)]; congr 1
theorem picked {xs : List Dt} {z : Int} {P : Dt → Prop} (hz : z = xs.length) (h : ∀ x ∈ xs, P x) : ∀ r : Nat, (r : Int) < z → ∃ x, atI xs r = some x ∧ P x := fun r hr => by
  have hr : r < xs.length := by omega
  exact ix_get rfl (List.getElem?_eq_getElem hr) (h _ (List.getElem_mem hr))
/-- no whole number from 1 to n -/
def Odd1 (n : Int) (x : Dt) : Prop := x.kind.isSome = true ∧ inB 1 n x = false
theorem odd_all {n : Int} {y : Dt} (hy : Odd1 n y) (n0 : 0 ≤ n) : ∀ x ∈ [Dt.int 0, Dt.int (n + 1), Dt.bl true, Dt.non, Dt.str "1", Dt.int (-1), Dt.bl false, y], Odd1 n x := fun x hx => by
  have b : ∀ i : Int, i < 1 ∨ n < i → Odd1 n (.int i) := fun i h => ⟨rfl, by
    show (decide (1 ≤ i) && decide (i ≤ n)) = false
    rcases h with h | h
    · rw [decide_eq_false (show ¬ 1 ≤ i by omega)]; rfl
    · rw [decide_eq_false (show ¬ i ≤ n by omega), Bool.and_false]⟩
  simp only [List.mem_cons, List.not_mem_nil, or_false] at hx
  rcases hx with rfl | rfl | rfl | rfl | rfl | rfl | rfl | rfl
  · exact b _ (by omega)
  · exact b _ (by omega)
  · exact ⟨rfl, rfl⟩
  · exact ⟨rfl, rfl⟩
  · exact ⟨rfl, rfl⟩
  · exact b _ (by omega)
  · exact ⟨rfl, rfl⟩
  · exact hy
theorem odd_two {n : Int} {x : Dt} (n0 : 0 ≤ n) (g : n < 1000) (hx : x ∈ [Dt.int 0, Dt.int (n + 1), Dt.bl true, Dt.non, Dt.str "2", Dt.int (-1), Dt.bl false, Dt.int 100000000000000000000]) : Odd1 n x := by
  have b : ∀ i : Int, i < 1 ∨ n < i → Odd1 n (.int i) := fun i h => ⟨rfl, by
    show (decide (1 ≤ i) && decide (i ≤ n)) = false
    rcases h with h | h
    · rw [decide_eq_false (show ¬ 1 ≤ i by omega)]; rfl
    · rw [decide_eq_false (show ¬ i ≤ n by omega), Bool.and_false]⟩
  simp only [List.mem_cons, List.not_mem_nil, or_false] at hx
  rcases hx with rfl | rfl | rfl | rfl | rfl | rfl | rfl | rfl
  · exact b _ (by omega)
  · exact b _ (by omega)
  · exact ⟨rfl, rfl⟩
  · exact ⟨rfl, rfl⟩
  · exact ⟨rfl, rfl⟩
  · exact b _ (by omega)
  · exact ⟨rfl, rfl⟩
  · exact b _ (by omega)
theorem refused_r13 {n k m : Nat} {w : List Int} {tw bad : Dt} {sp : List Dt} {s5 : Sl} {Q : Dt → Prop} (n2 : 2 ≤ n) (n8 : n ≤ 8) (hw : Row n w) (wl : w.length = n) (kn : k < n) (mn : m + 1 < n) (ht : BadAt 40 k n tw) (hb : BadAt n k n bad) (hs : BadAt n m (n - 1) (.lst sp)) (q : Q (.bl true)) : S_law_refused_r13 ⟨fun _ => Q .non, Q, fun _ => False, fun _ => False, fun _ _ => False⟩ [.hand, .d (.int n), .d (iL w), .d (.int k), .d tw, s5, .d bad, .d (iL (w.drop 1)), .d (.int m), .own (.lst sp), .no, .no, .no, .no, .no, .no, .no] := by
  rw [S_law_refused_r13_eq]
  walk_at "wp"
  refine picked rfl fun le hle => ?_
  have le2 : Odd1 40 le := odd_two (by omega) (by omega) hle
  rw [S_law_refused_r14_eq]
  walk_at "wp"
  refine picked rfl fun me hme => ?_
  have me2 : Odd1 n me := odd_two (by omega) (by omega) hme
  rw [S_law_refused_r15_eq]
  walk_at "wp"
  refine picked rfl fun nt hnt => ?_
  have nt2 : nt.kind.isSome = true ∧ isSeq nt = false := by
    simp only [List.mem_cons, List.not_mem_nil, or_false] at hnt
    rcases hnt with rfl | rfl | rfl | rfl <;> exact ⟨rfl, rfl⟩
  rw [S_law_refused_r16_eq]
  walk_at "wp"
  have D : Drw n k m w tw bad sp le me nt := ⟨n2, n8, kn, mn, hw, wl, ht, hb, hs, le2.1, le2.2, me2.1, me2.2, nt2.1, nt2.2⟩
  first | exact refused_r17 D q | exact ⟨by decide, refused_r17 D q⟩
theorem refused_r9 {n k : Nat} {w : List Int} {tw bad : Dt} {s5 : Sl} {Q : Dt → Prop} (n2 : 2 ≤ n) (n8 : n ≤ 8) (hw : Row n w) (wl : w.length = n) (kn : k < n) (ht : BadAt 40 k n tw) (hb : BadAt n k n bad) (q : Q (.bl true)) : S_law_refused_r9 ⟨fun _ => Q .non, Q, fun _ => False, fun _ => False, fun _ _ => False⟩ [.hand, .d (.int n), .d (iL w), .d (.int k), .d tw, s5, .d bad, .no, .no, .no, .no, .no, .no, .no, .no, .no, .no] := by
  have dl : (w.drop 1).length = n - 1 := by rw [List.length_drop, wl]
  have ds : Row n (w.drop 1) := ⟨fun x hx => hw.1 x (List.mem_of_mem_drop hx), hw.2.sublist (List.drop_sublist _ _)⟩
  rw [S_law_refused_r9_eq]
  walk_at "wp"
  rw [cutG_drop (show (1 : Int) = (1 : Nat) from rfl), ← List.map_drop]
  rw [S_law_refused_r10_eq]
  walk_at "wp"
  refine ⟨by omega, fun m hm => ?_⟩
  walk_at "wp"
  rw [S_law_refused_r11_eq]
  walk_at "wp"
  rw [S_law_refused_r12_eq]
  walk_at "wp"
  refine iteQ (fun c => ?_) fun c => ?_
  · have hm1 : m - 1 < (w.drop 1).length := by omega
    refine ix_mget (n := m - 1) (by omega) (List.getElem?_eq_getElem hm1) ?_
    refine picked rfl fun x hx => ⟨m, ixN_lt2 (by omega), ?_⟩
    refine refused_r13 n2 n8 hw wl kn (by omega) ht hb ?_ q
    simp only [List.mem_cons, List.not_mem_nil, or_false] at hx
    by_cases e : x = .int (w.drop 1)[m - 1]
    · refine set_bad ds dl (by omega) (by rw [e]; rfl) (.inr ⟨_, ?_, e⟩)
      refine List.mem_of_getElem? (i := m - 1) ?_
      rw [List.getElem?_take, if_pos (by omega)]
      exact List.getElem?_eq_getElem hm1
    · have hx2 : x ∈ [Dt.int 0, Dt.int ((n : Int) + 1), Dt.bl true, Dt.non, Dt.str "1", Dt.int (-1), Dt.bl false, Dt.int 0] := by
        simp only [List.mem_cons, List.not_mem_nil, or_false]
        rcases hx with h | h | h | h | h | h | h | h
        · exact .inl h
        · exact .inr (.inl h)
        · exact .inr (.inr (.inl h))
        · exact .inr (.inr (.inr (.inl h)))
        · exact .inr (.inr (.inr (.inr (.inl h))))
        · exact .inr (.inr (.inr (.inr (.inr (.inl h)))))
        · exact .inr (.inr (.inr (.inr (.inr (.inr (.inl h))))))
        · exact absurd h e
      have o := odd_all (n := n) (y := .int 0) ⟨rfl, rfl⟩ (by omega) x hx2
      exact set_bad ds dl (by omega) o.1 (.inl o.2)
  · refine picked rfl fun x hx => ⟨m, ixN_lt2 (by omega), ?_⟩
    have o := odd_all (n := n) (y := .int 0) ⟨rfl, rfl⟩ (by omega) x hx
    exact refused_r13 n2 n8 hw wl kn (by omega) ht hb (set_bad ds dl (by omega) o.1 (.inl o.2)) q
theorem refused_r6 {n k : Nat} {w : List Int} {tw : List Dt} {Q : Dt → Prop} (n2 : 2 ≤ n) (n8 : n ≤ 8) (hw : Row n w) (wl : w.length = n) (kn : k < n) (ht : BadAt 40 k n (.lst tw)) (ht2 : BadAt n k n (.lst tw)) (q : Q (.bl true)) : S_law_refused_r6 ⟨fun _ => Q .non, Q, fun _ => False, fun _ => False, fun _ _ => False⟩ [.hand, .d (.int n), .d (iL w), .d (.int k), .own (.lst tw), .no, .no, .no, .no, .no, .no, .no, .no, .no, .no, .no, .no] := by
  rw [S_law_refused_r6_eq]
  walk_at "wp"
  rw [S_law_refused_r7_eq]
  walk_at "wp"
  refine picked rfl fun x hx => ⟨k, ixN_lt2 (by omega), ?_⟩
  have o := odd_all (n := n) (y := .tup [.int 1]) ⟨rfl, rfl⟩ (by omega) x hx
  have hb : BadAt n k n (.lst ((w.map Dt.int).set k x)) := set_bad hw wl kn o.1 (.inl o.2)
  rw [S_law_refused_r8_eq]
  walk_at "wp"
  refine picked rfl fun y hy => ?_
  rcases List.mem_cons.mp hy with rfl | hy
  · exact refused_r9 n2 n8 hw wl kn ht ht2 q
  · rw [List.mem_singleton.mp hy]
    exact refused_r9 n2 n8 hw wl kn ht hb q
theorem law_refused_ok {Q : Dt → Prop} {E : Xc → Prop} (q : Q (.bl true)) : F_law_refused [.hand] Q E := by
  rw [F_law_refused_eq]; unfold S_law_refused
  walk_at "wp"
  refine fun a ha => ?_
  obtain ⟨n, hn, n2, n8⟩ : ∃ n : Nat, (2 : Int) + a = n ∧ 2 ≤ n ∧ n ≤ 8 := ⟨2 + a, by omega, by omega, by omega⟩
  rw [hn]
  walk_at "wp"
  rw [S_law_refused_r2_eq]
  walk_at "wp"
  refine law_order_ok (by omega) fun w wl h => ?_
  walk_at "wp"
  rw [S_law_refused_r3_eq]
  walk_at "wp"
  refine ⟨by omega, fun k hk => ?_⟩
  walk_at "wp"
  rw [S_law_refused_r4_eq]
  walk_at "wp"
  rw [S_law_refused_r5_eq]
  walk_at "wp"
  have h40 : Row 40 w := h.mono (by omega)
  refine iteQ (fun c => ⟨by omega, fun j hj => ?_⟩) fun c => ⟨k, ixN_lt2 (by omega), ?_⟩
  · have hj1 : j < w.length := by omega
    refine ix_mget (n := j) rfl (List.getElem?_eq_getElem hj1) ⟨k, ixN_lt2 (by omega), ?_⟩
    have m : w[j] ∈ w.take k := List.mem_of_getElem? (i := j) (by rw [List.getElem?_take, if_pos (by omega)]; exact List.getElem?_eq_getElem hj1)
    exact refused_r6 n2 n8 h wl (by omega) (set_bad h40 wl (by omega) rfl (.inr ⟨_, m, rfl⟩)) (set_bad h wl (by omega) rfl (.inr ⟨_, m, rfl⟩)) q
  · exact refused_r6 n2 n8 h wl (by omega) (set_bad h40 wl (by omega) rfl (.inl rfl)) (set_bad h wl (by omega) rfl (.inl rfl)) q
theorem goal : Goal := by
  unfold Goal LawGoal S_law
  walk_at "wp"
  refine law_turned_right_ok ?_
  walk_at "wp"
  refine law_any_right_ok ?_
  walk_at "wp"
  refine law_places_right_ok ?_
  walk_at "wp"
  rw [S_law_r4_eq]
  walk_at "wp"
  refine law_moves_right_ok ?_
  walk_at "wp"
  exact law_refused_ok rfl
end

end Mine
namespace Mine
open PySem PySem.Spec PyProof.Rows L2
local macro_rules | `(tactic| walk_at "rd") => `(tactic| try simp only [tMk1, iEnumA, iSeq, tPar3, tAugS, ipI, rRepA, rIxA, tCallSD, rExtend, tDNewK, iZipS, tXf, tSeq, tAsg, tCB, tCons, tNil, tVar, tOp, tUn, rI, rI0, rU, gName, gNil, gCons, gSub, rSetL, tC, tRet, tRetN, tNext, tIfS, tTest, tB, tAnd, tOr, tNot, tAndV, tOrV, tNotV, tIf,
  tDrop, tCall, tCallS, tPar, tAug, ipI, tBreak, tCont, tTup, tLst, rEq_int, rNe_int, rEq_bl, rNe_bl, rEq_str, rNe_str, HO.lst.injEq, HO.tup.injEq, Bool.not_eq_true', decide_eq_false_iff_not, rIxH, rIxTH, rCat, tSl, tPart, tNoPart, tBM, rAppend, L2.start, tFor_eq, tLc_eq, iList, iTup, iRng1, iRng2, iEnum, iZip, cx_K, cx_prog, cx_w, cx_nK, forall_const, tYes, wipe, List.foldl_cons, List.foldl_nil, and_assoc, List.map_cons, List.map_nil, List.length_cons, List.length_nil, List.replicate, List.append_nil, List.cons_append, List.nil_append,
  List.getElem?_cons_zero, List.getElem?_cons_succ, List.set_cons_zero, List.set_cons_succ, Nat.zero_add, Nat.add_zero, Nat.reduceAdd, Nat.reduceSub, Option.some.injEq, V.int.injEq, V.bl.injEq, V.ref.injEq, V.str.injEq,
  List.cons.injEq, and_true, true_and, exists_eq_left, exists_eq_left', exists_eq_right, exists_const, exists_eq, exists_and_left, exists_and_right, upd_same, upd_upd, atI_0, atI_1, atI_2, atI_3, ixN_4_0, ixN_4_1, ixN_4_2, ixN_4_3, some_lst, some_tup, decide_eq_true_eq, reduceCtorEq,
  V.int.injEq, Bool.true_eq_false, Bool.false_eq_true, if_true, if_false, ite_true, ite_false, eq_self, not_true_eq_false, not_false_eq_true, decide_true, decide_false, Bool.not_true, Bool.not_false, false_and, and_false, exists_false])
local macro_rules | `(tactic| walk_at "mono") => `(tactic| repeat (first | with_reducible exact mon_var _ | with_reducible exact mon_c _ | with_reducible exact mon_rI _ _ | with_reducible exact mon_rI0 _ | with_reducible exact mon_rEq | with_reducible exact mon_rNe | with_reducible refine mon_test ?_ | with_reducible refine mon_op ?_ ?_ ?_ | with_reducible refine mon_and ?_ ?_ | with_reducible refine mon_or ?_ ?_ | with_reducible exact mon_rU _ | with_reducible refine mon_un ?_ ?_))
local macro_rules | `(tactic| walk_at "sd") => `(tactic| first | assumption | omega | (unfold CMul; omega) | (unfold CDiv; omega) | rfl | decide)
local macro_rules | `(tactic| walk_at "go") => `(tactic| repeat (refine And.intro (by first | assumption | omega | exact tyL (by assumption) | (unfold CMul; omega) | (unfold CDiv; omega) | rfl | decide) ?_))
theorem ok_law_hand {P : Program} {w : World} {K : PySem.W.Frag} {mg : Str → Option Value} {base : Heap} (T : Txt K mg) : ∃ fd, FnOk P w K mg base CX0 1 (He.ga K "_law_hand") fd P_law_hand (sp_hand K) ∧ D_law_hand K (He.ga K "_law_hand") fd := by
  obtain ⟨fd, F⟩ := T.F_law_hand
  refine ⟨fd, F.ok sc_law_hand (fun vs H Q E h => ?_) (fun cdv A outer s H vs Q E hr h => ?_), F⟩
  · obtain ⟨a, ns, rfl, _⟩ := h
    rfl
  ·
    obtain ⟨a, ns, rfl, hS, hl, q⟩ := h
    refine ⟨_, PSs.nox (pss_cons (ps_set (i := 1) sc_law_hand.nd rfl (by first | exact Or.inl rfl | exact Or.inr rfl) (pe_op op_add (pe_callB call_len_seq (by rfl) T.z_len (by decide +kernel) (pa_cons (pv 0) pa_nil)) pe_int))
    (pss_cons (ps_set (i := 2) sc_law_hand.nd rfl (by first | exact Or.inl rfl | exact Or.inr rfl) (pe_lst pa_nil))
    (pss_cons (ps_for PassesOwn.never rfl (pi_list (pv 0)) (pg_name (i := 3) sc_law_hand.nd rfl (by first | exact Or.inl rfl | exact Or.inr rfl))
    (pss_cons (ps_set (i := 1) sc_law_hand.nd rfl (by first | exact Or.inl rfl | exact Or.inr rfl) (pe_op op_mod (pe_callTy call_intI (by rfl) T.z_int (by decide +kernel) (pa_cons (pe_op op_add (pe_op op_mul (pv 1) pe_int) (pe_callTy call_intI (by rfl) T.z_int (by decide +kernel) (pa_cons (pv 3) pa_nil))) pa_nil)) pe_int))
    (pss_one (ps_expr (pe_bm PySem.F.plainAttrs_list PySem.F.slot_list_append PySem.F.type_list_append mt_append (pv 2) (pa_cons (pe_callB call_abs (by rfl) T.z_abs (by decide +kernel) (pa_cons (pe_callTy call_intI (by rfl) T.z_int (by decide +kernel) (pa_cons (pv 3) pa_nil)) pa_nil)) pa_nil))))))
    (pss_one (ps_ret (pe_lst (pa_cons (pv 2) (pa_cons pe_int (pa_cons pe_int (pa_cons (pv 1) pa_nil)))))))))), ?_⟩
    walk_at "rd"
    refine ⟨ns.map V.int, .inl hS, by decide, fun c hc => ⟨⟨_, (same_upd hc).seq hS⟩, ?_⟩⟩
    refine Loop.by (walk_list (xs := ns.map V.int)) (i_hand H a c) ⟨_, none, [], rfl, rfl, upd_same, by simp, same_upd hc, by omega, by rw [List.length_map]; omega⟩
      (fun i σ H' _ ⟨_, _, _, _, _, _, _, sm, _⟩ => sm.seq hS) ?_ ?_
    · rintro i x σ H' H'' hi ⟨tot, v3, cells, rfl, hz, hc', hp, sm, h0, h1⟩ ⟨rfl, hx⟩
      rw [List.length_map] at hi
      rw [List.getElem?_map, List.getElem?_eq_getElem hi] at hx
      obtain rfl := Option.some.inj hx
      walk_at "rd"
      walk_at "go"
      refine ⟨_, hc', by rw [List.length_map]; exact small1000 (by omega), _, _, cells ++ [if ns[i] < 0 then -ns[i] else ns[i]], rfl, by simp [hz], by rw [upd_same, List.map_append]; rfl, ?_, ?_, by omega, by omega⟩
      · intro z hz
        rcases List.mem_append.mp hz with h | h
        · exact hp z h
        · rw [List.mem_singleton] at h; rw [h]; split <;> omega
      · intro b o e
        rw [upd_ne (ne_of_none e hc)]; exact sm b o e
    · rintro σ H' ⟨tot, v3, cells, rfl, hz, hc', hp, sm, h0, h1⟩
      walk_at "rd"
      rw [List.length_map] at hz
      refine ⟨by decide, fun p hp' => q _ p (sm.trans (same_upd hp')) (sm.free hp') ⟨c, cells, 0, 0, tot, upd_same, ?_, hp, by omega, by omega, by omega, h0, h1⟩⟩
      rw [upd_ne (ne_of_none hc' hp')]; exact hc'
end Mine

namespace Mine
open PySem PySem.Spec PyProof.Rows L2
local macro_rules | `(tactic| walk_at "rd") => `(tactic| try simp only [tMk1, iEnumA, iSeq, tPar3, tAugS, ipI, rRepA, rIxA, tCallSD, rExtend, tDNewK, iZipS, tXf, tSeq, tAsg, tCB, tCons, tNil, tVar, tOp, tUn, rI, rI0, rU, gName, gNil, gCons, gSub, rSetL, tC, tRet, tRetN, tNext, tIfS, tTest, tB, tAnd, tOr, tNot, tAndV, tOrV, tNotV, tIf,
  tDrop, tCall, tCallS, tPar, tAug, ipI, tBreak, tCont, tTup, tLst, rEq_int, rNe_int, rEq_bl, rNe_bl, rEq_str, rNe_str, HO.lst.injEq, HO.tup.injEq, Bool.not_eq_true', decide_eq_false_iff_not, rIxH, rIxTH, rCat, tSl, tPart, tNoPart, tBM, rAppend, L2.start, tFor_eq, tLc_eq, iList, iTup, iRng1, iRng2, iEnum, iZip, cx_K, cx_prog, cx_w, cx_nK, forall_const, tYes, wipe, List.foldl_cons, List.foldl_nil, and_assoc, List.map_cons, List.map_nil, List.length_cons, List.length_nil, List.replicate, List.append_nil, List.cons_append, List.nil_append,
  List.getElem?_cons_zero, List.getElem?_cons_succ, List.set_cons_zero, List.set_cons_succ, Nat.zero_add, Nat.add_zero, Nat.reduceAdd, Nat.reduceSub, Option.some.injEq, V.int.injEq, V.bl.injEq, V.ref.injEq, V.str.injEq,
  List.cons.injEq, and_true, true_and, exists_eq_left, exists_eq_left', exists_eq_right, exists_const, exists_eq, exists_and_left, exists_and_right, upd_same, upd_upd, atI_0, atI_1, atI_2, atI_3, ixN_4_0, ixN_4_1, ixN_4_2, ixN_4_3, some_lst, some_tup, decide_eq_true_eq, reduceCtorEq,
  V.int.injEq, Bool.true_eq_false, Bool.false_eq_true, if_true, if_false, ite_true, ite_false, eq_self, not_true_eq_false, not_false_eq_true, decide_true, decide_false, Bool.not_true, Bool.not_false, false_and, and_false, exists_false])
local macro_rules | `(tactic| walk_at "mono") => `(tactic| repeat (first | with_reducible exact mon_var _ | with_reducible exact mon_c _ | with_reducible exact mon_rI _ _ | with_reducible exact mon_rI0 _ | with_reducible exact mon_rEq | with_reducible exact mon_rNe | with_reducible refine mon_test ?_ | with_reducible refine mon_op ?_ ?_ ?_ | with_reducible refine mon_and ?_ ?_ | with_reducible refine mon_or ?_ ?_ | with_reducible exact mon_rU _ | with_reducible refine mon_un ?_ ?_))
local macro_rules | `(tactic| walk_at "sd") => `(tactic| first | assumption | omega | (unfold CMul; omega) | (unfold CDiv; omega) | rfl | decide)
local macro_rules | `(tactic| walk_at "go") => `(tactic| repeat (refine And.intro (by first | assumption | omega | exact tyL (by assumption) | (unfold CMul; omega) | (unfold CDiv; omega) | rfl | decide) ?_))
theorem ok_law_mixed {P : Program} {w : World} {K : PySem.W.Frag} {mg : Str → Option Value} {base : Heap} (T : Txt K mg) : ∃ fd, FnOk P w K mg base CX0 1 (He.ga K "_law_mixed") fd P_law_mixed sp_mixed ∧ D_law_mixed K (He.ga K "_law_mixed") fd := by
  obtain ⟨fd, F⟩ := T.F_law_mixed
  refine ⟨fd, F.ok sc_law_mixed (fun vs H Q E h => ?_) (fun cdv A outer s H vs Q E hr h => ?_), F⟩
  · obtain ⟨n, t, rfl, _⟩ := h
    rfl
  ·
    obtain ⟨n, t, rfl, ⟨h1, h2, h3, h4⟩, q⟩ := h
    refine ⟨_, PSs.nox (pss_cons (ps_set (i := 2) sc_law_mixed.nd rfl (by first | exact Or.inl rfl | exact Or.inr rfl) (pe_op op_mod (pe_callTy call_intI (by rfl) T.z_int (by decide +kernel) (pa_cons (pe_op op_add (pe_op op_add (pe_op op_mul (pv 0) pe_int) (pe_op op_mul (pv 1) pe_int)) pe_int) pa_nil)) pe_int))
    (pss_cons (ps_set (i := 3) sc_law_mixed.nd rfl (by first | exact Or.inl rfl | exact Or.inr rfl) (pe_op op_mod (pe_callTy call_intI (by rfl) T.z_int (by decide +kernel) (pa_cons (pe_op op_add (pe_op op_add (pe_op op_mul (pv 2) (pv 2)) (pe_op op_mul (pv 1) pe_int)) (pe_op op_fdiv (pv 2) pe_int)) pa_nil)) pe_int))
    (pss_one (ps_ret (pe_op op_fdiv (pe_callTy call_intI (by rfl) T.z_int (by decide +kernel) (pa_cons (pe_op op_mod (pe_callTy call_intI (by rfl) T.z_int (by decide +kernel) (pa_cons (pe_op op_add (pe_op op_mul (pv 3) pe_int) (pe_op op_fdiv (pv 2) pe_int)) pa_nil)) pe_int) pa_nil)) pe_int))))), ?_⟩
    walk_at "rd"
    walk_at "go"
    exact q _ (mixedN_pos n t)
end Mine

namespace Mine
open PySem PySem.Spec PyProof.Rows L2
local macro_rules | `(tactic| walk_at "rd") => `(tactic| try simp only [tMk1, iEnumA, iSeq, tPar3, tAugS, ipI, rRepA, rIxA, tCallSD, rExtend, tDNewK, iZipS, tXf, tSeq, tAsg, tCB, tCons, tNil, tVar, tOp, tUn, rI, rI0, rU, gName, gNil, gCons, gSub, rSetL, tC, tRet, tRetN, tNext, tIfS, tTest, tB, tAnd, tOr, tNot, tAndV, tOrV, tNotV, tIf,
  tDrop, tCall, tCallS, tPar, tAug, ipI, tBreak, tCont, tTup, tLst, rEq_int, rNe_int, rEq_bl, rNe_bl, rEq_str, rNe_str, HO.lst.injEq, HO.tup.injEq, Bool.not_eq_true', decide_eq_false_iff_not, rIxH, rIxTH, rCat, tSl, tPart, tNoPart, tBM, rAppend, L2.start, tFor_eq, tLc_eq, iList, iTup, iRng1, iRng2, iEnum, iZip, cx_K, cx_prog, cx_w, cx_nK, forall_const, tYes, wipe, List.foldl_cons, List.foldl_nil, and_assoc, List.map_cons, List.map_nil, List.length_cons, List.length_nil, List.replicate, List.append_nil, List.cons_append, List.nil_append,
  List.getElem?_cons_zero, List.getElem?_cons_succ, List.set_cons_zero, List.set_cons_succ, Nat.zero_add, Nat.add_zero, Nat.reduceAdd, Nat.reduceSub, Option.some.injEq, V.int.injEq, V.bl.injEq, V.ref.injEq, V.str.injEq,
  List.cons.injEq, and_true, true_and, exists_eq_left, exists_eq_left', exists_eq_right, exists_const, exists_eq, exists_and_left, exists_and_right, upd_same, upd_upd, atI_0, atI_1, atI_2, atI_3, ixN_4_0, ixN_4_1, ixN_4_2, ixN_4_3, some_lst, some_tup, decide_eq_true_eq, reduceCtorEq,
  V.int.injEq, Bool.true_eq_false, Bool.false_eq_true, if_true, if_false, ite_true, ite_false, eq_self, not_true_eq_false, not_false_eq_true, decide_true, decide_false, Bool.not_true, Bool.not_false, false_and, and_false, exists_false])
local macro_rules | `(tactic| walk_at "mono") => `(tactic| repeat (first | with_reducible exact mon_var _ | with_reducible exact mon_c _ | with_reducible exact mon_rI _ _ | with_reducible exact mon_rI0 _ | with_reducible exact mon_rEq | with_reducible exact mon_rNe | with_reducible refine mon_test ?_ | with_reducible refine mon_op ?_ ?_ ?_ | with_reducible refine mon_and ?_ ?_ | with_reducible refine mon_or ?_ ?_ | with_reducible exact mon_rU _ | with_reducible refine mon_un ?_ ?_))
local macro_rules | `(tactic| walk_at "sd") => `(tactic| first | assumption | omega | (unfold CMul; omega) | (unfold CDiv; omega) | rfl | decide)
local macro_rules | `(tactic| walk_at "go") => `(tactic| repeat (refine And.intro (by first | assumption | omega | exact tyL (by assumption) | (unfold CMul; omega) | (unfold CDiv; omega) | rfl | decide) ?_))
theorem ok_law_take {P : Program} {w : World} {K : PySem.W.Frag} {mg : Str → Option Value} {base : Heap} (T : Txt K mg) : ∃ fd, FnOk P w K mg base CX0 2 (He.ga K "_law_take") fd P_law_take (spD K F_law_take) ∧ D_law_take K (He.ga K "_law_take") fd := by
  obtain ⟨fd, F⟩ := T.F_law_take
  obtain ⟨fd_law_mixed, G_law_mixed, D_law_mixed⟩ := ok_law_mixed (P := P) (w := w) (base := base) T
  have k_law_mixed := D_law_mixed.kp
  have b_law_mixed := bd_law_mixed D_law_mixed
  refine ⟨fd, F.ok sc_law_take (fun vs H Q E h => ?_) (fun cdv A outer s H vs Q E hr h => ?_), F⟩
  · obtain ⟨h, m, rfl, _⟩ := take_spD _ _ _ _ h -- := h
    rfl
  ·
    replace h := take_spD _ _ _ _ h
    obtain ⟨h, m, rfl, ⟨c, cells, at_, big, mix, hH, hC, hp, ha, hl, hb, hm, hm2⟩, h1, h2, q⟩ := h
    have wd : CDivW big m := wide_div (b := 256) h1 (by rw [show (2 : Nat) ^ 256 = 115792089237316195423570985008687907853269984665640564039457584007913129639936 by decide +kernel]; omega) (by decide) (by decide)
    have hc : c ≠ h := ne_of hC hH (by
      intro z
      cases cells with
      | nil => cases z
      | cons x r => cases z)
    have k : ∀ xs, upd H h (.lst xs) c = some (.lst (cells.map V.int)) := fun xs => by rw [upd_ne hc]; exact hC
    have key : ∀ (ai : Int) (a2 : Nat) (b2 m2 : Int), ai = a2 → a2 ≤ cells.length → 0 ≤ b2 → 0 ≤ m2 → m2 < 2147483563 → HandN H h (.lst [.ref c, .int ai, .int b2, .int m2]) :=
      fun ai a2 b2 m2 e x1 x2 x3 x4 => ⟨⟨c, cells, a2, b2, m2, by rw [upd_same, e], k _, hp, x1, hl, x2, x3, x4⟩, c, _, _, hH, rfl⟩
    have emod : ∀ z : Int, 0 ≤ z % m ∧ z % m < m := fun z => ⟨Int.emod_nonneg _ (by omega), Int.emod_lt_of_pos _ h1⟩
    have ediv : ∀ z : Int, 0 ≤ z → 0 ≤ z / m := fun z hz => Int.ediv_nonneg hz (by omega)
    have fresh : ∀ (ai : Int) (a2 : Nat) (b2 : Int), ai = a2 → a2 ≤ cells.length → 0 ≤ b2 → (0 : Int) < 2147483549 ∧ sp_mixed [V.int ((mix + 1) % 2147483549), V.int ai] (upd H h (.lst [.ref c, .int ai, .int b2, .int ((mix + 1) % 2147483549)]))
        (fun x H1 => ∃ i, x = V.int i ∧ 0 < m ∧ Q (V.int (i % m)) H1) E0 := fun ai a2 b2 e x1 x2 => by
      refine ⟨by decide, _, _, rfl, by omega, fun r hr => ⟨r, rfl, h1, q _ _ (emod r).1 (emod r).2 (key ai a2 b2 _ e x1 x2 (by omega) (by omega))⟩⟩
    refine ⟨_, PSs.nox (pss_cons (ps_if (PW.pt (pw_and (pt_cmpR op_eq (pe_ix ix_H (pv 0) pe_int (fun _ _ => rfl)) pe_int (nomark _)) (pw_and1 (pt_cmpR op_lt (pe_ix ix_H (pv 0) pe_int (fun _ _ => rfl)) (pe_callB call_lenL (by rfl) T.z_len (by decide +kernel) (pa_cons (pe_ix ix_H (pv 0) pe_int (fun _ _ => rfl)) pa_nil)) (nomark _)))))
    (pss_cons (ps_set (i := 2) sc_law_take.nd rfl (by first | exact Or.inl rfl | exact Or.inr rfl) (pe_ix ix_H (pe_ix ix_H (pv 0) pe_int (fun _ _ => rfl)) (pe_ix ix_H (pv 0) pe_int (fun _ _ => rfl)) (fun _ _ => rfl)))
    (pss_cons (ps_asg (pe_op op_add (pe_ix ix_H (pv 0) pe_int (fun _ _ => rfl)) pe_int) (pg_sub (pv 0) pe_int set_list))
    (pss_cons (ps_if (pt_cmpR op_lt (pv 2) (pe_op op_pow pe_int pe_int) (nomark _))
    (pss_one (ps_ret (pe_op op_mod (pe_callTy call_intI (by rfl) T.z_int (by decide +kernel) (pa_cons (pe_call G_law_mixed (hr.mono (by decide)) rfl T.g__law_mixed k_law_mixed b_law_mixed .nil pass0 (pa_cons (pe_op op_mod (pe_callTy call_intI (by rfl) T.z_int (by decide +kernel) (pa_cons (pv 2) pa_nil)) pe_int) (pa_cons (pe_ix ix_H (pv 0) pe_int (fun _ _ => rfl)) pa_nil))) pa_nil)) (pv 1))))
    pss_nil)
    (pss_one (ps_asg (pv 2) (pg_sub (pv 0) pe_int set_list))))))
    pss_nil)
    (pss_cons (ps_if (pt_cmpR op_gt (pe_ix ix_H (pv 0) pe_int (fun _ _ => rfl)) pe_int (nomark _))
    (pss_cons (ps_set (i := 3) sc_law_take.nd rfl (by first | exact Or.inl rfl | exact Or.inr rfl) (pe_ix ix_H (pv 0) pe_int (fun _ _ => rfl)))
    (pss_cons (ps_asg (pe_op op_fdivW (pe_callTy call_intI (by rfl) T.z_int (by decide +kernel) (pa_cons (pv 3) pa_nil)) (pv 1)) (pg_sub (pv 0) pe_int set_list))
    (pss_one (ps_ret (pe_op op_mod (pe_callTy call_intI (by rfl) T.z_int (by decide +kernel) (pa_cons (pv 3) pa_nil)) (pv 1))))))
    pss_nil)
    (pss_cons (ps_asg (pe_op op_mod (pe_callTy call_intI (by rfl) T.z_int (by decide +kernel) (pa_cons (pe_op op_add (pe_ix ix_H (pv 0) pe_int (fun _ _ => rfl)) pe_int) pa_nil)) pe_int) (pg_sub (pv 0) pe_int set_list))
    (pss_one (ps_ret (pe_op op_mod (pe_callTy call_intI (by rfl) T.z_int (by decide +kernel) (pa_cons (pe_call G_law_mixed (hr.mono (by decide)) rfl T.g__law_mixed k_law_mixed b_law_mixed .nil pass0 (pa_cons (pe_ix ix_H (pv 0) pe_int (fun _ _ => rfl)) (pa_cons (pe_ix ix_H (pv 0) pe_int (fun _ _ => rfl)) pa_nil))) pa_nil)) (pv 1))))))), ?_⟩
    simp only [tMk1, iEnumA, iSeq, tPar3, tAugS, ipI, rRepA, rIxA, tCallSD, rExtend, tDNewK, iZipS, tXf, tSeq, tAsg, tCB, tCons, tNil, tVar, tOp, tUn, rI, rI0, rU, gName, gNil, gCons, gSub, rSetL, tC, tRet, tRetN, tNext, tIfS, tTest, tB, tAnd, tOr, tNot, tAndV, tOrV, tNotV, tIf,
  tDrop, tCall, tCallS, tPar, tAug, ipI, tBreak, tCont, tTup, tLst, rEq_int, rNe_int, rEq_bl, rNe_bl, rEq_str, rNe_str, HO.lst.injEq, HO.tup.injEq, Bool.not_eq_true', decide_eq_false_iff_not, rIxH, rIxTH, rCat, tSl, tPart, tNoPart, tBM, rAppend, L2.start, tFor_eq, tLc_eq, iList, iTup, iRng1, iRng2, iEnum, iZip, cx_K, cx_prog, cx_w, cx_nK, forall_const, tYes, wipe, List.foldl_cons, List.foldl_nil, and_assoc, List.map_cons, List.map_nil, List.length_cons, List.length_nil, List.replicate, List.append_nil, List.cons_append, List.nil_append,
  List.getElem?_cons_zero, List.getElem?_cons_succ, List.set_cons_zero, List.set_cons_succ, Nat.zero_add, Nat.add_zero, Nat.reduceAdd, Nat.reduceSub, Option.some.injEq, V.int.injEq, V.bl.injEq, V.ref.injEq, V.str.injEq,
  List.cons.injEq, and_true, true_and, exists_eq_left, exists_eq_left', exists_eq_right, exists_const, exists_eq, exists_and_left, exists_and_right, upd_same, upd_upd, atI_0, atI_1, atI_2, atI_3, ixN_4_0, ixN_4_1, ixN_4_2, ixN_4_3, some_lst, some_tup, decide_eq_true_eq, reduceCtorEq,
  V.int.injEq, Bool.true_eq_false, Bool.false_eq_true, if_true, if_false, ite_true, ite_false, eq_self, not_true_eq_false, not_false_eq_true, decide_true, decide_false, Bool.not_true, Bool.not_false, false_and, and_false, exists_false, hH, hC]
    have old : if 0 < big then CDivW big m ∧ 0 < m ∧ Q (V.int (big % m)) (upd H h (HO.lst [V.ref c, V.int ↑at_, V.int (big / m), V.int mix]))
        else (0 : Int) < 2147483549 ∧ sp_mixed [V.int ((mix + 1) % 2147483549), V.int ↑at_] (upd H h (HO.lst [V.ref c, V.int ↑at_, V.int big, V.int ((mix + 1) % 2147483549)])) (fun x H1 => ∃ i, x = V.int i ∧ 0 < m ∧ Q (V.int (i % m)) H1) E0 :=
      ite2 (fun _ => ⟨wd, h1, q _ _ (emod big).1 (emod big).2 (key _ at_ _ _ rfl ha (ediv _ hb) hm hm2)⟩) (fun _ => fresh _ at_ _ rfl ha hb)
    refine ite2 (fun _ => ite2 (fun e => ?_) (fun _ => old)) (fun _ => old)
    have hlt : at_ < cells.length := by rw [List.length_map] at e; omega
    have hz := hp cells[at_] (List.getElem_mem hlt)
    refine ⟨.int cells[at_], atI_nat (by rw [List.getElem?_map, List.getElem?_eq_getElem hlt]; rfl), ⟨by decide, by decide, by decide⟩, _, rfl, ite2 (fun e2 => ?_) (fun e2 => ?_)⟩
    · refine ⟨_, rfl, by decide, _, _, rfl, by omega, fun r hr => ⟨r, rfl, h1, q _ _ (emod r).1 (emod r).2 (key _ (at_ + 1) _ _ (by omega) (by omega) hb hm hm2)⟩⟩
    · refine ⟨_, rfl, ite2 (fun e3 => ?_) (fun e3 => fresh _ (at_ + 1) _ (by omega) (by omega) hz)⟩
      exact ⟨_, rfl, wd, _, rfl, h1, q _ _ (emod _).1 (emod _).2 (key _ (at_ + 1) _ _ (by omega) (by omega) (ediv _ hz) hm hm2)⟩
end Mine

namespace Mine
open PySem PySem.Spec PyProof.Rows L2
theorem ok_law_length {P : Program} {w : World} {K : PySem.W.Frag} {mg : Str → Option Value} {base : Heap} (T : Txt K mg) : ∃ fd, FnOk P w K mg base CX0 3 (He.ga K "_law_length") fd P_law_length (spD K F_law_length) ∧ D_law_length K (He.ga K "_law_length") fd := by
  obtain ⟨fd, F⟩ := T.F_law_length
  obtain ⟨fd_law_take, G_law_take, D_law_take⟩ := ok_law_take (P := P) (w := w) (base := base) T
  have k_law_take := D_law_take.kp
  have b_law_take := bd_law_take D_law_take
  refine ⟨fd, F.ok sc_law_length (fun vs H Q E h => ?_) (fun cdv A outer s H vs Q E hr h => ?_), F⟩
  · rw [F_law_length_eq] at h
    exact spD_len (np := 1) (fun _ _ _ h => h.1) vs H Q E h
  · rw [F_law_length_eq] at h
    refine ⟨_, PSs.nox (pss_one (ps_ret (pe_ifExp (pt_cmpR (op_eqU rfl hr.units) (pe_call G_law_take (hr.mono (by decide)) rfl T.g__law_take k_law_take b_law_take .nil pass0 (pa_cons (pv 0) (pa_cons pe_int pa_nil))) pe_int (by first | exact nomark _ | rfl)) (pe_op (op_addU rfl) pe_int (pe_call G_law_take (hr.mono (by decide)) rfl T.g__law_take k_law_take b_law_take .nil pass0 (pa_cons (pv 0) (pa_cons pe_int pa_nil)))) (pe_op (op_addU rfl) pe_int (pe_call G_law_take (hr.mono (by decide)) rfl T.g__law_take k_law_take b_law_take .nil pass0 (pa_cons (pv 0) (pa_cons pe_int pa_nil))))))), ?_⟩
    exact body_of0 rfl h fun X hd => (dst_ret (dg_if (dt_test (dg_op od_eq (DEg.bor (de_call0 dv_nil (ds_hand (i := 0) (ds_cons (de_int 6) ds_nil)))) (DEg.bor (de_int 0)))) (dg_op od_add (DEg.bor (de_int 1)) (DEg.bor (de_call0 dv_nil (ds_hand (i := 0) (ds_cons (de_int 40) ds_nil))))) (dg_op od_add (DEg.bor (de_int 1)) (DEg.bor (de_call0 dv_nil (ds_hand (i := 0) (ds_cons (de_int 8) ds_nil)))))))
end Mine

namespace Mine
open PySem PySem.Spec PyProof.Rows L2
theorem ok_law_order {P : Program} {w : World} {K : PySem.W.Frag} {mg : Str → Option Value} {base : Heap} (T : Txt K mg) : ∃ fd, FnOk P w K mg base CX0 3 (He.ga K "_law_order") fd P_law_order (spD K F_law_order) ∧ D_law_order K (He.ga K "_law_order") fd := by
  obtain ⟨fd, F⟩ := T.F_law_order
  obtain ⟨fd_law_take, G_law_take, D_law_take⟩ := ok_law_take (P := P) (w := w) (base := base) T
  have k_law_take := D_law_take.kp
  have b_law_take := bd_law_take D_law_take
  refine ⟨fd, F.ok sc_law_order (fun vs H Q E h => ?_) (fun cdv A outer s H vs Q E hr h => ?_), F⟩
  · rw [F_law_order_eq] at h
    exact spD_len (np := 2) (fun _ _ _ h => h.1) vs H Q E h
  · rw [F_law_order_eq] at h
    refine ⟨_, PSs.nox (pss_cons (ps_set (i := 2) sc_law_order.nd rfl (by first | exact Or.inl rfl | exact Or.inr rfl) (pe_listRg rfl rfl T.z_list (prg_2 rfl T.z_range pe_int (pe_op (op_addU rfl) (pv 1) pe_int))))
    (pss_cons (ps_set (i := 3) sc_law_order.nd rfl (by first | exact Or.inl rfl | exact Or.inr rfl) (pe_lst pa_nil))
    (pss_cons (ps_for PassesOwn.never rfl (pi_range1 (by rfl) T.z_range (pa_cons (pv 1) pa_nil)) (pg_name (i := 4) sc_law_order.nd rfl (by first | exact Or.inl rfl | exact Or.inr rfl))
    (pss_one (ps_expr (pe_bm PySem.F.plainAttrs_list PySem.F.slot_list_append PySem.F.type_list_append mt_append (pv 3) (pa_cons (pe_bm PySem.F.plainAttrs_list PySem.F.slot_list_pop PySem.F.type_list_pop mt_popAt (pv 2) (pa_cons (pe_call G_law_take (hr.mono (by decide)) rfl T.g__law_take k_law_take b_law_take .nil pass0 (pa_cons (pv 0) (pa_cons (pe_callB (call_lenU (K := K) rfl) (by rfl) T.z_len (by decide +kernel) (pa_cons (pv 2) pa_nil)) pa_nil))) pa_nil)) pa_nil)))))
    (pss_one (ps_ret (pe_callTy (call_tupU (K := K) rfl) (by rfl) T.z_tuple (by decide +kernel) (pa_cons (pv 3) pa_nil))))))), ?_⟩
    exact body_of0 rfl h fun X hd => (dst_seq (dst_own (df_listRg (de_int 1) (dg_op od_add (db_var 1) (DEg.bor (de_int 1)))))
    (dst_seq (dst_own (df_lst da_nil))
    (dst_seq (dst_for (di_rng1 (db_cons (db_var 1) db_nil)) (dg_name 4)
    (dst_appPop (by decide) (de_call0 dv_nil (ds_hand (i := 0) (ds_cons (dg_cb cg_len (db_cons (db_var 2) db_nil)) ds_nil)))))
    (dst_ret (dg_cb cg_tup (db_cons (db_var 3) db_nil))))))
end Mine

namespace Mine
open PySem PySem.Spec PyProof.Rows L2
theorem ok_law_without {P : Program} {w : World} {K : PySem.W.Frag} {mg : Str → Option Value} {base : Heap} (T : Txt K mg) : ∃ fd, FnOk P w K mg base CX0 1 (He.ga K "_law_without") fd P_law_without (spD K F_law_without) ∧ D_law_without K (He.ga K "_law_without") fd := by
  obtain ⟨fd, F⟩ := T.F_law_without
  refine ⟨fd, F.ok sc_law_without (fun vs H Q E h => ?_) (fun cdv A outer s H vs Q E hr h => ?_), F⟩
  · rw [F_law_without_eq] at h
    exact spD_len (np := 2) (fun _ _ _ h => h.1) vs H Q E h
  · rw [F_law_without_eq] at h
    refine ⟨_, PSs.nox (pss_one (ps_ret (pe_callTy (call_tupU (K := K) rfl) (by rfl) T.z_tuple (by decide +kernel) (pa_cons (pe_lc (own := [("_law_x", 2)]) rfl sc_law_without.nd (pi_seq (pv 0)) (blkOk_by (own := [("_law_x", 2)]) (N := N_law_without) (sc := defScope s_law_without) (by decide +kernel)) (fun _ _ _ _ _ => (pg_name (i := 2) sc_law_without.nd rfl (by first | exact Or.inl rfl | exact Or.inr rfl))) (fun _ _ _ _ _ => (pts_one (pt_cmpR (op_neU rfl hr.units) (pv 2) (pv 1) (by first | exact nomark _ | rfl)))) (fun _ _ _ _ _ => (pv 2))) pa_nil)))), ?_⟩
    exact body_of0 rfl h fun X hd => (dst_ret (dg_cb cg_tup (db_cons (DEg.bor (DEg.cln (df_lc (di_seq (R := Bor) (db_var 0)) (dg_name 2) (dt_test (dg_op od_ne (db_var 2) (db_var 1))) (de_var 2)))) db_nil)))
end Mine

namespace Mine
open PySem PySem.Spec PyProof.Rows L2
theorem ok_lacking {P : Program} {w : World} {K : PySem.W.Frag} {mg : Str → Option Value} {base : Heap} (T : Txt K mg) : ∃ fd, FnOk P w K mg base CX0 1 (He.ga K "_lacking") fd P_lacking (spD K F_lacking) ∧ D_lacking K (He.ga K "_lacking") fd := by
  obtain ⟨fd, F⟩ := T.F_lacking
  refine ⟨fd, F.ok sc_lacking (fun vs H Q E h => ?_) (fun cdv A outer s H vs Q E hr h => ?_), F⟩
  · rw [F_lacking_eq] at h
    exact spD_len (np := 2) (fun _ _ _ h => h.1) vs H Q E h
  · rw [F_lacking_eq] at h
    refine ⟨_, PSs.nox (pss_one (ps_ret (pe_op op_sub (pe_op op_fdiv (pe_op op_mulU (pv 0) (pe_op (op_addU rfl) (pv 0) pe_int)) pe_int) (pe_callB (CallR.k (r := rSumA) (K := K) (cr_sumA rfl) rfl) (by rfl) T.z_sum (by decide +kernel) (pa_cons (pv 1) pa_nil))))), ?_⟩
    exact body_of0 rfl h fun X hd => (dst_ret (dg_op od_sub (DEg.bor (dg_op od_fdiv (DEg.bor (dg_op od_mul (db_var 0) (DEg.bor (dg_op od_add (db_var 0) (DEg.bor (de_int 1)))))) (DEg.bor (de_int 2)))) (DEg.bor (dg_cb cg_sum (db_cons (db_var 1) db_nil)))))
end Mine

namespace Mine
open PySem PySem.Spec PyProof.Rows L2
theorem ok_is_whole {P : Program} {w : World} {K : PySem.W.Frag} {mg : Str → Option Value} {base : Heap} (T : Txt K mg) : ∃ fd, FnOk P w K mg base CX0 1 (He.ga K "is_whole") fd P_is_whole (spD K F_is_whole) ∧ D_is_whole K (He.ga K "is_whole") fd := by
  obtain ⟨fd, F⟩ := T.F_is_whole
  refine ⟨fd, F.ok sc_is_whole (fun vs H Q E h => ?_) (fun cdv A outer s H vs Q E hr h => ?_), F⟩
  · rw [F_is_whole_eq] at h
    exact spD_len (np := 3) (fun _ _ _ h => h.1) vs H Q E h
  · rw [F_is_whole_eq] at h
    refine ⟨_, PSs.nox (pss_cons (ps_if (PW.pt (pw_or (pt_not (pt_tru rfl (pe_callB (call_isiU (K := K) rfl) (by rfl) T.z_isinstance (by decide +kernel) (pa_cons (pv 0) (pa_cons (pe_bltn (v := .ty "int") (by rfl) T.z_int (by decide +kernel) rfl) pa_nil))) (by intro _; rfl))) (pw_or1 (pt_tru rfl (pe_callB (call_isiU (K := K) rfl) (by rfl) T.z_isinstance (by decide +kernel) (pa_cons (pv 0) (pa_cons (pe_bltn (v := .ty "bool") (by rfl) T.z_bool (by decide +kernel) rfl) pa_nil))) (by intro _; rfl)))))
    (pss_one (ps_ret pe_bl))
    pss_nil)
    (pss_one (ps_ret (pe_and (pe_or (pe_cmpR op_isN (pv 1) pe_non (by first | exact nomark _ | rfl)) (pe_one (pe_cmpR op_ge (pv 0) (pv 1) (by first | exact nomark _ | rfl)))) (pe_one (pe_or (pe_cmpR op_isN (pv 2) pe_non (by first | exact nomark _ | rfl)) (pe_one (pe_cmpR op_le (pv 0) (pv 2) (by first | exact nomark _ | rfl))))))))), ?_⟩
    exact body_of0 rfl h fun X hd => (dst_seq (dst_if (dt_or (dt_not (dt_tru (DEg.bor (dg_cb (cg_isi known_int) (db_cons (db_var 0) (db_cons (DEg.bor (de_raw (.ty "int"))) db_nil)))))) (dt_tru (DEg.bor (dg_cb (cg_isi known_bool) (db_cons (db_var 0) (db_cons (DEg.bor (de_raw (.ty "bool"))) db_nil))))))
    (dst_ret (de_bl false))
    dst_next)
    (dst_ret (de_andV (de_orV (dg_op od_isN (db_var 1) (DEg.bor de_non)) (dg_op od_ge (db_var 0) (db_var 1))) (de_orV (dg_op od_isN (db_var 2) (DEg.bor de_non)) (dg_op od_le (db_var 0) (db_var 2))))))
end Mine

namespace Mine
open PySem PySem.Spec PyProof.Rows L2
theorem ok_check_number {P : Program} {w : World} {K : PySem.W.Frag} {mg : Str → Option Value} {base : Heap} (T : Txt K mg) : ∃ fd, FnOk P w K mg base (L2.CX P w) 2 (He.ga K "check_number") fd P_check_number (spD K F_check_number) ∧ D_check_number K (He.ga K "check_number") fd := by
  obtain ⟨fd, F⟩ := T.F_check_number
  obtain ⟨fd_is_whole, G_is_whole, D_is_whole⟩ := ok_is_whole (P := P) (w := w) (base := base) T
  have k_is_whole := D_is_whole.kp
  obtain ⟨ds_is_whole_3, r_is_whole_3, b_is_whole_3⟩ := bd_is_whole_3 D_is_whole
  refine ⟨fd, F.ok sc_check_number (fun vs H Q E h => ?_) (fun cdv A outer s H vs Q E hr h => ?_), F⟩
  · rw [F_check_number_eq] at h
    exact spD_len (np := 3) (fun _ _ _ h => h.1) vs H Q E h
  · rw [F_check_number_eq] at h
    refine ⟨_, (pss_cons (ps_if (pt_not (pt_tru rfl (pe_call G_is_whole (hr.mono (by decide)) rfl T.g_is_whole k_is_whole b_is_whole_3 r_is_whole_3 pass0 (pa_cons (pv 0) (pa_cons (pv 1) (pa_cons (pv 2) pa_nil)))) (by intro _; rfl)))
    (pss_one (ps_raise rfl (takes_of rfl rfl rfl rfl) (mk0 T.e_BadNumber T.g_BadNumber rfl)))
    pss_nil)
    (pss_one (ps_ret (pv 0)))), ?_⟩
    exact body_of rfl h fun X hd => (dst_seq (dst_if (dt_not (dt_tru (DEg.bor (de_call0 dv_nil (ds_cons (de_var 0) (ds_cons (de_var 1) (ds_cons (de_var 2) ds_nil)))))))
    (dst_raise rfl)
    dst_next)
    (dst_ret (de_var 0)))
end Mine

namespace Mine
open PySem PySem.Spec PyProof.Rows L2
local macro_rules | `(tactic| walk_at "rd") => `(tactic| try simp only [tMk1, iEnumA, iSeq, tPar3, tAugS, ipI, rRepA, rIxA, tCallSD, rExtend, tDNewK, iZipS, tXf, tSeq, tAsg, tCB, tCons, tNil, tVar, tOp, tUn, rI, rI0, rU, gName, gNil, gCons, gSub, rSetL, tC, tRet, tRetN, tNext, tIfS, tTest, tB, tAnd, tOr, tNot, tAndV, tOrV, tNotV, tIf,
  tDrop, tCall, tCallS, tPar, tAug, ipI, tBreak, tCont, tTup, tLst, rEq_int, rNe_int, rEq_bl, rNe_bl, rEq_str, rNe_str, HO.lst.injEq, HO.tup.injEq, Bool.not_eq_true', decide_eq_false_iff_not, rIxH, rIxTH, rCat, tSl, tPart, tNoPart, tBM, rAppend, L2.start, tFor_eq, tLc_eq, iList, iTup, iRng1, iRng2, iEnum, iZip, cx_K, cx_prog, cx_w, cx_nK, forall_const, tYes, wipe, List.foldl_cons, List.foldl_nil, and_assoc, List.map_cons, List.map_nil, List.length_cons, List.length_nil, List.replicate, List.append_nil, List.cons_append, List.nil_append,
  List.getElem?_cons_zero, List.getElem?_cons_succ, List.set_cons_zero, List.set_cons_succ, Nat.zero_add, Nat.add_zero, Nat.reduceAdd, Nat.reduceSub, Option.some.injEq, V.int.injEq, V.bl.injEq, V.ref.injEq, V.str.injEq,
  List.cons.injEq, and_true, true_and, exists_eq_left, exists_eq_left', exists_eq_right, exists_const, exists_eq, exists_and_left, exists_and_right, upd_same, upd_upd, atI_0, atI_1, atI_2, atI_3, ixN_4_0, ixN_4_1, ixN_4_2, ixN_4_3, some_lst, some_tup, decide_eq_true_eq, reduceCtorEq,
  V.int.injEq, Bool.true_eq_false, Bool.false_eq_true, if_true, if_false, ite_true, ite_false, eq_self, not_true_eq_false, not_false_eq_true, decide_true, decide_false, Bool.not_true, Bool.not_false, false_and, and_false, exists_false])
local macro_rules | `(tactic| walk_at "mono") => `(tactic| repeat (first | with_reducible exact mon_var _ | with_reducible exact mon_c _ | with_reducible exact mon_rI _ _ | with_reducible exact mon_rI0 _ | with_reducible exact mon_rEq | with_reducible exact mon_rNe | with_reducible refine mon_test ?_ | with_reducible refine mon_op ?_ ?_ ?_ | with_reducible refine mon_and ?_ ?_ | with_reducible refine mon_or ?_ ?_ | with_reducible exact mon_rU _ | with_reducible refine mon_un ?_ ?_))
local macro_rules | `(tactic| walk_at "sd") => `(tactic| first | assumption | omega | (unfold CMul; omega) | (unfold CDiv; omega) | rfl | decide)
local macro_rules | `(tactic| walk_at "go") => `(tactic| repeat (refine And.intro (by first | assumption | omega | exact tyL (by assumption) | (unfold CMul; omega) | (unfold CDiv; omega) | rfl | decide) ?_))
theorem ok_BadRow___init {P : Program} {w : World} {K : PySem.W.Frag} {mg : Str → Option Value} {base : Heap} (T : Txt K mg) : ∃ fd, FnOk P w K mg base CX0 1 (He.ma K (He.ga K "BadRow") "__init__") fd P_BadRow___init (spFld (He.ga K "BadRow") "index") ∧ D_BadRow___init K (He.ma K (He.ga K "BadRow") "__init__") fd := by
  obtain ⟨fd, F⟩ := T.F_BadRow___init
  refine ⟨fd, F.ok sc_BadRow___init (fun vs H Q E h => ?_) (fun cdv A outer s H vs Q E hr h => ?_), F⟩
  · obtain ⟨a, v, rfl, _⟩ := h
    rfl
  ·
    obtain ⟨a, v, rfl, ha, q⟩ := h
    refine ⟨_, PSs.nox (pss_one (ps_ost (pv 0) (pv 1))), ?_⟩
    simp only [tMk1, iEnumA, iSeq, tPar3, tAugS, ipI, rRepA, rIxA, tCallSD, rExtend, tDNewK, iZipS, tXf, tSeq, tAsg, tCB, tCons, tNil, tVar, tOp, tUn, rI, rI0, rU, gName, gNil, gCons, gSub, rSetL, tC, tRet, tRetN, tNext, tIfS, tTest, tB, tAnd, tOr, tNot, tAndV, tOrV, tNotV, tIf,
  tDrop, tCall, tCallS, tPar, tAug, ipI, tBreak, tCont, tTup, tLst, rEq_int, rNe_int, rEq_bl, rNe_bl, rEq_str, rNe_str, HO.lst.injEq, HO.tup.injEq, Bool.not_eq_true', decide_eq_false_iff_not, rIxH, rIxTH, rCat, tSl, tPart, tNoPart, tBM, rAppend, L2.start, tFor_eq, tLc_eq, iList, iTup, iRng1, iRng2, iEnum, iZip, cx_K, cx_prog, cx_w, cx_nK, forall_const, tYes, wipe, List.foldl_cons, List.foldl_nil, and_assoc, List.map_cons, List.map_nil, List.length_cons, List.length_nil, List.replicate, List.append_nil, List.cons_append, List.nil_append,
  List.getElem?_cons_zero, List.getElem?_cons_succ, List.set_cons_zero, List.set_cons_succ, Nat.zero_add, Nat.add_zero, Nat.reduceAdd, Nat.reduceSub, Option.some.injEq, V.int.injEq, V.bl.injEq, V.ref.injEq, V.str.injEq,
  List.cons.injEq, and_true, true_and, exists_eq_left, exists_eq_left', exists_eq_right, exists_const, exists_eq, exists_and_left, exists_and_right, upd_same, upd_upd, atI_0, atI_1, atI_2, atI_3, ixN_4_0, ixN_4_1, ixN_4_2, ixN_4_3, some_lst, some_tup, decide_eq_true_eq, reduceCtorEq,
  V.int.injEq, Bool.true_eq_false, Bool.false_eq_true, if_true, if_false, ite_true, ite_false, eq_self, not_true_eq_false, not_false_eq_true, decide_true, decide_false, Bool.not_true, Bool.not_false, false_and, and_false, exists_false, tOst]
    exact ⟨_, T.x_BadRow.o, T.n_BadRow_is_index, .inl ⟨ha, fun dx h1 h2 => q dx h1 h2⟩⟩
end Mine

namespace Mine
open PySem PySem.Spec PyProof.Rows L2
theorem ok_check_row {P : Program} {w : World} {K : PySem.W.Frag} {mg : Str → Option Value} {base : Heap} (T : Txt K mg) : ∃ fd, FnOk P w K mg base (L2.CX P w) 3 (He.ga K "check_row") fd P_check_row (spD K F_check_row) ∧ D_check_row K (He.ga K "check_row") fd := by
  obtain ⟨fd, F⟩ := T.F_check_row
  obtain ⟨fd_BadRow___init, G_BadRow___init, D_BadRow___init⟩ := ok_BadRow___init (P := P) (w := w) (base := base) T
  have k_BadRow___init := D_BadRow___init.kp
  have b_BadRow___init := bd_BadRow___init D_BadRow___init
  obtain ⟨fd_is_whole, G_is_whole, D_is_whole⟩ := ok_is_whole (P := P) (w := w) (base := base) T
  have k_is_whole := D_is_whole.kp
  obtain ⟨ds_is_whole_3, r_is_whole_3, b_is_whole_3⟩ := bd_is_whole_3 D_is_whole
  refine ⟨fd, F.ok sc_check_row (fun vs H Q E h => ?_) (fun cdv A outer s H vs Q E hr h => ?_), F⟩
  · rw [F_check_row_eq] at h
    exact spD_len (np := 3) (fun _ _ _ h => h.1) vs H Q E h
  · rw [F_check_row_eq] at h
    refine ⟨_, (pss_cons (ps_if (PW.pt (pw_or (pt_not (pt_tru rfl (pe_callB (call_isiTU (K := K) rfl) (by rfl) T.z_isinstance (by decide +kernel) (pa_cons (pv 1) (pa_cons (pe_tup (pa_cons (pe_bltn (v := .ty "list") (by rfl) T.z_list (by decide +kernel) rfl) (pa_cons (pe_bltn (v := .ty "tuple") (by rfl) T.z_tuple (by decide +kernel) rfl) pa_nil))) pa_nil))) (by intro _; rfl))) (pw_or1 (pt_cmpR (op_neU rfl hr.units) (pe_callB (call_lenU (K := K) rfl) (by rfl) T.z_len (by decide +kernel) (pa_cons (pv 1) pa_nil)) (pv 2) (by first | exact nomark _ | rfl)))))
    (pss_one (ps_raise rfl (takes_of rfl rfl rfl rfl) (mk1 T.x_BadRow T.g_BadRow G_BadRow___init b_BadRow___init (hr.mono (by decide)) (mon_un (mon_rU _) (mon_c _)) (pe_un un_neg pe_int) rfl)))
    pss_nil)
    (pss_cons (ps_set (i := 3) sc_check_row.nd rfl (by first | exact Or.inl rfl | exact Or.inr rfl) (pe_callTy0 cr_set0I (by rfl) T.z_set (by decide +kernel)))
    (pss_cons (ps_for (passes_of rfl) rfl (pi_enumA (by rfl) T.z_enumerate (pa_cons (pv 1) pa_nil)) (pg_tupK (K := K) (n := 2) rfl (by rfl) (pgs_cons (pg_name (i := 4) sc_check_row.nd rfl (by first | exact Or.inl rfl | exact Or.inr rfl)) (pgs_cons (pg_name (i := 5) sc_check_row.nd rfl (by first | exact Or.inl rfl | exact Or.inr rfl)) pgs_nil)))
    (pss_cons (ps_if (PW.pt (pw_or (pt_not (pt_tru rfl (pe_call G_is_whole (hr.mono (by decide)) rfl T.g_is_whole k_is_whole b_is_whole_3 r_is_whole_3 pass0 (pa_cons (pv 5) (pa_cons pe_int (pa_cons (pv 0) pa_nil)))) (by intro _; rfl))) (pw_or1 (pt_cmpR or_sinI (pv 5) (pv 3) (by first | exact nomark _ | rfl)))))
    (pss_one (ps_raise rfl (takes_of rfl rfl rfl rfl) (mk1 T.x_BadRow T.g_BadRow G_BadRow___init b_BadRow___init (hr.mono (by decide)) (mon_var _) (pv 4) rfl)))
    pss_nil)
    (pss_one (ps_expr (pe_bm PySem.F.plainAttrs_set PySem.F.slot_set_add PySem.F.type_set_add mt_saddI (pv 3) (pa_cons (pv 5) pa_nil))))))
    (pss_one (ps_ret (pe_callTy (call_tupU (K := K) rfl) (by rfl) T.z_tuple (by decide +kernel) (pa_cons (pv 1) pa_nil))))))), ?_⟩
    exact body_of rfl h fun X hd => (dst_seq (dst_if (dt_or (dt_not (dt_tru (DEg.bor (dg_cb (cg_isi2 known_list known_tuple) (db_cons (db_var 1) (db_cons (DEg.bor (de_tup (da_cons (de_raw (.ty "list")) (da_cons (de_raw (.ty "tuple")) da_nil)))) db_nil)))))) (dt_test (dg_op od_ne (DEg.bor (dg_cb cg_len (db_cons (db_var 1) db_nil))) (db_var 2))))
    (dst_raise1 rfl (de_un ud_neg (DEg.bor (de_int 1))))
    dst_next)
    (dst_seq dst_set0
    (dst_seq (dst_for (di_enum (R := Cln) (de_var 1)) (dg_two 4 5)
    (dst_seq (dst_if (dt_or (dt_not (dt_tru (DEg.bor (de_call0 dv_nil (ds_cons (de_var 5) (ds_cons (de_int 1) (ds_cons (de_var 0) ds_nil))))))) (dt_test (de_inS (de_var 5))))
    (dst_raise1 rfl (de_var 4))
    dst_next)
    (dst_setAdd (de_var 5))))
    (dst_ret (dg_cb cg_tup (db_cons (db_var 1) db_nil))))))
end Mine

namespace Mine
open PySem PySem.Spec PyProof.Rows L2
theorem ok_check_short_row {P : Program} {w : World} {K : PySem.W.Frag} {mg : Str → Option Value} {base : Heap} (T : Txt K mg) : ∃ fd, FnOk P w K mg base (L2.CX P w) 4 (He.ga K "_check_short_row") fd P_check_short_row (spD K F_check_short_row) ∧ D_check_short_row K (He.ga K "_check_short_row") fd := by
  obtain ⟨fd, F⟩ := T.F_check_short_row
  obtain ⟨fd_check_number, G_check_number, D_check_number⟩ := ok_check_number (P := P) (w := w) (base := base) T
  have k_check_number := D_check_number.kp
  have b_check_number := bd_check_number D_check_number
  obtain ⟨fd_check_row, G_check_row, D_check_row⟩ := ok_check_row (P := P) (w := w) (base := base) T
  have k_check_row := D_check_row.kp
  have b_check_row := bd_check_row D_check_row
  refine ⟨fd, F.ok sc_check_short_row (fun vs H Q E h => ?_) (fun cdv A outer s H vs Q E hr h => ?_), F⟩
  · rw [F_check_short_row_eq] at h
    exact spD_len (np := 2) (fun _ _ _ h => h.1) vs H Q E h
  · rw [F_check_short_row_eq] at h
    refine ⟨_, (pss_cons (ps_expr (pe_call G_check_number (hr.mono (by decide)) rfl T.g_check_number k_check_number b_check_number .nil (E := E) (passes_call (takes_of rfl rfl rfl rfl) fun _ _ _ _ h => h) (pa_cons (pv 0) (pa_cons pe_int (pa_cons (pe_glob (v := .int (40)) rfl T.c_MOST_MEMBERS.choose_spec ⟨_, rfl⟩) pa_nil)))))
    (pss_one (ps_ret (pe_call G_check_row (hr.mono (by decide)) rfl T.g_check_row k_check_row b_check_row .nil (E := E) (passes_call (takes_of rfl rfl rfl rfl) fun _ _ _ _ h => h) (pa_cons (pv 0) (pa_cons (pv 1) (pa_cons (pe_op op_sub (pv 0) pe_int) pa_nil))))))), ?_⟩
    exact body_of rfl h fun X hd => (dst_seq (dst_drop (de_call rfl dv_nil (ds_cons (de_var 0) (ds_cons (de_int 1) (ds_cons (de_int (40)) ds_nil)))))
    (dst_ret (de_call rfl dv_nil (ds_cons (de_var 0) (ds_cons (de_var 1) (ds_cons (dg_op od_sub (db_var 0) (DEg.bor (de_int 1))) ds_nil))))))
end Mine

namespace Mine
open PySem PySem.Spec PyProof.Rows L2
theorem ok_lacking_member {P : Program} {w : World} {K : PySem.W.Frag} {mg : Str → Option Value} {base : Heap} (T : Txt K mg) : ∃ fd, FnOk P w K mg base (L2.CX P w) 5 (He.ga K "lacking_member") fd P_lacking_member (spD K F_lacking_member) ∧ D_lacking_member K (He.ga K "lacking_member") fd := by
  obtain ⟨fd, F⟩ := T.F_lacking_member
  obtain ⟨fd_lacking, G_lacking, D_lacking⟩ := ok_lacking (P := P) (w := w) (base := base) T
  have k_lacking := D_lacking.kp
  have b_lacking := bd_lacking D_lacking
  obtain ⟨fd_check_short_row, G_check_short_row, D_check_short_row⟩ := ok_check_short_row (P := P) (w := w) (base := base) T
  have k_check_short_row := D_check_short_row.kp
  have b_check_short_row := bd_check_short_row D_check_short_row
  refine ⟨fd, F.ok sc_lacking_member (fun vs H Q E h => ?_) (fun cdv A outer s H vs Q E hr h => ?_), F⟩
  · rw [F_lacking_member_eq] at h
    exact spD_len (np := 2) (fun _ _ _ h => h.1) vs H Q E h
  · rw [F_lacking_member_eq] at h
    refine ⟨_, (pss_one (ps_ret (pe_call G_lacking (hr.mono (by decide)) rfl T.g__lacking k_lacking b_lacking .nil pass0 (pa_cons (pv 0) (pa_cons (pe_call G_check_short_row (hr.mono (by decide)) rfl T.g__check_short_row k_check_short_row b_check_short_row .nil (E := E) (passes_call (takes_of rfl rfl rfl rfl) fun _ _ _ _ h => h) (pa_cons (pv 0) (pa_cons (pv 1) pa_nil))) pa_nil))))), ?_⟩
    exact body_of rfl h fun X hd => (dst_ret (de_call0 dv_nil (ds_cons (de_var 0) (ds_cons (de_call rfl dv_nil (ds_cons (de_var 0) (ds_cons (de_var 1) ds_nil))) ds_nil))))
end Mine

namespace Mine
open PySem PySem.Spec PyProof.Rows L2
theorem ok_check_order {P : Program} {w : World} {K : PySem.W.Frag} {mg : Str → Option Value} {base : Heap} (T : Txt K mg) : ∃ fd, FnOk P w K mg base (L2.CX P w) 4 (He.ga K "check_order") fd P_check_order (spD K F_check_order) ∧ D_check_order K (He.ga K "check_order") fd := by
  obtain ⟨fd, F⟩ := T.F_check_order
  obtain ⟨fd_is_whole, G_is_whole, D_is_whole⟩ := ok_is_whole (P := P) (w := w) (base := base) T
  have k_is_whole := D_is_whole.kp
  obtain ⟨ds_is_whole_3, r_is_whole_3, b_is_whole_3⟩ := bd_is_whole_3 D_is_whole
  obtain ⟨fd_BadRow___init, G_BadRow___init, D_BadRow___init⟩ := ok_BadRow___init (P := P) (w := w) (base := base) T
  have k_BadRow___init := D_BadRow___init.kp
  have b_BadRow___init := bd_BadRow___init D_BadRow___init
  obtain ⟨fd_check_row, G_check_row, D_check_row⟩ := ok_check_row (P := P) (w := w) (base := base) T
  have k_check_row := D_check_row.kp
  have b_check_row := bd_check_row D_check_row
  refine ⟨fd, F.ok sc_check_order (fun vs H Q E h => ?_) (fun cdv A outer s H vs Q E hr h => ?_), F⟩
  · rw [F_check_order_eq] at h
    exact spD_len (np := 1) (fun _ _ _ h => h.1) vs H Q E h
  · rw [F_check_order_eq] at h
    refine ⟨_, (pss_cons (ps_if (PW.pt (pw_or (pt_not (pt_tru rfl (pe_callB (call_isiTU (K := K) rfl) (by rfl) T.z_isinstance (by decide +kernel) (pa_cons (pv 0) (pa_cons (pe_tup (pa_cons (pe_bltn (v := .ty "list") (by rfl) T.z_list (by decide +kernel) rfl) (pa_cons (pe_bltn (v := .ty "tuple") (by rfl) T.z_tuple (by decide +kernel) rfl) pa_nil))) pa_nil))) (by intro _; rfl))) (pw_or1 (pt_not (pt_tru rfl (pe_call G_is_whole (hr.mono (by decide)) rfl T.g_is_whole k_is_whole b_is_whole_3 r_is_whole_3 pass0 (pa_cons (pe_callB (call_lenU (K := K) rfl) (by rfl) T.z_len (by decide +kernel) (pa_cons (pv 0) pa_nil)) (pa_cons pe_int (pa_cons (pe_glob (v := .int (40)) rfl T.c_MOST_MEMBERS.choose_spec ⟨_, rfl⟩) pa_nil)))) (by intro _; rfl))))))
    (pss_one (ps_raise rfl (takes_of rfl rfl rfl rfl) (mk1 T.x_BadRow T.g_BadRow G_BadRow___init b_BadRow___init (hr.mono (by decide)) (mon_un (mon_rU _) (mon_c _)) (pe_un un_neg pe_int) rfl)))
    pss_nil)
    (pss_one (ps_ret (pe_call G_check_row (hr.mono (by decide)) rfl T.g_check_row k_check_row b_check_row .nil (E := E) (passes_call (takes_of rfl rfl rfl rfl) fun _ _ _ _ h => h) (pa_cons (pe_callB (call_lenU (K := K) rfl) (by rfl) T.z_len (by decide +kernel) (pa_cons (pv 0) pa_nil)) (pa_cons (pv 0) (pa_cons (pe_callB (call_lenU (K := K) rfl) (by rfl) T.z_len (by decide +kernel) (pa_cons (pv 0) pa_nil)) pa_nil))))))), ?_⟩
    exact body_of rfl h fun X hd => (dst_seq (dst_if (dt_or (dt_not (dt_tru (DEg.bor (dg_cb (cg_isi2 known_list known_tuple) (db_cons (db_var 0) (db_cons (DEg.bor (de_tup (da_cons (de_raw (.ty "list")) (da_cons (de_raw (.ty "tuple")) da_nil)))) db_nil)))))) (dt_not (dt_tru (DEg.bor (de_call0 dv_nil (ds_cons (dg_cb cg_len (db_cons (db_var 0) db_nil)) (ds_cons (de_int 1) (ds_cons (de_int (40)) ds_nil))))))))
    (dst_raise1 rfl (de_un ud_neg (DEg.bor (de_int 1))))
    dst_next)
    (dst_ret (de_call rfl dv_nil (ds_cons (dg_cb cg_len (db_cons (db_var 0) db_nil)) (ds_cons (de_var 0) (ds_cons (dg_cb cg_len (db_cons (db_var 0) db_nil)) ds_nil))))))
end Mine

namespace Mine
open PySem PySem.Spec PyProof.Rows L2
theorem ok_row_without {P : Program} {w : World} {K : PySem.W.Frag} {mg : Str → Option Value} {base : Heap} (T : Txt K mg) : ∃ fd, FnOk P w K mg base (L2.CX P w) 5 (He.ga K "row_without") fd P_row_without (spD K F_row_without) ∧ D_row_without K (He.ga K "row_without") fd := by
  obtain ⟨fd, F⟩ := T.F_row_without
  obtain ⟨fd_check_order, G_check_order, D_check_order⟩ := ok_check_order (P := P) (w := w) (base := base) T
  have k_check_order := D_check_order.kp
  have b_check_order := bd_check_order D_check_order
  obtain ⟨fd_check_number, G_check_number, D_check_number⟩ := ok_check_number (P := P) (w := w) (base := base) T
  have k_check_number := D_check_number.kp
  have b_check_number := bd_check_number D_check_number
  refine ⟨fd, F.ok sc_row_without (fun vs H Q E h => ?_) (fun cdv A outer s H vs Q E hr h => ?_), F⟩
  · rw [F_row_without_eq] at h
    exact spD_len (np := 2) (fun _ _ _ h => h.1) vs H Q E h
  · rw [F_row_without_eq] at h
    refine ⟨_, (pss_cons (ps_set (i := 0) sc_row_without.nd rfl (by first | exact Or.inl rfl | exact Or.inr rfl) (pe_call G_check_order (hr.mono (by decide)) rfl T.g_check_order k_check_order b_check_order .nil (E := E) (passes_call (takes_of rfl rfl rfl rfl) fun _ _ _ _ h => h) (pa_cons (pv 0) pa_nil)))
    (pss_cons (ps_expr (pe_call G_check_number (hr.mono (by decide)) rfl T.g_check_number k_check_number b_check_number .nil (E := E) (passes_call (takes_of rfl rfl rfl rfl) fun _ _ _ _ h => h) (pa_cons (pv 1) (pa_cons pe_int (pa_cons (pe_callB (call_lenU (K := K) rfl) (by rfl) T.z_len (by decide +kernel) (pa_cons (pv 0) pa_nil)) pa_nil)))))
    (pss_one (ps_ret (pe_callTy (call_tupU (K := K) rfl) (by rfl) T.z_tuple (by decide +kernel) (pa_cons (pe_lc (own := [("other", 2)]) rfl sc_row_without.nd (pi_seq (pv 0)) (blkOk_by (own := [("other", 2)]) (N := N_row_without) (sc := defScope s_row_without) (by decide +kernel)) (fun _ _ _ _ _ => (pg_name (i := 2) sc_row_without.nd rfl (by first | exact Or.inl rfl | exact Or.inr rfl))) (fun _ _ _ _ _ => (pts_one (pt_cmpR (op_neU rfl hr.units) (pv 2) (pv 1) (by first | exact nomark _ | rfl)))) (fun _ _ _ _ _ => (pv 2))) pa_nil)))))), ?_⟩
    exact body_of rfl h fun X hd => (dst_seq (dst_asg (de_call rfl dv_nil (ds_cons (de_var 0) ds_nil)) (dg_name 0))
    (dst_seq (dst_drop (de_call rfl dv_nil (ds_cons (de_var 1) (ds_cons (de_int 1) (ds_cons (dg_cb cg_len (db_cons (db_var 0) db_nil)) ds_nil)))))
    (dst_ret (dg_cb cg_tup (db_cons (DEg.bor (DEg.cln (df_lc (di_seq (R := Bor) (db_var 0)) (dg_name 2) (dt_test (dg_op od_ne (db_var 2) (db_var 1))) (de_var 2)))) db_nil)))))
end Mine

namespace Mine
open PySem PySem.Spec PyProof.Rows L2
theorem ok_rise_word {P : Program} {w : World} {K : PySem.W.Frag} {mg : Str → Option Value} {base : Heap} (T : Txt K mg) : ∃ fd, FnOk P w K mg base CX0 1 (He.ga K "_rise_word") fd P_rise_word (spD K F_rise_word) ∧ D_rise_word K (He.ga K "_rise_word") fd := by
  obtain ⟨fd, F⟩ := T.F_rise_word
  refine ⟨fd, F.ok sc_rise_word (fun vs H Q E h => ?_) (fun cdv A outer s H vs Q E hr h => ?_), F⟩
  · rw [F_rise_word_eq] at h
    exact spD_len (np := 1) (fun _ _ _ h => h.1) vs H Q E h
  · rw [F_rise_word_eq] at h
    refine ⟨_, PSs.nox (pss_one (ps_ret (pe_callTy (call_tupU (K := K) rfl) (by rfl) T.z_tuple (by decide +kernel) (pa_cons (pe_lc (own := [("place", 1)]) rfl sc_rise_word.nd (pi_range2 (by rfl) T.z_range (pa_cons pe_int (pa_cons (pe_callB (call_lenU (K := K) rfl) (by rfl) T.z_len (by decide +kernel) (pa_cons (pv 0) pa_nil)) pa_nil))) (blkOk_by (own := [("place", 1)]) (N := N_rise_word) (sc := defScope s_rise_word) (by decide +kernel)) (fun _ _ _ _ _ => (pg_name (i := 1) sc_rise_word.nd rfl (by first | exact Or.inl rfl | exact Or.inr rfl))) (fun _ _ _ _ _ => pts_nil) (fun _ _ _ _ _ => (pe_ifExp (pt_cmpR op_gt (pe_ix (ix_U (K := K) rfl) (pv 0) (pv 1) (fun _ _ => rfl)) (pe_ix (ix_U (K := K) rfl) (pv 0) (pe_op op_sub (pv 1) pe_int) (fun _ _ => rfl)) (by first | exact nomark _ | rfl)) pe_int pe_int))) pa_nil)))), ?_⟩
    exact body_of0 rfl h fun X hd => (dst_ret (dg_cb cg_tup (db_cons (DEg.bor (DEg.cln (df_lc (di_rng2 (db_cons (DEg.bor (de_int 1)) (db_cons (DEg.bor (dg_cb cg_len (db_cons (db_var 0) db_nil))) db_nil))) (dg_name 1) dt_yes (dg_if (dt_test (dg_op od_gt (DEg.bor (dg_op od_ix (db_var 0) (db_var 1))) (DEg.bor (dg_op od_ix (db_var 0) (DEg.bor (dg_op od_sub (db_var 1) (DEg.bor (de_int 1)))))))) (de_int 1) (de_int 0))))) db_nil)))
end Mine

namespace Mine
open PySem PySem.Spec PyProof.Rows L2
theorem ok_places_tried {P : Program} {w : World} {K : PySem.W.Frag} {mg : Str → Option Value} {base : Heap} (T : Txt K mg) : ∃ fd, FnOk P w K mg base (L2.CX P w) 5 (He.ga K "places_tried") fd P_places_tried (spD K F_places_tried) ∧ D_places_tried K (He.ga K "places_tried") fd := by
  obtain ⟨fd, F⟩ := T.F_places_tried
  obtain ⟨fd_check_short_row, G_check_short_row, D_check_short_row⟩ := ok_check_short_row (P := P) (w := w) (base := base) T
  have k_check_short_row := D_check_short_row.kp
  have b_check_short_row := bd_check_short_row D_check_short_row
  obtain ⟨fd_lacking, G_lacking, D_lacking⟩ := ok_lacking (P := P) (w := w) (base := base) T
  have k_lacking := D_lacking.kp
  have b_lacking := bd_lacking D_lacking
  obtain ⟨fd_rise_word, G_rise_word, D_rise_word⟩ := ok_rise_word (P := P) (w := w) (base := base) T
  have k_rise_word := D_rise_word.kp
  have b_rise_word := bd_rise_word D_rise_word
  refine ⟨fd, F.ok sc_places_tried (fun vs H Q E h => ?_) (fun cdv A outer s H vs Q E hr h => ?_), F⟩
  · rw [F_places_tried_eq] at h
    exact spD_len (np := 2) (fun _ _ _ h => h.1) vs H Q E h
  · rw [F_places_tried_eq] at h
    refine ⟨_, (pss_cons (ps_set (i := 1) sc_places_tried.nd rfl (by first | exact Or.inl rfl | exact Or.inr rfl) (pe_call G_check_short_row (hr.mono (by decide)) rfl T.g__check_short_row k_check_short_row b_check_short_row .nil (E := E) (passes_call (takes_of rfl rfl rfl rfl) fun _ _ _ _ h => h) (pa_cons (pv 0) (pa_cons (pv 1) pa_nil))))
    (pss_cons (ps_set (i := 2) sc_places_tried.nd rfl (by first | exact Or.inl rfl | exact Or.inr rfl) (pe_call G_lacking (hr.mono (by decide)) rfl T.g__lacking k_lacking b_lacking .nil pass0 (pa_cons (pv 0) (pa_cons (pv 1) pa_nil))))
    (pss_one (ps_ret (pe_callTy (call_tupU (K := K) rfl) (by rfl) T.z_tuple (by decide +kernel) (pa_cons (pe_lc (own := [("at", 3)]) rfl sc_places_tried.nd (pi_range1 (by rfl) T.z_range (pa_cons (pv 0) pa_nil)) (blkOk_by (own := [("at", 3)]) (N := N_places_tried) (sc := defScope s_places_tried) (by decide +kernel)) (fun _ _ _ _ _ => (pg_name (i := 3) sc_places_tried.nd rfl (by first | exact Or.inl rfl | exact Or.inr rfl))) (fun _ _ _ _ _ => pts_nil) (fun _ _ _ _ _ => (pe_call G_rise_word (hr.mono (by decide)) rfl T.g__rise_word k_rise_word b_rise_word .nil pass0 (pa_cons (pe_op (op_addU rfl) (pe_op (op_addU rfl) (pe_slice (sl_U rfl) (pv 1) po_none (po_some (pv 3))) (pe_tup (pa_cons (pv 2) pa_nil))) (pe_slice (sl_U rfl) (pv 1) (po_some (pv 3)) po_none)) pa_nil)))) pa_nil)))))), ?_⟩
    exact body_of rfl h fun X hd => (dst_seq (dst_asg (de_call rfl dv_nil (ds_cons (de_var 0) (ds_cons (de_var 1) ds_nil))) (dg_name 1))
    (dst_seq (dst_asg (de_call0 dv_nil (ds_cons (de_var 0) (ds_cons (de_var 1) ds_nil))) (dg_name 2))
    (dst_ret (dg_cb cg_tup (db_cons (DEg.bor (DEg.cln (df_lc (di_rng1 (db_cons (db_var 0) db_nil)) (dg_name 3) dt_yes (de_call0 dv_nil (ds_cons (dg_op od_add (DEg.bor (dg_op od_add (DEg.bor (dg_sl sg_U (db_var 1) do_none (do_some (de_var 3)))) (DEg.bor (de_tup (da_cons (de_var 2) da_nil))))) (DEg.bor (dg_sl sg_U (db_var 1) (do_some (de_var 3)) do_none))) ds_nil))))) db_nil)))))
end Mine

namespace Mine
open PySem PySem.Spec PyProof.Rows L2
theorem ok_law_with {P : Program} {w : World} {K : PySem.W.Frag} {mg : Str → Option Value} {base : Heap} (T : Txt K mg) : ∃ fd, FnOk P w K mg base CX0 1 (He.ga K "_law_with") fd P_law_with (spD K F_law_with) ∧ D_law_with K (He.ga K "_law_with") fd := by
  obtain ⟨fd, F⟩ := T.F_law_with
  refine ⟨fd, F.ok sc_law_with (fun vs H Q E h => ?_) (fun cdv A outer s H vs Q E hr h => ?_), F⟩
  · rw [F_law_with_eq] at h
    exact spD_len (np := 3) (fun _ _ _ h => h.1) vs H Q E h
  · rw [F_law_with_eq] at h
    refine ⟨_, PSs.nox (pss_one (ps_ret (pe_op (op_addU rfl) (pe_op (op_addU rfl) (pe_slice (sl_U rfl) (pv 0) po_none (po_some (pe_op op_sub (pv 2) pe_int))) (pe_tup (pa_cons (pv 1) pa_nil))) (pe_slice (sl_U rfl) (pv 0) (po_some (pe_op op_sub (pv 2) pe_int)) po_none)))), ?_⟩
    exact body_of0 rfl h fun X hd => (dst_ret (dg_op od_add (DEg.bor (dg_op od_add (DEg.bor (dg_sl sg_U (db_var 0) do_none (do_some (dg_op od_sub (db_var 2) (DEg.bor (de_int 1)))))) (DEg.bor (de_tup (da_cons (de_var 1) da_nil))))) (DEg.bor (dg_sl sg_U (db_var 0) (do_some (dg_op od_sub (db_var 2) (DEg.bor (de_int 1)))) do_none))))
end Mine

namespace Mine
open PySem PySem.Spec PyProof.Rows L2
theorem ok_law_rise_word {P : Program} {w : World} {K : PySem.W.Frag} {mg : Str → Option Value} {base : Heap} (T : Txt K mg) : ∃ fd, FnOk P w K mg base CX0 1 (He.ga K "_law_rise_word") fd P_law_rise_word (spD K F_law_rise_word) ∧ D_law_rise_word K (He.ga K "_law_rise_word") fd := by
  obtain ⟨fd, F⟩ := T.F_law_rise_word
  refine ⟨fd, F.ok sc_law_rise_word (fun vs H Q E h => ?_) (fun cdv A outer s H vs Q E hr h => ?_), F⟩
  · rw [F_law_rise_word_eq] at h
    exact spD_len (np := 1) (fun _ _ _ h => h.1) vs H Q E h
  · rw [F_law_rise_word_eq] at h
    refine ⟨_, PSs.nox (pss_one (ps_ret (pe_callTy (call_tupU (K := K) rfl) (by rfl) T.z_tuple (by decide +kernel) (pa_cons (pe_lc (own := [("_law_k", 1)]) rfl sc_law_rise_word.nd (pi_range1 (by rfl) T.z_range (pa_cons (pe_op op_sub (pe_callB (call_lenU (K := K) rfl) (by rfl) T.z_len (by decide +kernel) (pa_cons (pv 0) pa_nil)) pe_int) pa_nil)) (blkOk_by (own := [("_law_k", 1)]) (N := N_law_rise_word) (sc := defScope s_law_rise_word) (by decide +kernel)) (fun _ _ _ _ _ => (pg_name (i := 1) sc_law_rise_word.nd rfl (by first | exact Or.inl rfl | exact Or.inr rfl))) (fun _ _ _ _ _ => pts_nil) (fun _ _ _ _ _ => (pe_callTy call_intU (by rfl) T.z_int (by decide +kernel) (pa_cons (pe_cmpR op_gt (pe_ix (ix_U (K := K) rfl) (pv 0) (pe_op (op_addU rfl) (pv 1) pe_int) (fun _ _ => rfl)) (pe_ix (ix_U (K := K) rfl) (pv 0) (pv 1) (fun _ _ => rfl)) (by first | exact nomark _ | rfl)) pa_nil)))) pa_nil)))), ?_⟩
    exact body_of0 rfl h fun X hd => (dst_ret (dg_cb cg_tup (db_cons (DEg.bor (DEg.cln (df_lc (di_rng1 (db_cons (DEg.bor (dg_op od_sub (DEg.bor (dg_cb cg_len (db_cons (db_var 0) db_nil))) (DEg.bor (de_int 1)))) db_nil)) (dg_name 1) dt_yes (dg_cb cg_int (db_cons (DEg.bor (dg_op od_gt (DEg.bor (dg_op od_ix (db_var 0) (DEg.bor (dg_op od_add (db_var 1) (DEg.bor (de_int 1)))))) (DEg.bor (dg_op od_ix (db_var 0) (db_var 1))))) db_nil))))) db_nil)))
end Mine

namespace Mine
open PySem PySem.Spec PyProof.Rows L2
theorem ok_law_rise_total {P : Program} {w : World} {K : PySem.W.Frag} {mg : Str → Option Value} {base : Heap} (T : Txt K mg) : ∃ fd, FnOk P w K mg base CX0 1 (He.ga K "_law_rise_total") fd P_law_rise_total (spD K F_law_rise_total) ∧ D_law_rise_total K (He.ga K "_law_rise_total") fd := by
  obtain ⟨fd, F⟩ := T.F_law_rise_total
  refine ⟨fd, F.ok sc_law_rise_total (fun vs H Q E h => ?_) (fun cdv A outer s H vs Q E hr h => ?_), F⟩
  · rw [F_law_rise_total_eq] at h
    exact spD_len (np := 1) (fun _ _ _ h => h.1) vs H Q E h
  · rw [F_law_rise_total_eq] at h
    refine ⟨_, PSs.nox (pss_one (ps_ret (pe_callB (CallR.k (r := rSumA) (K := K) (cr_sumA rfl) rfl) (by rfl) T.z_sum (by decide +kernel) (pa_cons (pe_lc (own := [("_law_k", 1)]) rfl sc_law_rise_total.nd (pi_range2 (by rfl) T.z_range (pa_cons pe_int (pa_cons (pe_callB (call_lenU (K := K) rfl) (by rfl) T.z_len (by decide +kernel) (pa_cons (pv 0) pa_nil)) pa_nil))) (blkOk_by (own := [("_law_k", 1)]) (N := N_law_rise_total) (sc := defScope s_law_rise_total) (by decide +kernel)) (fun _ _ _ _ _ => (pg_name (i := 1) sc_law_rise_total.nd rfl (by first | exact Or.inl rfl | exact Or.inr rfl))) (fun _ _ _ _ _ => (pts_one (pt_cmpR op_gt (pe_ix (ix_U (K := K) rfl) (pv 0) (pv 1) (fun _ _ => rfl)) (pe_ix (ix_U (K := K) rfl) (pv 0) (pe_op op_sub (pv 1) pe_int) (fun _ _ => rfl)) (by first | exact nomark _ | rfl)))) (fun _ _ _ _ _ => (pv 1))) pa_nil)))), ?_⟩
    exact body_of0 rfl h fun X hd => (dst_ret (dg_cb cg_sum (db_cons (DEg.bor (DEg.cln (df_lc (di_rng2 (db_cons (DEg.bor (de_int 1)) (db_cons (DEg.bor (dg_cb cg_len (db_cons (db_var 0) db_nil))) db_nil))) (dg_name 1) (dt_test (dg_op od_gt (DEg.bor (dg_op od_ix (db_var 0) (db_var 1))) (DEg.bor (dg_op od_ix (db_var 0) (DEg.bor (dg_op od_sub (db_var 1) (DEg.bor (de_int 1)))))))) (de_var 1)))) db_nil)))
end Mine

namespace Mine
open PySem PySem.Spec PyProof.Rows L2
theorem ok_order_with {P : Program} {w : World} {K : PySem.W.Frag} {mg : Str → Option Value} {base : Heap} (T : Txt K mg) : ∃ fd, FnOk P w K mg base (L2.CX P w) 5 (He.ga K "order_with") fd P_order_with (spD K F_order_with) ∧ D_order_with K (He.ga K "order_with") fd := by
  obtain ⟨fd, F⟩ := T.F_order_with
  obtain ⟨fd_check_short_row, G_check_short_row, D_check_short_row⟩ := ok_check_short_row (P := P) (w := w) (base := base) T
  have k_check_short_row := D_check_short_row.kp
  have b_check_short_row := bd_check_short_row D_check_short_row
  obtain ⟨fd_check_number, G_check_number, D_check_number⟩ := ok_check_number (P := P) (w := w) (base := base) T
  have k_check_number := D_check_number.kp
  have b_check_number := bd_check_number D_check_number
  obtain ⟨fd_lacking, G_lacking, D_lacking⟩ := ok_lacking (P := P) (w := w) (base := base) T
  have k_lacking := D_lacking.kp
  have b_lacking := bd_lacking D_lacking
  refine ⟨fd, F.ok sc_order_with (fun vs H Q E h => ?_) (fun cdv A outer s H vs Q E hr h => ?_), F⟩
  · rw [F_order_with_eq] at h
    exact spD_len (np := 3) (fun _ _ _ h => h.1) vs H Q E h
  · rw [F_order_with_eq] at h
    refine ⟨_, (pss_cons (ps_set (i := 1) sc_order_with.nd rfl (by first | exact Or.inl rfl | exact Or.inr rfl) (pe_call G_check_short_row (hr.mono (by decide)) rfl T.g__check_short_row k_check_short_row b_check_short_row .nil (E := E) (passes_call (takes_of rfl rfl rfl rfl) fun _ _ _ _ h => h) (pa_cons (pv 0) (pa_cons (pv 1) pa_nil))))
    (pss_cons (ps_expr (pe_call G_check_number (hr.mono (by decide)) rfl T.g_check_number k_check_number b_check_number .nil (E := E) (passes_call (takes_of rfl rfl rfl rfl) fun _ _ _ _ h => h) (pa_cons (pv 2) (pa_cons pe_int (pa_cons (pv 0) pa_nil)))))
    (pss_one (ps_ret (pe_op (op_addU rfl) (pe_op (op_addU rfl) (pe_slice (sl_U rfl) (pv 1) po_none (po_some (pe_op op_sub (pv 2) pe_int))) (pe_tup (pa_cons (pe_call G_lacking (hr.mono (by decide)) rfl T.g__lacking k_lacking b_lacking .nil pass0 (pa_cons (pv 0) (pa_cons (pv 1) pa_nil))) pa_nil))) (pe_slice (sl_U rfl) (pv 1) (po_some (pe_op op_sub (pv 2) pe_int)) po_none)))))), ?_⟩
    exact body_of rfl h fun X hd => (dst_seq (dst_asg (de_call rfl dv_nil (ds_cons (de_var 0) (ds_cons (de_var 1) ds_nil))) (dg_name 1))
    (dst_seq (dst_drop (de_call rfl dv_nil (ds_cons (de_var 2) (ds_cons (de_int 1) (ds_cons (de_var 0) ds_nil)))))
    (dst_ret (dg_op od_add (DEg.bor (dg_op od_add (DEg.bor (dg_sl sg_U (db_var 1) do_none (do_some (dg_op od_sub (db_var 2) (DEg.bor (de_int 1)))))) (DEg.bor (de_tup (da_cons (de_call0 dv_nil (ds_cons (de_var 0) (ds_cons (de_var 1) ds_nil))) da_nil))))) (DEg.bor (dg_sl sg_U (db_var 1) (do_some (dg_op od_sub (db_var 2) (DEg.bor (de_int 1)))) do_none))))))
end Mine

namespace Mine
open PySem PySem.Spec PyProof.Rows L2
theorem ok_law_places_right {P : Program} {w : World} {K : PySem.W.Frag} {mg : Str → Option Value} {base : Heap} (T : Txt K mg) : ∃ fd, FnG P w K mg base CX0 6 (He.ga K "_law_places_right") fd P_law_places_right (spD K F_law_places_right) ∧ D_law_places_right K (He.ga K "_law_places_right") fd := by
  obtain ⟨fd, F⟩ := T.F_law_places_right
  obtain ⟨fd_law_length, G_law_length, D_law_length⟩ := ok_law_length (P := P) (w := w) (base := base) T
  have k_law_length := D_law_length.kp
  have b_law_length := bd_law_length D_law_length
  obtain ⟨fd_law_order, G_law_order, D_law_order⟩ := ok_law_order (P := P) (w := w) (base := base) T
  have k_law_order := D_law_order.kp
  have b_law_order := bd_law_order D_law_order
  obtain ⟨fd_law_take, G_law_take, D_law_take⟩ := ok_law_take (P := P) (w := w) (base := base) T
  have k_law_take := D_law_take.kp
  have b_law_take := bd_law_take D_law_take
  obtain ⟨fd_law_without, G_law_without, D_law_without⟩ := ok_law_without (P := P) (w := w) (base := base) T
  have k_law_without := D_law_without.kp
  have b_law_without := bd_law_without D_law_without
  obtain ⟨fd_lacking_member, G_lacking_member, D_lacking_member⟩ := ok_lacking_member (P := P) (w := w) (base := base) T
  have k_lacking_member := D_lacking_member.kp
  have b_lacking_member := bd_lacking_member D_lacking_member
  obtain ⟨fd_row_without, G_row_without, D_row_without⟩ := ok_row_without (P := P) (w := w) (base := base) T
  have k_row_without := D_row_without.kp
  have b_row_without := bd_row_without D_row_without
  obtain ⟨fd_places_tried, G_places_tried, D_places_tried⟩ := ok_places_tried (P := P) (w := w) (base := base) T
  have k_places_tried := D_places_tried.kp
  have b_places_tried := bd_places_tried D_places_tried
  obtain ⟨fd_law_with, G_law_with, D_law_with⟩ := ok_law_with (P := P) (w := w) (base := base) T
  have k_law_with := D_law_with.kp
  have b_law_with := bd_law_with D_law_with
  obtain ⟨fd_law_rise_word, G_law_rise_word, D_law_rise_word⟩ := ok_law_rise_word (P := P) (w := w) (base := base) T
  have k_law_rise_word := D_law_rise_word.kp
  have b_law_rise_word := bd_law_rise_word D_law_rise_word
  obtain ⟨fd_law_rise_total, G_law_rise_total, D_law_rise_total⟩ := ok_law_rise_total (P := P) (w := w) (base := base) T
  have k_law_rise_total := D_law_rise_total.kp
  have b_law_rise_total := bd_law_rise_total D_law_rise_total
  obtain ⟨fd_order_with, G_order_with, D_order_with⟩ := ok_order_with (P := P) (w := w) (base := base) T
  have k_order_with := D_order_with.kp
  have b_order_with := bd_order_with D_order_with
  refine ⟨fd, funD_okG F sc_law_places_right (fun vs H Q E h => ?_) (fun cdv A outer s H vs Q E gu hr h => ?_), F⟩
  · rw [F_law_places_right_eq] at h
    exact spD_len (np := 1) (fun _ _ _ h => h.1) vs H Q E h
  · rw [F_law_places_right_eq] at h
    refine ⟨_, PSs.nox (pss_cons (ps_set (i := 1) sc_law_places_right.nd rfl (by first | exact Or.inl rfl | exact Or.inr rfl) (pe_call G_law_length (hr.mono (by decide)) rfl T.g__law_length k_law_length b_law_length .nil pass0 (pa_cons (pv 0) pa_nil)))
    (pss_cons (ps_set (i := 2) sc_law_places_right.nd rfl (by first | exact Or.inl rfl | exact Or.inr rfl) (pe_call G_law_order (hr.mono (by decide)) rfl T.g__law_order k_law_order b_law_order .nil pass0 (pa_cons (pv 0) (pa_cons (pv 1) pa_nil))))
    (pss_cons (ps_set (i := 3) sc_law_places_right.nd rfl (by first | exact Or.inl rfl | exact Or.inr rfl) (pe_ifExp (pt_cmpR (op_ltU rfl hr.units0) (pv 1) pe_int (by first | exact nomark _ | rfl)) (pe_callTy (call_lstU (K := K) rfl) (by rfl) T.z_list (by decide +kernel) (pa_cons (pv 2) pa_nil)) (pe_lst (pa_cons (pe_ix (ix_U (K := K) rfl) (pv 2) (pe_call G_law_take (hr.mono (by decide)) rfl T.g__law_take k_law_take b_law_take .nil pass0 (pa_cons (pv 0) (pa_cons (pv 1) pa_nil))) (fun _ _ => rfl)) (pa_cons pe_int (pa_cons (pv 1) pa_nil))))))
    (pss_cons (ps_for PassesOwn.never rfl (pi_seq (pv 3)) (pg_name (i := 4) sc_law_places_right.nd rfl (by first | exact Or.inl rfl | exact Or.inr rfl))
    (pss_cons (ps_set (i := 5) sc_law_places_right.nd rfl (by first | exact Or.inl rfl | exact Or.inr rfl) (pe_call G_law_without (hr.mono (by decide)) rfl T.g__law_without k_law_without b_law_without .nil pass0 (pa_cons (pv 2) (pa_cons (pv 4) pa_nil))))
    (pss_cons (ps_set (i := 6) sc_law_places_right.nd rfl (by first | exact Or.inl rfl | exact Or.inr rfl) (pe_callTy (call_lstU (K := K) rfl) (by rfl) T.z_list (by decide +kernel) (pa_cons (pv 5) pa_nil)))
    (pss_cons (ps_if (PW.pt (pw_or (pt_cmpR (op_neU rfl hr.units) (pe_callB (call_reprG (K := K) rfl gu hr.units) (by rfl) T.z_repr (by decide +kernel) (pa_cons (pe_call G_row_without (hr.mono (by decide)) rfl T.g_row_without k_row_without b_row_without .nil passL (pa_cons (pv 2) (pa_cons (pv 4) pa_nil))) pa_nil)) (pe_callB (call_reprG (K := K) rfl gu hr.units) (by rfl) T.z_repr (by decide +kernel) (pa_cons (pv 5) pa_nil)) (by first | exact nomark _ | rfl)) (pw_or1 (pt_cmpR (op_neU rfl hr.units) (pe_callB (call_reprG (K := K) rfl gu hr.units) (by rfl) T.z_repr (by decide +kernel) (pa_cons (pe_call G_lacking_member (hr.mono (by decide)) rfl T.g_lacking_member k_lacking_member b_lacking_member .nil passL (pa_cons (pv 1) (pa_cons (pv 6) pa_nil))) pa_nil)) (pe_callB (call_reprG (K := K) rfl gu hr.units) (by rfl) T.z_repr (by decide +kernel) (pa_cons (pv 4) pa_nil)) (by first | exact nomark _ | rfl)))))
    (pss_one (ps_ret pe_bl))
    pss_nil)
    (pss_cons (ps_set (i := 7) sc_law_places_right.nd rfl (by first | exact Or.inl rfl | exact Or.inr rfl) (pe_call G_places_tried (hr.mono (by decide)) rfl T.g_places_tried k_places_tried b_places_tried .nil passL (pa_cons (pv 1) (pa_cons (pv 6) pa_nil))))
    (pss_cons (ps_if (PW.pt (pw_or (pt_cmpR (op_neU rfl hr.units) (pv 6) (pe_callTy (call_lstU (K := K) rfl) (by rfl) T.z_list (by decide +kernel) (pa_cons (pv 5) pa_nil)) (by first | exact nomark _ | rfl)) (pw_or (pt_not (pt_tru rfl (pe_callB (call_isiU (K := K) rfl) (by rfl) T.z_isinstance (by decide +kernel) (pa_cons (pv 7) (pa_cons (pe_bltn (v := .ty "tuple") (by rfl) T.z_tuple (by decide +kernel) rfl) pa_nil))) (by intro _; rfl))) (pw_or1 (pt_cmpR (op_neU rfl hr.units) (pe_callB (call_lenU (K := K) rfl) (by rfl) T.z_len (by decide +kernel) (pa_cons (pv 7) pa_nil)) (pv 1) (by first | exact nomark _ | rfl))))))
    (pss_one (ps_ret pe_bl))
    pss_nil)
    (pss_cons (ps_set (i := 8) sc_law_places_right.nd rfl (by first | exact Or.inl rfl | exact Or.inr rfl) (pe_lst pa_nil))
    (pss_cons (ps_for PassesOwn.never rfl (pi_range2 (by rfl) T.z_range (pa_cons pe_int (pa_cons (pe_op (op_addU rfl) (pv 1) pe_int) pa_nil))) (pg_name (i := 9) sc_law_places_right.nd rfl (by first | exact Or.inl rfl | exact Or.inr rfl))
    (pss_cons (ps_set (i := 10) sc_law_places_right.nd rfl (by first | exact Or.inl rfl | exact Or.inr rfl) (pe_call G_law_with (hr.mono (by decide)) rfl T.g__law_with k_law_with b_law_with .nil pass0 (pa_cons (pv 5) (pa_cons (pv 4) (pa_cons (pv 9) pa_nil)))))
    (pss_cons (ps_if (pt_cmpR (op_neU rfl hr.units) (pe_callB (call_reprG (K := K) rfl gu hr.units) (by rfl) T.z_repr (by decide +kernel) (pa_cons (pe_ix (ix_U (K := K) rfl) (pv 7) (pe_op op_sub (pv 9) pe_int) (fun _ _ => rfl)) pa_nil)) (pe_callB (call_reprG (K := K) rfl gu hr.units) (by rfl) T.z_repr (by decide +kernel) (pa_cons (pe_call G_law_rise_word (hr.mono (by decide)) rfl T.g__law_rise_word k_law_rise_word b_law_rise_word .nil pass0 (pa_cons (pv 10) pa_nil)) pa_nil)) (by first | exact nomark _ | rfl))
    (pss_one (ps_ret pe_bl))
    pss_nil)
    (pss_one (ps_expr (pe_bm PySem.F.plainAttrs_list PySem.F.slot_list_append PySem.F.type_list_append mt_append (pv 8) (pa_cons (pe_op op_mod (pe_callTy call_intU (by rfl) T.z_int (by decide +kernel) (pa_cons (pe_call G_law_rise_total (hr.mono (by decide)) rfl T.g__law_rise_total k_law_rise_total b_law_rise_total .nil pass0 (pa_cons (pv 10) pa_nil)) pa_nil)) (pv 1)) pa_nil)))))))
    (pss_cons (ps_if (PW.pt (pw_or (pt_cmpR (op_neU rfl hr.units) (pe_callB (call_sortedU (K := K) rfl) (by rfl) T.z_sorted (by decide +kernel) (pa_cons (pv 8) pa_nil)) (pe_listRg rfl rfl T.z_list (prg_1 rfl T.z_range (pv 1))) (by first | exact nomark _ | rfl)) (pw_or1 (pt_cmpR (op_neU rfl hr.units) (pe_callB cr_lenSG (by rfl) T.z_len (by decide +kernel) (pa_cons (pe_callTy (cr_setOfG rfl hr.units) (by rfl) T.z_set (by decide +kernel) (pa_cons (pe_callTy (call_lstU (K := K) rfl) (by rfl) T.z_list (by decide +kernel) (pa_cons (pv 7) pa_nil)) pa_nil)) pa_nil)) (pv 1) (by first | exact nomark _ | rfl)))))
    (pss_one (ps_ret pe_bl))
    pss_nil)
    (pss_cons (ps_set (i := 9) sc_law_places_right.nd rfl (by first | exact Or.inl rfl | exact Or.inr rfl) (pe_op (op_addU rfl) pe_int (pe_call G_law_take (hr.mono (by decide)) rfl T.g__law_take k_law_take b_law_take .nil pass0 (pa_cons (pv 0) (pa_cons (pv 1) pa_nil)))))
    (pss_one (ps_if (pt_cmpR (op_neU rfl hr.units) (pe_callB (call_reprG (K := K) rfl gu hr.units) (by rfl) T.z_repr (by decide +kernel) (pa_cons (pe_call G_order_with (hr.mono (by decide)) rfl T.g_order_with k_order_with b_order_with .nil passL (pa_cons (pv 1) (pa_cons (pv 6) (pa_cons (pv 9) pa_nil)))) pa_nil)) (pe_callB (call_reprG (K := K) rfl gu hr.units) (by rfl) T.z_repr (by decide +kernel) (pa_cons (pe_call G_law_with (hr.mono (by decide)) rfl T.g__law_with k_law_with b_law_with .nil pass0 (pa_cons (pv 5) (pa_cons (pv 4) (pa_cons (pv 9) pa_nil)))) pa_nil)) (by first | exact nomark _ | rfl))
    (pss_one (ps_ret pe_bl))
    pss_nil))))))))))))
    (pss_one (ps_ret pe_bl)))))), ?_⟩
    exact body_of0 rfl h fun X hd => (dst_seq (dst_asg (de_call0 dv_nil (ds_hand (i := 0) ds_nil)) (dg_name 1))
    (dst_of S_law_places_right_r2_eq
    (dst_seq (dst_asg (de_call0 dv_nil (ds_hand (i := 0) (ds_cons (de_var 1) ds_nil))) (dg_name 2))
    (dst_of S_law_places_right_r3_eq
    (dst_seq (dst_asg (dg_if (dt_test (dg_op od_lt (db_var 1) (DEg.bor (de_int 9)))) (DEg.cln (dg_cb cg_lst (db_cons (db_var 2) db_nil))) (DEg.cln (df_lst (da_cons (dg_op od_ix (db_var 2) (DEg.bor (de_call0 dv_nil (ds_hand (i := 0) (ds_cons (de_var 1) ds_nil))))) (da_cons (de_int 1) (da_cons (de_var 1) da_nil)))))) (dg_name 3))
    (dst_of S_law_places_right_r4_eq
    (dst_seq (dst_for (di_seq (R := Cln) (de_var 3)) (dg_name 4)
    (dst_of S_law_places_right_b5_eq
    (dst_seq (dst_asg (de_call0 dv_nil (ds_cons (de_var 2) (ds_cons (de_var 4) ds_nil))) (dg_name 5))
    (dst_of S_law_places_right_r6_eq
    (dst_seq (dst_asg (DEg.cln (dg_cb cg_lst (db_cons (db_var 5) db_nil))) (dg_name 6))
    (dst_of S_law_places_right_r7_eq
    (dst_seq (dst_if (dt_or (dt_test (dg_op od_ne (DEg.bor (dg_cb cg_repr (db_cons (DEg.bor (de_call0 dv_nil (ds_cons (de_var 2) (ds_cons (de_var 4) ds_nil)))) db_nil))) (DEg.bor (dg_cb cg_repr (db_cons (db_var 5) db_nil))))) (dt_test (dg_op od_ne (DEg.bor (dg_cb cg_repr (db_cons (DEg.bor (de_call0 dv_nil (ds_cons (de_var 1) (ds_cons (de_var 6) ds_nil)))) db_nil))) (DEg.bor (dg_cb cg_repr (db_cons (db_var 4) db_nil))))))
    (dst_ret (de_bl false))
    dst_next)
    (dst_of S_law_places_right_r9_eq
    (dst_seq (dst_asg (de_call0 dv_nil (ds_cons (de_var 1) (ds_cons (de_var 6) ds_nil))) (dg_name 7))
    (dst_of S_law_places_right_r10_eq
    (dst_seq (dst_if (dt_or (dt_test (dg_op od_ne (db_var 6) (DEg.bor (DEg.cln (dg_cb cg_lst (db_cons (db_var 5) db_nil)))))) (dt_or (dt_not (dt_tru (DEg.bor (dg_cb (cg_isi known_tuple) (db_cons (db_var 7) (db_cons (DEg.bor (de_raw (.ty "tuple"))) db_nil)))))) (dt_test (dg_op od_ne (DEg.bor (dg_cb cg_len (db_cons (db_var 7) db_nil))) (db_var 1)))))
    (dst_ret (de_bl false))
    dst_next)
    (dst_of S_law_places_right_r12_eq
    (dst_seq (dst_own (df_lst da_nil))
    (dst_of S_law_places_right_r13_eq
    (dst_seq (dst_for (di_rng2 (db_cons (DEg.bor (de_int 1)) (db_cons (DEg.bor (dg_op od_add (db_var 1) (DEg.bor (de_int 1)))) db_nil))) (dg_name 9)
    (dst_of S_law_places_right_b14_eq
    (dst_seq (dst_asg (de_call0 dv_nil (ds_cons (de_var 5) (ds_cons (de_var 4) (ds_cons (de_var 9) ds_nil)))) (dg_name 10))
    (dst_of S_law_places_right_r15_eq
    (dst_seq (dst_if (dt_test (dg_op od_ne (DEg.bor (dg_cb cg_repr (db_cons (DEg.bor (dg_op od_ix (db_var 7) (DEg.bor (dg_op od_sub (db_var 9) (DEg.bor (de_int 1)))))) db_nil))) (DEg.bor (dg_cb cg_repr (db_cons (DEg.bor (de_call0 dv_nil (ds_cons (de_var 10) ds_nil))) db_nil)))))
    (dst_ret (de_bl false))
    dst_next)
    (dst_of S_law_places_right_r17_eq
    (dst_app (dg_op od_mod (DEg.bor (dg_cb cg_int (db_cons (DEg.bor (de_call0 dv_nil (ds_cons (de_var 10) ds_nil))) db_nil))) (db_var 1)))))))))
    (dst_of S_law_places_right_r18_eq
    (dst_seq (dst_if (dt_or (dt_test (dg_op od_ne (DEg.bor (DEg.cln (dg_cb cg_sortedU (db_cons (db_var 8) db_nil)))) (DEg.bor (DEg.cln (df_listRg1 (de_var 1)))))) (dt_test (dg_op od_ne (DEg.bor (de_lenSetG (DEg.bor (DEg.cln (dg_cb cg_lst (db_cons (db_var 7) db_nil)))))) (db_var 1))))
    (dst_ret (de_bl false))
    dst_next)
    (dst_of S_law_places_right_r20_eq
    (dst_seq (dst_asg (dg_op od_add (DEg.bor (de_int 1)) (DEg.bor (de_call0 dv_nil (ds_hand (i := 0) (ds_cons (de_var 1) ds_nil))))) (dg_name 9))
    (dst_of S_law_places_right_r21_eq
    (dst_if (dt_test (dg_op od_ne (DEg.bor (dg_cb cg_repr (db_cons (DEg.bor (de_call0 dv_nil (ds_cons (de_var 1) (ds_cons (de_var 6) (ds_cons (de_var 9) ds_nil))))) db_nil))) (DEg.bor (dg_cb cg_repr (db_cons (DEg.bor (de_call0 dv_nil (ds_cons (de_var 5) (ds_cons (de_var 4) (ds_cons (de_var 9) ds_nil))))) db_nil)))))
    (dst_ret (de_bl false))
    dst_next)))))))))))))))))))))
    (dst_of S_law_places_right_r23_eq
    (dst_ret (de_bl true))))))))))
end Mine

namespace Mine
open PySem PySem.Spec PyProof.Rows L2
theorem ok_check_any_row {P : Program} {w : World} {K : PySem.W.Frag} {mg : Str → Option Value} {base : Heap} (T : Txt K mg) : ∃ fd, FnOk P w K mg base (L2.CX P w) 4 (He.ga K "_check_any_row") fd P_check_any_row (spD K F_check_any_row) ∧ D_check_any_row K (He.ga K "_check_any_row") fd := by
  obtain ⟨fd, F⟩ := T.F_check_any_row
  obtain ⟨fd_BadRow___init, G_BadRow___init, D_BadRow___init⟩ := ok_BadRow___init (P := P) (w := w) (base := base) T
  have k_BadRow___init := D_BadRow___init.kp
  have b_BadRow___init := bd_BadRow___init D_BadRow___init
  obtain ⟨fd_check_row, G_check_row, D_check_row⟩ := ok_check_row (P := P) (w := w) (base := base) T
  have k_check_row := D_check_row.kp
  have b_check_row := bd_check_row D_check_row
  refine ⟨fd, F.ok sc_check_any_row (fun vs H Q E h => ?_) (fun cdv A outer s H vs Q E hr h => ?_), F⟩
  · rw [F_check_any_row_eq] at h
    exact spD_len (np := 1) (fun _ _ _ h => h.1) vs H Q E h
  · rw [F_check_any_row_eq] at h
    refine ⟨_, (pss_cons (ps_if (PW.pt (pw_or (pt_not (pt_tru rfl (pe_callB (call_isiTU (K := K) rfl) (by rfl) T.z_isinstance (by decide +kernel) (pa_cons (pv 0) (pa_cons (pe_tup (pa_cons (pe_bltn (v := .ty "list") (by rfl) T.z_list (by decide +kernel) rfl) (pa_cons (pe_bltn (v := .ty "tuple") (by rfl) T.z_tuple (by decide +kernel) rfl) pa_nil))) pa_nil))) (by intro _; rfl))) (pw_or1 (pt_cmpR op_gt (pe_callB (call_lenU (K := K) rfl) (by rfl) T.z_len (by decide +kernel) (pa_cons (pv 0) pa_nil)) (pe_glob (v := .int (40)) rfl T.c_MOST_MEMBERS.choose_spec ⟨_, rfl⟩) (by first | exact nomark _ | rfl)))))
    (pss_one (ps_raise rfl (takes_of rfl rfl rfl rfl) (mk1 T.x_BadRow T.g_BadRow G_BadRow___init b_BadRow___init (hr.mono (by decide)) (mon_un (mon_rU _) (mon_c _)) (pe_un un_neg pe_int) rfl)))
    pss_nil)
    (pss_one (ps_ret (pe_call G_check_row (hr.mono (by decide)) rfl T.g_check_row k_check_row b_check_row .nil (E := E) (passes_call (takes_of rfl rfl rfl rfl) fun _ _ _ _ h => h) (pa_cons (pe_glob (v := .int (40)) rfl T.c_MOST_MEMBERS.choose_spec ⟨_, rfl⟩) (pa_cons (pv 0) (pa_cons (pe_callB (call_lenU (K := K) rfl) (by rfl) T.z_len (by decide +kernel) (pa_cons (pv 0) pa_nil)) pa_nil))))))), ?_⟩
    exact body_of rfl h fun X hd => (dst_seq (dst_if (dt_or (dt_not (dt_tru (DEg.bor (dg_cb (cg_isi2 known_list known_tuple) (db_cons (db_var 0) (db_cons (DEg.bor (de_tup (da_cons (de_raw (.ty "list")) (da_cons (de_raw (.ty "tuple")) da_nil)))) db_nil)))))) (dt_test (dg_op od_gt (DEg.bor (dg_cb cg_len (db_cons (db_var 0) db_nil))) (DEg.bor (de_int (40))))))
    (dst_raise1 rfl (de_un ud_neg (DEg.bor (de_int 1))))
    dst_next)
    (dst_ret (de_call rfl dv_nil (ds_cons (de_int (40)) (ds_cons (de_var 0) (ds_cons (dg_cb cg_len (db_cons (db_var 0) db_nil)) ds_nil))))))
end Mine

namespace Mine
open PySem PySem.Spec PyProof.Rows L2
theorem ok_order_rises {P : Program} {w : World} {K : PySem.W.Frag} {mg : Str → Option Value} {base : Heap} (T : Txt K mg) : ∃ fd, FnOk P w K mg base (L2.CX P w) 5 (He.ga K "order_rises") fd P_order_rises (spD K F_order_rises) ∧ D_order_rises K (He.ga K "order_rises") fd := by
  obtain ⟨fd, F⟩ := T.F_order_rises
  obtain ⟨fd_rise_word, G_rise_word, D_rise_word⟩ := ok_rise_word (P := P) (w := w) (base := base) T
  have k_rise_word := D_rise_word.kp
  have b_rise_word := bd_rise_word D_rise_word
  obtain ⟨fd_check_any_row, G_check_any_row, D_check_any_row⟩ := ok_check_any_row (P := P) (w := w) (base := base) T
  have k_check_any_row := D_check_any_row.kp
  have b_check_any_row := bd_check_any_row D_check_any_row
  refine ⟨fd, F.ok sc_order_rises (fun vs H Q E h => ?_) (fun cdv A outer s H vs Q E hr h => ?_), F⟩
  · rw [F_order_rises_eq] at h
    exact spD_len (np := 1) (fun _ _ _ h => h.1) vs H Q E h
  · rw [F_order_rises_eq] at h
    refine ⟨_, (pss_one (ps_ret (pe_call G_rise_word (hr.mono (by decide)) rfl T.g__rise_word k_rise_word b_rise_word .nil pass0 (pa_cons (pe_call G_check_any_row (hr.mono (by decide)) rfl T.g__check_any_row k_check_any_row b_check_any_row .nil (E := E) (passes_call (takes_of rfl rfl rfl rfl) fun _ _ _ _ h => h) (pa_cons (pv 0) pa_nil)) pa_nil)))), ?_⟩
    exact body_of rfl h fun X hd => (dst_ret (de_call0 dv_nil (ds_cons (de_call rfl dv_nil (ds_cons (de_var 0) ds_nil)) ds_nil)))
end Mine

namespace Mine
open PySem PySem.Spec PyProof.Rows L2
theorem ok_order_total {P : Program} {w : World} {K : PySem.W.Frag} {mg : Str → Option Value} {base : Heap} (T : Txt K mg) : ∃ fd, FnOk P w K mg base (L2.CX P w) 5 (He.ga K "order_total") fd P_order_total (spD K F_order_total) ∧ D_order_total K (He.ga K "order_total") fd := by
  obtain ⟨fd, F⟩ := T.F_order_total
  obtain ⟨fd_check_any_row, G_check_any_row, D_check_any_row⟩ := ok_check_any_row (P := P) (w := w) (base := base) T
  have k_check_any_row := D_check_any_row.kp
  have b_check_any_row := bd_check_any_row D_check_any_row
  refine ⟨fd, F.ok sc_order_total (fun vs H Q E h => ?_) (fun cdv A outer s H vs Q E hr h => ?_), F⟩
  · rw [F_order_total_eq] at h
    exact spD_len (np := 1) (fun _ _ _ h => h.1) vs H Q E h
  · rw [F_order_total_eq] at h
    refine ⟨_, (pss_cons (ps_set (i := 0) sc_order_total.nd rfl (by first | exact Or.inl rfl | exact Or.inr rfl) (pe_call G_check_any_row (hr.mono (by decide)) rfl T.g__check_any_row k_check_any_row b_check_any_row .nil (E := E) (passes_call (takes_of rfl rfl rfl rfl) fun _ _ _ _ h => h) (pa_cons (pv 0) pa_nil)))
    (pss_one (ps_ret (pe_callB (CallR.k (r := rSumA) (K := K) (cr_sumA rfl) rfl) (by rfl) T.z_sum (by decide +kernel) (pa_cons (pe_lc (own := [("place", 1)]) rfl sc_order_total.nd (pi_range2 (by rfl) T.z_range (pa_cons pe_int (pa_cons (pe_callB (call_lenU (K := K) rfl) (by rfl) T.z_len (by decide +kernel) (pa_cons (pv 0) pa_nil)) pa_nil))) (blkOk_by (own := [("place", 1)]) (N := N_order_total) (sc := defScope s_order_total) (by decide +kernel)) (fun _ _ _ _ _ => (pg_name (i := 1) sc_order_total.nd rfl (by first | exact Or.inl rfl | exact Or.inr rfl))) (fun _ _ _ _ _ => (pts_one (pt_cmpR op_gt (pe_ix (ix_U (K := K) rfl) (pv 0) (pv 1) (fun _ _ => rfl)) (pe_ix (ix_U (K := K) rfl) (pv 0) (pe_op op_sub (pv 1) pe_int) (fun _ _ => rfl)) (by first | exact nomark _ | rfl)))) (fun _ _ _ _ _ => (pv 1))) pa_nil))))), ?_⟩
    exact body_of rfl h fun X hd => (dst_seq (dst_asg (de_call rfl dv_nil (ds_cons (de_var 0) ds_nil)) (dg_name 0))
    (dst_ret (dg_cb cg_sum (db_cons (DEg.bor (DEg.cln (df_lc (di_rng2 (db_cons (DEg.bor (de_int 1)) (db_cons (DEg.bor (dg_cb cg_len (db_cons (db_var 0) db_nil))) db_nil))) (dg_name 1) (dt_test (dg_op od_gt (DEg.bor (dg_op od_ix (db_var 0) (db_var 1))) (DEg.bor (dg_op od_ix (db_var 0) (DEg.bor (dg_op od_sub (db_var 1) (DEg.bor (de_int 1)))))))) (de_var 1)))) db_nil))))
end Mine

namespace Mine
open PySem PySem.Spec PyProof.Rows L2
theorem ok_law_any_right {P : Program} {w : World} {K : PySem.W.Frag} {mg : Str → Option Value} {base : Heap} (T : Txt K mg) : ∃ fd, FnG P w K mg base CX0 6 (He.ga K "_law_any_right") fd P_law_any_right (spD K F_law_any_right) ∧ D_law_any_right K (He.ga K "_law_any_right") fd := by
  obtain ⟨fd, F⟩ := T.F_law_any_right
  obtain ⟨fd_law_order, G_law_order, D_law_order⟩ := ok_law_order (P := P) (w := w) (base := base) T
  have k_law_order := D_law_order.kp
  have b_law_order := bd_law_order D_law_order
  obtain ⟨fd_law_take, G_law_take, D_law_take⟩ := ok_law_take (P := P) (w := w) (base := base) T
  have k_law_take := D_law_take.kp
  have b_law_take := bd_law_take D_law_take
  obtain ⟨fd_order_rises, G_order_rises, D_order_rises⟩ := ok_order_rises (P := P) (w := w) (base := base) T
  have k_order_rises := D_order_rises.kp
  have b_order_rises := bd_order_rises D_order_rises
  obtain ⟨fd_law_rise_word, G_law_rise_word, D_law_rise_word⟩ := ok_law_rise_word (P := P) (w := w) (base := base) T
  have k_law_rise_word := D_law_rise_word.kp
  have b_law_rise_word := bd_law_rise_word D_law_rise_word
  obtain ⟨fd_check_row, G_check_row, D_check_row⟩ := ok_check_row (P := P) (w := w) (base := base) T
  have k_check_row := D_check_row.kp
  have b_check_row := bd_check_row D_check_row
  obtain ⟨fd_order_total, G_order_total, D_order_total⟩ := ok_order_total (P := P) (w := w) (base := base) T
  have k_order_total := D_order_total.kp
  have b_order_total := bd_order_total D_order_total
  obtain ⟨fd_law_rise_total, G_law_rise_total, D_law_rise_total⟩ := ok_law_rise_total (P := P) (w := w) (base := base) T
  have k_law_rise_total := D_law_rise_total.kp
  have b_law_rise_total := bd_law_rise_total D_law_rise_total
  refine ⟨fd, funD_okG F sc_law_any_right (fun vs H Q E h => ?_) (fun cdv A outer s H vs Q E gu hr h => ?_), F⟩
  · rw [F_law_any_right_eq] at h
    exact spD_len (np := 1) (fun _ _ _ h => h.1) vs H Q E h
  · rw [F_law_any_right_eq] at h
    refine ⟨_, PSs.nox (pss_cons (ps_set (i := 1) sc_law_any_right.nd rfl (by first | exact Or.inl rfl | exact Or.inr rfl) (pe_slice (sl_U rfl) (pe_call G_law_order (hr.mono (by decide)) rfl T.g__law_order k_law_order b_law_order .nil pass0 (pa_cons (pv 0) (pa_cons pe_int pa_nil))) po_none (po_some (pe_call G_law_take (hr.mono (by decide)) rfl T.g__law_take k_law_take b_law_take .nil pass0 (pa_cons (pv 0) (pa_cons pe_int pa_nil))))))
    (pss_cons (ps_if (pt_cmpR (op_neU rfl hr.units) (pe_callB (call_reprG (K := K) rfl gu hr.units) (by rfl) T.z_repr (by decide +kernel) (pa_cons (pe_call G_order_rises (hr.mono (by decide)) rfl T.g_order_rises k_order_rises b_order_rises .nil passL (pa_cons (pe_callTy (call_lstU (K := K) rfl) (by rfl) T.z_list (by decide +kernel) (pa_cons (pv 1) pa_nil)) pa_nil)) pa_nil)) (pe_callB (call_reprG (K := K) rfl gu hr.units) (by rfl) T.z_repr (by decide +kernel) (pa_cons (pe_call G_law_rise_word (hr.mono (by decide)) rfl T.g__law_rise_word k_law_rise_word b_law_rise_word .nil pass0 (pa_cons (pv 1) pa_nil)) pa_nil)) (by first | exact nomark _ | rfl))
    (pss_one (ps_ret pe_bl))
    pss_nil)
    (pss_one (ps_ret (pe_and (pe_cmpR (op_eqU rfl hr.units) (pe_callB (call_reprG (K := K) rfl gu hr.units) (by rfl) T.z_repr (by decide +kernel) (pa_cons (pe_call G_order_total (hr.mono (by decide)) rfl T.g_order_total k_order_total b_order_total .nil passL (pa_cons (pv 1) pa_nil)) pa_nil)) (pe_callB (call_reprG (K := K) rfl gu hr.units) (by rfl) T.z_repr (by decide +kernel) (pa_cons (pe_call G_law_rise_total (hr.mono (by decide)) rfl T.g__law_rise_total k_law_rise_total b_law_rise_total .nil pass0 (pa_cons (pv 1) pa_nil)) pa_nil)) (by first | exact nomark _ | rfl)) (pe_one (pe_cmpR (op_eqU rfl hr.units) (pe_callB (call_reprG (K := K) rfl gu hr.units) (by rfl) T.z_repr (by decide +kernel) (pa_cons (pe_call G_check_row (hr.mono (by decide)) rfl T.g_check_row k_check_row b_check_row .nil passL (pa_cons pe_int (pa_cons (pv 1) (pa_cons (pe_callB (call_lenU (K := K) rfl) (by rfl) T.z_len (by decide +kernel) (pa_cons (pv 1) pa_nil)) pa_nil)))) pa_nil)) (pe_callB (call_reprG (K := K) rfl gu hr.units) (by rfl) T.z_repr (by decide +kernel) (pa_cons (pv 1) pa_nil)) (by first | exact nomark _ | rfl)))))))), ?_⟩
    exact body_of0 rfl h fun X hd => (dst_seq (dst_asg (dg_sl sg_U (DEg.bor (de_call0 dv_nil (ds_hand (i := 0) (ds_cons (de_int 40) ds_nil)))) do_none (do_some (de_call0 dv_nil (ds_hand (i := 0) (ds_cons (de_int 41) ds_nil))))) (dg_name 1))
    (dst_of S_law_any_right_r2_eq
    (dst_seq (dst_if (dt_test (dg_op od_ne (DEg.bor (dg_cb cg_repr (db_cons (DEg.bor (de_call0 dv_nil (ds_cons (DEg.cln (dg_cb cg_lst (db_cons (db_var 1) db_nil))) ds_nil))) db_nil))) (DEg.bor (dg_cb cg_repr (db_cons (DEg.bor (de_call0 dv_nil (ds_cons (de_var 1) ds_nil))) db_nil)))))
    (dst_ret (de_bl false))
    dst_next)
    (dst_of S_law_any_right_r4_eq
    (dst_ret (de_andV (dg_op od_eq (DEg.bor (dg_cb cg_repr (db_cons (DEg.bor (de_call0 dv_nil (ds_cons (de_var 1) ds_nil))) db_nil))) (DEg.bor (dg_cb cg_repr (db_cons (DEg.bor (de_call0 dv_nil (ds_cons (de_var 1) ds_nil))) db_nil)))) (dg_op od_eq (DEg.bor (dg_cb cg_repr (db_cons (DEg.bor (de_call0 dv_nil (ds_cons (de_int 40) (ds_cons (de_var 1) (ds_cons (dg_cb cg_len (db_cons (db_var 1) db_nil)) ds_nil))))) db_nil))) (DEg.bor (dg_cb cg_repr (db_cons (db_var 1) db_nil))))))))))
end Mine

namespace Mine
open PySem PySem.Spec PyProof.Rows L2
theorem ok_contrary_order {P : Program} {w : World} {K : PySem.W.Frag} {mg : Str → Option Value} {base : Heap} (T : Txt K mg) : ∃ fd, FnOk P w K mg base (L2.CX P w) 5 (He.ga K "contrary_order") fd P_contrary_order (spD K F_contrary_order) ∧ D_contrary_order K (He.ga K "contrary_order") fd := by
  obtain ⟨fd, F⟩ := T.F_contrary_order
  obtain ⟨fd_check_order, G_check_order, D_check_order⟩ := ok_check_order (P := P) (w := w) (base := base) T
  have k_check_order := D_check_order.kp
  have b_check_order := bd_check_order D_check_order
  refine ⟨fd, F.ok sc_contrary_order (fun vs H Q E h => ?_) (fun cdv A outer s H vs Q E hr h => ?_), F⟩
  · rw [F_contrary_order_eq] at h
    exact spD_len (np := 1) (fun _ _ _ h => h.1) vs H Q E h
  · rw [F_contrary_order_eq] at h
    refine ⟨_, (pss_cons (ps_set (i := 0) sc_contrary_order.nd rfl (by first | exact Or.inl rfl | exact Or.inr rfl) (pe_call G_check_order (hr.mono (by decide)) rfl T.g_check_order k_check_order b_check_order .nil (E := E) (passes_call (takes_of rfl rfl rfl rfl) fun _ _ _ _ h => h) (pa_cons (pv 0) pa_nil)))
    (pss_one (ps_ret (pe_callTy (call_tupU (K := K) rfl) (by rfl) T.z_tuple (by decide +kernel) (pa_cons (pe_lc (own := [("member", 1)]) rfl sc_contrary_order.nd (pi_seq (pv 0)) (blkOk_by (own := [("member", 1)]) (N := N_contrary_order) (sc := defScope s_contrary_order) (by decide +kernel)) (fun _ _ _ _ _ => (pg_name (i := 1) sc_contrary_order.nd rfl (by first | exact Or.inl rfl | exact Or.inr rfl))) (fun _ _ _ _ _ => pts_nil) (fun _ _ _ _ _ => (pe_op op_sub (pe_op (op_addU rfl) (pe_callB (call_lenU (K := K) rfl) (by rfl) T.z_len (by decide +kernel) (pa_cons (pv 0) pa_nil)) pe_int) (pv 1)))) pa_nil))))), ?_⟩
    exact body_of rfl h fun X hd => (dst_seq (dst_asg (de_call rfl dv_nil (ds_cons (de_var 0) ds_nil)) (dg_name 0))
    (dst_ret (dg_cb cg_tup (db_cons (DEg.bor (DEg.cln (df_lc (di_seq (R := Bor) (db_var 0)) (dg_name 1) dt_yes (dg_op od_sub (DEg.bor (dg_op od_add (DEg.bor (dg_cb cg_len (db_cons (db_var 0) db_nil))) (DEg.bor (de_int 1)))) (db_var 1))))) db_nil))))
end Mine

namespace Mine
open PySem PySem.Spec PyProof.Rows L2
theorem ok_turned_order {P : Program} {w : World} {K : PySem.W.Frag} {mg : Str → Option Value} {base : Heap} (T : Txt K mg) : ∃ fd, FnOk P w K mg base (L2.CX P w) 5 (He.ga K "turned_order") fd P_turned_order (spD K F_turned_order) ∧ D_turned_order K (He.ga K "turned_order") fd := by
  obtain ⟨fd, F⟩ := T.F_turned_order
  obtain ⟨fd_check_order, G_check_order, D_check_order⟩ := ok_check_order (P := P) (w := w) (base := base) T
  have k_check_order := D_check_order.kp
  have b_check_order := bd_check_order D_check_order
  refine ⟨fd, F.ok sc_turned_order (fun vs H Q E h => ?_) (fun cdv A outer s H vs Q E hr h => ?_), F⟩
  · rw [F_turned_order_eq] at h
    exact spD_len (np := 1) (fun _ _ _ h => h.1) vs H Q E h
  · rw [F_turned_order_eq] at h
    refine ⟨_, (pss_one (ps_ret (pe_revU (pe_call G_check_order (hr.mono (by decide)) rfl T.g_check_order k_check_order b_check_order .nil (E := E) (passes_call (takes_of rfl rfl rfl rfl) fun _ _ _ _ h => h) (pa_cons (pv 0) pa_nil))))), ?_⟩
    exact body_of rfl h fun X hd => (dst_ret (de_rev (DEg.bor (de_call rfl dv_nil (ds_cons (de_var 0) ds_nil)))))
end Mine

namespace Mine
open PySem PySem.Spec PyProof.Rows L2
theorem ok_law_turned_right {P : Program} {w : World} {K : PySem.W.Frag} {mg : Str → Option Value} {base : Heap} (T : Txt K mg) : ∃ fd, FnG P w K mg base CX0 6 (He.ga K "_law_turned_right") fd P_law_turned_right (spD K F_law_turned_right) ∧ D_law_turned_right K (He.ga K "_law_turned_right") fd := by
  obtain ⟨fd, F⟩ := T.F_law_turned_right
  obtain ⟨fd_law_length, G_law_length, D_law_length⟩ := ok_law_length (P := P) (w := w) (base := base) T
  have k_law_length := D_law_length.kp
  have b_law_length := bd_law_length D_law_length
  obtain ⟨fd_law_order, G_law_order, D_law_order⟩ := ok_law_order (P := P) (w := w) (base := base) T
  have k_law_order := D_law_order.kp
  have b_law_order := bd_law_order D_law_order
  obtain ⟨fd_law_rise_total, G_law_rise_total, D_law_rise_total⟩ := ok_law_rise_total (P := P) (w := w) (base := base) T
  have k_law_rise_total := D_law_rise_total.kp
  have b_law_rise_total := bd_law_rise_total D_law_rise_total
  obtain ⟨fd_contrary_order, G_contrary_order, D_contrary_order⟩ := ok_contrary_order (P := P) (w := w) (base := base) T
  have k_contrary_order := D_contrary_order.kp
  have b_contrary_order := bd_contrary_order D_contrary_order
  obtain ⟨fd_turned_order, G_turned_order, D_turned_order⟩ := ok_turned_order (P := P) (w := w) (base := base) T
  have k_turned_order := D_turned_order.kp
  have b_turned_order := bd_turned_order D_turned_order
  obtain ⟨fd_order_rises, G_order_rises, D_order_rises⟩ := ok_order_rises (P := P) (w := w) (base := base) T
  have k_order_rises := D_order_rises.kp
  have b_order_rises := bd_order_rises D_order_rises
  obtain ⟨fd_law_rise_word, G_law_rise_word, D_law_rise_word⟩ := ok_law_rise_word (P := P) (w := w) (base := base) T
  have k_law_rise_word := D_law_rise_word.kp
  have b_law_rise_word := bd_law_rise_word D_law_rise_word
  obtain ⟨fd_order_total, G_order_total, D_order_total⟩ := ok_order_total (P := P) (w := w) (base := base) T
  have k_order_total := D_order_total.kp
  have b_order_total := bd_order_total D_order_total
  obtain ⟨fd_check_row, G_check_row, D_check_row⟩ := ok_check_row (P := P) (w := w) (base := base) T
  have k_check_row := D_check_row.kp
  have b_check_row := bd_check_row D_check_row
  refine ⟨fd, funD_okG F sc_law_turned_right (fun vs H Q E h => ?_) (fun cdv A outer s H vs Q E gu hr h => ?_), F⟩
  · rw [F_law_turned_right_eq] at h
    exact spD_len (np := 1) (fun _ _ _ h => h.1) vs H Q E h
  · rw [F_law_turned_right_eq] at h
    refine ⟨_, PSs.nox (pss_cons (ps_set (i := 1) sc_law_turned_right.nd rfl (by first | exact Or.inl rfl | exact Or.inr rfl) (pe_call G_law_length (hr.mono (by decide)) rfl T.g__law_length k_law_length b_law_length .nil pass0 (pa_cons (pv 0) pa_nil)))
    (pss_cons (ps_set (i := 2) sc_law_turned_right.nd rfl (by first | exact Or.inl rfl | exact Or.inr rfl) (pe_call G_law_order (hr.mono (by decide)) rfl T.g__law_order k_law_order b_law_order .nil pass0 (pa_cons (pv 0) (pa_cons (pv 1) pa_nil))))
    (pss_cons (ps_par (i := 3) (j := 4) (by rfl) sc_law_turned_right.nd rfl rfl (by decide) rfl rfl (pa_cons (pe_op op_fdiv (pe_op op_mulU (pv 1) (pe_op op_sub (pv 1) pe_int)) pe_int) (pa_cons (pe_call G_law_rise_total (hr.mono (by decide)) rfl T.g__law_rise_total k_law_rise_total b_law_rise_total .nil pass0 (pa_cons (pv 2) pa_nil)) pa_nil)) (by rfl))
    (pss_cons (ps_set (i := 5) sc_law_turned_right.nd rfl (by first | exact Or.inl rfl | exact Or.inr rfl) (pe_callTy (call_lstU (K := K) rfl) (by rfl) T.z_list (by decide +kernel) (pa_cons (pv 2) pa_nil)))
    (pss_cons (ps_par (i := 6) (j := 7) (by rfl) sc_law_turned_right.nd rfl rfl (by decide) rfl rfl (pa_cons (pe_call G_turned_order (hr.mono (by decide)) rfl T.g_turned_order k_turned_order b_turned_order .nil passL (pa_cons (pv 5) pa_nil)) (pa_cons (pe_call G_contrary_order (hr.mono (by decide)) rfl T.g_contrary_order k_contrary_order b_contrary_order .nil passL (pa_cons (pv 5) pa_nil)) pa_nil)) (by rfl))
    (pss_cons (ps_if (PW.pt (pw_or (pt_cmpR (op_neU rfl hr.units) (pe_callB (call_reprG (K := K) rfl gu hr.units) (by rfl) T.z_repr (by decide +kernel) (pa_cons (pv 6) pa_nil)) (pe_callB (call_reprG (K := K) rfl gu hr.units) (by rfl) T.z_repr (by decide +kernel) (pa_cons (pe_revU (pv 2)) pa_nil)) (by first | exact nomark _ | rfl)) (pw_or1 (pt_cmpR (op_neU rfl hr.units) (pe_callB (call_reprG (K := K) rfl gu hr.units) (by rfl) T.z_repr (by decide +kernel) (pa_cons (pv 7) pa_nil)) (pe_callB (call_reprG (K := K) rfl gu hr.units) (by rfl) T.z_repr (by decide +kernel) (pa_cons (pe_callTy (call_tupU (K := K) rfl) (by rfl) T.z_tuple (by decide +kernel) (pa_cons (pe_lc (own := [("_law_x", 8)]) rfl sc_law_turned_right.nd (pi_seq (pv 2)) (blkOk_by (own := [("_law_x", 8)]) (N := N_law_turned_right) (sc := defScope s_law_turned_right) (by decide +kernel)) (fun _ _ _ _ _ => (pg_name (i := 8) sc_law_turned_right.nd rfl (by first | exact Or.inl rfl | exact Or.inr rfl))) (fun _ _ _ _ _ => pts_nil) (fun _ _ _ _ _ => (pe_op op_sub (pe_op (op_addU rfl) (pv 1) pe_int) (pv 8)))) pa_nil)) pa_nil)) (by first | exact nomark _ | rfl)))))
    (pss_one (ps_ret pe_bl))
    pss_nil)
    (pss_cons (ps_if (PW.pt (pw_or (pt_cmpR (op_neU rfl hr.units) (pe_callB (call_reprG (K := K) rfl gu hr.units) (by rfl) T.z_repr (by decide +kernel) (pa_cons (pe_call G_order_total (hr.mono (by decide)) rfl T.g_order_total k_order_total b_order_total .nil passL (pa_cons (pv 5) pa_nil)) pa_nil)) (pe_callB (call_reprG (K := K) rfl gu hr.units) (by rfl) T.z_repr (by decide +kernel) (pa_cons (pv 4) pa_nil)) (by first | exact nomark _ | rfl)) (pw_or1 (pt_cmpR (op_neU rfl hr.units) (pe_callB (call_reprG (K := K) rfl gu hr.units) (by rfl) T.z_repr (by decide +kernel) (pa_cons (pe_call G_order_rises (hr.mono (by decide)) rfl T.g_order_rises k_order_rises b_order_rises .nil passL (pa_cons (pv 5) pa_nil)) pa_nil)) (pe_callB (call_reprG (K := K) rfl gu hr.units) (by rfl) T.z_repr (by decide +kernel) (pa_cons (pe_call G_law_rise_word (hr.mono (by decide)) rfl T.g__law_rise_word k_law_rise_word b_law_rise_word .nil pass0 (pa_cons (pv 2) pa_nil)) pa_nil)) (by first | exact nomark _ | rfl)))))
    (pss_one (ps_ret pe_bl))
    pss_nil)
    (pss_cons (ps_if (PW.pt (pw_or (pt_cmpR (op_neU rfl hr.units) (pv 5) (pe_callTy (call_lstU (K := K) rfl) (by rfl) T.z_list (by decide +kernel) (pa_cons (pv 2) pa_nil)) (by first | exact nomark _ | rfl)) (pw_or1 (pt_cmpR (op_neU rfl hr.units) (pe_callB (call_reprG (K := K) rfl gu hr.units) (by rfl) T.z_repr (by decide +kernel) (pa_cons (pe_call G_check_row (hr.mono (by decide)) rfl T.g_check_row k_check_row b_check_row .nil passL (pa_cons (pv 1) (pa_cons (pv 5) (pa_cons (pv 1) pa_nil)))) pa_nil)) (pe_callB (call_reprG (K := K) rfl gu hr.units) (by rfl) T.z_repr (by decide +kernel) (pa_cons (pv 2) pa_nil)) (by first | exact nomark _ | rfl)))))
    (pss_one (ps_ret pe_bl))
    pss_nil)
    (pss_cons (ps_if (PW.pt (pw_or (pt_cmpR (op_neU rfl hr.units) (pe_op op_mod (pe_callTy call_intU (by rfl) T.z_int (by decide +kernel) (pa_cons (pe_op (op_addU rfl) (pe_op op_sub (pe_call G_order_total (hr.mono (by decide)) rfl T.g_order_total k_order_total b_order_total .nil passL (pa_cons (pv 6) pa_nil)) (pv 4)) (pv 3)) pa_nil)) (pv 1)) pe_int (by first | exact nomark _ | rfl)) (pw_or1 (pt_cmpR (op_neU rfl hr.units) (pe_op op_mod (pe_callTy call_intU (by rfl) T.z_int (by decide +kernel) (pa_cons (pe_op (op_addU rfl) (pe_op op_sub (pe_call G_order_total (hr.mono (by decide)) rfl T.g_order_total k_order_total b_order_total .nil passL (pa_cons (pv 7) pa_nil)) (pv 3)) (pv 4)) pa_nil)) (pv 1)) pe_int (by first | exact nomark _ | rfl)))))
    (pss_one (ps_ret pe_bl))
    pss_nil)
    (pss_one (ps_ret (pe_cmpR (op_eqU rfl hr.units) (pe_op op_mod (pe_callTy call_intU (by rfl) T.z_int (by decide +kernel) (pa_cons (pe_op (op_addU rfl) (pe_call G_order_total (hr.mono (by decide)) rfl T.g_order_total k_order_total b_order_total .nil passL (pa_cons (pe_call G_turned_order (hr.mono (by decide)) rfl T.g_turned_order k_turned_order b_turned_order .nil passL (pa_cons (pv 7) pa_nil)) pa_nil)) (pv 4)) pa_nil)) (pv 1)) pe_int (by first | exact nomark _ | rfl))))))))))))), ?_⟩
    exact body_of0 rfl h fun X hd => (dst_seq (dst_asg (de_call0 dv_nil (ds_hand (i := 0) ds_nil)) (dg_name 1))
    (dst_seq (dst_asg (de_call0 dv_nil (ds_hand (i := 0) (ds_cons (de_var 1) ds_nil))) (dg_name 2))
    (dst_seq (dst_par (da_cons (dg_op od_fdiv (DEg.bor (dg_op od_mul (db_var 1) (DEg.bor (dg_op od_sub (db_var 1) (DEg.bor (de_int 1)))))) (DEg.bor (de_int 2))) (da_cons (de_call0 dv_nil (ds_cons (de_var 2) ds_nil)) da_nil)))
    (dst_seq (dst_asg (DEg.cln (dg_cb cg_lst (db_cons (db_var 2) db_nil))) (dg_name 5))
    (dst_seq (dst_par (da_cons (de_call0 dv_nil (ds_cons (de_var 5) ds_nil)) (da_cons (de_call0 dv_nil (ds_cons (de_var 5) ds_nil)) da_nil)))
    (dst_seq (dst_if (dt_or (dt_test (dg_op od_ne (DEg.bor (dg_cb cg_repr (db_cons (db_var 6) db_nil))) (DEg.bor (dg_cb cg_repr (db_cons (DEg.bor (de_rev (db_var 2))) db_nil))))) (dt_test (dg_op od_ne (DEg.bor (dg_cb cg_repr (db_cons (db_var 7) db_nil))) (DEg.bor (dg_cb cg_repr (db_cons (DEg.bor (dg_cb cg_tup (db_cons (DEg.bor (DEg.cln (df_lc (di_seq (R := Bor) (db_var 2)) (dg_name 8) dt_yes (dg_op od_sub (DEg.bor (dg_op od_add (db_var 1) (DEg.bor (de_int 1)))) (db_var 8))))) db_nil))) db_nil))))))
    (dst_ret (de_bl false))
    dst_next)
    (dst_seq (dst_if (dt_or (dt_test (dg_op od_ne (DEg.bor (dg_cb cg_repr (db_cons (DEg.bor (de_call0 dv_nil (ds_cons (de_var 5) ds_nil))) db_nil))) (DEg.bor (dg_cb cg_repr (db_cons (db_var 4) db_nil))))) (dt_test (dg_op od_ne (DEg.bor (dg_cb cg_repr (db_cons (DEg.bor (de_call0 dv_nil (ds_cons (de_var 5) ds_nil))) db_nil))) (DEg.bor (dg_cb cg_repr (db_cons (DEg.bor (de_call0 dv_nil (ds_cons (de_var 2) ds_nil))) db_nil))))))
    (dst_ret (de_bl false))
    dst_next)
    (dst_seq (dst_if (dt_or (dt_test (dg_op od_ne (db_var 5) (DEg.bor (DEg.cln (dg_cb cg_lst (db_cons (db_var 2) db_nil)))))) (dt_test (dg_op od_ne (DEg.bor (dg_cb cg_repr (db_cons (DEg.bor (de_call0 dv_nil (ds_cons (de_var 1) (ds_cons (de_var 5) (ds_cons (de_var 1) ds_nil))))) db_nil))) (DEg.bor (dg_cb cg_repr (db_cons (db_var 2) db_nil))))))
    (dst_ret (de_bl false))
    dst_next)
    (dst_seq (dst_if (dt_or (dt_test (dg_op od_ne (DEg.bor (dg_op od_mod (DEg.bor (dg_cb cg_int (db_cons (DEg.bor (dg_op od_add (DEg.bor (dg_op od_sub (DEg.bor (de_call0 dv_nil (ds_cons (de_var 6) ds_nil))) (db_var 4))) (db_var 3))) db_nil))) (db_var 1))) (DEg.bor (de_int 0)))) (dt_test (dg_op od_ne (DEg.bor (dg_op od_mod (DEg.bor (dg_cb cg_int (db_cons (DEg.bor (dg_op od_add (DEg.bor (dg_op od_sub (DEg.bor (de_call0 dv_nil (ds_cons (de_var 7) ds_nil))) (db_var 3))) (db_var 4))) db_nil))) (db_var 1))) (DEg.bor (de_int 0)))))
    (dst_ret (de_bl false))
    dst_next)
    (dst_ret (dg_op od_eq (DEg.bor (dg_op od_mod (DEg.bor (dg_cb cg_int (db_cons (DEg.bor (dg_op od_add (DEg.bor (de_call0 dv_nil (ds_cons (de_call0 dv_nil (ds_cons (de_var 7) ds_nil)) ds_nil))) (db_var 4))) db_nil))) (db_var 1))) (DEg.bor (de_int 0)))))))))))))
end Mine

namespace Mine
open PySem PySem.Spec PyProof.Rows L2
theorem ok_longest_common {P : Program} {w : World} {K : PySem.W.Frag} {mg : Str → Option Value} {base : Heap} (T : Txt K mg) : ∃ fd, FnOk P w K mg base CX0 1 (He.ga K "longest_common") fd P_longest_common (spD K F_longest_common) ∧ D_longest_common K (He.ga K "longest_common") fd := by
  obtain ⟨fd, F⟩ := T.F_longest_common
  refine ⟨fd, F.ok sc_longest_common (fun vs H Q E h => ?_) (fun cdv A outer s H vs Q E hr h => ?_), F⟩
  · rw [F_longest_common_eq] at h
    exact spD_len (np := 2) (fun _ _ _ h => h.1) vs H Q E h
  · rw [F_longest_common_eq] at h
    refine ⟨_, PSs.nox (pss_cons (ps_set (i := 2) sc_longest_common.nd rfl (by first | exact Or.inl rfl | exact Or.inr rfl) pe_dnewK)
    (pss_cons (ps_for PassesOwn.never rfl (pi_enumA (by rfl) T.z_enumerate (pa_cons (pv 0) pa_nil)) (pg_tupK (K := K) (n := 2) rfl (by rfl) (pgs_cons (pg_name (i := 3) sc_longest_common.nd rfl (by first | exact Or.inl rfl | exact Or.inr rfl)) (pgs_cons (pg_name (i := 4) sc_longest_common.nd rfl (by first | exact Or.inl rfl | exact Or.inr rfl)) pgs_nil)))
    (pss_one (ps_dput (units1 hr) (pv 2) (pv 4) (pe_op op_or (pe_dget2 (units1 hr) (pv 2) (pv 4) pe_int ⟨by rfl, by rfl, by rfl, by rfl⟩) (pe_op op_shl pe_int (pv 3))) (by rfl))))
    (pss_cons (ps_set (i := 5) sc_longest_common.nd rfl (by first | exact Or.inl rfl | exact Or.inr rfl) (pe_op op_sub (pe_op op_shl pe_int (pe_callB (call_lenU (K := K) rfl) (by rfl) T.z_len (by decide +kernel) (pa_cons (pv 0) pa_nil))) pe_int))
    (pss_cons (ps_set (i := 6) sc_longest_common.nd rfl (by first | exact Or.inl rfl | exact Or.inr rfl) (pv 5))
    (pss_cons (ps_for PassesOwn.never rfl (pi_seq (pv 1)) (pg_name (i := 4) sc_longest_common.nd rfl (by first | exact Or.inl rfl | exact Or.inr rfl))
    (pss_cons (ps_set (i := 7) sc_longest_common.nd rfl (by first | exact Or.inl rfl | exact Or.inr rfl) (pe_op op_and (pv 6) (pe_dget2 (units1 hr) (pv 2) (pv 4) pe_int ⟨by rfl, by rfl, by rfl, by rfl⟩)))
    (pss_one (ps_set (i := 6) sc_longest_common.nd rfl (by first | exact Or.inl rfl | exact Or.inr rfl) (pe_op op_and (pe_op op_or (pe_op (op_addU rfl) (pv 6) (pv 7)) (pe_op op_sub (pv 6) (pv 7))) (pv 5))))))
    (pss_cons (ps_set (i := 8) sc_longest_common.nd rfl (by first | exact Or.inl rfl | exact Or.inr rfl) (pe_joined1 (pe_fmtB (pv 6))))
    (pss_one (ps_ret (pe_op op_sub (pe_callB (call_lenU (K := K) rfl) (by rfl) T.z_len (by decide +kernel) (pa_cons (pv 0) pa_nil)) (pe_countT (pv 8) pe_str)))))))))), ?_⟩
    exact body_of0 rfl h fun X hd => (dst_seq dst_ownK
    (dst_seq (dst_for (di_enum (R := Cln) (de_var 0)) (dg_two 3 4)
    (dst_putD (dg_op od_or (DEg.bor (de_get2 (dd_var 2) (de_var 4) (de_int 0))) (DEg.bor (dg_op od_shl (DEg.bor (de_int 1)) (db_var 3)))) (de_var 4)))
    (dst_seq (dst_asg (dg_op od_sub (DEg.bor (dg_op od_shl (DEg.bor (de_int 1)) (DEg.bor (dg_cb cg_len (db_cons (db_var 0) db_nil))))) (DEg.bor (de_int 1))) (dg_name 5))
    (dst_seq (dst_asg (de_var 5) (dg_name 6))
    (dst_seq (dst_for (di_seq (R := Cln) (de_var 1)) (dg_name 4)
    (dst_seq (dst_asg (dg_op od_and (db_var 6) (DEg.bor (de_get2 (dd_var 2) (de_var 4) (de_int 0)))) (dg_name 7))
    (dst_asg (dg_op od_and (DEg.bor (dg_op od_or (DEg.bor (dg_op od_add (db_var 6) (db_var 7))) (DEg.bor (dg_op od_sub (db_var 6) (db_var 7))))) (db_var 5)) (dg_name 6))))
    (dst_seq (dst_asg (de_fmtB (db_var 6)) (dg_name 8))
    (dst_ret (dg_op od_sub (DEg.bor (dg_cb cg_len (db_cons (db_var 0) db_nil))) (DEg.bor (de_countT (de_var 8) (de_str "1")))))))))))
end Mine

namespace Mine
open PySem PySem.Spec PyProof.Rows L2
theorem ok_moves_apart {P : Program} {w : World} {K : PySem.W.Frag} {mg : Str → Option Value} {base : Heap} (T : Txt K mg) : ∃ fd, FnOk P w K mg base (L2.CX P w) 5 (He.ga K "moves_apart") fd P_moves_apart (spD K F_moves_apart) ∧ D_moves_apart K (He.ga K "moves_apart") fd := by
  obtain ⟨fd, F⟩ := T.F_moves_apart
  obtain ⟨fd_check_order, G_check_order, D_check_order⟩ := ok_check_order (P := P) (w := w) (base := base) T
  have k_check_order := D_check_order.kp
  have b_check_order := bd_check_order D_check_order
  obtain ⟨fd_check_row, G_check_row, D_check_row⟩ := ok_check_row (P := P) (w := w) (base := base) T
  have k_check_row := D_check_row.kp
  have b_check_row := bd_check_row D_check_row
  obtain ⟨fd_longest_common, G_longest_common, D_longest_common⟩ := ok_longest_common (P := P) (w := w) (base := base) T
  have k_longest_common := D_longest_common.kp
  have b_longest_common := bd_longest_common D_longest_common
  refine ⟨fd, F.ok sc_moves_apart (fun vs H Q E h => ?_) (fun cdv A outer s H vs Q E hr h => ?_), F⟩
  · rw [F_moves_apart_eq] at h
    exact spD_len (np := 2) (fun _ _ _ h => h.1) vs H Q E h
  · rw [F_moves_apart_eq] at h
    refine ⟨_, (pss_cons (ps_set (i := 0) sc_moves_apart.nd rfl (by first | exact Or.inl rfl | exact Or.inr rfl) (pe_call G_check_order (hr.mono (by decide)) rfl T.g_check_order k_check_order b_check_order .nil (E := E) (passes_call (takes_of rfl rfl rfl rfl) fun _ _ _ _ h => h) (pa_cons (pv 0) pa_nil)))
    (pss_cons (ps_set (i := 1) sc_moves_apart.nd rfl (by first | exact Or.inl rfl | exact Or.inr rfl) (pe_call G_check_row (hr.mono (by decide)) rfl T.g_check_row k_check_row b_check_row .nil (E := E) (passes_call (takes_of rfl rfl rfl rfl) fun _ _ _ _ h => h) (pa_cons (pe_callB (call_lenU (K := K) rfl) (by rfl) T.z_len (by decide +kernel) (pa_cons (pv 0) pa_nil)) (pa_cons (pv 1) (pa_cons (pe_callB (call_lenU (K := K) rfl) (by rfl) T.z_len (by decide +kernel) (pa_cons (pv 0) pa_nil)) pa_nil)))))
    (pss_one (ps_ret (pe_op op_sub (pe_callB (call_lenU (K := K) rfl) (by rfl) T.z_len (by decide +kernel) (pa_cons (pv 0) pa_nil)) (pe_call G_longest_common (hr.mono (by decide)) rfl T.g_longest_common k_longest_common b_longest_common .nil pass0 (pa_cons (pv 0) (pa_cons (pv 1) pa_nil)))))))), ?_⟩
    exact body_of rfl h fun X hd => (dst_seq (dst_asg (de_call rfl dv_nil (ds_cons (de_var 0) ds_nil)) (dg_name 0))
    (dst_seq (dst_asg (de_call rfl dv_nil (ds_cons (dg_cb cg_len (db_cons (db_var 0) db_nil)) (ds_cons (de_var 1) (ds_cons (dg_cb cg_len (db_cons (db_var 0) db_nil)) ds_nil)))) (dg_name 1))
    (dst_ret (dg_op od_sub (DEg.bor (dg_cb cg_len (db_cons (db_var 0) db_nil))) (DEg.bor (de_call0 dv_nil (ds_cons (de_var 0) (ds_cons (de_var 1) ds_nil))))))))
end Mine

namespace Mine
open PySem PySem.Spec PyProof.Rows L2
theorem ok_law_called {P : Program} {w : World} {K : PySem.W.Frag} {mg : Str → Option Value} {base : Heap} (T : Txt K mg) : ∃ fd, FnOk P w K mg base CX0 6 (He.ga K "_law_called") fd P_law_called (spD K F_law_called) ∧ D_law_called K (He.ga K "_law_called") fd := by
  obtain ⟨fd, F⟩ := T.F_law_called
  obtain ⟨fd_check_row, G_check_row, D_check_row⟩ := ok_check_row (P := P) (w := w) (base := base) T
  have k_check_row := D_check_row.kp
  have b_check_row := bd_check_row D_check_row
  obtain ⟨fd_order_rises, G_order_rises, D_order_rises⟩ := ok_order_rises (P := P) (w := w) (base := base) T
  have k_order_rises := D_order_rises.kp
  have b_order_rises := bd_order_rises D_order_rises
  obtain ⟨fd_order_total, G_order_total, D_order_total⟩ := ok_order_total (P := P) (w := w) (base := base) T
  have k_order_total := D_order_total.kp
  have b_order_total := bd_order_total D_order_total
  obtain ⟨fd_turned_order, G_turned_order, D_turned_order⟩ := ok_turned_order (P := P) (w := w) (base := base) T
  have k_turned_order := D_turned_order.kp
  have b_turned_order := bd_turned_order D_turned_order
  obtain ⟨fd_contrary_order, G_contrary_order, D_contrary_order⟩ := ok_contrary_order (P := P) (w := w) (base := base) T
  have k_contrary_order := D_contrary_order.kp
  have b_contrary_order := bd_contrary_order D_contrary_order
  obtain ⟨fd_lacking_member, G_lacking_member, D_lacking_member⟩ := ok_lacking_member (P := P) (w := w) (base := base) T
  have k_lacking_member := D_lacking_member.kp
  have b_lacking_member := bd_lacking_member D_lacking_member
  obtain ⟨fd_row_without, G_row_without, D_row_without⟩ := ok_row_without (P := P) (w := w) (base := base) T
  have k_row_without := D_row_without.kp
  have b_row_without := bd_row_without D_row_without
  obtain ⟨fd_order_with, G_order_with, D_order_with⟩ := ok_order_with (P := P) (w := w) (base := base) T
  have k_order_with := D_order_with.kp
  have b_order_with := bd_order_with D_order_with
  obtain ⟨fd_places_tried, G_places_tried, D_places_tried⟩ := ok_places_tried (P := P) (w := w) (base := base) T
  have k_places_tried := D_places_tried.kp
  have b_places_tried := bd_places_tried D_places_tried
  obtain ⟨fd_moves_apart, G_moves_apart, D_moves_apart⟩ := ok_moves_apart (P := P) (w := w) (base := base) T
  have k_moves_apart := D_moves_apart.kp
  have b_moves_apart := bd_moves_apart D_moves_apart
  refine ⟨fd, F.ok sc_law_called (fun vs H Q E h => ?_) (fun cdv A outer s H vs Q E hr h => ?_), F⟩
  · rw [F_law_called_eq] at h
    exact spD_len (np := 2) (fun _ _ _ h => h.1) vs H Q E h
  · rw [F_law_called_eq] at h
    have hd : ∀ X hd, DS ⟨K, H, X, hd, none, fun _ _ _ _ => False, none⟩ _ S_law_called := fun X hd => (dst_seq (dst_asg de_non (dg_name 2))
    (dst_seq (dst_try rfl rfl (mt_ok T) (fun W => (dst_if (dt_test (dg_op od_eq (db_var 0) (DEg.bor (de_int 0))))
    (dst_asg (de_callS rfl (ds_cons (dg_op od_ix (db_var 1) (DEg.bor (de_int 0))) (ds_cons (dg_op od_ix (db_var 1) (DEg.bor (de_int 1))) (ds_cons (dg_op od_ix (db_var 1) (DEg.bor (de_int 2))) ds_nil)))) (dg_name 2))
    (dst_if (dt_test (dg_op od_eq (db_var 0) (DEg.bor (de_int 1))))
    (dst_asg (de_callS rfl (ds_cons (dg_op od_ix (db_var 1) (DEg.bor (de_int 0))) ds_nil)) (dg_name 2))
    (dst_if (dt_test (dg_op od_eq (db_var 0) (DEg.bor (de_int 2))))
    (dst_asg (de_callS rfl (ds_cons (dg_op od_ix (db_var 1) (DEg.bor (de_int 0))) ds_nil)) (dg_name 2))
    (dst_if (dt_test (dg_op od_eq (db_var 0) (DEg.bor (de_int 3))))
    (dst_asg (de_callS rfl (ds_cons (dg_op od_ix (db_var 1) (DEg.bor (de_int 0))) ds_nil)) (dg_name 2))
    (dst_if (dt_test (dg_op od_eq (db_var 0) (DEg.bor (de_int 4))))
    (dst_asg (de_callS rfl (ds_cons (dg_op od_ix (db_var 1) (DEg.bor (de_int 0))) ds_nil)) (dg_name 2))
    (dst_if (dt_test (dg_op od_eq (db_var 0) (DEg.bor (de_int 5))))
    (dst_asg (de_callS rfl (ds_cons (dg_op od_ix (db_var 1) (DEg.bor (de_int 0))) (ds_cons (dg_op od_ix (db_var 1) (DEg.bor (de_int 1))) ds_nil))) (dg_name 2))
    (dst_if (dt_test (dg_op od_eq (db_var 0) (DEg.bor (de_int 6))))
    (dst_asg (de_callS rfl (ds_cons (dg_op od_ix (db_var 1) (DEg.bor (de_int 0))) (ds_cons (dg_op od_ix (db_var 1) (DEg.bor (de_int 1))) ds_nil))) (dg_name 2))
    (dst_if (dt_test (dg_op od_eq (db_var 0) (DEg.bor (de_int 7))))
    (dst_asg (de_callS rfl (ds_cons (dg_op od_ix (db_var 1) (DEg.bor (de_int 0))) (ds_cons (dg_op od_ix (db_var 1) (DEg.bor (de_int 1))) (ds_cons (dg_op od_ix (db_var 1) (DEg.bor (de_int 2))) ds_nil)))) (dg_name 2))
    (dst_if (dt_test (dg_op od_eq (db_var 0) (DEg.bor (de_int 8))))
    (dst_asg (de_callS rfl (ds_cons (dg_op od_ix (db_var 1) (DEg.bor (de_int 0))) (ds_cons (dg_op od_ix (db_var 1) (DEg.bor (de_int 1))) ds_nil))) (dg_name 2))
    (dst_asg (de_callS rfl (ds_cons (dg_op od_ix (db_var 1) (DEg.bor (de_int 0))) (ds_cons (dg_op od_ix (db_var 1) (DEg.bor (de_int 1))) ds_nil))) (dg_name 2)))))))))))) (HsOk.cons (fun a cls d => (dst_ret (DEg.cln (df_lst (da_cons (de_str "number") da_nil))))) (HsOk.cons (fun a cls d => (dst_ret (DEg.cln (df_lst (da_cons (de_str "row") (da_cons (de_xf (i := 3)) da_nil)))))) (HsOk.cons (fun a cls d => (dst_ret (DEg.cln (df_lst (da_cons (de_str "other") da_nil))))) HsOk.nil))))
    (dst_ret (DEg.cln (df_lst (da_cons (de_str "let") (da_cons (de_var 2) da_nil)))))))
    refine ⟨_, PSs.nox (pss_cons (ps_set (i := 2) sc_law_called.nd rfl (by first | exact Or.inl rfl | exact Or.inr rfl) pe_non)
    (pss_cons (ps_try_named rfl rfl sc_law_called.nd takes0 (fun W pn xe tk0 po => (pss_one (ps_if (pt_cmpR (op_eqU rfl hr.units) (pv 0) pe_int (by first | exact nomark _ | rfl))
    (pss_one (ps_set (i := 2) sc_law_called.nd rfl (by first | exact Or.inl rfl | exact Or.inr rfl) (pe_callS G_check_row (hr.mono (by decide)) rfl T.g_check_row k_check_row b_check_row (fun σ => passAt tk0 σ) (pa_cons (pe_ix (ix_U (K := K) rfl) (pv 1) pe_int (fun _ _ => rfl)) (pa_cons (pe_ix (ix_U (K := K) rfl) (pv 1) pe_int (fun _ _ => rfl)) (pa_cons (pe_ix (ix_U (K := K) rfl) (pv 1) pe_int (fun _ _ => rfl)) pa_nil))))))
    (pss_one (ps_if (pt_cmpR (op_eqU rfl hr.units) (pv 0) pe_int (by first | exact nomark _ | rfl))
    (pss_one (ps_set (i := 2) sc_law_called.nd rfl (by first | exact Or.inl rfl | exact Or.inr rfl) (pe_callS G_order_rises (hr.mono (by decide)) rfl T.g_order_rises k_order_rises b_order_rises (fun σ => passAt tk0 σ) (pa_cons (pe_ix (ix_U (K := K) rfl) (pv 1) pe_int (fun _ _ => rfl)) pa_nil))))
    (pss_one (ps_if (pt_cmpR (op_eqU rfl hr.units) (pv 0) pe_int (by first | exact nomark _ | rfl))
    (pss_one (ps_set (i := 2) sc_law_called.nd rfl (by first | exact Or.inl rfl | exact Or.inr rfl) (pe_callS G_order_total (hr.mono (by decide)) rfl T.g_order_total k_order_total b_order_total (fun σ => passAt tk0 σ) (pa_cons (pe_ix (ix_U (K := K) rfl) (pv 1) pe_int (fun _ _ => rfl)) pa_nil))))
    (pss_one (ps_if (pt_cmpR (op_eqU rfl hr.units) (pv 0) pe_int (by first | exact nomark _ | rfl))
    (pss_one (ps_set (i := 2) sc_law_called.nd rfl (by first | exact Or.inl rfl | exact Or.inr rfl) (pe_callS G_turned_order (hr.mono (by decide)) rfl T.g_turned_order k_turned_order b_turned_order (fun σ => passAt tk0 σ) (pa_cons (pe_ix (ix_U (K := K) rfl) (pv 1) pe_int (fun _ _ => rfl)) pa_nil))))
    (pss_one (ps_if (pt_cmpR (op_eqU rfl hr.units) (pv 0) pe_int (by first | exact nomark _ | rfl))
    (pss_one (ps_set (i := 2) sc_law_called.nd rfl (by first | exact Or.inl rfl | exact Or.inr rfl) (pe_callS G_contrary_order (hr.mono (by decide)) rfl T.g_contrary_order k_contrary_order b_contrary_order (fun σ => passAt tk0 σ) (pa_cons (pe_ix (ix_U (K := K) rfl) (pv 1) pe_int (fun _ _ => rfl)) pa_nil))))
    (pss_one (ps_if (pt_cmpR (op_eqU rfl hr.units) (pv 0) pe_int (by first | exact nomark _ | rfl))
    (pss_one (ps_set (i := 2) sc_law_called.nd rfl (by first | exact Or.inl rfl | exact Or.inr rfl) (pe_callS G_lacking_member (hr.mono (by decide)) rfl T.g_lacking_member k_lacking_member b_lacking_member (fun σ => passAt tk0 σ) (pa_cons (pe_ix (ix_U (K := K) rfl) (pv 1) pe_int (fun _ _ => rfl)) (pa_cons (pe_ix (ix_U (K := K) rfl) (pv 1) pe_int (fun _ _ => rfl)) pa_nil)))))
    (pss_one (ps_if (pt_cmpR (op_eqU rfl hr.units) (pv 0) pe_int (by first | exact nomark _ | rfl))
    (pss_one (ps_set (i := 2) sc_law_called.nd rfl (by first | exact Or.inl rfl | exact Or.inr rfl) (pe_callS G_row_without (hr.mono (by decide)) rfl T.g_row_without k_row_without b_row_without (fun σ => passAt tk0 σ) (pa_cons (pe_ix (ix_U (K := K) rfl) (pv 1) pe_int (fun _ _ => rfl)) (pa_cons (pe_ix (ix_U (K := K) rfl) (pv 1) pe_int (fun _ _ => rfl)) pa_nil)))))
    (pss_one (ps_if (pt_cmpR (op_eqU rfl hr.units) (pv 0) pe_int (by first | exact nomark _ | rfl))
    (pss_one (ps_set (i := 2) sc_law_called.nd rfl (by first | exact Or.inl rfl | exact Or.inr rfl) (pe_callS G_order_with (hr.mono (by decide)) rfl T.g_order_with k_order_with b_order_with (fun σ => passAt tk0 σ) (pa_cons (pe_ix (ix_U (K := K) rfl) (pv 1) pe_int (fun _ _ => rfl)) (pa_cons (pe_ix (ix_U (K := K) rfl) (pv 1) pe_int (fun _ _ => rfl)) (pa_cons (pe_ix (ix_U (K := K) rfl) (pv 1) pe_int (fun _ _ => rfl)) pa_nil))))))
    (pss_one (ps_if (pt_cmpR (op_eqU rfl hr.units) (pv 0) pe_int (by first | exact nomark _ | rfl))
    (pss_one (ps_set (i := 2) sc_law_called.nd rfl (by first | exact Or.inl rfl | exact Or.inr rfl) (pe_callS G_places_tried (hr.mono (by decide)) rfl T.g_places_tried k_places_tried b_places_tried (fun σ => passAt tk0 σ) (pa_cons (pe_ix (ix_U (K := K) rfl) (pv 1) pe_int (fun _ _ => rfl)) (pa_cons (pe_ix (ix_U (K := K) rfl) (pv 1) pe_int (fun _ _ => rfl)) pa_nil)))))
    (pss_one (ps_set (i := 2) sc_law_called.nd rfl (by first | exact Or.inl rfl | exact Or.inr rfl) (pe_callS G_moves_apart (hr.mono (by decide)) rfl T.g_moves_apart k_moves_apart b_moves_apart (fun σ => passAt tk0 σ) (pa_cons (pe_ix (ix_U (K := K) rfl) (pv 1) pe_int (fun _ _ => rfl)) (pa_cons (pe_ix (ix_U (K := K) rfl) (pv 1) pe_int (fun _ _ => rfl)) pa_nil)))))))))))))))))))))))) (HdsN.bare ⟨rfl, by decide, .inl T.g_BadNumber⟩ (fun a oe cls d pn hz hf => (pss_one (ps_ret (pe_lst (pa_cons pe_str pa_nil))))) (HdsN.named (i := 3) rfl rfl ⟨rfl, by decide, .inl T.g_BadRow⟩ (fun a oe cls d pn hz hf => (pss_one (ps_ret (pe_lst (pa_cons pe_str (pa_cons (pe_xf T.x_BadRow.x T.n_BadRow_is_index hz hf (pv 3)) pa_nil)))))) (HdsN.bare ⟨rfl, by decide, .inl T.g_PlaceError⟩ (fun a oe cls d pn hz hf => (pss_one (ps_ret (pe_lst (pa_cons pe_str pa_nil))))) HdsN.nil))))
    (pss_one (ps_ret (pe_lst (pa_cons pe_str (pa_cons (pv 2) pa_nil))))))), ?_⟩
    dsimp only [Bc.wE] at hd
    have r := body_of0 (N := N_law_called) rfl h hd
    exact r
end Mine

namespace Mine
open PySem PySem.Spec PyProof.Rows L2
theorem ok_law_refused {P : Program} {w : World} {K : PySem.W.Frag} {mg : Str → Option Value} {base : Heap} (T : Txt K mg) : ∃ fd, FnG P w K mg base CX0 7 (He.ga K "_law_refused") fd P_law_refused (spD K F_law_refused) ∧ D_law_refused K (He.ga K "_law_refused") fd := by
  obtain ⟨fd, F⟩ := T.F_law_refused
  obtain ⟨fd_law_take, G_law_take, D_law_take⟩ := ok_law_take (P := P) (w := w) (base := base) T
  have k_law_take := D_law_take.kp
  have b_law_take := bd_law_take D_law_take
  obtain ⟨fd_law_order, G_law_order, D_law_order⟩ := ok_law_order (P := P) (w := w) (base := base) T
  have k_law_order := D_law_order.kp
  have b_law_order := bd_law_order D_law_order
  obtain ⟨fd_law_called, G_law_called, D_law_called⟩ := ok_law_called (P := P) (w := w) (base := base) T
  have k_law_called := D_law_called.kp
  have b_law_called := bd_law_called D_law_called
  refine ⟨fd, funD_okG F sc_law_refused (fun vs H Q E h => ?_) (fun cdv A outer s H vs Q E gu hr h => ?_), F⟩
  · rw [F_law_refused_eq] at h
    exact spD_len (np := 1) (fun _ _ _ h => h.1) vs H Q E h
  · rw [F_law_refused_eq] at h
    refine ⟨_, PSs.nox (pss_cons (ps_set (i := 1) sc_law_refused.nd rfl (by first | exact Or.inl rfl | exact Or.inr rfl) (pe_op (op_addU rfl) pe_int (pe_call G_law_take (hr.mono (by decide)) rfl T.g__law_take k_law_take b_law_take .nil pass0 (pa_cons (pv 0) (pa_cons pe_int pa_nil)))))
    (pss_cons (ps_set (i := 2) sc_law_refused.nd rfl (by first | exact Or.inl rfl | exact Or.inr rfl) (pe_callTy (call_lstU (K := K) rfl) (by rfl) T.z_list (by decide +kernel) (pa_cons (pe_call G_law_order (hr.mono (by decide)) rfl T.g__law_order k_law_order b_law_order .nil pass0 (pa_cons (pv 0) (pa_cons (pv 1) pa_nil))) pa_nil)))
    (pss_cons (ps_set (i := 3) sc_law_refused.nd rfl (by first | exact Or.inl rfl | exact Or.inr rfl) (pe_call G_law_take (hr.mono (by decide)) rfl T.g__law_take k_law_take b_law_take .nil pass0 (pa_cons (pv 0) (pa_cons (pv 1) pa_nil))))
    (pss_cons (ps_set (i := 4) sc_law_refused.nd rfl (by first | exact Or.inl rfl | exact Or.inr rfl) (pe_callTy (call_lstU (K := K) rfl) (by rfl) T.z_list (by decide +kernel) (pa_cons (pv 2) pa_nil)))
    (pss_cons (ps_asg (pe_ifExp (pt_cmpR op_gt (pv 3) pe_int (by first | exact nomark _ | rfl)) (pe_ix (ix_U (K := K) rfl) (pv 2) (pe_call G_law_take (hr.mono (by decide)) rfl T.g__law_take k_law_take b_law_take .nil pass0 (pa_cons (pv 0) (pa_cons (pv 3) pa_nil))) (fun _ _ => rfl)) pe_int) (pg_sub (pv 4) (pv 3) set_list))
    (pss_cons (ps_set (i := 5) sc_law_refused.nd rfl (by first | exact Or.inl rfl | exact Or.inr rfl) (pe_callTy (call_lstU (K := K) rfl) (by rfl) T.z_list (by decide +kernel) (pa_cons (pv 2) pa_nil)))
    (pss_cons (ps_asg (pe_ix (ix_U (K := K) rfl) (pe_lst (pa_cons pe_int (pa_cons (pe_op (op_addU rfl) (pv 1) pe_int) (pa_cons pe_bl (pa_cons pe_non (pa_cons pe_str (pa_cons (pe_un un_neg pe_int) (pa_cons pe_bl (pa_cons (pe_tup (pa_cons pe_int pa_nil)) pa_nil))))))))) (pe_call G_law_take (hr.mono (by decide)) rfl T.g__law_take k_law_take b_law_take .nil pass0 (pa_cons (pv 0) (pa_cons pe_int pa_nil))) (fun _ _ => rfl)) (pg_sub (pv 5) (pv 3) set_list))
    (pss_cons (ps_set (i := 6) sc_law_refused.nd rfl (by first | exact Or.inl rfl | exact Or.inr rfl) (pe_ix (ix_U (K := K) rfl) (pe_lst (pa_cons (pv 4) (pa_cons (pv 5) pa_nil))) (pe_call G_law_take (hr.mono (by decide)) rfl T.g__law_take k_law_take b_law_take .nil pass0 (pa_cons (pv 0) (pa_cons pe_int pa_nil))) (fun _ _ => rfl)))
    (pss_cons (ps_set (i := 7) sc_law_refused.nd rfl (by first | exact Or.inl rfl | exact Or.inr rfl) (pe_slice (sl_U rfl) (pv 2) (po_some pe_int) po_none))
    (pss_cons (ps_set (i := 8) sc_law_refused.nd rfl (by first | exact Or.inl rfl | exact Or.inr rfl) (pe_call G_law_take (hr.mono (by decide)) rfl T.g__law_take k_law_take b_law_take .nil pass0 (pa_cons (pv 0) (pa_cons (pe_op op_sub (pv 1) pe_int) pa_nil))))
    (pss_cons (ps_set (i := 9) sc_law_refused.nd rfl (by first | exact Or.inl rfl | exact Or.inr rfl) (pe_callTy (call_lstU (K := K) rfl) (by rfl) T.z_list (by decide +kernel) (pa_cons (pv 7) pa_nil)))
    (pss_cons (ps_asg (pe_ix (ix_U (K := K) rfl) (pe_lst (pa_cons pe_int (pa_cons (pe_op (op_addU rfl) (pv 1) pe_int) (pa_cons pe_bl (pa_cons pe_non (pa_cons pe_str (pa_cons (pe_un un_neg pe_int) (pa_cons pe_bl (pa_cons (pe_ifExp (pt_cmpR op_gt (pv 8) pe_int (by first | exact nomark _ | rfl)) (pe_ix (ix_U (K := K) rfl) (pv 7) (pe_op op_sub (pv 8) pe_int) (fun _ _ => rfl)) pe_int) pa_nil))))))))) (pe_call G_law_take (hr.mono (by decide)) rfl T.g__law_take k_law_take b_law_take .nil pass0 (pa_cons (pv 0) (pa_cons pe_int pa_nil))) (fun _ _ => rfl)) (pg_sub (pv 9) (pv 8) set_list))
    (pss_cons (ps_set (i := 10) sc_law_refused.nd rfl (by first | exact Or.inl rfl | exact Or.inr rfl) (pe_ix (ix_U (K := K) rfl) (pe_lst (pa_cons pe_int (pa_cons pe_int (pa_cons pe_bl (pa_cons pe_non (pa_cons pe_str (pa_cons (pe_un un_neg pe_int) (pa_cons pe_bl (pa_cons (pe_op op_pow pe_int pe_int) pa_nil))))))))) (pe_call G_law_take (hr.mono (by decide)) rfl T.g__law_take k_law_take b_law_take .nil pass0 (pa_cons (pv 0) (pa_cons pe_int pa_nil))) (fun _ _ => rfl)))
    (pss_cons (ps_set (i := 11) sc_law_refused.nd rfl (by first | exact Or.inl rfl | exact Or.inr rfl) (pe_ix (ix_U (K := K) rfl) (pe_lst (pa_cons pe_int (pa_cons (pe_op (op_addU rfl) (pv 1) pe_int) (pa_cons pe_bl (pa_cons pe_non (pa_cons pe_str (pa_cons (pe_un un_neg pe_int) (pa_cons pe_bl (pa_cons (pe_op op_pow pe_int pe_int) pa_nil))))))))) (pe_call G_law_take (hr.mono (by decide)) rfl T.g__law_take k_law_take b_law_take .nil pass0 (pa_cons (pv 0) (pa_cons pe_int pa_nil))) (fun _ _ => rfl)))
    (pss_cons (ps_set (i := 12) sc_law_refused.nd rfl (by first | exact Or.inl rfl | exact Or.inr rfl) (pe_ix (ix_U (K := K) rfl) (pe_lst (pa_cons pe_non (pa_cons pe_str (pa_cons pe_int (pa_cons pe_bl pa_nil))))) (pe_call G_law_take (hr.mono (by decide)) rfl T.g__law_take k_law_take b_law_take .nil pass0 (pa_cons (pv 0) (pa_cons pe_int pa_nil))) (fun _ _ => rfl)))
    (pss_cons (ps_set (i := 13) sc_law_refused.nd rfl (by first | exact Or.inl rfl | exact Or.inr rfl) (pe_listRg rfl rfl T.z_list (prg_2 rfl T.z_range pe_int pe_int)))
    (pss_cons (ps_set (i := 14) sc_law_refused.nd rfl (by first | exact Or.inl rfl | exact Or.inr rfl) (pe_lst (pa_cons (pe_tup (pa_cons (pe_call G_law_called (hr.mono (by decide)) rfl T.g__law_called k_law_called b_law_called .nil pass0 (pa_cons pe_int (pa_cons (pe_lst (pa_cons (pv 1) (pa_cons (pv 6) (pa_cons (pv 1) pa_nil)))) pa_nil))) (pa_cons (pe_lst (pa_cons pe_str (pa_cons (pv 3) pa_nil))) pa_nil))) (pa_cons (pe_tup (pa_cons (pe_call G_law_called (hr.mono (by decide)) rfl T.g__law_called k_law_called b_law_called .nil pass0 (pa_cons pe_int (pa_cons (pe_lst (pa_cons (pv 1) (pa_cons (pv 6) (pa_cons (pe_op (op_addU rfl) (pv 1) pe_int) pa_nil)))) pa_nil))) (pa_cons (pe_lst (pa_cons pe_str (pa_cons (pe_un un_neg pe_int) pa_nil))) pa_nil))) (pa_cons (pe_tup (pa_cons (pe_call G_law_called (hr.mono (by decide)) rfl T.g__law_called k_law_called b_law_called .nil pass0 (pa_cons pe_int (pa_cons (pe_lst (pa_cons (pv 1) (pa_cons (pv 12) (pa_cons (pv 1) pa_nil)))) pa_nil))) (pa_cons (pe_lst (pa_cons pe_str (pa_cons (pe_un un_neg pe_int) pa_nil))) pa_nil))) (pa_cons (pe_tup (pa_cons (pe_call G_law_called (hr.mono (by decide)) rfl T.g__law_called k_law_called b_law_called .nil pass0 (pa_cons pe_int (pa_cons (pe_lst (pa_cons (pv 1) (pa_cons (pv 2) (pa_cons (pv 1) pa_nil)))) pa_nil))) (pa_cons (pe_lst (pa_cons pe_str (pa_cons (pe_callTy (call_tupU (K := K) rfl) (by rfl) T.z_tuple (by decide +kernel) (pa_cons (pv 2) pa_nil)) pa_nil))) pa_nil))) (pa_cons (pe_tup (pa_cons (pe_call G_law_called (hr.mono (by decide)) rfl T.g__law_called k_law_called b_law_called .nil pass0 (pa_cons pe_int (pa_cons (pe_lst (pa_cons (pv 1) (pa_cons (pv 7) (pa_cons (pe_op op_sub (pv 1) pe_int) pa_nil)))) pa_nil))) (pa_cons (pe_lst (pa_cons pe_str (pa_cons (pe_callTy (call_tupU (K := K) rfl) (by rfl) T.z_tuple (by decide +kernel) (pa_cons (pv 7) pa_nil)) pa_nil))) pa_nil))) (pa_cons (pe_tup (pa_cons (pe_call G_law_called (hr.mono (by decide)) rfl T.g__law_called k_law_called b_law_called .nil pass0 (pa_cons pe_int (pa_cons (pe_lst (pa_cons (pv 1) (pa_cons (pv 2) (pa_cons (pe_op op_sub (pv 1) pe_int) pa_nil)))) pa_nil))) (pa_cons (pe_lst (pa_cons pe_str (pa_cons (pe_un un_neg pe_int) pa_nil))) pa_nil))) (pa_cons (pe_tup (pa_cons (pe_call G_law_called (hr.mono (by decide)) rfl T.g__law_called k_law_called b_law_called .nil pass0 (pa_cons pe_int (pa_cons (pe_lst (pa_cons (pv 4) pa_nil)) pa_nil))) (pa_cons (pe_lst (pa_cons pe_str (pa_cons (pv 3) pa_nil))) pa_nil))) (pa_cons (pe_tup (pa_cons (pe_call G_law_called (hr.mono (by decide)) rfl T.g__law_called k_law_called b_law_called .nil pass0 (pa_cons pe_int (pa_cons (pe_lst (pa_cons (pv 4) pa_nil)) pa_nil))) (pa_cons (pe_lst (pa_cons pe_str (pa_cons (pv 3) pa_nil))) pa_nil))) (pa_cons (pe_tup (pa_cons (pe_call G_law_called (hr.mono (by decide)) rfl T.g__law_called k_law_called b_law_called .nil pass0 (pa_cons pe_int (pa_cons (pe_lst (pa_cons (pv 13) pa_nil)) pa_nil))) (pa_cons (pe_lst (pa_cons pe_str (pa_cons (pe_un un_neg pe_int) pa_nil))) pa_nil))) (pa_cons (pe_tup (pa_cons (pe_call G_law_called (hr.mono (by decide)) rfl T.g__law_called k_law_called b_law_called .nil pass0 (pa_cons pe_int (pa_cons (pe_lst (pa_cons (pv 13) pa_nil)) pa_nil))) (pa_cons (pe_lst (pa_cons pe_str (pa_cons (pe_un un_neg pe_int) pa_nil))) pa_nil))) (pa_cons (pe_tup (pa_cons (pe_call G_law_called (hr.mono (by decide)) rfl T.g__law_called k_law_called b_law_called .nil pass0 (pa_cons pe_int (pa_cons (pe_lst (pa_cons (pv 12) pa_nil)) pa_nil))) (pa_cons (pe_lst (pa_cons pe_str (pa_cons (pe_un un_neg pe_int) pa_nil))) pa_nil))) (pa_cons (pe_tup (pa_cons (pe_call G_law_called (hr.mono (by decide)) rfl T.g__law_called k_law_called b_law_called .nil pass0 (pa_cons pe_int (pa_cons (pe_lst (pa_cons (pv 12) pa_nil)) pa_nil))) (pa_cons (pe_lst (pa_cons pe_str (pa_cons (pe_un un_neg pe_int) pa_nil))) pa_nil))) (pa_cons (pe_tup (pa_cons (pe_call G_law_called (hr.mono (by decide)) rfl T.g__law_called k_law_called b_law_called .nil pass0 (pa_cons pe_int (pa_cons (pe_lst (pa_cons (pe_lst pa_nil) pa_nil)) pa_nil))) (pa_cons (pe_lst (pa_cons pe_str (pa_cons (pe_tup pa_nil) pa_nil))) pa_nil))) (pa_cons (pe_tup (pa_cons (pe_call G_law_called (hr.mono (by decide)) rfl T.g__law_called k_law_called b_law_called .nil pass0 (pa_cons pe_int (pa_cons (pe_lst (pa_cons (pe_tup pa_nil) pa_nil)) pa_nil))) (pa_cons (pe_lst (pa_cons pe_str (pa_cons pe_int pa_nil))) pa_nil))) (pa_cons (pe_tup (pa_cons (pe_call G_law_called (hr.mono (by decide)) rfl T.g__law_called k_law_called b_law_called .nil pass0 (pa_cons pe_int (pa_cons (pe_lst (pa_cons (pe_lst (pa_cons pe_int (pa_cons pe_int pa_nil))) pa_nil)) pa_nil))) (pa_cons (pe_lst (pa_cons pe_str (pa_cons pe_int pa_nil))) pa_nil))) (pa_cons (pe_tup (pa_cons (pe_call G_law_called (hr.mono (by decide)) rfl T.g__law_called k_law_called b_law_called .nil pass0 (pa_cons pe_int (pa_cons (pe_lst (pa_cons (pe_lst (pa_cons pe_int (pa_cons pe_int pa_nil))) pa_nil)) pa_nil))) (pa_cons (pe_lst (pa_cons pe_str (pa_cons pe_int pa_nil))) pa_nil))) (pa_cons (pe_tup (pa_cons (pe_call G_law_called (hr.mono (by decide)) rfl T.g__law_called k_law_called b_law_called .nil pass0 (pa_cons pe_int (pa_cons (pe_lst (pa_cons (pv 6) pa_nil)) pa_nil))) (pa_cons (pe_lst (pa_cons pe_str (pa_cons (pv 3) pa_nil))) pa_nil))) (pa_cons (pe_tup (pa_cons (pe_call G_law_called (hr.mono (by decide)) rfl T.g__law_called k_law_called b_law_called .nil pass0 (pa_cons pe_int (pa_cons (pe_lst (pa_cons (pv 6) pa_nil)) pa_nil))) (pa_cons (pe_lst (pa_cons pe_str (pa_cons (pv 3) pa_nil))) pa_nil))) (pa_cons (pe_tup (pa_cons (pe_call G_law_called (hr.mono (by decide)) rfl T.g__law_called k_law_called b_law_called .nil pass0 (pa_cons pe_int (pa_cons (pe_lst (pa_cons (pe_lst pa_nil) pa_nil)) pa_nil))) (pa_cons (pe_lst (pa_cons pe_str (pa_cons (pe_un un_neg pe_int) pa_nil))) pa_nil))) (pa_cons (pe_tup (pa_cons (pe_call G_law_called (hr.mono (by decide)) rfl T.g__law_called k_law_called b_law_called .nil pass0 (pa_cons pe_int (pa_cons (pe_lst (pa_cons (pv 13) pa_nil)) pa_nil))) (pa_cons (pe_lst (pa_cons pe_str (pa_cons (pe_un un_neg pe_int) pa_nil))) pa_nil))) (pa_cons (pe_tup (pa_cons (pe_call G_law_called (hr.mono (by decide)) rfl T.g__law_called k_law_called b_law_called .nil pass0 (pa_cons pe_int (pa_cons (pe_lst (pa_cons (pv 13) pa_nil)) pa_nil))) (pa_cons (pe_lst (pa_cons pe_str (pa_cons (pe_un un_neg pe_int) pa_nil))) pa_nil))) (pa_cons (pe_tup (pa_cons (pe_call G_law_called (hr.mono (by decide)) rfl T.g__law_called k_law_called b_law_called .nil pass0 (pa_cons pe_int (pa_cons (pe_lst (pa_cons (pv 12) pa_nil)) pa_nil))) (pa_cons (pe_lst (pa_cons pe_str (pa_cons (pe_un un_neg pe_int) pa_nil))) pa_nil))) (pa_cons (pe_tup (pa_cons (pe_call G_law_called (hr.mono (by decide)) rfl T.g__law_called k_law_called b_law_called .nil pass0 (pa_cons pe_int (pa_cons (pe_lst (pa_cons (pv 10) (pa_cons (pv 9) pa_nil))) pa_nil))) (pa_cons (pe_lst (pa_cons pe_str pa_nil)) pa_nil))) (pa_cons (pe_tup (pa_cons (pe_call G_law_called (hr.mono (by decide)) rfl T.g__law_called k_law_called b_law_called .nil pass0 (pa_cons pe_int (pa_cons (pe_lst (pa_cons (pv 1) (pa_cons (pv 9) pa_nil))) pa_nil))) (pa_cons (pe_lst (pa_cons pe_str (pa_cons (pv 8) pa_nil))) pa_nil))) (pa_cons (pe_tup (pa_cons (pe_call G_law_called (hr.mono (by decide)) rfl T.g__law_called k_law_called b_law_called .nil pass0 (pa_cons pe_int (pa_cons (pe_lst (pa_cons (pv 1) (pa_cons (pv 2) pa_nil))) pa_nil))) (pa_cons (pe_lst (pa_cons pe_str (pa_cons (pe_un un_neg pe_int) pa_nil))) pa_nil))) (pa_cons (pe_tup (pa_cons (pe_call G_law_called (hr.mono (by decide)) rfl T.g__law_called k_law_called b_law_called .nil pass0 (pa_cons pe_int (pa_cons (pe_lst (pa_cons (pe_op (op_addU rfl) (pv 1) pe_int) (pa_cons (pv 7) pa_nil))) pa_nil))) (pa_cons (pe_lst (pa_cons pe_str (pa_cons (pe_un un_neg pe_int) pa_nil))) pa_nil))) (pa_cons (pe_tup (pa_cons (pe_call G_law_called (hr.mono (by decide)) rfl T.g__law_called k_law_called b_law_called .nil pass0 (pa_cons pe_int (pa_cons (pe_lst (pa_cons (pv 6) (pa_cons (pv 11) pa_nil))) pa_nil))) (pa_cons (pe_lst (pa_cons pe_str (pa_cons (pv 3) pa_nil))) pa_nil))) (pa_cons (pe_tup (pa_cons (pe_call G_law_called (hr.mono (by decide)) rfl T.g__law_called k_law_called b_law_called .nil pass0 (pa_cons pe_int (pa_cons (pe_lst (pa_cons (pv 2) (pa_cons (pv 11) pa_nil))) pa_nil))) (pa_cons (pe_lst (pa_cons pe_str pa_nil)) pa_nil))) (pa_cons (pe_tup (pa_cons (pe_call G_law_called (hr.mono (by decide)) rfl T.g__law_called k_law_called b_law_called .nil pass0 (pa_cons pe_int (pa_cons (pe_lst (pa_cons (pv 10) (pa_cons (pv 9) (pa_cons (pv 11) pa_nil)))) pa_nil))) (pa_cons (pe_lst (pa_cons pe_str pa_nil)) pa_nil))) (pa_cons (pe_tup (pa_cons (pe_call G_law_called (hr.mono (by decide)) rfl T.g__law_called k_law_called b_law_called .nil pass0 (pa_cons pe_int (pa_cons (pe_lst (pa_cons (pv 1) (pa_cons (pv 9) (pa_cons (pv 11) pa_nil)))) pa_nil))) (pa_cons (pe_lst (pa_cons pe_str (pa_cons (pv 8) pa_nil))) pa_nil))) (pa_cons (pe_tup (pa_cons (pe_call G_law_called (hr.mono (by decide)) rfl T.g__law_called k_law_called b_law_called .nil pass0 (pa_cons pe_int (pa_cons (pe_lst (pa_cons (pv 1) (pa_cons (pv 7) (pa_cons (pv 11) pa_nil)))) pa_nil))) (pa_cons (pe_lst (pa_cons pe_str pa_nil)) pa_nil))) (pa_cons (pe_tup (pa_cons (pe_call G_law_called (hr.mono (by decide)) rfl T.g__law_called k_law_called b_law_called .nil pass0 (pa_cons pe_int (pa_cons (pe_lst (pa_cons (pv 1) (pa_cons (pv 7) (pa_cons (pv 1) pa_nil)))) pa_nil))) (pa_cons (pe_lst (pa_cons pe_str (pa_cons (pe_op (op_addU rfl) (pe_callTy (call_tupU (K := K) rfl) (by rfl) T.z_tuple (by decide +kernel) (pa_cons (pv 7) pa_nil)) (pe_tup (pa_cons (pe_ix (ix_U (K := K) rfl) (pv 2) pe_int (fun _ _ => rfl)) pa_nil))) pa_nil))) pa_nil))) (pa_cons (pe_tup (pa_cons (pe_call G_law_called (hr.mono (by decide)) rfl T.g__law_called k_law_called b_law_called .nil pass0 (pa_cons pe_int (pa_cons (pe_lst (pa_cons (pv 10) (pa_cons (pv 9) pa_nil))) pa_nil))) (pa_cons (pe_lst (pa_cons pe_str pa_nil)) pa_nil))) (pa_cons (pe_tup (pa_cons (pe_call G_law_called (hr.mono (by decide)) rfl T.g__law_called k_law_called b_law_called .nil pass0 (pa_cons pe_int (pa_cons (pe_lst (pa_cons (pv 1) (pa_cons (pv 9) pa_nil))) pa_nil))) (pa_cons (pe_lst (pa_cons pe_str (pa_cons (pv 8) pa_nil))) pa_nil))) (pa_cons (pe_tup (pa_cons (pe_call G_law_called (hr.mono (by decide)) rfl T.g__law_called k_law_called b_law_called .nil pass0 (pa_cons pe_int (pa_cons (pe_lst (pa_cons (pv 6) (pa_cons (pv 12) pa_nil))) pa_nil))) (pa_cons (pe_lst (pa_cons pe_str (pa_cons (pv 3) pa_nil))) pa_nil))) (pa_cons (pe_tup (pa_cons (pe_call G_law_called (hr.mono (by decide)) rfl T.g__law_called k_law_called b_law_called .nil pass0 (pa_cons pe_int (pa_cons (pe_lst (pa_cons (pv 2) (pa_cons (pv 6) pa_nil))) pa_nil))) (pa_cons (pe_lst (pa_cons pe_str (pa_cons (pv 3) pa_nil))) pa_nil))) (pa_cons (pe_tup (pa_cons (pe_call G_law_called (hr.mono (by decide)) rfl T.g__law_called k_law_called b_law_called .nil pass0 (pa_cons pe_int (pa_cons (pe_lst (pa_cons (pv 2) (pa_cons (pv 7) pa_nil))) pa_nil))) (pa_cons (pe_lst (pa_cons pe_str (pa_cons (pe_un un_neg pe_int) pa_nil))) pa_nil))) (pa_cons (pe_tup (pa_cons (pe_call G_law_called (hr.mono (by decide)) rfl T.g__law_called k_law_called b_law_called .nil pass0 (pa_cons pe_int (pa_cons (pe_lst (pa_cons (pv 12) (pa_cons (pv 2) pa_nil))) pa_nil))) (pa_cons (pe_lst (pa_cons pe_str (pa_cons (pe_un un_neg pe_int) pa_nil))) pa_nil))) pa_nil))))))))))))))))))))))))))))))))))))))))
    (pss_cons (ps_for PassesOwn.never rfl (pi_seq (pv 14)) (pg_tupK (K := K) (n := 2) rfl (by rfl) (pgs_cons (pg_name (i := 15) sc_law_refused.nd rfl (by first | exact Or.inl rfl | exact Or.inr rfl)) (pgs_cons (pg_name (i := 16) sc_law_refused.nd rfl (by first | exact Or.inl rfl | exact Or.inr rfl)) pgs_nil)))
    (pss_one (ps_if (pt_cmpR (op_neU rfl hr.units) (pe_callB (call_reprG (K := K) rfl gu hr.units) (by rfl) T.z_repr (by decide +kernel) (pa_cons (pv 15) pa_nil)) (pe_callB (call_reprG (K := K) rfl gu hr.units) (by rfl) T.z_repr (by decide +kernel) (pa_cons (pv 16) pa_nil)) (by first | exact nomark _ | rfl))
    (pss_one (ps_ret pe_bl))
    pss_nil)))
    (pss_one (ps_ret pe_bl)))))))))))))))))))), ?_⟩
    exact body_of0 rfl h fun X hd => (dst_seq (dst_asg (dg_op od_add (DEg.bor (de_int 2)) (DEg.bor (de_call0 dv_nil (ds_hand (i := 0) (ds_cons (de_int 7) ds_nil))))) (dg_name 1))
    (dst_of S_law_refused_r2_eq
    (dst_seq (dst_asg (DEg.cln (dg_cb cg_lst (db_cons (DEg.bor (de_call0 dv_nil (ds_hand (i := 0) (ds_cons (de_var 1) ds_nil)))) db_nil))) (dg_name 2))
    (dst_of S_law_refused_r3_eq
    (dst_seq (dst_asg (de_call0 dv_nil (ds_hand (i := 0) (ds_cons (de_var 1) ds_nil))) (dg_name 3))
    (dst_of S_law_refused_r4_eq
    (dst_seq (dst_own (dg_cb cg_lst (db_cons (db_var 2) db_nil)))
    (dst_of S_law_refused_r5_eq
    (dst_seq (dst_put (dg_if (dt_test (dg_op od_gt (db_var 3) (DEg.bor (de_int 0)))) (dg_op od_ix (db_var 2) (DEg.bor (de_call0 dv_nil (ds_hand (i := 0) (ds_cons (de_var 3) ds_nil))))) (de_int 0)) (de_var 3))
    (dst_of S_law_refused_r6_eq
    (dst_seq (dst_own (dg_cb cg_lst (db_cons (db_var 2) db_nil)))
    (dst_of S_law_refused_r7_eq
    (dst_seq (dst_put (dg_op od_ix (DEg.bor (DEg.cln (df_lst (da_cons (de_int 0) (da_cons (dg_op od_add (db_var 1) (DEg.bor (de_int 1))) (da_cons (de_bl true) (da_cons de_non (da_cons (de_str "1") (da_cons (de_un ud_neg (DEg.bor (de_int 1))) (da_cons (de_bl false) (da_cons (de_tup (da_cons (de_int 1) da_nil)) da_nil))))))))))) (DEg.bor (de_call0 dv_nil (ds_hand (i := 0) (ds_cons (de_int 8) ds_nil))))) (de_var 3))
    (dst_of S_law_refused_r8_eq
    (dst_seq (dst_frz 4 (dst_frz 5 (dst_asg (dg_op od_ix (DEg.bor (DEg.cln (df_lst (da_cons (de_var 4) (da_cons (de_var 5) da_nil))))) (DEg.bor (de_call0 dv_nil (ds_hand (i := 0) (ds_cons (de_int 2) ds_nil))))) (dg_name 6))))
    (dst_of S_law_refused_r9_eq
    (dst_seq (dst_asg (dg_sl sg_U (db_var 2) (do_some (de_int 1)) do_none) (dg_name 7))
    (dst_of S_law_refused_r10_eq
    (dst_seq (dst_asg (de_call0 dv_nil (ds_hand (i := 0) (ds_cons (dg_op od_sub (db_var 1) (DEg.bor (de_int 1))) ds_nil))) (dg_name 8))
    (dst_of S_law_refused_r11_eq
    (dst_seq (dst_own (dg_cb cg_lst (db_cons (db_var 7) db_nil)))
    (dst_of S_law_refused_r12_eq
    (dst_seq (dst_put (dg_op od_ix (DEg.bor (DEg.cln (df_lst (da_cons (de_int 0) (da_cons (dg_op od_add (db_var 1) (DEg.bor (de_int 1))) (da_cons (de_bl true) (da_cons de_non (da_cons (de_str "1") (da_cons (de_un ud_neg (DEg.bor (de_int 1))) (da_cons (de_bl false) (da_cons (dg_if (dt_test (dg_op od_gt (db_var 8) (DEg.bor (de_int 0)))) (dg_op od_ix (db_var 7) (DEg.bor (dg_op od_sub (db_var 8) (DEg.bor (de_int 1))))) (de_int 0)) da_nil))))))))))) (DEg.bor (de_call0 dv_nil (ds_hand (i := 0) (ds_cons (de_int 8) ds_nil))))) (de_var 8))
    (dst_of S_law_refused_r13_eq
    (dst_seq (dst_asg (dg_op od_ix (DEg.bor (DEg.cln (df_lst (da_cons (de_int 0) (da_cons (de_int 41) (da_cons (de_bl true) (da_cons de_non (da_cons (de_str "2") (da_cons (de_un ud_neg (DEg.bor (de_int 1))) (da_cons (de_bl false) (da_cons (de_powC (a := 10) (b := 20) (c := 100000000000000000000) (cpow_of (by decide +kernel)) (by decide +kernel)) da_nil))))))))))) (DEg.bor (de_call0 dv_nil (ds_hand (i := 0) (ds_cons (de_int 8) ds_nil))))) (dg_name 10))
    (dst_of S_law_refused_r14_eq
    (dst_seq (dst_asg (dg_op od_ix (DEg.bor (DEg.cln (df_lst (da_cons (de_int 0) (da_cons (dg_op od_add (db_var 1) (DEg.bor (de_int 1))) (da_cons (de_bl true) (da_cons de_non (da_cons (de_str "2") (da_cons (de_un ud_neg (DEg.bor (de_int 1))) (da_cons (de_bl false) (da_cons (de_powC (a := 10) (b := 20) (c := 100000000000000000000) (cpow_of (by decide +kernel)) (by decide +kernel)) da_nil))))))))))) (DEg.bor (de_call0 dv_nil (ds_hand (i := 0) (ds_cons (de_int 8) ds_nil))))) (dg_name 11))
    (dst_of S_law_refused_r15_eq
    (dst_seq (dst_asg (dg_op od_ix (DEg.bor (DEg.cln (df_lst (da_cons de_non (da_cons (de_str "12") (da_cons (de_int 7) (da_cons (de_bl true) da_nil))))))) (DEg.bor (de_call0 dv_nil (ds_hand (i := 0) (ds_cons (de_int 4) ds_nil))))) (dg_name 12))
    (dst_of S_law_refused_r16_eq
    (dst_seq (dst_asg (DEg.cln (df_listRg (de_int 1) (de_int 42))) (dg_name 13))
    (dst_of S_law_refused_r17_eq
    (dst_seq (dst_frz 4 (dst_frz 9 (dst_asg (DEg.cln (df_lst (da_cons (de_tup (da_cons (de_call0 dv_nil (ds_cons (de_int 0) (ds_cons (DEg.cln (df_lst (da_cons (de_var 1) (da_cons (de_var 6) (da_cons (de_var 1) da_nil))))) ds_nil))) (da_cons (DEg.cln (df_lst (da_cons (de_str "row") (da_cons (de_var 3) da_nil)))) da_nil))) (da_cons (de_tup (da_cons (de_call0 dv_nil (ds_cons (de_int 0) (ds_cons (DEg.cln (df_lst (da_cons (de_var 1) (da_cons (de_var 6) (da_cons (dg_op od_add (db_var 1) (DEg.bor (de_int 1))) da_nil))))) ds_nil))) (da_cons (DEg.cln (df_lst (da_cons (de_str "row") (da_cons (de_un ud_neg (DEg.bor (de_int 1))) da_nil)))) da_nil))) (da_cons (de_tup (da_cons (de_call0 dv_nil (ds_cons (de_int 0) (ds_cons (DEg.cln (df_lst (da_cons (de_var 1) (da_cons (de_var 12) (da_cons (de_var 1) da_nil))))) ds_nil))) (da_cons (DEg.cln (df_lst (da_cons (de_str "row") (da_cons (de_un ud_neg (DEg.bor (de_int 1))) da_nil)))) da_nil))) (da_cons (de_tup (da_cons (de_call0 dv_nil (ds_cons (de_int 0) (ds_cons (DEg.cln (df_lst (da_cons (de_var 1) (da_cons (de_var 2) (da_cons (de_var 1) da_nil))))) ds_nil))) (da_cons (DEg.cln (df_lst (da_cons (de_str "let") (da_cons (dg_cb cg_tup (db_cons (db_var 2) db_nil)) da_nil)))) da_nil))) (da_cons (de_tup (da_cons (de_call0 dv_nil (ds_cons (de_int 0) (ds_cons (DEg.cln (df_lst (da_cons (de_var 1) (da_cons (de_var 7) (da_cons (dg_op od_sub (db_var 1) (DEg.bor (de_int 1))) da_nil))))) ds_nil))) (da_cons (DEg.cln (df_lst (da_cons (de_str "let") (da_cons (dg_cb cg_tup (db_cons (db_var 7) db_nil)) da_nil)))) da_nil))) (da_cons (de_tup (da_cons (de_call0 dv_nil (ds_cons (de_int 0) (ds_cons (DEg.cln (df_lst (da_cons (de_var 1) (da_cons (de_var 2) (da_cons (dg_op od_sub (db_var 1) (DEg.bor (de_int 1))) da_nil))))) ds_nil))) (da_cons (DEg.cln (df_lst (da_cons (de_str "row") (da_cons (de_un ud_neg (DEg.bor (de_int 1))) da_nil)))) da_nil))) (da_cons (de_tup (da_cons (de_call0 dv_nil (ds_cons (de_int 1) (ds_cons (DEg.cln (df_lst (da_cons (de_var 4) da_nil))) ds_nil))) (da_cons (DEg.cln (df_lst (da_cons (de_str "row") (da_cons (de_var 3) da_nil)))) da_nil))) (da_cons (de_tup (da_cons (de_call0 dv_nil (ds_cons (de_int 2) (ds_cons (DEg.cln (df_lst (da_cons (de_var 4) da_nil))) ds_nil))) (da_cons (DEg.cln (df_lst (da_cons (de_str "row") (da_cons (de_var 3) da_nil)))) da_nil))) (da_cons (de_tup (da_cons (de_call0 dv_nil (ds_cons (de_int 1) (ds_cons (DEg.cln (df_lst (da_cons (de_var 13) da_nil))) ds_nil))) (da_cons (DEg.cln (df_lst (da_cons (de_str "row") (da_cons (de_un ud_neg (DEg.bor (de_int 1))) da_nil)))) da_nil))) (da_cons (de_tup (da_cons (de_call0 dv_nil (ds_cons (de_int 2) (ds_cons (DEg.cln (df_lst (da_cons (de_var 13) da_nil))) ds_nil))) (da_cons (DEg.cln (df_lst (da_cons (de_str "row") (da_cons (de_un ud_neg (DEg.bor (de_int 1))) da_nil)))) da_nil))) (da_cons (de_tup (da_cons (de_call0 dv_nil (ds_cons (de_int 1) (ds_cons (DEg.cln (df_lst (da_cons (de_var 12) da_nil))) ds_nil))) (da_cons (DEg.cln (df_lst (da_cons (de_str "row") (da_cons (de_un ud_neg (DEg.bor (de_int 1))) da_nil)))) da_nil))) (da_cons (de_tup (da_cons (de_call0 dv_nil (ds_cons (de_int 2) (ds_cons (DEg.cln (df_lst (da_cons (de_var 12) da_nil))) ds_nil))) (da_cons (DEg.cln (df_lst (da_cons (de_str "row") (da_cons (de_un ud_neg (DEg.bor (de_int 1))) da_nil)))) da_nil))) (da_cons (de_tup (da_cons (de_call0 dv_nil (ds_cons (de_int 1) (ds_cons (DEg.cln (df_lst (da_cons (DEg.cln (df_lst da_nil)) da_nil))) ds_nil))) (da_cons (DEg.cln (df_lst (da_cons (de_str "let") (da_cons (de_tup da_nil) da_nil)))) da_nil))) (da_cons (de_tup (da_cons (de_call0 dv_nil (ds_cons (de_int 2) (ds_cons (DEg.cln (df_lst (da_cons (de_tup da_nil) da_nil))) ds_nil))) (da_cons (DEg.cln (df_lst (da_cons (de_str "let") (da_cons (de_int 0) da_nil)))) da_nil))) (da_cons (de_tup (da_cons (de_call0 dv_nil (ds_cons (de_int 1) (ds_cons (DEg.cln (df_lst (da_cons (DEg.cln (df_lst (da_cons (de_int 41) (da_cons (de_int 0) da_nil)))) da_nil))) ds_nil))) (da_cons (DEg.cln (df_lst (da_cons (de_str "row") (da_cons (de_int 0) da_nil)))) da_nil))) (da_cons (de_tup (da_cons (de_call0 dv_nil (ds_cons (de_int 2) (ds_cons (DEg.cln (df_lst (da_cons (DEg.cln (df_lst (da_cons (de_int 40) (da_cons (de_int 41) da_nil)))) da_nil))) ds_nil))) (da_cons (DEg.cln (df_lst (da_cons (de_str "row") (da_cons (de_int 1) da_nil)))) da_nil))) (da_cons (de_tup (da_cons (de_call0 dv_nil (ds_cons (de_int 3) (ds_cons (DEg.cln (df_lst (da_cons (de_var 6) da_nil))) ds_nil))) (da_cons (DEg.cln (df_lst (da_cons (de_str "row") (da_cons (de_var 3) da_nil)))) da_nil))) (da_cons (de_tup (da_cons (de_call0 dv_nil (ds_cons (de_int 4) (ds_cons (DEg.cln (df_lst (da_cons (de_var 6) da_nil))) ds_nil))) (da_cons (DEg.cln (df_lst (da_cons (de_str "row") (da_cons (de_var 3) da_nil)))) da_nil))) (da_cons (de_tup (da_cons (de_call0 dv_nil (ds_cons (de_int 3) (ds_cons (DEg.cln (df_lst (da_cons (DEg.cln (df_lst da_nil)) da_nil))) ds_nil))) (da_cons (DEg.cln (df_lst (da_cons (de_str "row") (da_cons (de_un ud_neg (DEg.bor (de_int 1))) da_nil)))) da_nil))) (da_cons (de_tup (da_cons (de_call0 dv_nil (ds_cons (de_int 4) (ds_cons (DEg.cln (df_lst (da_cons (de_var 13) da_nil))) ds_nil))) (da_cons (DEg.cln (df_lst (da_cons (de_str "row") (da_cons (de_un ud_neg (DEg.bor (de_int 1))) da_nil)))) da_nil))) (da_cons (de_tup (da_cons (de_call0 dv_nil (ds_cons (de_int 3) (ds_cons (DEg.cln (df_lst (da_cons (de_var 13) da_nil))) ds_nil))) (da_cons (DEg.cln (df_lst (da_cons (de_str "row") (da_cons (de_un ud_neg (DEg.bor (de_int 1))) da_nil)))) da_nil))) (da_cons (de_tup (da_cons (de_call0 dv_nil (ds_cons (de_int 4) (ds_cons (DEg.cln (df_lst (da_cons (de_var 12) da_nil))) ds_nil))) (da_cons (DEg.cln (df_lst (da_cons (de_str "row") (da_cons (de_un ud_neg (DEg.bor (de_int 1))) da_nil)))) da_nil))) (da_cons (de_tup (da_cons (de_call0 dv_nil (ds_cons (de_int 5) (ds_cons (DEg.cln (df_lst (da_cons (de_var 10) (da_cons (de_var 9) da_nil)))) ds_nil))) (da_cons (DEg.cln (df_lst (da_cons (de_str "number") da_nil))) da_nil))) (da_cons (de_tup (da_cons (de_call0 dv_nil (ds_cons (de_int 5) (ds_cons (DEg.cln (df_lst (da_cons (de_var 1) (da_cons (de_var 9) da_nil)))) ds_nil))) (da_cons (DEg.cln (df_lst (da_cons (de_str "row") (da_cons (de_var 8) da_nil)))) da_nil))) (da_cons (de_tup (da_cons (de_call0 dv_nil (ds_cons (de_int 5) (ds_cons (DEg.cln (df_lst (da_cons (de_var 1) (da_cons (de_var 2) da_nil)))) ds_nil))) (da_cons (DEg.cln (df_lst (da_cons (de_str "row") (da_cons (de_un ud_neg (DEg.bor (de_int 1))) da_nil)))) da_nil))) (da_cons (de_tup (da_cons (de_call0 dv_nil (ds_cons (de_int 5) (ds_cons (DEg.cln (df_lst (da_cons (dg_op od_add (db_var 1) (DEg.bor (de_int 1))) (da_cons (de_var 7) da_nil)))) ds_nil))) (da_cons (DEg.cln (df_lst (da_cons (de_str "row") (da_cons (de_un ud_neg (DEg.bor (de_int 1))) da_nil)))) da_nil))) (da_cons (de_tup (da_cons (de_call0 dv_nil (ds_cons (de_int 6) (ds_cons (DEg.cln (df_lst (da_cons (de_var 6) (da_cons (de_var 11) da_nil)))) ds_nil))) (da_cons (DEg.cln (df_lst (da_cons (de_str "row") (da_cons (de_var 3) da_nil)))) da_nil))) (da_cons (de_tup (da_cons (de_call0 dv_nil (ds_cons (de_int 6) (ds_cons (DEg.cln (df_lst (da_cons (de_var 2) (da_cons (de_var 11) da_nil)))) ds_nil))) (da_cons (DEg.cln (df_lst (da_cons (de_str "number") da_nil))) da_nil))) (da_cons (de_tup (da_cons (de_call0 dv_nil (ds_cons (de_int 7) (ds_cons (DEg.cln (df_lst (da_cons (de_var 10) (da_cons (de_var 9) (da_cons (de_var 11) da_nil))))) ds_nil))) (da_cons (DEg.cln (df_lst (da_cons (de_str "number") da_nil))) da_nil))) (da_cons (de_tup (da_cons (de_call0 dv_nil (ds_cons (de_int 7) (ds_cons (DEg.cln (df_lst (da_cons (de_var 1) (da_cons (de_var 9) (da_cons (de_var 11) da_nil))))) ds_nil))) (da_cons (DEg.cln (df_lst (da_cons (de_str "row") (da_cons (de_var 8) da_nil)))) da_nil))) (da_cons (de_tup (da_cons (de_call0 dv_nil (ds_cons (de_int 7) (ds_cons (DEg.cln (df_lst (da_cons (de_var 1) (da_cons (de_var 7) (da_cons (de_var 11) da_nil))))) ds_nil))) (da_cons (DEg.cln (df_lst (da_cons (de_str "number") da_nil))) da_nil))) (da_cons (de_tup (da_cons (de_call0 dv_nil (ds_cons (de_int 7) (ds_cons (DEg.cln (df_lst (da_cons (de_var 1) (da_cons (de_var 7) (da_cons (de_var 1) da_nil))))) ds_nil))) (da_cons (DEg.cln (df_lst (da_cons (de_str "let") (da_cons (dg_op od_add (DEg.bor (dg_cb cg_tup (db_cons (db_var 7) db_nil))) (DEg.bor (de_tup (da_cons (dg_op od_ix (db_var 2) (DEg.bor (de_int 0))) da_nil)))) da_nil)))) da_nil))) (da_cons (de_tup (da_cons (de_call0 dv_nil (ds_cons (de_int 8) (ds_cons (DEg.cln (df_lst (da_cons (de_var 10) (da_cons (de_var 9) da_nil)))) ds_nil))) (da_cons (DEg.cln (df_lst (da_cons (de_str "number") da_nil))) da_nil))) (da_cons (de_tup (da_cons (de_call0 dv_nil (ds_cons (de_int 8) (ds_cons (DEg.cln (df_lst (da_cons (de_var 1) (da_cons (de_var 9) da_nil)))) ds_nil))) (da_cons (DEg.cln (df_lst (da_cons (de_str "row") (da_cons (de_var 8) da_nil)))) da_nil))) (da_cons (de_tup (da_cons (de_call0 dv_nil (ds_cons (de_int 9) (ds_cons (DEg.cln (df_lst (da_cons (de_var 6) (da_cons (de_var 12) da_nil)))) ds_nil))) (da_cons (DEg.cln (df_lst (da_cons (de_str "row") (da_cons (de_var 3) da_nil)))) da_nil))) (da_cons (de_tup (da_cons (de_call0 dv_nil (ds_cons (de_int 9) (ds_cons (DEg.cln (df_lst (da_cons (de_var 2) (da_cons (de_var 6) da_nil)))) ds_nil))) (da_cons (DEg.cln (df_lst (da_cons (de_str "row") (da_cons (de_var 3) da_nil)))) da_nil))) (da_cons (de_tup (da_cons (de_call0 dv_nil (ds_cons (de_int 9) (ds_cons (DEg.cln (df_lst (da_cons (de_var 2) (da_cons (de_var 7) da_nil)))) ds_nil))) (da_cons (DEg.cln (df_lst (da_cons (de_str "row") (da_cons (de_un ud_neg (DEg.bor (de_int 1))) da_nil)))) da_nil))) (da_cons (de_tup (da_cons (de_call0 dv_nil (ds_cons (de_int 9) (ds_cons (DEg.cln (df_lst (da_cons (de_var 12) (da_cons (de_var 2) da_nil)))) ds_nil))) (da_cons (DEg.cln (df_lst (da_cons (de_str "row") (da_cons (de_un ud_neg (DEg.bor (de_int 1))) da_nil)))) da_nil))) da_nil)))))))))))))))))))))))))))))))))))))))) (dg_name 14))))
    (dst_of S_law_refused_r18_eq
    (dst_seq (dst_for (di_seq (R := Cln) (de_var 14)) (dg_two 15 16)
    (dst_of S_law_refused_b19_eq
    (dst_if (dt_test (dg_op od_ne (DEg.bor (dg_cb cg_repr (db_cons (db_var 15) db_nil))) (DEg.bor (dg_cb cg_repr (db_cons (db_var 16) db_nil)))))
    (dst_ret (de_bl false))
    dst_next)))
    (dst_of S_law_refused_r21_eq
    (dst_ret (de_bl true))))))))))))))))))))))))))))))))))))))
end Mine

namespace Mine
open PySem PySem.Spec PyProof.Rows L2
theorem ok_law_common {P : Program} {w : World} {K : PySem.W.Frag} {mg : Str → Option Value} {base : Heap} (T : Txt K mg) : ∃ fd, FnOk P w K mg base CX0 1 (He.ga K "_law_common") fd P_law_common (spD K F_law_common) ∧ D_law_common K (He.ga K "_law_common") fd := by
  obtain ⟨fd, F⟩ := T.F_law_common
  refine ⟨fd, F.ok sc_law_common (fun vs H Q E h => ?_) (fun cdv A outer s H vs Q E hr h => ?_), F⟩
  · rw [F_law_common_eq] at h
    exact spD_len (np := 2) (fun _ _ _ h => h.1) vs H Q E h
  · rw [F_law_common_eq] at h
    refine ⟨_, PSs.nox (pss_cons (ps_set (i := 2) sc_law_common.nd rfl (by first | exact Or.inl rfl | exact Or.inr rfl) (pe_op op_mulU (pe_lst (pa_cons pe_int pa_nil)) (pe_op (op_addU rfl) (pe_callB (call_lenU (K := K) rfl) (by rfl) T.z_len (by decide +kernel) (pa_cons (pv 1) pa_nil)) pe_int)))
    (pss_cons (ps_for PassesOwn.never rfl (pi_seq (pv 0)) (pg_name (i := 3) sc_law_common.nd rfl (by first | exact Or.inl rfl | exact Or.inr rfl))
    (pss_cons (ps_set (i := 4) sc_law_common.nd rfl (by first | exact Or.inl rfl | exact Or.inr rfl) pe_int)
    (pss_one (ps_for PassesOwn.never rfl (pi_range1 (by rfl) T.z_range (pa_cons (pe_callB (call_lenU (K := K) rfl) (by rfl) T.z_len (by decide +kernel) (pa_cons (pv 1) pa_nil)) pa_nil)) (pg_name (i := 5) sc_law_common.nd rfl (by first | exact Or.inl rfl | exact Or.inr rfl))
    (pss_cons (ps_set (i := 6) sc_law_common.nd rfl (by first | exact Or.inl rfl | exact Or.inr rfl) (pe_ix (ix_U (K := K) rfl) (pv 2) (pe_op (op_addU rfl) (pv 5) pe_int) (fun _ _ => rfl)))
    (pss_cons (ps_if (pt_cmpR (op_eqU rfl hr.units) (pe_ix (ix_U (K := K) rfl) (pv 1) (pv 5) (fun _ _ => rfl)) (pv 3) (by first | exact nomark _ | rfl))
    (pss_one (ps_asg (pe_op (op_addU rfl) (pv 4) pe_int) (pg_sub (pv 2) (pe_op (op_addU rfl) (pv 5) pe_int) set_list)))
    (pss_one (ps_asg (pe_callB (call_max2U rfl) (by rfl) T.z_max (by decide +kernel) (pa_cons (pe_ix (ix_U (K := K) rfl) (pv 2) (pe_op (op_addU rfl) (pv 5) pe_int) (fun _ _ => rfl)) (pa_cons (pe_ix (ix_U (K := K) rfl) (pv 2) (pv 5) (fun _ _ => rfl)) pa_nil))) (pg_sub (pv 2) (pe_op (op_addU rfl) (pv 5) pe_int) set_list))))
    (pss_one (ps_set (i := 4) sc_law_common.nd rfl (by first | exact Or.inl rfl | exact Or.inr rfl) (pv 6)))))))))
    (pss_one (ps_ret (pe_ix (ix_U (K := K) rfl) (pv 2) (pe_callB (call_lenU (K := K) rfl) (by rfl) T.z_len (by decide +kernel) (pa_cons (pv 1) pa_nil)) (fun _ _ => rfl)))))), ?_⟩
    exact body_of0 rfl h fun X hd => (dst_seq (dst_own (dg_op od_mulL (DEg.bor (DEg.cln (df_lst (da_cons (de_int 0) da_nil)))) (DEg.bor (dg_op od_add (DEg.bor (dg_cb cg_len (db_cons (db_var 1) db_nil))) (DEg.bor (de_int 1))))))
    (dst_seq (dst_for (di_seq (R := Cln) (de_var 0)) (dg_name 3)
    (dst_seq (dst_asg (de_int 0) (dg_name 4))
    (dst_for (di_rng1 (db_cons (DEg.bor (dg_cb cg_len (db_cons (db_var 1) db_nil))) db_nil)) (dg_name 5)
    (dst_seq (dst_asg (dg_op od_ix (db_var 2) (DEg.bor (dg_op od_add (db_var 5) (DEg.bor (de_int 1))))) (dg_name 6))
    (dst_seq (dst_if (dt_test (dg_op od_eq (DEg.bor (dg_op od_ix (db_var 1) (db_var 5))) (db_var 3)))
    (dst_put (dg_op od_add (db_var 4) (DEg.bor (de_int 1))) (dg_op od_add (db_var 5) (DEg.bor (de_int 1))))
    (dst_put (dg_cb cg_max2 (db_cons (DEg.bor (dg_op od_ix (db_var 2) (DEg.bor (dg_op od_add (db_var 5) (DEg.bor (de_int 1)))))) (db_cons (DEg.bor (dg_op od_ix (db_var 2) (db_var 5))) db_nil))) (dg_op od_add (db_var 5) (DEg.bor (de_int 1)))))
    (dst_asg (de_var 6) (dg_name 4)))))))
    (dst_ret (dg_op od_ix (db_var 2) (DEg.bor (dg_cb cg_len (db_cons (db_var 1) db_nil)))))))
end Mine

namespace Mine
open PySem PySem.Spec PyProof.Rows L2
theorem ok_law_moves_right {P : Program} {w : World} {K : PySem.W.Frag} {mg : Str → Option Value} {base : Heap} (T : Txt K mg) : ∃ fd, FnG P w K mg base CX0 6 (He.ga K "_law_moves_right") fd P_law_moves_right (spD K F_law_moves_right) ∧ D_law_moves_right K (He.ga K "_law_moves_right") fd := by
  obtain ⟨fd, F⟩ := T.F_law_moves_right
  obtain ⟨fd_law_take, G_law_take, D_law_take⟩ := ok_law_take (P := P) (w := w) (base := base) T
  have k_law_take := D_law_take.kp
  have b_law_take := bd_law_take D_law_take
  obtain ⟨fd_law_order, G_law_order, D_law_order⟩ := ok_law_order (P := P) (w := w) (base := base) T
  have k_law_order := D_law_order.kp
  have b_law_order := bd_law_order D_law_order
  obtain ⟨fd_law_with, G_law_with, D_law_with⟩ := ok_law_with (P := P) (w := w) (base := base) T
  have k_law_with := D_law_with.kp
  have b_law_with := bd_law_with D_law_with
  obtain ⟨fd_law_without, G_law_without, D_law_without⟩ := ok_law_without (P := P) (w := w) (base := base) T
  have k_law_without := D_law_without.kp
  have b_law_without := bd_law_without D_law_without
  obtain ⟨fd_law_common, G_law_common, D_law_common⟩ := ok_law_common (P := P) (w := w) (base := base) T
  have k_law_common := D_law_common.kp
  have b_law_common := bd_law_common D_law_common
  obtain ⟨fd_moves_apart, G_moves_apart, D_moves_apart⟩ := ok_moves_apart (P := P) (w := w) (base := base) T
  have k_moves_apart := D_moves_apart.kp
  have b_moves_apart := bd_moves_apart D_moves_apart
  refine ⟨fd, funD_okG F sc_law_moves_right (fun vs H Q E h => ?_) (fun cdv A outer s H vs Q E gu hr h => ?_), F⟩
  · rw [F_law_moves_right_eq] at h
    exact spD_len (np := 1) (fun _ _ _ h => h.1) vs H Q E h
  · rw [F_law_moves_right_eq] at h
    refine ⟨_, PSs.nox (pss_cons (ps_set (i := 1) sc_law_moves_right.nd rfl (by first | exact Or.inl rfl | exact Or.inr rfl) (pe_ifExp (pt_cmpR (op_eqU rfl hr.units) (pe_call G_law_take (hr.mono (by decide)) rfl T.g__law_take k_law_take b_law_take .nil pass0 (pa_cons (pv 0) (pa_cons pe_int pa_nil))) pe_int (by first | exact nomark _ | rfl)) (pe_op (op_addU rfl) pe_int (pe_call G_law_take (hr.mono (by decide)) rfl T.g__law_take k_law_take b_law_take .nil pass0 (pa_cons (pv 0) (pa_cons pe_int pa_nil)))) (pe_op (op_addU rfl) pe_int (pe_call G_law_take (hr.mono (by decide)) rfl T.g__law_take k_law_take b_law_take .nil pass0 (pa_cons (pv 0) (pa_cons pe_int pa_nil))))))
    (pss_cons (ps_set (i := 2) sc_law_moves_right.nd rfl (by first | exact Or.inl rfl | exact Or.inr rfl) (pe_call G_law_order (hr.mono (by decide)) rfl T.g__law_order k_law_order b_law_order .nil pass0 (pa_cons (pv 0) (pa_cons (pv 1) pa_nil))))
    (pss_cons (ps_set (i := 3) sc_law_moves_right.nd rfl (by first | exact Or.inl rfl | exact Or.inr rfl) (pe_call G_law_order (hr.mono (by decide)) rfl T.g__law_order k_law_order b_law_order .nil pass0 (pa_cons (pv 0) (pa_cons (pv 1) pa_nil))))
    (pss_cons (ps_if (pt_cmpR op_gt (pe_call G_law_take (hr.mono (by decide)) rfl T.g__law_take k_law_take b_law_take .nil pass0 (pa_cons (pv 0) (pa_cons pe_int pa_nil))) pe_int (by first | exact nomark _ | rfl))
    (pss_cons (ps_set (i := 3) sc_law_moves_right.nd rfl (by first | exact Or.inl rfl | exact Or.inr rfl) (pv 2))
    (pss_one (ps_for PassesOwn.never rfl (pi_range1 (by rfl) T.z_range (pa_cons (pe_call G_law_take (hr.mono (by decide)) rfl T.g__law_take k_law_take b_law_take .nil pass0 (pa_cons (pv 0) (pa_cons pe_int pa_nil))) pa_nil)) (pg_name (i := 4) sc_law_moves_right.nd rfl (by first | exact Or.inl rfl | exact Or.inr rfl))
    (pss_cons (ps_set (i := 5) sc_law_moves_right.nd rfl (by first | exact Or.inl rfl | exact Or.inr rfl) (pe_op (op_addU rfl) pe_int (pe_call G_law_take (hr.mono (by decide)) rfl T.g__law_take k_law_take b_law_take .nil pass0 (pa_cons (pv 0) (pa_cons (pv 1) pa_nil)))))
    (pss_one (ps_set (i := 3) sc_law_moves_right.nd rfl (by first | exact Or.inl rfl | exact Or.inr rfl) (pe_call G_law_with (hr.mono (by decide)) rfl T.g__law_with k_law_with b_law_with .nil pass0 (pa_cons (pe_call G_law_without (hr.mono (by decide)) rfl T.g__law_without k_law_without b_law_without .nil pass0 (pa_cons (pv 3) (pa_cons (pv 5) pa_nil))) (pa_cons (pv 5) (pa_cons (pe_op (op_addU rfl) pe_int (pe_call G_law_take (hr.mono (by decide)) rfl T.g__law_take k_law_take b_law_take .nil pass0 (pa_cons (pv 0) (pa_cons (pv 1) pa_nil)))) pa_nil))))))))))
    pss_nil)
    (pss_cons (ps_set (i := 6) sc_law_moves_right.nd rfl (by first | exact Or.inl rfl | exact Or.inr rfl) (pe_op op_sub (pv 1) (pe_call G_law_common (hr.mono (by decide)) rfl T.g__law_common k_law_common b_law_common .nil pass0 (pa_cons (pv 2) (pa_cons (pv 3) pa_nil)))))
    (pss_cons (ps_if (PW.pt (pw_or (pt_cmpR (op_neU rfl hr.units) (pe_callB (call_reprG (K := K) rfl gu hr.units) (by rfl) T.z_repr (by decide +kernel) (pa_cons (pe_call G_moves_apart (hr.mono (by decide)) rfl T.g_moves_apart k_moves_apart b_moves_apart .nil passL (pa_cons (pe_callTy (call_lstU (K := K) rfl) (by rfl) T.z_list (by decide +kernel) (pa_cons (pv 2) pa_nil)) (pa_cons (pv 3) pa_nil))) pa_nil)) (pe_callB (call_reprG (K := K) rfl gu hr.units) (by rfl) T.z_repr (by decide +kernel) (pa_cons (pv 6) pa_nil)) (by first | exact nomark _ | rfl)) (pw_or1 (pt_cmpR (op_neU rfl hr.units) (pe_callB (call_reprG (K := K) rfl gu hr.units) (by rfl) T.z_repr (by decide +kernel) (pa_cons (pe_call G_moves_apart (hr.mono (by decide)) rfl T.g_moves_apart k_moves_apart b_moves_apart .nil passL (pa_cons (pv 3) (pa_cons (pe_callTy (call_lstU (K := K) rfl) (by rfl) T.z_list (by decide +kernel) (pa_cons (pv 2) pa_nil)) pa_nil))) pa_nil)) (pe_callB (call_reprG (K := K) rfl gu hr.units) (by rfl) T.z_repr (by decide +kernel) (pa_cons (pv 6) pa_nil)) (by first | exact nomark _ | rfl)))))
    (pss_one (ps_ret pe_bl))
    pss_nil)
    (pss_one (ps_ret (pe_cmpR (op_eqU rfl hr.units) (pe_callB (call_reprG (K := K) rfl gu hr.units) (by rfl) T.z_repr (by decide +kernel) (pa_cons (pe_call G_moves_apart (hr.mono (by decide)) rfl T.g_moves_apart k_moves_apart b_moves_apart .nil passL (pa_cons (pv 2) (pa_cons (pv 2) pa_nil))) pa_nil)) pe_str (by first | exact nomark _ | rfl)))))))))), ?_⟩
    exact body_of0 rfl h fun X hd => (dst_seq (dst_asg (dg_if (dt_test (dg_op od_eq (DEg.bor (de_call0 dv_nil (ds_hand (i := 0) (ds_cons (de_int 6) ds_nil)))) (DEg.bor (de_int 0)))) (dg_op od_add (DEg.bor (de_int 1)) (DEg.bor (de_call0 dv_nil (ds_hand (i := 0) (ds_cons (de_int 24) ds_nil))))) (dg_op od_add (DEg.bor (de_int 1)) (DEg.bor (de_call0 dv_nil (ds_hand (i := 0) (ds_cons (de_int 8) ds_nil)))))) (dg_name 1))
    (dst_of S_law_moves_right_r2_eq
    (dst_seq (dst_asg (de_call0 dv_nil (ds_hand (i := 0) (ds_cons (de_var 1) ds_nil))) (dg_name 2))
    (dst_of S_law_moves_right_r3_eq
    (dst_seq (dst_asg (de_call0 dv_nil (ds_hand (i := 0) (ds_cons (de_var 1) ds_nil))) (dg_name 3))
    (dst_of S_law_moves_right_r4_eq
    (dst_seq (dst_if (dt_test (dg_op od_gt (DEg.bor (de_call0 dv_nil (ds_hand (i := 0) (ds_cons (de_int 3) ds_nil)))) (DEg.bor (de_int 0))))
    (dst_seq (dst_asg (de_var 2) (dg_name 3))
    (dst_of S_law_moves_right_r6_eq
    (dst_for (di_rng1 (db_cons (DEg.bor (de_call0 dv_nil (ds_hand (i := 0) (ds_cons (de_int 5) ds_nil)))) db_nil)) (dg_name 4)
    (dst_of S_law_moves_right_b7_eq
    (dst_seq (dst_asg (dg_op od_add (DEg.bor (de_int 1)) (DEg.bor (de_call0 dv_nil (ds_hand (i := 0) (ds_cons (de_var 1) ds_nil))))) (dg_name 5))
    (dst_of S_law_moves_right_r8_eq
    (dst_asg (de_call0 dv_nil (ds_cons (de_call0 dv_nil (ds_cons (de_var 3) (ds_cons (de_var 5) ds_nil))) (ds_cons (de_var 5) (ds_cons (dg_op od_add (DEg.bor (de_int 1)) (DEg.bor (de_call0 dv_nil (ds_hand (i := 0) (ds_cons (de_var 1) ds_nil))))) ds_nil)))) (dg_name 3))))))))
    dst_next)
    (dst_of S_law_moves_right_r9_eq
    (dst_seq (dst_asg (dg_op od_sub (db_var 1) (DEg.bor (de_call0 dv_nil (ds_cons (de_var 2) (ds_cons (de_var 3) ds_nil))))) (dg_name 6))
    (dst_of S_law_moves_right_r10_eq
    (dst_seq (dst_if (dt_or (dt_test (dg_op od_ne (DEg.bor (dg_cb cg_repr (db_cons (DEg.bor (de_call0 dv_nil (ds_cons (DEg.cln (dg_cb cg_lst (db_cons (db_var 2) db_nil))) (ds_cons (de_var 3) ds_nil)))) db_nil))) (DEg.bor (dg_cb cg_repr (db_cons (db_var 6) db_nil))))) (dt_test (dg_op od_ne (DEg.bor (dg_cb cg_repr (db_cons (DEg.bor (de_call0 dv_nil (ds_cons (de_var 3) (ds_cons (DEg.cln (dg_cb cg_lst (db_cons (db_var 2) db_nil))) ds_nil)))) db_nil))) (DEg.bor (dg_cb cg_repr (db_cons (db_var 6) db_nil))))))
    (dst_ret (de_bl false))
    dst_next)
    (dst_of S_law_moves_right_r12_eq
    (dst_ret (dg_op od_eq (DEg.bor (dg_cb cg_repr (db_cons (DEg.bor (de_call0 dv_nil (ds_cons (de_var 2) (ds_cons (de_var 2) ds_nil)))) db_nil))) (DEg.bor (de_str "0"))))))))))))))))
end Mine

namespace Mine
open PySem PySem.Spec PyProof.Rows L2
theorem ok_law {P : Program} {w : World} {K : PySem.W.Frag} {mg : Str → Option Value} {base : Heap} (T : Txt K mg) (g : Goal) : ∃ fd, FnG P w K mg base CX0 8 (He.ga K "law") fd P_law (sp_law K) ∧ D_law K (He.ga K "law") fd := by
  obtain ⟨fd, F⟩ := T.F_law
  obtain ⟨fd_law_hand, G_law_hand, D_law_hand⟩ := ok_law_hand (P := P) (w := w) (base := base) T
  have k_law_hand := D_law_hand.kp
  have b_law_hand := bd_law_hand D_law_hand
  obtain ⟨fd_law_places_right, G_law_places_right, D_law_places_right⟩ := ok_law_places_right (P := P) (w := w) (base := base) T
  have k_law_places_right := D_law_places_right.kp
  have b_law_places_right := bd_law_places_right D_law_places_right
  obtain ⟨fd_law_any_right, G_law_any_right, D_law_any_right⟩ := ok_law_any_right (P := P) (w := w) (base := base) T
  have k_law_any_right := D_law_any_right.kp
  have b_law_any_right := bd_law_any_right D_law_any_right
  obtain ⟨fd_law_turned_right, G_law_turned_right, D_law_turned_right⟩ := ok_law_turned_right (P := P) (w := w) (base := base) T
  have k_law_turned_right := D_law_turned_right.kp
  have b_law_turned_right := bd_law_turned_right D_law_turned_right
  obtain ⟨fd_law_refused, G_law_refused, D_law_refused⟩ := ok_law_refused (P := P) (w := w) (base := base) T
  have k_law_refused := D_law_refused.kp
  have b_law_refused := bd_law_refused D_law_refused
  obtain ⟨fd_law_moves_right, G_law_moves_right, D_law_moves_right⟩ := ok_law_moves_right (P := P) (w := w) (base := base) T
  have k_law_moves_right := D_law_moves_right.kp
  have b_law_moves_right := bd_law_moves_right D_law_moves_right
  refine ⟨fd, funD_okG F sc_law (fun vs H Q E h => ?_) (fun cdv A outer s H vs Q E gu hr h => ?_), F⟩
  · obtain ⟨a, ns, rfl, _⟩ := h
    rfl
  · refine ⟨_, PSs.nox (pss_cons (ps_set (i := 1) sc_law.nd rfl (by first | exact Or.inl rfl | exact Or.inr rfl) (pe_call G_law_hand (hr.mono (by decide)) rfl T.g__law_hand k_law_hand b_law_hand .nil pass0 (pa_cons (pv 0) pa_nil)))
    (pss_cons (ps_if (PW.pt (pw_or (pt_not (pt_tru rfl (pe_callG G_law_turned_right gu (hr.mono (by decide)) rfl T.g__law_turned_right k_law_turned_right b_law_turned_right .nil pass0 (pa_cons (pv 1) pa_nil)) (by intro _; rfl))) (pw_or (pt_not (pt_tru rfl (pe_callG G_law_any_right gu (hr.mono (by decide)) rfl T.g__law_any_right k_law_any_right b_law_any_right .nil pass0 (pa_cons (pv 1) pa_nil)) (by intro _; rfl))) (pw_or1 (pt_not (pt_tru rfl (pe_callG G_law_places_right gu (hr.mono (by decide)) rfl T.g__law_places_right k_law_places_right b_law_places_right .nil pass0 (pa_cons (pv 1) pa_nil)) (by intro _; rfl)))))))
    (pss_one (ps_ret pe_bl))
    pss_nil)
    (pss_one (ps_ret (pe_and (pe_callG G_law_moves_right gu (hr.mono (by decide)) rfl T.g__law_moves_right k_law_moves_right b_law_moves_right .nil pass0 (pa_cons (pv 1) pa_nil)) (pe_one (pe_callG G_law_refused gu (hr.mono (by decide)) rfl T.g__law_refused k_law_refused b_law_refused .nil pass0 (pa_cons (pv 1) pa_nil)))))))), ?_⟩
    exact body_law rfl h g fun H X hd => (dst_seq (dst_if (dt_or (dt_not (dt_tru (DEg.bor (de_call0 dv_nil (ds_hand (i := 1) ds_nil))))) (dt_or (dt_not (dt_tru (DEg.bor (de_call0 dv_nil (ds_hand (i := 1) ds_nil))))) (dt_not (dt_tru (DEg.bor (de_call0 dv_nil (ds_hand (i := 1) ds_nil)))))))
    (dst_ret (de_bl false))
    dst_next)
    (dst_of S_law_r4_eq
    (dst_ret (de_andV (de_call0 dv_nil (ds_hand (i := 1) ds_nil)) (de_call0 dv_nil (ds_hand (i := 1) ds_nil))))))
end Mine

open PySem PySem.W PySem.Calls PyProof.Rows
set_option maxHeartbeats 0 in
theorem PySem.Challenge.cw_lostplaces_k23_whole_orders_rows_and_mov_holds : PySem.Challenge.rw_lostplaces_k23_whole_orders_rows_and_mov.Holds := by
  w_on; o_law
  refine HandSHeadRun.head_any (r := OpenLaw.row PySem.Challenge.rw_lostplaces_k23_whole_orders_rows_and_mov) (q := view (OpenLaw.row PySem.Challenge.rw_lostplaces_k23_whole_orders_rows_and_mov).prog [43]) (H := Mine.hk) (ob := Mine.ob) (M := 20000) (loose := Mine.loose) (d := HandSHeadRun.topDef (OpenLaw.row PySem.Challenge.rw_lostplaces_k23_whole_orders_rows_and_mov).prog 43) (kwd := []) Mine.ob_eq
    Mine.h_e Mine.h_f Mine.run Mine.h_def Mine.h_p Mine.h_k Mine.h_wr Mine.h_ws Mine.h_ok Mine.h_b ?hw ?hc
  case hw => w_witness2
  case hc =>
    refine Mine.walk_ofG (l := PySem.Challenge.rw_lostplaces_k23_whole_orders_rows_and_mov) (n := 63) (k := 8) (x := "_law_script") (Z := L2.CX0) rfl (by decide) (by kernel_rfl) ⟨rfl, by decide, by decide⟩ ?F (fun _ _ _ _ z => z)
    intro w mg fa h Y G hmg0
    obtain ⟨K, KX, c, E⟩ := Y
    have hmg : mg ("law" : PySem.Str) = some (.ref fa) := by
      have e : (HandSHeadRun.topDef (OpenLaw.row PySem.Challenge.rw_lostplaces_k23_whole_orders_rows_and_mov).prog 43).name = ("law" : PySem.Str) := by kernel_rfl
      rw [← e]
      exact hmg0
    have T := Mine.txt_of KX G c E
    obtain ⟨fd0, F0⟩ := T.F_law
    have e : fa = He.ga K "law" := by
      have z := hmg.symm.trans (He.glo_ok KX G (c.fact 59 (f := .glo "law") rfl))
      cases z
      rfl
    subst e
    have b0 : ∀ (s : Shared) (v : Value), BindsTo s fd0 ⟨[v], []⟩ [("_law_script", v)] := fun s v => L2.FunD.bindsA (ps := ["_law_script"]) F0 (fun _ _ _ _ _ _ us hl => match us, hl with | [_], _ => rfl) s [v] rfl
    refine ⟨K, fd0, Mine.sp_law K, KX, b0, fun H a ns hl _ hS => ⟨a, ns, rfl, hS, hl, fun _ => rfl⟩, fun base _ _ => ?_⟩
    obtain ⟨fd1, G1, D1⟩ := Mine.ok_law (g := Mine.goal) (P := (PySem.Challenge.rw_lostplaces_k23_whole_orders_rows_and_mov).prog) (w := w) (base := base) T
    have ef : fd1 = fd0 := Mine.funD_inj D1 F0
    exact ef ▸ G1
