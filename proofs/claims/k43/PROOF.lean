import PyProof.Rows.All
import Wide.All
import OpenK.AllK
import Wide.FinOn
import HandS.ForExc
import HandS.Comp
import HandS.Iter
import HandS.Conv
import HandS.Flow
import HandS.Walk
import HandS.TupAny
import HandS.TupSets
import HandS.SortInts
import HandS.TryMany
import HandS.IsInst
import HandS.Defaults
import HandS.Gcd
import HandS.ExcInit
import HandS.Text
import HandS.Head0
import HandS.Head1
import HandS.Head2
import HandS.Head3
import HandS.HeadEnd
import HandS.HeadHook1
import HandS.HeadHook2
import HandS.ExcField
import KE.GoesEnum
import HandS.Deep
import HandS.Strs
import HandS.Style
import HandS.ExcIs
import KE.GoesZip
import HandS.TupMul
import HandS.Zip
import HandS.CallSlots
import HandS.WordsDict
import HandS.Dict
import KE.GoesEnumKw
import HandS.Property
import HandS.HeadNt
import HandS.Small
import KE.KMathGC
import HandS.OwnEq
import HandS.SetBool
import HandS.FStr
import HandS.Star
import HandS.GenList
import HandS.SetFor
import KE.SortData
import KE.DataMinMax
import HandS.WideBits
import HandS.NoneIn
import KE.KxField
import PyProof.StrLawsIn
import KE.GoesMore
import PySem.Challenge.RW_lostplaces_k43_whole_sum_books_made_turn
set_option Elab.async false
set_option linter.all false
set_option maxRecDepth 100000
set_option maxHeartbeats 4000000
namespace Mine
open PySem PySem.Spec PyProof.Rows L2
/-! ### own errors -/
structure OwnExc (K : PySem.W.Frag) (C : Addr) : Prop where
  ex : PySem.W.excIn K C He.veBase "ValueError.__new__" = true
  kp : PySem.W.keepIn K (.ref C) = true
  sb : PySem.W.subIn K (.ref C) (.type "BaseException") = some true
  ty : PySem.W.typeIn K (.ref C) = some (.type "type")
theorem mk0 {X : Cx} {x : Str} {C : Addr} {p pos : Pos} (e : OwnExc X.K C) (g : X.mg x = some (.ref C)) (hg : Gl X x) (hd : (x == ("__debug__" : Str)) = false := by decide) :
    PMk X (.Call (.Name x p) [] [] pos) (fun _ H Q => Q (.ref C) none H) := by
  intro pn st sg Hh Qq J hq
  refine wpAny_Call_Name_kw (ld_glob J hg g ?_ hd)
  refine PySem.W.callWith_K0 J.kIn e.kp ?_
  have J2 := J
  obtain ⟨bm, N, nm, qn, bs, hdct, sn, sub, ab, col, dd, k0, k1, k2, k3, k5, mN, hC, hN, hni, T⟩ := exc_obj J.kIn e.ex
  obtain ⟨hp, g1, d1, tk, os⟩ := st
  exact wpAny_call_exc_subT PySem.F.excBase_ValueError T hC hN hni (fun h' a hm => mk_of J hm (raises_own e.sb e.ty) hq (J.hok.gone hm.new)) (Nat.zero_le _)
/-! ### len(set(xs)), xs whole numbers -/
/-! ### rules in a form that simp can read -/
section
variable {X : Cx}
theorem OpR.weak {f : Value → Value → Sem Value} {r r' : R2} (h : OpR X f r) (m : ∀ x y H Q, r' x y H Q → r x y H Q) : OpR X f r' :=
  fun pn st sg Hh x y u v Qq J rx ry hq => h pn st sg Hh x y u v Qq J rx ry (m _ _ _ _ hq)
theorem IxR.weak {r r' : R2} (h : IxR X r) (m : ∀ x y H Q, r' x y H Q → r x y H Q) : IxR X r' :=
  fun e1 e2 pn st sg Hh x y u v Qq J rx ry hq => h e1 e2 pn st sg Hh x y u v Qq J rx ry (m _ _ _ _ hq)
theorem CallR.weak {f : Value} {r r' : List V → Hp → VK → Prop} (h : CallR X f r) (m : ∀ xs H Q, r' xs H Q → r xs H Q) : CallR X f r' :=
  fun pn st sg Hh xs us Qq J rx hq => h pn st sg Hh xs us Qq J rx (m _ _ _ hq)
theorem call_intI : CallR X (.type "int") (fun xs H Q => ∃ i, xs = [.int i] ∧ Q (.int i) H) := CallR.weak call_int1 fun _ _ _ => .inl
def rIxH : R2 := fun x y H Q => ∃ p i xs v, x = .ref p ∧ y = .int i ∧ H p = some (.lst xs) ∧ atI xs i = some v ∧ Q v H
theorem ix_H : IxR X rIxH := IxR.weak ix_list fun _ _ _ _ ⟨p, i, xs, z, e1, e2, e3, e4, q⟩ => ⟨p, xs, i, z, e1, e2, .inl (.inl e3), e4, q⟩
def rIxTH : R2 := fun x y H Q => ∃ p i xs v, x = .ref p ∧ y = .int i ∧ H p = some (.tup xs) ∧ atI xs i = some v ∧ Q v H
theorem call_lenL : CallR X (.builtin "len") (fun xs H Q => ∃ p ys, xs = [.ref p] ∧ H p = some (.lst ys) ∧ Q (.int ys.length) H) :=
  CallR.weak call_len_seq fun _ _ _ ⟨p, ys, e1, e2, q⟩ => ⟨p, ys, e1, .inl (.inl (.inl e2)), q⟩
end
theorem tyL {K : PySem.W.Frag} {H : Hp} {p : Addr} {xs : List V} (h : H p = some (.lst xs)) : tyV K "list" (.ref p) H := .inl ⟨rfl, xs, .inl (.inl h)⟩
/-! ### isinstance -/
/-- what the layer can tell the kind of -/
def Kd (K : PySem.W.Frag) (H : Hp) : V → Prop
  | .non => True
  | .bl _ => True
  | .int _ => True
  | .str _ => True
  | .ref a => (∃ xs, SqL K H a xs) ∨ ∃ xs, SqT K H a xs
  | _ => False
def isIntV : V → Bool
  | .int _ => true
  | .bl _ => true
  | _ => false
def isBlV : V → Bool
  | .bl _ => true
  | _ => false
def isStrV : V → Bool
  | .str _ => true
  | _ => false
theorem tyx_L {K : PySem.W.Frag} {H : Hp} {a : Addr} {xs : List V} (h : SqL K H a xs) : TyX K H (.ref a) (.type "list") := by
  rcases h with (h | ⟨o, h⟩) | ⟨o, its, n, h, c, _⟩
  · exact .base (.lst h)
  · exact .base (.frz h)
  · exact .kList h c
theorem tyx_T {K : PySem.W.Frag} {H : Hp} {a : Addr} {xs : List V} (h : SqT K H a xs) : TyX K H (.ref a) (.type "tuple") := by
  rcases h with (h | ⟨o, h⟩) | ⟨o, its, n, h, c, _⟩
  · exact .base (.tup h)
  · exact .fTuple h
  · exact .kTuple h c
theorem kb_NoneType_int : kitB "NoneType" "int" = some false := by decide +kernel
theorem kb_NoneType_bool : kitB "NoneType" "bool" = some false := by decide +kernel
theorem kb_NoneType_str : kitB "NoneType" "str" = some false := by decide +kernel
theorem kb_bool_int : kitB "bool" "int" = some true := by decide +kernel
theorem kb_bool_bool : kitB "bool" "bool" = some true := by decide +kernel
theorem kb_bool_str : kitB "bool" "str" = some false := by decide +kernel
theorem kb_int_int : kitB "int" "int" = some true := by decide +kernel
theorem kb_int_bool : kitB "int" "bool" = some false := by decide +kernel
theorem kb_int_str : kitB "int" "str" = some false := by decide +kernel
theorem kb_str_int : kitB "str" "int" = some false := by decide +kernel
theorem kb_str_bool : kitB "str" "bool" = some false := by decide +kernel
theorem kb_str_str : kitB "str" "str" = some true := by decide +kernel
theorem kb_list_int : kitB "list" "int" = some false := by decide +kernel
theorem kb_list_bool : kitB "list" "bool" = some false := by decide +kernel
theorem kb_list_str : kitB "list" "str" = some false := by decide +kernel
theorem kb_tuple_int : kitB "tuple" "int" = some false := by decide +kernel
theorem kb_tuple_bool : kitB "tuple" "bool" = some false := by decide +kernel
theorem kb_tuple_str : kitB "tuple" "str" = some false := by decide +kernel
theorem Kd.ty {K : PySem.W.Frag} {H : Hp} {x : V} (h : Kd K H x) : ∃ t : String, TyX K H x (.type t) ∧ kitB t "int" = some (isIntV x) ∧ kitB t "bool" = some (isBlV x) ∧ kitB t "str" = some (isStrV x) := by
  cases x with
  | non => exact ⟨_, .base .non, kb_NoneType_int, kb_NoneType_bool, kb_NoneType_str⟩
  | bl b => exact ⟨_, .base (.bl b), kb_bool_int, kb_bool_bool, kb_bool_str⟩
  | int i => exact ⟨_, .base (.int i), kb_int_int, kb_int_bool, kb_int_str⟩
  | str z => exact ⟨_, .base (.str z), kb_str_int, kb_str_bool, kb_str_str⟩
  | ref a =>
    rcases h with ⟨xs, h⟩ | ⟨xs, h⟩
    · exact ⟨_, tyx_L h, kb_list_int, kb_list_bool, kb_list_str⟩
    · exact ⟨_, tyx_T h, kb_tuple_int, kb_tuple_bool, kb_tuple_str⟩
  | byt b => cases h
  | flt b => cases h
  | ty n => cases h
section
variable {X : Cx}
end
/-! ### loops -/
def Loop (J : It) (g : TG) (tb : TS) (D : Ends) (σ : L2.St) (H1 : Hp) : Prop := ∃ W : Nat → Nat → L2.St → Hp → Prop, (∃ m, W 0 m σ H1) ∧ ∀ i m σ H, W i m σ H →
  (J.stop i H ∧ D.nx σ H) ∨ (J.go i H ∧ ∃ N : L2.St → Hp → Prop, (∀ s' H', N s' H' → ∃ m', m' < m ∧ W (i + 1) m' s' H') ∧ ∀ x H', J.yld i H x H' → g x σ H' fun σ2 H2 => tb { D with nx := N, ct := N, bk := D.nx } σ2 H2)
theorem tFor_eq (wi : TI) (g : TG) (tb : TS) (D : Ends) (σ : L2.St) (H : Hp) : tFor wi g tb D σ H = wi σ H (fun J H1 => Loop J g tb D σ H1) := rfl
def Lc (J : It) (g : TG) (tt : TT) (te : TE) (vs : List Nat) (D : Addr) (σ : L2.St) (H1 : Hp) (Q : VK) : Prop := ∃ W : Nat → Nat → Hp → Prop, (∃ m, W 0 m (upd H1 D (.lst []))) ∧ ∀ i m H, W i m H →
  (J.stop i H ∧ Q (.ref D) H) ∨ (J.go i H ∧ ∃ Nx : Hp → Prop, (∀ H', Nx H' → ∃ m', m' < m ∧ W (i + 1) m' H') ∧ ∀ x H', J.yld i H x H' → g x (wipe σ vs) H' fun s2 H2 => wipe s2 vs = wipe σ vs ∧ tt s2 H2 fun b H3 =>
    if b = true then te s2 H3 fun y H4 => ∃ acc, H4 D = some (.lst acc) ∧ acc.length < sizeLine ∧ Nx (upd H4 D (.lst (acc ++ [y]))) else Nx H3)
theorem tLc_eq (wi : TI) (g : TG) (tt : TT) (te : TE) (vs : List Nat) (σ : L2.St) (H : Hp) (Q : VK) : tLc wi g tt te vs σ H Q = wi σ H (fun J H1 => ∀ D, H1 D = none → Lc J g tt te vs D σ H1 Q) := rfl
section
variable {J : It} {n : Nat} {G : Hp → Prop} {Y : Nat → Hp → V → Hp → Prop}
theorem Loop.by (w : Walk J n G Y) {g : TG} {tb : TS} {D : Ends} {σ : L2.St} {H : Hp} (Pv : Nat → L2.St → Hp → Prop) (h0 : Pv 0 σ H) (hG : ∀ i σ H, i ≤ n → Pv i σ H → G H)
    (hs : ∀ i x σ H H', i < n → Pv i σ H → Y i H x H' → g x σ H' fun s2 H2 => tb { D with nx := Pv (i + 1), ct := Pv (i + 1), bk := D.nx } s2 H2) (hd : ∀ σ H, Pv n σ H → D.nx σ H) : Loop J g tb D σ H := for_it w Pv h0 hG hs hd
theorem Lc.by (w : Walk J n G Y) {g : TG} {tt : TT} {te : TE} {vs : List Nat} {σ : L2.St} {H1 : Hp} {D : Addr} {Q : VK} (Pv : Nat → Hp → Prop) (h0 : Pv 0 (upd H1 D (.lst []))) (hG : ∀ i H, i ≤ n → Pv i H → G H)
    (hs : ∀ i x H H', i < n → Pv i H → Y i H x H' → g x (wipe σ vs) H' fun s2 H2 => wipe s2 vs = wipe σ vs ∧ tt s2 H2 fun b H3 =>
      if b = true then te s2 H3 fun y H4 => ∃ acc, H4 D = some (.lst acc) ∧ acc.length < sizeLine ∧ Pv (i + 1) (upd H4 D (.lst (acc ++ [y]))) else Pv (i + 1) H3) (hd : ∀ H, Pv n H → Q (.ref D) H) : Lc J g tt te vs D σ H1 Q := lc_it w Pv h0 hG hs hd
end
/-! ### while; what only grows with what is wanted -/
def Mon (t : TE) : Prop := ∀ σ H (Q Q' : VK), (∀ v H', Q v H' → Q' v H') → t σ H Q → t σ H Q'
def MonT (t : TT) : Prop := ∀ σ H (Q Q' : Bool → Hp → Prop), (∀ v H', Q v H' → Q' v H') → t σ H Q → t σ H Q'
def MonR (r : R2) : Prop := ∀ x y H (Q Q' : VK), (∀ v H', Q v H' → Q' v H') → r x y H Q → r x y H Q'
theorem mon_var (i : Nat) : Mon (tVar i) := fun _ _ _ _ m ⟨v, e, q⟩ => ⟨v, e, m _ _ q⟩
theorem mon_c (v : V) : Mon (tC v) := fun _ _ _ _ m q => m _ _ q
theorem mon_op {r : R2} {ta tb : TE} (mr : MonR r) (ma : Mon ta) (mb : Mon tb) : Mon (tOp r ta tb) := fun σ H _ _ m q => ma σ H _ _ (fun _ H1 q1 => mb σ H1 _ _ (fun _ _ q2 => mr _ _ _ _ _ m q2) q1) q
theorem mon_rI (C : Int → Int → Prop) (g : Int → Int → V) : MonR (rI C g) := fun _ _ _ _ _ m ⟨i, j, e1, e2, c, q⟩ => ⟨i, j, e1, e2, c, m _ _ q⟩
theorem mon_rI0 (g : Int → Int → V) : MonR (rI0 g) := fun _ _ _ _ _ m ⟨i, j, e1, e2, q⟩ => ⟨i, j, e1, e2, m _ _ q⟩
theorem mon_rEq : MonR rEq := fun _ _ _ _ _ m ⟨e, q⟩ => ⟨e, m _ _ q⟩
theorem mon_rNe : MonR rNe := fun _ _ _ _ _ m ⟨e, q⟩ => ⟨e, m _ _ q⟩
theorem mon_test {t : TE} (h : Mon t) : MonT (tTest t) := fun σ H _ _ m q => h σ H _ _ (fun _ _ ⟨k, e, q1⟩ => ⟨k, e, m _ _ q1⟩) q
theorem mon_and {t u : TT} (h : MonT t) (k : MonT u) : MonT (tAnd t u) := fun σ H Q Q' m q => h σ H _ _ (fun b H1 q1 => by
  cases b
  · exact m _ _ q1
  · exact k σ H1 _ _ m q1) q
theorem mon_or {t u : TT} (h : MonT t) (k : MonT u) : MonT (tOr t u) := fun σ H Q Q' m q => h σ H _ _ (fun b H1 q1 => by
  cases b
  · exact k σ H1 _ _ m q1
  · exact m _ _ q1) q
def Less (W : Nat → L2.St → Hp → Prop) (m : Nat) (σ : L2.St) (H : Hp) : Prop := ∃ m', m' < m ∧ W m' σ H
theorem While.by {c : TT} {tb : TS} {D : Ends} {σ : L2.St} {H : Hp} (mc : MonT c) (W : Nat → L2.St → Hp → Prop) (m0 : Nat) (h0 : W m0 σ H)
    (hs : ∀ m σ H, W m σ H → c σ H fun b H1 => if b = true then tb { D with nx := Less W m, ct := Less W m, bk := D.nx } σ H1 else D.nx σ H1) : tWhile c tb D σ H :=
  ⟨W, ⟨m0, h0⟩, fun m σ H hw => mc σ H _ _ (fun b H1 q => by
    cases b
    · exact q
    · exact ⟨Less W m, fun _ _ h => h, q⟩) (hs m σ H hw)⟩
/-! ### heaps -/
theorem same_upd {H : Hp} {p : Addr} {o : HO} (h : H p = none) : Same H (upd H p o) := fun b x e => by
  rw [upd_ne (ne_of_none e h)]
  exact e
/-- a comprehension that changes nothing but its own list: kept i is what turn i puts into it -/
theorem Lc.gen {J : It} {n j : Nat} {G : Hp → Prop} {Y : Nat → Hp → V → Hp → Prop} {tt : TT} {te : TE} {vs : List Nat} {D : Addr} {σ : L2.St} {H1 : Hp} {Q : VK} (wk : Walk J n G Y) (it : Nat → V) (kept : Nat → Option V)
    (hY : ∀ i H x H', i < n → Y i H x H' → H' = H ∧ x = it i) (hG : ∀ H', Same H1 H' → G H') (hD : H1 D = none) (hn : n ≤ 100000) (hw : ∀ i, wipe ((wipe σ vs).set j (some (it i))) vs = wipe σ vs)
    (step : ∀ i H (Qk : VK) (Qn : Hp → Prop), i < n → Same H1 H → (∀ y H4, Same H H4 → kept i = some y → Qk y H4) → (∀ H3, Same H H3 → kept i = none → Qn H3) →
      tt ((wipe σ vs).set j (some (it i))) H fun b H3 => if b = true then te ((wipe σ vs).set j (some (it i))) H3 Qk else Qn H3)
    (fin : ∀ H', Same H1 H' → H' D = some (.lst ((List.range n).filterMap kept)) → Q (.ref D) H') : Lc J (gName j) tt te vs D σ H1 Q := by
  refine Lc.by wk (fun i H => Same H1 H ∧ H D = some (.lst ((List.range i).filterMap kept))) ⟨same_upd hD, upd_same⟩ (fun i H _ p => hG H p.1) ?_ fun H p => fin H p.1 p.2
  rintro i x H H' hi ⟨sm, hd⟩ hy
  obtain ⟨rfl, rfl⟩ := hY i H x H' hi hy
  refine ⟨hw i, step i _ _ _ hi sm (fun y H4 s4 hk => ⟨_, s4 _ _ hd, ?_, fun b o e => ?_, ?_⟩) fun H3 s3 hk => ⟨sm.trans s3, ?_⟩⟩
  · refine Nat.lt_of_le_of_lt (Nat.le_trans (List.length_filterMap_le _ _) (by rw [List.length_range]; exact Nat.le_trans (Nat.le_of_lt hi) hn)) (by rw [sizeLine_eq]; omega)
  · rw [upd_ne (ne_of_none e hD)]; exact s4 _ _ (sm _ _ e)
  · rw [upd_same, List.range_succ, List.filterMap_append, List.filterMap_cons_some hk]; rfl
  · rw [s3 _ _ hd, List.range_succ, List.filterMap_append, List.filterMap_cons_none hk]; simp
section
variable {CX : CXT} {P : Program} {w : World} {K : PySem.W.Frag} {mg : Str → Option Value} {base : Heap} {N : List Str} {q : Str} {sc : Scope} {f : Addr} {cd : Value} {A : Around} {o : List Env} {s : Shared} {H : Hp} {E : XK}
theorem cx_K : (cxOf CX P w K mg base N q sc f cd A o s H E).K = K := rfl
theorem cx_prog : (cxOf CX P w K mg base N q sc f cd A o s H E).prog = P := rfl
theorem cx_w : (cxOf CX P w K mg base N q sc f cd A o s H E).w = w := rfl
theorem cx_nK : (cxOf CX P w K mg base N q sc f cd A o s H E).nox.K = K := rfl
end
theorem rEq_int (i j : Int) (H : Hp) (Q : VK) : rEq (.int i) (.int j) H Q = Q (.bl (decide (i = j))) H := by simp [rEq, scal]
theorem rNe_int (i j : Int) (H : Hp) (Q : VK) : rNe (.int i) (.int j) H Q = Q (.bl (!decide (i = j))) H := by simp [rNe, scal]
theorem rEq_bl (i j : Bool) (H : Hp) (Q : VK) : rEq (.bl i) (.bl j) H Q = Q (.bl (decide (i = j))) H := by simp [rEq, scal]
theorem rNe_bl (i j : Bool) (H : Hp) (Q : VK) : rNe (.bl i) (.bl j) H Q = Q (.bl (!decide (i = j))) H := by simp [rNe, scal]
theorem rEq_str (i j : Str) (H : Hp) (Q : VK) : rEq (.str i) (.str j) H Q = Q (.bl (decide (i = j))) H := by simp [rEq, scal]
theorem rNe_str (i j : Str) (H : Hp) (Q : VK) : rNe (.str i) (.str j) H Q = Q (.bl (!decide (i = j))) H := by simp [rNe, scal]
theorem atI_0 {α : Type} (a : α) (r : List α) : atI (a :: r) 0 = some a := atI_nat (j := 0) rfl
theorem atI_1 {α : Type} (a b : α) (r : List α) : atI (a :: b :: r) 1 = some b := atI_nat (j := 1) rfl
theorem atI_2 {α : Type} (a b c : α) (r : List α) : atI (a :: b :: c :: r) 2 = some c := atI_nat (j := 2) rfl
theorem atI_3 {α : Type} (a b c d : α) (r : List α) : atI (a :: b :: c :: d :: r) 3 = some d := atI_nat (j := 3) rfl
theorem ixN_4_0 : ixN 4 0 = some 0 := rfl
theorem ixN_4_1 : ixN 4 1 = some 1 := rfl
theorem ixN_4_2 : ixN 4 2 = some 2 := rfl
theorem ixN_4_3 : ixN 4 3 = some 3 := rfl
theorem some_lst {a b : List V} : (some (HO.lst a) = some (HO.lst b)) = (a = b) := by simp
theorem some_tup {a b : List V} : (some (HO.tup a) = some (HO.tup b)) = (a = b) := by simp
/-! ### the head: facts by names, and one more Bool -/
theorem own_of {K : PySem.W.Frag} {x : Str} (c : (He.Fa.exc x).ok K = true) : OwnExc K (He.ga K x) := by
  obtain ⟨a, b, d, e⟩ := He.exc_ok c
  exact ⟨a, b, d, e⟩
end Mine

namespace Mine
open PySem PySem.Spec PyProof.Rows L2
/-! ### own errors that keep what they are given -/
def oexB (K : PySem.W.Frag) (C : Addr) : Bool := match K.lookup C with
  | some ⟨.type "type", _, .cls cd, sl⟩ => (match cd.mro, sl.toList with
    | .ref C' :: bm, [_, _, _, _, some (.builtin n), _] => C' == C && (n == "ValueError.__new__" && (!cd.hasDel && (cd.hasDict && PySem.HandSPX.refsVE bm)))
    | _, _ => false)
  | _ => false
theorem oexB_cls {K : PySem.W.Frag} {C : Addr} (q : oexB K C = true) : ∃ nm q N bs bm sn sub ab col dd k0 k1 k2 k3 k5, K.lookup C = some (excClassObj nm q C N bs bm true sn sub ab col dd k0 k1 k2 k3 k5 "ValueError.__new__") ∧ PySem.HandSPX.refsVE bm = true := by
  unfold oexB at q
  split at q
  · rename_i dd cd sl ho
    split at q
    · rename_i C' bm k0 k1 k2 k3 n k5 hm hs
      simp only [Bool.and_eq_true, beq_iff_eq, Bool.not_eq_true'] at q
      obtain ⟨rfl, rfl, hdel, hdict, hb⟩ := q
      obtain ⟨nm, bs, mro, ns, qn, hd, sn, sub, ab, col, del⟩ := cd
      dsimp only at hm hdel hdict
      subst hm hdel hdict
      obtain ⟨l⟩ := sl
      simp only at hs
      subst hs
      exact ⟨nm, qn, ns, bs, bm, sn, sub, ab, col, dd, k0, k1, k2, k3, k5, ho, hb⟩
    · cases q
  · cases q
/-- the class at C: its __init__ at fI puts what it is given into f -/
structure FldExc (K : PySem.W.Frag) (C fI : Addr) : Prop where
  o : OexC K C
  ini : PySem.W.findIn K (.ref C) "__init__" = some (some (.ref fI))
  ty : PySem.W.typeIn K (.ref fI) = some (.type "function")
  x : XfC K C
def fexB (K : PySem.W.Frag) (x : Str) : Bool := oexB K (He.ga K x) && (He.eqO (PySem.W.findIn K (.ref (He.ga K x)) "__setattr__") (some (some (.builtin "object.__setattr__"))) && (decide (PySem.W.subIn K (.ref (He.ga K x)) (.type "BaseException") = some true) &&
  (decide (PySem.W.typeIn K (.ref (He.ga K x)) = some (.type "type")) && (PySem.W.keepIn K (.ref (He.ga K x)) && (He.eqO (PySem.W.findIn K (.ref (He.ga K x)) "__init__") (some (some (.ref (He.ma K (He.ga K x) "__init__")))) &&
  (decide (PySem.W.typeIn K (.ref (He.ma K (He.ga K x) "__init__")) = some (.type "function")) && xfB K (He.ga K x)))))))
theorem fexB_ok {K : PySem.W.Frag} {x : Str} (h : fexB K x = true) : FldExc K (He.ga K x) (He.ma K (He.ga K x) "__init__") := by
  obtain ⟨a, h⟩ := He.ba h
  obtain ⟨b, h⟩ := He.ba h
  obtain ⟨c, h⟩ := He.ba h
  obtain ⟨d, h⟩ := He.ba h
  obtain ⟨e, h⟩ := He.ba h
  obtain ⟨f, h⟩ := He.ba h
  obtain ⟨g, i⟩ := He.ba h
  exact ⟨⟨oexB_cls a, He.eqO_ok b, of_decide_eq_true c, of_decide_eq_true d, e⟩, He.eqO_ok f, of_decide_eq_true g, xfB_ok i⟩
theorem PMk.asks {X : Cx} {e : Expr} {t t' : L2.St → Hp → XK → Prop} (h : PMk X e t) (m : ∀ σ H Q, t' σ H Q → t σ H Q) : PMk X e t' := fun pn st sg Hh Qq J hq => h pn st sg Hh Qq J (m _ _ _ hq)
/-- what such an __init__ does -/
def spFld (C : Addr) (f : Str) : Sp := fun vs H Q _ => ∃ (a : Addr) (v : V), vs = [.ref a, v] ∧ H a = some (exo a C none) ∧ ∀ dx, H dx = none → dx ≠ a → Q .non (upd (upd H dx (exd dx [(f, v)])) a (exo a C (some dx)))
/-- X(e): the error's own dict at d -/
def tMk1 (C : Addr) (f : Str) (te : TE) : L2.St → Hp → XK → Prop := fun σ H Q => te σ H fun v H1 => ∀ d H', Same H1 H' → H1 d = none → H' d = some (.xd [(f, v)]) → Q (.ref C) (some d) H'
theorem mk1 {X : Cx} {x f : Str} {C fI : Addr} {k : Nat} {fd : FuncData} {e : Expr} {te : TE} {p pos : Pos} {ps : List Str} (T : FldExc X.K C fI) (g : X.mg x = some (.ref C)) (F1 : FnOk X.prog X.w X.K X.mg X.base CX0 k fI fd ps (spFld C f)) (hb : Binds X.K fd ps []) (hr : Room (k + 1) X.A)
    (mt : Mon te) (he : PE X e te) (hg : Gl X x) (hd : (x == ("__debug__" : Str)) = false := by decide) (hs : starEach (e :: []) X.env = (false, eval e X.env) :: starEach [] X.env := by rfl) (hpl : (backTo pos (starEach [] X.env)).any (·.1) = false := by rfl) :
    PMk X (.Call (.Name x p) [e] [] pos) (tMk1 C f te) := by
  refine PMk.asks (pmk_oex (dvs := []) (ds := []) T.o T.ini T.ty F1 hr hb .nil (fun _ _ _ _ _ _ _ h => h.elim) hg g (pa_cons he pa_nil hs) hd hs hpl) fun σ H Q h => ?_
  refine mt σ H _ _ (fun v H1 q => ?_) h
  show [v].length ≤ 1000 ∧ ∀ a, H1 a = none → spFld C f (.ref a :: ([v] ++ [])) (upd H1 a (exo a C none)) _ _
  refine ⟨by show 1 ≤ 1000; decide, fun a ha => ⟨a, v, rfl, upd_same, fun dx hdx ne => ⟨rfl, dx, [(f, v)], upd_same, ?_, ?_, ?_⟩⟩⟩
  · rw [upd_ne ne, upd_same]
  · rw [upd_ne ne] at hdx; exact hdx
  · have h1 : H1 dx = none := by rw [upd_ne ne] at hdx; exact hdx
    refine q dx _ (fun b o eb => ?_) h1 upd_same
    have nb : b ≠ a := ne_of_none eb ha
    have nd : b ≠ dx := ne_of_none eb h1
    rw [upd_ne nd, del_ne nb, upd_ne nb, upd_ne nd, upd_ne nb]; exact eb
end Mine

namespace PySem
set_option maxHeartbeats 8000000 in
theorem mine_enum_newB {v : Value} {o : Obj} {H : Heap → Prop} (B : Begins v o H) :
    Meets (Builtin.«enumerate.__new__» ⟨[.type "enumerate", v], []⟩) (fun _ R s => H s.heap ∧
      R (.ok (.ret (.ref (s.heap.push o).objs.size))) { s with heap := (s.heap.push o).push { cls := .type "enumerate", data := .fields #[.none, .bool false, .ref s.heap.objs.size, rawInt 0, .none, .none] } }) :=
  .of_wp fun prog w A R s h => by
    obtain ⟨hp, g, d, tk, os⟩ := s; obtain ⟨h1, h⟩ := h
    have hsub := sub_enumerate
    have q1 : ∀ {A' : Around} {E : Value → Shared → Prop} {Q : Value → Shared → Prop}, Q (.ref hp.objs.size) ⟨hp.push o, g, d, tk, os⟩ → wpAny (model prog w) A' (pyIter v) Q E ⟨hp, g, d, tk, os⟩ :=
      fun q => B.iter prog w _ _ ⟨hp, g, d, tk, os⟩ _ h1 q
    wp_walk using q1
    refine wpAny_stack_any fun st => wpAny_pure ?_
    split
    · rename_i c _ _ _ _ _
      cases (c == Value.type "enumerate")
      · wp_walk using q1
        exact ⟨_, rfl, h⟩
      · wp_walk using q1
        exact ⟨_, rfl, h⟩
    · wp_walk using q1
      exact ⟨_, rfl, h⟩
section
variable {prog : Program} {w : World} {A : Around} {E : Value → Shared → Prop} {s : Shared}
theorem mine_enum_call {v : Value} {o : Obj} {H : Heap → Prop} {Q : Value → Shared → Prop} (B : Begins v o H) (h1 : H s.heap)
    (h : ∀ h', IsEnum h' (s.heap.objs.size + 1) s.heap.objs.size 0 .none → h'.get? s.heap.objs.size = some o → h'.objs.size = s.heap.objs.size + 2 →
      (∀ b o, s.heap.get? b = some o → h'.get? b = some o) → Q (.ref (s.heap.objs.size + 1)) { s with heap := h' }) :
    wpAny (model prog w) A (call (.type "enumerate") [v]) Q E s := by
  refine callType_new F.called_enumerate (by decide) (F.typeCall_enumerate_1 _) (F.newCall_enumerate_1 _) (fun obj => F.args_object_init_2 obj _) F.entry_enumerate_new
    (mine_enum_newB B) ⟨h1, ?_⟩
  have hz : (s.heap.push o).objs.size = s.heap.objs.size + 1 := Heap.size_push ..
  show _ ∧ _
  rw [hz]
  have he : IsEnum ((s.heap.push o).push { cls := .type "enumerate", data := .fields #[.none, .bool false, .ref s.heap.objs.size, rawInt 0, .none, .none] }) (s.heap.objs.size + 1) s.heap.objs.size 0 .none := by
    have := Heap.get?_push_size (s.heap.push o) (o := { cls := .type "enumerate", data := .fields #[.none, .bool false, .ref s.heap.objs.size, rawInt 0, .none, .none] }) rfl
    rw [hz] at this; exact this
  refine ⟨⟨_, he, rfl⟩, h _ he (Heap.get?_push_of_some _ (Heap.get?_push_size _ B.free)) (by rw [Heap.size_push, hz]) fun b o x => Heap.get?_push_of_some _ (Heap.get?_push_of_some _ x)⟩
end
end PySem
namespace Mine
open PySem PySem.Spec PyProof.Rows L2
/-! ### enumerate over a tuple -/
def IteT (K : PySem.W.Frag) (a : Addr) : It :=
  ⟨fun i H => ∃ (xs : List V) (x : V), SqT K H a xs ∧ xs[i]? = some x, fun i H v H' => ∃ T x, v = .ref T ∧ H T = none ∧ H' = upd H T (.tup [.int (i : Nat), x]) ∧ ∀ xs, SqT K H a xs → xs[i]? = some x, fun i H => ∃ xs : List V, SqT K H a xs ∧ xs.length ≤ i⟩
theorem turn_enumT {P : Program} {w : World} {K : PySem.W.Frag} {elts : List Expr} {kk : Nat} {tpos : Pos} (a e it : Addr) (ha : a ≠ it) (hae : e ≠ a) :
    Turn P w K (.Tuple elts kk tpos) (IteT K a) [e, it] e (fun i h => (∃ old, IsEnum h e it ((i : Nat) : Int) old) ∧ h.IsTupleIter it a i ∧ e ≠ it) where
  mem := by simp
  obj := fun i h st b hb => by
    obtain ⟨⟨old, he⟩, ⟨o, ho, hc, hd⟩, _⟩ := st
    have e' : b = e ∨ b = it := by simpa using hb
    rcases e' with z | z
    · rw [z]; exact ⟨_, he, fun v q => nomatch q⟩
    · rw [z]; exact ⟨o, ho, fun v q => by rw [hd] at q; cases q⟩
  keep := fun i h h' st k => let ⟨⟨old, he⟩, hi, hne⟩ := st; ⟨⟨old, k e (by simp) _ he⟩, hi.at fun o q => k it (by simp) o q, hne⟩
  item := by
    intro X hP hw hK hc i pins s σ H E I hf st hg
    subst hP hw hK
    obtain ⟨⟨old, he⟩, hit, hne⟩ := st
    obtain ⟨xs, x, hq, hx⟩ := hg
    obtain ⟨its, rv, p, hz⟩ := I.tuple hq
    obtain ⟨u, hu, ru⟩ := rv.get hx
    have hel : e < s.heap.objs.size := Heap.lt_size he
    have hil : it < s.heap.objs.size := by obtain ⟨_, q, _⟩ := hit; exact Heap.lt_size q
    have pt : s.heap.IsTuple a its.toArray := p
    have hlt : i < its.toArray.size := by
      have := List.getElem?_eq_some_iff.mp hu
      obtain ⟨h, _⟩ := this
      simpa using h
    refine wpAny_pyNext_enum_itemD (i := i) (Draws.tuple (A := X.A.in1) (I.ok.hd hc) it a ha its.toArray) he ⟨hit, pt⟩ hlt hne (by simp [hne, hae]) fun x' h' tk hP ho hs' hT hsz hk => ?_
    have ex : x' = u := by
      have z : its.toArray[i]? = some u := by simpa using hu
      rw [hP] at z; exact Option.some.inj z
    subst ex
    refine ⟨_, rfl, wpAny_letOwnedTupleGo_enum (s := { s with heap := h', toks := tk + 1 }) ho fun h'' he' sb => ?_⟩
    have hT2 : h''.get? s.heap.objs.size = some { cls := .type "tuple", data := .seq #[.int i tk, x'] } := (sb.2 _ (Nat.ne_of_gt hel)).trans hT
    have new : ObjOk X.prog X.w (upd H s.heap.objs.size (.tup [.int (i : Nat), x])) h'' s.heap.objs.size (.tup [.int (i : Nat), x]) :=
      ⟨by show 2 ≤ sizeLine; decide, [.int i tk, x'], .cons ⟨_, rfl⟩ (.cons ru .nil), ⟨_, hT2, rfl, _, rfl⟩⟩
    have I1 : Inv X pins σ (upd H s.heap.objs.size (.tup [.int (i : Nat), x])) { s with heap := h'', toks := tk + 1 } :=
      I.turnedNew (ch := [e, it]) (fun b ob hb q => (sb.2 b (fun z => hb (by simp [z]))).trans (hk b ob (fun z => hb (by simp [z])) (fun z => hb (by simp [z])) q)) hf (Nat.le_refl _) new
    refine ⟨.ref s.heap.objs.size, _, I1, rfl, ⟨_, x, rfl, I.hok.fresh (Nat.le_refl _), rfl, fun ys hy => by rw [I.tuple_inj hy hq]; exact hx⟩, ⟨⟨x', ?_⟩, hs'.1.at fun o q => (sb.2 it (Ne.symm hne)).trans q, hne⟩, fun b hb => ?_⟩
    · have e1 : ((i + 1 : Nat) : Int) = (i : Int) + 1 := by omega
      rw [e1]; exact he'
    · have hb' : b < s.heap.objs.size := by
        have e' : b = e ∨ b = it := by simpa using hb
        rcases e' with z | z
        · rw [z]; exact hel
        · rw [z]; exact hil
      rw [upd_ne (Nat.ne_of_lt hb')]
      exact (hf b hb).1
  done := by
    intro X hP hw hK hc i pins s σ H E I hf st hg
    subst hP hw hK
    obtain ⟨⟨old, he⟩, hit, hne⟩ := st
    obtain ⟨xs, hq, hx⟩ := hg
    obtain ⟨its, rv, p, hz⟩ := I.tuple hq
    obtain ⟨f0, f1, f2, f3, f4, f5⟩ := hf it (by simp)
    have hl := rv.length
    have pt : s.heap.IsTuple a its.toArray := p
    have hT : s.TypeIs (.ref e) "enumerate" := ⟨_, he, rfl⟩
    unfold pyNext
    refine wpAny_bind (wpAny_attempt (wpAny_callSpecial?_slot (name := Str.ofString "__next__") hT F.slot_enumerate_next
      (wpAny_call_entry F.slot_enumerate_next hT F.entry_enumerate_next ?_ (F.args_enumerate_next_1 _))))
    show wpAny _ _ (field (.ref e) 2 >>= _) _ _ _
    refine wpAny_bind (wpAny_field he rfl (x := .ref it) rfl ?_)
    refine wpAny_bind (wpAny_nextOf_tuple_end (I.ok.hd hc) hit pt (by simp; omega) fun h' x he' hx' => ?_)
    obtain ⟨o, ho, hc⟩ := hx'
    refine wpAny_bind (wpAny_isInstance (T := "StopIteration") (b := true) ⟨o, ho, hc⟩ isSubtype_stop ?_)
    exact wpAny_pure ⟨rfl, I.turned (t' := s.toks) (fun b o hb q => he' b o hb q) f0 f1 f3 f4 f5⟩
  self := fun A i s Q E st h => let ⟨⟨_, he⟩, _⟩ := st; wpAny_pyIter_enum he h
def iEnumA (K : PySem.W.Frag) (ta : TA) : TI := fun σ H R => ta σ H fun vs H1 => ∃ a xs, vs = [.ref a] ∧ ((SqL K H1 a xs ∧ R (Ite K a) H1) ∨ (SqT K H1 a xs ∧ R (IteT K a) H1))
theorem pi_enumA {X : Cx} {e : Expr} {ta : TA} {p pos tpos : Pos} {elts : List Expr} {kk : Nat} (hg : Gl X "enumerate") (hm : X.mg "enumerate" = none) (ha : PA X [e] ta) (hs : starEach [e] X.env = [(false, eval e X.env)] := by rfl) :
    PI X (.Tuple elts kk tpos) (.Call (.Name "enumerate" p) [e] [] pos) (iEnumA X.K ta) := by
  refine ⟨fun pins s σ H R I h => ?_⟩
  refine Call_ (ld_blt I hg hm boot_enumerate (PyProof.Rows.callWith_type1 (thn (ha.run pos pins s σ H _ I h) fun us s1 ⟨vs, H1, I1, r1, q1⟩ => ?_) hs rfl))
  obtain ⟨a, xs, ex, q1⟩ := q1
  subst ex
  cases r1 with
  | cons r rr =>
    cases rr
    cases r
    have fp2 : ∀ b ∈ [s1.heap.objs.size + 1, s1.heap.objs.size], FpOk X pins H1 b := fun b hb => by
      have e' : b = s1.heap.objs.size + 1 ∨ b = s1.heap.objs.size := by simpa using hb
      have hle : s1.heap.objs.size ≤ b := by
        rcases e' with z | z
        · rw [z]; exact Nat.le_add_right _ _
        · rw [z]; exact Nat.le_refl _
      exact I1.fpOk hle (I1.hok.fresh hle)
    rcases q1 with ⟨hq, q⟩ | ⟨hq, q⟩
    · obtain ⟨its, rv, p', hz⟩ := I1.list hq
      refine call_enumerate_list p'.isList fun h' he hit hsz hk => wpAny_pyIter_enum he ?_
      have I2 : Inv X pins σ H1 { s1 with heap := h' } := I1.kept (t' := s1.toks) hk
      exact ⟨s1.heap.objs.size + 1, [s1.heap.objs.size + 1, s1.heap.objs.size], _, _, H1, rfl, I2, turn_enum a (s1.heap.objs.size + 1) s1.heap.objs.size, ⟨⟨.none, he⟩, hit, Nat.succ_ne_self _⟩, fp2, q⟩
    · obtain ⟨its, rv, p', hz⟩ := I1.tuple hq
      have pt : s1.heap.IsTuple a its.toArray := p'
      have hlt : a < s1.heap.objs.size := by
        obtain ⟨o, ho, _⟩ := id pt
        exact Heap.lt_size ho
      refine mine_enum_call (begins_tuple a its.toArray) pt fun h' he hit hsz hk => wpAny_pyIter_enum he ?_
      have I2 : Inv X pins σ H1 { s1 with heap := h' } := I1.kept (t' := s1.toks) hk
      exact ⟨s1.heap.objs.size + 1, [s1.heap.objs.size + 1, s1.heap.objs.size], _, _, H1, rfl, I2, turn_enumT a (s1.heap.objs.size + 1) s1.heap.objs.size (Nat.ne_of_lt hlt) (Nat.ne_of_gt (Nat.lt_succ_of_lt hlt)), ⟨⟨.none, he⟩, ⟨_, hit, rfl, rfl⟩, Nat.succ_ne_self _⟩, fp2, q⟩
theorem walk_enumT {K : PySem.W.Frag} {a : Addr} {xs : List V} : Walk (IteT K a) xs.length (fun H => SqT K H a xs) (YPair (fun i => some (.int (i : Nat))) (fun i => xs[i]?)) := by
  refine ⟨fun i _ hi q => ⟨xs, xs[i], q, by simp [hi]⟩, fun _ q => ⟨xs, q, Nat.le_refl _⟩, fun i H v H' _ q y => ?_⟩
  obtain ⟨T, x, h1, h2, h3, h4⟩ := y
  exact ⟨T, .int (i : Nat), x, h1, h2, h3, rfl, h4 xs q⟩
/-! ### a list or a tuple -/
def iSeq (K : PySem.W.Frag) (tl : TE) : TI := fun σ H R => tl σ H fun x H1 => ∃ a xs, x = .ref a ∧ ((SqL K H1 a xs ∧ R (Itl K a) H1) ∨ (SqT K H1 a xs ∧ R (Itt K a) H1))
theorem pi_seq {X : Cx} {tg l : Expr} {tl : TE} (hl : PE X l tl) : PI X tg l (iSeq X.K tl) := by
  refine ⟨fun pins s σ H R I h => ?_⟩
  refine thn (hl.run pins s σ H _ I h) fun v s1 ⟨x, H1, I1, r1, q1⟩ => ?_
  obtain ⟨a, xs, e, q1⟩ := q1
  subst e
  cases r1
  have fp1 : ∀ b ∈ [s1.heap.objs.size], FpOk X pins H1 b := fun b hb => by
    have e : b = s1.heap.objs.size := by simpa using hb
    subst e
    exact I1.fpOk (Nat.le_refl _) (I1.hok.fresh (Nat.le_refl _))
  rcases q1 with ⟨hq, q⟩ | ⟨hq, q⟩
  · obtain ⟨its, rv, p, hz⟩ := I1.list hq
    refine wpAny_pyIter_list p.isList ?_
    exact ⟨s1.heap.objs.size, [s1.heap.objs.size], _, _, H1, rfl, I1.kept (t' := s1.toks) fun b o e => Heap.get?_push_of_some _ e, turn_list a _, ⟨_, Heap.get?_push_size _ rfl, rfl, rfl⟩, fp1, q⟩
  · obtain ⟨its, rv, p, hz⟩ := I1.tuple hq
    refine wpAny_pyIter_tuple (show s1.heap.IsTuple a its.toArray from p) ?_
    exact ⟨s1.heap.objs.size, [s1.heap.objs.size], _, _, H1, rfl, I1.kept (t' := s1.toks) fun b o e => Heap.get?_push_of_some _ e, turn_tuple a _, ⟨_, Heap.get?_push_size _ rfl, rfl, rfl⟩, fp1, q⟩
section
variable {X : Cx}
end
end Mine

namespace L2
open PySem PySem.Spec PyProof.Rows
section
variable {P : Program} {w : World} {A : Around} {E : Value → Shared → Prop} {s : Shared}
end
end L2

namespace Mine
open PySem PySem.Spec PyProof.Rows L2
/-- at p: a list of tuples, the words ws -/
def Rows (H : Hp) (p : Addr) (ws : List (List Int)) : Prop := ∃ ks : List (Addr × List Int), H p = some (.lst (ks.map fun k => V.ref k.1)) ∧ ks.map (·.2) = ws ∧ ∀ k ∈ ks, H k.1 = some (.tup (k.2.map V.int))
theorem Rows.same {H H' : Hp} {p : Addr} {ws : List (List Int)} (r : Rows H p ws) (s : Same H H') : Rows H' p ws := by
  obtain ⟨ks, a, b, c⟩ := r
  exact ⟨ks, s _ _ a, b, fun k hk => s _ _ (c k hk)⟩
end Mine

namespace Mine
open PySem PySem.Spec PyProof.Rows L2
def MonU (r : V → Hp → VK → Prop) : Prop := ∀ x H (Q Q' : VK), (∀ v H', Q v H' → Q' v H') → r x H Q → r x H Q'
theorem mon_rU (g : Int → V) : MonU (rU g) := fun _ _ _ _ m ⟨i, e, q⟩ => ⟨i, e, m _ _ q⟩
theorem mon_un {r : V → Hp → VK → Prop} {ta : TE} (mr : MonU r) (ma : Mon ta) : Mon (tUn r ta) := fun σ H _ _ m q => ma σ H _ _ (fun _ _ q2 => mr _ _ _ _ m q2) q
end Mine

namespace L2
open PySem PySem.Spec PyProof.Rows
abbrev mineSet0 (w : World) : Obj := { cls := .type "set", dict := none, data := .set #[] 0 (.fresh 0 0 (!w.params.followText "set-order")) }
section
variable {P : Program} {w : World} {A : Around} {E : Value → Shared → Prop} {s : Shared}
/-- sum(t) of a tuple of whole numbers -/
theorem mine_sum_tup {l : Addr} {items : Array Value} {ns : List Int} {Q : Value → Shared → Prop} (hh : A.handled = none) (hl : s.heap.IsTuple l items) (hit : IntsAre items.toList ns)
    (h : ∀ h' tk t', (∀ b o, s.heap.get? b = some o → h'.get? b = some o) → Q (.int ns.sum t') { s with heap := h', toks := tk }) : wpAny (model P w) A (call (.builtin "sum") [.ref l]) Q E s := by
  have len : items.size = ns.length := by rw [← hit.length, Array.length_toList]
  have lt : l < s.heap.objs.size := by obtain ⟨_, e, _⟩ := id hl; exact Heap.lt_size e
  have pre : ∀ n, n ≤ ns.length → preSum (fun i => ns.getD i 0) n = (ns.take n).sum := by
    intro n
    induction n with
    | zero => intro _; rfl
    | succ n ih =>
      intro hn
      show preSum _ n + ns.getD n 0 = _
      rw [ih (by omega), PySem.sum_take_succ]
  refine call_sum_walkG (wpAny_pyIter_tuple hl ?_)
  refine ⟨s.heap.objs.size, _, _, _, _, _, fun i => ns.getD i 0, rfl, Walks.tuple (A := A.in1) (by simpa using hh) _ l (Nat.ne_of_lt lt) items, ⟨⟨_, Heap.get?_push_size _ rfl, rfl, rfl⟩, hl.push _⟩, fun b hb => ?_, fun i v hv => hit.int_at i v (by rw [Array.getElem?_toList]; exact hv), fun h' tk t' k => ?_⟩
  · have e : b = s.heap.objs.size ∨ b = l := by simpa using hb
    show b < (s.heap.push _).objs.size
    rw [Heap.size_push]
    rcases e with e | e
    · rw [e]; exact Nat.lt_succ_self _
    · rw [e]; exact Nat.lt_succ_of_lt lt
  · rw [len, pre _ (Nat.le_refl _), List.take_of_length_le (Nat.le_refl _)]
    exact h h' tk t' fun b o e => k b o (by simpa using Nat.ne_of_lt (Heap.lt_size e)) (Heap.get?_push_of_some _ e)
end
end L2
namespace Mine
open PySem PySem.Spec PyProof.Rows L2
section
variable {X : Cx}
def rSumT (K : PySem.W.Frag) : List V → Hp → VK → Prop := fun vs H Q => ∃ (a : Addr) (ns : List Int), vs = [V.ref a] ∧ SqT K H a (ns.map V.int) ∧ Q (.int ns.sum) H
theorem cr_sumT (hc : X.calm = true) : CallR X (.builtin "sum") (rSumT X.K) := by
  intro pins s σ H vs us Q I r h
  obtain ⟨a, ns, rfl, ha, q⟩ := h
  rw [Vals.ref1 r]
  obtain ⟨its, rv, pl, hz⟩ := I.tuple ha
  refine mine_sum_tup (items := its.toArray) (I.ok.hd hc) pl (by simpa using Vals.ints rv) fun h' tk t' k => ?_
  exact ⟨.int ns.sum, H, I.kept (t' := tk) k, ⟨t', rfl⟩, q⟩
end
end Mine

namespace Mine
open PySem PySem.Spec PyProof.Rows L2
theorem getD_at {w : List Int} {i : Nat} (h : i < w.length) : w[i]? = some (w.getD i 0) := by rw [List.getD_eq_getElem?_getD, List.getElem?_eq_getElem h]; rfl
section
variable {j : Nat} {tt : TT} {te : TE} {vs : List Nat} {D : Addr} {σ : L2.St} {H1 : Hp} {Q : VK}
/-- .. over a tuple of whole numbers -/
theorem Lc.ints {K : PySem.W.Frag} {a : Addr} {w : List Int} (kept : Nat → Option V) (hs : SqT K H1 a (w.map V.int)) (hD : H1 D = none) (hn : w.length ≤ 100000) (hw : ∀ x : V, wipe ((wipe σ vs).set j (some x)) vs = wipe σ vs)
    (step : ∀ i H (Qk : VK) (Qn : Hp → Prop), i < w.length → Same H1 H → (∀ y H4, Same H H4 → kept i = some y → Qk y H4) → (∀ H3, Same H H3 → kept i = none → Qn H3) →
      tt ((wipe σ vs).set j (some (.int (w.getD i 0)))) H fun b H3 => if b = true then te ((wipe σ vs).set j (some (.int (w.getD i 0)))) H3 Qk else Qn H3)
    (fin : ∀ H', Same H1 H' → H' D = some (.lst ((List.range w.length).filterMap kept)) → Q (.ref D) H') : Lc (Itt K a) (gName j) tt te vs D σ H1 Q := by
  have wk := walk_tup (K := K) (a := a) (xs := w.map V.int)
  rw [List.length_map] at wk
  refine Lc.gen wk (fun i => V.int (w.getD i 0)) kept ?_ (fun H' s => ?_) hD hn (fun i => hw _) step fin
  · rintro i H x H' hi ⟨rfl, hx⟩
    rw [List.getElem?_map, getD_at hi] at hx
    exact ⟨rfl, (Option.some.inj hx).symm⟩
  · rcases hs with (h | ⟨o, h⟩) | h
    · exact .inl (.inl (s _ _ h))
    · exact .inl (.inr ⟨o, s _ _ h⟩)
    · exact .inr h
/-- a comprehension that makes tuples of whole numbers: f i at turn i -/
theorem Lc.rows {J : It} {n : Nat} {G : Hp → Prop} {Y : Nat → Hp → V → Hp → Prop} (wk : Walk J n G Y) (it : Nat → V) (f : Nat → List Int)
    (hY : ∀ i H x H', i < n → Y i H x H' → H' = H ∧ x = it i) (hG : ∀ H', Same H1 H' → G H') (hD : H1 D = none) (hn : n ≤ 100000) (hw : ∀ x : V, wipe ((wipe σ vs).set j (some x)) vs = wipe σ vs)
    (step : ∀ i H (Qk : VK), i < n → Same H1 H → (∀ p H4, Same H H4 → H4 p = some (.tup ((f i).map V.int)) → Qk (.ref p) H4) → te ((wipe σ vs).set j (some (it i))) H Qk)
    (fin : ∀ H', Same H1 H' → Rows H' D ((List.range n).map f) → Q (.ref D) H') : Lc J (gName j) tYes te vs D σ H1 Q := by
  refine Lc.by wk (fun i H => Same H1 H ∧ Rows H D ((List.range i).map f)) ⟨same_upd hD, [], upd_same, rfl, fun k hk => by cases hk⟩ (fun i H _ p => hG H p.1) ?_ fun H p => fin H p.1 p.2
  rintro i x H H' hi ⟨sm, ks, h1, h2, h3⟩ hy
  obtain ⟨rfl, rfl⟩ := hY i H x H' hi hy
  refine ⟨hw _, ?_⟩
  unfold tYes
  dsimp only
  rw [if_pos rfl]
  refine step i H' _ hi sm fun p H4 s4 hp => ⟨_, s4 _ _ h1, ?_, fun b o e => ?_, ks ++ [(p, f i)], ?_, ?_, fun k hk => ?_⟩
  · have : ks.length = i := by have := congrArg List.length h2; simpa using this
    rw [List.length_map, this, sizeLine_eq]; omega
  · rw [upd_ne (ne_of_none e hD)]; exact s4 _ _ (sm _ _ e)
  · rw [upd_same, List.map_append]; rfl
  · rw [List.map_append, h2, List.range_succ, List.map_append]; rfl
  · have kt : H4 k.1 = some (.tup (k.2.map V.int)) := by
      rcases List.mem_append.mp hk with m | m
      · exact s4 _ _ (h3 k m)
      · have : k = (p, f i) := by simpa using m
        rw [this]; exact hp
    have ne : k.1 ≠ D := fun e => by rw [e, s4 _ _ h1] at kt; cases kt
    rw [upd_ne ne]; exact kt
end
/-! ### rules that name the fragment, within a comprehension -/
theorem CallR.k {X : Cx} {f : Value} {r : PySem.W.Frag → List V → Hp → VK → Prop} (h : CallR X f (r X.K)) {K : PySem.W.Frag} (e : X.K = K) : CallR X f (r K) := e ▸ h
theorem OpR.k {X : Cx} {f : Value → Value → Sem Value} {r : PySem.W.Frag → R2} (h : OpR X f (r X.K)) {K : PySem.W.Frag} (e : X.K = K) : OpR X f (r K) := e ▸ h
theorem SlR.k {X : Cx} {r : PySem.W.Frag → V → Option Int → Option Int → Hp → VK → Prop} (h : SlR X (r X.K)) {K : PySem.W.Frag} (e : X.K = K) : SlR X (r K) := e ▸ h
/-! ### pieces of tuples, tuples put together -/
theorem cut_all {xs : List V} {lo hi : Option Int} (h1 : HT.sIx xs.length 0 lo = 0) (h2 : HT.sIx xs.length xs.length hi = xs.length) : cutV xs lo hi = xs := by
  unfold cutV
  rw [h1, h2, List.drop_zero, Nat.sub_zero, List.take_of_length_le (Nat.le_refl _)]
section
variable {K : PySem.W.Frag} {H : Hp} {Q : VK} {a b : Addr} {xs ys : List V}
end
/-! ### equality of words, of rows of words -/
section
variable {K : PySem.W.Frag} {H : Hp} {Q : VK} {a b : Addr} {x y : List Int} {xs ys : List (List Int)}
end
end Mine

namespace Mine
open PySem PySem.Spec PyProof.Rows L2
/-! ### several except clauses, with names -/
abbrev Suit := Addr → Value → Option Addr → TS
def endsAs (D : Ends) : Option Nat → Ends
  | none => D
  | some i => { nx := fun σ H => D.nx (σ.set i none) H, rt := D.rt, bk := fun σ H => D.bk (σ.set i none) H, ct := fun σ H => D.ct (σ.set i none) H }
def bindAs (σ : L2.St) (a : Addr) : Option Nat → L2.St
  | none => σ
  | some i => σ.set i (some (.ref a))
/-- what the clauses wish of an exception of the body -/
def wNamed (K : PySem.W.Frag) (Wout : WX) (D : Ends) : List (Value × Option Nat × Suit) → WX
  | [] => Wout
  | (c, o, ts) :: r => fun cls d σ H => ∃ b, PySem.W.exmOne K cls c = some b ∧ (b = true → ∀ a, H a = none → ts a cls d (endsAs D o) (bindAs σ a o) H) ∧ (b = false → wNamed K Wout D r cls d σ H)
def SuitOk (X : Cx) (body : List Stmt) (ts : Suit) : Prop := ∀ (a : Addr) (oe : Obj) (cls : Value) (d : Option Addr) (pn : List (Addr × Obj)), Zc cls d oe → (∃ vs, oe.data = .fields vs) → PSs (X.suite a ((a, oe) :: pn)) body (ts a cls d)
inductive HdsN (X : Cx) : List ExceptHandler → List (Value × Option Nat × Suit) → Prop
  | nil : HdsN X [] []
  | bare {x : Str} {c : Value} {ts : Suit} {b₀ : Stmt} {suite : List Stmt} {np pos' : Pos} {hds : List ExceptHandler} {l : List (Value × Option Nat × Suit)} (hc : Names X x c) (hsu : SuitOk X (b₀ :: suite) ts) (r : HdsN X hds l) :
      HdsN X (.ExceptHandler (some (.Name x np)) none (b₀ :: suite) pos' :: hds) ((c, none, ts) :: l)
  | named {x n : Str} {i : Nat} {c : Value} {ts : Suit} {b₀ : Stmt} {suite : List Stmt} {np pos' : Pos} {hds : List ExceptHandler} {l : List (Value × Option Nat × Suit)} (hi : X.N[i]? = some n) (hln : X.env.kindOf n = some .local)
      (hc : Names X x c) (hsu : SuitOk X (b₀ :: suite) ts) (r : HdsN X hds l) : HdsN X (.ExceptHandler (some (.Name x np)) (some n) (b₀ :: suite) pos' :: hds) ((c, some i, ts) :: l)
section
variable {X : Cx} {pins : List (Addr × Obj)}
/-- an exception in hand, at the clauses -/
structure Hand (X : Cx) (pins : List (Addr × Obj)) (σ : L2.St) (H : Hp) (a : Addr) (cls : Value) (d : Option Addr) (s : Shared) : Prop where
  ob : ∃ oe vs, s.heap.get? a = some oe ∧ Zc cls d oe ∧ oe.data = .fields vs
  inv : Inv X pins σ H s
  nH : H a = none
  nL : a ≠ X.env.locals
  nF : a ∉ X.fs
theorem Hand.suite {σ : L2.St} {H : Hp} {a : Addr} {cls : Value} {d : Option Addr} {s : Shared} (h : Hand X pins σ H a cls d s) : ∃ oe, Zc cls d oe ∧ (∃ vs, oe.data = .fields vs) ∧ Inv (X.suite a ((a, oe) :: (X.pn ++ pins))) [] σ H s := by
  obtain ⟨oe, vs, he, hz, hd⟩ := h.ob
  exact ⟨oe, hz, ⟨vs, hd⟩, h.inv.suite he hd h.nH h.nL h.nF⟩
theorem Hand.asks {σ : L2.St} {H : Hp} {a : Addr} {cls c : Value} {d : Option Addr} {s : Shared} {b : Bool} (h : Hand X pins σ H a cls d s) (e : PySem.W.exmOne X.K cls c = some b) : PySem.W.Looks (model X.prog X.w) s.heap (excMatches (.ref a) c) b := by
  obtain ⟨oe, vs, he, hz, hd⟩ := h.ob
  exact PySem.W.exm_one (M := model X.prog X.w) h.inv.kIn (fun A Q E s k q => wpAny_typeOf_ref (k _ _ he) (by rw [hz.1]; exact q)) e
theorem Hand.names {σ : L2.St} {H : Hp} {a : Addr} {cls c : Value} {d : Option Addr} {s : Shared} {x : Str} {np : Pos} (h : Hand X pins σ H a cls d s) (hc : Names X x c) {Q : Value → Shared → Prop} {E : Value → Shared → Prop} (q : Q c s) :
    wpAny (model X.prog X.w) (X.A.mark (some (.ref a))) (eval (.Name x np) X.env) Q E s := by
  obtain ⟨oe, hz, hd, S⟩ := h.suite
  obtain ⟨hg, hdbg, hm | ⟨hm, hv, hnn⟩⟩ := hc
  · exact ld_glob (X := X.suite a ((a, oe) :: (X.pn ++ pins))) S hg hm q hdbg
  · exact ld_blt (X := X.suite a ((a, oe) :: (X.pn ++ pins))) S hg hm hv q hnn hdbg
/-- the exception on its way, landed in this frame -/
structure Flown (X : Cx) (pins : List (Addr × Obj)) (σ : L2.St) (H : Hp) (a : Addr) (cls : Value) (d : Option Addr) (B : Heap) (sI s : Shared) : Prop where
  inv : Inv X pins σ H sI
  nb : ∀ b o, sI.heap.get? b = some o → b ∉ frs X.stack → B.get? b = some o
  up : sI.heap.UpToSlots s.heap
  fl : HandSPX.FlyingZ B (X.env :: X.outer) a (Zc cls d) s.heap
  na : H a = none
  os : s.os = sI.os
  ag : AllBare s.gens
section
variable {σ : L2.St} {H : Hp} {a : Addr} {cls : Value} {d : Option Addr} {B : Heap} {sI s : Shared}
theorem Flown.move {h : Heap} (f : Flown X pins σ H a cls d B sI s) (fl : HandSPX.FlyingZ B (X.env :: X.outer) a (Zc cls d) h) (up : s.heap.UpToSlots h) : Flown X pins σ H a cls d B sI { s with heap := h } :=
  ⟨f.inv, f.nb, f.up.trans up, fl, f.na, f.os, f.ag⟩
theorem Flown.hand (hf : X.env.frame = some X.env.locals) (f : Flown X pins σ H a cls d B sI s) : Hand X pins σ H a cls d s := by
  obtain ⟨oe, vs, he, hz, hd⟩ := f.fl.there
  have out : a ∉ frs (X.env :: X.outer) := fun hm => by
    obtain ⟨_, o', e', hnf⟩ := f.fl.2.2.1.mem hm
    rw [he] at e'
    cases e'
    exact hnf _ hd
  refine ⟨⟨oe, vs, he, hz, hd⟩, f.inv.landed f.nb f.fl.1 f.up f.os f.ag, f.na, fun z => out (List.mem_filterMap.mpr ⟨X.env, List.mem_cons_self, by rw [hf, z]⟩), fun hm => ?_⟩
  obtain ⟨e, he, q⟩ := List.mem_filterMap.mp hm
  exact out (List.mem_filterMap.mpr ⟨e, List.mem_cons_of_mem _ he, q⟩)
/-- the clauses, one after the other -/
theorem clauses_run {Wout : WX} {D : Ends} (ok : X.Ok) (hs : X.stack = X.env :: X.outer) (hf : X.env.frame = some X.env.locals) (hN : X.N.Nodup) (tk : Takes X Wout) :
    ∀ {hds : List ExceptHandler} {l : List (Value × Option Nat × Suit)}, HdsN X hds l → Flown X pins σ H a cls d B sI s → wNamed X.K Wout D l cls d σ H → wpAny (model X.prog X.w) X.A (handleBy (.ref a) X.env hds) (SP X pins D) X.xe s := by
  intro hds l hk
  induction hk with
  | nil =>
    intro f w
    refine wpAny_handleBy_nil ?_
    have fl := f.fl
    obtain ⟨_, _, _, oe, vs, T, oT, ts', he, hz, hd, h1, hr⟩ := id fl
    unfold PySem.passOn
    refine wpAny_bind (wpAny_field he hd h1 ?_)
    rw [if_neg (show ¬ ((Value.ref T == Value.none) = true) from by simp)]
    have out : wpAny (model X.prog X.w) X.A (setFlight (.ref a) X.env.frame) (fun _ s4 => wpAny (model X.prog X.w) X.A (throw (.ref a) : Sem Flow) (SP X pins D) X.xe s4) X.xe s := by
      rw [hf]
      exact HandSPX.setFlight_upZ fl fun h4 hh4 up4 => wpAny_throw (tk _ _ ⟨a, B, sI, pins, σ, H, cls, d, rfl, f.inv, f.nb, f.up.trans up4, .inr (.inr (by rw [hs]; exact hh4)), f.na, f.os, f.ag, w⟩)
    first
      | exact wpAny_bind (wpAny_pure (wpAny_bind out))
      | exact wpAny_bind out
  | bare hc hsu r ih =>
    intro f ⟨b, e, yes, no⟩
    have hand := f.hand hf
    refine wpAny_handleBy_cons (codeAny_handlers_test (hand.names hc ((hand.asks e).here ?_))) (by intro q; cases q)
    cases b with
    | false => exact ih f (no rfl)
    | true =>
      refine codeAny_handlers_suite (HandSPX.lands_againZ f.fl fun h4 fl4 up4 => ?_)
      obtain ⟨oe, hz, hd, S⟩ := ((f.move fl4 up4).hand hf).suite
      refine wpAny_mono ((hsu a oe cls d (X.pn ++ pins) hz hd).run [] _ _ H _ S (yes rfl a f.na)) (fun g s6 hsp => ?_) (fun _ _ z => False.elim z)
      cases g with
      | next => obtain ⟨σ6, H6, S6, q6⟩ := hsp; exact ⟨_, _, S6.unsuite ok, q6⟩
      | brk => obtain ⟨σ6, H6, S6, q6⟩ := hsp; exact ⟨_, _, S6.unsuite ok, q6⟩
      | cont => obtain ⟨σ6, H6, S6, q6⟩ := hsp; exact ⟨_, _, S6.unsuite ok, q6⟩
      | ret u => obtain ⟨v6, σ6, H6, S6, r6, q6⟩ := hsp; exact ⟨_, _, _, S6.unsuite ok, r6, q6⟩
  | named hi hln hc hsu r ih =>
    intro f ⟨b, e, yes, no⟩
    have hand := f.hand hf
    refine wpAny_handleBy_cons (codeAny_handlers_test (hand.names hc ((hand.asks e).here ?_))) (by intro q; cases q)
    cases b with
    | false => exact ih f (no rfl)
    | true =>
      refine codeAny_handlers_suite_as (HandSPX.lands_againZ f.fl fun h4 fl4 up4 => ?_)
      obtain ⟨oe, hz, hd, S⟩ := ((f.move fl4 up4).hand hf).suite
      refine store_ok (X := X.suite a ((a, oe) :: (X.pn ++ pins))) (v := .ref a) S hN hi (.inl hln) rfl (fun s5 S5 => ?_) (.inr hln)
      refine wpAny_mono ((hsu a oe cls d (X.pn ++ pins) hz hd).run [] s5 _ H _ S5 (yes rfl a f.na)) (fun g s6 hsp => ?_) (fun _ _ z => False.elim z)
      cases g with
      | next => obtain ⟨σ6, H6, S6, q6⟩ := hsp; exact gone_ok (S6.unsuite ok) hN hi hln fun s7 J7 => ⟨_, _, J7, q6⟩
      | brk => obtain ⟨σ6, H6, S6, q6⟩ := hsp; exact gone_ok (S6.unsuite ok) hN hi hln fun s7 J7 => ⟨_, _, J7, q6⟩
      | cont => obtain ⟨σ6, H6, S6, q6⟩ := hsp; exact gone_ok (S6.unsuite ok) hN hi hln fun s7 J7 => ⟨_, _, J7, q6⟩
      | ret u => obtain ⟨v6, σ6, H6, S6, r6, q6⟩ := hsp; exact gone_ok (S6.unsuite ok) hN hi hln fun s7 J7 => ⟨_, _, _, J7, r6, q6⟩
end
/-- try with any number of clauses, each with a name or without -/
theorem ps_try_named {body : List Stmt} {h₀ : ExceptHandler} {hds : List ExceptHandler} {l : List (Value × Option Nat × Suit)} {pos : Pos} {tb : WX → TS} {Wout : WX} (hs : X.stack = X.env :: X.outer) (hf : X.env.frame = some X.env.locals) (hN : X.N.Nodup) (tk : Takes X Wout)
    (hb : ∀ (W : WX) (pn : List (Addr × Obj)) (xe : Value → Shared → Prop), Takes (X.tr pn xe) W → PassesOwn (model X.prog X.w) X.A X.env xe → PSs (X.tr pn xe) body (tb W)) (hh : HdsN X (h₀ :: hds) l) :
    PS X (.Try body (h₀ :: hds) [] [] pos) (fun D σ H => tb (wNamed X.K Wout D l) D σ H) := by
  refine ⟨fun pins s σ H D I h => ?_⟩
  have ok := I.ok
  have hfr : X.A.frames = some (X.env :: X.outer) := by rw [ok.frames, hs]
  refine wpAny_Try_except (wpAny_mono ((hb (wNamed X.K Wout D l) (X.pn ++ pins) (fun e s₁ => wpAny (model X.prog X.w) X.A (noteFrame e X.env) (fun _ s₂ => wpAny (model X.prog X.w) X.A (setFlight e none) (fun _ s₃ =>
    wpAny (model X.prog X.w) X.A (handleBy e X.env (h₀ :: hds)) (SP X pins D) X.xe s₃) X.xe s₂) X.xe s₁) (fun u s' xx => ?_) PassesOwn.looking).run [] s σ H D (I.toTry _) h) (fun f s1 hsp => ?_) (fun e s1 he => he))
  · obtain ⟨a, B, sI, pins', σ', H', cls, d, rfl, J, nb, up, sky, na, os, ag, w⟩ := xx
    rw [show (X.tr (X.pn ++ pins) _).stack = X.env :: X.outer from hs] at sky
    exact Sky.land Zc.steady hfr hf sky fun h3 fl3 up3 => clauses_run ok hs hf hN tk hh ⟨J.ofTry ok, nb, up.trans up3, fl3, na, os, ag⟩ w
  · cases f with
    | next => obtain ⟨σ', H', J, q⟩ := hsp; exact wpAny_execs_nil ⟨σ', H', J.ofTry ok, q⟩
    | brk => obtain ⟨σ', H', J, q⟩ := hsp; exact ⟨σ', H', J.ofTry ok, q⟩
    | cont => obtain ⟨σ', H', J, q⟩ := hsp; exact ⟨σ', H', J.ofTry ok, q⟩
    | ret u => obtain ⟨v, σ', H', J, r, q⟩ := hsp; exact ⟨v, σ', H', J.ofTry ok, r, q⟩
end
end Mine

namespace PySem.W
open PySem PySem.Spec PySem.Calls PyProof.Rows
section
variable {prog : Program} {w : World} {A : Around} {E : Value → Shared → Prop} {s : Shared} {K : Frag} {x D : Addr} {ox : Obj} {od : Option Obj}
/-- where a class gives a name by data, the instance's own dict is never looked at -/
theorem mine_find_data {C : Addr} {name : Str} {a g : Value} (hc : (clsIn K C).isSome = true) (ha : findIn K (.ref C) name = some (some a)) (hg : specialIn K a "__get__" = some (some g)) (ht : takesIn K a = some true) : findObj K C od name = some (.bind g a) := by
  obtain ⟨cd, hc⟩ := Option.isSome_iff_exists.mp hc
  simp [findObj, hc, ha, hg, ht]
/-- e.__class__, e an exception of an own class, with a dict of its own or without -/
theorem mine_exc_class {Q : Option Value → Shared → Prop} (T : L2.ExcC K D) (X : K.In s.heap) (I : InstAt s.heap x ox D od) (h : Q (some (.ref D)) { s with toks := s.toks + 1 }) : wpAny (model prog w) A (getAttr? (.ref x) "__class__") Q E s := by
  obtain ⟨cd, hcd, _⟩ := any_some T.hd
  obtain ⟨hp, g, d, t, os⟩ := s
  have ofX := I.type (M := model prog w)
  have asked := looks_findIn (M := model prog w) X T.hg
  have behind := looks_findIn (M := model prog w) X T.hk
  have found := looks_find (M := model prog w) X I (mine_find_data (od := od) (name := "__class__") (by rw [hcd]; rfl) T.ha T.hn T.ht)
  have under : Looks (model prog w) hp (isInstance (.ref x) (.type "BaseException")) true := ofX.andThen (looks_subIn X T.hs)
  have other : (Value.builtin "BaseException.__getattribute__" == Value.builtin "object.__getattribute__") = false := by decide +kernel
  unfold getAttr? getAttrBy? getAttrBy
  refine wpAny_bind (wpAny_mkText (wpAny_bind (wpAny_attempt (wpAny_holding (wpAny_bind (ofX.at (wpAny_bind (asked.at ?_))))))))
  show wpAny _ _ (if (onTheHeap (Value.ref D) && Value.builtin "BaseException.__getattribute__" == Value.builtin "object.__getattribute__") = true then _ else _) _ _ _
  rw [other, Bool.and_false, if_neg Bool.false_ne_true]
  unfold getAttrByItsOwn hookBefore
  refine wpAny_bind ?_
  rw [if_pos (show onTheHeap (Value.ref D) = true from rfl)]
  refine behind.at (wpAny_bind (wpAny_attempt (wpAny_holding ?_)))
  unfold callGetattribute
  rw [show (false && onTheHeap (Value.builtin "BaseException.__getattribute__")) = false from rfl, if_neg Bool.false_ne_true]
  unfold boundAndCalled
  rw [PySem.F.excAttr_ValueError.ga.bind (.ref x)]
  refine wpAny_bind (wpAny_pure ?_)
  show wpAny _ _ (call (.builtin "BaseException.__getattribute__") [.ref x, .str "__class__" t]) _ _ _
  refine wpAny_call (codeAny_call_builtin PySem.F.excAttr_ValueError.ga.plain PySem.F.entry_bexc_ga (@check_slot (model prog w) _ _ ⟨hp, g, d, t + 1, os⟩ "BaseException.__getattribute__" "BaseException" "__getattribute__" (.ref x) [.str "__class__" t] [] _
    (by decide +kernel) (by decide +kernel) under (PySem.F.args_bexc_ga (.ref x) (.str "__class__" t)) ?_))
  unfold Builtin.«object.__getattribute__»
  refine wpAny_bind (wpAny_of_eq (a := ((Value.ref x : Value), [Value.str "__class__" t])) (by first | rfl | (simp only [slotArgs]; rfl)) ?_)
  refine wpAny_bind (wpAny_pure (wpAny_bind (ofX.at (wpAny_bind (found.at ?_)))))
  show wpAny _ _ (holding [Value.builtin "object.__class__"] (call (.builtin "getset_descriptor.__get__") [.builtin "object.__class__", .ref x, .ref D]) >>= ret) _ _ _
  refine wpAny_bind (wpAny_holding (wpAny_call (class_get (s := ⟨hp, g, d, t + 1, os⟩) (ox := ox) (od := od) X I T.hm (wpAny_pure ?_))))
  show wpAny _ _ (handedOut (.ref D)) _ _ _
  rw [handedOut_of (v := .ref D) rfl]
  first
    | exact wpAny_pure (wpAny_pure h)
    | exact wpAny_pure h
    | exact wpAny_pure (wpAny_bind (wpAny_pure (wpAny_pure h)))
theorem mine_class_head (hdct : hasDictIn K D = true) {h : Heap} (X : K.In h) : ∃ o, h.get? D = some o ∧ ∃ cd, o.data = .cls cd := by
  obtain ⟨cd, hc, _⟩ := any_some hdct
  unfold clsIn at hc
  split at hc
  · rename_i ho
    exact ⟨_, X _ _ ho, _, rfl⟩
  · cases hc
theorem mine_kitx_exc (T : L2.ExcC K D) : KitX K (.ref x) (.ref D) (fun h => InstAt h x ox D od) where
  ty := fun _ _ _ I => I.type
  it := fun _ h X _ => by
    obtain ⟨o, ho, cd, hd⟩ := mine_class_head T.hd X
    obtain ⟨c, dd, dt, sl⟩ := o
    dsimp only at hd
    subst hd
    intro A' Q' E' s' k q
    unfold isType loadHead
    exact wpAny_bind (wpAny_loadPart (k _ _ ho) (wpAny_pure q))
  ne := fun h tp dd its n sl X htp => by
    obtain ⟨o, ho, cd, hd⟩ := mine_class_head T.hd X
    refine Bool.eq_false_iff.mpr fun q => ?_
    have e : D = tp := Value.ref.inj (beq_iff_eq.mp q)
    rw [e, htp] at ho
    cases ho
    cases hd
  ca := fun X I k => mine_exc_class T X I k
end
end PySem.W
namespace Mine
open PySem PySem.Spec PyProof.Rows L2
/-- isinstance(e, c), e the exception in hand -/
def rIsX (K : PySem.W.Frag) (a : Addr) (cls : Value) (d : Option Addr) : List V → Hp → VK → Prop := fun xs H Q => ∃ (D : Addr) (c : V) (cv : Value) (b : Bool), xs = [.ref a, c] ∧ cls = .ref D ∧ ExcC K D ∧ (∀ u, RelV c u → u = cv) ∧ PySem.W.kitOne K (.ref D) cv = some b ∧
  (∀ dd, d = some dd → ∃ fs, H dd = some (.xd fs)) ∧ Q (.bl b) H
theorem call_isX {X : Cx} {K : PySem.W.Frag} (eK : X.K = K) {a : Addr} {cls : Value} {d : Option Addr} {oe : Obj} {pn : List (Addr × Obj)} (hz : Zc cls d oe) (hf : ∃ vs, oe.data = .fields vs) : CallR (X.suite a ((a, oe) :: pn)) (.builtin "isinstance") (rIsX K a cls d) := by
  subst eK
  intro pins s σ H xs us Q I r h
  obtain ⟨D, c, cv, b, rfl, rfl, T, hcv, e, hdd, q⟩ := h
  cases r with
  | cons rx rr =>
    cases rr with
    | cons rt rr =>
      cases rr
      cases rx
      obtain rfl := hcv _ rt
      obtain ⟨hget, _⟩ := I.pin (a, oe) (List.mem_append.mpr (.inl List.mem_cons_self))
      obtain ⟨vs, hv⟩ := hf
      obtain ⟨oc, od, oda, osl⟩ := oe
      obtain ⟨h1, h2⟩ := hz
      dsimp only at h1 h2 hv
      subst h1 h2 hv
      have J : ∃ o, PySem.W.InstAt s.heap a ⟨.ref D, od, .fields vs, osl⟩ D o := by
        cases od with
        | none => exact ⟨none, hget, rfl, rfl, trivial⟩
        | some dd =>
          obtain ⟨fs, ha⟩ := hdd dd rfl
          obtain ⟨mA, hns, hr⟩ := (show ObjOk X.prog X.w H s.heap dd (.xd fs) from I.hok dd _ ha)
          obtain ⟨o, ho, _⟩ := lookIn_ns hns
          exact ⟨some o, hget, rfl, rfl, ho⟩
      obtain ⟨o, J⟩ := J
      exact PySem.W.kia_one (PySem.W.mine_kitx_exc T) I.kIn J e (fun z => nomatch z) fun tk => ⟨.bl b, H, I.kept (t' := tk) fun _ _ z => z, rfl, q⟩
/-- the facts of ExcC by one Bool -/
def isxB (K : PySem.W.Frag) (D : Addr) : Bool := He.eqO (PySem.W.findIn K (.ref D) "__getattribute__") (some (some (.builtin "BaseException.__getattribute__"))) && (He.eqO (PySem.W.findIn K (.ref D) "__getattr__") (some none) && (decide (PySem.W.subIn K (.ref D) (.type "BaseException") = some true) &&
  (PySem.W.hasDictIn K D && (He.eqO (PySem.W.findIn K (.ref D) "__class__") (some (some (.builtin "object.__class__"))) && (He.eqO (PySem.W.specialIn K (.builtin "object.__class__") "__get__") (some (some (.builtin "getset_descriptor.__get__"))) &&
  (decide (PySem.W.takesIn K (.builtin "object.__class__") = some true) && decide (PySem.W.mroIn K D (.type "object") = some true)))))))
theorem isxB_ok {K : PySem.W.Frag} {D : Addr} (h : isxB K D = true) : ExcC K D := by
  obtain ⟨a, h⟩ := He.ba h
  obtain ⟨b, h⟩ := He.ba h
  obtain ⟨c, h⟩ := He.ba h
  obtain ⟨d, h⟩ := He.ba h
  obtain ⟨e, h⟩ := He.ba h
  obtain ⟨f, h⟩ := He.ba h
  obtain ⟨g, i⟩ := He.ba h
  exact ⟨He.eqO_ok a, He.eqO_ok b, of_decide_eq_true c, d, He.eqO_ok e, He.eqO_ok f, of_decide_eq_true g, of_decide_eq_true i⟩
end Mine

namespace L2
open PySem PySem.Spec PyProof.Rows
/-- t * 1 is t itself -/
theorem mine_mul_one (l : Addr) (items : Array Value) (n : Nat) (dd : Option Addr) (sl : Array (Option Value)) (u : Tok) :
    Meets (Builtin.«tuple.__mul__» ⟨[.ref l, .int 1 u], []⟩) (fun _ R s => s.heap.get? l = some { cls := .type "tuple", dict := dd, data := .seq items n, slots := sl } ∧ R (.ok (.ret (Value.ref l))) s) :=
  .of_wp fun prog w A R s h => by
    obtain ⟨hp, g, d, tk, os⟩ := s
    obtain ⟨hl, h⟩ := h
    have f1 := AutoSeq1.idx_int
    wp_walk using wpAny_loadPart' hl
    exact ⟨_, rfl, h⟩
end L2
namespace Mine
open PySem PySem.Spec PyProof.Rows L2
section
variable {X : Cx}
/-- t * k, k from 1 on -/
def rRepA : R2 := fun x y H Q => ∃ l k xs, x = .ref l ∧ y = .int k ∧ H l = some (.tup xs) ∧ xs ≠ [] ∧ 1 ≤ k ∧ k ≤ 1000 ∧ xs.length ≤ 1000 ∧ ∀ p H', Same H H' → H' p = some (.tup (List.replicate k.toNat xs).flatten) → Q (.ref p) H'
/-- sum of a list or a tuple of whole numbers -/
def rSumA (K : PySem.W.Frag) : List V → Hp → VK → Prop := fun vs H Q => ∃ (a : Addr) (ns : List Int), vs = [V.ref a] ∧ (SqL K H a (ns.map V.int) ∨ SqT K H a (ns.map V.int)) ∧ Q (.int ns.sum) H
theorem cr_sumA (hc : X.calm = true) : CallR X (.builtin "sum") (rSumA X.K) := by
  intro pins s σ H vs us Q I r ⟨a, ns, e, h, q⟩
  rcases h with h | h
  · exact cr_sum hc pins s σ H vs us Q I r ⟨a, ns, e, h, q⟩
  · exact cr_sumT hc pins s σ H vs us Q I r ⟨a, ns, e, h, q⟩
end
/-! ### zip of a tuple and a list -/
def ItzM (K : PySem.W.Frag) (a b : Addr) : It :=
  ⟨fun i H => ∃ (xs ys : List V) (x y : V), SqT K H a xs ∧ SqL K H b ys ∧ xs[i]? = some x ∧ ys[i]? = some y,
    fun i H v H' => ∃ T x y, v = .ref T ∧ H T = none ∧ H' = upd H T (.tup [x, y]) ∧ (∀ xs, SqT K H a xs → xs[i]? = some x) ∧ ∀ ys, SqL K H b ys → ys[i]? = some y,
    fun i H => ∃ xs ys : List V, SqT K H a xs ∧ SqL K H b ys ∧ (xs.length = i ∨ ys.length = i) ∧ i ≤ xs.length ∧ i ≤ ys.length⟩
/-- zip(a, b), a a tuple, b a list or a tuple -/
def iZipS (K : PySem.W.Frag) (ta : TA) : TI := fun σ H R => ta σ H fun vs H1 => ∃ a b xs ys, vs = [.ref a, .ref b] ∧ SqT K H1 a xs ∧ ((SqL K H1 b ys ∧ R (ItzM K a b) H1) ∨ (SqT K H1 b ys ∧ R (RZ.ItzT K a b) H1))
theorem pg_tupK {X : Cx} {es : List Expr} {k : Nat} {t : TGs} {n : Nat} {K : PySem.W.Frag} {pos : Pos} (eK : X.K = K) (hc : X.calm = true) (h : PGs X es t)
    (hn : (assignEach es X.env).length = n := by rfl) (hst : (assignEach es X.env).findIdx? (·.1) = none := by rfl) : PG X (.Tuple es k pos) (gTup K n t) := eK ▸ pg_tup hc h hn hst
/-! ### x[i], x[lo:hi], list(x) of a list or a tuple -/
section
variable {X : Cx}
def rIxA : R2 := fun x y H Q => ∃ p i xs v, x = .ref p ∧ y = .int i ∧ (H p = some (.lst xs) ∨ H p = some (.tup xs)) ∧ atI xs i = some v ∧ Q v H
def rSlS (K : PySem.W.Frag) : V → Option Int → Option Int → Hp → VK → Prop := fun x lo hi H Q => ∃ a xs, x = .ref a ∧ ((H a = some (.lst xs) ∧ ∀ p H', Same H H' → H' p = some (.lst (cutV xs lo hi)) → Q (.ref p) H') ∨ (H a = some (.tup xs) ∧ ∀ p H', Same H H' → H' p = some (.tup (cutV xs lo hi)) → Q (.ref p) H'))
end
theorem ixN_back {n : Nat} (h : 0 < n) : ixN n (-1) = some (n - 1) := by
  unfold ixN
  rw [if_neg (by omega), if_pos (by omega)]
  congr 1
  omega
end Mine

namespace Mine
open PySem PySem.Spec PyProof.Rows L2
/-! ### data, without the heap -/
inductive Dt where
  | non | bl (b : Bool) | int (i : Int) | str (x : Str)
  | tup (xs : List Dt) | lst (xs : List Dt)
  | dk (ks : List Key) (vs : List Dt)
  | dt (ks : List (List Key)) (vs : List Dt)
  | ins (C : Str) (ns : List Str) (vs : List Dt)
  | raw (v : V)
mutual
/-- in the heap H the value v is this data -/
inductive Den (K : PySem.W.Frag) (H : Hp) : V → Dt → Prop
  | non : Den K H .non .non
  | bl (b : Bool) : Den K H (.bl b) (.bl b)
  | int (i : Int) : Den K H (.int i) (.int i)
  | str (x : Str) : Den K H (.str x) (.str x)
  | tup {a : Addr} {xs : List V} {ds : List Dt} : H a = some (.tup xs) → DenAll K H xs ds → Den K H (.ref a) (.tup ds)
  | lst {a : Addr} {xs : List V} {ds : List Dt} : H a = some (.lst xs) → DenAll K H xs ds → Den K H (.ref a) (.lst ds)
  | dk {a : Addr} {ks : List Key} {vs : List V} {ds : List Dt} : H a = some (.dK (ks.zip vs)) → ks.length = vs.length → DenAll K H vs ds → Den K H (.ref a) (.dk ks ds)
  | dt {a : Addr} {ks : List (List Key)} {vs : List V} {ds : List Dt} : H a = some (.dT (ks.zip vs)) → ks.length = vs.length → DenAll K H vs ds → Den K H (.ref a) (.dt ks ds)
  | ins {a dx : Addr} {C : Str} {ns : List Str} {vs : List V} {ds : List Dt} : H a = some (.ins (He.ga K C) dx (ns.zip vs)) → ns.length = vs.length → DenAll K H vs ds → Den K H (.ref a) (.ins C ns ds)
  | raw (v : V) : Den K H v (.raw v)
inductive DenAll (K : PySem.W.Frag) (H : Hp) : List V → List Dt → Prop
  | nil : DenAll K H [] []
  | cons {v : V} {vs : List V} {d : Dt} {ds : List Dt} : Den K H v d → DenAll K H vs ds → DenAll K H (v :: vs) (d :: ds)
end
section
variable {K : PySem.W.Frag} {H H' : Hp}
mutual
theorem Den.mono (s : Same H H') : ∀ {v : V} {d : Dt}, Den K H v d → Den K H' v d
  | _, _, .non => .non
  | _, _, .bl b => .bl b
  | _, _, .int i => .int i
  | _, _, .str x => .str x
  | _, _, .tup h a => .tup (s _ _ h) (DenAll.mono s a)
  | _, _, .lst h a => .lst (s _ _ h) (DenAll.mono s a)
  | _, _, .dk h l a => .dk (s _ _ h) l (DenAll.mono s a)
  | _, _, .dt h l a => .dt (s _ _ h) l (DenAll.mono s a)
  | _, _, .ins h l a => .ins (s _ _ h) l (DenAll.mono s a)
  | _, _, .raw v => .raw v
theorem DenAll.mono (s : Same H H') : ∀ {vs : List V} {ds : List Dt}, DenAll K H vs ds → DenAll K H' vs ds
  | _, _, .nil => .nil
  | _, _, .cons a b => .cons (Den.mono s a) (DenAll.mono s b)
end
theorem DenAll.length : ∀ {vs : List V} {ds : List Dt}, DenAll K H vs ds → vs.length = ds.length
  | _, _, .nil => rfl
  | _, _, .cons _ b => by rw [List.length_cons, List.length_cons, b.length]
theorem DenAll.append : ∀ {vs us : List V} {ds es : List Dt}, DenAll K H vs ds → DenAll K H us es → DenAll K H (vs ++ us) (ds ++ es)
  | _, _, _, _, .nil, b => b
  | _, _, _, _, .cons a r, b => .cons a (r.append b)
theorem DenAll.snoc {vs : List V} {ds : List Dt} {v : V} {d : Dt} (a : DenAll K H vs ds) (b : Den K H v d) : DenAll K H (vs ++ [v]) (ds ++ [d]) := a.append (.cons b .nil)
theorem DenAll.get : ∀ {vs : List V} {ds : List Dt} {i : Nat} {d : Dt}, DenAll K H vs ds → ds[i]? = some d → ∃ v, vs[i]? = some v ∧ Den K H v d
  | _, _, _, _, .nil, e => by simp at e
  | _, _, 0, _, .cons a _, e => by
    simp at e; subst e
    exact ⟨_, rfl, a⟩
  | _, _, i + 1, d, .cons _ r, e => by
    obtain ⟨v, h1, h2⟩ := DenAll.get (i := i) (d := d) r (by simpa using e)
    exact ⟨v, by simpa using h1, h2⟩
theorem DenAll.getV : ∀ {vs : List V} {ds : List Dt} {i : Nat} {v : V}, DenAll K H vs ds → vs[i]? = some v → ∃ d, ds[i]? = some d ∧ Den K H v d
  | _, _, _, _, .nil, e => by simp at e
  | _, _, 0, _, .cons a _, e => by
    simp at e; subst e
    exact ⟨_, rfl, a⟩
  | _, _, i + 1, d, .cons _ r, e => by
    obtain ⟨v, h1, h2⟩ := DenAll.getV (i := i) (v := d) r (by simpa using e)
    exact ⟨v, by simpa using h1, h2⟩
theorem DenAll.set : ∀ {vs : List V} {ds : List Dt} {v : V} {d : Dt} (i : Nat), DenAll K H vs ds → Den K H v d → DenAll K H (vs.set i v) (ds.set i d)
  | _, _, _, _, _, .nil, _ => .nil
  | _, _, _, _, 0, .cons _ r, b => .cons b r
  | _, _, _, _, i + 1, .cons a r, b => .cons a (DenAll.set i r b)
theorem DenAll.take : ∀ {vs : List V} {ds : List Dt} (n : Nat), DenAll K H vs ds → DenAll K H (vs.take n) (ds.take n)
  | _, _, 0, _ => by simp; exact .nil
  | _, _, _ + 1, .nil => .nil
  | _, _, n + 1, .cons a r => .cons a (DenAll.take n r)
theorem DenAll.drop : ∀ {vs : List V} {ds : List Dt} (n : Nat), DenAll K H vs ds → DenAll K H (vs.drop n) (ds.drop n)
  | _, _, 0, r => r
  | _, _, _ + 1, .nil => .nil
  | _, _, n + 1, .cons _ r => DenAll.drop n r
theorem DenAll.dropLast : ∀ {vs : List V} {ds : List Dt}, DenAll K H vs ds → DenAll K H vs.dropLast ds.dropLast := by
  intro vs ds h
  rw [List.dropLast_eq_take, List.dropLast_eq_take, h.length]
  exact h.take _
theorem DenAll.reverse : ∀ {vs : List V} {ds : List Dt}, DenAll K H vs ds → DenAll K H vs.reverse ds.reverse
  | _, _, .nil => .nil
  | _, _, .cons a r => by
    rw [List.reverse_cons, List.reverse_cons]
    exact r.reverse.snoc a
theorem DenAll.replicate {vs : List V} {ds : List Dt} (h : DenAll K H vs ds) : ∀ n : Nat, DenAll K H (List.replicate n vs).flatten (List.replicate n ds).flatten
  | 0 => .nil
  | n + 1 => by
    rw [List.replicate_succ, List.replicate_succ, List.flatten_cons, List.flatten_cons]
    exact h.append (DenAll.replicate h n)
theorem DenAll.ints : ∀ w : List Int, DenAll K H (w.map V.int) (w.map Dt.int)
  | [] => .nil
  | x :: w => .cons (.int x) (DenAll.ints w)
end
/-- things whose value says all -/
def Dt.flat : Dt → Option V
  | .non => some .non
  | .bl b => some (.bl b)
  | .int i => some (.int i)
  | .str x => some (.str x)
  | .raw v => some v
  | _ => none
theorem Den.flat {K : PySem.W.Frag} {H : Hp} {v u : V} {d : Dt} (h : Den K H v d) (e : d.flat = some u) : v = u := by
  cases h <;> first
    | (injection e with e; try exact e)
    | cases e
theorem Den.of_flat {K : PySem.W.Frag} {H : Hp} {u : V} {d : Dt} (e : d.flat = some u) : Den K H u d := by
  cases d <;> first
    | (injection e with e; subst e; first | exact .non | exact .bl _ | exact .int _ | exact .str _ | exact .raw _)
    | cases e
/-! ### hidden things -/
open Classical in
/-- the heap without what X hides -/
noncomputable def vis (H : Hp) (X : Addr → Prop) : Hp := fun a => if X a then none else H a
theorem vis_of {H : Hp} {X : Addr → Prop} {a : Addr} {o : HO} (h : vis H X a = some o) : ¬ X a ∧ H a = some o := by
  unfold vis at h
  split at h
  · cases h
  · exact ⟨by assumption, h⟩
theorem vis_mk {H : Hp} {X : Addr → Prop} {a : Addr} {o : HO} (n : ¬ X a) (h : H a = some o) : vis H X a = some o := by
  unfold vis
  rw [if_neg n]; exact h
theorem vis_sub {H : Hp} {X : Addr → Prop} : Same (vis H X) H := fun _ _ h => (vis_of h).2
theorem vis_anti {H : Hp} {X Y : Addr → Prop} (h : ∀ a, X a → Y a) : Same (vis H Y) (vis H X) := fun _ _ e => vis_mk (fun x => (vis_of e).1 (h _ x)) (vis_of e).2
/-- the hand at h, its cells at c -/
def HandC (H : Hp) (h c : Addr) : Prop := ∃ (cells : List Int) (at_ : Nat) (big mix : Int), H h = some (.lst [.ref c, .int at_, .int big, .int mix]) ∧ H c = some (.lst (cells.map V.int)) ∧
  (∀ z ∈ cells, 0 ≤ z) ∧ at_ ≤ cells.length ∧ cells.length ≤ 63 ∧ 0 ≤ big ∧ 0 ≤ mix ∧ mix < 2147483563
abbrev Hnd := Option (Addr × Addr)
/-- all stands but the hand, which is a hand still -/
def Frm (hd : Hnd) (H H' : Hp) : Prop := (∀ a o, H a = some o → (∀ h c, hd = some (h, c) → a ≠ h) → H' a = some o) ∧ ∀ h c, hd = some (h, c) → HandC H h c → HandC H' h c
theorem HandC.same {H H' : Hp} {h c : Addr} (x : HandC H h c) (s : Same H H') : HandC H' h c := by
  obtain ⟨cells, at_, big, mix, a, b, r⟩ := x
  exact ⟨cells, at_, big, mix, s _ _ a, s _ _ b, r⟩
theorem Frm.refl {hd : Hnd} (H : Hp) : Frm hd H H := ⟨fun _ _ e _ => e, fun _ _ _ x => x⟩
theorem Frm.trans {hd : Hnd} {H H1 H2 : Hp} (a : Frm hd H H1) (b : Frm hd H1 H2) : Frm hd H H2 := ⟨fun p o e n => b.1 p o (a.1 p o e n) n, fun h c e x => b.2 h c e (a.2 h c e x)⟩
theorem Frm.same {hd : Hnd} {H H' : Hp} (s : Same H H') : Frm hd H H' := ⟨fun _ _ e _ => s _ _ e, fun _ _ _ x => x.same s⟩
theorem Frm.out {H H' : Hp} (f : Frm Option.none H H') : Same H H' := fun a o e => f.1 a o e fun _ _ z => by cases z
theorem Frm.upd {hd : Hnd} {H : Hp} {p : Addr} {o : HO} (h : H p = Option.none) : Frm hd H (upd H p o) := .same (same_upd h)
/-! ### where one stands -/
/-- fixed through a body: the facts' part, the heap and what is hidden at its entry, the hand, the exception in hand, what is wished of an exception -/
structure Bc where
  K : PySem.W.Frag
  H0 : Hp
  X0 : Addr → Prop
  hd : Hnd
  ex : Option (Addr × Value × Option Addr)
  E : L2.St → XK
  /-- self while it is made -/
  me : Option Addr
/-- a list, a dict of one's own -/
inductive Ow where
  | lst (xs : List Dt) | dk (ks : List Key) (vs : List Dt) | dt (ks : List (List Key)) (vs : List Dt)
def Ow.fz : Ow → Dt
  | .lst xs => .lst xs
  | .dk ks vs => .dk ks vs
  | .dt ks vs => .dt ks vs
inductive DenO (K : PySem.W.Frag) (H : Hp) : HO → Ow → Prop
  | lst {vs : List V} {xs : List Dt} : DenAll K H vs xs → DenO K H (.lst vs) (.lst xs)
  | dk {ks : List Key} {vs : List V} {xs : List Dt} : ks.length = vs.length → DenAll K H vs xs → DenO K H (.dK (ks.zip vs)) (.dk ks xs)
  | dt {ks : List (List Key)} {vs : List V} {xs : List Dt} : ks.length = vs.length → DenAll K H vs xs → DenO K H (.dT (ks.zip vs)) (.dt ks xs)
theorem DenO.mono {K : PySem.W.Frag} {H H' : Hp} (s : Same H H') {u : HO} {o : Ow} (h : DenO K H u o) : DenO K H' u o := by
  cases h with
  | lst a => exact .lst (a.mono s)
  | dk l a => exact .dk l (a.mono s)
  | dt l a => exact .dt l (a.mono s)
theorem DenO.fz {K : PySem.W.Frag} {H : Hp} {u : HO} {o : Ow} {p : Addr} (h : DenO K H u o) (e : H p = some u) : Den K H (.ref p) o.fz := by
  cases h with
  | lst a => exact .lst e a
  | dk l a => exact .dk e l a
  | dt l a => exact .dt e l a
theorem DenO.noins {K : PySem.W.Frag} {H : Hp} {C dx : Addr} {fs : List (Str × V)} {o : Ow} (h : DenO K H (.ins C dx fs) o) : False := by cases h
/-- what a slot holds: nothing that is known, data, a list of one's own, the hand, an exception in hand -/
inductive Sl where
  | no | d (x : Dt) | own (o : Ow) | hand | exc (c : Str) (fs : List (Str × V))
  /-- an instance of one's own: self while it is made -/
  | ins (C : Str) (ns : List Str) (ds : List Dt)
def IsIns (env : List Sl) (i : Nat) : Prop := ∃ C ns ds, env[i]? = some (.ins C ns ds)
/-- only the first slot holds an instance of one's own -/
def One (env : List Sl) : Prop := ∀ i, IsIns env i → i = 0
theorem One.set {env : List Sl} (h : One env) {j : Nat} {s : Sl} (hs : ∀ C ns ds, s ≠ .ins C ns ds) : One (env.set j s) := fun i ⟨C, ns, ds, e⟩ => by
  rw [List.getElem?_set] at e
  split at e
  · split at e
    · injection e with e; exact absurd e (hs C ns ds)
    · cases e
  · exact h i ⟨C, ns, ds, e⟩
theorem One.set0 {env : List Sl} (h : One env) {s : Sl} : One (env.set 0 s) := fun i ⟨C, ns, ds, e⟩ => by
  rw [List.getElem?_set] at e
  split at e
  · rename_i c; exact c.symm
  · exact h i ⟨C, ns, ds, e⟩
theorem One.map {env : List Sl} (h : One env) {f : Sl → Sl} (hf : ∀ s C ns ds, f s = .ins C ns ds → s = .ins C ns ds) : One (env.map f) := fun i ⟨C, ns, ds, e⟩ => by
  rw [List.getElem?_map, Option.map_eq_some_iff] at e
  obtain ⟨s, e1, e2⟩ := e
  exact h i ⟨C, ns, ds, by rw [e1, hf _ _ _ _ e2]⟩
def SlRep (C : Bc) (X : Addr → Prop) (H : Hp) : Sl → Option V → Prop
  | .no, _ => True
  | .d x, o => ∃ v, o = some v ∧ Den C.K (vis H X) v x
  | .own w, o => ∃ p u, o = some (.ref p) ∧ X p ∧ ¬ C.X0 p ∧ H p = some u ∧ DenO C.K (vis H X) u w
  | .hand, o => ∃ h c, o = some (.ref h) ∧ C.hd = some (h, c)
  | .ins C0 ns ds, o => ∃ p dx vs, o = some (.ref p) ∧ X p ∧ ¬ C.X0 p ∧ H p = some (.ins (He.ga C.K C0) dx (ns.zip vs)) ∧ (ns.length = vs.length ∧ C.me = some p) ∧ DenAll C.K (vis H X) vs ds
  | .exc c fs, o => match C.ex with
    | none => True
    | some (a, cls, dx) => o = some (.ref a) ∧ cls = .ref (He.ga C.K c) ∧ ((fs = [] ∧ dx = none) ∨ ∃ dd, dx = some dd ∧ vis H X dd = some (.xd fs))
theorem SlRep.exc {C : Bc} {X Y : Addr → Prop} {H H' : Hp} {c : Str} {fs : List (Str × V)} {o : Option V} (h : SlRep C X H (.exc c fs) o) (s : Same (vis H X) (vis H' Y)) : SlRep C Y H' (.exc c fs) o := by
  unfold SlRep at h ⊢
  dsimp only at h ⊢
  split at h
  · trivial
  · exact ⟨h.1, h.2.1, h.2.2.imp id fun ⟨dd, e, q⟩ => ⟨dd, e, s _ _ q⟩⟩
structure Rep (C : Bc) (X : Addr → Prop) (env : List Sl) (σ : L2.St) (H : Hp) : Prop where
  len : env.length = σ.length
  sup : ∀ a, C.X0 a → X a
  new : ∀ a, X a → C.X0 a ∨ C.H0 a = none
  al : ∀ a, X a → ∃ o, H a = some o
  frm : Frm C.hd C.H0 H
  hands : ∀ h c, C.hd = some (h, c) → C.X0 h ∧ HandC C.H0 h c ∧ HandC H h c
  slot : ∀ (i : Nat) (s : Sl), env[i]? = some s → ∃ o, σ[i]? = some o ∧ SlRep C X H s o
  inj : ∀ (i j : Nat) (xs ys : Ow), i ≠ j → env[i]? = some (.own xs) → env[j]? = some (.own ys) → σ[i]? ≠ σ[j]?
  one : One env
section
variable {C : Bc} {X : Addr → Prop} {env : List Sl} {σ : L2.St} {H H' : Hp}
theorem vis_frm (hX : ∀ h c, C.hd = some (h, c) → X h) (f : Frm C.hd H H') : Same (vis H X) (vis H' X) := fun a o e => by
  obtain ⟨n, h⟩ := vis_of e
  exact vis_mk n (f.1 a o h fun h c z q => n (q ▸ hX h c z))
theorem Rep.hX (r : Rep C X env σ H) : ∀ h c, C.hd = some (h, c) → X h := fun h c e => r.sup h (r.hands h c e).1
theorem Rep.vs (r : Rep C X env σ H) (f : Frm C.hd H H') : Same (vis H X) (vis H' X) := vis_frm r.hX f
theorem Rep.nh (r : Rep C X env σ H) {p : Addr} (n : ¬ C.X0 p) : ∀ h c, C.hd = some (h, c) → p ≠ h := fun h c e z => n (z ▸ (r.hands h c e).1)
theorem Frm.there (f : Frm C.hd H H') (hh : ∀ h c, C.hd = some (h, c) → HandC H h c) {a : Addr} {o : HO} (e : H a = some o) : ∃ o', H' a = some o' := by
  by_cases z : ∃ h c, C.hd = some (h, c) ∧ a = h
  · obtain ⟨h, c, e1, rfl⟩ := z
    obtain ⟨_, _, _, _, q, _⟩ := f.2 a c e1 (hh a c e1)
    exact ⟨_, q⟩
  · exact ⟨o, f.1 a o e fun h c e1 q => z ⟨h, c, e1, q⟩⟩
theorem Frm.free (f : Frm C.hd H H') (hh : ∀ h c, C.hd = some (h, c) → HandC H h c) {a : Addr} (e : H' a = none) : H a = none := by
  cases q : H a with
  | none => rfl
  | some o =>
    obtain ⟨o', e'⟩ := f.there hh q
    rw [e] at e'; cases e'
/-- nothing but the hand has changed -/
theorem Rep.step (r : Rep C X env σ H) (f : Frm C.hd H H') : Rep C X env σ H' where
  len := r.len
  sup := r.sup
  new := r.new
  al := fun a x => let ⟨_, e⟩ := r.al a x; f.there (fun h c e => (r.hands h c e).2.2) e
  frm := r.frm.trans f
  hands := fun h c e => ⟨(r.hands h c e).1, (r.hands h c e).2.1, f.2 h c e (r.hands h c e).2.2⟩
  slot := fun i s e => by
    obtain ⟨o, e1, q⟩ := r.slot i s e
    refine ⟨o, e1, ?_⟩
    cases s with
    | no => trivial
    | d x => obtain ⟨v, e2, h⟩ := q; exact ⟨v, e2, h.mono (r.vs f)⟩
    | own xs =>
      obtain ⟨p, vs, e2, x1, x2, h1, h2⟩ := q
      exact ⟨p, vs, e2, x1, x2, f.1 p _ h1 (r.nh x2), h2.mono (r.vs f)⟩
    | hand => exact q
    | exc c fs => exact q.exc (r.vs f)
    | ins C0 ns ds =>
      obtain ⟨p, dx, vs, e2, x1, x2, h1, l, h2⟩ := q
      exact ⟨p, dx, vs, e2, x1, x2, f.1 p _ h1 (r.nh x2), l, h2.mono (r.vs f)⟩
  inj := r.inj
  one := r.one
theorem Rep.free (r : Rep C X env σ H) {p : Addr} (e : H p = none) : ¬ X p := fun x => by
  obtain ⟨o, q⟩ := r.al p x
  rw [e] at q; cases q
theorem Rep.h0 (r : Rep C X env σ H) {p : Addr} (e : H p = none) : C.H0 p = none := r.frm.free (fun h c e => (r.hands h c e).2.1) e
end
end Mine

namespace Mine
open PySem PySem.Spec PyProof.Rows L2
/-! ### what is wanted of expressions, by data -/
/-- an exception: its class, its attributes -/
structure Xc where
  cls : Str
  fs : List (Str × V)
abbrev DX := List Sl → (Dt → Prop) → (Xc → Prop) → Prop
abbrev DTX := List Sl → (Bool → Prop) → (Xc → Prop) → Prop
abbrev DAX := List Sl → (List Dt → Prop) → (Xc → Prop) → Prop
abbrev DSX := List Sl → (List Sl → Prop) → (Xc → Prop) → Prop
def XRep (K : PySem.W.Frag) (H : Hp) (cls : Value) (d : Option Addr) (x : Xc) : Prop := cls = .ref (He.ga K x.cls) ∧ match x.fs with
  | [] => d = none
  | f :: r => ∃ a, d = some a ∧ H a = some (.xd (f :: r))
theorem XRep.mono {K : PySem.W.Frag} {H H' : Hp} {cls : Value} {d : Option Addr} {x : Xc} (h : XRep K H cls d x) (s : Same H H') : XRep K H' cls d x := by
  obtain ⟨e, q⟩ := h
  refine ⟨e, ?_⟩
  obtain ⟨c, fs⟩ := x
  cases fs with
  | nil => exact q
  | cons f r => obtain ⟨a, e1, e2⟩ := q; exact ⟨a, e1, s _ _ e2⟩
def XOk (C : Bc) (X : Addr → Prop) (σ : L2.St) (H : Hp) (Qx : Xc → Prop) : Prop := ∀ x cls dx H', Frm C.hd H H' → XRep C.K (vis H' X) cls dx x → Qx x → C.E σ cls dx H'
/-- how a value stands for data: with all that is let; a list of one's own that is read; a new list -/
abbrev RR := Bc → (Addr → Prop) → Hp → Hp → V → Dt → Prop
def Cln : RR := fun C X _ H v d => Den C.K (vis H X) v d
def Bor : RR := fun C X _ H v d => Den C.K (vis H X) v d ∨ ∃ p vs ds, v = .ref p ∧ d = .lst ds ∧ (∀ h c, C.hd = some (h, c) → p ≠ h) ∧ H p = some (.lst vs) ∧ DenAll C.K (vis H X) vs ds
def Fsh : RR := fun C X H0 H v d => ∃ p vs ds, v = .ref p ∧ d = .lst ds ∧ H0 p = none ∧ H p = some (.lst vs) ∧ DenAll C.K (vis H fun a => X a ∨ a = p) vs ds
def DEg (R : RR) (C : Bc) (t : TE) (e : DX) : Prop := ∀ X env σ H (Q : VK) (Qd : Dt → Prop) (Qx : Xc → Prop), Rep C X env σ H → e env Qd Qx → (∀ d v H', Frm C.hd H H' → R C X H H' v d → Qd d → Q v H') → XOk C X σ H Qx → t σ H Q
abbrev DE := DEg Cln
abbrev DB := DEg Bor
abbrev DF := DEg Fsh
section
variable {C : Bc} {X : Addr → Prop} {env : List Sl} {σ : L2.St} {H H1 H' : Hp} {v : V} {d : Dt} {t : TE} {e : DX} {Qx : Xc → Prop}
theorem XOk.step (x : XOk C X σ H Qx) (f : Frm C.hd H H') : XOk C X σ H' Qx := fun y cls dx H2 f2 r q => x y cls dx H2 (f.trans f2) r q
theorem Bor.frm (r : Rep C X env σ H) (f : Frm C.hd H H') (h : Bor C X H1 H v d) : Bor C X H1 H' v d := by
  rcases h with h | ⟨p, vs, ds, e1, e2, n, h1, h2⟩
  · exact .inl (h.mono (r.vs f))
  · exact .inr ⟨p, vs, ds, e1, e2, n, f.1 p _ h1 n, h2.mono (r.vs f)⟩
theorem Cln.bor (h : Cln C X H1 H v d) : Bor C X H1 H v d := .inl h
theorem Fsh.cln (r : Rep C X env σ H1) (h : Fsh C X H1 H v d) : Cln C X H1 H v d := by
  obtain ⟨p, vs, ds, rfl, rfl, n, h1, h2⟩ := h
  exact .lst (vis_mk (r.free n) h1) (h2.mono (vis_anti fun _ => .inl))
theorem Fsh.frm (r : Rep C X env σ H) (f : Frm C.hd H H1) (h : Fsh C X H1 H' v d) : Fsh C X H H' v d := by
  obtain ⟨p, vs, ds, e1, e2, n, h1⟩ := h
  exact ⟨p, vs, ds, e1, e2, f.free (fun h c e => (r.hands h c e).2.2) n, h1⟩
theorem DEg.bor (h : DE C t e) : DB C t e := fun X env σ H Q Qd Qx r he q x => h X env σ H Q Qd Qx r he (fun d v H' f h => q d v H' f (.inl h)) x
theorem DEg.cln (h : DF C t e) : DE C t e := fun X env σ H Q Qd Qx r he q x => h X env σ H Q Qd Qx r he (fun d v H' f h => q d v H' f (h.cln r)) x
theorem Bor.flat {u : V} (h : Bor C X H1 H v d) (e : d.flat = some u) : v = u := by
  rcases h with h | ⟨p, vs, ds, e1, rfl, _⟩
  · exact h.flat e
  · cases e
theorem Bor.int {i : Int} (h : Bor C X H1 H v (.int i)) : v = .int i := h.flat rfl
theorem Bor.bl {i : Bool} (h : Bor C X H1 H v (.bl i)) : v = .bl i := h.flat rfl
theorem Bor.str {i : Str} (h : Bor C X H1 H v (.str i)) : v = .str i := h.flat rfl
theorem Bor.non (h : Bor C X H1 H v .non) : v = .non := h.flat rfl
theorem Bor.raw {u : V} (h : Bor C X H1 H v (.raw u)) : v = u := h.flat rfl
theorem Bor.lst {ds : List Dt} (h : Bor C X H1 H v (.lst ds)) : ∃ p vs, v = .ref p ∧ H p = some (.lst vs) ∧ DenAll C.K (vis H X) vs ds := by
  rcases h with h | ⟨p, vs, ds, e1, e2, n, h1, h2⟩
  · cases h with
    | lst h a => exact ⟨_, _, rfl, vis_sub _ _ h, a⟩
  · cases e2; exact ⟨p, vs, e1, h1, h2⟩
theorem Bor.tup {ds : List Dt} (h : Bor C X H1 H v (.tup ds)) : ∃ p vs, v = .ref p ∧ H p = some (.tup vs) ∧ DenAll C.K (vis H X) vs ds := by
  rcases h with h | ⟨p, vs, ds, e1, e2, n, h1, h2⟩
  · cases h with
    | tup h a => exact ⟨_, _, rfl, vis_sub _ _ h, a⟩
  · cases e2
theorem Bor.dk {ks : List Key} {ds : List Dt} (h : Bor C X H1 H v (.dk ks ds)) : ∃ p vs, v = .ref p ∧ H p = some (.dK (ks.zip vs)) ∧ ks.length = vs.length ∧ DenAll C.K (vis H X) vs ds := by
  rcases h with h | ⟨p, vs, ds, e1, e2, n, h1, h2⟩
  · cases h with
    | dk h l a => exact ⟨_, _, rfl, vis_sub _ _ h, l, a⟩
  · cases e2
theorem Bor.dt {ks : List (List Key)} {ds : List Dt} (h : Bor C X H1 H v (.dt ks ds)) : ∃ p vs, v = .ref p ∧ H p = some (.dT (ks.zip vs)) ∧ ks.length = vs.length ∧ DenAll C.K (vis H X) vs ds := by
  rcases h with h | ⟨p, vs, ds, e1, e2, n, h1, h2⟩
  · cases h with
    | dt h l a => exact ⟨_, _, rfl, vis_sub _ _ h, l, a⟩
  · cases e2
theorem Bor.ins {c : Str} {ns : List Str} {ds : List Dt} (h : Bor C X H1 H v (.ins c ns ds)) : ∃ p dx vs, v = .ref p ∧ H p = some (.ins (He.ga C.K c) dx (ns.zip vs)) ∧ ns.length = vs.length ∧ DenAll C.K (vis H X) vs ds := by
  rcases h with h | ⟨p, vs, ds, e1, e2, n, h1, h2⟩
  · cases h with
    | ins h l a => exact ⟨_, _, _, rfl, vis_sub _ _ h, l, a⟩
  · cases e2
/-- a new thing is laid -/
theorem Rep.laid {p : Addr} {o : HO} (r : Rep C X env σ H) (n : H p = none) : Frm C.hd H (upd H p o) := .upd n
theorem cln_new {p : Addr} {vs : List V} {ds : List Dt} (r : Rep C X env σ H) (n : H p = none) (h : DenAll C.K (vis H X) vs ds) : Cln C X H1 (upd H p (.tup vs)) (.ref p) (.tup ds) :=
  .tup (vis_mk (r.free n) upd_same) (h.mono (r.vs (.upd n)))
theorem fsh_new {p : Addr} {vs : List V} {ds : List Dt} (r : Rep C X env σ H) (n : H p = none) (h : DenAll C.K (vis H X) vs ds) : Fsh C X H (upd H p (.lst vs)) (.ref p) (.lst ds) :=
  ⟨p, vs, ds, rfl, rfl, n, upd_same, h.mono fun a o e => by
    obtain ⟨n1, e1⟩ := vis_of e
    have ne : a ≠ p := ne_of_none e1 n
    exact vis_mk (fun z => z.elim n1 ne) (by rw [upd_ne ne]; exact e1)⟩
end
/-! ### names, constants -/
def eVar (i : Nat) : DX := fun env Q _ => match env[i]? with
  | some (.d x) => Q x
  | _ => False
def eVarB (i : Nat) : DX := fun env Q _ => match env[i]? with
  | some (.d x) => Q x
  | some (.own (.lst xs)) => Q (.lst xs)
  | _ => False
def eC (d : Dt) : DX := fun _ Q _ => Q d
section
variable {C : Bc} {X : Addr → Prop} {env : List Sl} {σ : L2.St} {H : Hp}
theorem Rep.at (r : Rep C X env σ H) {i : Nat} {x : Dt} (e : env[i]? = some (.d x)) : ∃ v, σ[i]? = some (some v) ∧ Den C.K (vis H X) v x := by
  obtain ⟨o, e1, v, rfl, h⟩ := r.slot i _ e
  exact ⟨v, e1, h⟩
theorem de_var (i : Nat) : DE C (tVar i) (eVar i) := by
  intro X env σ H Q Qd Qx r he q x
  unfold eVar at he
  split at he
  · rename_i y e
    obtain ⟨v, e1, h⟩ := r.at e
    exact ⟨v, e1, q _ v H (.refl H) h he⟩
  · exact he.elim
theorem db_var (i : Nat) : DB C (tVar i) (eVarB i) := by
  intro X env σ H Q Qd Qx r he q x
  unfold eVarB at he
  split at he
  · rename_i y e
    obtain ⟨v, e1, h⟩ := r.at e
    exact ⟨v, e1, q _ v H (.refl H) (.inl h) he⟩
  · rename_i y e
    obtain ⟨o, e1, p, u, rfl, x1, x2, h1, h2⟩ := r.slot i _ e
    cases h2 with
    | @lst vs _ h2 => exact ⟨.ref p, e1, q _ _ H (.refl H) (.inr ⟨p, vs, _, rfl, rfl, r.nh x2, h1, h2⟩) he⟩
  · exact he.elim
theorem de_c {v : V} {d : Dt} (e : d.flat = some v) : DE C (tC v) (eC d) := fun X env σ H Q Qd Qx r he q x => q d v H (.refl H) (.of_flat e) he
theorem de_int (i : Int) : DE C (tC (.int i)) (eC (.int i)) := de_c rfl
theorem de_str (i : Str) : DE C (tC (.str i)) (eC (.str i)) := de_c rfl
theorem de_bl (i : Bool) : DE C (tC (.bl i)) (eC (.bl i)) := de_c rfl
theorem de_non : DE C (tC .non) (eC .non) := de_c rfl
theorem de_raw (v : V) : DE C (tC v) (eC (.raw v)) := de_c rfl
end
/-! ### operators -/
abbrev D2 := Dt → Dt → (Dt → Prop) → Prop
abbrev D1 := Dt → (Dt → Prop) → Prop
def OpG (R : RR) (C : Bc) (r : R2) (f : D2) : Prop := ∀ X env σ H H1 x y a b (Q : VK) (Qd : Dt → Prop), Rep C X env σ H → Bor C X H1 H x a → Bor C X H1 H y b → f a b Qd → (∀ d v H', Frm C.hd H H' → R C X H H' v d → Qd d → Q v H') → r x y H Q
abbrev OpD := OpG Cln
def eOp (f : D2) (a b : DX) : DX := fun env Q E => a env (fun x => b env (fun y => f x y Q) E) E
/-- what a reading may be weakened by: an earlier start -/
class RRs (R : RR) : Prop where
  st : ∀ {C : Bc} {X : Addr → Prop} {env : List Sl} {σ : L2.St} {H H1 H' : Hp} {v : V} {d : Dt}, Rep C X env σ H → Frm C.hd H H1 → R C X H1 H' v d → R C X H H' v d
instance : RRs Cln := ⟨fun _ _ h => h⟩
instance : RRs Bor := ⟨fun _ _ h => h⟩
instance : RRs Fsh := ⟨fun r f h => h.frm r f⟩
section
variable {C : Bc} {r r' : R2} {f : D2} {ta tb : TE} {a b : DX} {R : RR}
theorem dg_op [RRs R] (ho : OpG R C r f) (ha : DB C ta a) (hb : DB C tb b) : DEg R C (tOp r ta tb) (eOp f a b) := by
  intro X env σ H Q Qd Qx rp he q x
  refine ha X env σ H _ _ Qx rp he (fun d v H1 f1 r1 he1 => ?_) x
  have rp1 := rp.step f1
  refine hb X env σ H1 _ _ Qx rp1 he1 (fun d2 v2 H2 f2 r2 he2 => ?_) (x.step f1)
  exact ho X env σ H2 H1 v v2 d d2 Q Qd (rp1.step f2) (r1.frm rp1 f2) r2 he2 fun d3 v3 H3 f3 r3 => q d3 v3 H3 (f1.trans (f2.trans f3)) (RRs.st rp (f1.trans f2) r3)
end
section
variable {C : Bc} {r r' : R2} {f g : D2}
/-- one rule or the other -/
theorem OpG.left {R : RR} (h : OpG R C r f) : OpG R C (fun x y H Q => r x y H Q ∨ r' x y H Q) f := fun X env σ H H1 x y a b Q Qd rp r1 r2 he q => .inl (h X env σ H H1 x y a b Q Qd rp r1 r2 he q)
theorem OpG.right {R : RR} (h : OpG R C r' f) : OpG R C (fun x y H Q => r x y H Q ∨ r' x y H Q) f := fun X env σ H H1 x y a b Q Qd rp r1 r2 he q => .inr (h X env σ H H1 x y a b Q Qd rp r1 r2 he q)
end
/-- whole numbers -/
def dI (c : Int → Int → Prop) (g : Int → Int → Dt) : D2 := fun a b Q => match a, b with
  | .int i, .int j => c i j ∧ Q (g i j)
  | _, _ => False
def dI0 (g : Int → Int → Dt) : D2 := fun a b Q => match a, b with
  | .int i, .int j => Q (g i j)
  | _, _ => False
section
variable {C : Bc}
theorem od_I {c : Int → Int → Prop} {g : Int → Int → V} {g' : Int → Int → Dt} (e : ∀ i j, (g' i j).flat = some (g i j)) : OpD C (rI c g) (dI c g') := by
  intro X env σ H H1 x y a b Q Qd rp r1 r2 he q
  unfold dI at he
  split at he
  · exact ⟨_, _, r1.int, r2.int, he.1, q _ _ H (.refl H) (.of_flat (e _ _)) he.2⟩
  · exact he.elim
theorem od_I0 {g : Int → Int → V} {g' : Int → Int → Dt} (e : ∀ i j, (g' i j).flat = some (g i j)) : OpD C (rI0 g) (dI0 g') := by
  intro X env σ H H1 x y a b Q Qd rp r1 r2 he q
  unfold dI0 at he
  split at he
  · exact ⟨_, _, r1.int, r2.int, q _ _ H (.refl H) (.of_flat (e _ _)) he⟩
  · exact he.elim
end
abbrev LINE : Nat := 16777216
/-! + -/
def rAddIB : R2 := fun x y H Q => ∃ i k, x = .int i ∧ y = .bl k ∧ Q (.int (i + b2i k)) H
def rAddS : R2 := fun x y H Q => ∃ i j, x = .str i ∧ y = .str j ∧ i.length + j.length ≤ sizeLine ∧ Q (.str (i ++ j)) H
def rAddU (K : PySem.W.Frag) : R2 := fun x y H Q => rI0 (fun i j => .int (i + j)) x y H Q ∨ (rCat x y H Q ∨ (rCatA K x y H Q ∨ (rAddS x y H Q ∨ rAddIB x y H Q)))
theorem op_addU {X : Cx} {K : PySem.W.Frag} (e : X.K = K) : OpR X (binaryOp .Add) (rAddU K) := op_add.or (op_cat.or ((OpR.k (r := rCatA) (K := K) op_catA e).or (OpR.or (r := rAddS) op_add_str op_add_ib)))
def dAdd : D2 := fun a b Q => match a, b with
  | .int i, .int j => Q (.int (i + j))
  | .lst xs, .lst ys => xs.length + ys.length ≤ LINE ∧ Q (.lst (xs ++ ys))
  | .tup xs, .tup ys => xs.length + ys.length ≤ LINE ∧ Q (.tup (xs ++ ys))
  | .str x, .str y => x.length + y.length ≤ LINE ∧ Q (.str (x ++ y))
  | .int i, .bl k => Q (.int (i + b2i k))
  | _, _ => False
def dAddL : D2 := fun a b Q => match a, b with
  | .lst xs, .lst ys => xs.length + ys.length ≤ LINE ∧ Q (.lst (xs ++ ys))
  | _, _ => False
section
variable {C : Bc}
theorem od_addL : OpG Fsh C (rAddU C.K) dAddL := by
  intro X env σ H H1 x y a b Q Qd rp r1 r2 he q
  unfold dAddL at he
  split at he
  · obtain ⟨p, vs, rfl, h1, a1⟩ := r1.lst
    obtain ⟨p2, vs2, rfl, h2, a2⟩ := r2.lst
    refine .inr (.inl ⟨p, p2, vs, vs2, rfl, rfl, h1, h2, by rw [a1.length, a2.length, sizeLine_eq]; exact he.1, fun pn hp => ?_⟩)
    exact q _ _ _ (.upd hp) (fsh_new rp hp (a1.append a2)) he.2
  · exact he.elim
theorem od_add : OpD C (rAddU C.K) dAdd := by
  intro X env σ H H1 x y a b Q Qd rp r1 r2 he q
  unfold dAdd at he
  split at he
  · exact .inl ⟨_, _, r1.int, r2.int, q _ _ H (.refl H) (.int _) he⟩
  · exact od_addL X env σ H H1 x y _ _ Q Qd rp r1 r2 he fun d v H' f h => q d v H' f (h.cln rp)
  · obtain ⟨p, vs, rfl, h1, a1⟩ := r1.tup
    obtain ⟨p2, vs2, rfl, h2, a2⟩ := r2.tup
    have al := a1.append a2
    refine .inr (.inr (.inl ⟨p, p2, vs, vs2, rfl, rfl, .inl (.inl h1), .inl (.inl h2), by rw [a1.length, a2.length, sizeLine_eq]; exact he.1, fun e => ?_, fun _ e => ?_, fun _ _ pn hp => ?_⟩))
    · subst e
      refine q _ _ H (.refl H) ?_ he.2
      rcases r2 with r2 | ⟨_, _, _, _, e2, _⟩
      · cases r2 with
        | @tup _ xs' _ g g2 =>
          have e : xs' = vs2 := by simpa using (vis_sub _ _ g).symm.trans h2
          subst e
          exact .tup g al
      · cases e2
    · subst e
      refine q _ _ H (.refl H) ?_ he.2
      rcases r1 with r1 | ⟨_, _, _, _, e2, _⟩
      · cases r1 with
        | @tup _ xs' _ g g2 =>
          have e : xs' = vs := by simpa using (vis_sub _ _ g).symm.trans h1
          subst e
          rw [List.append_nil] at al
          exact .tup g al
      · cases e2
    · exact q _ _ _ (.upd hp) (cln_new rp hp al) he.2
  · exact .inr (.inr (.inr (.inl ⟨_, _, r1.str, r2.str, by rw [sizeLine_eq]; exact he.1, q _ _ H (.refl H) (.str _) he.2⟩)))
  · exact .inr (.inr (.inr (.inr ⟨_, _, r1.int, r2.bl, q _ _ H (.refl H) (.int _) he⟩)))
  · exact he.elim
end
/-! * -/
/-- t * k, k from 1 on: t itself, or a new tuple -/
def rRepB : R2 := fun x y H Q => ∃ l k xs, x = .ref l ∧ y = .int k ∧ H l = some (.tup xs) ∧ xs ≠ [] ∧ 1 ≤ k ∧ k ≤ 1000 ∧ xs.length ≤ 1000 ∧ (k = 1 → Q (.ref l) H) ∧ ∀ p, H p = none → Q (.ref p) (upd H p (.tup (List.replicate k.toNat xs).flatten))
theorem op_repB {X : Cx} : OpR X (binaryOp .Mult) rRepB := by
  intro pins s σ H x y v u Q I rx ry h
  obtain ⟨l, k, xs, rfl, rfl, hl, hne, h1, h2, hz, q1, q⟩ := h
  by_cases e : 2 ≤ k
  · exact op_repT pins s σ H _ _ v u Q I rx ry ⟨l, k, xs, rfl, rfl, .inl (.inl hl), hne, e, h2, hz, q⟩
  · obtain rfl : k = 1 := by omega
    cases rx
    obtain ⟨t, rfl⟩ := ry
    obtain ⟨its, r, ⟨⟨cls, dd, data, sl⟩, ho, hc, n, hd⟩, hs⟩ := I.tuple (.inl (.inl hl) : SqT X.K H l xs)
    simp only at hc hd
    subst hc hd
    refine wpAny_binaryOp_repeat_ref (T := "tuple") (U := "int") (by decide) ⟨_, ho, rfl⟩ (fun s' => typeIs_int s' 1 t) noFill_tuple_mul F.fills_int_mul F.slot_int_rmul repeat_tuple F.slot_int_index.lookup
      (call_meets F.slot_int_rmul (typeIs_int s 1 t) F.entry_int_rmul (F.args_int_rmul_2 _ _) (int_rmul_tuple 1 t l its.toArray n dd sl)
        ⟨ho, rfl, ⟨_, ho, rfl⟩, call_meets F.slot_tuple_mul ⟨_, ho, rfl⟩ F.entry_tuple_mul (F.args_tuple_mul_2 _ _) (mine_mul_one l its.toArray n dd sl t) ⟨ho, ?_⟩⟩)
    exact ⟨.ref l, H, I, rfl, q1 rfl⟩
theorem mine_mul_zero (l : Addr) (items : Array Value) (n : Nat) (dd : Option Addr) (sl : Array (Option Value)) (x : Int) (u : Tok) (c0 : (decide (x < -(2 ^ 63)) || decide (x ≥ 2 ^ 63)) = false) (c1 : (items.isEmpty || x == 1) = false) (c2 : (decide (x ≤ 0) || items.isEmpty) = true) :
    Meets (Builtin.«tuple.__mul__» ⟨[.ref l, .int x u], []⟩) (fun _ R s => s.heap.get? l = some { cls := .type "tuple", dict := dd, data := .seq items n, slots := sl } ∧
      R (.ok (.ret (Value.ref s.heap.objs.size))) { s with heap := s.heap.push { cls := Value.type "tuple", data := Data.seq #[] }, toks := s.toks }) :=
  .of_wp fun prog w A R s h => by
    obtain ⟨hp, g, d, tk, os⟩ := s
    obtain ⟨hl, h⟩ := h
    have f1 := AutoSeq1.idx_int
    wp_walk using wpAny_loadPart' hl
    repeat (first
      | (refine wpAny_ite_false (decide_eq_false (by rw [c0]; exact Bool.false_ne_true)) ?_; wp_walk using wpAny_loadPart' hl)
      | (refine wpAny_ite_false (decide_eq_false (by rw [c1]; exact Bool.false_ne_true)) ?_; wp_walk using wpAny_loadPart' hl)
      | (refine wpAny_ite_true (decide_eq_true c2) ?_; wp_walk using wpAny_loadPart' hl))
    exact ⟨_, rfl, h⟩
/-- t * k, k up to 0: a new tuple of nothing -/
def rRepZ : R2 := fun x y H Q => ∃ l k xs, x = .ref l ∧ y = .int k ∧ H l = some (.tup xs) ∧ xs ≠ [] ∧ k ≤ 0 ∧ -(2 ^ 62) ≤ k ∧ ∀ p, H p = none → Q (.ref p) (upd H p (.tup []))
theorem op_repZ {X : Cx} : OpR X (binaryOp .Mult) rRepZ := by
  intro pins s σ H x y v u Q I rx ry h
  obtain ⟨l, k, xs, rfl, rfl, hl, hne, h1, h2, q⟩ := h
  cases rx
  obtain ⟨t, rfl⟩ := ry
  obtain ⟨its, r, ⟨⟨cls, dd, data, sl⟩, ho, hc, n, hd⟩, hs⟩ := I.tuple (.inl (.inl hl) : SqT X.K H l xs)
  simp only at hc hd
  subst hc hd
  have hn : its.toArray.isEmpty = false := by
    cases its with
    | nil => cases r; exact absurd rfl hne
    | cons a b => rfl
  have c0 : (decide (k < -(2 ^ 63)) || decide (k ≥ 2 ^ 63)) = false := by
    rw [decide_eq_false (by omega), decide_eq_false (by omega)]; rfl
  have c1 : (its.toArray.isEmpty || k == 1) = false := by
    rw [hn, show (k == 1) = false from beq_eq_false_iff_ne.mpr (by omega)]; rfl
  have c2 : (decide (k ≤ 0) || its.toArray.isEmpty) = true := by rw [decide_eq_true h1]; rfl
  refine wpAny_binaryOp_repeat_ref (T := "tuple") (U := "int") (by decide) ⟨_, ho, rfl⟩ (fun s' => typeIs_int s' k t) noFill_tuple_mul F.fills_int_mul F.slot_int_rmul repeat_tuple F.slot_int_index.lookup
    (call_meets F.slot_int_rmul (typeIs_int s k t) F.entry_int_rmul (F.args_int_rmul_2 _ _) (int_rmul_tuple k t l its.toArray n dd sl)
      ⟨ho, rfl, ⟨_, ho, rfl⟩, call_meets F.slot_tuple_mul ⟨_, ho, rfl⟩ F.entry_tuple_mul (F.args_tuple_mul_2 _ _) (mine_mul_zero l its.toArray n dd sl k t c0 c1 c2) ⟨ho, ?_⟩⟩)
  refine ⟨.ref _, _, I.laid (t' := s.toks) (o := .tup []) (fun b ob q => Heap.get?_push_of_some _ q) (Nat.le_refl _) ?_, rfl, q _ (I.hok.fresh (Nat.le_refl _))⟩
  exact ⟨Nat.zero_le _, _, .nil, IsTup.new _ _⟩
def rMulU : R2 := fun x y H Q => rI CMul (fun i j => .int (i * j)) x y H Q ∨ (rRep x y H Q ∨ (rRepB x y H Q ∨ rRepZ x y H Q))
theorem op_mulU {X : Cx} : OpR X (binaryOp .Mult) rMulU := op_mul.or (op_rep.or (op_repB.or op_repZ))
def dMul : D2 := fun a b Q => match a, b with
  | .int i, .int j => CMul i j ∧ Q (.int (i * j))
  | .lst xs, .int k => (-(2 ^ 63) ≤ k ∧ k < 2 ^ 63 ∧ xs.length * k.toNat ≤ LINE) ∧ Q (.lst (List.replicate k.toNat xs).flatten)
  | .tup xs, .int k => (xs ≠ [] ∧ -(2 ^ 62) ≤ k ∧ k ≤ 1000 ∧ xs.length ≤ 1000) ∧ Q (.tup (List.replicate k.toNat xs).flatten)
  | _, _ => False
def dMulL : D2 := fun a b Q => match a, b with
  | .lst xs, .int k => (-(2 ^ 63) ≤ k ∧ k < 2 ^ 63 ∧ xs.length * k.toNat ≤ LINE) ∧ Q (.lst (List.replicate k.toNat xs).flatten)
  | _, _ => False
section
variable {C : Bc}
theorem od_mulL : OpG Fsh C rMulU dMulL := by
  intro X env σ H H1 x y a b Q Qd rp r1 r2 he q
  unfold dMulL at he
  split at he
  · obtain ⟨p, vs, rfl, h1, a1⟩ := r1.lst
    obtain ⟨⟨c1, c2, c3⟩, he⟩ := he
    refine .inr (.inl ⟨p, _, vs, rfl, r2.int, h1, c1, c2, by rw [a1.length, sizeLine_eq]; exact c3, fun pn hp => ?_⟩)
    exact q _ _ _ (.upd hp) (fsh_new rp hp (a1.replicate _)) he
  · exact he.elim
theorem od_mul : OpD C rMulU dMul := by
  intro X env σ H H1 x y a b Q Qd rp r1 r2 he q
  unfold dMul at he
  split at he
  · exact .inl ⟨_, _, r1.int, r2.int, he.1, q _ _ H (.refl H) (.int _) he.2⟩
  · exact od_mulL X env σ H H1 x y _ _ Q Qd rp r1 r2 he fun d v H' f h => q d v H' f (h.cln rp)
  · obtain ⟨p, vs, rfl, h1, a1⟩ := r1.tup
    rename_i xs0 k0
    obtain ⟨⟨c1, c2, c3, c4⟩, he⟩ := he
    have al := a1.replicate (K := C.K)
    by_cases kz : k0 ≤ 0
    · refine .inr (.inr (.inr ⟨p, _, vs, rfl, r2.int, h1, fun e => c1 ?_, kz, c2, fun pn hp => ?_⟩))
      · subst e; cases a1; rfl
      · rw [show k0.toNat = 0 from Int.toNat_eq_zero.mpr kz] at he
        exact q _ _ _ (.upd hp) (cln_new rp hp .nil) he
    refine .inr (.inr (.inl ⟨p, _, vs, rfl, r2.int, h1, fun e => c1 ?_, by omega, c3, by rw [a1.length]; exact c4, fun e => ?_, fun pn hp => ?_⟩))
    · subst e; cases a1; rfl
    · subst e
      refine q _ _ H (.refl H) ?_ he
      rcases r1 with r1 | ⟨_, _, _, _, e2, _⟩
      · have e : ∀ zs : List Dt, (List.replicate (1 : Int).toNat zs).flatten = zs := fun zs => by simp
        rw [e]; exact r1
      · cases e2
    · exact q _ _ _ (.upd hp) (cln_new rp hp (al _)) he
  · exact he.elim
end
end Mine

namespace HT
open PySem PySem.Spec PyProof.Rows L2
section
variable {prog : Program} {w : World} {A : Around} {E : Value → Shared → Prop} {s : Shared}
theorem mine_adjust_rev (n : Nat) : Builtin.Slice.sliceAdjust none none (-1) (n : Int) = ((n : Int) - 1, -1) := by
  unfold Builtin.Slice.sliceAdjust
  have h1 : ((-1 : Int) < 0) := by omega
  simp [h1]
theorem mine_places_rev (n : Nat) : Builtin.Slice.slicePlaces ((n : Int) - 1) (-1) (-1) = n := by
  unfold Builtin.Slice.slicePlaces
  have h1 : ¬ ((-1 : Int) > 0) := by omega
  simp only [h1, if_false]
  split
  all_goals first | omega | (simp <;> omega)
theorem mine_applied_rev {sl : Addr} {t : Tok} {n : Nat} {Q : Int × Int × Nat → Shared → Prop} {vs : Value} (hs : s.heap.IsSliceOf sl .none .none vs) (ps : IsPart vs (some (-1)))
    (h : Q ((n : Int) - 1, -1, n) s) : wpAny (model prog w) A (Builtin.Slice.sliceApplied (.ref sl) (pure (n : Int))) Q E s := by
  obtain ⟨os, hos, hcs, hds⟩ := id hs
  unfold Builtin.Slice.sliceApplied Builtin.Slice.sliceFields
  refine wpAny_bind (wpAny_bind (wpAny_field hos hds (x := .none) rfl (wpAny_bind (wpAny_field hos hds (x := .none) rfl (wpAny_bind (wpAny_field hos hds (x := vs) rfl (wpAny_pure ?_)))))))
  refine wpAny_bind (slicePart_ ps ?_)
  show wpAny _ _ (if ((-1 : Int) == 0) = true then _ else _) _ _ s
  rw [if_neg (by decide)]
  refine wpAny_bind (slicePart_ .none (wpAny_bind (slicePart_ .none (wpAny_bind (wpAny_pure ?_)))))
  show wpAny _ _ (match Builtin.Slice.sliceAdjust none none (-1) (n : Int) with | (lo, hi) => pure (lo, (-1 : Int), Builtin.Slice.slicePlaces lo hi (-1))) _ _ s
  rw [mine_adjust_rev n]
  show wpAny _ _ (pure ((n : Int) - 1, (-1 : Int), Builtin.Slice.slicePlaces ((n : Int) - 1) (-1) (-1))) _ _ s
  rw [mine_places_rev]
  exact wpAny_pure h
theorem fm_congr {α β : Type} {f g : α → Option β} : ∀ {l : List α}, (∀ x ∈ l, f x = g x) → l.filterMap f = l.filterMap g
  | [], _ => rfl
  | a :: l, h => by
    rw [List.filterMap_cons, List.filterMap_cons, h a List.mem_cons_self, fm_congr fun x hx => h x (List.mem_cons_of_mem _ hx)]
theorem mine_pick_rev (xs : Array Value) : ((List.range xs.size).filterMap fun (m : Nat) => xs[((xs.size : Int) - 1 + (m : Int) * (-1)).toNat]?).toArray = xs.toList.reverse.toArray := by
  congr 1
  have h2 := PySem.W.krv_all xs
  have h3 : ((List.range xs.size).map fun k => xs.size - 1 - k).filterMap (xs[·]?) = xs.toList.reverse := by
    rw [PySem.W.krv_range, List.filterMap_reverse, h2]
  rw [← h3, List.filterMap_map]
  refine fm_congr fun m hm => ?_
  have := List.mem_range.mp hm
  show xs[((xs.size : Int) - 1 + (m : Int) * (-1)).toNat]? = xs[xs.size - 1 - m]?
  congr 1; omega
theorem mine_getItem_tuple_rev {t sl : Addr} {items : Array Value} {vs : Value} {Q : Value → Shared → Prop} (ht : IsTup s.heap t items) (hs : s.heap.IsSliceOf sl .none .none vs) (ps : IsPart vs (some (-1)))
    (h : Q (.ref s.heap.objs.size) { s with heap := s.heap.push { cls := .type "tuple", data := .seq items.toList.reverse.toArray } })
    (hsz : items.size ≤ sizeLine) : wpAny (model prog w) A (getItem (.ref t) (.ref sl)) Q E s := by
  have htake : sizeOk (.seq items.toList.reverse.toArray) := by
    show items.toList.reverse.toArray.size ≤ sizeLine
    rw [List.size_toArray, List.length_reverse, Array.length_toList]
    omega
  obtain ⟨os, hos, hcs, hds⟩ := id hs
  have hTs : s.TypeIs (.ref sl) "slice" := ⟨os, hos, hcs⟩
  unfold getItem
  try with_reducible refine wpAny_holding ?_
  first | refine wpAny_bind (wpAny_pure ?_) | skip
  refine wpAny_bind (wpAny_sequenceKey ht.typeIs (by decide) ?_)
  refine wpAny_bind (wpAny_callSpecial?_slot (name := Str.ofString "__getitem__") ht.typeIs PyProof.Rows.slot_tuple_getitem
    (wpAny_call_entry PyProof.Rows.slot_tuple_getitem ht.typeIs entry_tuple_getitem ?_ (args_tuple_getitem _ _)))
  show wpAny _ _ (Builtin.Tuple.tupleItemsOf (.ref t) >>= _) _ _ s
  refine wpAny_bind (tupleItemsOf_ ht ?_)
  refine wpAny_bind (wpAny_typeOf hTs ?_)
  rw [if_pos (by decide)]
  refine wpAny_bind (mine_applied_rev (t := 0) hs ps ?_)
  have hno : ¬ ((((items.size : Int) - 1) == 0 && (-1 : Int) == 1 && items.size == items.size) = true) := by
    intro q
    rw [Bool.and_eq_true, Bool.and_eq_true] at q
    exact absurd q.1.2 (by decide)
  show wpAny _ _ (if (((items.size : Int) - 1) == 0 && (-1 : Int) == 1 && items.size == items.size) = true then _ else _) _ _ s
  rw [if_neg hno, mine_pick_rev]
  first
    | exact wpAny_bind (m := Builtin.Tuple.tupleExact _) (wpAny_newObj_type (wpAny_pure ⟨_, rfl, wpAny_pure h⟩) htake)
    | exact wpAny_bind (m := Builtin.Tuple.tupleExact _) (wpAny_newObj_type (wpAny_bind (wpAny_pure (wpAny_pure ⟨_, rfl, wpAny_pure h⟩))) htake)
    | exact wpAny_bind (wpAny_bind (m := Builtin.Tuple.tupleExact _) (wpAny_newObj_type (wpAny_pure (wpAny_pure ⟨_, rfl, wpAny_pure h⟩)) htake))
    | exact wpAny_bind (wpAny_bind (m := Builtin.Tuple.tupleExact _) (wpAny_newObj_type (wpAny_pure ⟨_, rfl, wpAny_pure h⟩) htake))
end
end HT
namespace Mine
open PySem PySem.Spec PyProof.Rows L2
section
variable {X : Cx}
/-- x[::-1] of a list or a tuple -/
def tRevU (te : TE) : TE := fun σ H Q => te σ H fun x H1 => ∃ a xs, x = .ref a ∧ ((H1 a = some (.lst xs) ∧ ∀ p, H1 p = none → Q (.ref p) (upd H1 p (.lst xs.reverse))) ∨ (H1 a = some (.tup xs) ∧ ∀ p, H1 p = none → Q (.ref p) (upd H1 p (.tup xs.reverse))))
theorem pe_revU {e : Expr} {te : TE} {k : Nat} {p1 p2 p3 pos : Pos} (he : PE X e te) : PE X (.Subscript e (.Slice none none (some (.UnaryOp .USub (.Constant (.int 1) k p1) p2)) p3) pos) (tRevU te) := by
  refine ⟨fun pins s σ H Q I h => ?_⟩
  refine Subscript_ (thn (he.run pins s σ H _ I h) fun v s1 ⟨x, H1, I1, r1, q1⟩ => ?_)
  obtain ⟨a, xs, ex, q1⟩ := q1
  subst ex
  cases r1
  have hst : PO X (some (.UnaryOp .USub (.Constant (.int 1) k p1) p2)) (tPart (tUn (rU fun i => .int (-i)) (tC (.int 1)))) := po_some (pe_un un_neg pe_int)
  refine wpAny_Slice (thn (po_none.run pins s1 σ H1 (fun o H2 => o = none ∧ H2 = H1) I1 ⟨rfl, rfl⟩) fun vl s2 ⟨l, H2, I2, pl, el, e2⟩ => ?_)
  subst el e2
  refine thn (po_none.run pins s2 σ H2 (fun o H3 => o = none ∧ H3 = H2) I2 ⟨rfl, rfl⟩) fun vu s3 ⟨u, H3, I3, pu, eu, e3⟩ => ?_
  subst eu e3
  refine thn (hst.run pins s3 σ H3 (fun o H4 => o = some (-1) ∧ H4 = H3) I3 ⟨1, rfl, -1, rfl, rfl, rfl⟩) fun vs s4 ⟨o, H4, I4, ps, eo, e4⟩ => ?_
  subst eo e4
  have I5 : Inv X pins σ H4 { s4 with heap := s4.heap.push { cls := .type "slice", data := .fields #[vl, vu, vs] } } := I4.kept (t' := s4.toks) fun b ob q => Heap.get?_push_of_some _ q
  show wpAny (model X.prog X.w) X.A (subscriptTail e (.Slice none none (some (.UnaryOp .USub (.Constant (.int 1) k p1) p2)) p3) (.ref a) (.ref s4.heap.objs.size)) (EP X pins σ Q) X.xe { s4 with heap := s4.heap.push { cls := .type "slice", data := .fields #[vl, vu, vs] } }
  rcases q1 with ⟨hx, q⟩ | ⟨hx, q⟩
  · obtain ⟨its, r, ht, hz⟩ := I5.list (.inl (.inl hx))
    have hlen := r.length
    refine tail_any (ops := [.ref a, .ref s4.heap.objs.size]) ht.isList.typeIs (PySem.slot_list_getitem.lookup) ?_ (by with_unfolding_all rfl)
    refine wpAny_getItem_list_slice ht.isList (Heap.IsSliceOf.new _ vl vu vs) pl pu ps (by decide) ?_ (by rw [List.size_toArray]; omega)
    rw [PySem.W.krv_pick]
    refine ⟨.ref _, _, I5.laid (t' := s4.toks) (o := .lst xs.reverse) (fun b ob q => Heap.get?_push_of_some _ q) (Nat.le_refl _) ?_, rfl, q _ (I5.hok.fresh (Nat.le_refl _))⟩
    exact ⟨by rw [List.length_reverse]; exact hz, _, 0, r.reverse, Heap.get?_push_size _ rfl⟩
  · obtain ⟨its, r, ht, hz⟩ := I5.tuple (.inl (.inl hx))
    have hlen := r.length
    refine tail_any (ops := [.ref a, .ref s4.heap.objs.size]) ht.typeIs (PyProof.Rows.slot_tuple_getitem.lookup) ?_ (by with_unfolding_all rfl)
    cases pl
    cases pu
    refine HT.mine_getItem_tuple_rev ht (Heap.IsSliceOf.new _ .none .none vs) ps ?_ (by rw [List.size_toArray]; omega)
    refine ⟨.ref _, _, I5.laid (t' := s4.toks) (o := .tup xs.reverse) (fun b ob q => Heap.get?_push_of_some _ q) (Nat.le_refl _) ?_, rfl, q _ (I5.hok.fresh (Nat.le_refl _))⟩
    exact ⟨by rw [List.length_reverse]; exact hz, _, r.reverse, IsTup.new _ _⟩
end
end Mine

namespace Mine
open PySem PySem.Spec PyProof.Rows L2
/-! ### data as the library's data -/
mutual
def Dt.py : Dt → Option PyData
  | .non => some .none
  | .bl b => some (.bool b)
  | .int i => some (.int i)
  | .str x => some (.str x)
  | .tup xs => (Dt.pys xs).map .tuple
  | .lst xs => (Dt.pys xs).map .list
  | _ => none
def Dt.pys : List Dt → Option (List PyData)
  | [] => some []
  | x :: xs => match Dt.py x, Dt.pys xs with
    | some p, some ps => some (p :: ps)
    | _, _ => none
end
section
variable {K : PySem.W.Frag} {H : Hp}
mutual
theorem Den.dp : ∀ {v : V} {d : Dt} {p : PyData}, Den K H v d → d.py = some p → Dp K H v p
  | _, _, _, .non, e => by rw [Dt.py] at e; injection e with e; subst e; exact .non
  | _, _, _, .bl b, e => by rw [Dt.py] at e; injection e with e; subst e; exact .bl b
  | _, _, _, .int i, e => by rw [Dt.py] at e; injection e with e; subst e; exact .int i
  | _, _, _, .str x, e => by rw [Dt.py] at e; injection e with e; subst e; exact .str x
  | _, _, _, .tup h a, e => by
    rw [Dt.py, Option.map_eq_some_iff] at e
    obtain ⟨ps, e1, rfl⟩ := e
    exact .tup (.inl (.inl h)) (DenAll.dp a e1)
  | _, _, _, .lst h a, e => by
    rw [Dt.py, Option.map_eq_some_iff] at e
    obtain ⟨ps, e1, rfl⟩ := e
    exact .lst (.inl (.inl h)) (DenAll.dp a e1)
  | _, _, _, .dk _ _ _, e => by rw [Dt.py] at e <;> cases e
  | _, _, _, .ins _ _ _, e => by rw [Dt.py] at e <;> cases e
  | _, _, _, .raw v, e => by rw [Dt.py] at e <;> cases e
theorem DenAll.dp : ∀ {vs : List V} {ds : List Dt} {ps : List PyData}, DenAll K H vs ds → Dt.pys ds = some ps → DpAll K H vs ps
  | _, _, _, .nil, e => by rw [Dt.pys] at e; injection e with e; subst e; exact .nil
  | _, _, _, @DenAll.cons _ _ _ _ d ds a b, e => by
    rw [Dt.pys] at e
    cases h1 : Dt.py d with
    | none => rw [h1] at e; cases e
    | some p =>
      cases h2 : Dt.pys ds with
      | none => rw [h1, h2] at e; cases e
      | some ps =>
        rw [h1, h2] at e
        injection e with e
        subst e
        exact .cons (Den.dp a h1) (DenAll.dp b h2)
end
end
/-- equal, as Python has it; of a shape that may be asked -/
def Dt.eqv (a b : Dt) : Bool := match a.py, b.py with
  | some p, some q => PyData.eqv p q
  | _, _ => false
def Dt.sh (a : Dt) : Prop := ∃ p, a.py = some p ∧ SeqAt.shaped p = true
theorem Dt.eqv_of {a b : Dt} {p q : PyData} (h : a.py = some p) (h' : b.py = some q) : a.eqv b = PyData.eqv p q := by
  unfold Dt.eqv
  rw [h, h']
theorem Bor.dp {C : Bc} {X : Addr → Prop} {H H1 : Hp} {v : V} {d : Dt} {p : PyData} (h : Bor C X H1 H v d) (e : d.py = some p) : Dp C.K H v p := by
  rcases h with h | ⟨a, vs, ds, rfl, rfl, n, h1, h2⟩
  · exact (h.mono vis_sub).dp e
  · rw [Dt.py, Option.map_eq_some_iff] at e
    obtain ⟨ps, e1, rfl⟩ := e
    exact .lst (.inl (.inl h1)) ((h2.mono vis_sub).dp e1)
def dEq : D2 := fun a b Q => a.sh ∧ b.sh ∧ Q (.bl (a.eqv b))
def dNe : D2 := fun a b Q => a.sh ∧ b.sh ∧ Q (.bl (!a.eqv b))
section
variable {C : Bc}
theorem od_eq : OpD C (rEqD C.K) dEq := by
  intro X env σ H H1 x y a b Q Qd rp r1 r2 ⟨⟨p, e1, s1⟩, ⟨q, e2, s2⟩, he⟩ qq
  rw [Dt.eqv_of e1 e2] at he
  exact ⟨p, q, r1.dp e1, r2.dp e2, s1, s2, qq _ _ H (.refl H) (.bl _) he⟩
theorem od_ne : OpD C (rNeD C.K) dNe := by
  intro X env σ H H1 x y a b Q Qd rp r1 r2 ⟨⟨p, e1, s1⟩, ⟨q, e2, s2⟩, he⟩ qq
  rw [Dt.eqv_of e1 e2] at he
  exact ⟨p, q, r1.dp e1, r2.dp e2, s1, s2, qq _ _ H (.refl H) (.bl _) he⟩
end
/-! is None -/
def Dt.isN : Dt → Bool
  | .non => true
  | .raw .non => true
  | _ => false
def dIsN : D2 := fun a b Q => match b with
  | .non => Q (.bl a.isN)
  | _ => False
def dNotN : D2 := fun a b Q => match b with
  | .non => Q (.bl (!a.isN))
  | _ => False
section
variable {C : Bc} {X : Addr → Prop} {H H1 : Hp} {v : V}
theorem Bor.isN {a : Dt} (h : Bor C X H1 H v a) : decide (v = .non) = a.isN := by
  rcases h with h | ⟨_, _, _, rfl, rfl, _⟩
  · cases h with
    | raw v => cases v <;> rfl
    | _ => rfl
  · rfl
theorem od_isN : OpD C (fun x y H Q => y = .non ∧ Q (.bl (decide (x = .non))) H) dIsN := by
  intro X env σ H H1 x y a b Q Qd rp r1 r2 he q
  unfold dIsN at he
  split at he
  · exact ⟨r2.non, q _ _ H (.refl H) (by rw [r1.isN]; exact .bl _) he⟩
  · exact he.elim
end
/-! in -/
section
variable {X : Cx}
end
section
variable {C : Bc}
end
/-! the operators of whole numbers -/
abbrev dSub : D2 := dI0 fun i j => .int (i - j)
abbrev dFdiv : D2 := dI CDiv fun i j => .int (i / j)
abbrev dMod : D2 := dI (fun _ j => 0 < j) fun i j => .int (i % j)
abbrev dPow : D2 := dI CPow fun i j => .int (i ^ j.toNat)
abbrev dShl : D2 := dI CPow fun i j => .int (i * 2 ^ j.toNat)
abbrev dShr : D2 := dI (fun _ j => 0 ≤ j) fun i j => .int (i / 2 ^ j.toNat)
abbrev dLe : D2 := dI0 fun i j => .bl (decide (i ≤ j))
abbrev dGt : D2 := dI0 fun i j => .bl (decide (j < i))
abbrev dGe : D2 := dI0 fun i j => .bl (decide (j ≤ i))
def rLtSt : R2 := fun x y H Q => ∃ i j, x = .str i ∧ y = .str j ∧ Q (.bl (decide (i.cps.toList < j.cps.toList))) H
def rLtU (K : PySem.W.Frag) : R2 := fun x y H Q => rI0 (fun i j => .bl (decide (i < j))) x y H Q ∨ (rLtT K x y H Q ∨ rLtSt x y H Q)
theorem op_ltU {X : Cx} {K : PySem.W.Frag} (e : X.K = K) (hu : X.A.units < cLine) : OpR X (compareOp .Lt) (rLtU K) := e ▸ op_lt.or ((op_ltT hu).or (OpR.weak op_lt_str fun _ _ _ _ h => h))
def dLt : D2 := fun a b Q => match a, b with
  | .int i, .int j => Q (.bl (decide (i < j)))
  | .tup xs, .tup ys => ∃ ns ms : List Int, xs = ns.map .int ∧ ys = ms.map .int ∧ Q (.bl (HT.lexLt ns ms))
  | .str x, .str y => Q (.bl (decide (x.cps.toList < y.cps.toList)))
  | _, _ => False
theorem DenAll.ints_of {K : PySem.W.Frag} {H : Hp} : ∀ {vs : List V} {ns : List Int}, DenAll K H vs (ns.map .int) → vs = ns.map V.int
  | _, [], .nil => rfl
  | _, n :: ns, .cons a b => by rw [List.map_cons, a.flat rfl, DenAll.ints_of b]
section
variable {C : Bc}
theorem od_sub : OpD C (rI0 fun i j => .int (i - j)) dSub := od_I0 fun _ _ => rfl
theorem od_fdiv : OpD C (rI CDiv fun i j => .int (i / j)) dFdiv := od_I fun _ _ => rfl
theorem od_mod : OpD C (rI (fun _ j => 0 < j) fun i j => .int (i % j)) dMod := od_I fun _ _ => rfl
theorem od_le : OpD C (rI0 fun i j => .bl (decide (i ≤ j))) dLe := od_I0 fun _ _ => rfl
theorem od_gt : OpD C (rI0 fun i j => .bl (decide (j < i))) dGt := od_I0 fun _ _ => rfl
theorem od_ge : OpD C (rI0 fun i j => .bl (decide (j ≤ i))) dGe := od_I0 fun _ _ => rfl
theorem od_lt : OpD C (rLtU C.K) dLt := by
  intro X env σ H H1 x y a b Q Qd rp r1 r2 he q
  unfold dLt at he
  split at he
  · exact .inl ⟨_, _, r1.int, r2.int, q _ _ H (.refl H) (.bl _) he⟩
  · obtain ⟨ns, ms, rfl, rfl, he⟩ := he
    obtain ⟨p, vs, rfl, h1, a1⟩ := r1.tup
    obtain ⟨p2, vs2, rfl, h2, a2⟩ := r2.tup
    rw [a1.ints_of] at h1
    rw [a2.ints_of] at h2
    exact .inr (.inl ⟨p, p2, ns, ms, rfl, rfl, .inl (.inl h1), .inl (.inl h2), q _ _ H (.refl H) (.bl _) he⟩)
  · exact .inr (.inr ⟨_, _, r1.str, r2.str, q _ _ H (.refl H) (.bl _) he⟩)
  · exact he.elim
end
/-! ### one thing -/
def UnD (C : Bc) (r : V → Hp → VK → Prop) (f : D1) : Prop := ∀ X env σ H H1 x a (Q : VK) (Qd : Dt → Prop), Rep C X env σ H → Bor C X H1 H x a → f a Qd → (∀ d v H', Frm C.hd H H' → Cln C X H H' v d → Qd d → Q v H') → r x H Q
def eUn (f : D1) (a : DX) : DX := fun env Q E => a env (fun x => f x Q) E
def dNeg : D1 := fun a Q => match a with
  | .int i => Q (.int (-i))
  | _ => False
section
variable {C : Bc} {r : V → Hp → VK → Prop} {f : D1} {ta : TE} {a : DX}
theorem de_un (ho : UnD C r f) (ha : DB C ta a) : DE C (tUn r ta) (eUn f a) := by
  intro X env σ H Q Qd Qx rp he q x
  refine ha X env σ H _ _ Qx rp he (fun d v H1 f1 r1 he1 => ?_) x
  exact ho X env σ H1 H v d Q Qd (rp.step f1) r1 he1 fun d3 v3 H3 f3 r3 => q d3 v3 H3 (f1.trans f3) r3
theorem ud_neg : UnD C (rU fun i => .int (-i)) dNeg := by
  intro X env σ H H1 x a Q Qd rp r1 he q
  unfold dNeg at he
  split at he
  · exact ⟨_, r1.int, q _ _ H (.refl H) (.int _) he⟩
  · exact he.elim
end
/-! ### tests -/
def DT (C : Bc) (t : TT) (e : DTX) : Prop := ∀ X env σ H (Q : Bool → Hp → Prop) (Qd : Bool → Prop) (Qx : Xc → Prop), Rep C X env σ H → e env Qd Qx → (∀ b H', Frm C.hd H H' → Qd b → Q b H') → XOk C X σ H Qx → t σ H Q
def eTest (e : DX) : DTX := fun env Q E => e env (fun d => match d with
  | .bl b => Q b
  | _ => False) E
def eNotT (t : DTX) : DTX := fun env Q E => t env (fun b => Q (!b)) E
def eAndT (t u : DTX) : DTX := fun env Q E => t env (fun b => if b = true then u env Q E else Q false) E
def eOrT (t u : DTX) : DTX := fun env Q E => t env (fun b => if b = true then Q true else u env Q E) E
def dTru (d : Dt) (Q : Bool → Prop) : Prop := match d with
  | .non => Q false
  | .bl b => Q b
  | .int i => Q (i != 0)
  | .str y => y.length ≤ LINE ∧ Q ((y.length : Int) != 0)
  | .lst xs => Q (!xs.isEmpty)
  | .tup xs => Q (!xs.isEmpty)
  | .dk ks _ => Q (!ks.isEmpty)
  | _ => False
def eTru (e : DX) : DTX := fun env Q E => e env (fun d => dTru d Q) E
/-- a test by truth, the fragment by name -/
def tTru (K : PySem.W.Frag) (ta : TE) : TT := fun σ H Q => ta σ H fun x H' => ∃ k, TruV K x H' k ∧ Q k H'
theorem pt_tru {X : Cx} {K : PySem.W.Frag} {a : Expr} {ta : TE} (e : X.K = K) (ha : PE X a ta) (he : ∀ whole, isTrue a X.env whole = (do let v ← whole; standAt a.pos; holding [v] (truthy v))) : PT X a (tTru K ta) := e ▸ pt_truth ha he
section
variable {C : Bc} {t u : TT} {a b : DTX} {ta tb : TE} {ea eb : DX}
theorem dt_test (h : DE C ta ea) : DT C (tTest ta) (eTest ea) := by
  intro X env σ H Q Qd Qx rp he q x
  refine h X env σ H _ _ Qx rp he (fun d v H1 f1 r1 he1 => ?_) x
  split at he1
  · exact ⟨_, r1.flat rfl, q _ _ f1 he1⟩
  · exact he1.elim
theorem dt_not (h : DT C t a) : DT C (tNot t) (eNotT a) := fun X env σ H Q Qd Qx rp he q x => h X env σ H _ _ Qx rp he (fun b H1 f1 he1 => q _ _ f1 he1) x
theorem dt_and (h : DT C t a) (k : DT C u b) : DT C (tAnd t u) (eAndT a b) := by
  intro X env σ H Q Qd Qx rp he q x
  refine h X env σ H _ _ Qx rp he (fun c H1 f1 he1 => ?_) x
  cases c with
  | true => rw [if_pos rfl] at he1 ⊢; exact k X env σ H1 Q Qd Qx (rp.step f1) he1 (fun b H2 f2 h2 => q b H2 (f1.trans f2) h2) (x.step f1)
  | false => rw [if_neg (by decide)] at he1 ⊢; exact q _ _ f1 he1
theorem dt_or (h : DT C t a) (k : DT C u b) : DT C (tOr t u) (eOrT a b) := by
  intro X env σ H Q Qd Qx rp he q x
  refine h X env σ H _ _ Qx rp he (fun c H1 f1 he1 => ?_) x
  cases c with
  | false => rw [if_neg (by decide)] at he1 ⊢; exact k X env σ H1 Q Qd Qx (rp.step f1) he1 (fun b H2 f2 h2 => q b H2 (f1.trans f2) h2) (x.step f1)
  | true => rw [if_pos rfl] at he1 ⊢; exact q _ _ f1 he1
theorem Bor.tru {X : Addr → Prop} {env : List Sl} {σ : L2.St} {H H1 : Hp} {v : V} {d : Dt} {Qd : Bool → Prop} (rp : Rep C X env σ H) (h : Bor C X H1 H v d) (he : dTru d Qd) : ∃ k, TruV C.K v H k ∧ Qd k := by
  cases d with
  | non => rw [h.non]; exact ⟨_, rfl, he⟩
  | bl b => rw [h.bl]; exact ⟨_, rfl, he⟩
  | int i => rw [h.int]; exact ⟨_, rfl, he⟩
  | str y => rw [h.str]; exact ⟨_, ⟨by rw [sizeLine_eq]; exact he.1, rfl⟩, he.2⟩
  | lst xs =>
    obtain ⟨p, vs, rfl, h1, a1⟩ := h.lst
    refine ⟨_, .inl ⟨vs, .inl (.inl h1), rfl⟩, ?_⟩
    have : vs.isEmpty = xs.isEmpty := by cases a1 <;> rfl
    rw [this]; exact he
  | tup xs =>
    obtain ⟨p, vs, rfl, h1, a1⟩ := h.tup
    refine ⟨_, .inr (.inl ⟨vs, .inl (.inl h1), rfl⟩), ?_⟩
    have : vs.isEmpty = xs.isEmpty := by cases a1 <;> rfl
    rw [this]; exact he
  | dt _ _ => exact he.elim
  | dk ks ds =>
    obtain ⟨p, vs, rfl, h1, l, a1⟩ := h.dk
    refine ⟨_, .inr (.inr ⟨_, h1, rfl⟩), ?_⟩
    have : (ks.zip vs).isEmpty = ks.isEmpty := by
      cases ks with
      | nil => rfl
      | cons k ks =>
        cases vs with
        | nil => cases l
        | cons v vs => rfl
    rw [this]; exact he
  | ins _ _ _ => exact he.elim
  | raw _ => exact he.elim
theorem dt_tru (h : DB C ta ea) : DT C (tTru C.K ta) (eTru ea) := by
  intro X env σ H Q Qd Qx rp he q x
  refine h X env σ H _ _ Qx rp he (fun d v H1 f1 r1 he1 => ?_) x
  obtain ⟨k, h1, h2⟩ := r1.tru (rp.step f1) he1
  exact ⟨k, h1, q _ _ f1 h2⟩
/-! as values -/
def eBool (d : Dt) (Q : Bool → Prop) : Prop := match d with
  | .bl b => Q b
  | _ => False
def eAndV (a b : DX) : DX := fun env Q E => a env (fun d => eBool d fun c => if c = true then b env Q E else Q (.bl false)) E
def eOrV (a b : DX) : DX := fun env Q E => a env (fun d => eBool d fun c => if c = true then Q (.bl true) else b env Q E) E
def eNotV (a : DX) : DX := fun env Q E => a env (fun d => eBool d fun c => Q (.bl (!c))) E
def eIf (t : DTX) (a b : DX) : DX := fun env Q E => t env (fun c => if c = true then a env Q E else b env Q E) E
theorem eBool_of {d : Dt} {Q : Bool → Prop} (h : eBool d Q) : ∃ c, d = .bl c ∧ Q c := by
  cases d <;> first | exact ⟨_, rfl, h⟩ | exact h.elim
theorem de_andV (h : DE C ta ea) (k : DE C tb eb) : DE C (tAndV ta tb) (eAndV ea eb) := by
  intro X env σ H Q Qd Qx rp he q x
  refine h X env σ H _ _ Qx rp he (fun d v H1 f1 r1 he1 => ?_) x
  obtain ⟨c, rfl, he2⟩ := eBool_of he1
  refine ⟨c, r1.flat rfl, ?_⟩
  cases c with
  | true => rw [if_pos rfl] at he2 ⊢; exact k X env σ H1 Q Qd Qx (rp.step f1) he2 (fun d v H2 f2 h2 => q d v H2 (f1.trans f2) h2) (x.step f1)
  | false => rw [if_neg (by decide)] at he2 ⊢; exact q _ _ _ f1 (.bl _) he2
theorem de_orV (h : DE C ta ea) (k : DE C tb eb) : DE C (tOrV ta tb) (eOrV ea eb) := by
  intro X env σ H Q Qd Qx rp he q x
  refine h X env σ H _ _ Qx rp he (fun d v H1 f1 r1 he1 => ?_) x
  obtain ⟨c, rfl, he2⟩ := eBool_of he1
  refine ⟨c, r1.flat rfl, ?_⟩
  cases c with
  | false => rw [if_neg (by decide)] at he2 ⊢; exact k X env σ H1 Q Qd Qx (rp.step f1) he2 (fun d v H2 f2 h2 => q d v H2 (f1.trans f2) h2) (x.step f1)
  | true => rw [if_pos rfl] at he2 ⊢; exact q _ _ _ f1 (.bl _) he2
theorem dg_if {R : RR} [RRs R] (h : DT C t a) (k : DEg R C ta ea) (l : DEg R C tb eb) : DEg R C (tIf t ta tb) (eIf a ea eb) := by
  intro X env σ H Q Qd Qx rp he q x
  refine h X env σ H _ _ Qx rp he (fun c H1 f1 he1 => ?_) x
  cases c with
  | true => rw [if_pos rfl] at he1 ⊢; exact k X env σ H1 Q Qd Qx (rp.step f1) he1 (fun d v H2 f2 h2 => q d v H2 (f1.trans f2) (RRs.st rp f1 h2)) (x.step f1)
  | false => rw [if_neg (by decide)] at he1 ⊢; exact l X env σ H1 Q Qd Qx (rp.step f1) he1 (fun d v H2 f2 h2 => q d v H2 (f1.trans f2) (RRs.st rp f1 h2)) (x.step f1)
/-- a < b < c -/
def eChain (f g : D2) (a b c : DX) : DX := fun env Q E => a env (fun x => b env (fun y => f x y fun d => eBool d fun k => if k = true then c env (fun z => g y z Q) E else Q (.bl false)) E) E
end
end Mine

namespace Mine
open PySem PySem.Spec PyProof.Rows L2
/-! ### rows of expressions -/
inductive BorAll (C : Bc) (X : Addr → Prop) (H : Hp) : List V → List Dt → Prop
  | nil : BorAll C X H [] []
  | cons {v : V} {vs : List V} {d : Dt} {ds : List Dt} : Bor C X H H v d → BorAll C X H vs ds → BorAll C X H (v :: vs) (d :: ds)
inductive SlAll (K : PySem.W.Frag) (hd : Hnd) (X : Addr → Prop) (H : Hp) : List V → List Sl → Prop
  | nil : SlAll K hd X H [] []
  | d {v : V} {vs : List V} {x : Dt} {ss : List Sl} : Den K (vis H X) v x → SlAll K hd X H vs ss → SlAll K hd X H (v :: vs) (.d x :: ss)
  | hand {h c : Addr} {vs : List V} {ss : List Sl} : hd = some (h, c) → SlAll K hd X H vs ss → SlAll K hd X H (.ref h :: vs) (.hand :: ss)
theorem Bor.frm1 {C : Bc} {X : Addr → Prop} {env : List Sl} {σ : L2.St} {H H1 H2 H' : Hp} {v : V} {d : Dt} (r : Rep C X env σ H) (f : Frm C.hd H H') (h : Bor C X H1 H v d) : Bor C X H2 H' v d := h.frm r f
theorem SlAll.length {K : PySem.W.Frag} {hd : Hnd} {X : Addr → Prop} {H : Hp} : ∀ {vs : List V} {ss : List Sl}, SlAll K hd X H vs ss → vs.length = ss.length
  | _, _, .nil => rfl
  | _, _, .d _ r => by rw [List.length_cons, List.length_cons, r.length]
  | _, _, .hand _ r => by rw [List.length_cons, List.length_cons, r.length]
theorem SlAll.append {K : PySem.W.Frag} {hd : Hnd} {X : Addr → Prop} {H : Hp} : ∀ {vs us : List V} {ss ts : List Sl}, SlAll K hd X H vs ss → SlAll K hd X H us ts → SlAll K hd X H (vs ++ us) (ss ++ ts)
  | _, _, _, _, .nil, b => b
  | _, _, _, _, .d a r, b => .d a (r.append b)
  | _, _, _, _, .hand a r, b => .hand a (r.append b)
/-- args, by how they stand -/
def DAg {δ : Type} (A : Bc → (Addr → Prop) → Hp → List V → List δ → Prop) (C : Bc) (t : TA) (e : List Sl → (List δ → Prop) → (Xc → Prop) → Prop) : Prop :=
  ∀ X env σ H (Q : List V → Hp → Prop) (Qd : List δ → Prop) (Qx : Xc → Prop), Rep C X env σ H → e env Qd Qx → (∀ ds vs H', Frm C.hd H H' → A C X H' vs ds → Qd ds → Q vs H') → XOk C X σ H Qx → t σ H Q
def AC (C : Bc) (X : Addr → Prop) (H : Hp) (vs : List V) (ds : List Dt) : Prop := DenAll C.K (vis H X) vs ds
def AS (C : Bc) (X : Addr → Prop) (H : Hp) (vs : List V) (ss : List Sl) : Prop := SlAll C.K C.hd X H vs ss
abbrev DA := DAg AC
abbrev DAb := DAg BorAll
abbrev DAs := DAg AS
def eNil {δ : Type} : List Sl → (List δ → Prop) → (Xc → Prop) → Prop := fun _ Q _ => Q []
def eCons (a : DX) (r : DAX) : DAX := fun env Q E => a env (fun d => r env (fun ds => Q (d :: ds)) E) E
def eConsS (a : DX) (r : DSX) : DSX := fun env Q E => a env (fun d => r env (fun ds => Q (.d d :: ds)) E) E
def eConsH (i : Nat) (r : DSX) : DSX := fun env Q E => match env[i]? with
  | some .hand => r env (fun ds => Q (.hand :: ds)) E
  | _ => False
section
variable {C : Bc} {ta : TE} {tr : TA} {a : DX} {r : DAX} {rs : DSX}
theorem da_nil : DA C tNil eNil := fun X env σ H Q Qd Qx rp he q x => q [] [] H (.refl H) .nil he
theorem db_nil : DAb C tNil eNil := fun X env σ H Q Qd Qx rp he q x => q [] [] H (.refl H) .nil he
theorem ds_nil : DAs C tNil eNil := fun X env σ H Q Qd Qx rp he q x => q [] [] H (.refl H) .nil he
theorem da_cons (ha : DE C ta a) (hr : DA C tr r) : DA C (tCons ta tr) (eCons a r) := by
  intro X env σ H Q Qd Qx rp he q x
  refine ha X env σ H _ _ Qx rp he (fun d v H1 f1 r1 he1 => ?_) x
  have rp1 := rp.step f1
  exact hr X env σ H1 _ _ Qx rp1 he1 (fun ds vs H2 f2 r2 he2 => q _ _ H2 (f1.trans f2) (.cons (Den.mono (rp1.vs f2) r1) r2) he2) (x.step f1)
theorem db_cons (ha : DB C ta a) (hr : DAb C tr r) : DAb C (tCons ta tr) (eCons a r) := by
  intro X env σ H Q Qd Qx rp he q x
  refine ha X env σ H _ _ Qx rp he (fun d v H1 f1 r1 he1 => ?_) x
  have rp1 := rp.step f1
  exact hr X env σ H1 _ _ Qx rp1 he1 (fun ds vs H2 f2 r2 he2 => q _ _ H2 (f1.trans f2) (.cons (r1.frm1 rp1 f2) r2) he2) (x.step f1)
theorem ds_cons (ha : DE C ta a) (hr : DAs C tr rs) : DAs C (tCons ta tr) (eConsS a rs) := by
  intro X env σ H Q Qd Qx rp he q x
  refine ha X env σ H _ _ Qx rp he (fun d v H1 f1 r1 he1 => ?_) x
  have rp1 := rp.step f1
  exact hr X env σ H1 _ _ Qx rp1 he1 (fun ds vs H2 f2 r2 he2 => q _ _ H2 (f1.trans f2) (.d (Den.mono (rp1.vs f2) r1) r2) he2) (x.step f1)
theorem ds_hand {i : Nat} (hr : DAs C tr rs) : DAs C (tCons (tVar i) tr) (eConsH i rs) := by
  intro X env σ H Q Qd Qx rp he q x
  unfold eConsH at he
  split at he
  · rename_i e
    obtain ⟨o, e1, h, c, rfl, e2⟩ := rp.slot i _ e
    refine ⟨.ref h, e1, ?_⟩
    exact hr X env σ H _ _ Qx rp he (fun ds vs H2 f2 r2 he2 => q _ _ H2 f2 (.hand e2 r2) he2) x
  · exact he.elim
/-! ### displays -/
def eTup (r : DAX) : DX := fun env Q E => r env (fun ds => ds.length ≤ LINE ∧ Q (.tup ds)) E
def eLst (r : DAX) : DX := fun env Q E => r env (fun ds => ds.length ≤ LINE ∧ Q (.lst ds)) E
theorem de_tup (hr : DA C tr r) : DE C (tTup tr) (eTup r) := by
  intro X env σ H Q Qd Qx rp he q x
  refine hr X env σ H _ _ Qx rp he (fun ds vs H1 f1 r1 he1 => ?_) x
  have r1 : DenAll C.K (vis H1 X) vs ds := r1
  exact ⟨by rw [r1.length, sizeLine_eq]; exact he1.1, fun p hp => q _ _ _ (f1.trans (.upd hp)) (cln_new (H1 := H1) (rp.step f1) hp r1) he1.2⟩
theorem df_lst (hr : DA C tr r) : DF C (tLst tr) (eLst r) := by
  intro X env σ H Q Qd Qx rp he q x
  refine hr X env σ H _ _ Qx rp he (fun ds vs H1 f1 r1 he1 => ?_) x
  have r1 : DenAll C.K (vis H1 X) vs ds := r1
  exact ⟨by rw [r1.length, sizeLine_eq]; exact he1.1, fun p hp => q _ _ _ (f1.trans (.upd hp)) ((fsh_new (rp.step f1) hp r1).frm rp f1) he1.2⟩
end
/-! ### the empty dict -/
def eDk0 : DX := fun _ Q _ => Q (.dk [] [])
/-! ### x[i] -/
theorem IxR.k {X : Cx} {r : PySem.W.Frag → R2} (h : IxR X (r X.K)) {K : PySem.W.Frag} (e : X.K = K) : IxR X (r K) := e ▸ h
def dIx : D2 := fun a b Q => match a, b with
  | .lst xs, .int k => ∃ x, atI xs k = some x ∧ Q x
  | .tup xs, .int k => ∃ x, atI xs k = some x ∧ Q x
  | .str z, .int k => z.length ≤ LINE ∧ ∃ c, atI z.cps.toList k = some c ∧ Q (.str ⟨#[c]⟩)
  | _, _ => False
theorem DenAll.atI {K : PySem.W.Frag} {H : Hp} {vs : List V} {ds : List Dt} {k : Int} {x : Dt} (h : DenAll K H vs ds) (e : L2.atI ds k = some x) : ∃ v, L2.atI vs k = some v ∧ Den K H v x := by
  unfold L2.atI at e ⊢
  rw [h.length]
  cases q : ixN ds.length k with
  | none => rw [q] at e; cases e
  | some j =>
    rw [q] at e
    obtain ⟨v, h1, h2⟩ := h.get (show ds[j]? = some x from e)
    exact ⟨v, h1, h2⟩
section
variable {C : Bc}
theorem od_ix : OpD C (rIx C.K) dIx := by
  intro X env σ H H1 x y a b Q Qd rp r1 r2 he q
  unfold dIx at he
  split at he
  · obtain ⟨d, e, he⟩ := he
    obtain ⟨p, vs, rfl, h1, a1⟩ := r1.lst
    obtain ⟨v, e2, h2⟩ := a1.atI e
    exact .inl ⟨p, vs, _, v, rfl, r2.int, .inl (.inl h1), e2, q _ _ H (.refl H) h2 he⟩
  · obtain ⟨d, e, he⟩ := he
    obtain ⟨p, vs, rfl, h1, a1⟩ := r1.tup
    obtain ⟨v, e2, h2⟩ := a1.atI e
    exact .inr (.inl ⟨p, vs, _, v, rfl, r2.int, .inl (.inl h1), e2, q _ _ H (.refl H) h2 he⟩)
  · obtain ⟨hz, c, e, he⟩ := he
    exact .inr (.inr ⟨_, _, c, r1.str, r2.int, by rw [sizeLine_eq]; exact hz, e, q _ _ H (.refl H) (.str _) he⟩)
  · exact he.elim
end
/-! ### slices -/
def cutG {α : Type} (xs : List α) (lo hi : Option Int) : List α := (xs.drop (HT.sIx xs.length 0 lo)).take (HT.sIx xs.length xs.length hi - HT.sIx xs.length 0 lo)
theorem DenAll.cut {K : PySem.W.Frag} {H : Hp} {vs : List V} {ds : List Dt} (h : DenAll K H vs ds) (lo hi : Option Int) : DenAll K H (cutV vs lo hi) (cutG ds lo hi) := by
  unfold cutV cutG
  rw [h.length]
  exact (h.drop _).take _
theorem SlR.or {X : Cx} {r r' : V → Option Int → Option Int → Hp → VK → Prop} (h : SlR X r) (h' : SlR X r') : SlR X (fun x lo hi H Q => r x lo hi H Q ∨ r' x lo hi H Q) := by
  intro pins s σ H x v vl vu lo hi sl Q I rx hs pl pu q
  rcases q with q | q
  · exact h pins s σ H x v vl vu lo hi sl Q I rx hs pl pu q
  · exact h' pins s σ H x v vl vu lo hi sl Q I rx hs pl pu q
abbrev D3 := Dt → Option Int → Option Int → (Dt → Prop) → Prop
def rSlU (K : PySem.W.Frag) : V → Option Int → Option Int → Hp → VK → Prop := fun x lo hi H Q => rSlL K x lo hi H Q ∨ (rSlA K x lo hi H Q ∨ L2.rSlS x lo hi H Q)
theorem sl_U {X : Cx} {K : PySem.W.Frag} (e : X.K = K) : SlR X (rSlU K) := e ▸ sl_list.or (sl_tupA.or L2.sl_str)
def dSl : D3 := fun a lo hi Q => match a with
  | .lst xs => Q (.lst (cutG xs lo hi))
  | .tup xs => Q (.tup (cutG xs lo hi))
  | .str z => z.length ≤ LINE ∧ Q (.str (cutS z lo hi))
  | _ => False
def dSlL : D3 := fun a lo hi Q => match a with
  | .lst xs => Q (.lst (cutG xs lo hi))
  | _ => False
def DOX := List Sl → (Option Int → Prop) → (Xc → Prop) → Prop
def eNoPart : DOX := fun _ Q _ => Q none
def ePart (e : DX) : DOX := fun env Q E => e env (fun d => match d with
  | .int i => Q (some i)
  | _ => False) E
def DO (C : Bc) (t : TO) (e : DOX) : Prop := ∀ X env σ H (Q : Option Int → Hp → Prop) (Qd : Option Int → Prop) (Qx : Xc → Prop), Rep C X env σ H → e env Qd Qx → (∀ o H', Frm C.hd H H' → Qd o → Q o H') → XOk C X σ H Qx → t σ H Q
def eSl (f : D3) (a : DX) (lo hi : DOX) : DX := fun env Q E => a env (fun d => lo env (fun l => hi env (fun u => f d l u Q) E) E) E
def SlG (R : RR) (C : Bc) (r : V → Option Int → Option Int → Hp → VK → Prop) (f : D3) : Prop := ∀ X env σ H H1 x a lo hi (Q : VK) (Qd : Dt → Prop), Rep C X env σ H → Bor C X H1 H x a → f a lo hi Qd → (∀ d v H', Frm C.hd H H' → R C X H H' v d → Qd d → Q v H') → r x lo hi H Q
section
variable {C : Bc} {te tl : TE} {ea el : DX} {lo hi : DOX} {t1 t2 : TO} {r : V → Option Int → Option Int → Hp → VK → Prop} {f : D3}
theorem do_none : DO C tNoPart eNoPart := fun X env σ H Q Qd Qx rp he q x => q _ H (.refl H) he
theorem do_some (h : DE C te ea) : DO C (tPart te) (ePart ea) := by
  intro X env σ H Q Qd Qx rp he q x
  refine h X env σ H _ _ Qx rp he (fun d v H1 f1 r1 he1 => ?_) x
  split at he1
  · exact ⟨_, r1.flat rfl, q _ _ f1 he1⟩
  · exact he1.elim
theorem dg_sl {R : RR} [RRs R] (hr : SlG R C r f) (he : DB C te ea) (h1 : DO C t1 lo) (h2 : DO C t2 hi) : DEg R C (tSl r te t1 t2) (eSl f ea lo hi) := by
  intro X env σ H Q Qd Qx rp he' q x
  refine he X env σ H _ _ Qx rp he' (fun d v H1 f1 r1 he1 => ?_) x
  have rp1 := rp.step f1
  refine h1 X env σ H1 _ _ Qx rp1 he1 (fun l H2 f2 he2 => ?_) (x.step f1)
  have rp2 := rp1.step f2
  refine h2 X env σ H2 _ _ Qx rp2 he2 (fun u H3 f3 he3 => ?_) ((x.step f1).step f2)
  have rp3 := rp2.step f3
  exact hr X env σ H3 H v d l u Q Qd rp3 ((r1.frm rp1 f2).frm rp2 f3) he3 fun d v H4 f4 r4 => q d v H4 (f1.trans (f2.trans (f3.trans f4))) (RRs.st rp (f1.trans (f2.trans f3)) r4)
theorem sg_L : SlG Fsh C (rSlU C.K) dSlL := by
  intro X env σ H H1 x a lo hi Q Qd rp r1 he q
  unfold dSlL at he
  split at he
  · obtain ⟨p, vs, rfl, h1, a1⟩ := r1.lst
    exact .inl ⟨p, vs, rfl, .inl (.inl h1), fun pn hp => q _ _ _ (.upd hp) (fsh_new rp hp (a1.cut lo hi)) he⟩
  · exact he.elim
theorem sg_U : SlG Cln C (rSlU C.K) dSl := by
  intro X env σ H H1 x a lo hi Q Qd rp r1 he q
  unfold dSl at he
  split at he
  · exact sg_L X env σ H H1 x _ lo hi Q Qd rp r1 he fun d v H' f h => q d v H' f (h.cln rp)
  · obtain ⟨p, vs, rfl, h1, a1⟩ := r1.tup
    refine .inr (.inl ⟨p, vs, rfl, .inl (.inl h1), fun ⟨c1, c2⟩ => ?_, fun _ pn hp => q _ _ _ (.upd hp) (cln_new rp hp (a1.cut lo hi)) he⟩)
    refine q _ _ H (.refl H) ?_ he
    have e := a1.cut lo hi
    rw [cut_all c1 c2] at e
    rcases r1 with r1 | ⟨_, _, _, _, e2, _⟩
    · cases r1 with
      | @tup _ xs' _ g g2 =>
        have e' : xs' = vs := by simpa using (vis_sub _ _ g).symm.trans h1
        subst e'
        exact .tup g e
    · cases e2
  · obtain ⟨hz, he⟩ := he
    exact .inr (.inr ⟨_, r1.str, by rw [sizeLine_eq]; exact hz, q _ _ H (.refl H) (.str _) he⟩)
  · exact he.elim
/-! x[::-1] -/
def eRev (a : DX) : DX := fun env Q E => a env (fun d => match d with
  | .lst xs => Q (.lst xs.reverse)
  | .tup xs => Q (.tup xs.reverse)
  | _ => False) E
def eRevL (a : DX) : DX := fun env Q E => a env (fun d => match d with
  | .lst xs => Q (.lst xs.reverse)
  | _ => False) E
theorem de_rev (he : DB C te ea) : DE C (tRevU te) (eRev ea) := by
  intro X env σ H Q Qd Qx rp he' q x
  refine he X env σ H _ _ Qx rp he' (fun d v H1 f1 r1 he1 => ?_) x
  split at he1
  · obtain ⟨p, vs, rfl, h1, a1⟩ := r1.lst
    exact ⟨p, vs, rfl, .inl ⟨h1, fun pn hp => q _ _ _ (f1.trans (.upd hp)) (Fsh.cln (H1 := H1) (rp.step f1) (fsh_new (rp.step f1) hp a1.reverse)) he1⟩⟩
  · obtain ⟨p, vs, rfl, h1, a1⟩ := r1.tup
    exact ⟨p, vs, rfl, .inr ⟨h1, fun pn hp => q _ _ _ (f1.trans (.upd hp)) (cln_new (H1 := H) (rp.step f1) hp a1.reverse) he1⟩⟩
  · exact he1.elim
end
/-! ### built-ins -/
abbrev DL := List Dt → (Dt → Prop) → Prop
def CallG (R : RR) (C : Bc) (r : List V → Hp → VK → Prop) (f : DL) : Prop := ∀ X env σ H vs ds (Q : VK) (Qd : Dt → Prop), Rep C X env σ H → BorAll C X H vs ds → f ds Qd → (∀ d v H', Frm C.hd H H' → R C X H H' v d → Qd d → Q v H') → r vs H Q
def eCB (f : DL) (a : DAX) : DX := fun env Q E => a env (fun ds => f ds Q) E
theorem dg_cb {R : RR} [RRs R] {C : Bc} {r : List V → Hp → VK → Prop} {f : DL} {t : TA} {a : DAX} (hr : CallG R C r f) (ha : DAb C t a) : DEg R C (tCB r t) (eCB f a) := by
  intro X env σ H Q Qd Qx rp he q x
  refine ha X env σ H _ _ Qx rp he (fun ds vs H1 f1 r1 he1 => ?_) x
  exact hr X env σ H1 vs ds Q Qd (rp.step f1) r1 he1 fun d v H2 f2 h => q d v H2 (f1.trans f2) (RRs.st rp f1 h)
theorem CallR.or {X : Cx} {f : Value} {r r' : List V → Hp → VK → Prop} (h : CallR X f r) (h' : CallR X f r') : CallR X f (fun xs H Q => r xs H Q ∨ r' xs H Q) := fun pins s σ H xs us Q I rx q =>
  q.elim (h pins s σ H xs us Q I rx) (h' pins s σ H xs us Q I rx)
theorem BorAll.one {C : Bc} {X : Addr → Prop} {H : Hp} {vs : List V} {a : Dt} (h : BorAll C X H vs [a]) : ∃ v, vs = [v] ∧ Bor C X H H v a := by
  cases h with
  | cons a r => cases r; exact ⟨_, rfl, a⟩
theorem BorAll.two {C : Bc} {X : Addr → Prop} {H : Hp} {vs : List V} {a b : Dt} (h : BorAll C X H vs [a, b]) : ∃ v u, vs = [v, u] ∧ Bor C X H H v a ∧ Bor C X H H u b := by
  cases h with
  | cons a r =>
    obtain ⟨u, rfl, b⟩ := r.one
    exact ⟨_, _, rfl, a, b⟩
/-! len -/
def rLenD : List V → Hp → VK → Prop := fun xs H Q => ∃ a kvs, xs = [V.ref a] ∧ H a = some (.dK kvs) ∧ Q (.int kvs.length) H
def rLenSeq (K : PySem.W.Frag) : List V → Hp → VK → Prop := fun xs H Q => ∃ p ys, xs = [.ref p] ∧ (SqL K H p ys ∨ SqT K H p ys) ∧ Q (.int ys.length) H
def rLenStr : List V → Hp → VK → Prop := fun xs H Q => ∃ z, xs = [.str z] ∧ z.length ≤ sizeLine ∧ Q (.int z.length) H
def rLenU (K : PySem.W.Frag) : List V → Hp → VK → Prop := fun xs H Q => rLenSeq K xs H Q ∨ (rLenStr xs H Q ∨ rLenD xs H Q)
theorem call_lenU {X : Cx} {K : PySem.W.Frag} (e : X.K = K) : CallR X (.builtin "len") (rLenU K) := e ▸ CallR.or (r := rLenSeq X.K) call_len_seq (CallR.or (r := rLenStr) call_len_str call_lenD)
def dLen : DL := fun ds Q => match ds with
  | [.lst xs] => Q (.int xs.length)
  | [.tup xs] => Q (.int xs.length)
  | [.str z] => z.length ≤ LINE ∧ Q (.int z.length)
  | [.dk ks _] => Q (.int ks.length)
  | _ => False
section
variable {C : Bc}
theorem cg_len : CallG Cln C (rLenU C.K) dLen := by
  intro X env σ H vs ds Q Qd rp ra he q
  unfold dLen at he
  split at he
  · obtain ⟨v, rfl, r1⟩ := ra.one
    obtain ⟨p, vs, rfl, h1, a1⟩ := r1.lst
    exact .inl ⟨p, vs, rfl, .inl (.inl (.inl h1)), by rw [a1.length]; exact q _ _ H (.refl H) (.int _) he⟩
  · obtain ⟨v, rfl, r1⟩ := ra.one
    obtain ⟨p, vs, rfl, h1, a1⟩ := r1.tup
    exact .inl ⟨p, vs, rfl, .inr (.inl (.inl h1)), by rw [a1.length]; exact q _ _ H (.refl H) (.int _) he⟩
  · obtain ⟨v, rfl, r1⟩ := ra.one
    exact .inr (.inl ⟨_, by rw [r1.str], by rw [sizeLine_eq]; exact he.1, q _ _ H (.refl H) (.int _) he.2⟩)
  · obtain ⟨v, rfl, r1⟩ := ra.one
    obtain ⟨p, vs, rfl, h1, l, a1⟩ := r1.dk
    refine .inr (.inr ⟨p, _, rfl, h1, ?_⟩)
    rw [List.length_zip, l, Nat.min_self, ← l]
    exact q _ _ H (.refl H) (.int _) he
  · exact he.elim
end
/-! int, bool, str, abs -/
def rInt1 : List V → Hp → VK → Prop := fun xs H Q => (∃ i, xs = [.int i] ∧ Q (.int i) H) ∨ ∃ k, xs = [.bl k] ∧ Q (.int (if k then 1 else 0)) H
def rIntS : List V → Hp → VK → Prop := fun xs H Q => ∃ a n, xs = [.str a] ∧ PySem.intText? a = some n ∧ a.length ≤ 640 ∧ Q (.int n) H
def rIntU : List V → Hp → VK → Prop := fun xs H Q => rInt1 xs H Q ∨ rIntS xs H Q
theorem call_intU {X : Cx} : CallR X (.type "int") rIntU := CallR.or (r := rInt1) (r' := rIntS) call_int1 call_int_str
def dInt : DL := fun ds Q => match ds with
  | [.int i] => Q (.int i)
  | [.bl k] => Q (.int (if k then 1 else 0))
  | [.str z] => z.length ≤ 640 ∧ ∃ n, PySem.intText? z = some n ∧ Q (.int n)
  | _ => False
def dStr : DL := fun ds Q => match ds with
  | [.int i] => i.natAbs.log2 < 1920 ∧ Q (.str (toString i))
  | _ => False
def dAbs : DL := fun ds Q => match ds with
  | [.int i] => Q (.int (if i < 0 then -i else i))
  | _ => False
def rMin2 : List V → Hp → VK → Prop := fun xs H Q => ∃ i j, xs = [.int i, .int j] ∧ Q (.int (if j < i then j else i)) H
def dMax2 : DL := fun ds Q => match ds with
  | [.int i, .int j] => Q (.int (if j > i then j else i))
  | _ => False
def dMin2 : DL := fun ds Q => match ds with
  | [.int i, .int j] => Q (.int (if j < i then j else i))
  | _ => False
theorem call_min2U {X : Cx} (hc : X.calm = true) : CallR X (.builtin "min") rMin2 := call_min2 hc
section
variable {C : Bc}
theorem cg_int : CallG Cln C rIntU dInt := by
  intro X env σ H vs ds Q Qd rp ra he q
  unfold dInt at he
  split at he
  · obtain ⟨v, rfl, r1⟩ := ra.one
    exact .inl (.inl ⟨_, by rw [r1.int], q _ _ H (.refl H) (.int _) he⟩)
  · obtain ⟨v, rfl, r1⟩ := ra.one
    exact .inl (.inr ⟨_, by rw [r1.bl], q _ _ H (.refl H) (.int _) he⟩)
  · obtain ⟨v, rfl, r1⟩ := ra.one
    obtain ⟨h1, n, h2, he⟩ := he
    exact .inr ⟨_, n, by rw [r1.str], h2, h1, q _ _ H (.refl H) (.int _) he⟩
  · exact he.elim
theorem cg_min2 : CallG Cln C rMin2 dMin2 := by
  intro X env σ H vs ds Q Qd rp ra he q
  unfold dMin2 at he
  split at he
  · obtain ⟨v, u, rfl, r1, r2⟩ := ra.two
    exact ⟨_, _, by rw [r1.int, r2.int], q _ _ H (.refl H) (.int _) he⟩
  · exact he.elim
end
/-! tuple, list -/
def rTupOf (K : PySem.W.Frag) : List V → Hp → VK → Prop := fun xs H Q => ∃ p ys, xs = [.ref p] ∧ ((SqL K H p ys ∧ ∀ l, H l = none → Q (.ref l) (upd H l (.tup ys))) ∨ (SqT K H p ys ∧ Q (.ref p) H))
theorem call_tupU {X : Cx} {K : PySem.W.Frag} (e : X.K = K) : CallR X (.type "tuple") (rTupOf K) := e ▸ call_tuple_of
def dTupOf : DL := fun ds Q => match ds with
  | [.lst xs] => Q (.tup xs)
  | [.tup xs] => Q (.tup xs)
  | _ => False
def rLstOf (K : PySem.W.Frag) : List V → Hp → VK → Prop := fun xs H Q => ∃ p ys, xs = [.ref p] ∧ (SqL K H p ys ∨ SqT K H p ys) ∧ ∀ l, H l = none → Q (.ref l) (upd H l (.lst ys))
theorem call_lstU {X : Cx} {K : PySem.W.Frag} (e : X.K = K) : CallR X (.type "list") (rLstOf K) := e ▸ call_list_of
def dLstOf : DL := fun ds Q => match ds with
  | [.lst xs] => Q (.lst xs)
  | [.tup xs] => Q (.lst xs)
  | _ => False
section
variable {C : Bc}
theorem cg_tup : CallG Cln C (rTupOf C.K) dTupOf := by
  intro X env σ H vs ds Q Qd rp ra he q
  unfold dTupOf at he
  split at he
  · obtain ⟨v, rfl, r1⟩ := ra.one
    obtain ⟨p, vs, rfl, h1, a1⟩ := r1.lst
    exact ⟨p, vs, rfl, .inl ⟨.inl (.inl h1), fun l hl => q _ _ _ (.upd hl) (cln_new rp hl a1) he⟩⟩
  · obtain ⟨v, rfl, r1⟩ := ra.one
    obtain ⟨p, vs, rfl, h1, a1⟩ := r1.tup
    refine ⟨p, vs, rfl, .inr ⟨.inl (.inl h1), q _ _ H (.refl H) ?_ he⟩⟩
    rcases r1 with r1 | ⟨_, _, _, _, e2, _⟩
    · exact r1
    · cases e2
  · exact he.elim
theorem cg_lst : CallG Fsh C (rLstOf C.K) dLstOf := by
  intro X env σ H vs ds Q Qd rp ra he q
  unfold dLstOf at he
  split at he
  · obtain ⟨v, rfl, r1⟩ := ra.one
    obtain ⟨p, vs, rfl, h1, a1⟩ := r1.lst
    exact ⟨p, vs, rfl, .inl (.inl (.inl h1)), fun l hl => q _ _ _ (.upd hl) (fsh_new rp hl a1) he⟩
  · obtain ⟨v, rfl, r1⟩ := ra.one
    obtain ⟨p, vs, rfl, h1, a1⟩ := r1.tup
    exact ⟨p, vs, rfl, .inr (.inl (.inl h1)), fun l hl => q _ _ _ (.upd hl) (fsh_new rp hl a1) he⟩
  · exact he.elim
end
/-! sum -/
def dSum : DL := fun ds Q => match ds with
  | [.lst xs] => ∃ ns : List Int, xs = ns.map .int ∧ Q (.int ns.sum)
  | [.tup xs] => ∃ ns : List Int, xs = ns.map .int ∧ Q (.int ns.sum)
  | _ => False
section
variable {C : Bc}
theorem cg_sum : CallG Cln C (rSumA C.K) dSum := by
  intro X env σ H vs ds Q Qd rp ra he q
  unfold dSum at he
  split at he
  · obtain ⟨v, rfl, r1⟩ := ra.one
    obtain ⟨ns, rfl, he⟩ := he
    obtain ⟨p, vs, rfl, h1, a1⟩ := r1.lst
    rw [a1.ints_of] at h1
    exact ⟨p, ns, rfl, .inl (.inl (.inl h1)), q _ _ H (.refl H) (.int _) he⟩
  · obtain ⟨v, rfl, r1⟩ := ra.one
    obtain ⟨ns, rfl, he⟩ := he
    obtain ⟨p, vs, rfl, h1, a1⟩ := r1.tup
    rw [a1.ints_of] at h1
    exact ⟨p, ns, rfl, .inr (.inl (.inl h1)), q _ _ H (.refl H) (.int _) he⟩
  · exact he.elim
end
/-! max, min, sorted of a list of whole numbers -/
section
variable {C : Bc}
end
/-! isinstance -/
def Dt.kind : Dt → Option String
  | .non => some "NoneType"
  | .bl _ => some "bool"
  | .int _ => some "int"
  | .str _ => some "str"
  | .tup _ => some "tuple"
  | .lst _ => some "list"
  | .dk _ _ => some "dict"
  | .dt _ _ => some "dict"
  | _ => none
theorem Bor.tyx {C : Bc} {X : Addr → Prop} {H H1 : Hp} {v : V} {d : Dt} {n : String} (h : Bor C X H1 H v d) (e : d.kind = some n) : TyX C.K H v (.type n) := by
  cases d with
  | non => cases e; rw [h.non]; exact .base .non
  | bl b => cases e; rw [h.bl]; exact .base (.bl b)
  | int b => cases e; rw [h.int]; exact .base (.int b)
  | str b => cases e; rw [h.str]; exact .base (.str b)
  | tup xs => cases e; obtain ⟨p, vs, rfl, h1, _⟩ := h.tup; exact .base (.tup h1)
  | lst xs => cases e; obtain ⟨p, vs, rfl, h1, _⟩ := h.lst; exact .base (.lst h1)
  | dk ks ds => cases e; obtain ⟨p, vs, rfl, h1, _⟩ := h.dk; exact .base (.dK h1)
  | dt ks ds => cases e; obtain ⟨p, vs, rfl, h1, _⟩ := h.dt; exact .base (.dT h1)
  | ins _ _ _ => cases e
  | raw _ => cases e
/-- is of this built-in kind -/
def Dt.isa (T : String) (d : Dt) : Bool := match d.kind with
  | some n => n == T || (n == "bool" && T == "int")
  | none => false
def Known (T : String) : Prop := ∀ n, n ∈ ["NoneType", "bool", "int", "str", "tuple", "list", "dict"] → kitB n T = some (n == T || (n == "bool" && T == "int"))
theorem Dt.kind_mem {d : Dt} {n : String} (e : d.kind = some n) : n ∈ ["NoneType", "bool", "int", "str", "tuple", "list", "dict"] := by
  cases d <;> first | (cases e; done) | (injection e with e; subst e; decide)
theorem known_int : Known "int" := by unfold Known; decide +kernel
theorem known_bool : Known "bool" := by unfold Known; decide +kernel
theorem known_tuple : Known "tuple" := by unfold Known; decide +kernel
theorem known_list : Known "list" := by unfold Known; decide +kernel
def dIsi (T : String) : DL := fun ds Q => match ds with
  | [x, .raw (.ty T')] => T' = T ∧ x.kind.isSome = true ∧ Q (.bl (x.isa T))
  | _ => False
def dIsi2 (T U : String) : DL := fun ds Q => match ds with
  | [x, .tup [.raw (.ty T'), .raw (.ty U')]] => T' = T ∧ U' = U ∧ x.kind.isSome = true ∧ Q (.bl (x.isa T || x.isa U))
  | _ => False
theorem call_isiU {X : Cx} {K : PySem.W.Frag} (e : X.K = K) : CallR X (.builtin "isinstance") (rIsi K) := e ▸ call_isi
theorem call_isiTU {X : Cx} {K : PySem.W.Frag} (e : X.K = K) : CallR X (.builtin "isinstance") (rIsiT K) := e ▸ call_isiT
section
variable {C : Bc}
theorem cg_isi {T : String} (k : Known T) : CallG Cln C (rIsi C.K) (dIsi T) := by
  intro X env σ H vs ds Q Qd rp ra he q
  unfold dIsi at he
  split at he
  · rename_i x T'
    obtain ⟨rfl, hk, he⟩ := he
    obtain ⟨v, u, rfl, r1, r2⟩ := ra.two
    obtain ⟨n, hn⟩ := Option.isSome_iff_exists.mp hk
    have k1 := k n (Dt.kind_mem hn)
    have e : ∀ T, x.isa T = (n == T || (n == "bool" && T == "int")) := fun T => by unfold Dt.isa; rw [hn]
    rw [e] at he
    refine ⟨v, _, _, _, _, by rw [r2.raw], .ty _, r1.tyx hn, kit_ty k1, q _ _ H (.refl H) (.bl _) he⟩
  · exact he.elim
theorem cg_isi2 {T U : String} (k : Known T) (k2 : Known U) : CallG Cln C (rIsiT C.K) (dIsi2 T U) := by
  intro X env σ H vs ds Q Qd rp ra he q
  unfold dIsi2 at he
  split at he
  · obtain ⟨rfl, rfl, hk, he⟩ := he
    obtain ⟨v, u, rfl, r1, r2⟩ := ra.two
    obtain ⟨n, hn⟩ := Option.isSome_iff_exists.mp hk
    obtain ⟨p, vs, rfl, h1, a1⟩ := r2.tup
    cases a1 with
    | cons d1 a1 =>
      cases a1 with
      | cons d2 a2 =>
        cases a2
        rw [d1.flat rfl, d2.flat rfl] at h1
        have k1 := k n (Dt.kind_mem hn)
        have k3 := k2 n (Dt.kind_mem hn)
        refine ⟨v, p, _, _, _, _, rfl, h1, .cons (.ty _) (.cons (.ty _) .nil), r1.tyx hn, kitAny_cons (b := _) (kit_ty k1) (fun e1 => kitAny_cons (kit_ty k3) (r := _) (fun e2 => ?_) fun e2 => ?_) fun e1 => ?_, q _ _ H (.refl H) (.bl _) he⟩
        · unfold Dt.isa; rw [hn]; dsimp only; rw [e1, e2]; rfl
        · unfold Dt.isa; rw [hn]; dsimp only; rw [e1, e2]; rfl
        · unfold Dt.isa; rw [hn]; dsimp only; rw [e1]; rfl
  · exact he.elim
end
end Mine

namespace Mine
open PySem PySem.Spec PyProof.Rows L2
/-! ### what is walked -/
/-- where what was seen at an iterator's making is seen still: in loops, in comprehensions -/
abbrev SS := Bc → (Addr → Prop) → Hp → (Addr → Prop) → Hp → Prop
def Strong : SS := fun C X H1 Y H => Same (vis H1 X) (vis H Y) ∧ ∀ a, Y a → ∃ o, H a = some o
def Weak : SS := fun C X H1 Y H => Frm C.hd H1 H ∧ (∀ h c, C.hd = some (h, c) → X h) ∧ (∀ a, Y a → X a ∨ H1 a = none) ∧ ∀ a, Y a → ∃ o, H a = some o
theorem Weak.strong {C : Bc} {X Y : Addr → Prop} {H1 H : Hp} (w : Weak C X H1 Y H) : Strong C X H1 Y H := by
  obtain ⟨f, hx, hy, al⟩ := w
  refine ⟨fun a o e => ?_, al⟩
  obtain ⟨n, h⟩ := vis_of e
  refine vis_mk (fun y => (hy a y).elim n fun z => by rw [z] at h; cases h) (f.1 a o h fun h' c e' q => n (q ▸ hx h' c e'))
/-- the iterator J yields the data ds -/
def WalkD (S : SS) (C : Bc) (X : Addr → Prop) (H1 : Hp) (J : It) (ds : List Dt) : Prop := ∀ (Y : Addr → Prop) (i : Nat) (H : Hp), S C X H1 Y H →
  (i < ds.length → J.go i H ∧ ∀ x H', J.yld i H x H' → Same H H' ∧ ∃ d, ds[i]? = some d ∧ Den C.K (vis H' Y) x d) ∧ (i = ds.length → J.stop i H)
theorem WalkD.weak {C : Bc} {X : Addr → Prop} {H1 : Hp} {J : It} {ds : List Dt} (w : WalkD Strong C X H1 J ds) : WalkD Weak C X H1 J ds := fun Y i H s => w Y i H s.strong
def DIg (S : SS) (C : Bc) (wi : TI) (e : DAX) : Prop := ∀ X env σ H (R : It → Hp → Prop) (Qd : List Dt → Prop) (Qx : Xc → Prop), Rep C X env σ H → e env Qd Qx →
  (∀ ds J H1, Frm C.hd H H1 → WalkD S C X H1 J ds → Qd ds → R J H1) → XOk C X σ H Qx → wi σ H R
theorem DIg.weak {C : Bc} {wi : TI} {e : DAX} (h : DIg Strong C wi e) : DIg Weak C wi e := fun X env σ H R Qd Qx rp he q x => h X env σ H R Qd Qx rp he (fun ds J H1 f w h => q ds J H1 f w.weak h) x
def eSeq (a : DX) : DAX := fun env Q E => a env (fun d => match d with
  | .lst xs => Q xs
  | .tup xs => Q xs
  | _ => False) E
def eRng1 (a : DAX) : DAX := fun env Q E => a env (fun ds => match ds with
  | [.int j] => (-(2 ^ 62) ≤ j ∧ j < 2 ^ 62) ∧ Q ((List.range j.toNat).map fun i => .int (i : Nat))
  | _ => False) E
def eRng2 (a : DAX) : DAX := fun env Q E => a env (fun ds => match ds with
  | [.int i, .int j] => (-(2 ^ 62) ≤ i ∧ i < 2 ^ 62 ∧ -(2 ^ 62) ≤ j ∧ j < 2 ^ 62) ∧ Q ((List.range (j - i).toNat).map fun k => .int (i + (k : Nat)))
  | _ => False) E
def eEnum (a : DAX) : DAX := fun env Q E => a env (fun ds => match ds with
  | [.lst xs] => Q (xs.mapIdx fun i x => .tup [.int (i : Nat), x])
  | [.tup xs] => Q (xs.mapIdx fun i x => .tup [.int (i : Nat), x])
  | _ => False) E
section
variable {C : Bc} {X : Addr → Prop} {H1 : Hp}
theorem walk_lst {S : SS} {p : Addr} {vs : List V} {ds : List Dt} (h : ∀ Y H, S C X H1 Y H → H p = some (.lst vs) ∧ DenAll C.K (vis H Y) vs ds) : WalkD S C X H1 (Itl C.K p) ds := by
  intro Y i H s
  obtain ⟨h1, a⟩ := h Y H s
  have hl := a.length
  refine ⟨fun hi => ⟨⟨vs, vs[i], .inl (.inl h1), by simp [hl ▸ hi]⟩, fun x H' ⟨e, hx⟩ => ?_⟩, fun hi => ⟨vs, .inl (.inl h1), by omega⟩⟩
  subst e
  exact ⟨Same.refl _, a.getV (hx vs (.inl (.inl h1)))⟩
theorem walk_tpl {S : SS} {p : Addr} {vs : List V} {ds : List Dt} (h : ∀ Y H, S C X H1 Y H → H p = some (.tup vs) ∧ DenAll C.K (vis H Y) vs ds) : WalkD S C X H1 (Itt C.K p) ds := by
  intro Y i H s
  obtain ⟨h1, a⟩ := h Y H s
  have hl := a.length
  refine ⟨fun hi => ⟨⟨vs, vs[i], .inl (.inl h1), by simp [hl ▸ hi]⟩, fun x H' ⟨e, hx⟩ => ?_⟩, fun hi => ⟨vs, .inl (.inl h1), by omega⟩⟩
  subst e
  exact ⟨Same.refl _, a.getV (hx vs (.inl (.inl h1)))⟩
/-- how a seen list, a seen tuple stays -/
theorem cln_lst {v : V} {ds : List Dt} (h : Den C.K (vis H1 X) v (.lst ds)) : ∃ p vs, v = .ref p ∧ H1 p = some (.lst vs) ∧ ∀ Y H, Strong C X H1 Y H → H p = some (.lst vs) ∧ DenAll C.K (vis H Y) vs ds := by
  cases h with
  | lst h a => exact ⟨_, _, rfl, vis_sub _ _ h, fun Y H s => ⟨vis_sub _ _ (s.1 _ _ h), a.mono s.1⟩⟩
theorem cln_tup {v : V} {ds : List Dt} (h : Den C.K (vis H1 X) v (.tup ds)) : ∃ p vs, v = .ref p ∧ H1 p = some (.tup vs) ∧ ∀ Y H, Strong C X H1 Y H → H p = some (.tup vs) ∧ DenAll C.K (vis H Y) vs ds := by
  cases h with
  | tup h a => exact ⟨_, _, rfl, vis_sub _ _ h, fun Y H s => ⟨vis_sub _ _ (s.1 _ _ h), a.mono s.1⟩⟩
theorem bor_lst {H0 : Hp} {v : V} {ds : List Dt} (h : Bor C X H0 H1 v (.lst ds)) : ∃ p vs, v = .ref p ∧ H1 p = some (.lst vs) ∧ ∀ Y H, Weak C X H1 Y H → H p = some (.lst vs) ∧ DenAll C.K (vis H Y) vs ds := by
  rcases h with h | ⟨p, vs, ds, rfl, e2, n, h1, h2⟩
  · obtain ⟨p, vs, e1, h1, k⟩ := cln_lst h
    exact ⟨p, vs, e1, h1, fun Y H s => k Y H s.strong⟩
  · cases e2
    exact ⟨p, vs, rfl, h1, fun Y H s => ⟨s.1.1 p _ h1 n, h2.mono s.strong.1⟩⟩
theorem bor_tup {H0 : Hp} {v : V} {ds : List Dt} (h : Bor C X H0 H1 v (.tup ds)) : ∃ p vs, v = .ref p ∧ H1 p = some (.tup vs) ∧ ∀ Y H, Weak C X H1 Y H → H p = some (.tup vs) ∧ DenAll C.K (vis H Y) vs ds := by
  rcases h with h | ⟨p, vs, ds, rfl, e2, n, h1, h2⟩
  · obtain ⟨p, vs, e1, h1, k⟩ := cln_tup h
    exact ⟨p, vs, e1, h1, fun Y H s => k Y H s.strong⟩
  · cases e2
end
/-- what a source must be: with all that is let, or a list of one's own -/
class Src (R : RR) (S : SS) : Prop where
  lst : ∀ {C : Bc} {X : Addr → Prop} {H0 H1 : Hp} {v : V} {ds : List Dt}, R C X H0 H1 v (.lst ds) → ∃ p vs, v = .ref p ∧ H1 p = some (.lst vs) ∧ ∀ Y H, S C X H1 Y H → H p = some (.lst vs) ∧ DenAll C.K (vis H Y) vs ds
  tup : ∀ {C : Bc} {X : Addr → Prop} {H0 H1 : Hp} {v : V} {ds : List Dt}, R C X H0 H1 v (.tup ds) → ∃ p vs, v = .ref p ∧ H1 p = some (.tup vs) ∧ ∀ Y H, S C X H1 Y H → H p = some (.tup vs) ∧ DenAll C.K (vis H Y) vs ds
  al : ∀ {C : Bc} {X Y : Addr → Prop} {H1 H : Hp}, S C X H1 Y H → ∀ a, Y a → ∃ o, H a = some o
instance : Src Cln Strong := ⟨fun h => cln_lst h, fun h => cln_tup h, fun s => s.2⟩
instance : Src Bor Weak := ⟨fun h => bor_lst h, fun h => bor_tup h, fun s => s.2.2.2⟩
section
variable {C : Bc} {R : RR} {S : SS} {tl : TE} {ta : TA} {el : DX} {ea : DAX}
theorem di_seq [Src R S] (h : DEg R C tl el) : DIg S C (iSeq C.K tl) (eSeq el) := by
  intro X env σ H Rr Qd Qx rp he q x
  refine h X env σ H _ _ Qx rp he (fun d v H1 f1 r1 he1 => ?_) x
  split at he1
  · obtain ⟨p, vs, rfl, h1, k⟩ := Src.lst (S := S) r1
    exact ⟨p, vs, rfl, .inl ⟨.inl (.inl h1), q _ _ H1 f1 (walk_lst k) he1⟩⟩
  · obtain ⟨p, vs, rfl, h1, k⟩ := Src.tup (S := S) r1
    exact ⟨p, vs, rfl, .inr ⟨.inl (.inl h1), q _ _ H1 f1 (walk_tpl k) he1⟩⟩
  · exact he1.elim
theorem walk_rng {X : Addr → Prop} {H1 : Hp} (lo : Int) (n : Nat) : WalkD S C X H1 (Itr lo n) ((List.range n).map fun k => .int (lo + (k : Nat))) := by
  intro Y i H s
  rw [List.length_map, List.length_range]
  refine ⟨fun hi => ⟨hi, fun x H' ⟨e, hx⟩ => ?_⟩, fun hi => Nat.le_of_eq hi.symm⟩
  subst e hx
  exact ⟨Same.refl _, _, by rw [List.getElem?_map, List.getElem?_range hi]; rfl, .int _⟩
theorem di_rng1 (h : DAb C ta ea) : DIg S C (iRng1 ta) (eRng1 ea) := by
  intro X env σ H Rr Qd Qx rp he q x
  refine h X env σ H _ _ Qx rp he (fun ds vs H1 f1 ra he1 => ?_) x
  split at he1
  · obtain ⟨v, rfl, r1⟩ := ra.one
    obtain ⟨⟨c1, c2⟩, he1⟩ := he1
    refine ⟨_, by rw [r1.int], c1, c2, q _ _ H1 f1 ?_ he1⟩
    have e : ∀ n : Nat, WalkD S C X H1 (Itr 0 n) ((List.range n).map fun i => .int (i : Nat)) := fun n => by
      have := walk_rng (S := S) (C := C) (X := X) (H1 := H1) 0 n
      simpa using this
    exact e _
  · exact he1.elim
theorem walk_pair {X : Addr → Prop} {H1 : Hp} {J : It} {n : Nat} {G : Hp → Prop} {xs : List V} {ds : List Dt} (hal : ∀ {Y : Addr → Prop} {H : Hp}, S C X H1 Y H → ∀ a, Y a → ∃ o, H a = some o) (hn : ds.length = n)
    (w : Walk J n G (YPair (fun i => some (.int (i : Nat))) (fun i => xs[i]?))) (hs : ∀ i H, n ≤ i → G H → J.stop i H) (k : ∀ Y H, S C X H1 Y H → G H ∧ DenAll C.K (vis H Y) xs ds) :
    WalkD S C X H1 J (ds.mapIdx fun i x => .tup [.int (i : Nat), x]) := by
  intro Y i H s
  obtain ⟨g, a⟩ := k Y H s
  rw [List.length_mapIdx]
  refine ⟨fun hi => ⟨w.goes i H (hn ▸ hi) g, fun x H' hy => ?_⟩, fun hi => hs i H (by omega) g⟩
  obtain ⟨T, v, y, rfl, hT, rfl, ev, ey⟩ := w.yields i H x H' (hn ▸ hi) g hy
  dsimp only at ev ey
  cases ev
  obtain ⟨d, e, den⟩ := a.getV ey
  have nT : ¬ Y T := fun y => by
    obtain ⟨o, q⟩ := hal s T y
    rw [hT] at q; cases q
  refine ⟨same_upd hT, _, by rw [List.getElem?_mapIdx, e]; rfl, .tup (vis_mk nT upd_same) (.cons (.int _) (.cons (den.mono fun b o e => ?_) .nil))⟩
  obtain ⟨n1, e1⟩ := vis_of e
  exact vis_mk n1 (same_upd hT _ _ e1)
theorem di_enum [Src R S] (h : DEg R C tl el) : DIg S C (iEnumA C.K (tCons tl tNil)) (eEnum (eCons el eNil)) := by
  intro X env σ H Rr Qd Qx rp he q x
  refine h X env σ H _ _ Qx rp he (fun d v H1 f1 r1 he1 => ?_) x
  show ∃ a xs, [v] = [.ref a] ∧ _
  have he1 : (match [d] with
    | [.lst xs] => Qd (xs.mapIdx fun i x => .tup [.int (i : Nat), x])
    | [.tup xs] => Qd (xs.mapIdx fun i x => .tup [.int (i : Nat), x])
    | _ => False) := he1
  split at he1
  · rename_i e
    cases e
    obtain ⟨p, vs, rfl, h1, k⟩ := Src.lst (S := S) r1
    refine ⟨p, vs, rfl, .inl ⟨.inl (.inl h1), q _ _ H1 f1 ?_ he1⟩⟩
    intro Y i H2 s
    exact walk_pair (G := fun H => SqL C.K H p vs) (fun s => Src.al (R := R) s) (k Y H2 s).2.length.symm walk_enum (fun i H hi g => ⟨vs, g, hi⟩) (fun Y H s => ⟨.inl (.inl (k Y H s).1), (k Y H s).2⟩) Y i H2 s
  · rename_i e
    cases e
    obtain ⟨p, vs, rfl, h1, k⟩ := Src.tup (S := S) r1
    refine ⟨p, vs, rfl, .inr ⟨.inl (.inl h1), q _ _ H1 f1 ?_ he1⟩⟩
    intro Y i H2 s
    exact walk_pair (G := fun H => SqT C.K H p vs) (fun s => Src.al (R := R) s) (k Y H2 s).2.length.symm walk_enumT (fun i H hi g => ⟨vs, g, hi⟩) (fun Y H s => ⟨.inl (.inl (k Y H s).1), (k Y H s).2⟩) Y i H2 s
  · exact he1.elim
end
/-! ### targets -/
abbrev DGX := Dt → List Sl → (List Sl → Prop) → Prop
def DG (C : Bc) (g : TG) (js : List Nat) (f : DGX) : Prop := ∀ X env σ H x d (Q : L2.St → Hp → Prop) (Qd : List Sl → Prop), Rep C X env σ H → Den C.K (vis H X) x d → f d env Qd →
  (∀ env' σ', Rep C X env' σ' H → Qd env' → σ'.length = σ.length → (∀ k, k ∉ js → σ'[k]? = σ[k]?) → (∀ (k : Nat) (xs : Ow), env'[k]? = some (Sl.own xs) → env[k]? = some (Sl.own xs) ∧ σ'[k]? = σ[k]?) → Q σ' H) → g x σ H Q
def gD (j : Nat) : DGX := fun d env Q => Q (env.set j (.d d))
def gD2 (i j : Nat) : DGX := fun d env Q => match d with
  | .tup [a, b] => Q ((env.set i (.d a)).set j (.d b))
  | _ => False
def gD3 (i j k : Nat) : DGX := fun d env Q => match d with
  | .tup [a, b, c] => Q (((env.set i (.d a)).set j (.d b)).set k (.d c))
  | _ => False
section
variable {C : Bc} {X : Addr → Prop} {env : List Sl} {σ : L2.St} {H : Hp}
theorem Rep.set (r : Rep C X env σ H) (j : Nat) {x : V} {d : Dt} (h : Den C.K (Mine.vis H X) x d) : Rep C X (env.set j (.d d)) (σ.set j (.some x)) H where
  len := by rw [List.length_set, List.length_set, r.len]
  sup := r.sup
  new := r.new
  al := r.al
  frm := r.frm
  hands := r.hands
  slot := fun i s e => by
    rw [List.getElem?_set] at e ⊢
    by_cases c : j = i
    · subst c
      rw [if_pos rfl] at e ⊢
      by_cases hl : j < env.length
      · rw [if_pos hl] at e
        rw [if_pos (r.len ▸ hl)]
        cases e
        exact ⟨_, rfl, x, rfl, h⟩
      · rw [if_neg hl] at e; cases e
    · rw [if_neg c] at e ⊢
      exact r.slot i s e
  inj := fun i k xs ys n e1 e2 => by
    rw [List.getElem?_set] at e1 e2
    have a : j ≠ i := fun c => by
      subst c
      rw [if_pos rfl] at e1
      split at e1 <;> cases e1
    have b : j ≠ k := fun c => by
      subst c
      rw [if_pos rfl] at e2
      split at e2 <;> cases e2
    rw [if_neg a] at e1
    rw [if_neg b] at e2
    rw [List.getElem?_set, List.getElem?_set, if_neg a, if_neg b]
    exact r.inj i k xs ys n e1 e2
  one := r.one.set fun _ _ _ z => by cases z
theorem own_set {env : List Sl} {σ : L2.St} {j : Nat} {x : Dt} {o : Option V} (k : Nat) (xs : Ow) (e : (env.set j (.d x))[k]? = some (Sl.own xs)) : env[k]? = some (Sl.own xs) ∧ (σ.set j o)[k]? = σ[k]? := by
  rw [List.getElem?_set] at e
  have a : j ≠ k := fun c => by
    subst c
    rw [if_pos rfl] at e
    split at e <;> cases e
  rw [if_neg a] at e
  exact ⟨e, by rw [List.getElem?_set, if_neg a]⟩
theorem dg_name (j : Nat) : DG C (gName j) [j] (gD j) := by
  intro X env σ H x d Q Qd rp hd he q
  refine q _ _ (rp.set j hd) he (by rw [List.length_set]) (fun k hk => ?_) own_set
  have : j ≠ k := fun z => hk (by simp [z])
  rw [List.getElem?_set, if_neg this]
theorem Den.tupI {K : PySem.W.Frag} {H : Hp} {v : V} {ds : List Dt} (h : Den K H v (.tup ds)) : ∃ p vs, v = .ref p ∧ H p = some (.tup vs) ∧ DenAll K H vs ds := by
  cases h with
  | tup h a => exact ⟨_, _, rfl, h, a⟩
theorem dg_two (i j : Nat) : DG C (gTup C.K 2 (gCons (gName i) (gCons (gName j) gNil))) [i, j] (gD2 i j) := by
  intro X env σ H x d Q Qd rp hd he q
  unfold gD2 at he
  split at he
  · obtain ⟨p, vs, rfl, h1, a⟩ := hd.tupI
    cases a with
    | @cons v1 _ _ _ a1 a =>
      cases a with
      | @cons v2 _ _ _ a2 a =>
        cases a
        refine ⟨p, _, rfl, .inl (.inl (vis_sub _ _ h1)), rfl, v1, _, rfl, v2, _, rfl, rfl, ?_⟩
        refine q _ _ ((rp.set i a1).set j a2) he (by rw [List.length_set, List.length_set]) (fun k hk => ?_) (fun k xs e => by
          obtain ⟨a1, b1⟩ := own_set (σ := σ.set i (some v1)) (o := some v2) k xs e
          obtain ⟨a2, b2⟩ := own_set (σ := σ) (o := some v1) k xs a1
          exact ⟨a2, b1.trans b2⟩)
        have e1 : i ≠ k := fun z => hk (by simp [z])
        have e2 : j ≠ k := fun z => hk (by simp [z])
        rw [List.getElem?_set, if_neg e2, List.getElem?_set, if_neg e1]
  · exact he.elim
/-! ### comprehensions -/
def wipeS (env : List Sl) : List Nat → List Sl
  | [] => env
  | v :: vs => (wipeS env vs).set v .no
theorem Rep.unset (r : Rep C X env σ H) (j : Nat) (o : Option V) : Rep C X (env.set j .no) (σ.set j o) H where
  len := by rw [List.length_set, List.length_set, r.len]
  sup := r.sup
  new := r.new
  al := r.al
  frm := r.frm
  hands := r.hands
  slot := fun i s e => by
    rw [List.getElem?_set] at e ⊢
    by_cases c : j = i
    · subst c
      rw [if_pos rfl] at e ⊢
      by_cases hl : j < env.length
      · rw [if_pos hl] at e
        rw [if_pos (r.len ▸ hl)]
        cases e
        exact ⟨_, rfl, trivial⟩
      · rw [if_neg hl] at e; cases e
    · rw [if_neg c] at e ⊢
      exact r.slot i s e
  inj := fun i k xs ys n e1 e2 => by
    rw [List.getElem?_set] at e1 e2
    have a : j ≠ i := fun c => by
      subst c
      rw [if_pos rfl] at e1
      split at e1 <;> cases e1
    have b : j ≠ k := fun c => by
      subst c
      rw [if_pos rfl] at e2
      split at e2 <;> cases e2
    rw [if_neg a] at e1
    rw [if_neg b] at e2
    rw [List.getElem?_set, List.getElem?_set, if_neg a, if_neg b]
    exact r.inj i k xs ys n e1 e2
  one := r.one.set fun _ _ _ z => by cases z
theorem Rep.wiped (r : Rep C X env σ H) : ∀ vs : List Nat, Rep C X (wipeS env vs) (wipe σ vs) H
  | [] => r
  | v :: vs => (r.wiped vs).unset v none
theorem wipe_at (σ : L2.St) : ∀ (vs : List Nat) (k : Nat), (wipe σ vs)[k]? = if k ∈ vs ∧ k < σ.length then some none else σ[k]?
  | [], k => by simp [wipe]
  | v :: vs, k => by
    show ((wipe σ vs).set v none)[k]? = _
    rw [List.getElem?_set, wipe_length, wipe_at σ vs k]
    by_cases c : v = k
    · subst c
      by_cases hl : v < σ.length
      · rw [if_pos rfl, if_pos hl, if_pos ⟨List.mem_cons_self, hl⟩]
      · rw [if_pos rfl, if_neg hl, if_neg fun z => hl z.2]
        exact (List.getElem?_eq_none_iff.mpr (by omega)).symm
    · rw [if_neg c]
      have e : (k ∈ v :: vs ∧ k < σ.length) ↔ (k ∈ vs ∧ k < σ.length) := by
        rw [List.mem_cons]
        constructor
        · rintro ⟨z | z, h⟩
          · exact absurd z.symm c
          · exact ⟨z, h⟩
        · rintro ⟨z, h⟩; exact ⟨.inr z, h⟩
      simp only [e]
theorem wipe_of {σ σ' : L2.St} {vs : List Nat} (hl : σ'.length = (wipe σ vs).length) (hk : ∀ k, k ∉ vs → σ'[k]? = (wipe σ vs)[k]?) : wipe σ' vs = wipe σ vs := by
  refine List.ext_getElem? fun k => ?_
  rw [wipe_length] at hl
  rw [wipe_at, wipe_at]
  by_cases c : k ∈ vs
  · by_cases h : k < σ.length
    · rw [if_pos ⟨c, by omega⟩, if_pos ⟨c, h⟩]
    · rw [if_neg fun z => h (by omega), if_neg fun z => h z.2, List.getElem?_eq_none_iff.mpr (by omega), List.getElem?_eq_none_iff.mpr (by omega)]
  · rw [if_neg fun z => c z.1, if_neg fun z => c z.1, hk k c, wipe_at, if_neg fun z => c z.1]
/-- a new thing is hidden -/
theorem Rep.hide {D : Addr} {H2 : Hp} (r : Rep C X env σ H) (n : H D = none) (f : Frm C.hd H H2) (t : ∃ o, H2 D = some o) : Rep C (fun a => X a ∨ a = D) env σ H2 := by
  have r2 := r.step f
  have nD : ∀ a o, H a = some o → a ≠ D := fun a o e => ne_of_none e n
  have sm : Same (Mine.vis H X) (Mine.vis H2 fun a => X a ∨ a = D) := fun a o e => by
    obtain ⟨n1, e1⟩ := vis_of e
    exact vis_mk (fun z => z.elim n1 (nD a o e1)) (f.1 a o e1 fun h c e' q => n1 (q ▸ r.hX h c e'))
  refine ⟨r.len, fun a z => .inl (r.sup a z), fun a z => ?_, fun a z => ?_, r2.frm, r2.hands, fun i s e => ?_, r.inj, r.one⟩
  · rcases z with z | rfl
    · exact r.new a z
    · exact .inr (r.h0 n)
  · rcases z with z | rfl
    · exact r2.al a z
    · exact t
  · obtain ⟨o, e1, q⟩ := r.slot i s e
    refine ⟨o, e1, ?_⟩
    cases s with
    | no => trivial
    | d x => obtain ⟨v, e2, h⟩ := q; exact ⟨v, e2, h.mono sm⟩
    | own xs =>
      obtain ⟨p, vs, e2, x1, x2, h1, h2⟩ := q
      exact ⟨p, vs, e2, .inl x1, x2, f.1 p _ h1 (r.nh x2), h2.mono sm⟩
    | hand => exact q
    | exc c fs => exact q.exc sm
    | ins C0 ns ds =>
      obtain ⟨p, dx, vs, e2, x1, x2, h1, l, h2⟩ := q
      exact ⟨p, dx, vs, e2, .inl x1, x2, f.1 p _ h1 (r.nh x2), l, h2.mono sm⟩
end
def lcGo (f : DGX) (tt : DTX) (te : DX) (env : List Sl) (Q : Dt → Prop) : List Dt → List Dt → Prop
  | [], acc => Q (.lst acc)
  | x :: xs, acc => f x env fun env' => tt env' (fun b => if b = true then te env' (fun y => acc.length < LINE ∧ lcGo f tt te env Q xs (acc ++ [y])) (fun _ => False) else lcGo f tt te env Q xs acc) fun _ => False
def eLc (src : DAX) (f : DGX) (tt : DTX) (te : DX) (vs : List Nat) : DX := fun env Q E => src env (fun ds => lcGo f tt te (wipeS env vs) Q ds []) E
theorem xok_no {C : Bc} {X : Addr → Prop} {σ : L2.St} {H : Hp} : XOk C X σ H fun _ => False := fun _ _ _ _ _ _ z => z.elim
theorem frm_put {C : Bc} {X : Addr → Prop} {env : List Sl} {σ : L2.St} {H1 H : Hp} {D : Addr} {o : HO} (r : Rep C X env σ H1) (n : H1 D = none) (f : Frm C.hd H1 H) : Frm C.hd H1 (upd H D o) := by
  refine ⟨fun a u e k => ?_, fun h c e x => ?_⟩
  · rw [upd_ne (ne_of_none e n)]; exact f.1 a u e k
  · have x2 := f.2 h c e x
    obtain ⟨_, _, _, _, a1, a2, _⟩ := x
    obtain ⟨cells, at_, big, mix, b1, b2, b3⟩ := x2
    exact ⟨cells, at_, big, mix, by rw [upd_ne (ne_of_none a1 n)]; exact b1, by rw [upd_ne (ne_of_none a2 n)]; exact b2, b3⟩
theorem df_lc {C : Bc} {wi : TI} {g : TG} {tt : TT} {te : TE} {vs : List Nat} {src : DAX} {f : DGX} {et : DTX} {ee : DX} (hi : DIg Weak C wi src) (hg : DG C g vs f) (ht : DT C tt et) (he : DE C te ee) : DF C (tLc wi g tt te vs) (eLc src f et ee vs) := by
  intro X env σ H Q Qd Qx rp h q x
  refine hi X env σ H _ _ Qx rp h (fun ds J H1 f1 w h1 => ?_) x
  show ∀ D, H1 D = none → Lc J g tt te vs D σ H1 Q
  intro D hD
  have rp1 := rp.step f1
  let W : Nat → Nat → Hp → Prop := fun i m H2 => m + i = ds.length ∧ Frm C.hd H1 H2 ∧ ∃ acc us, H2 D = some (.lst us) ∧ DenAll C.K (vis H2 fun a => X a ∨ a = D) us acc ∧ lcGo f et ee (wipeS env vs) Qd (ds.drop i) acc
  refine ⟨W, ⟨ds.length, rfl, .upd hD, [], [], upd_same, .nil, h1⟩, fun i m H2 ⟨hm, f2, acc, us, hD2, a2, go⟩ => ?_⟩
  have rpY : Rep C (fun a => X a ∨ a = D) env σ H2 := rp1.hide hD f2 ⟨_, hD2⟩
  have rpW := rpY.wiped vs
  have sW : Weak C X H1 (fun a => X a ∨ a = D) H2 := ⟨f2, rp1.hX, fun a z => z.imp id fun (e : a = D) => by rw [e]; exact hD, rpY.al⟩
  have hw := w _ i H2 sW
  have nh : ∀ h c, C.hd = some (h, c) → D ≠ h := fun h c e z => by
    obtain ⟨_, _, _, _, q, _⟩ := (rp1.hands h c e).2.2
    rw [z, q] at hD; cases hD
  by_cases c : i < ds.length
  · obtain ⟨g1, g2⟩ := hw.1 c
    refine .inr ⟨g1, W (i + 1) (m - 1), fun H' hW => ⟨m - 1, by omega, hW⟩, fun y H3 hy => ?_⟩
    obtain ⟨s3, d, hd, den⟩ := g2 y H3 hy
    have ed : ds.drop i = d :: ds.drop (i + 1) := by
      rw [List.drop_eq_getElem_cons c]
      congr 1
      rw [List.getElem?_eq_getElem c] at hd
      exact Option.some.inj hd
    rw [ed] at go
    have step : ∀ H5, Frm C.hd H3 H5 → Frm C.hd H1 H5 ∧ H5 D = some (.lst us) ∧ DenAll C.K (vis H5 fun a => X a ∨ a = D) us acc := fun H5 f5 => by
      have f25 : Frm C.hd H2 H5 := (Frm.same s3).trans f5
      exact ⟨f2.trans f25, f25.1 D _ hD2 nh, a2.mono (rpY.vs f25)⟩
    refine hg _ _ _ H3 y d _ _ (rpW.step (.same s3)) den go fun env' σ' rp' he' hl hk _ => ⟨wipe_of hl hk, ?_⟩
    refine ht _ env' σ' H3 _ _ _ rp' he' (fun b H4 f4 hb => ?_) xok_no
    cases b with
    | false =>
      rw [if_neg (by decide)] at hb ⊢
      obtain ⟨k1, k2, k3⟩ := step H4 f4
      exact ⟨by omega, k1, acc, us, k2, k3, hb⟩
    | true =>
      rw [if_pos rfl] at hb ⊢
      refine he _ env' σ' H4 _ _ _ (rp'.step f4) hb (fun y2 v2 H5 f5 den5 hb5 => ?_) xok_no
      obtain ⟨k1, k2, k3⟩ := step H5 (f4.trans f5)
      have sv : Same (vis H5 fun a => X a ∨ a = D) (vis (upd H5 D (.lst (us ++ [v2]))) fun a => X a ∨ a = D) := fun a o e => by
        obtain ⟨n1, e1⟩ := vis_of e
        exact vis_mk n1 (by rw [upd_ne fun z => n1 (.inr z)]; exact e1)
      refine ⟨us, k2, by rw [k3.length, sizeLine_eq]; exact hb5.1, by omega, frm_put rp1 hD k1, acc ++ [y2], us ++ [v2], upd_same, (k3.snoc den5).mono sv, hb5.2⟩
  · have e : ds.drop i = [] := List.drop_eq_nil_of_le (by omega)
    rw [e] at go
    exact .inl ⟨hw.2 (by omega), q _ _ H2 (f1.trans f2) ⟨D, us, acc, rfl, rfl, f1.free (fun h c e => (rp.hands h c e).2.2) hD, hD2, a2⟩ go⟩
def eYes : DTX := fun _ Q _ => Q true
theorem dt_yes {C : Bc} : DT C tYes eYes := fun X env σ H Q Qd Qx rp he q x => q true H (.refl H) he
/-! ### calls of defs of one's own -/
abbrev DFn := List Sl → (Dt → Prop) → (Xc → Prop) → Prop
def spD (K : PySem.W.Frag) (F : DFn) : Sp := fun vs H Q E => ∃ (X : Addr → Prop) (hd : Hnd) (args : List Sl) (Qd : Dt → Prop) (Qx : Xc → Prop), (∀ a, X a → ∃ o, H a = some o) ∧ (∀ h c, hd = some (h, c) → X h ∧ HandC H h c) ∧ SlAll K hd X H vs args ∧ F args Qd Qx ∧
  (∀ d v H', Frm hd H H' → Den K (vis H' X) v d → Qd d → Q v H') ∧ (∀ x cls dx H', Frm hd H H' → XRep K (vis H' X) cls dx x → Qx x → E cls dx H')
def Dvs (dvs : List V) (dd : List Sl) : Prop := ∀ (K : PySem.W.Frag) (hd : Hnd) (X : Addr → Prop) (H : Hp), SlAll K hd X H dvs dd
theorem dv_nil : Dvs [] [] := fun _ _ _ _ => .nil
def eCall (F : DFn) (dd : List Sl) (a : DSX) : DX := fun env Q E => a env (fun ss => F (ss ++ dd) Q E) E
def eCall0 (F : DFn) (dd : List Sl) (a : DSX) : DX := fun env Q E => a env (fun ss => F (ss ++ dd) Q fun _ => False) E
section
variable {C : Bc} {F : DFn} {dvs : List V} {dd : List Sl} {t : TA} {a : DSX}
theorem spD_use {X : Addr → Prop} {env : List Sl} {σ : L2.St} {H : Hp} {vs : List V} {ss : List Sl} {Q : VK} {E : XK} {Qd : Dt → Prop} {Qx : Xc → Prop} (rp : Rep C X env σ H) (r : SlAll C.K C.hd X H vs ss) (h : F ss Qd Qx)
    (q : ∀ d v H', Frm C.hd H H' → Den C.K (vis H' X) v d → Qd d → Q v H') (x : ∀ x cls dx H', Frm C.hd H H' → XRep C.K (vis H' X) cls dx x → Qx x → E cls dx H') : spD C.K F vs H Q E :=
  ⟨X, C.hd, ss, Qd, Qx, rp.al, fun h c e => ⟨rp.hX h c e, (rp.hands h c e).2.2⟩, r, h, q, x⟩
theorem de_call0 (hd : Dvs dvs dd) (ha : DAs C t a) : DE C (tCall (spD C.K F) dvs E0 t) (eCall0 F dd a) := by
  intro X env σ H Q Qd Qx rp he q x
  refine ha X env σ H _ _ Qx rp he (fun ss vs H1 f1 r1 he1 => ?_) x
  exact spD_use (rp.step f1) (SlAll.append r1 (hd C.K C.hd X H1)) he1 (fun d v H' f h => q d v H' (f1.trans f) h) fun _ _ _ _ _ _ z => z.elim
theorem de_call {E : XK} (hE : C.E = fun _ => E) (hd : Dvs dvs dd) (ha : DAs C t a) : DE C (tCall (spD C.K F) dvs E t) (eCall F dd a) := by
  intro X env σ H Q Qd Qx rp he q x
  refine ha X env σ H _ _ Qx rp he (fun ss vs H1 f1 r1 he1 => ?_) x
  exact spD_use (rp.step f1) (SlAll.append r1 (hd C.K C.hd X H1)) he1 (fun d v H' f h => q d v H' (f1.trans f) h) fun y cls dx H' f r z => by
    have := x y cls dx H' (f1.trans f) r z
    rw [hE] at this
    exact this
theorem de_callS {E : L2.St → XK} (hE : C.E = E) (ha : DAs C t a) : DE C (tCallS (spD C.K F) E t) (eCall F [] a) := by
  intro X env σ H Q Qd Qx rp he q x
  refine ha X env σ H _ _ Qx rp he (fun ss vs H1 f1 r1 he1 => ?_) x
  rw [List.append_nil] at he1
  exact spD_use (rp.step f1) r1 he1 (fun d v H' f h => q d v H' (f1.trans f) h) fun y cls dx H' f r z => by
    have := x y cls dx H' (f1.trans f) r z
    rw [hE] at this
    exact this
end
end Mine

namespace Mine
open PySem PySem.Spec PyProof.Rows L2
/-! ### statements, by data -/
structure DEn where
  nx : List Sl → Prop
  rt : Dt → Prop
  bk : List Sl → Prop
  ct : List Sl → Prop
  xc : List Sl → Xc → Prop
abbrev DSt := DEn → List Sl → Prop
/-- what is wanted at the ends, from a place on -/
structure Lnk (C : Bc) (X : Addr → Prop) (H : Hp) (D : Ends) (d : DEn) : Prop where
  nx : ∀ X' env σ H', Rep C X' env σ H' → Same (vis H X) (vis H' X') → d.nx env → D.nx σ H'
  rt : ∀ X' env σ H' v x, Rep C X' env σ H' → Same (vis H X) (vis H' X') → Den C.K (vis H' X') v x → d.rt x → D.rt v H'
  bk : ∀ X' env σ H', Rep C X' env σ H' → Same (vis H X) (vis H' X') → d.bk env → D.bk σ H'
  ct : ∀ X' env σ H', Rep C X' env σ H' → Same (vis H X) (vis H' X') → d.ct env → D.ct σ H'
  xc : ∀ X' env σ H' x cls dx, Rep C X' env σ H' → Same (vis H X) (vis H' X') → XRep C.K (vis H' X') cls dx x → d.xc env x → C.E σ cls dx H'
def DS (C : Bc) (t : TS) (s : DSt) : Prop := ∀ X env σ H D d, Rep C X env σ H → Lnk C X H D d → s d env → t D σ H
section
variable {C : Bc} {X X1 : Addr → Prop} {env : List Sl} {σ : L2.St} {H H1 : Hp} {D : Ends} {d : DEn}
theorem Lnk.step (l : Lnk C X H D d) (s : Same (vis H X) (vis H1 X1)) : Lnk C X1 H1 D d where
  nx := fun X' env σ H' r k h => l.nx X' env σ H' r (s.trans k) h
  rt := fun X' env σ H' v x r k a h => l.rt X' env σ H' v x r (s.trans k) a h
  bk := fun X' env σ H' r k h => l.bk X' env σ H' r (s.trans k) h
  ct := fun X' env σ H' r k h => l.ct X' env σ H' r (s.trans k) h
  xc := fun X' env σ H' x cls dx r k a h => l.xc X' env σ H' x cls dx r (s.trans k) a h
theorem Lnk.xok (l : Lnk C X H D d) (r : Rep C X env σ H) : XOk C X σ H (d.xc env) := fun x cls dx H' f a h => l.xc X env σ H' x cls dx (r.step f) (r.vs f) a h
end
def sNext : DSt := fun d env => d.nx env
def sSeq (a b : DSt) : DSt := fun d env => a { d with nx := b d } env
def sDrop (e : DX) : DSt := fun d env => e env (fun _ => d.nx env) (d.xc env)
def sRet (e : DX) : DSt := fun d env => e env d.rt (d.xc env)
def sRetN : DSt := fun d _ => d.rt .non
def sIf (c : DTX) (a b : DSt) : DSt := fun d env => c env (fun k => if k = true then a d env else b d env) (d.xc env)
def sBreak : DSt := fun d env => d.bk env
def sCont : DSt := fun d env => d.ct env
def sAsg (e : DX) (f : DGX) : DSt := fun d env => e env (fun x => f x env d.nx) (d.xc env)
/-- name = a new list, a list of one's own from now on -/
def sOwn (j : Nat) (e : DX) : DSt := fun d env => e env (fun x => match x with
  | .lst xs => d.nx (env.set j (.own (.lst xs)))
  | _ => False) (d.xc env)
def sPar (i j : Nat) (a : DAX) : DSt := fun d env => a env (fun ds => match ds with
  | [x, y] => d.nx ((env.set i (.d x)).set j (.d y))
  | _ => False) (d.xc env)
def sPar3 (i j l : Nat) (a : DAX) : DSt := fun d env => a env (fun ds => match ds with
  | [x, y, z] => d.nx (((env.set i (.d x)).set j (.d y)).set l (.d z))
  | _ => False) (d.xc env)
def frz (env : List Sl) (i : Nat) : List Sl := match env[i]? with
  | some (.own w) => env.set i (.d w.fz)
  | _ => env
def sFrz (i : Nat) (s : DSt) : DSt := fun d env => s d (frz env i)
section
variable {C : Bc} {t u : TS} {a b : DSt} {te : TE} {e : DX} {c : TT} {ec : DTX} {ta : TA} {ea : DAX} {g : TG} {f : DGX} {js : List Nat}
theorem dst_next : DS C tNext sNext := fun X env σ H D d r l h => l.nx X env σ H r (Same.refl _) h
theorem dst_seq (ha : DS C t a) (hb : DS C u b) : DS C (tSeq t u) (sSeq a b) := by
  intro X env σ H D d r l h
  refine ha X env σ H { D with nx := u D } { d with nx := b d } r ⟨fun X' env' σ' H' r' k h' => ?_, l.rt, l.bk, l.ct, l.xc⟩ h
  exact hb X' env' σ' H' D d r' (l.step k) h'
theorem dst_drop (he : DE C te e) : DS C (tDrop te) (sDrop e) := fun X env σ H D d r l h =>
  he X env σ H _ _ _ r h (fun x v H1 f1 _ h1 => l.nx X env σ H1 (r.step f1) (r.vs f1) h1) (l.xok r)
theorem dst_ret (he : DE C te e) : DS C (tRet te) (sRet e) := fun X env σ H D d r l h =>
  he X env σ H _ _ _ r h (fun x v H1 f1 r1 h1 => l.rt X env σ H1 v x (r.step f1) (r.vs f1) r1 h1) (l.xok r)
theorem dst_if (hc : DT C c ec) (ha : DS C t a) (hb : DS C u b) : DS C (tIfS c t u) (sIf ec a b) := by
  intro X env σ H D d r l h
  refine hc X env σ H _ _ _ r h (fun k H1 f1 h1 => ?_) (l.xok r)
  cases k with
  | true => rw [if_pos rfl] at h1 ⊢; exact ha X env σ H1 D d (r.step f1) (l.step (r.vs f1)) h1
  | false => rw [if_neg (by decide)] at h1 ⊢; exact hb X env σ H1 D d (r.step f1) (l.step (r.vs f1)) h1
theorem dst_asg (he : DE C te e) (hg : DG C g js f) : DS C (tAsg te g) (sAsg e f) := by
  intro X env σ H D d r l h
  refine he X env σ H _ _ _ r h (fun x v H1 f1 r1 h1 => ?_) (l.xok r)
  exact hg X env σ H1 v x _ _ (r.step f1) r1 h1 fun env' σ' r' h' _ _ _ => l.nx X env' σ' H1 r' (r.vs f1) h'
end
/-! ### lists of one's own -/
section
variable {C : Bc} {X : Addr → Prop} {env : List Sl} {σ : L2.St} {H : Hp}
/-- slot j holds the new list p -/
theorem Rep.setOwn {H1 : Hp} {p : Addr} {vs : HO} {xs : Ow} (r : Rep C X env σ H) (f : Frm C.hd H H1) (n : H p = none) (j : Nat) (h1 : H1 p = some vs) (h2 : DenO C.K (vis H1 fun a => X a ∨ a = p) vs xs) :
    Rep C (fun a => X a ∨ a = p) (env.set j (.own xs)) (σ.set j (some (.ref p))) H1 := by
  have r0 := r.hide n f ⟨_, h1⟩
  refine ⟨by rw [List.length_set, List.length_set, r.len], r0.sup, r0.new, r0.al, r0.frm, r0.hands, fun i s e => ?_, fun i k xs' ys' ne e1 e2 => ?_, r0.one.set fun _ _ _ z => by cases z⟩
  · rw [List.getElem?_set] at e ⊢
    by_cases c : j = i
    · subst c
      rw [if_pos rfl] at e ⊢
      by_cases hl : j < env.length
      · rw [if_pos hl] at e
        rw [if_pos (r.len ▸ hl)]
        cases e
        refine ⟨_, rfl, p, vs, rfl, .inr rfl, fun z => ?_, h1, h2⟩
        obtain ⟨o, e⟩ := r.al p (r.sup p z)
        rw [n] at e; cases e
      · rw [if_neg hl] at e; cases e
    · rw [if_neg c] at e ⊢
      exact r0.slot i s e
  · rw [List.getElem?_set] at e1 e2 ⊢
    rw [List.getElem?_set]
    have other : ∀ i zs, j ≠ i → env[i]? = some (Sl.own zs) → σ[i]? ≠ some (some (.ref p)) := fun i zs c e z => by
      obtain ⟨o, q, p', vs', rfl, x1, x2, y1, y2⟩ := r.slot i _ e
      rw [q] at z
      have : p' = p := by injection z with z; injection z with z; injection z
      subst this
      rw [n] at y1; cases y1
    by_cases c : j = i
    · subst c
      have c2 : j ≠ k := ne
      rw [if_neg c2] at e2
      rw [if_pos rfl, if_neg c2]
      by_cases hl : j < env.length
      · rw [if_pos (r.len ▸ hl)]
        exact fun z => other k ys' c2 e2 z.symm
      · rw [if_pos rfl, if_neg hl] at e1; cases e1
    · rw [if_neg c] at e1 ⊢
      by_cases c2 : j = k
      · subst c2
        by_cases hl : j < env.length
        · rw [if_pos rfl, if_pos (r.len ▸ hl)]
          exact other i xs' c e1
        · rw [if_pos rfl, if_neg hl] at e2; cases e2
      · rw [if_neg c2] at e2 ⊢
        exact r.inj i k xs' ys' ne e1 e2
/-- the list in slot i is changed -/
theorem Rep.own {i : Nat} {p : Addr} {vs' : HO} {xs xs' : Ow} (r : Rep C X env σ H) (e : env[i]? = some (.own xs)) (es : σ[i]? = some (some (.ref p))) (x1 : X p) (x2 : ¬ C.X0 p) (h2 : DenO C.K (vis H X) vs' xs') :
    Rep C X (env.set i (.own xs')) σ (upd H p vs') ∧ Same (vis H X) (vis (upd H p vs') X) := by
  have sm : Same (vis H X) (vis (upd H p vs') X) := fun a o q => by
    obtain ⟨n1, e1⟩ := vis_of q
    exact vis_mk n1 (by rw [upd_ne (fun (z : a = p) => n1 (by rw [z]; exact x1))]; exact e1)
  have h0 : C.H0 p = none := (r.new p x1).resolve_left x2
  have fm : Frm C.hd C.H0 (upd H p vs') := by
    refine ⟨fun a u q k => ?_, fun h c q x => ?_⟩
    · rw [upd_ne (ne_of_none q h0)]; exact r.frm.1 a u q k
    · have y := r.frm.2 h c q x
      obtain ⟨_, _, _, _, a1, a2, _⟩ := x
      obtain ⟨cells, at_, big, mix, b1, b2, b3⟩ := y
      exact ⟨cells, at_, big, mix, by rw [upd_ne (ne_of_none a1 h0)]; exact b1, by rw [upd_ne (ne_of_none a2 h0)]; exact b2, b3⟩
  refine ⟨⟨by rw [List.length_set, r.len], r.sup, r.new, fun a z => ?_, fm, fun h c q => ⟨(r.hands h c q).1, (r.hands h c q).2.1, fm.2 h c q (r.hands h c q).2.1⟩, fun j s q => ?_, fun j k ys zs ne e1 e2 => ?_, r.one.set fun _ _ _ z => by cases z⟩, sm⟩
  · by_cases c : a = p
    · subst c; exact ⟨_, upd_same⟩
    · obtain ⟨o, q⟩ := r.al a z
      exact ⟨o, by rw [upd_ne c]; exact q⟩
  · rw [List.getElem?_set] at q
    by_cases c : i = j
    · subst c
      have hl : i < env.length := (List.getElem?_eq_some_iff.mp e).1
      rw [if_pos rfl, if_pos hl] at q
      cases q
      exact ⟨_, es, p, vs', rfl, x1, x2, upd_same, h2.mono sm⟩
    · rw [if_neg c] at q
      obtain ⟨o, e1, w⟩ := r.slot j s q
      refine ⟨o, e1, ?_⟩
      cases s with
      | no => trivial
      | d x => obtain ⟨v, e2, h⟩ := w; exact ⟨v, e2, h.mono sm⟩
      | own ys =>
        obtain ⟨p', us, rfl, y1, y2, y3, y4⟩ := w
        have ne : p' ≠ p := fun z => r.inj i j xs ys c e q (by rw [es, e1, z])
        exact ⟨p', us, rfl, y1, y2, by rw [upd_ne ne]; exact y3, y4.mono sm⟩
      | hand => exact w
      | exc c' fs => exact w.exc sm
      | ins C0 ns ds =>
        obtain ⟨p', dx, us, rfl, y1, y2, y3, yl, y4⟩ := w
        have ne : p' ≠ p := fun z => by
          obtain ⟨o2, es2, p2, us2, rfl, _, _, k2, k3⟩ := r.slot i _ e
          rw [es] at es2; cases es2
          rw [z, k2] at y3; cases y3; exact k3.noins
        exact ⟨p', dx, us, rfl, y1, y2, by rw [upd_ne ne]; exact y3, yl, y4.mono sm⟩
  · rw [List.getElem?_set] at e1 e2
    have hl : i < env.length := (List.getElem?_eq_some_iff.mp e).1
    by_cases c : i = j
    · subst c
      rw [if_neg ne] at e2
      exact r.inj i k xs zs ne e e2
    · rw [if_neg c] at e1
      by_cases c2 : i = k
      · subst c2
        exact r.inj j i ys xs ne e1 e
      · rw [if_neg c2] at e2
        exact r.inj j k ys zs ne e1 e2
/-- the list in slot i is no longer one's own -/
theorem Rep.frz (r : Rep C X env σ H) (i : Nat) : ∃ X', Rep C X' (frz env i) σ H ∧ Same (vis H X) (vis H X') := by
  unfold Mine.frz
  split
  · rename_i xs e
    obtain ⟨o, es, p, vs, rfl, x1, x2, h1, h2⟩ := r.slot i _ e
    have hl : i < env.length := (List.getElem?_eq_some_iff.mp e).1
    have sm : Same (vis H X) (vis H fun a => X a ∧ a ≠ p) := vis_anti fun a z => z.1
    refine ⟨fun a => X a ∧ a ≠ p, ⟨by rw [List.length_set, r.len], fun a z => ⟨r.sup a z, fun q => x2 (q ▸ z)⟩, fun a z => r.new a z.1, fun a z => r.al a z.1, r.frm, r.hands, fun j s q => ?_, fun j k ys zs ne e1 e2 => ?_, r.one.set fun _ _ _ z => by cases z⟩, sm⟩
    · rw [List.getElem?_set] at q
      by_cases c : i = j
      · subst c
        rw [if_pos rfl, if_pos hl] at q
        cases q
        exact ⟨_, es, _, rfl, (h2.mono sm).fz (vis_mk (fun z => z.2 rfl) h1)⟩
      · rw [if_neg c] at q
        obtain ⟨o, e1, w⟩ := r.slot j s q
        refine ⟨o, e1, ?_⟩
        cases s with
        | no => trivial
        | d x => obtain ⟨v, e2, h⟩ := w; exact ⟨v, e2, h.mono sm⟩
        | own ys =>
          obtain ⟨p', us, rfl, y1, y2, y3, y4⟩ := w
          have ne : p' ≠ p := fun z => r.inj i j xs ys c e q (by rw [es, e1, z])
          exact ⟨p', us, rfl, ⟨y1, ne⟩, y2, y3, y4.mono sm⟩
        | hand => exact w
        | exc c' fs => exact w.exc sm
        | ins C0 ns ds =>
          obtain ⟨p', dx, us, rfl, y1, y2, y3, yl, y4⟩ := w
          have ne : p' ≠ p := fun z => by rw [z, h1] at y3; cases y3; exact h2.noins
          exact ⟨p', dx, us, rfl, ⟨y1, ne⟩, y2, y3, yl, y4.mono sm⟩
    · rw [List.getElem?_set] at e1 e2
      by_cases c : i = j
      · subst c
        rw [if_pos rfl, if_pos hl] at e1; cases e1
      · rw [if_neg c] at e1
        by_cases c2 : i = k
        · subst c2
          rw [if_pos rfl, if_pos hl] at e2; cases e2
        · rw [if_neg c2] at e2
          exact r.inj j k ys zs ne e1 e2
  · exact ⟨X, r, Same.refl _⟩
theorem Rep.ownAt (r : Rep C X env σ H) {i : Nat} {xs : List Dt} (e : env[i]? = some (.own (.lst xs))) : ∃ p vs, σ[i]? = some (some (.ref p)) ∧ X p ∧ ¬ C.X0 p ∧ H p = some (.lst vs) ∧ DenAll C.K (vis H X) vs xs := by
  obtain ⟨o, es, p, u, rfl, x1, x2, h1, h2⟩ := r.slot i _ e
  cases h2 with
  | @lst vs _ a => exact ⟨p, vs, es, x1, x2, h1, a⟩
theorem Rep.ownAtO (r : Rep C X env σ H) {i : Nat} {w : Ow} (e : env[i]? = some (.own w)) : ∃ p u, σ[i]? = some (some (.ref p)) ∧ X p ∧ ¬ C.X0 p ∧ H p = some u ∧ DenO C.K (vis H X) u w := by
  obtain ⟨o, es, p, u, rfl, x1, x2, h1, h2⟩ := r.slot i _ e
  exact ⟨p, u, es, x1, x2, h1, h2⟩
end
/-- x.append(e) -/
def sApp (i : Nat) (e : DX) : DSt := fun d env => match env[i]? with
  | some (.own (.lst xs)) => e env (fun y => xs.length < LINE ∧ d.nx (env.set i (.own (.lst (xs ++ [y]))))) (d.xc env)
  | _ => False
/-- x.extend(e), e a list -/
def sExt (i : Nat) (e : DX) : DSt := fun d env => match env[i]? with
  | some (.own (.lst xs)) => e env (fun y => match y with
    | .lst ys => xs.length + ys.length ≤ LINE ∧ d.nx (env.set i (.own (.lst (xs ++ ys))))
    | _ => False) (d.xc env)
  | _ => False
/-- x.pop() -/
def sPop (i : Nat) : DSt := fun d env => match env[i]? with
  | some (.own (.lst xs)) => xs ≠ [] ∧ d.nx (env.set i (.own (.lst xs.dropLast)))
  | _ => False
/-- y = x.pop() -/
def sPopTo (i j : Nat) : DSt := fun d env => match env[i]? with
  | some (.own (.lst xs)) => ∃ y, xs[xs.length - 1]? = some y ∧ d.nx ((env.set i (.own (.lst xs.dropLast))).set j (.d y))
  | _ => False
/-- x[k] = e -/
def sPut (i : Nat) (ek e : DX) : DSt := fun d env => match env[i]? with
  | some (.own (.lst xs)) => e env (fun y => ek env (fun k => match k with
    | .int k => ∃ j, ixN xs.length k = some j ∧ d.nx (env.set i (.own (.lst (xs.set j y))))
    | _ => False) (d.xc env)) (d.xc env)
  | _ => False
/-- x[k] += e -/
def sAugP (f : Int → Int → Int) (i : Nat) (ek e : DX) : DSt := fun d env => match env[i]? with
  | some (.own (.lst xs)) => ek env (fun k => match k with
    | .int k => ∃ j z, ixN xs.length k = some j ∧ xs[j]? = some (.int z) ∧ e env (fun y => match y with
      | .int y => d.nx (env.set i (.own (.lst (xs.set j (.int (f z y))))))
      | _ => False) (d.xc env)
    | _ => False) (d.xc env)
  | _ => False
/-- x += e at a name that holds a whole number -/
def sAug (f : Int → Int → Int) (i : Nat) (e : DX) : DSt := fun d env => match env[i]? with
  | some (.d (.int x)) => e env (fun y => match y with
    | .int y => d.nx (env.set i (.d (.int (f x y))))
    | _ => False) (d.xc env)
  | _ => False
section
variable {C : Bc} {te tk : TE} {e ek : DX} {i : Nat}
theorem dst_own {j : Nat} (he : DF C te e) : DS C (tAsg te (gName j)) (sOwn j e) := by
  intro X env σ H D d r l h
  refine he X env σ H _ _ _ r h (fun x v H1 f1 r1 h1 => ?_) (l.xok r)
  obtain ⟨p, vs, ds, rfl, rfl, n, h2, h3⟩ := r1
  refine l.nx _ _ _ H1 (r.setOwn f1 n j h2 (.lst h3)) (fun a o q => ?_) h1
  obtain ⟨n1, e1⟩ := vis_of q
  exact vis_mk (fun z => z.elim n1 (ne_of_none e1 n)) (vis_of (r.vs f1 _ _ q)).2
theorem dst_frz {t : TS} {s : DSt} (i : Nat) (h : DS C t s) : DS C t (sFrz i s) := by
  intro X env σ H D d r l q
  obtain ⟨X', r', sm⟩ := r.frz i
  exact h X' _ σ H D d r' (l.step sm) q
theorem tyv_lst {K : PySem.W.Frag} {H : Hp} {p : Addr} {xs : List V} (h : H p = some (.lst xs)) : tyV K "list" (.ref p) H := .inl ⟨rfl, xs, .inl (.inl h)⟩
theorem dst_app (he : DE C te e) : DS C (tDrop (tBM C.K "list" rAppend (tVar i) (tCons te tNil))) (sApp i e) := by
  intro X env σ H D d r l h
  unfold sApp at h
  split at h
  · rename_i xs e1
    obtain ⟨p, vs, es, x1, x2, h1, h2⟩ := r.ownAt e1
    refine ⟨.ref p, es, tyv_lst h1, ?_⟩
    refine he X env σ H _ _ _ r h (fun y v H1 f1 r1 hy => ?_) (l.xok r)
    have k2 := h2.mono (r.vs f1)
    refine ⟨p, vs, v, rfl, rfl, f1.1 p _ h1 (r.nh x2), by rw [h2.length, sizeLine_eq]; exact hy.1, ?_⟩
    obtain ⟨r3, sm⟩ := (r.step f1).own e1 es x1 x2 (.lst (k2.snoc r1))
    exact l.nx _ _ _ _ r3 ((r.vs f1).trans sm) hy.2
  · exact h.elim
theorem dst_put (he : DE C te e) (hk : DE C tk ek) : DS C (tAsg te (gSub (tVar i) tk rSetL)) (sPut i ek e) := by
  intro X env σ H D d r l h
  unfold sPut at h
  split at h
  · rename_i xs e1
    refine he X env σ H _ _ _ r h (fun y v H1 f1 r1 hy => ?_) (l.xok r)
    have rp1 := r.step f1
    obtain ⟨p, vs, es, x1, x2, h1, h2⟩ := rp1.ownAt e1
    refine ⟨.ref p, es, ?_⟩
    refine hk X env σ H1 _ _ _ rp1 hy (fun k u H2 f2 r2 hk2 => ?_) ((l.xok r).step f1)
    split at hk2
    · obtain ⟨j, hj, hk2⟩ := hk2
      have k2 := h2.mono (rp1.vs f2)
      refine ⟨p, vs, _, j, rfl, r2.flat rfl, f2.1 p _ h1 (rp1.nh x2), by rw [h2.length]; exact hj, ?_⟩
      obtain ⟨r3, sm⟩ := (rp1.step f2).own e1 es x1 x2 (.lst (k2.set j (Den.mono (rp1.vs f2) r1)))
      exact l.nx _ _ _ _ r3 ((r.vs f1).trans ((rp1.vs f2).trans sm)) hk2
    · exact hk2.elim
  · exact h.elim
end
/-! ### loops -/
def dFor (f : DGX) (b : DSt) (d : DEn) : List Dt → List Sl → Prop
  | [], env => d.nx env
  | x :: xs, env => f x env fun env' => b { d with nx := dFor f b d xs, ct := dFor f b d xs, bk := d.nx } env'
def sFor (src : DAX) (f : DGX) (b : DSt) : DSt := fun d env => src env (fun ds => dFor f b d ds env) (d.xc env)
section
variable {C : Bc} {wi : TI} {g : TG} {tb : TS} {src : DAX} {f : DGX} {b : DSt} {js : List Nat} {tc : TT} {ec : DTX}
theorem dst_for (hi : DIg Strong C wi src) (hg : DG C g js f) (hb : DS C tb b) : DS C (tFor wi g tb) (sFor src f b) := by
  intro X env σ H D d r l h
  refine hi X env σ H _ _ _ r h (fun ds J H1 f1 w h1 => ?_) (l.xok r)
  have rp1 := r.step f1
  have l1 := l.step (r.vs f1)
  let W : Nat → Nat → L2.St → Hp → Prop := fun i m σ2 H2 => m + i = ds.length ∧ ∃ X2 env2, Rep C X2 env2 σ2 H2 ∧ Same (vis H1 X) (vis H2 X2) ∧ dFor f b d (ds.drop i) env2
  refine ⟨W, ⟨ds.length, rfl, X, env, rp1, Same.refl _, h1⟩, fun i m σ2 H2 ⟨hm, X2, env2, r2, s2, go⟩ => ?_⟩
  have hw := w X2 i H2 ⟨s2, r2.al⟩
  by_cases c : i < ds.length
  · obtain ⟨g1, g2⟩ := hw.1 c
    refine .inr ⟨g1, W (i + 1) (m - 1), fun σ' H' hW => ⟨m - 1, by omega, hW⟩, fun y H3 hy => ?_⟩
    obtain ⟨s3, x, hx, den⟩ := g2 y H3 hy
    have ed : ds.drop i = x :: ds.drop (i + 1) := by
      rw [List.drop_eq_getElem_cons c]
      congr 1
      rw [List.getElem?_eq_getElem c] at hx
      exact Option.some.inj hx
    rw [ed] at go
    have r3 := r2.step (.same s3)
    have s13 : Same (vis H1 X) (vis H3 X2) := s2.trans (r2.vs (.same s3))
    refine hg X2 env2 σ2 H3 y x _ _ r3 den go fun env' σ' r' h' _ _ _ => ?_
    refine hb X2 env' σ' H3 _ { d with nx := dFor f b d (ds.drop (i + 1)), ct := dFor f b d (ds.drop (i + 1)), bk := d.nx } r' ⟨fun X4 env4 σ4 H4 r4 s4 h4 => ⟨by omega, X4, env4, r4, s13.trans s4, h4⟩, fun X4 env4 σ4 H4 v z r4 s4 a h4 => l1.rt X4 env4 σ4 H4 v z r4 (s13.trans s4) a h4,
      fun X4 env4 σ4 H4 r4 s4 h4 => l1.nx X4 env4 σ4 H4 r4 (s13.trans s4) h4, fun X4 env4 σ4 H4 r4 s4 h4 => ⟨by omega, X4, env4, r4, s13.trans s4, h4⟩, fun X4 env4 σ4 H4 z cls dx r4 s4 a h4 => l1.xc X4 env4 σ4 H4 z cls dx r4 (s13.trans s4) a h4⟩ h'
  · have e : ds.drop i = [] := List.drop_eq_nil_of_le (by omega)
    rw [e] at go
    exact .inl ⟨hw.2 (by omega), l1.nx X2 env2 σ2 H2 r2 s2 go⟩
end
end Mine

namespace Mine
open PySem PySem.Spec PyProof.Rows L2
/-! ### raise -/
def sRaise (c : Str) : DSt := fun d env => d.xc env ⟨c, []⟩
def sRaise1 (c f : Str) (e : DX) : DSt := fun d env => e env (fun x => match x.flat with
  | some u => d.xc env ⟨c, [(f, u)]⟩
  | none => False) (d.xc env)
section
variable {C : Bc} {W : WX} {te : TE} {e : DX} {c f : Str}
theorem dst_raise (hW : C.E = WE W) : DS C (fun _ σ H => W (.ref (He.ga C.K c)) none σ H) (sRaise c) := by
  intro X env σ H D d r l h
  have := l.xc X env σ H ⟨c, []⟩ (.ref (He.ga C.K c)) none r (Same.refl _) ⟨rfl, rfl⟩ h
  rw [hW] at this
  exact this
theorem dst_raise1 (hW : C.E = WE W) (he : DE C te e) : DS C (fun _ σ H => tMk1 (He.ga C.K c) f te σ H fun cls d H' => W cls d σ H') (sRaise1 c f e) := by
  intro X env σ H D d r l h
  refine he X env σ H _ _ _ r h (fun x v H1 f1 r1 h1 => ?_) (l.xok r)
  split at h1
  · rename_i u eu
    have ev : v = u := Den.flat r1 eu
    subst ev
    intro dd H' s n hd
    have r2 := r.step f1
    have r3 : Rep C X env σ H' := r2.step (.same s)
    have := l.xc X env σ H' ⟨c, [(f, v)]⟩ (.ref (He.ga C.K c)) (some dd) r3 ((r.vs f1).trans (r2.vs (.same s))) ⟨rfl, dd, rfl, vis_mk (r2.free n) hd⟩ h1
    rw [hW] at this
    exact this
  · exact h1.elim
end
/-! ### try -/
def clr : Sl → Sl
  | .exc _ _ => .no
  | s => s
def bindS (env : List Sl) (o : Option Nat) (x : Xc) : List Sl := match o with
  | none => env.map clr
  | some i => (env.map clr).set i (.exc x.cls x.fs)
def endS (d : DEn) : Option Nat → DEn
  | none => { d with xc := fun _ _ => False }
  | some i => { nx := fun e => d.nx (e.set i .no), rt := d.rt, bk := fun e => d.bk (e.set i .no), ct := fun e => d.ct (e.set i .no), xc := fun _ _ => False }
/-- the clauses; mt: what is an instance of what -/
def dHs (mt : Str → Str → Option Bool) : List (Str × Option Nat × DSt) → DEn → List Sl → Xc → Prop
  | [], d, env, x => d.xc env x
  | (c, o, s) :: r, d, env, x => ∃ b, mt x.cls c = some b ∧ (if b = true then s (endS d o) (bindS env o x) else dHs mt r d env x)
def sTry (mt : Str → Str → Option Bool) (b : DSt) (hs : List (Str × Option Nat × DSt)) : DSt := fun d env => b { d with xc := fun e x => dHs mt hs d e x } env
abbrev Bc.wE (C : Bc) (E : L2.St → XK) : Bc := { C with E := E }
abbrev Bc.wX (C : Bc) (a : Addr) (cls : Value) (d : Option Addr) : Bc := { C with ex := some (a, cls, d) }
inductive HsOk (C : Bc) : List (Value × Option Nat × Suit) → List (Str × Option Nat × DSt) → Prop
  | nil : HsOk C [] []
  | cons {c : Str} {o : Option Nat} {ts : Suit} {s : DSt} {l : List (Value × Option Nat × Suit)} {hs : List (Str × Option Nat × DSt)} (h : ∀ a cls d, DS (C.wX a cls d) (ts a cls d) s) (r : HsOk C l hs) : HsOk C ((.ref (He.ga C.K c), o, ts) :: l) ((c, o, s) :: hs)
section
variable {C : Bc} {X : Addr → Prop} {env : List Sl} {σ : L2.St} {H : Hp}
theorem Rep.inE (r : Rep C X env σ H) (E : L2.St → XK) : Rep (C.wE E) X env σ H := ⟨r.len, r.sup, r.new, r.al, r.frm, r.hands, r.slot, r.inj, r.one⟩
theorem Rep.outE {E : L2.St → XK} (r : Rep (C.wE E) X env σ H) : Rep C X env σ H := ⟨r.len, r.sup, r.new, r.al, r.frm, r.hands, r.slot, r.inj, r.one⟩
theorem Rep.outX {a : Addr} {cls : Value} {d : Option Addr} (hex : C.ex = none) (r : Rep (C.wX a cls d) X env σ H) : Rep C X env σ H := by
  refine ⟨r.len, r.sup, r.new, r.al, r.frm, r.hands, fun i s e => ?_, r.inj, r.one⟩
  obtain ⟨o, e1, q⟩ := r.slot i s e
  refine ⟨o, e1, ?_⟩
  cases s with
  | exc c fs => unfold SlRep; rw [hex]; trivial
  | no => trivial
  | d x => exact q
  | own xs => exact q
  | hand => exact q
  | ins _ _ _ => exact q
theorem Rep.inX (r : Rep C X env σ H) (a : Addr) (cls : Value) (d : Option Addr) : Rep (C.wX a cls d) X (env.map clr) σ H := by
  refine ⟨by rw [List.length_map]; exact r.len, r.sup, r.new, r.al, r.frm, r.hands, fun i s e => ?_, fun i j xs ys n e1 e2 => ?_, r.one.map fun s C ns ds z => by cases s <;> first | exact z | cases z⟩
  · rw [List.getElem?_map, Option.map_eq_some_iff] at e
    obtain ⟨s0, e, rfl⟩ := e
    obtain ⟨o, e1, q⟩ := r.slot i s0 e
    refine ⟨o, e1, ?_⟩
    cases s0 with
    | exc c fs => trivial
    | no => trivial
    | d x => exact q
    | own xs => exact q
    | hand => exact q
    | ins _ _ _ => exact q
  · rw [List.getElem?_map, Option.map_eq_some_iff] at e1 e2
    obtain ⟨s1, e1, q1⟩ := e1
    obtain ⟨s2, e2, q2⟩ := e2
    cases s1 <;> simp [clr] at q1
    cases s2 <;> simp [clr] at q2
    subst q1 q2
    exact r.inj i j _ _ n e1 e2
theorem Rep.excAt {a : Addr} {cls : Value} {d : Option Addr} (r : Rep (C.wX a cls d) X env σ H) (j : Nat) {c : Str} {fs : List (Str × V)} (h : SlRep (C.wX a cls d) X H (.exc c fs) (some (.ref a))) : Rep (C.wX a cls d) X (env.set j (.exc c fs)) (σ.set j (some (.ref a))) H where
  len := by rw [List.length_set, List.length_set, r.len]
  sup := r.sup
  new := r.new
  al := r.al
  frm := r.frm
  hands := r.hands
  slot := fun i s e => by
    rw [List.getElem?_set] at e ⊢
    by_cases c : j = i
    · subst c
      rw [if_pos rfl] at e ⊢
      by_cases hl : j < env.length
      · rw [if_pos hl] at e
        rw [if_pos (r.len ▸ hl)]
        cases e
        exact ⟨_, rfl, h⟩
      · rw [if_neg hl] at e; cases e
    · rw [if_neg c] at e ⊢
      exact r.slot i s e
  inj := fun i k xs ys n e1 e2 => by
    rw [List.getElem?_set] at e1 e2
    have a : j ≠ i := fun c => by
      subst c
      rw [if_pos rfl] at e1
      split at e1 <;> cases e1
    have b : j ≠ k := fun c => by
      subst c
      rw [if_pos rfl] at e2
      split at e2 <;> cases e2
    rw [if_neg a] at e1
    rw [if_neg b] at e2
    rw [List.getElem?_set, List.getElem?_set, if_neg a, if_neg b]
    exact r.inj i k xs ys n e1 e2
  one := r.one.set fun _ _ _ z => by cases z
theorem hs_run {Wout : WX} {D : Ends} {d : DEn} {mt : Str → Str → Option Bool} (hW : C.E = WE Wout) (hex : C.ex = none) (hm : ∀ a b r, mt a b = some r → PySem.W.exmOne C.K (.ref (He.ga C.K a)) (.ref (He.ga C.K b)) = some r) :
    ∀ {l : List (Value × Option Nat × Suit)} {hs : List (Str × Option Nat × DSt)}, HsOk C l hs → ∀ {x : Xc} {cls : Value} {dx : Option Addr}, Rep C X env σ H → Lnk C X H D d → XRep C.K (vis H X) cls dx x → dHs mt hs d env x → wNamed C.K Wout D l cls dx σ H
  | _, _, .nil, x, cls, dx, r, k, xr, h => by
    have := k.xc X env σ H x cls dx r (Same.refl _) xr h
    rw [hW] at this
    exact this
  | _, _, @HsOk.cons _ c o ts s l hs hts rest, x, cls, dx, r, k, xr, ⟨b, hb, h⟩ => by
    obtain ⟨ec, ed⟩ := xr
    refine ⟨b, by rw [ec]; exact hm _ _ _ hb, fun eb a na => ?_, fun eb => ?_⟩
    · rw [if_pos eb] at h
      have rx := r.inX a cls dx
      cases o with
      | none =>
        refine hts a cls dx X _ σ H D (endS d none) rx ⟨fun X' env' σ' H' r' s' h' => k.nx X' env' σ' H' (r'.outX hex) s' h', fun X' env' σ' H' v z r' s' w h' => k.rt X' env' σ' H' v z (r'.outX hex) s' w h',
          fun X' env' σ' H' r' s' h' => k.bk X' env' σ' H' (r'.outX hex) s' h', fun X' env' σ' H' r' s' h' => k.ct X' env' σ' H' (r'.outX hex) s' h', fun _ _ _ _ _ _ _ _ _ _ h' => h'.elim⟩ h
      | some i =>
        have re : Rep (C.wX a cls dx) X (bindS env (some i) x) (σ.set i (some (.ref a))) H := by
          refine rx.excAt i ⟨rfl, ec, ?_⟩
          obtain ⟨xc, xf⟩ := x
          cases xf with
          | nil => exact .inl ⟨rfl, ed⟩
          | cons f fr => obtain ⟨a, e1, e2⟩ := ed; exact .inr ⟨a, e1, e2⟩
        refine hts a cls dx X _ (σ.set i (some (.ref a))) H _ (endS d (some i)) re ⟨fun X' env' σ' H' r' s' h' => k.nx X' _ _ H' ((r'.outX hex).unset i none) s' h', fun X' env' σ' H' v z r' s' w h' => k.rt X' env' σ' H' v z (r'.outX hex) s' w h',
          fun X' env' σ' H' r' s' h' => k.bk X' _ _ H' ((r'.outX hex).unset i none) s' h', fun X' env' σ' H' r' s' h' => k.ct X' _ _ H' ((r'.outX hex).unset i none) s' h', fun _ _ _ _ _ _ _ _ _ _ h' => h'.elim⟩ h
    · rw [if_neg (by rw [eb]; decide)] at h
      exact hs_run hW hex hm rest r k ⟨ec, ed⟩ h
theorem dst_try {Wout : WX} {tb : WX → TS} {l : List (Value × Option Nat × Suit)} {sb : DSt} {hs : List (Str × Option Nat × DSt)} {mt : Str → Str → Option Bool} (hW : C.E = WE Wout) (hex : C.ex = none)
    (hm : ∀ a b r, mt a b = some r → PySem.W.exmOne C.K (.ref (He.ga C.K a)) (.ref (He.ga C.K b)) = some r) (hb : ∀ W, DS (C.wE (WE W)) (tb W) sb) (hh : HsOk C l hs) : DS C (fun D σ H => tb (wNamed C.K Wout D l) D σ H) (sTry mt sb hs) := by
  intro X env σ H D d r k h
  refine hb _ X env σ H D { d with xc := fun e x => dHs mt hs d e x } (r.inE _) ⟨fun X' env' σ' H' r' s' h' => k.nx X' env' σ' H' r'.outE s' h', fun X' env' σ' H' v z r' s' w h' => k.rt X' env' σ' H' v z r'.outE s' w h',
    fun X' env' σ' H' r' s' h' => k.bk X' env' σ' H' r'.outE s' h', fun X' env' σ' H' r' s' h' => k.ct X' env' σ' H' r'.outE s' h', fun X' env' σ' H' x cls dx r' s' w h' => ?_⟩ h
  exact hs_run hW hex hm hh r'.outE (k.step s') w h'
/-! ### the exception in hand -/
def Dt.ofV : V → Dt
  | .non => .non
  | .bl b => .bl b
  | .int i => .int i
  | .str x => .str x
  | v => .raw v
theorem den_ofV {K : PySem.W.Frag} {H : Hp} : ∀ v : V, Den K H v (Dt.ofV v)
  | .non => .non
  | .bl b => .bl b
  | .int i => .int i
  | .str x => .str x
  | .byt b => .raw _
  | .flt b => .raw _
  | .ref b => .raw _
  | .ty b => .raw _
/-- e.f, e of the class c -/
def eXf (i : Nat) (c f : Str) : DX := fun env Q _ => match env[i]? with
  | some (.exc c' fs) => c' = c ∧ ∃ u, fs.lookup f = some u ∧ Q (Dt.ofV u)
  | _ => False
theorem de_xf {i : Nat} {c f : Str} {a : Addr} {cls : Value} {d : Option Addr} : DE (C.wX a cls d) (tXf a cls d (He.ga C.K c) f (tVar i)) (eXf i c f) := by
  intro X env σ H Q Qd Qx r he q x
  unfold eXf at he
  split at he
  · rename_i c' fs e
    obtain ⟨rfl, u, hu, he⟩ := he
    obtain ⟨o, e1, rfl, e2, e3⟩ := r.slot i _ e
    rcases e3 with ⟨rfl, _⟩ | ⟨dd, e4, e5⟩
    · cases hu
    · exact ⟨_, e1, rfl, e2, dd, fs, u, e4, vis_sub _ _ e5, hu, q _ _ H (.refl H) (den_ofV u) he⟩
  · exact he.elim
/-- isinstance(e, C) -/
def eIsX (i : Nat) (tab : Str → Option Bool) : DX := fun env Q _ => match env[i]? with
  | some (.exc c fs) => ∃ b, tab c = some b ∧ Q (.bl b)
  | _ => False
theorem de_isX {i : Nat} {cn : Str} {a : Addr} {cls : Value} {d : Option Addr} {tab : Str → Option Bool} (ht : ∀ c b, tab c = some b → ExcC C.K (He.ga C.K c) ∧ PySem.W.kitOne C.K (.ref (He.ga C.K c)) (.ref (He.ga C.K cn)) = some b) :
    DE (C.wX a cls d) (tCB (rIsX C.K a cls d) (tCons (tVar i) (tCons (tC (.ref (He.ga C.K cn))) tNil))) (eIsX i tab) := by
  intro X env σ H Q Qd Qx r he q x
  unfold eIsX at he
  split at he
  · rename_i c' fs e
    obtain ⟨b, hb, he⟩ := he
    obtain ⟨o, e1, rfl, e2, e3⟩ := r.slot i _ e
    obtain ⟨h1, h2⟩ := ht _ _ hb
    refine ⟨_, e1, He.ga C.K c', _, _, b, rfl, e2, h1, fun u ru => ru, h2, fun dd hd => ?_, q _ _ H (.refl H) (.bl b) he⟩
    rcases e3 with ⟨_, e4⟩ | ⟨d2, e4, e5⟩
    · have e4 : d = none := e4
      rw [e4] at hd; cases hd
    · have e4 : d = some d2 := e4
      rw [e4] at hd; cases hd
      exact ⟨fs, vis_sub _ _ e5⟩
  · exact he.elim
end
/-! ### a def by its data -/
/-- np parameters, N names in all -/
def mkD (np N : Nat) (s : DSt) : DFn := fun args Q E => args.length = np ∧ s ⟨fun _ => Q .non, Q, fun _ => False, fun _ => False, fun _ x => E x⟩ (args ++ List.replicate (N - np) .no)
def mkD0 (np N : Nat) (s : DSt) : DFn := fun args Q E => args.length = np ∧ s ⟨fun _ => Q .non, Q, fun _ => False, fun _ => False, fun _ _ => False⟩ (args ++ List.replicate (N - np) .no)
theorem spD_len {K : PySem.W.Frag} {F : DFn} {np : Nat} (hF : ∀ args Q E, F args Q E → args.length = np) : ∀ vs H Q E, spD K F vs H Q E → vs.length = np := by
  rintro vs H Q E ⟨X, hd, args, Qd, Qx, _, _, sl, h, _⟩
  rw [sl.length]; exact hF _ _ _ h
/-- where a body begins -/
theorem rep_start {K : PySem.W.Frag} {X : Addr → Prop} {hd : Hnd} {H : Hp} {E : L2.St → XK} {vs : List V} {args : List Sl} {N : List Str} (al : ∀ a, X a → ∃ o, H a = some o) (hh : ∀ h c, hd = some (h, c) → X h ∧ HandC H h c) (sl : SlAll K hd X H vs args) :
    Rep ⟨K, H, X, hd, none, E, none⟩ X (args ++ List.replicate (N.length - args.length) .no) (L2.start N vs) H := by
  have hl := sl.length
  have slots : ∀ {vs : List V} {args : List Sl}, SlAll K hd X H vs args → ∀ (i : Nat) (s : Sl), args[i]? = some s → (∃ o, (vs.map some)[i]? = some o ∧ SlRep ⟨K, H, X, hd, none, E, none⟩ X H s o) ∧ ∀ xs, s ≠ .own xs := by
    intro vs args sl
    induction sl with
    | nil => intro i s e; simp at e
    | d a r ih =>
      intro i s e
      cases i with
      | zero => simp at e; subst e; exact ⟨⟨_, rfl, _, rfl, a⟩, fun _ z => by cases z⟩
      | succ i =>
        obtain ⟨⟨o, q⟩, n⟩ := ih i s (by simpa using e)
        exact ⟨⟨o, by simpa using q⟩, n⟩
    | hand a r ih =>
      intro i s e
      cases i with
      | zero => simp at e; subst e; exact ⟨⟨_, rfl, _, _, rfl, a⟩, fun _ z => by cases z⟩
      | succ i =>
        obtain ⟨⟨o, q⟩, n⟩ := ih i s (by simpa using e)
        exact ⟨⟨o, by simpa using q⟩, n⟩
  have slotsI : ∀ {vs : List V} {args : List Sl}, SlAll K hd X H vs args → ∀ (i : Nat) (C0 : Str) (ns : List Str) (ds : List Dt), args[i]? ≠ some (.ins C0 ns ds) := by
    intro vs args sl
    induction sl with
    | nil => intro i C0 ns ds e; simp at e
    | d a r ih =>
      intro i C0 ns ds e
      cases i with
      | zero => simp at e
      | succ i => exact ih i C0 ns ds (by simpa using e)
    | hand a r ih =>
      intro i C0 ns ds e
      cases i with
      | zero => simp at e
      | succ i => exact ih i C0 ns ds (by simpa using e)
  have noins : ∀ (i : Nat) (C0 : Str) (ns : List Str) (ds : List Dt), (args ++ List.replicate (N.length - args.length) Sl.no)[i]? ≠ some (.ins C0 ns ds) := fun i C0 ns ds e => by
    rw [List.getElem?_append] at e
    split at e
    · exact slotsI sl i C0 ns ds e
    · rw [List.getElem?_replicate] at e
      split at e <;> cases e
  have noown : ∀ (i : Nat) (xs : Ow), (args ++ List.replicate (N.length - args.length) Sl.no)[i]? ≠ some (.own xs) := fun i xs e => by
    rw [List.getElem?_append] at e
    split at e
    · exact (slots sl i _ e).2 xs rfl
    · rw [List.getElem?_replicate] at e
      split at e <;> cases e
  refine ⟨?_, fun a z => z, fun a z => .inl z, al, .refl H, fun h c e => ⟨(hh h c e).1, (hh h c e).2, (hh h c e).2⟩, fun i s e => ?_, fun i j xs ys n e1 e2 => absurd e1 (noown i xs), fun i ⟨C0, ns, ds, e⟩ => absurd e (noins i C0 ns ds)⟩
  · unfold L2.start
    rw [List.length_append, List.length_append, List.length_replicate, List.length_replicate, List.length_map, hl]
  · unfold L2.start
    rw [List.getElem?_append] at e ⊢
    rw [List.length_map, hl]
    split at e
    · rename_i c
      rw [if_pos c]
      obtain ⟨⟨o, q⟩, _⟩ := slots sl i s e
      exact ⟨o, q⟩
    · rename_i c
      rw [if_neg c]
      rw [List.getElem?_replicate] at e ⊢
      split at e
      · rename_i c2
        cases e
        rw [if_pos c2]
        exact ⟨_, rfl, trivial⟩
      · cases e
/-- the reading of a whole body -/
theorem body_of {K : PySem.W.Frag} {N : List Str} {np n : Nat} {sb : DSt} {t : TS} {vs : List V} {H : Hp} {Q : VK} {E : XK} (hn : N.length = n) (h : spD K (mkD np n sb) vs H Q E)
    (hb : ∀ X hd, DS ⟨K, H, X, hd, none, fun _ => E, none⟩ t sb) : t { nx := fun _ H' => Q .non H', rt := Q } (L2.start N vs) H := by
  obtain ⟨X, hd, args, Qd, Qx, al, hh, sl, ⟨ha, h⟩, q, x⟩ := h
  have r := rep_start (N := N) (E := fun _ => E) al hh sl
  rw [ha, hn] at r
  refine hb X hd X _ _ H _ _ r ⟨fun X' env σ H' r' s' h' => q _ _ H' r'.frm .non h', fun X' env σ H' v z r' s' w h' => q z v H' r'.frm (w.mono (vis_anti r'.sup)) h', fun _ _ _ _ _ _ (h' : False) => h'.elim, fun _ _ _ _ _ _ (h' : False) => h'.elim, fun X' env σ H' z cls dx r' s' w h' => x z cls dx H' r'.frm (w.mono (vis_anti r'.sup)) h'⟩ h
theorem body_of0 {K : PySem.W.Frag} {N : List Str} {np n : Nat} {sb : DSt} {t : TS} {vs : List V} {H : Hp} {Q : VK} {E : XK} (hn : N.length = n) (h : spD K (mkD0 np n sb) vs H Q E)
    (hb : ∀ X hd, DS ⟨K, H, X, hd, none, fun _ _ _ _ => False, none⟩ t sb) : t { nx := fun _ H' => Q .non H', rt := Q } (L2.start N vs) H := by
  obtain ⟨X, hd, args, Qd, Qx, al, hh, sl, ⟨ha, h⟩, q, x⟩ := h
  have r := rep_start (N := N) (E := fun _ _ _ _ => False) al hh sl
  rw [ha, hn] at r
  refine hb X hd X _ _ H _ _ r ⟨fun X' env σ H' r' s' h' => q _ _ H' r'.frm .non h', fun X' env σ H' v z r' s' w h' => q z v H' r'.frm (w.mono (vis_anti r'.sup)) h', fun _ _ _ _ _ _ (h' : False) => h'.elim, fun _ _ _ _ _ _ (h' : False) => h'.elim, fun _ _ _ _ _ _ _ _ _ _ (h' : False) => h'.elim⟩ h
end Mine

namespace Mine
open PySem PySem.Spec PyProof.Rows L2
/-! ### comprehensions of two clauses -/
def lcIn (f : DGX) (tt : DTX) (te : DX) (env : List Sl) (K : List Dt → Prop) : List Dt → List Dt → Prop
  | [], acc => K acc
  | x :: xs, acc => f x env fun env' => tt env' (fun b => if b = true then te env' (fun y => acc.length < LINE ∧ lcIn f tt te env K xs (acc ++ [y])) (fun _ => False) else lcIn f tt te env K xs acc) fun _ => False
def lcGo2 (f : DGX) (tt : DTX) (src1 : DAX) (f1 : DGX) (tt1 : DTX) (te : DX) (vs1 : List Nat) (env : List Sl) (Q : Dt → Prop) : List Dt → List Dt → Prop
  | [], acc => Q (.lst acc)
  | x :: xs, acc => f x env fun env' => tt env' (fun b => if b = true then src1 env' (fun ds1 => lcIn f1 tt1 te (wipeS env' vs1) (fun acc' => lcGo2 f tt src1 f1 tt1 te vs1 env Q xs acc') ds1 acc) (fun _ => False)
      else lcGo2 f tt src1 f1 tt1 te vs1 env Q xs acc) fun _ => False
def eLc2 (src : DAX) (f : DGX) (tt : DTX) (src1 : DAX) (f1 : DGX) (tt1 : DTX) (te : DX) (vs1 vs : List Nat) : DX := fun env Q E => src env (fun ds => lcGo2 f tt src1 f1 tt1 te vs1 (wipeS env vs) Q ds []) E
section
variable {C : Bc} {X : Addr → Prop} {env : List Sl} {σ : L2.St} {H : Hp}
theorem Rep.updHid {D : Addr} (r : Rep C X env σ H) (xD : X D) (h0 : C.H0 D = none) (no : ∀ (i : Nat) (xs : Ow), env[i]? = some (Sl.own xs) → σ[i]? ≠ some (some (.ref D))) {us0 : List V} (hD : H D = some (.lst us0)) (o : HO) :
    Rep C X env σ (upd H D o) ∧ Same (vis H X) (vis (upd H D o) X) := by
  have sm : Same (vis H X) (vis (upd H D o) X) := fun a u q => by
    obtain ⟨n1, e1⟩ := vis_of q
    exact vis_mk n1 (by rw [upd_ne (fun (z : a = D) => n1 (by rw [z]; exact xD))]; exact e1)
  have fm : Frm C.hd C.H0 (upd H D o) := by
    refine ⟨fun a u q k => ?_, fun h c q x => ?_⟩
    · rw [upd_ne (ne_of_none q h0)]; exact r.frm.1 a u q k
    · have y := r.frm.2 h c q x
      obtain ⟨_, _, _, _, a1, a2, _⟩ := x
      obtain ⟨cells, at_, big, mix, b1, b2, b3⟩ := y
      exact ⟨cells, at_, big, mix, by rw [upd_ne (ne_of_none a1 h0)]; exact b1, by rw [upd_ne (ne_of_none a2 h0)]; exact b2, b3⟩
  refine ⟨⟨r.len, r.sup, r.new, fun a z => ?_, fm, fun h c q => ⟨(r.hands h c q).1, (r.hands h c q).2.1, fm.2 h c q (r.hands h c q).2.1⟩, fun j s q => ?_, r.inj, r.one⟩, sm⟩
  · by_cases c : a = D
    · subst c; exact ⟨_, upd_same⟩
    · obtain ⟨u, q⟩ := r.al a z
      exact ⟨u, by rw [upd_ne c]; exact q⟩
  · obtain ⟨u, e1, w⟩ := r.slot j s q
    refine ⟨u, e1, ?_⟩
    cases s with
    | no => trivial
    | d x => obtain ⟨v, e2, h⟩ := w; exact ⟨v, e2, h.mono sm⟩
    | own ys =>
      obtain ⟨p', us, rfl, y1, y2, y3, y4⟩ := w
      have ne : p' ≠ D := fun z => no j ys q (by rw [e1, z])
      exact ⟨p', us, rfl, y1, y2, by rw [upd_ne ne]; exact y3, y4.mono sm⟩
    | hand => exact w
    | exc c' fs => exact w.exc sm
    | ins C0 ns ds =>
      obtain ⟨p', dx, us, rfl, y1, y2, y3, yl, y4⟩ := w
      have ne : p' ≠ D := fun z => by rw [z, hD] at y3; cases y3
      exact ⟨p', dx, us, rfl, y1, y2, by rw [upd_ne ne]; exact y3, yl, y4.mono sm⟩
theorem own_wiped : ∀ (vs : List Nat) (k : Nat) (xs : Ow), (wipeS env vs)[k]? = some (Sl.own xs) → env[k]? = some (Sl.own xs) ∧ (wipe σ vs)[k]? = σ[k]?
  | [], k, xs, e => ⟨e, rfl⟩
  | v :: vs, k, xs, e => by
    have e : ((wipeS env vs).set v .no)[k]? = some (Sl.own xs) := e
    rw [List.getElem?_set] at e
    have a : v ≠ k := fun c => by
      subst c
      rw [if_pos rfl] at e
      split at e <;> cases e
    rw [if_neg a] at e
    obtain ⟨h1, h2⟩ := own_wiped vs k xs e
    refine ⟨h1, ?_⟩
    show ((wipe σ vs).set v none)[k]? = _
    rw [List.getElem?_set, if_neg a]; exact h2
end
theorem df_lc2 {C : Bc} {wi wi1 : TI} {g g1 : TG} {tt tt1 : TT} {te : TE} {vs vs1 js : List Nat} {src src1 : DAX} {f f1 : DGX} {et et1 : DTX} {ee : DX} (hi : DIg Weak C wi src) (hg : DG C g js f) (ht : DT C tt et)
    (hi1 : DIg Strong C wi1 src1) (hg1 : DG C g1 vs1 f1) (ht1 : DT C tt1 et1) (he : DE C te ee) (hjs : ∀ k ∈ js, k ∈ vs) : DF C (tLc2 wi g tt wi1 g1 tt1 te vs vs1) (eLc2 src f et src1 f1 et1 ee vs1 vs) := by
  intro X env σ H Q Qd Qx rp h q x
  refine hi X env σ H _ _ Qx rp h (fun ds J H1 f1' w h1 => ?_) x
  show ∀ D, H1 D = none → _
  intro D hD
  have rp1 := rp.step f1'
  let go := lcGo2 f et src1 f1 et1 ee vs1 (wipeS env vs) Qd
  let W : Nat → Nat → Hp → Prop := fun i m H2 => m + i = ds.length ∧ Frm C.hd H1 H2 ∧ ∃ acc us, H2 D = some (.lst us) ∧ DenAll C.K (vis H2 fun a => X a ∨ a = D) us acc ∧ go (ds.drop i) acc
  refine ⟨W, ⟨ds.length, rfl, .upd hD, [], [], upd_same, .nil, h1⟩, fun i m H2 ⟨hm, f2, acc, us, hD2, a2, hgo⟩ => ?_⟩
  have rpY : Rep C (fun a => X a ∨ a = D) env σ H2 := rp1.hide hD f2 ⟨_, hD2⟩
  have rpW := rpY.wiped vs
  have sW : Weak C X H1 (fun a => X a ∨ a = D) H2 := ⟨f2, rp1.hX, fun a z => z.imp id fun (e : a = D) => by rw [e]; exact hD, rpY.al⟩
  have hw := w _ i H2 sW
  have nh : ∀ h c, C.hd = some (h, c) → D ≠ h := fun h c e z => by
    obtain ⟨_, _, _, _, q, _⟩ := (rp1.hands h c e).2.2
    rw [z, q] at hD; cases hD
  have h0D : C.H0 D = none := rp1.h0 hD
  have noD : ∀ (i : Nat) (xs : Ow), (wipeS env vs)[i]? = some (Sl.own xs) → (wipe σ vs)[i]? ≠ some (some (.ref D)) := fun i xs e z => by
    obtain ⟨e1, e2⟩ := own_wiped (σ := σ) vs i xs e
    rw [e2] at z
    obtain ⟨p, vs', es, x1, x2, y1, y2⟩ := rp1.ownAtO e1
    rw [es] at z
    injection z with z; injection z with z; injection z with z
    rw [z, hD] at y1; cases y1
  by_cases c : i < ds.length
  · obtain ⟨g1', g2⟩ := hw.1 c
    refine .inr ⟨g1', W (i + 1) (m - 1), fun H' hW => ⟨m - 1, by omega, hW⟩, fun y H3 hy => ?_⟩
    obtain ⟨s3, d, hd, den⟩ := g2 y H3 hy
    have ed : ds.drop i = d :: ds.drop (i + 1) := by
      rw [List.drop_eq_getElem_cons c]
      congr 1
      rw [List.getElem?_eq_getElem c] at hd
      exact Option.some.inj hd
    rw [ed] at hgo
    have step : ∀ H5, Frm C.hd H3 H5 → Frm C.hd H1 H5 ∧ H5 D = some (.lst us) ∧ DenAll C.K (vis H5 fun a => X a ∨ a = D) us acc := fun H5 f5 => by
      have f25 : Frm C.hd H2 H5 := (Frm.same s3).trans f5
      exact ⟨f2.trans f25, f25.1 D _ hD2 nh, a2.mono (rpY.vs f25)⟩
    refine hg _ _ _ H3 y d _ _ (rpW.step (.same s3)) den hgo fun env' σ' rp' he' hl hk ho => ⟨wipe_of hl fun k nk => hk k fun z => nk (hjs k z), ?_⟩
    have noD' : ∀ (i : Nat) (xs : Ow), env'[i]? = some (Sl.own xs) → σ'[i]? ≠ some (some (.ref D)) := fun i xs e => by
      obtain ⟨e1, e2⟩ := ho i xs e
      rw [e2]; exact noD i xs e1
    refine ht _ env' σ' H3 _ _ _ rp' he' (fun b H4 f4 hb => ?_) xok_no
    cases b with
    | false =>
      rw [if_neg (by decide)] at hb ⊢
      obtain ⟨k1, k2, k3⟩ := step H4 f4
      exact ⟨by omega, k1, acc, us, k2, k3, hb⟩
    | true =>
      rw [if_pos rfl] at hb ⊢
      refine hi1 _ env' σ' H4 _ _ _ (rp'.step f4) hb (fun ds1 J1 H5 f5 w1 hb5 => ?_) xok_no
      obtain ⟨k1, k2, k3⟩ := step H5 (f4.trans f5)
      have rp5 := (rp'.step f4).step f5
      let W1 : Nat → Nat → Hp → Prop := fun j k H6 => k + j = ds1.length ∧ Rep C (fun a => X a ∨ a = D) env' σ' H6 ∧ Same (vis H5 fun a => X a ∨ a = D) (vis H6 fun a => X a ∨ a = D) ∧ Frm C.hd H1 H6 ∧
        ∃ acc us, H6 D = some (.lst us) ∧ DenAll C.K (vis H6 fun a => X a ∨ a = D) us acc ∧ lcIn f1 et1 ee (wipeS env' vs1) (fun acc' => go (ds.drop (i + 1)) acc') (ds1.drop j) acc
      refine ⟨W1, ⟨ds1.length, rfl, rp5, Same.refl _, k1, acc, us, k2, k3, hb5⟩, fun j k H6 ⟨hk', rp6, sm6, f6, acc, us, hD6, a6, hin⟩ => ?_⟩
      have hw1 := w1 _ j H6 ⟨sm6, rp6.al⟩
      by_cases c1 : j < ds1.length
      · obtain ⟨q1, q2⟩ := hw1.1 c1
        refine .inr ⟨q1, W1 (j + 1) (k - 1), fun H' hW => ⟨k - 1, by omega, hW⟩, fun y1 H7 hy1 => ?_⟩
        obtain ⟨s7, d1, hd1, den1⟩ := q2 y1 H7 hy1
        have ed1 : ds1.drop j = d1 :: ds1.drop (j + 1) := by
          rw [List.drop_eq_getElem_cons c1]
          congr 1
          rw [List.getElem?_eq_getElem c1] at hd1
          exact Option.some.inj hd1
        rw [ed1] at hin
        have rp7 := rp6.step (.same s7)
        have rpV := rp7.wiped vs1
        refine hg1 _ _ _ H7 y1 d1 _ _ rpV den1 hin fun env2 σ2 rp2 he2 hl2 hk2 ho2 => ⟨wipe_of hl2 hk2, ?_⟩
        have step1 : ∀ H8, Frm C.hd H7 H8 → Frm C.hd H1 H8 ∧ H8 D = some (.lst us) ∧ DenAll C.K (vis H8 fun a => X a ∨ a = D) us acc ∧ Rep C (fun a => X a ∨ a = D) env' σ' H8 ∧ Same (vis H5 fun a => X a ∨ a = D) (vis H8 fun a => X a ∨ a = D) := fun H8 f8 => by
          have f68 : Frm C.hd H6 H8 := (Frm.same s7).trans f8
          exact ⟨f6.trans f68, f68.1 D _ hD6 nh, a6.mono (rp6.vs f68), rp6.step f68, sm6.trans (rp6.vs f68)⟩
        refine ht1 _ env2 σ2 H7 _ _ _ rp2 he2 (fun b1 H8 f8 hb8 => ?_) xok_no
        cases b1 with
        | false =>
          rw [if_neg (by decide)] at hb8 ⊢
          obtain ⟨l1, l2, l3, l4, l5⟩ := step1 H8 f8
          exact ⟨by omega, l4, l5, l1, acc, us, l2, l3, hb8⟩
        | true =>
          rw [if_pos rfl] at hb8 ⊢
          refine he _ env2 σ2 H8 _ _ _ (rp2.step f8) hb8 (fun y2 v2 H9 f9 den9 hb9 => ?_) xok_no
          obtain ⟨l1, l2, l3, l4, l5⟩ := step1 H9 (f8.trans f9)
          obtain ⟨r10, sv⟩ := l4.updHid (D := D) (.inr rfl) h0D noD' l2 (.lst (us ++ [v2]))
          have den9 : Den C.K (vis H9 fun a => X a ∨ a = D) v2 y2 := den9
          refine ⟨us, l2, by rw [l3.length, sizeLine_eq]; exact hb9.1, by omega, r10, l5.trans sv, frm_put rp1 hD l1, acc ++ [y2], us ++ [v2], upd_same, (l3.snoc den9).mono sv, hb9.2⟩
      · have e : ds1.drop j = [] := List.drop_eq_nil_of_le (by omega)
        rw [e] at hin
        exact .inl ⟨hw1.2 (by omega), by omega, f6, acc, us, hD6, a6, hin⟩
  · have e : ds.drop i = [] := List.drop_eq_nil_of_le (by omega)
    rw [e] at hgo
    exact .inl ⟨hw.2 (by omega), q _ _ H2 (f1'.trans f2) ⟨D, us, acc, rfl, rfl, f1'.free (fun h c e => (rp.hands h c e).2.2) hD, hD2, a2⟩ hgo⟩
/-! ### not, by truth -/
def eNotVT (a : DX) : DX := fun env Q E => a env (fun d => dTru d fun c => Q (.bl (!c))) E
def tNotVT (K : PySem.W.Frag) (ta : TE) : TE := L2.tNotT K ta
theorem pe_notVT {X : Cx} {K : PySem.W.Frag} {a : Expr} {ta : TE} {pos : Pos} (e : X.K = K) (ha : PE X a ta) : PE X (.UnaryOp .Not a pos) (tNotVT K ta) := e ▸ pe_notT ha
theorem de_notVT {C : Bc} {ta : TE} {ea : DX} (h : DB C ta ea) : DE C (tNotVT C.K ta) (eNotVT ea) := by
  intro X env σ H Q Qd Qx rp he q x
  refine h X env σ H _ _ Qx rp he (fun d v H1 f1 r1 he1 => ?_) x
  obtain ⟨k, h1, h2⟩ := r1.tru (rp.step f1) he1
  exact ⟨k, h1, q _ _ _ f1 (.bl _) h2⟩
end Mine

namespace Mine
open PySem PySem.Spec PyProof.Rows L2
/-! ### the hand -/
/-- the hand at h: its cells at c -/
def HandAt (H : Hp) (h : Addr) : Prop := ∃ (c : Addr) (cells : List Int) (at_ : Nat) (big mix : Int), H h = some (.lst [.ref c, .int at_, .int big, .int mix]) ∧ H c = some (.lst (cells.map V.int)) ∧
  (∀ z ∈ cells, 0 ≤ z) ∧ at_ ≤ cells.length ∧ cells.length ≤ 63 ∧ 0 ≤ big ∧ 0 ≤ mix ∧ mix < 2147483563
def sp_hand (K : PySem.W.Frag) : Sp := fun vs H Q _ => ∃ (a : Addr) (ns : List Int), vs = [.ref a] ∧ SqL K H a (ns.map V.int) ∧ ns.length ≤ 63 ∧ ∀ H' h, Same H H' → H h = none → HandAt H' h → Q (.ref h) H'
def i_hand (H : Hp) (a c : Addr) (i : Nat) (σ : L2.St) (H' : Hp) : Prop := ∃ (tot : Int) (v3 : Option V) (cells : List Int), σ = [some (.ref a), some (.int tot), some (.ref c), v3] ∧ cells.length = i ∧ H' c = some (.lst (cells.map V.int)) ∧
  (∀ z ∈ cells, 0 ≤ z) ∧ Same H H' ∧ 0 ≤ tot ∧ tot < 2147483563
def mixedN (n t : Int) : Int :=
  ((((n * 39373 + t * 6151 + 50021) % 2147483399 * ((n * 39373 + t * 6151 + 50021) % 2147483399) + t * 81071 + (n * 39373 + t * 6151 + 50021) % 2147483399 / 137) % 2147483629 * 62089 +
    (n * 39373 + t * 6151 + 50021) % 2147483399 / 11) % 2147483587) / 64
theorem mixedN_pos (n t : Int) : 0 ≤ mixedN n t := Int.ediv_nonneg (Int.emod_nonneg _ (by decide)) (by decide)
def sp_mixed : Sp := fun vs H Q _ => ∃ n t : Int, vs = [.int n, .int t] ∧ (-(2 ^ 40) < n ∧ n < 2 ^ 40 ∧ -(2 ^ 40) < t ∧ t < 2 ^ 40) ∧ ∀ r, 0 ≤ r → Q (.int r) H
/-- what a drawing may make of the hand -/
def HandN (H : Hp) (h : Addr) (o : HO) : Prop := HandAt (upd H h o) h ∧ ∃ c r r', H h = some (.lst (V.ref c :: r)) ∧ o = .lst (V.ref c :: r')
def sp_take : Sp := fun vs H Q _ => ∃ (h : Addr) (m : Int), vs = [.ref h, .int m] ∧ HandAt H h ∧ 0 < m ∧ m < 1073741824 ∧ ∀ r o, 0 ≤ r → r < m → HandN H h o → Q (.int r) (upd H h o)
/-- a drawing, by data: any number below m -/
def F_law_take : DFn := fun args Q _ => match args with
  | [.hand, .d (.int m)] => (0 < m ∧ m < 1073741824) ∧ ∀ r : Nat, (r : Int) < m → Q (.int r)
  | _ => False
theorem take_spD {K : PySem.W.Frag} : ∀ vs H Q E, spD K F_law_take vs H Q E → sp_take vs H Q E := by
  rintro vs H Q E ⟨X, hd, args, Qd, Qx, al, hh, sl, hF, q, _⟩
  unfold F_law_take at hF
  split at hF
  · obtain ⟨⟨h1, h2⟩, hr⟩ := hF
    cases sl with
    | @hand h c vs ss e sl =>
      cases sl with
      | d den sl =>
        cases sl
        have ev := den.flat rfl
        subst ev
        obtain ⟨xh, cells, at_, big, mix, hH, hC, r⟩ := hh h c e
        refine ⟨h, _, rfl, ⟨c, cells, at_, big, mix, hH, hC, r⟩, h1, h2, fun z o z1 z2 hn => ?_⟩
        obtain ⟨⟨c2, cells2, at2, big2, mix2, hH2, hC2, rr⟩, c3, r1, r2, e1, rfl⟩ := hn
        rw [hH] at e1
        rw [upd_same] at hH2
        cases e1
        cases hH2
        have := q (.int z) (.int z) (upd H h (.lst [V.ref c, .int at2, .int big2, .int mix2])) ⟨fun b u eb nb => by rw [upd_ne (nb h c e)]; exact eb, fun h' c' e' _ => by
          rw [e] at e'
          cases e'
          exact ⟨cells2, at2, big2, mix2, upd_same, hC2, rr⟩⟩ (.int _) (by have := hr z.toNat (by omega); rwa [Int.toNat_of_nonneg z1] at this)
        exact this
  · exact hF.elim
/-! ### the law itself -/
def sp_law (K : PySem.W.Frag) : Sp := fun vs H Q _ => ∃ (a : Addr) (ns : List Int), vs = [.ref a] ∧ SqL K H a (ns.map V.int) ∧ ns.length ≤ 63 ∧ ∀ H', Q (.bl true) H'
/-- what is left of a law: its text behind the hand's making gives True, whatever is drawn -/
def LawGoal (n : Nat) (s : DSt) : Prop := s ⟨fun _ => False, fun d => d = .bl true, fun _ => False, fun _ => False, fun _ _ => False⟩ (.no :: .hand :: List.replicate n .no)
theorem body_law {K : PySem.W.Frag} {N : List Str} {n : Nat} {sb : DSt} {t : TS} {vs : List V} {H : Hp} {Q : VK} {E : XK} (hn : N.length = n + 2) (h : sp_law K vs H Q E) (g : LawGoal n sb)
    (hb : ∀ H X hd, DS ⟨K, H, X, hd, none, fun _ _ _ _ => False, none⟩ t sb) : tSeq (tAsg (tCall (sp_hand K) [] E0 (tCons (tVar 0) tNil)) (gName 1)) t { nx := fun _ H' => Q .non H', rt := Q } (L2.start N vs) H := by
  obtain ⟨a, ns, rfl, hS, hl, q⟩ := h
  refine ⟨.ref a, rfl, a, ns, rfl, hS, hl, fun H' h s hn' hA => ?_⟩
  obtain ⟨c, cells, at_, big, mix, hH, hC, r⟩ := hA
  have hc : HandC H' h c := ⟨cells, at_, big, mix, hH, hC, r⟩
  have es : (L2.start N [V.ref a]).set 1 (some (.ref h)) = some (.ref a) :: some (.ref h) :: List.replicate n none := by
    unfold L2.start
    have e : N.length - 1 = n + 1 := by omega
    show (some (V.ref a) :: List.replicate (N.length - 1) none).set 1 _ = _
    rw [e]
    rfl
  have rp : Rep ⟨K, H', fun z => z = h, some (h, c), none, fun _ _ _ _ => False, none⟩ (fun z => z = h) (.no :: .hand :: List.replicate n .no) ((L2.start N [V.ref a]).set 1 (some (.ref h))) H' := by
    rw [es]
    refine ⟨by simp, fun z e => e, fun z e => .inl e, fun z e => ⟨.lst [V.ref c, V.int ↑at_, V.int big, V.int mix], by rw [show z = h from e]; exact hH⟩, .refl _, fun h' c' e => ?_, fun i sl e => ?_, fun i j xs ys _ e1 _ => ?_, fun i ⟨C0, ns0, ds0, e1⟩ => ?_⟩
    · cases e; exact ⟨rfl, hc, hc⟩
    · match i, e with
      | 0, e => cases e; exact ⟨_, rfl, trivial⟩
      | 1, e => cases e; exact ⟨_, rfl, h, c, rfl, rfl⟩
      | i + 2, e =>
        have e : (List.replicate n Sl.no)[i]? = some sl := e
        rw [List.getElem?_replicate] at e
        split at e
        · rename_i hi
          cases e
          exact ⟨none, by show (List.replicate n none)[i]? = _; rw [List.getElem?_replicate, if_pos hi], trivial⟩
        · cases e
    · match i, e1 with
      | 0, e1 => cases e1
      | 1, e1 => cases e1
      | i + 2, e1 =>
        have e1 : (List.replicate n Sl.no)[i]? = some (.own xs) := e1
        rw [List.getElem?_replicate] at e1
        split at e1 <;> cases e1
    · match i, e1 with
      | 0, e1 => rfl
      | 1, e1 => cases e1
      | i + 2, e1 =>
        have e1 : (List.replicate n Sl.no)[i]? = some (.ins C0 ns0 ds0) := e1
        rw [List.getElem?_replicate] at e1
        split at e1 <;> cases e1
  refine hb _ _ _ _ _ _ _ { nx := fun _ H' => Q .non H', rt := Q } _ rp ⟨fun _ _ _ _ _ _ (h' : False) => h'.elim, fun X' env σ H2 v z r' s' w h' => ?_, fun _ _ _ _ _ _ (h' : False) => h'.elim, fun _ _ _ _ _ _ (h' : False) => h'.elim, fun _ _ _ _ _ _ _ _ _ _ (h' : False) => h'.elim⟩ g
  have h' : z = .bl true := h'
  subst h'
  have ev := w.flat rfl
  subst ev
  exact q H2
/-! ### monotone, for errors' fields -/
theorem mon_call {K : PySem.W.Frag} {F : DFn} {dvs : List V} {E : XK} {t : TA} (m : ∀ σ H (Q Q' : List V → Hp → Prop), (∀ v H', Q v H' → Q' v H') → t σ H Q → t σ H Q') : Mon (tCall (spD K F) dvs E t) := fun σ H Q Q' h q =>
  m σ H _ _ (fun vs H1 ⟨X, hd, args, Qd, Qx, a, b, c, d, e, f⟩ => ⟨X, hd, args, Qd, Qx, a, b, c, d, fun d v H' fr de qd => h _ _ (e d v H' fr de qd), f⟩) q
end Mine

namespace Mine
open PySem PySem.Spec PyProof.Rows L2
/-! ### zip of two lists, two tuples, a tuple and a list -/
/-- by data; two lists, two tuples, a tuple and a list -/
def eZip (a b : DX) : DAX := fun env Q E => a env (fun d1 => b env (fun d2 => match d1, d2 with
  | .lst xs, .lst ys => Q (List.zipWith (fun x y => .tup [x, y]) xs ys)
  | .tup xs, .lst ys => xs.length = ys.length ∧ Q (List.zipWith (fun x y => .tup [x, y]) xs ys)
  | .tup xs, .tup ys => xs.length = ys.length ∧ Q (List.zipWith (fun x y => .tup [x, y]) xs ys)
  | _, _ => False) E) E
section
variable {C : Bc}
end
end Mine
namespace Mine
open PySem PySem.Spec PyProof.Rows L2
theorem ix_U {X : Cx} {K : PySem.W.Frag} (e : X.K = K) : IxR X (rIx K) := e ▸ ix_seq
end Mine
namespace Mine
open PySem PySem.Spec PyProof.Rows L2
theorem op_eqU {X : Cx} {K : PySem.W.Frag} (e : X.K = K) (hu : X.A.units + 64 < cLine) : OpR X (compareOp .Eq) (rEqD K) := e ▸ op_eqD hu
theorem op_neU {X : Cx} {K : PySem.W.Frag} (e : X.K = K) (hu : X.A.units + 64 < cLine) : OpR X (compareOp .NotEq) (rNeD K) := e ▸ op_neD hu
end Mine
namespace Mine
open PySem PySem.Spec PyProof.Rows L2
theorem dst_of {C : Bc} {t : TS} {s s' : DSt} (e : s = s') (h : DS C t s') : DS C t s := e ▸ h
end Mine

namespace L2
open PySem PySem.Spec PyProof.Rows
theorem mine_evalArgs_kw {M : Model} {A : Around} {E : Value → Shared → Prop} {s : Shared} {f : Value} {x : Sem Value} {rest : List (Bool × Sem Value)} {keywords : List (Option Str × Sem Value)} {Q : Args → Shared → Prop}
    (hall : keywords.all (·.1.isSome) = true)
    (h : wpAny M A (spliced ((false, x) :: rest)) (fun vs s₁ => wpAny M A (evalAll (keywords.map (·.2))) (fun kvs s₂ => Q ⟨vs, (keywords.filterMap (·.1)).zip kvs⟩ s₂) E s₁) E s) :
    wpAny M A (evalArgs f true ((false, x) :: rest) keywords) Q E s := by
  unfold evalArgs
  show wpAny M A (spliced ((false, x) :: rest) >>= _) Q E s
  refine wpAny_bind (wpAny_mono h (fun vs s' h' => ?_) fun _ _ x => x)
  refine wpAny_holding ?_
  rw [if_pos hall]
  refine wpAny_bind (wpAny_mono h' (fun kvs s₂ h₂ => ?_) fun _ _ x => x)
  exact wpAny_bind (wpAny_pure (wpAny_pure h₂))
theorem mine_callWith_type_kw {M : Model} {A : Around} {E : Value → Shared → Prop} {s : Shared} {env : Env} {pos : Pos} {T : String} {e : Expr} {rest : List Expr} {kws : List Keyword} {Q : Value → Shared → Prop}
    (h : wpAny M A (spliced (backTo pos (starEach (e :: rest) env))) (fun vs s₁ => wpAny M A (evalAll ((backToKw pos (keywordEach kws env)).map (·.2)))
      (fun kvs s₂ => wpAny M A (call (.type T) vs (((backToKw pos (keywordEach kws env)).filterMap (·.1)).zip kvs)) Q E s₂) E s₁) E s)
    (he : backTo pos (starEach (e :: rest) env) = (false, eval e env) :: backTo pos (starEach rest env) := by rfl)
    (hplain : (backTo pos (starEach (e :: rest) env)).any (·.1) = false := by rfl)
    (hall : (backToKw pos (keywordEach kws env)).all (·.1.isSome) = true := by rfl)
    (hkw : (backToKw pos (keywordEach kws env)).any (·.1.isNone) = false := by rfl) :
    wpAny M A (callWith pos (.type T) [] (backTo pos (starEach (e :: rest) env)) (backToKw pos (keywordEach kws env))) Q E s := by
  unfold callWith
  rw [he] at h ⊢
  refine wpAny_bind (wpAny_holding (mine_evalArgs_kw hall (wpAny_mono h (fun vs s₁ h₁ => wpAny_mono h₁ (fun kvs s₂ h₂ => wpAny_bind (wpAny_standAt ?_)) fun _ _ x => x) fun _ _ x => x)))
  rw [← he]
  simp only [hplain, hkw, Bool.or_false]
  refine wpAny_bind (wpAny_pure ?_)
  exact wpAny_bind (wpAny_mono h₂ (fun r s₂ hr => wpAny_bind (wpAny_holding (wpAny_point (wpAny_pure hr)))) fun _ _ x => x)
end L2
namespace Mine
open PySem PySem.Spec PyProof.Rows L2
/-! ### enumerate(t, start=k), t a tuple -/
def IteTk (K : PySem.W.Frag) (k : Int) (a : Addr) : It :=
  ⟨fun i H => ∃ (xs : List V) (x : V), SqT K H a xs ∧ xs[i]? = some x, fun i H v H' => ∃ T x, v = .ref T ∧ H T = none ∧ H' = upd H T (.tup [.int (k + (i : Nat)), x]) ∧ ∀ xs, SqT K H a xs → xs[i]? = some x, fun i H => ∃ xs : List V, SqT K H a xs ∧ xs.length ≤ i⟩
theorem turn_enumTk {P : Program} {w : World} {K : PySem.W.Frag} {elts : List Expr} {kk : Nat} {tpos : Pos} (k : Int) (a e it : Addr) (ha : a ≠ it) (hae : e ≠ a) :
    Turn P w K (.Tuple elts kk tpos) (IteTk K k a) [e, it] e (fun i h => (∃ old, IsEnum h e it (k + ((i : Nat) : Int)) old) ∧ h.IsTupleIter it a i ∧ e ≠ it) where
  mem := by simp
  obj := fun i h st b hb => by
    obtain ⟨⟨old, he⟩, ⟨o, ho, hc, hd⟩, _⟩ := st
    have e' : b = e ∨ b = it := by simpa using hb
    rcases e' with z | z
    · rw [z]; exact ⟨_, he, fun v q => nomatch q⟩
    · rw [z]; exact ⟨o, ho, fun v q => by rw [hd] at q; cases q⟩
  keep := fun i h h' st k => let ⟨⟨old, he⟩, hi, hne⟩ := st; ⟨⟨old, k e (by simp) _ he⟩, hi.at fun o q => k it (by simp) o q, hne⟩
  item := by
    intro X hP hw hK hc i pins s σ H E I hf st hg
    subst hP hw hK
    obtain ⟨⟨old, he⟩, hit, hne⟩ := st
    obtain ⟨xs, x, hq, hx⟩ := hg
    obtain ⟨its, rv, p, hz⟩ := I.tuple hq
    obtain ⟨u, hu, ru⟩ := rv.get hx
    have hel : e < s.heap.objs.size := Heap.lt_size he
    have hil : it < s.heap.objs.size := by obtain ⟨_, q, _⟩ := hit; exact Heap.lt_size q
    have pt : s.heap.IsTuple a its.toArray := p
    have hlt : i < its.toArray.size := by
      have := List.getElem?_eq_some_iff.mp hu
      obtain ⟨h, _⟩ := this
      simpa using h
    refine wpAny_pyNext_enum_itemC (i := i) (c := k + (i : Int)) (Draws.tuple (A := X.A.in1) (I.ok.hd hc) it a ha its.toArray) he ⟨hit, pt⟩ hlt hne (by simp [hne, hae]) fun x' h' tk hP ho hs' hT hsz hk => ?_
    have ex : x' = u := by
      have z : its.toArray[i]? = some u := by simpa using hu
      rw [hP] at z; exact Option.some.inj z
    subst ex
    refine ⟨_, rfl, wpAny_letOwnedTupleGo_enum (s := { s with heap := h', toks := tk + 1 }) ho fun h'' he' sb => ?_⟩
    have hT2 : h''.get? s.heap.objs.size = some { cls := .type "tuple", data := .seq #[.int (k + (i : Int)) tk, x'] } := (sb.2 _ (Nat.ne_of_gt hel)).trans hT
    have new : ObjOk X.prog X.w (upd H s.heap.objs.size (.tup [.int (k + (i : Nat)), x])) h'' s.heap.objs.size (.tup [.int (k + (i : Nat)), x]) :=
      ⟨by show 2 ≤ sizeLine; decide, [.int (k + (i : Int)) tk, x'], .cons ⟨_, rfl⟩ (.cons ru .nil), ⟨_, hT2, rfl, _, rfl⟩⟩
    have I1 : Inv X pins σ (upd H s.heap.objs.size (.tup [.int (k + (i : Nat)), x])) { s with heap := h'', toks := tk + 1 } :=
      I.turnedNew (ch := [e, it]) (fun b ob hb q => (sb.2 b (fun z => hb (by simp [z]))).trans (hk b ob (fun z => hb (by simp [z])) (fun z => hb (by simp [z])) q)) hf (Nat.le_refl _) new
    refine ⟨.ref s.heap.objs.size, _, I1, rfl, ⟨_, x, rfl, I.hok.fresh (Nat.le_refl _), rfl, fun ys hy => by rw [I.tuple_inj hy hq]; exact hx⟩, ⟨⟨x', ?_⟩, hs'.1.at fun o q => (sb.2 it (Ne.symm hne)).trans q, hne⟩, fun b hb => ?_⟩
    · have e1 : k + ((i + 1 : Nat) : Int) = k + (i : Int) + 1 := by omega
      rw [e1]; exact he'
    · have hb' : b < s.heap.objs.size := by
        have e' : b = e ∨ b = it := by simpa using hb
        rcases e' with z | z
        · rw [z]; exact hel
        · rw [z]; exact hil
      rw [upd_ne (Nat.ne_of_lt hb')]
      exact (hf b hb).1
  done := by
    intro X hP hw hK hc i pins s σ H E I hf st hg
    subst hP hw hK
    obtain ⟨⟨old, he⟩, hit, hne⟩ := st
    obtain ⟨xs, hq, hx⟩ := hg
    obtain ⟨its, rv, p, hz⟩ := I.tuple hq
    obtain ⟨f0, f1, f2, f3, f4, f5⟩ := hf it (by simp)
    have hl := rv.length
    have pt : s.heap.IsTuple a its.toArray := p
    have hT : s.TypeIs (.ref e) "enumerate" := ⟨_, he, rfl⟩
    unfold pyNext
    refine wpAny_bind (wpAny_attempt (wpAny_callSpecial?_slot (name := Str.ofString "__next__") hT F.slot_enumerate_next
      (wpAny_call_entry F.slot_enumerate_next hT F.entry_enumerate_next ?_ (F.args_enumerate_next_1 _))))
    show wpAny _ _ (field (.ref e) 2 >>= _) _ _ _
    refine wpAny_bind (wpAny_field he rfl (x := .ref it) rfl ?_)
    refine wpAny_bind (wpAny_nextOf_tuple_end (I.ok.hd hc) hit pt (by simp; omega) fun h' x he' hx' => ?_)
    obtain ⟨o, ho, hc⟩ := hx'
    refine wpAny_bind (wpAny_isInstance (T := "StopIteration") (b := true) ⟨o, ho, hc⟩ isSubtype_stop ?_)
    exact wpAny_pure ⟨rfl, I.turned (t' := s.toks) (fun b o hb q => he' b o hb q) f0 f1 f3 f4 f5⟩
  self := fun A i s Q E st h => let ⟨⟨_, he⟩, _⟩ := st; wpAny_pyIter_enum he h
def iEnumTk (K : PySem.W.Frag) (k : Int) (ta : TA) : TI := fun σ H R => ta σ H fun vs H1 => ∃ a xs, vs = [.ref a] ∧ SqT K H1 a xs ∧ R (IteTk K k a) H1
theorem pi_enumTk {X : Cx} {e : Expr} {ta : TA} {p pos tpos kp kp2 : Pos} {elts : List Expr} {kk kj : Nat} {k : Nat} (hk : k < 1000) (hg : Gl X "enumerate") (hm : X.mg "enumerate" = none) (ha : PA X [e] ta) (hs : starEach [e] X.env = [(false, eval e X.env)] := by rfl)
    (hpl : (backTo pos (starEach [e] X.env)).any (·.1) = false := by rfl) :
    PI X (.Tuple elts kk tpos) (.Call (.Name "enumerate" p) [e] [⟨some "start", .Constant (.int (k : Int)) kj kp, kp2⟩] pos) (iEnumTk X.K k ta) := by
  refine ⟨fun pins s σ H R I h => ?_⟩
  refine wpAny_Call_Name_kw (ld_blt I hg hm boot_enumerate (mine_callWith_type_kw (thn (ha.run pos pins s σ H _ I h) fun us s1 ⟨vs, H1, I1, r1, q1⟩ => ?_) (by rw [hs]; rfl) hpl))
  refine thn ((pk_cons (nm := some "start") (kpos := kp2) (pe_int (X := X) (pos := kp) (j := kj) (i := (k : Int))) pk_nil).run pos pins s1 σ H1 (fun zs H2 => zs = [.int (k : Int)] ∧ H2 = H1) I1 ⟨rfl, rfl⟩) fun kvs s2 ⟨zs, H2, I2, r2, ez, eh⟩ => ?_
  subst ez eh
  obtain ⟨a, xs, ex, hq, q⟩ := q1
  subst ex
  cases r2 with
  | cons rk rr2 =>
  cases rr2
  obtain ⟨tk, rfl⟩ := rk
  cases r1 with
  | cons r rr =>
    cases rr
    cases r
    have fp2 : ∀ b ∈ [s2.heap.objs.size + 1, s2.heap.objs.size], FpOk X pins H2 b := fun b hb => by
      have e' : b = s2.heap.objs.size + 1 ∨ b = s2.heap.objs.size := by simpa using hb
      have hle : s2.heap.objs.size ≤ b := by
        rcases e' with z | z
        · rw [z]; exact Nat.le_add_right _ _
        · rw [z]; exact Nat.le_refl _
      exact I2.fpOk hle (I2.hok.fresh hle)
    obtain ⟨its, rv, p', hz⟩ := I2.tuple hq
    have pt : s2.heap.IsTuple a its.toArray := p'
    have hlt : a < s2.heap.objs.size := by
      obtain ⟨o, ho, _⟩ := id pt
      exact Heap.lt_size ho
    show wpAny _ _ (call (.type "enumerate") [.ref a] [(Str.ofString "start", .int (k : Int) tk)]) _ _ _
    refine enum_begins_start (begins_tuple a its.toArray) pt (by omega) (by omega) fun h' he hit hsz hk => wpAny_pyIter_enum he ?_
    have I3 : Inv X pins σ H2 { s2 with heap := h' } := I2.kept (t' := s2.toks) hk
    exact ⟨s2.heap.objs.size + 1, [s2.heap.objs.size + 1, s2.heap.objs.size], _, _, H2, rfl, I3, turn_enumTk (k : Int) a (s2.heap.objs.size + 1) s2.heap.objs.size (Nat.ne_of_lt hlt) (Nat.ne_of_gt (Nat.lt_succ_of_lt hlt)),
      ⟨⟨.none, by simpa using he⟩, ⟨_, hit, rfl, rfl⟩, Nat.succ_ne_self _⟩, fp2, q⟩
end Mine
namespace Mine
open PySem PySem.Spec PyProof.Rows L2
def eEnumK (k : Nat) (a : DAX) : DAX := fun env Q E => a env (fun ds => match ds with
  | [.tup xs] => Q (xs.mapIdx fun i x => .tup [.int ((k : Int) + (i : Nat)), x])
  | _ => False) E
theorem walk_enumTk {K : PySem.W.Frag} {k : Int} {a : Addr} {xs : List V} : Walk (IteTk K k a) xs.length (fun H => SqT K H a xs) (YPair (fun i => some (.int (k + (i : Nat)))) (fun i => xs[i]?)) := by
  refine ⟨fun i _ hi q => ⟨xs, xs[i], q, by simp [hi]⟩, fun _ q => ⟨xs, q, Nat.le_refl _⟩, fun i H v H' _ q y => ?_⟩
  obtain ⟨T, x, h1, h2, h3, h4⟩ := y
  exact ⟨T, .int (k + (i : Nat)), x, h1, h2, h3, rfl, h4 xs q⟩
section
variable {C : Bc} {R : RR} {S : SS} {tl : TE} {el : DX}
theorem walk_pairk {X : Addr → Prop} {H1 : Hp} {J : It} {n : Nat} {k : Int} {G : Hp → Prop} {xs : List V} {ds : List Dt} (hal : ∀ {Y : Addr → Prop} {H : Hp}, S C X H1 Y H → ∀ a, Y a → ∃ o, H a = some o) (hn : ds.length = n)
    (w : Walk J n G (YPair (fun i => some (.int (k + (i : Nat)))) (fun i => xs[i]?))) (hs : ∀ i H, n ≤ i → G H → J.stop i H) (kk : ∀ Y H, S C X H1 Y H → G H ∧ DenAll C.K (vis H Y) xs ds) :
    WalkD S C X H1 J (ds.mapIdx fun i x => .tup [.int (k + (i : Nat)), x]) := by
  intro Y i H s
  obtain ⟨g, a⟩ := kk Y H s
  rw [List.length_mapIdx]
  refine ⟨fun hi => ⟨w.goes i H (hn ▸ hi) g, fun x H' hy => ?_⟩, fun hi => hs i H (by omega) g⟩
  obtain ⟨T, v, y, rfl, hT, rfl, ev, ey⟩ := w.yields i H x H' (hn ▸ hi) g hy
  dsimp only at ev ey
  cases ev
  obtain ⟨d, e, den⟩ := a.getV ey
  have nT : ¬ Y T := fun y => by
    obtain ⟨o, q⟩ := hal s T y
    rw [hT] at q; cases q
  refine ⟨same_upd hT, _, by rw [List.getElem?_mapIdx, e]; rfl, .tup (vis_mk nT upd_same) (.cons (.int _) (.cons (den.mono fun b o e => ?_) .nil))⟩
  obtain ⟨n1, e1⟩ := vis_of e
  exact vis_mk n1 (same_upd hT _ _ e1)
theorem di_enumK [Src R S] {k : Nat} (h : DEg R C tl el) : DIg S C (iEnumTk C.K (k : Int) (tCons tl tNil)) (eEnumK k (eCons el eNil)) := by
  intro X env σ H Rr Qd Qx rp he q x
  refine h X env σ H _ _ Qx rp he (fun d v H1 f1 r1 he1 => ?_) x
  show ∃ a xs, [v] = [.ref a] ∧ _
  have he1 : (match [d] with
    | [.tup xs] => Qd (xs.mapIdx fun i x => .tup [.int ((k : Int) + (i : Nat)), x])
    | _ => False) := he1
  split at he1
  · rename_i e
    cases e
    obtain ⟨p, vs, rfl, h1, kk⟩ := Src.tup (S := S) r1
    refine ⟨p, vs, rfl, .inl (.inl h1), q _ _ H1 f1 ?_ he1⟩
    intro Y i H2 s
    exact walk_pairk (G := fun H => SqT C.K H p vs) (fun s => Src.al (R := R) s) (kk Y H2 s).2.length.symm walk_enumTk (fun i H hi g => ⟨vs, g, hi⟩) (fun Y H s => ⟨.inl (.inl (kk Y H s).1), (kk Y H s).2⟩) Y i H2 s
  · exact he1.elim
end
/-! ### all, any -/
def rAllU (K : PySem.W.Frag) : List V → Hp → VK → Prop := rAll K
theorem call_allU {X : Cx} {K : PySem.W.Frag} (hc : X.calm = true) (e : X.K = K) : CallR X (.builtin "all") (rAllU K) := e ▸ cr_all hc
def dAll : DL := fun ds Q => match ds with
  | [.lst xs] => ∃ bs : List Bool, xs = bs.map .bl ∧ Q (.bl (bs.all id))
  | _ => False
theorem DenAll.bls_of {K : PySem.W.Frag} {H : Hp} : ∀ {vs : List V} {bs : List Bool}, DenAll K H vs (bs.map .bl) → vs = bs.map V.bl
  | _, [], .nil => rfl
  | _, n :: ns, .cons a b => by rw [List.map_cons, a.flat rfl, DenAll.bls_of b]
section
variable {C : Bc}
theorem cg_all : CallG Cln C (rAllU C.K) dAll := by
  intro X env σ H vs ds Q Qd rp ra he q
  unfold dAll at he
  split at he
  · obtain ⟨v, rfl, r1⟩ := ra.one
    obtain ⟨bs, rfl, he⟩ := he
    obtain ⟨p, vs, rfl, h1, a1⟩ := r1.lst
    rw [a1.bls_of] at h1
    exact ⟨p, bs, rfl, .inl (.inl h1), q _ _ H (.refl H) (.bl _) he⟩
  · exact he.elim
end
/-! ### a written dict of one pair of whole numbers -/
def eDk1 (k v : Int) : DX := fun _ Q _ => Q (.dk [.inl k] [.int v])
theorem de_dk1 {C : Bc} (k v : Int) : DE C (tDisp [(tC (.int k), tC (.int v))]) (eDk1 k v) := by
  intro X env σ H Q Qd Qx rp he q x p hp
  refine ⟨upd_same, [(.inl k, .int v)], rfl, by show 1 ≤ 15; decide, ?_⟩
  have e : upd (upd H p (.dK [])) p (.dK (mergeK [] [(Sum.inl k, V.int v)])) = upd H p (.dK [(Sum.inl k, V.int v)]) := by
    funext a
    by_cases c : a = p
    · subst c; rw [upd_same, upd_same]; rfl
    · rw [upd_ne c, upd_ne c, upd_ne c]
  rw [e]
  refine q _ _ _ (.upd hp) ?_ he
  exact .dk (ks := [.inl k]) (vs := [.int v]) (vis_mk (rp.free hp) upd_same) rfl (.cons (.int v) .nil)
/-! ### sorted(set(rows)), sorted(rows): words of one length -/
end Mine
namespace Mine
open PySem PySem.Spec PyProof.Rows L2
theorem DenAll.rows {K : PySem.W.Frag} {H : Hp} : ∀ {vs : List V} {ws : List (List Int)}, DenAll K H vs (ws.map fun w => Dt.tup (w.map .int)) → ∃ L : List (Addr × List Int), vs = L.map (fun q => V.ref q.1) ∧ L.map (·.2) = ws ∧ ∀ q ∈ L, H q.1 = some (.tup (q.2.map V.int))
  | _, [], .nil => ⟨[], rfl, rfl, fun _ h => by cases h⟩
  | _, w :: ws, .cons a b => by
    obtain ⟨L, e1, e2, h⟩ := DenAll.rows b
    obtain ⟨p, vs, rfl, hp, av⟩ := a.tupI
    rw [av.ints_of] at hp
    exact ⟨(p, w) :: L, by rw [List.map_cons, e1], by rw [List.map_cons, e2], fun q hq => by
      rcases List.mem_cons.mp hq with e | e
      · rw [e]; exact hp
      · exact h q e⟩
theorem DenAll.of_rows {K : PySem.W.Frag} {H : Hp} : ∀ {L : List (Addr × List Int)}, (∀ q ∈ L, H q.1 = some (.tup (q.2.map V.int))) → DenAll K H (L.map fun q => V.ref q.1) ((L.map (·.2)).map fun w => Dt.tup (w.map .int))
  | [], _ => .nil
  | q :: L, h => .cons (.tup (h q List.mem_cons_self) (DenAll.ints _)) (DenAll.of_rows fun r hr => h r (List.mem_cons_of_mem _ hr))
section
variable {C : Bc} {X : Addr → Prop} {env : List Sl} {σ : L2.St} {H H1 : Hp}
/-- a new list of tuples that were there -/
theorem fsh_rows {p : Addr} {L L' : List (Addr × List Int)} (rp : Rep C X env σ H) (hp : H1 p = none) (f : Frm C.hd H H1) (hL : ∀ q ∈ L, vis H X q.1 = some (.tup (q.2.map V.int))) (hs : ∀ q ∈ L', q ∈ L) :
    Fsh C X H (upd H1 p (.lst (L'.map fun q => V.ref q.1))) (.ref p) (.lst ((L'.map (·.2)).map fun w => Dt.tup (w.map .int))) := by
  have rp1 := rp.step f
  exact (fsh_new rp1 hp (DenAll.of_rows fun q hq => rp.vs f _ _ (hL q (hs q hq)))).frm rp f
theorem Bor.rows {v : V} {ws : List (List Int)} {H0 : Hp} (h : Bor C X H0 H v (.lst (ws.map fun w => Dt.tup (w.map .int)))) : ∃ (p : Addr) (L : List (Addr × List Int)), v = .ref p ∧ H p = some (.lst (L.map fun q => V.ref q.1)) ∧ L.map (·.2) = ws ∧ ∀ q ∈ L, vis H X q.1 = some (.tup (q.2.map V.int)) := by
  obtain ⟨p, vs, rfl, h1, a⟩ := h.lst
  obtain ⟨L, rfl, e, hL⟩ := a.rows
  exact ⟨p, L, rfl, h1, e, hL⟩
end
end Mine
namespace Mine
open PySem PySem.Spec PyProof.Rows L2
/-! ### sorted(xs): whole numbers (any number of them), words of one length -/
def dSortedI : DL := fun ds Q => match ds with
  | [.lst xs] => ∃ ns : List Int, xs = ns.map .int ∧ ∀ ns' : List Int, ns'.Perm ns → ns'.Pairwise (· ≤ ·) → Q (.lst (ns'.map .int))
  | _ => False
section
variable {C : Bc}
theorem cg_sortedI : CallG Fsh C (rSortedI C.K) dSortedI := by
  intro X env σ H vs ds Q Qd rp ra he q
  unfold dSortedI at he
  split at he
  · obtain ⟨v, rfl, r1⟩ := ra.one
    obtain ⟨ns, rfl, he⟩ := he
    obtain ⟨p, vs, rfl, h1, a1⟩ := r1.lst
    rw [a1.ints_of] at h1
    exact ⟨p, ns, rfl, .inl (.inl h1), fun ns' l h2 h3 hl => q _ _ _ (.upd hl) (fsh_new rp hl (DenAll.ints ns')) (he ns' h2 h3)⟩
  · exact he.elim
end
end Mine
namespace Mine
open PySem PySem.Spec PyProof.Rows L2
theorem funD_inj {K : PySem.W.Frag} {name qual : Str} {params : Arguments} {body : List Stmt} {scope : Scope} {dvs dvs' : List V} {kws kws' : List (Str × V)} {f : Addr} {fd fd' : FuncData}
    (D : FunD K name qual params body scope dvs kws f fd) (D' : FunD K name qual params body scope dvs' kws' f fd') : fd = fd' := by
  obtain ⟨_, _, _, _, _, _, _, _, _, _, rfl, l1, _⟩ := D.ex
  obtain ⟨_, _, _, _, _, _, _, _, _, _, rfl, l0, _⟩ := D'.ex
  have z := l1.symm.trans l0
  injection z with z
  injection z with z1 z2 z3
  injection z3
end Mine
namespace Mine
open PySem PySem.Spec PyProof.Rows L2
/-- a written power -/
theorem de_powC {C : Bc} {a b c : Int} (h : CPow a b) (e : a ^ b.toNat = c) : DE C (tOp (rI CPow fun i j => .int (i ^ j.toNat)) (tC (.int a)) (tC (.int b))) (eC (.int c)) := by
  intro X env σ H Q Qd Qx rp he q x
  subst e
  exact ⟨_, _, rfl, rfl, h, q _ _ H (.refl H) (.int _) he⟩
theorem cpow_of {a b : Int} (h : decide (0 ≤ b) && decide (b ≤ 1000000) && decide (a.natAbs < 2 ^ 64) = true) : CPow a b := by
  simp only [Bool.and_eq_true, decide_eq_true_eq] at h
  exact ⟨h.1.1, h.1.2, h.2⟩
end Mine

namespace Mine
open PySem PySem.Spec PyProof.Rows L2
theorem mkD_W (np N : Nat) (s : DSt) {args} {Q} {E} : mkD np N s args Q E = (args.length = np ∧ s ⟨fun _ => Q .non, Q, fun _ => False, fun _ => False, fun _ x => E x⟩ (args ++ List.replicate (N - np) .no)) := rfl
theorem mkD0_W (np N : Nat) (s : DSt) {args} {Q} {E} : mkD0 np N s args Q E = (args.length = np ∧ s ⟨fun _ => Q .non, Q, fun _ => False, fun _ => False, fun _ _ => False⟩ (args ++ List.replicate (N - np) .no)) := rfl
theorem sSeq_W (a b : DSt) {d} {env} : sSeq a b d env = (a { d with nx := b d } env) := rfl
theorem sAsg_W (e : DX) (f : DGX) {d} {env} : sAsg e f d env = (e env (fun x => f x env d.nx) (d.xc env)) := rfl
theorem sRet_W (e : DX) {d} {env} : sRet e d env = (e env d.rt (d.xc env)) := rfl
theorem sRetN_W {d} {u1} : sRetN d u1 = (d.rt .non) := rfl
theorem sIf_W (c : DTX) (a b : DSt) {d} {env} : sIf c a b d env = (c env (fun k => if k = true then a d env else b d env) (d.xc env)) := rfl
theorem sNext_W {d} {env} : sNext d env = (d.nx env) := rfl
theorem sDrop_W (e : DX) {d} {env} : sDrop e d env = (e env (fun _ => d.nx env) (d.xc env)) := rfl
theorem sBreak_W {d} {env} : sBreak d env = (d.bk env) := rfl
theorem sCont_W {d} {env} : sCont d env = (d.ct env) := rfl
theorem sOwn_W (j : Nat) (e : DX) {d} {env} : sOwn j e d env = (e env (fun x => match x with
  | .lst xs => d.nx (env.set j (.own (.lst xs)))
  | _ => False) (d.xc env)) := rfl
theorem sPar_W (i j : Nat) (a : DAX) {d} {env} : sPar i j a d env = (a env (fun ds => match ds with
  | [x, y] => d.nx ((env.set i (.d x)).set j (.d y))
  | _ => False) (d.xc env)) := rfl
theorem sPar3_W (i j l : Nat) (a : DAX) {d} {env} : sPar3 i j l a d env = (a env (fun ds => match ds with
  | [x, y, z] => d.nx (((env.set i (.d x)).set j (.d y)).set l (.d z))
  | _ => False) (d.xc env)) := rfl
theorem sFrz_W (i : Nat) (s : DSt) {d} {env} : sFrz i s d env = (s d (frz env i)) := rfl
theorem sApp_W (i : Nat) (e : DX) {d} {env} : sApp i e d env = (match env[i]? with
  | some (.own (.lst xs)) => e env (fun y => xs.length < LINE ∧ d.nx (env.set i (.own (.lst (xs ++ [y]))))) (d.xc env)
  | _ => False) := rfl
theorem sExt_W (i : Nat) (e : DX) {d} {env} : sExt i e d env = (match env[i]? with
  | some (.own (.lst xs)) => e env (fun y => match y with
    | .lst ys => xs.length + ys.length ≤ LINE ∧ d.nx (env.set i (.own (.lst (xs ++ ys))))
    | _ => False) (d.xc env)
  | _ => False) := rfl
theorem sPop_W (i : Nat) {d} {env} : sPop i d env = (match env[i]? with
  | some (.own (.lst xs)) => xs ≠ [] ∧ d.nx (env.set i (.own (.lst xs.dropLast)))
  | _ => False) := rfl
theorem sPopTo_W (i j : Nat) {d} {env} : sPopTo i j d env = (match env[i]? with
  | some (.own (.lst xs)) => ∃ y, xs[xs.length - 1]? = some y ∧ d.nx ((env.set i (.own (.lst xs.dropLast))).set j (.d y))
  | _ => False) := rfl
theorem sPut_W (i : Nat) (ek e : DX) {d} {env} : sPut i ek e d env = (match env[i]? with
  | some (.own (.lst xs)) => e env (fun y => ek env (fun k => match k with
    | .int k => ∃ j, ixN xs.length k = some j ∧ d.nx (env.set i (.own (.lst (xs.set j y))))
    | _ => False) (d.xc env)) (d.xc env)
  | _ => False) := rfl
theorem sAugP_W (f : Int → Int → Int) (i : Nat) (ek e : DX) {d} {env} : sAugP f i ek e d env = (match env[i]? with
  | some (.own (.lst xs)) => ek env (fun k => match k with
    | .int k => ∃ j z, ixN xs.length k = some j ∧ xs[j]? = some (.int z) ∧ e env (fun y => match y with
      | .int y => d.nx (env.set i (.own (.lst (xs.set j (.int (f z y))))))
      | _ => False) (d.xc env)
    | _ => False) (d.xc env)
  | _ => False) := rfl
theorem sAug_W (f : Int → Int → Int) (i : Nat) (e : DX) {d} {env} : sAug f i e d env = (match env[i]? with
  | some (.d (.int x)) => e env (fun y => match y with
    | .int y => d.nx (env.set i (.d (.int (f x y))))
    | _ => False) (d.xc env)
  | _ => False) := rfl
theorem sFor_W (src : DAX) (f : DGX) (b : DSt) {d} {env} : sFor src f b d env = (src env (fun ds => dFor f b d ds env) (d.xc env)) := rfl
theorem sRaise_W (c : Str) {d} {env} : sRaise c d env = (d.xc env ⟨c, []⟩) := rfl
theorem sRaise1_W (c f : Str) (e : DX) {d} {env} : sRaise1 c f e d env = (e env (fun x => match x.flat with
  | some u => d.xc env ⟨c, [(f, u)]⟩
  | none => False) (d.xc env)) := rfl
theorem gD_W (j : Nat) {d} {env} {Q} : gD j d env Q = (Q (env.set j (.d d))) := rfl
theorem gD2_W (i j : Nat) {d} {env} {Q} : gD2 i j d env Q = (match d with
  | .tup [a, b] => Q ((env.set i (.d a)).set j (.d b))
  | _ => False) := rfl
theorem gD3_W (i j k : Nat) {d} {env} {Q} : gD3 i j k d env Q = (match d with
  | .tup [a, b, c] => Q (((env.set i (.d a)).set j (.d b)).set k (.d c))
  | _ => False) := rfl
theorem eVar_W (i : Nat) {env} {Q} {u2} : eVar i env Q u2 = (match env[i]? with
  | some (.d x) => Q x
  | _ => False) := rfl
theorem eVarB_W (i : Nat) {env} {Q} {u2} : eVarB i env Q u2 = (match env[i]? with
  | some (.d x) => Q x
  | some (.own (.lst xs)) => Q (.lst xs)
  | _ => False) := rfl
theorem eC_W (d : Dt) {u0} {Q} {u2} : eC d u0 Q u2 = (Q d) := rfl
theorem eOp_W (f : D2) (a b : DX) {env} {Q} {E} : eOp f a b env Q E = (a env (fun x => b env (fun y => f x y Q) E) E) := rfl
theorem eUn_W (f : D1) (a : DX) {env} {Q} {E} : eUn f a env Q E = (a env (fun x => f x Q) E) := rfl
theorem eCB_W (f : DL) (a : DAX) {env} {Q} {E} : eCB f a env Q E = (a env (fun ds => f ds Q) E) := rfl
theorem eCons_W (a : DX) (r : DAX) {env} {Q} {E} : eCons a r env Q E = (a env (fun d => r env (fun ds => Q (d :: ds)) E) E) := rfl
theorem eConsS_W (a : DX) (r : DSX) {env} {Q} {E} : eConsS a r env Q E = (a env (fun d => r env (fun ds => Q (.d d :: ds)) E) E) := rfl
theorem eConsH_W (i : Nat) (r : DSX) {env} {Q} {E} : eConsH i r env Q E = (match env[i]? with
  | some .hand => r env (fun ds => Q (.hand :: ds)) E
  | _ => False) := rfl
theorem eTup_W (r : DAX) {env} {Q} {E} : eTup r env Q E = (r env (fun ds => ds.length ≤ LINE ∧ Q (.tup ds)) E) := rfl
theorem eLst_W (r : DAX) {env} {Q} {E} : eLst r env Q E = (r env (fun ds => ds.length ≤ LINE ∧ Q (.lst ds)) E) := rfl
theorem eCall_W (F : DFn) (dd : List Sl) (a : DSX) {env} {Q} {E} : eCall F dd a env Q E = (a env (fun ss => F (ss ++ dd) Q E) E) := rfl
theorem eCall0_W (F : DFn) (dd : List Sl) (a : DSX) {env} {Q} {E} : eCall0 F dd a env Q E = (a env (fun ss => F (ss ++ dd) Q fun _ => False) E) := rfl
theorem eTest_W (e : DX) {env} {Q} {E} : eTest e env Q E = (e env (fun d => match d with
  | .bl b => Q b
  | _ => False) E) := rfl
theorem eNotT_W (t : DTX) {env} {Q} {E} : eNotT t env Q E = (t env (fun b => Q (!b)) E) := rfl
theorem eAndT_W (t u : DTX) {env} {Q} {E} : eAndT t u env Q E = (t env (fun b => if b = true then u env Q E else Q false) E) := rfl
theorem eOrT_W (t u : DTX) {env} {Q} {E} : eOrT t u env Q E = (t env (fun b => if b = true then Q true else u env Q E) E) := rfl
theorem eTru_W (e : DX) {env} {Q} {E} : eTru e env Q E = (e env (fun d => dTru d Q) E) := rfl
theorem eAndV_W (a b : DX) {env} {Q} {E} : eAndV a b env Q E = (a env (fun d => eBool d fun c => if c = true then b env Q E else Q (.bl false)) E) := rfl
theorem eOrV_W (a b : DX) {env} {Q} {E} : eOrV a b env Q E = (a env (fun d => eBool d fun c => if c = true then Q (.bl true) else b env Q E) E) := rfl
theorem eNotV_W (a : DX) {env} {Q} {E} : eNotV a env Q E = (a env (fun d => eBool d fun c => Q (.bl (!c))) E) := rfl
theorem eNotVT_W (a : DX) {env} {Q} {E} : eNotVT a env Q E = (a env (fun d => dTru d fun c => Q (.bl (!c))) E) := rfl
theorem eIf_W (t : DTX) (a b : DX) {env} {Q} {E} : eIf t a b env Q E = (t env (fun c => if c = true then a env Q E else b env Q E) E) := rfl
theorem eChain_W (f g : D2) (a b c : DX) {env} {Q} {E} : eChain f g a b c env Q E = (a env (fun x => b env (fun y => f x y fun d => eBool d fun k => if k = true then c env (fun z => g y z Q) E else Q (.bl false)) E) E) := rfl
theorem eLc_W (src : DAX) (f : DGX) (tt : DTX) (te : DX) (vs : List Nat) {env} {Q} {E} : eLc src f tt te vs env Q E = (src env (fun ds => lcGo f tt te (wipeS env vs) Q ds []) E) := rfl
theorem eLc2_W (src : DAX) (f : DGX) (tt : DTX) (src1 : DAX) (f1 : DGX) (tt1 : DTX) (te : DX) (vs1 vs : List Nat) {env} {Q} {E} : eLc2 src f tt src1 f1 tt1 te vs1 vs env Q E = (src env (fun ds => lcGo2 f tt src1 f1 tt1 te vs1 (wipeS env vs) Q ds []) E) := rfl
theorem eYes_W {u0} {Q} {u2} : eYes u0 Q u2 = (Q true) := rfl
theorem eSeq_W (a : DX) {env} {Q} {E} : eSeq a env Q E = (a env (fun d => match d with
  | .lst xs => Q xs
  | .tup xs => Q xs
  | _ => False) E) := rfl
theorem eRng1_W (a : DAX) {env} {Q} {E} : eRng1 a env Q E = (a env (fun ds => match ds with
  | [.int j] => (-(2 ^ 62) ≤ j ∧ j < 2 ^ 62) ∧ Q ((List.range j.toNat).map fun i => .int (i : Nat))
  | _ => False) E) := rfl
theorem eRng2_W (a : DAX) {env} {Q} {E} : eRng2 a env Q E = (a env (fun ds => match ds with
  | [.int i, .int j] => (-(2 ^ 62) ≤ i ∧ i < 2 ^ 62 ∧ -(2 ^ 62) ≤ j ∧ j < 2 ^ 62) ∧ Q ((List.range (j - i).toNat).map fun k => .int (i + (k : Nat)))
  | _ => False) E) := rfl
theorem eEnum_W (a : DAX) {env} {Q} {E} : eEnum a env Q E = (a env (fun ds => match ds with
  | [.lst xs] => Q (xs.mapIdx fun i x => .tup [.int (i : Nat), x])
  | [.tup xs] => Q (xs.mapIdx fun i x => .tup [.int (i : Nat), x])
  | _ => False) E) := rfl
theorem eEnumK_W (k : Nat) (a : DAX) {env} {Q} {E} : eEnumK k a env Q E = (a env (fun ds => match ds with
  | [.tup xs] => Q (xs.mapIdx fun i x => .tup [.int ((k : Int) + (i : Nat)), x])
  | _ => False) E) := rfl
theorem eZip_W (a b : DX) {env} {Q} {E} : eZip a b env Q E = (a env (fun d1 => b env (fun d2 => match d1, d2 with
  | .lst xs, .lst ys => Q (List.zipWith (fun x y => .tup [x, y]) xs ys)
  | .tup xs, .lst ys => xs.length = ys.length ∧ Q (List.zipWith (fun x y => .tup [x, y]) xs ys)
  | .tup xs, .tup ys => xs.length = ys.length ∧ Q (List.zipWith (fun x y => .tup [x, y]) xs ys)
  | _, _ => False) E) E) := rfl
theorem eSl_W (f : D3) (a : DX) (lo hi : DOX) {env} {Q} {E} : eSl f a lo hi env Q E = (a env (fun d => lo env (fun l => hi env (fun u => f d l u Q) E) E) E) := rfl
theorem ePart_W (e : DX) {env} {Q} {E} : ePart e env Q E = (e env (fun d => match d with
  | .int i => Q (some i)
  | _ => False) E) := rfl
theorem eNoPart_W {u0} {Q} {u2} : eNoPart u0 Q u2 = (Q none) := rfl
theorem eRev_W (a : DX) {env} {Q} {E} : eRev a env Q E = (a env (fun d => match d with
  | .lst xs => Q (.lst xs.reverse)
  | .tup xs => Q (.tup xs.reverse)
  | _ => False) E) := rfl
theorem eRevL_W (a : DX) {env} {Q} {E} : eRevL a env Q E = (a env (fun d => match d with
  | .lst xs => Q (.lst xs.reverse)
  | _ => False) E) := rfl
theorem eDk0_W {u0} {Q} {u2} : eDk0 u0 Q u2 = (Q (.dk [] [])) := rfl
theorem eDk1_W (k v : Int) {u0} {Q} {u2} : eDk1 k v u0 Q u2 = (Q (.dk [.inl k] [.int v])) := rfl
theorem eXf_W (i : Nat) (c f : Str) {env} {Q} {u2} : eXf i c f env Q u2 = (match env[i]? with
  | some (.exc c' fs) => c' = c ∧ ∃ u, fs.lookup f = some u ∧ Q (Dt.ofV u)
  | _ => False) := rfl
theorem eIsX_W (i : Nat) (tab : Str → Option Bool) {env} {Q} {u2} : eIsX i tab env Q u2 = (match env[i]? with
  | some (.exc c fs) => ∃ b, tab c = some b ∧ Q (.bl b)
  | _ => False) := rfl
theorem dIsN_W {a} {b} {Q} : dIsN a b Q = (match b with
  | .non => Q (.bl a.isN)
  | _ => False) := rfl
theorem dNotN_W {a} {b} {Q} : dNotN a b Q = (match b with
  | .non => Q (.bl (!a.isN))
  | _ => False) := rfl
theorem dIx_W {a} {b} {Q} : dIx a b Q = (match a, b with
  | .lst xs, .int k => ∃ x, atI xs k = some x ∧ Q x
  | .tup xs, .int k => ∃ x, atI xs k = some x ∧ Q x
  | .str z, .int k => z.length ≤ LINE ∧ ∃ c, atI z.cps.toList k = some c ∧ Q (.str ⟨#[c]⟩)
  | _, _ => False) := rfl
theorem dSl_W {a} {lo} {hi} {Q} : dSl a lo hi Q = (match a with
  | .lst xs => Q (.lst (cutG xs lo hi))
  | .tup xs => Q (.tup (cutG xs lo hi))
  | .str z => z.length ≤ LINE ∧ Q (.str (cutS z lo hi))
  | _ => False) := rfl
theorem dSlL_W {a} {lo} {hi} {Q} : dSlL a lo hi Q = (match a with
  | .lst xs => Q (.lst (cutG xs lo hi))
  | _ => False) := rfl
theorem dLen_W {ds} {Q} : dLen ds Q = (match ds with
  | [.lst xs] => Q (.int xs.length)
  | [.tup xs] => Q (.int xs.length)
  | [.str z] => z.length ≤ LINE ∧ Q (.int z.length)
  | [.dk ks _] => Q (.int ks.length)
  | _ => False) := rfl
theorem dInt_W {ds} {Q} : dInt ds Q = (match ds with
  | [.int i] => Q (.int i)
  | [.bl k] => Q (.int (if k then 1 else 0))
  | [.str z] => z.length ≤ 640 ∧ ∃ n, PySem.intText? z = some n ∧ Q (.int n)
  | _ => False) := rfl
theorem dStr_W {ds} {Q} : dStr ds Q = (match ds with
  | [.int i] => i.natAbs.log2 < 1920 ∧ Q (.str (toString i))
  | _ => False) := rfl
theorem dAbs_W {ds} {Q} : dAbs ds Q = (match ds with
  | [.int i] => Q (.int (if i < 0 then -i else i))
  | _ => False) := rfl
theorem dMax2_W {ds} {Q} : dMax2 ds Q = (match ds with
  | [.int i, .int j] => Q (.int (if j > i then j else i))
  | _ => False) := rfl
theorem dMin2_W {ds} {Q} : dMin2 ds Q = (match ds with
  | [.int i, .int j] => Q (.int (if j < i then j else i))
  | _ => False) := rfl
theorem dTupOf_W {ds} {Q} : dTupOf ds Q = (match ds with
  | [.lst xs] => Q (.tup xs)
  | [.tup xs] => Q (.tup xs)
  | _ => False) := rfl
theorem dLstOf_W {ds} {Q} : dLstOf ds Q = (match ds with
  | [.lst xs] => Q (.lst xs)
  | [.tup xs] => Q (.lst xs)
  | _ => False) := rfl
theorem dIsi_W (T : String) {ds} {Q} : dIsi T ds Q = (match ds with
  | [x, .raw (.ty T')] => T' = T ∧ x.kind.isSome = true ∧ Q (.bl (x.isa T))
  | _ => False) := rfl
theorem dIsi2_W (T U : String) {ds} {Q} : dIsi2 T U ds Q = (match ds with
  | [x, .tup [.raw (.ty T'), .raw (.ty U')]] => T' = T ∧ U' = U ∧ x.kind.isSome = true ∧ Q (.bl (x.isa T || x.isa U))
  | _ => False) := rfl
theorem sTry_W (mt : Str → Str → Option Bool) (b : DSt) (hs : List (Str × Option Nat × DSt)) {d} {env} : sTry mt b hs d env = (b { d with xc := fun e x => dHs mt hs d e x } env) := rfl
theorem eNil_W {δ : Type} {u0 : List Sl} {Q : List δ → Prop} {u2 : Xc → Prop} : (eNil (δ := δ)) u0 Q u2 = Q [] := rfl
theorem eBool_W {d : Dt} {Q : Bool → Prop} : eBool d Q = (match d with
  | .bl b => Q b
  | _ => False) := rfl
theorem frz_W {env : List Sl} {i : Nat} : frz env i = (match env[i]? with
  | some (.own w) => env.set i (.d w.fz)
  | _ => env) := rfl
theorem fz_lst {xs : List Dt} : (Ow.lst xs).fz = .lst xs := rfl
theorem fz_dk {ks : List Key} {xs : List Dt} : (Ow.dk ks xs).fz = .dk ks xs := rfl
theorem fz_dt {ks : List (List Key)} {xs : List Dt} : (Ow.dt ks xs).fz = .dt ks xs := rfl
theorem LINE_W : LINE = 16777216 := rfl
theorem take_W {m : Int} {Q : Dt → Prop} {E : Xc → Prop} : F_law_take [.hand, .d (.int m)] Q E = ((0 < m ∧ m < 1073741824) ∧ ∀ r : Nat, (r : Int) < m → Q (.int r)) := rfl
end Mine

namespace Mine
open PySem PySem.Spec PyProof.Rows L2
/-! ### instances of one's own classes: fields -/
/-- which attributes of which classes are plain -/
def FldOk (K : PySem.W.Frag) (tab : Str → Str → Bool) : Prop := ∀ C f, tab C f = true → Cls K (He.ga K C) ∧ NoAttr K (He.ga K C) f
theorem DenAll.look {K : PySem.W.Frag} {H : Hp} {f : Str} : ∀ {ns : List Str} {vs : List V} {ds : List Dt} {x : Dt}, DenAll K H vs ds → (ns.zip ds).lookup f = some x → ∃ v, (ns.zip vs).lookup f = some v ∧ Den K H v x
  | [], _, _, _, _, e => by simp at e
  | n :: ns, _, _, _, .nil, e => by simp at e
  | n :: ns, v :: vs, d :: ds, x, .cons a r, e => by
    rw [List.zip_cons_cons, List.lookup_cons] at e ⊢
    cases h : (f == n) with
    | true => rw [h] at e; cases e; exact ⟨v, rfl, a⟩
    | false => rw [h] at e; exact DenAll.look r e
theorem DenAll.lookN {K : PySem.W.Frag} {H : Hp} {f : Str} : ∀ {ns : List Str} {vs : List V} {ds : List Dt}, DenAll K H vs ds → (ns.zip ds).lookup f = none → (ns.zip vs).lookup f = none
  | [], _, _, _, _ => by simp
  | n :: ns, _, _, .nil, e => by simp
  | n :: ns, v :: vs, d :: ds, .cons a r, e => by
    rw [List.zip_cons_cons, List.lookup_cons] at e ⊢
    cases h : (f == n) with
    | true => rw [h] at e; cases e
    | false => rw [h] at e; exact DenAll.lookN r e
def eFld (tab : Str → Str → Bool) (f : Str) (a : DX) : DX := fun env Q E => a env (fun d => match d with
  | .ins C ns ds => tab C f = true ∧ ∃ x, (ns.zip ds).lookup f = some x ∧ Q x
  | _ => False) E
/-- self.f while self is made -/
def eFldS (tab : Str → Str → Bool) (f : Str) (i : Nat) : DX := fun env Q _ => match env[i]? with
  | some (.ins C ns ds) => tab C f = true ∧ ∃ x, (ns.zip ds).lookup f = some x ∧ Q x
  | _ => False
/-- self.f = e: a new field, or an old one anew -/
def putNs (f : Str) : List Str → List Str
  | [] => [f]
  | n :: ns => if n = f then n :: ns else n :: putNs f ns
def putDs (f : Str) (y : Dt) : List Str → List Dt → List Dt
  | n :: ns, d :: ds => if n = f then y :: ds else d :: putDs f y ns ds
  | _, _ => [y]
def sSetF (tab : Str → Str → Bool) (f : Str) (i : Nat) (e : DX) : DSt := fun d env => match env[i]? with
  | some (.ins C ns ds) => e env (fun y => tab C f = true ∧ i = 0 ∧ ns.length < 900 ∧ d.nx (env.set i (.ins C (putNs f ns) (putDs f y ns ds)))) (d.xc env)
  | _ => False
theorem putF_zip {K : PySem.W.Frag} {H : Hp} {f : Str} {v : V} {y : Dt} (hv : Den K H v y) : ∀ {ns : List Str} {vs : List V} {ds : List Dt}, ns.length = vs.length → DenAll K H vs ds →
    ∃ vs', putF f v (ns.zip vs) = (putNs f ns).zip vs' ∧ (putNs f ns).length = vs'.length ∧ DenAll K H vs' (putDs f y ns ds)
  | [], [], _, _, .nil => ⟨[v], rfl, rfl, .cons hv .nil⟩
  | n :: ns, u :: vs, d :: ds, l, .cons a r => by
    by_cases c : n = f
    · subst c
      refine ⟨v :: vs, ?_, ?_, ?_⟩
      · show (if n = n then _ else _) = (if n = n then _ else _ : List Str).zip _
        rw [if_pos rfl, if_pos rfl]; rfl
      · show (if n = n then _ else _ : List Str).length = _
        rw [if_pos rfl]; exact l
      · show DenAll K H _ (if n = n then _ else _)
        rw [if_pos rfl]; exact .cons hv r
    · obtain ⟨vs', h1, h2, h3⟩ := putF_zip (f := f) hv (ns := ns) (by simpa using l) r
      refine ⟨u :: vs', ?_, ?_, ?_⟩
      · show (if n = f then _ else _) = (if n = f then _ else _ : List Str).zip _
        rw [if_neg c, if_neg c]; exact congrArg ((n, u) :: ·) h1
      · show (if n = f then _ else _ : List Str).length = _
        rw [if_neg c, List.length_cons, List.length_cons, h2]
      · show DenAll K H _ (if n = f then _ else _)
        rw [if_neg c]; exact .cons a h3
section
variable {C : Bc} {X : Addr → Prop} {env : List Sl} {σ : L2.St} {H : Hp} {te : TE} {ea e : DX} {f : Str} {tab : Str → Str → Bool}
theorem de_fld (ht : FldOk C.K tab) (he : DB C te ea) : DE C (tFld C.K te f) (eFld tab f ea) := by
  intro X env σ H Q Qd Qx rp h q x
  refine he X env σ H _ _ Qx rp h (fun d v H1 f1 r1 h1 => ?_) x
  split at h1
  · obtain ⟨h2, y, h3, h4⟩ := h1
    obtain ⟨c1, c2⟩ := ht _ _ h2
    obtain ⟨p, dx, vs, rfl, hp, hl, al⟩ := r1.ins
    obtain ⟨u, hu, du⟩ := al.look h3
    exact ⟨p, _, dx, _, u, rfl, hp, c1, c2, hu, q _ _ _ f1 du h4⟩
  · exact h1.elim
theorem de_fldS {i : Nat} (ht : FldOk C.K tab) : DE C (tFld C.K (tVar i) f) (eFldS tab f i) := by
  intro X env σ H Q Qd Qx rp h q x
  unfold eFldS at h
  split at h
  · rename_i C0 ns ds e
    obtain ⟨h2, y, h3, h4⟩ := h
    obtain ⟨c1, c2⟩ := ht _ _ h2
    obtain ⟨o, e1, p, dx, vs, rfl, x1, x2, hp, hl, al⟩ := rp.slot i _ e
    obtain ⟨u, hu, du⟩ := al.look h3
    exact ⟨_, e1, p, _, dx, _, u, rfl, hp, c1, c2, hu, q _ _ _ (.refl H) du h4⟩
  · exact h.elim
/-- self, changed -/
theorem Rep.selfSet {p dx : Addr} {C0 C1 : Str} {ns ns' : List Str} {ds ds' : List Dt} {vs' : List V} (r : Rep C X env σ H) (e : env[0]? = some (.ins C0 ns ds)) (es : σ[0]? = some (some (.ref p))) (x1 : X p) (x2 : ¬ C.X0 p)
    (hl : ns'.length = vs'.length) (hme : C.me = some p) (h2 : DenAll C.K (vis H X) vs' ds') :
    Rep C X (env.set 0 (.ins C1 ns' ds')) σ (upd H p (.ins (He.ga C.K C1) dx (ns'.zip vs'))) ∧ Same (vis H X) (vis (upd H p (.ins (He.ga C.K C1) dx (ns'.zip vs'))) X) := by
  obtain ⟨o0, es0, p0, dx0, vs0, ep0, _, _, hp0, _, _⟩ := r.slot 0 _ e
  rw [es] at es0; cases es0; cases ep0
  have sm : Same (vis H X) (vis (upd H p (.ins (He.ga C.K C1) dx (ns'.zip vs'))) X) := fun a o q => by
    obtain ⟨n1, e1⟩ := vis_of q
    exact vis_mk n1 (by rw [upd_ne (fun (z : a = p) => n1 (by rw [z]; exact x1))]; exact e1)
  have h0 : C.H0 p = none := (r.new p x1).resolve_left x2
  have fm : Frm C.hd C.H0 (upd H p (.ins (He.ga C.K C1) dx (ns'.zip vs'))) := by
    refine ⟨fun a u q k => ?_, fun h c q x => ?_⟩
    · rw [upd_ne (ne_of_none q h0)]; exact r.frm.1 a u q k
    · have y := r.frm.2 h c q x
      obtain ⟨_, _, _, _, a1, a2, _⟩ := x
      obtain ⟨cells, at_, big, mix, b1, b2, b3⟩ := y
      exact ⟨cells, at_, big, mix, by rw [upd_ne (ne_of_none a1 h0)]; exact b1, by rw [upd_ne (ne_of_none a2 h0)]; exact b2, b3⟩
  have hlen : 0 < env.length := (List.getElem?_eq_some_iff.mp e).1
  refine ⟨⟨by rw [List.length_set, r.len], r.sup, r.new, fun a z => ?_, fm, fun h c q => ⟨(r.hands h c q).1, (r.hands h c q).2.1, fm.2 h c q (r.hands h c q).2.1⟩, fun j s q => ?_, fun j k ys zs ne e1 e2 => ?_, r.one.set0⟩, sm⟩
  · by_cases c : a = p
    · subst c; exact ⟨_, upd_same⟩
    · obtain ⟨o, q⟩ := r.al a z
      exact ⟨o, by rw [upd_ne c]; exact q⟩
  · rw [List.getElem?_set] at q
    by_cases c : 0 = j
    · subst c
      rw [if_pos rfl, if_pos hlen] at q
      cases q
      exact ⟨_, es, p, dx, vs', rfl, x1, x2, upd_same, ⟨hl, hme⟩, h2.mono sm⟩
    · rw [if_neg c] at q
      obtain ⟨o, e1, w⟩ := r.slot j s q
      refine ⟨o, e1, ?_⟩
      cases s with
      | no => trivial
      | d x => obtain ⟨v, e2, h⟩ := w; exact ⟨v, e2, h.mono sm⟩
      | own ys =>
        obtain ⟨p', us, rfl, y1, y2, y3, y4⟩ := w
        have ne : p' ≠ p := fun z => by rw [z, hp0] at y3; cases y3; exact y4.noins
        exact ⟨p', us, rfl, y1, y2, by rw [upd_ne ne]; exact y3, y4.mono sm⟩
      | hand => exact w
      | exc c' fs => exact w.exc sm
      | ins C2 ns2 ds2 => exact absurd (r.one j ⟨C2, ns2, ds2, q⟩).symm c
  · rw [List.getElem?_set] at e1 e2
    have a : 0 ≠ j := fun c => by
      subst c
      rw [if_pos rfl, if_pos hlen] at e1; cases e1
    have b : 0 ≠ k := fun c => by
      subst c
      rw [if_pos rfl, if_pos hlen] at e2; cases e2
    rw [if_neg a] at e1
    rw [if_neg b] at e2
    exact r.inj j k ys zs ne e1 e2
theorem dst_setF {i : Nat} (ht : FldOk C.K tab) (he : DE C te e) : DS C (sFld C.K (tVar i) te f) (sSetF tab f i e) := by
  intro X env σ H D d r l h
  unfold sSetF at h
  split at h
  · rename_i C0 ns ds ei
    refine he X env σ H _ _ _ r h (fun y v H1 f1 r1 hy => ?_) (l.xok r)
    obtain ⟨h2, rfl, h3, h4⟩ := hy
    obtain ⟨c1, c2⟩ := ht _ _ h2
    have rp1 := r.step f1
    obtain ⟨o, e1, p, dx, vs, rfl, x1, x2, hp, ⟨hl, hme⟩, al⟩ := rp1.slot 0 _ ei
    obtain ⟨vs', k1, k2, k3⟩ := putF_zip (f := f) r1 hl al
    refine ⟨_, e1, p, _, dx, _, rfl, hp, c1, c2, by rw [List.length_zip]; omega, ?_⟩
    rw [k1]
    obtain ⟨r3, sm⟩ := rp1.selfSet (C1 := C0) (dx := dx) ei e1 x1 x2 k2 hme k3
    exact l.nx _ _ _ _ r3 ((r.vs f1).trans sm) h4
  · exact h.elim
end
end Mine

namespace Mine
open PySem PySem.Spec PyProof.Rows L2
/-! ### C(..): __init__ by data; what it wants is the instance -/
def spI (K : PySem.W.Frag) (cls : Str) (F : DFn) : Sp := fun vs H Q E => ∃ (x dx : Addr) (us : List V) (H1 : Hp) (X : Addr → Prop) (hd : Hnd) (args : List Sl) (Qd : Dt → Prop) (Qx : Xc → Prop),
  vs = .ref x :: us ∧ H1 x = none ∧ H1 dx = none ∧ dx ≠ x ∧ H = upd (upd H1 dx (.own x)) x (.ins (He.ga K cls) dx []) ∧ (∀ a, X a → ∃ o, H1 a = some o) ∧ (∀ h c, hd = some (h, c) → X h ∧ HandC H1 h c) ∧ SlAll K hd X H1 us args ∧ F args Qd Qx ∧
  (∀ d H', Frm hd H1 H' → Den K (vis H' X) (.ref x) d → Qd d → Q .non H') ∧ (∀ y cls' dx' H', Frm hd H1 H' → XRep K (vis H' X) cls' dx' y → Qx y → E cls' dx' H')
/-- np parameters with self, N names in all -/
def mkI (cls : Str) (np N : Nat) (s : DSt) : DFn := fun args Q E => args.length + 1 = np ∧ s ⟨fun (env : List Sl) => match env[0]? with
  | some (Sl.ins C ns ds) => Q (.ins C ns ds)
  | _ => False, fun _ => False, fun _ => False, fun _ => False, fun _ x => E x⟩ (.ins cls [] [] :: (args ++ List.replicate (N - np) .no))
def mkI0 (cls : Str) (np N : Nat) (s : DSt) : DFn := fun args Q E => args.length + 1 = np ∧ s ⟨fun (env : List Sl) => match env[0]? with
  | some (Sl.ins C ns ds) => Q (.ins C ns ds)
  | _ => False, fun _ => False, fun _ => False, fun _ => False, fun _ _ => False⟩ (.ins cls [] [] :: (args ++ List.replicate (N - np) .no))
section
variable {C : Bc} {F : DFn} {cls : Str} {dvs : List V} {dd : List Sl} {t : TA} {a : DSX}
theorem de_make {E : XK} (hE : C.E = fun _ => E) (hd : Dvs dvs dd) (ha : DAs C t a) : DE C (tMake (He.ga C.K cls) (spI C.K cls F) dvs E t) (eCall F dd a) := by
  intro X env σ H Q Qd Qx rp he q x
  refine ha X env σ H _ _ Qx rp he (fun ss vs H1 f1 r1 he1 => ?_) x
  intro p dx np nd ne
  have rp1 := rp.step f1
  refine ⟨p, dx, vs ++ dvs, H1, X, C.hd, ss ++ dd, Qd, Qx, rfl, np, nd, ne, rfl, rp1.al, fun h c e => ⟨rp1.hX h c e, (rp1.hands h c e).2.2⟩, SlAll.append r1 (hd C.K C.hd X H1), he1, fun d H' f den qd => ⟨rfl, q d _ H' (f1.trans f) den qd⟩, fun y cls' dx' H' f r z => ?_⟩
  have := x y cls' dx' H' (f1.trans f) r z
  rw [hE] at this
  exact this
theorem de_make0 (hd : Dvs dvs dd) (ha : DAs C t a) : DE C (tMake (He.ga C.K cls) (spI C.K cls F) dvs E0 t) (eCall0 F dd a) := by
  intro X env σ H Q Qd Qx rp he q x
  refine ha X env σ H _ _ Qx rp he (fun ss vs H1 f1 r1 he1 => ?_) x
  intro p dx np nd ne
  have rp1 := rp.step f1
  exact ⟨p, dx, vs ++ dvs, H1, X, C.hd, ss ++ dd, Qd, fun _ => False, rfl, np, nd, ne, rfl, rp1.al, fun h c e => ⟨rp1.hX h c e, (rp1.hands h c e).2.2⟩, SlAll.append r1 (hd C.K C.hd X H1), he1, fun d H' f den qd => ⟨rfl, q d _ H' (f1.trans f) den qd⟩, fun _ _ _ _ _ _ z => z.elim⟩
end
theorem spI_len {K : PySem.W.Frag} {F : DFn} {cls : Str} {np : Nat} (hF : ∀ args Q E, F args Q E → args.length + 1 = np) : ∀ vs H Q E, spI K cls F vs H Q E → vs.length = np := by
  rintro vs H Q E ⟨x, dx, us, H1, X, hd, args, Qd, Qx, rfl, _, _, _, _, _, _, sl, h, _⟩
  rw [List.length_cons, sl.length]; exact hF _ _ _ h
/-- where the body of __init__ begins -/
theorem rep_startI {K : PySem.W.Frag} {X : Addr → Prop} {hd : Hnd} {H1 : Hp} {E : L2.St → XK} {cls : Str} {x dx : Addr} {us : List V} {args : List Sl} {N : List Str} (np : H1 x = none) (nd : H1 dx = none) (ne : dx ≠ x) (al : ∀ a, X a → ∃ o, H1 a = some o) (hh : ∀ h c, hd = some (h, c) → X h ∧ HandC H1 h c) (sl : SlAll K hd X H1 us args) :
    Rep ⟨K, H1, X, hd, none, E, some x⟩ (fun a => X a ∨ a = x) (.ins cls [] [] :: (args ++ List.replicate (N.length - (args.length + 1)) .no)) (L2.start N (.ref x :: us)) (upd (upd H1 dx (.own x)) x (.ins (He.ga K cls) dx [])) := by
  have hl := sl.length
  have nX : ¬ X x := fun z => by obtain ⟨o, e⟩ := al x z; rw [np] at e; cases e
  have f : Frm hd H1 (upd (upd H1 dx (.own x)) x (.ins (He.ga K cls) dx [])) := (Frm.upd nd).trans (.upd (by rw [upd_ne (Ne.symm ne)]; exact np))
  have sm : Same (vis H1 X) (vis (upd (upd H1 dx (.own x)) x (.ins (He.ga K cls) dx [])) fun a => X a ∨ a = x) := fun a o e => by
    obtain ⟨n1, e1⟩ := vis_of e
    have a1 : a ≠ x := ne_of_none e1 np
    have a2 : a ≠ dx := ne_of_none e1 nd
    exact vis_mk (fun z => z.elim n1 a1) (by rw [upd_ne a1, upd_ne a2]; exact e1)
  have slots : ∀ {us : List V} {args : List Sl}, SlAll K hd X H1 us args → ∀ (i : Nat) (s : Sl), args[i]? = some s → (∃ o, (us.map some)[i]? = some o ∧ SlRep ⟨K, H1, X, hd, none, E, some x⟩ (fun a => X a ∨ a = x) (upd (upd H1 dx (.own x)) x (.ins (He.ga K cls) dx [])) s o) ∧ (∀ xs, s ≠ .own xs) ∧ ∀ C0 ns ds, s ≠ .ins C0 ns ds := by
    intro us args sl
    induction sl with
    | nil => intro i s e; simp at e
    | d a r ih =>
      intro i s e
      cases i with
      | zero => simp at e; subst e; exact ⟨⟨_, rfl, _, rfl, a.mono sm⟩, (fun _ z => by cases z), fun _ _ _ z => by cases z⟩
      | succ i =>
        obtain ⟨⟨o, q⟩, n⟩ := ih i s (by simpa using e)
        exact ⟨⟨o, by simpa using q⟩, n⟩
    | hand a r ih =>
      intro i s e
      cases i with
      | zero => simp at e; subst e; exact ⟨⟨_, rfl, _, _, rfl, a⟩, (fun _ z => by cases z), fun _ _ _ z => by cases z⟩
      | succ i =>
        obtain ⟨⟨o, q⟩, n⟩ := ih i s (by simpa using e)
        exact ⟨⟨o, by simpa using q⟩, n⟩
  have rest : ∀ (i : Nat) (s : Sl), (args ++ List.replicate (N.length - (args.length + 1)) Sl.no)[i]? = some s → (∀ xs, s ≠ .own xs) ∧ ∀ C0 ns ds, s ≠ .ins C0 ns ds := fun i s e => by
    rw [List.getElem?_append] at e
    split at e
    · exact (slots sl i s e).2
    · rw [List.getElem?_replicate] at e
      split at e
      · cases e; exact ⟨(fun _ z => by cases z), fun _ _ _ z => by cases z⟩
      · cases e
  refine ⟨?_, fun a z => .inl z, fun a z => ?_, fun a z => ?_, f, fun h c e => ⟨(hh h c e).1, (hh h c e).2, f.2 h c e (hh h c e).2⟩, fun i s e => ?_, fun i j xs ys n e1 e2 => ?_, fun i ⟨C0, ns, ds, e⟩ => ?_⟩
  · unfold L2.start
    simp [hl]
  · rcases z with z | rfl
    · exact .inl z
    · exact .inr np
  · rcases z with z | rfl
    · obtain ⟨o, e⟩ := al a z
      exact ⟨o, by rw [upd_ne (ne_of_none e np), upd_ne (ne_of_none e nd)]; exact e⟩
    · exact ⟨_, upd_same⟩
  · cases i with
    | zero =>
      simp at e
      subst e
      exact ⟨some (.ref x), rfl, x, dx, [], rfl, .inr rfl, nX, upd_same, ⟨rfl, rfl⟩, .nil⟩
    | succ i =>
      have e : (args ++ List.replicate (N.length - (args.length + 1)) Sl.no)[i]? = some s := e
      unfold L2.start
      rw [List.getElem?_append] at e
      rw [List.map_cons, List.cons_append, List.getElem?_cons_succ, List.getElem?_append, List.length_map, hl]
      split at e
      · rename_i c
        rw [if_pos c]
        exact (slots sl i s e).1
      · rename_i c
        rw [if_neg c]
        rw [List.getElem?_replicate] at e ⊢
        split at e
        · rename_i c2
          cases e
          rw [List.length_cons, hl, if_pos c2]
          exact ⟨_, rfl, trivial⟩
        · cases e
  · cases i with
    | zero => simp at e1
    | succ i => exact absurd rfl ((rest i _ e1).1 xs)
  · cases i with
    | zero => rfl
    | succ i => exact absurd rfl ((rest i _ e).2 C0 ns ds)
theorem body_ofI {K : PySem.W.Frag} {N : List Str} {np n : Nat} {cls : Str} {sb : DSt} {t : TS} {vs : List V} {H : Hp} {Q : VK} {E : XK} (hn : N.length = n) (h : spI K cls (mkI cls np n sb) vs H Q E)
    (hb : ∀ H X hd x, DS ⟨K, H, X, hd, none, fun _ => E, some x⟩ t sb) : t { nx := fun _ H' => Q .non H', rt := Q } (L2.start N vs) H := by
  obtain ⟨x, dx, us, H1, X, hd, args, Qd, Qx, rfl, np', nd, ne, rfl, al, hh, sl, ⟨ha, h⟩, q, xx⟩ := h
  have r := rep_startI (N := N) (cls := cls) (E := fun _ => E) np' nd ne al hh sl
  rw [ha, hn] at r
  refine hb H1 X hd x _ _ _ _ _ _ r ⟨fun X' env σ H' r' s' h' => ?_, fun _ _ _ _ _ _ _ _ _ (h' : False) => h'.elim, fun _ _ _ _ _ _ (h' : False) => h'.elim, fun _ _ _ _ _ _ (h' : False) => h'.elim, fun X' env σ H' z cls dx r' s' w h' => xx z cls dx H' r'.frm (w.mono (vis_anti r'.sup)) h'⟩ h
  have h' : (match env[0]? with
    | some (Sl.ins C ns ds) => Qd (.ins C ns ds)
    | _ => False) := h'
  split at h'
  · rename_i C0 ns ds e
    obtain ⟨o, e1, p, dx2, vs2, rfl, x1, x2, hp, ⟨hl, hm⟩, al2⟩ := r'.slot 0 _ e
    have hm : some x = some p := hm
    obtain rfl : x = p := by injection hm
    refine q _ H' r'.frm ?_ h'
    exact .ins (vis_mk x2 hp) hl (al2.mono (vis_anti r'.sup))
  · exact h'.elim
/-! ### o.m(..), o.p -/
def eMeth (c m : Str) (F : DFn) (dd : List Sl) (a : DX) (r : DSX) : DX := fun env Q E => a env (fun d => match d with
  | .ins c' ns ds => c' = c ∧ (ns.zip ds).lookup m = none ∧ r env (fun ss => F (.d (.ins c' ns ds) :: (ss ++ dd)) Q E) E
  | _ => False) E
def eMeth0 (c m : Str) (F : DFn) (dd : List Sl) (a : DX) (r : DSX) : DX := fun env Q E => a env (fun d => match d with
  | .ins c' ns ds => c' = c ∧ (ns.zip ds).lookup m = none ∧ r env (fun ss => F (.d (.ins c' ns ds) :: (ss ++ dd)) Q fun _ => False) E
  | _ => False) E
def eProp (c : Str) (F : DFn) (a : DX) : DX := fun env Q E => a env (fun d => match d with
  | .ins c' ns ds => c' = c ∧ F [.d (.ins c' ns ds)] Q fun _ => False
  | _ => False) E
section
variable {C : Bc} {F : DFn} {c m : Str} {dvs : List V} {dd : List Sl} {te : TE} {ea : DX} {t : TA} {a : DSX}
theorem de_meth0 (hd : Dvs dvs dd) (ho : DE C te ea) (ha : DAs C t a) : DE C (tMeth (He.ga C.K c) m (spD C.K F) dvs E0 te t) (eMeth0 c m F dd ea a) := by
  intro X env σ H Q Qd Qx rp he q x
  refine ho X env σ H _ _ Qx rp he (fun d v H1 f1 r1 h1 => ?_) x
  split at h1
  · rename_i c' ns ds
    obtain ⟨rfl, h2, h3⟩ := h1
    have rp1 := rp.step f1
    have r1 : Den C.K (vis H1 X) v (.ins c' ns ds) := r1
    have r1' := r1
    cases r1 with
    | @ins p dx _ _ vs _ hp hl al =>
      refine ⟨p, dx, _, rfl, vis_sub _ _ hp, al.lookN h2, ?_⟩
      refine ha X env σ H1 _ _ Qx rp1 h3 (fun ss us H2 f2 r2 h4 => ?_) (x.step f1)
      exact spD_use (rp1.step f2) (.d (r1'.mono (rp1.vs f2)) (SlAll.append r2 (hd C.K C.hd X H2))) h4 (fun d v H' f h => q d v H' (f1.trans (f2.trans f)) h) fun _ _ _ _ _ _ z => z.elim
  · exact h1.elim
theorem de_prop (ho : DE C te ea) : DE C (tProp (He.ga C.K c) (spD C.K F) [] E0 te) (eProp c F ea) := by
  intro X env σ H Q Qd Qx rp he q x
  refine ho X env σ H _ _ Qx rp he (fun d v H1 f1 r1 h1 => ?_) x
  split at h1
  · rename_i c' ns ds
    obtain ⟨rfl, h3⟩ := h1
    have rp1 := rp.step f1
    have r1 : Den C.K (vis H1 X) v (.ins c' ns ds) := r1
    have r1' := r1
    cases r1 with
    | @ins p dx _ _ vs _ hp hl al =>
      refine ⟨p, dx, _, rfl, vis_sub _ _ hp, ?_⟩
      exact spD_use rp1 (.d r1' .nil) h3 (fun d v H' f h => q d v H' (f1.trans f) h) fun _ _ _ _ _ _ z => z.elim
  · exact h1.elim
end
/-! ### isinstance(x, C), C a class of one's own -/
def eIsI (tab : Str → Option Bool) (a : DX) : DX := fun env Q E => a env (fun d => match d with
  | .ins c _ _ => ∃ b, tab c = some b ∧ Q (.bl b)
  | d => d.kind.isSome = true ∧ Q (.bl false)) E
/-- what of the text isinstance asks: instances of the classes in the table, and the built-in kinds -/
structure IsOk (K : PySem.W.Frag) (cn : Str) (tab : Str → Option Bool) : Prop where
  ins : ∀ c b, tab c = some b → PySem.W.kitOne K (.ref (He.ga K c)) (.ref (He.ga K cn)) = some b ∧ ∀ (H : Hp) (a dx : Addr) (fs : List (Str × V)), H a = some (.ins (He.ga K c) dx fs) → TyX K H (.ref a) (.ref (He.ga K c))
  kin : ∀ n, n ∈ ["NoneType", "bool", "int", "str", "tuple", "list", "dict"] → PySem.W.kitOne K (.type n) (.ref (He.ga K cn)) = some false
section
variable {C : Bc} {te : TE} {ea : DX} {cn : Str} {tab : Str → Option Bool}
theorem de_isI (hk : IsOk C.K cn tab) (he : DB C te ea) : DE C (tCB (rIsi C.K) (tCons te (tCons (tC (.ref (He.ga C.K cn))) tNil))) (eIsI tab ea) := by
  intro X env σ H Q Qd Qx rp h q x
  refine he X env σ H _ _ Qx rp h (fun d v H1 f1 r1 h1 => ?_) x
  show ∃ (x c : V) (t u : Value) (b : Bool), [v, .ref (He.ga C.K cn)] = [x, c] ∧ _
  split at h1
  · obtain ⟨b, hb, h2⟩ := h1
    obtain ⟨k1, k2⟩ := hk.ins _ _ hb
    obtain ⟨p, dx, vs, rfl, hp, hl, al⟩ := r1.ins
    exact ⟨_, _, _, _, b, rfl, .own _, k2 _ _ _ _ hp, k1, q _ _ _ f1 (.bl _) h2⟩
  · obtain ⟨hn, h2⟩ := h1
    obtain ⟨n, hn⟩ := Option.isSome_iff_exists.mp hn
    exact ⟨_, _, _, _, false, rfl, .own _, r1.tyx hn, hk.kin n (Dt.kind_mem hn), q _ _ _ f1 (.bl _) h2⟩
end
end Mine

namespace Mine
open PySem PySem.Spec PyProof.Rows L2
/-! ### the head's own hook: defs at any address, facts, one more Bool -/
/-! ### a property: its record, its getter -/
def gA (K : PySem.W.Frag) (C m : Str) : Addr := match PySem.W.recIn K (He.ma K (He.ga K C) m) "property" with
  | some (.ref g :: _) => g
  | _ => 0
def propB (C m : Str) (K : PySem.W.Frag) : Bool := He.eqO (PySem.W.findIn K (.ref (He.ga K C)) m) (some (some (.ref (He.ma K (He.ga K C) m)))) &&
  (He.eqO (PySem.W.specialIn K (.ref (He.ma K (He.ga K C) m)) "__get__") (some (some (.builtin "property.__get__"))) && (decide (PySem.W.takesIn K (.ref (He.ma K (He.ga K C) m)) = some true) && (match PySem.W.recIn K (He.ma K (He.ga K C) m) "property" with
    | some (.ref _ :: _) => true
    | _ => false)))
theorem propB_ok {K : PySem.W.Frag} {C m : Str} (h : propB C m K = true) : PropOf K (He.ga K C) m (He.ma K (He.ga K C) m) (gA K C m) := by
  obtain ⟨h1, h⟩ := He.ba h
  obtain ⟨h2, h⟩ := He.ba h
  obtain ⟨h3, h4⟩ := He.ba h
  refine ⟨He.eqO_ok h1, He.eqO_ok h2, of_decide_eq_true h3, ?_⟩
  unfold gA
  split at h4
  · rename_i g r e
    exact ⟨r, by rw [e]⟩
  · cases h4
end Mine

namespace Mine
open PySem PySem.Spec PyProof.Rows L2
/-! ### dicts: keys whole numbers and texts, or tuples of them -/
section
variable {κ : Type} [DecidableEq κ]
def valD : List κ → List Dt → κ → Option Dt
  | k :: ks, d :: ds, j => if k = j then some d else valD ks ds j
  | _, _, _ => none
def putKs : List κ → κ → List κ
  | [], j => [j]
  | k :: ks, j => if k = j then k :: ks else k :: putKs ks j
def putVs : List κ → List Dt → κ → Dt → List Dt
  | k :: ks, d :: ds, j, y => if k = j then y :: ds else d :: putVs ks ds j y
  | _, _, _, y => [y]
theorem DenAll.val {K : PySem.W.Frag} {H : Hp} {j : κ} : ∀ {ks : List κ} {vs : List V} {ds : List Dt}, ks.length = vs.length → DenAll K H vs ds →
    (valD ks ds j = none ∧ valV (ks.zip vs) j = none) ∨ ∃ d v, valD ks ds j = some d ∧ valV (ks.zip vs) j = some v ∧ Den K H v d
  | [], [], _, _, .nil => .inl ⟨rfl, rfl⟩
  | k :: ks, v :: vs, d :: ds, l, .cons a r => by
    rw [List.zip_cons_cons]
    unfold valD
    by_cases c : k = j
    · rw [if_pos c, valV_pos (p := (k, v)) c]
      exact .inr ⟨d, v, rfl, rfl, a⟩
    · rw [if_neg c, valV_neg (p := (k, v)) c]
      exact DenAll.val (by simpa using l) r
theorem putK_pos {k j : κ} {u v : V} {r : List (κ × V)} (c : k = j) (nd : ∀ p ∈ r, p.1 ≠ j) : putK ((k, u) :: r) j v = (k, v) :: r := by
  unfold putK
  rw [if_pos (by simp [c]), List.map_cons]
  simp only [c, if_true]
  congr 1
  refine (List.map_congr_left fun p hp => ?_).trans (List.map_id r)
  rw [if_neg (nd p hp)]; rfl
theorem putK_neg {k j : κ} {u v : V} {r : List (κ × V)} (c : ¬ k = j) : putK ((k, u) :: r) j v = (k, u) :: putK r j v := by
  unfold putK
  rw [List.any_cons]
  simp only [c, decide_false, Bool.false_or, List.map_cons, if_false]
  split <;> rfl
/-- what stands in a dict of one's own: no key twice -/
theorem putF_K {K : PySem.W.Frag} {H : Hp} {j : κ} {v : V} {y : Dt} (hv : Den K H v y) : ∀ {ks : List κ} {vs : List V} {ds : List Dt}, ks.Nodup → ks.length = vs.length → DenAll K H vs ds →
    ∃ vs', putK (ks.zip vs) j v = (putKs ks j).zip vs' ∧ (putKs ks j).length = vs'.length ∧ DenAll K H vs' (putVs ks ds j y)
  | [], [], _, _, _, .nil => ⟨[v], rfl, rfl, .cons hv .nil⟩
  | k :: ks, u :: vs, d :: ds, nd, l, .cons a r => by
    have nd2 := List.nodup_cons.mp nd
    by_cases c : k = j
    · refine ⟨v :: vs, ?_, ?_, ?_⟩
      · unfold putKs
        rw [if_pos c, List.zip_cons_cons, List.zip_cons_cons]
        exact putK_pos c fun p hp z => nd2.1 (by rw [c, ← z]; exact (List.of_mem_zip hp).1)
      · unfold putKs; rw [if_pos c]; exact l
      · unfold putVs; rw [if_pos c]; exact .cons hv r
    · obtain ⟨vs', h1, h2, h3⟩ := putF_K (j := j) hv (ks := ks) nd2.2 (by simpa using l) r
      refine ⟨u :: vs', ?_, ?_, ?_⟩
      · unfold putKs
        rw [if_neg c, List.zip_cons_cons, putK_neg c, h1]; rfl
      · unfold putKs; rw [if_neg c, List.length_cons, List.length_cons, h2]
      · unfold putVs; rw [if_neg c]; exact .cons a h3
end
def keyOf : Dt → Option Key
  | .int i => some (.inl i)
  | .str x => some (.inr x)
  | _ => none
def keysOf : List Dt → Option (List Key)
  | [] => some []
  | d :: ds => match keyOf d, keysOf ds with
    | some k, some ks => some (k :: ks)
    | _, _ => none
theorem Den.key {K : PySem.W.Frag} {H : Hp} {v : V} {d : Dt} {k : Key} (h : Den K H v d) (e : keyOf d = some k) : v = kV k := by
  cases d <;> first
    | (injection e with e; subst e; exact h.flat rfl)
    | cases e
theorem DenAll.keys {K : PySem.W.Frag} {H : Hp} : ∀ {ds : List Dt} {vs : List V} {ks : List Key}, DenAll K H vs ds → keysOf ds = some ks → vs = ks.map kV
  | [], _, _, .nil, e => by cases e; rfl
  | d :: ds, _, ks, .cons a r, e => by
    unfold keysOf at e
    split at e
    · rename_i k ks' e1 e2
      cases e
      rw [List.map_cons, a.key e1, r.keys e2]
    · cases e
/-- a dict's thing at a key; a dict with a thing more -/
def Ow.get : Ow → Dt → Option (Option Dt)
  | .dk ks ds, y => (keyOf y).map fun k => valD ks ds k
  | .dt ks ds, .tup xs => (keysOf xs).map fun k => valD ks ds k
  | _, _ => none
def Ow.put : Ow → Dt → Dt → Option Ow
  | .dk ks ds, y, z => (keyOf y).map fun k => .dk (putKs ks k) (putVs ks ds k z)
  | .dt ks ds, .tup xs, z => (keysOf xs).map fun k => .dt (putKs ks k) (putVs ks ds k z)
  | _, _, _ => none
def Ow.keysN : Ow → Prop
  | .lst _ => True
  | .dk ks _ => ks.Nodup ∧ ks.length < LINE
  | .dt ks _ => ks.Nodup ∧ ks.length < LINE
/-- data that is a dict -/
def Dt.ow : Dt → Option Ow
  | .dk ks ds => some (.dk ks ds)
  | .dt ks ds => some (.dt ks ds)
  | _ => none
theorem DenO.get {K : PySem.W.Frag} {H H' : Hp} {p : Addr} {u : HO} {w : Ow} {v : V} {y : Dt} {r : Option Dt} (h : DenO K H' u w) (s : Same H' H) (e : H p = some u) (hy : Den K H' v y) (g : w.get y = some r) :
    IsD H p ∧ ((r = none ∧ DGet H p v none) ∨ ∃ d x, r = some d ∧ DGet H p v (some x) ∧ Den K H' x d) := by
  cases h with
  | lst a => cases g
  | @dk ks vs ds l a =>
    obtain ⟨k, e1, rfl⟩ := Option.map_eq_some_iff.mp g
    have ev := hy.key e1
    subst ev
    refine ⟨.inl ⟨_, .inl e⟩, ?_⟩
    rcases a.val (j := k) l with ⟨h1, h2⟩ | ⟨d, x, h1, h2, h3⟩
    · exact .inl ⟨h1, by rw [← h2]; exact .k e⟩
    · exact .inr ⟨d, x, h1, by rw [← h2]; exact .k e, h3⟩
  | @dt ks vs ds l a =>
    cases y with
    | tup xs =>
      obtain ⟨k, e1, rfl⟩ := Option.map_eq_some_iff.mp g
      cases hy with
      | tup hb ax =>
        have ev := ax.keys e1
        subst ev
        refine ⟨.inr ⟨_, .inl e⟩, ?_⟩
        rcases a.val (j := k) l with ⟨h1, h2⟩ | ⟨d, x, h1, h2, h3⟩
        · exact .inl ⟨h1, by rw [← h2]; exact .t e (s _ _ hb)⟩
        · exact .inr ⟨d, x, h1, by rw [← h2]; exact .t e (s _ _ hb), h3⟩
    | _ => cases g
theorem DenO.put {K : PySem.W.Frag} {H H' : Hp} {p : Addr} {u : HO} {w w' : Ow} {v x : V} {y z : Dt} (h : DenO K H' u w) (s : Same H' H) (e : H p = some u) (hy : Den K H' v y) (hz : Den K H' x z) (hn : w.keysN) (g : w.put y z = some w') :
    ∃ u', DPut H p v x (upd H p u') ∧ DenO K H' u' w' := by
  cases h with
  | lst a => cases g
  | @dk ks vs ds l a =>
    obtain ⟨k, e1, rfl⟩ := Option.map_eq_some_iff.mp g
    have ev := hy.key e1
    subst ev
    obtain ⟨vs', h1, h2, h3⟩ := putF_K (j := k) hz hn.1 l a
    refine ⟨_, .k e (by rw [List.length_zip, sizeLine_eq]; exact Nat.lt_of_le_of_lt (Nat.min_le_left _ _) hn.2), ?_⟩
    rw [h1]; exact .dk h2 h3
  | @dt ks vs ds l a =>
    cases y with
    | tup xs =>
      obtain ⟨k, e1, rfl⟩ := Option.map_eq_some_iff.mp g
      cases hy with
      | tup hb ax =>
        have ev := ax.keys e1
        subst ev
        obtain ⟨vs', h1, h2, h3⟩ := putF_K (j := k) hz hn.1 l a
        refine ⟨_, .t e (s _ _ hb) (by rw [List.length_zip, sizeLine_eq]; exact Nat.lt_of_le_of_lt (Nat.min_le_left _ _) hn.2), ?_⟩
        rw [h1]; exact .dt h2 h3
    | _ => cases g
end Mine

namespace Mine
open PySem PySem.Spec PyProof.Rows L2
/-! ### dicts that are read -/
def BorD : RR := fun C X _ H v d => ∃ w p u, d.ow = some w ∧ v = .ref p ∧ (∀ h c, C.hd = some (h, c) → p ≠ h) ∧ H p = some u ∧ DenO C.K (vis H X) u w
/-- a dict by its name, one's own or not -/
def eVarD (i : Nat) : DX := fun env Q _ => match env[i]? with
  | some (.d x) => x.ow.isSome = true ∧ Q x
  | some (.own w) => w.fz.ow.isSome = true ∧ Q w.fz
  | _ => False
/-- any dict -/
def eDic (a : DX) : DX := fun env Q E => a env (fun x => x.ow.isSome = true ∧ Q x) E
def eGet1 (ed ek : DX) : DX := fun env Q E => ed env (fun d => ek env (fun k => ∃ w r, d.ow = some w ∧ w.get k = some r ∧ Q (r.getD .non)) E) E
def eGet2 (ed ek ez : DX) : DX := fun env Q E => ed env (fun d => ek env (fun k => ez env (fun z => ∃ w r, d.ow = some w ∧ w.get k = some r ∧ Q (r.getD z)) E) E) E
def eAtD (ed ek : DX) : DX := fun env Q E => ed env (fun d => ek env (fun k => ∃ w r, d.ow = some w ∧ w.get k = some (some r) ∧ Q r) E) E
def eInD (ek ed : DX) : DX := fun env Q E => ek env (fun k => ed env (fun d => ∃ w r, d.ow = some w ∧ w.get k = some r ∧ Q (.bl r.isSome)) E) E
def eNotInD (ek ed : DX) : DX := fun env Q E => ek env (fun k => ed env (fun d => ∃ w r, d.ow = some w ∧ w.get k = some r ∧ Q (.bl (!r.isSome))) E) E
/-- x = {} -/
def sOwnD (j : Nat) (t : Bool) : DSt := fun d env => d.nx (env.set j (.own (if t = true then .dt [] [] else .dk [] [])))
/-- x[k] = e -/
def sPutD (i : Nat) (ek e : DX) : DSt := fun d env => match env[i]? with
  | some (.own w) => e env (fun y => ek env (fun k => w.keysN ∧ ∃ w', w.put k y = some w' ∧ d.nx (env.set i (.own w'))) (d.xc env)) (d.xc env)
  | _ => False
theorem Den.ow {C : Bc} {X : Addr → Prop} {env : List Sl} {σ : L2.St} {H H1 : Hp} {v : V} {x : Dt} (rp : Rep C X env σ H) (h : Den C.K (vis H X) v x) (e : x.ow.isSome = true) : BorD C X H1 H v x := by
  cases h with
  | dk h l a => exact ⟨_, _, _, rfl, rfl, fun y c q z => (vis_of h).1 (z ▸ rp.hX y c q), vis_sub _ _ h, .dk l a⟩
  | dt h l a => exact ⟨_, _, _, rfl, rfl, fun y c q z => (vis_of h).1 (z ▸ rp.hX y c q), vis_sub _ _ h, .dt l a⟩
  | _ => cases e
section
variable {C : Bc} {td ty tx : TE} {ed ek ez : DX}
end
end Mine

namespace Mine
open PySem PySem.Spec PyProof.Rows L2
theorem mkI_W (cls : Str) (np N : Nat) (s : DSt) {args} {Q} {E} : mkI cls np N s args Q E = (args.length + 1 = np ∧ s ⟨fun (env : List Sl) => match env[0]? with
  | some (Sl.ins C ns ds) => Q (.ins C ns ds)
  | _ => False, fun _ => False, fun _ => False, fun _ => False, fun _ x => E x⟩ (.ins cls [] [] :: (args ++ List.replicate (N - np) .no))) := rfl
theorem mkI0_W (cls : Str) (np N : Nat) (s : DSt) {args} {Q} {E} : mkI0 cls np N s args Q E = (args.length + 1 = np ∧ s ⟨fun (env : List Sl) => match env[0]? with
  | some (Sl.ins C ns ds) => Q (.ins C ns ds)
  | _ => False, fun _ => False, fun _ => False, fun _ => False, fun _ _ => False⟩ (.ins cls [] [] :: (args ++ List.replicate (N - np) .no))) := rfl
theorem eFld_W (tab : Str → Str → Bool) (f : Str) (a : DX) {env} {Q} {E} : eFld tab f a env Q E = (a env (fun d => match d with
  | .ins C ns ds => tab C f = true ∧ ∃ x, (ns.zip ds).lookup f = some x ∧ Q x
  | _ => False) E) := rfl
theorem eFldS_W (tab : Str → Str → Bool) (f : Str) (i : Nat) {env} {Q} {u2} : eFldS tab f i env Q u2 = (match env[i]? with
  | some (.ins C ns ds) => tab C f = true ∧ ∃ x, (ns.zip ds).lookup f = some x ∧ Q x
  | _ => False) := rfl
theorem sSetF_W (tab : Str → Str → Bool) (f : Str) (i : Nat) (e : DX) {d} {env} : sSetF tab f i e d env = (match env[i]? with
  | some (.ins C ns ds) => e env (fun y => tab C f = true ∧ i = 0 ∧ ns.length < 900 ∧ d.nx (env.set i (.ins C (putNs f ns) (putDs f y ns ds)))) (d.xc env)
  | _ => False) := rfl
theorem eMeth_W (c m : Str) (F : DFn) (dd : List Sl) (a : DX) (r : DSX) {env} {Q} {E} : eMeth c m F dd a r env Q E = (a env (fun d => match d with
  | .ins c' ns ds => c' = c ∧ (ns.zip ds).lookup m = none ∧ r env (fun ss => F (.d (.ins c' ns ds) :: (ss ++ dd)) Q E) E
  | _ => False) E) := rfl
theorem eMeth0_W (c m : Str) (F : DFn) (dd : List Sl) (a : DX) (r : DSX) {env} {Q} {E} : eMeth0 c m F dd a r env Q E = (a env (fun d => match d with
  | .ins c' ns ds => c' = c ∧ (ns.zip ds).lookup m = none ∧ r env (fun ss => F (.d (.ins c' ns ds) :: (ss ++ dd)) Q fun _ => False) E
  | _ => False) E) := rfl
theorem eProp_W (c : Str) (F : DFn) (a : DX) {env} {Q} {E} : eProp c F a env Q E = (a env (fun d => match d with
  | .ins c' ns ds => c' = c ∧ F [.d (.ins c' ns ds)] Q fun _ => False
  | _ => False) E) := rfl
theorem eVarD_W (i : Nat) {env} {Q} {u2} : eVarD i env Q u2 = (match env[i]? with
  | some (.d x) => x.ow.isSome = true ∧ Q x
  | some (.own w) => w.fz.ow.isSome = true ∧ Q w.fz
  | _ => False) := rfl
theorem eDic_W (a : DX) {env} {Q} {E} : eDic a env Q E = (a env (fun x => x.ow.isSome = true ∧ Q x) E) := rfl
theorem eGet1_W (ed ek : DX) {env} {Q} {E} : eGet1 ed ek env Q E = (ed env (fun d => ek env (fun k => ∃ w r, d.ow = some w ∧ w.get k = some r ∧ Q (r.getD .non)) E) E) := rfl
theorem eGet2_W (ed ek ez : DX) {env} {Q} {E} : eGet2 ed ek ez env Q E = (ed env (fun d => ek env (fun k => ez env (fun z => ∃ w r, d.ow = some w ∧ w.get k = some r ∧ Q (r.getD z)) E) E) E) := rfl
theorem eAtD_W (ed ek : DX) {env} {Q} {E} : eAtD ed ek env Q E = (ed env (fun d => ek env (fun k => ∃ w r, d.ow = some w ∧ w.get k = some (some r) ∧ Q r) E) E) := rfl
theorem eInD_W (ek ed : DX) {env} {Q} {E} : eInD ek ed env Q E = (ek env (fun k => ed env (fun d => ∃ w r, d.ow = some w ∧ w.get k = some r ∧ Q (.bl r.isSome)) E) E) := rfl
theorem eNotInD_W (ek ed : DX) {env} {Q} {E} : eNotInD ek ed env Q E = (ek env (fun k => ed env (fun d => ∃ w r, d.ow = some w ∧ w.get k = some r ∧ Q (.bl (!r.isSome))) E) E) := rfl
theorem sOwnD_W (j : Nat) (t : Bool) {d} {env} : sOwnD j t d env = (d.nx (env.set j (.own (if t = true then .dt [] [] else .dk [] [])))) := rfl
theorem sPutD_W (i : Nat) (ek e : DX) {d} {env} : sPutD i ek e d env = (match env[i]? with
  | some (.own w) => e env (fun y => ek env (fun k => w.keysN ∧ ∃ w', w.put k y = some w' ∧ d.nx (env.set i (.own w'))) (d.xc env)) (d.xc env)
  | _ => False) := rfl
theorem eIsI_W (tab : Str → Option Bool) (a : DX) {env} {Q} {E} : eIsI tab a env Q E = (a env (fun d => match d with
  | .ins c _ _ => ∃ b, tab c = some b ∧ Q (.bl b)
  | d => d.kind.isSome = true ∧ Q (.bl false)) E) := rfl
end Mine

namespace Mine
open PySem PySem.Spec PyProof.Rows L2
/-! ### C.m(..), m a static method -/
/-- C's attributes are read the usual way; C.m is a static method, its def at g -/
structure StaOf (K : PySem.W.Frag) (C : Addr) (m : Str) (g : Addr) : Prop where
  rd : PySem.W.readsIn K C (.type "type") = true
  ga : PySem.W.specialIn K (.ref C) "__getattribute__" = some (some (.builtin "type.__getattribute__"))
  at_ : ∃ p, PySem.W.findCls K (.ref C) (.type "type") m = some (.get (.builtin "staticmethod.__get__") (.ref p) .none (.ref C)) ∧ ∃ rest, PySem.W.recIn K p "staticmethod" = some (.ref g :: rest)
def staB (C m : Str) (K : PySem.W.Frag) : Bool := PySem.W.readsIn K (He.ga K C) (.type "type") && (He.eqO (PySem.W.specialIn K (.ref (He.ga K C)) "__getattribute__") (some (some (.builtin "type.__getattribute__"))) && He5.wrapB K (He.ga K C) "staticmethod" "staticmethod.__get__" m)
theorem staB_ok {K : PySem.W.Frag} {C m : Str} (h : staB C m K = true) : StaOf K (He.ga K C) m (He5.wf K (He.ga K C) "staticmethod" m) := by
  obtain ⟨h1, h⟩ := He.ba h
  obtain ⟨h2, h3⟩ := He.ba h
  obtain ⟨h4, h5⟩ := He5.wrapB_ok h3
  exact ⟨h1, He.eqO_ok h2, _, h4, h5⟩
section
variable {X : Cx} {CX : CXT} {k : Nat} {C g : Addr} {sp : Sp} {E : XK} {e : Expr} {es : List Expr} {x m : Str} {pos apos p0 : Pos} {t : TA} {pl : Sem Bool} {fd : FuncData} {ps : List Str} {ds : List Value} {dvs : List V}
theorem pe_scall (so : StaOf X.K C m g) (hg : Gl X x) (hm : X.mg x = some (.ref C)) (F : FnOk X.prog X.w X.K X.mg X.base CX k g fd ps sp) (hr : Room k X.A) (hk : PySem.W.keepIn X.K (.ref g) = true) (hb : Binds X.K fd ps ds) (hd : Vals dvs ds) (hx : Passes CX X E) (ha : PA X (e :: es) t)
    (hdb : (x == ("__debug__" : Str)) = false := by decide)
    (hst : starEach (e :: es) X.env = (false, eval e X.env) :: starEach es X.env := by rfl) (hpl : (backTo pos (starEach es X.env)).any (·.1) = false := by rfl)
    (ht : eval (.Call (.Attribute (.Name x p0) m apos) (e :: es) [] pos) X.env = (do
      let ov ← eval (.Name x p0) X.env
      standAt apos.atName
      let (f, first) ← holding [ov] (getMethod ov m pl)
      callWith pos f first (backTo pos (starEach (e :: es) X.env)) (backToKw pos (keywordEach [] X.env))) := by rfl) :
    PE X (.Call (.Attribute (.Name x p0) m apos) (e :: es) [] pos) (tCall sp dvs E t) := by
  refine ⟨fun pins s σ H Q I h => ?_⟩
  refine PySem.W.methodCall_KW (pl := pl) (ld_glob I hg hm ?_ hdb) ht
  obtain ⟨pp, h1, rest, h2⟩ := so.at_
  refine PySem.W.method_cls I.kIn so.ga (PySem.W.cls_bind I.kIn so.rd h1 (wpAny_call (PySem.W.sm_get (s := { s with toks := s.toks + 1 }) I.kIn h2 (PySem.W.handed_on rfl ?_))))
  have I1 : Inv X pins σ H { s with toks := s.toks + 1 } := I.tok _
  refine PySem.W.callWith_K (h₀ := X.base) I.ok.mod.kin hk (thn (ha.run pos pins _ σ H _ I1 h) fun us s1 ⟨vs, H1, I2, r, q⟩ => ⟨I2.kIn, ?_⟩) hst hpl
  exact run_fn F hr hb hd hx I2 r q
end
end Mine

namespace Mine
open PySem PySem.Spec PyProof.Rows L2
/-! ### range(a, b, -1) -/
section
variable {C : Bc} {S : SS} {ta : TA} {ea : DAX}
end
/-! ### isinstance of one's own classes: what of the text it asks -/
structure InsK (K : PySem.W.Frag) (C : Addr) : Prop where
  ha : PySem.W.findIn K (.ref C) "__class__" = some (some (.builtin "object.__class__"))
  hn : PySem.W.specialIn K (.builtin "object.__class__") "__get__" = some (some (.builtin "getset_descriptor.__get__"))
  htk : PySem.W.takesIn K (.builtin "object.__class__") = some true
  hm : PySem.W.mroIn K C (.type "object") = some true
def insB (C : Str) (K : PySem.W.Frag) : Bool := He.eqO (PySem.W.findIn K (.ref (He.ga K C)) "__class__") (some (some (.builtin "object.__class__"))) && (He.eqO (PySem.W.specialIn K (.builtin "object.__class__") "__get__") (some (some (.builtin "getset_descriptor.__get__"))) &&
  (decide (PySem.W.takesIn K (.builtin "object.__class__") = some true) && decide (PySem.W.mroIn K (He.ga K C) (.type "object") = some true)))
theorem insB_ok {C : Str} {K : PySem.W.Frag} (h : insB C K = true) : InsK K (He.ga K C) := by
  obtain ⟨h1, h⟩ := He.ba h
  obtain ⟨h2, h⟩ := He.ba h
  obtain ⟨h3, h4⟩ := He.ba h
  exact ⟨He.eqO_ok h1, He.eqO_ok h2, of_decide_eq_true h3, of_decide_eq_true h4⟩
def kinB (C : Str) (K : PySem.W.Frag) : Bool := decide (PySem.W.kitOne K (.type "NoneType") (.ref (He.ga K C)) = some false) && (decide (PySem.W.kitOne K (.type "bool") (.ref (He.ga K C)) = some false) && (decide (PySem.W.kitOne K (.type "int") (.ref (He.ga K C)) = some false) &&
  (decide (PySem.W.kitOne K (.type "str") (.ref (He.ga K C)) = some false) && (decide (PySem.W.kitOne K (.type "tuple") (.ref (He.ga K C)) = some false) && (decide (PySem.W.kitOne K (.type "list") (.ref (He.ga K C)) = some false) && decide (PySem.W.kitOne K (.type "dict") (.ref (He.ga K C)) = some false))))))
def KinOk (K : PySem.W.Frag) (C : Addr) : Prop := ∀ n, n ∈ ["NoneType", "bool", "int", "str", "tuple", "list", "dict"] → PySem.W.kitOne K (.type n) (.ref C) = some false
theorem kinB_ok {C : Str} {K : PySem.W.Frag} (h : kinB C K = true) : KinOk K (He.ga K C) := by
  obtain ⟨h1, h⟩ := He.ba h
  obtain ⟨h2, h⟩ := He.ba h
  obtain ⟨h3, h⟩ := He.ba h
  obtain ⟨h4, h⟩ := He.ba h
  obtain ⟨h5, h⟩ := He.ba h
  obtain ⟨h6, h7⟩ := He.ba h
  intro n hn
  simp only [List.mem_cons, List.not_mem_nil, or_false] at hn
  rcases hn with rfl | rfl | rfl | rfl | rfl | rfl | rfl
  · exact of_decide_eq_true h1
  · exact of_decide_eq_true h2
  · exact of_decide_eq_true h3
  · exact of_decide_eq_true h4
  · exact of_decide_eq_true h5
  · exact of_decide_eq_true h6
  · exact of_decide_eq_true h7
theorem tyx_ins {K : PySem.W.Frag} {C : Addr} (c : Cls K C) (i : InsK K C) (H : Hp) (a dx : Addr) (fs : List (Str × V)) (e : H a = some (.ins C dx fs)) : TyX K H (.ref a) (.ref C) := .base (.ins e c i.ha i.hn i.htk i.hm)
theorem pe_fldU {X : Cx} {K : PySem.W.Frag} {e : Expr} {f : Str} {pos : Pos} {ta : TE} (eK : X.K = K) (he : PE X e ta) (hb : attributeBase e f X.env (eval e X.env) = eval e X.env) : PE X (.Attribute e f pos) (tFld K ta f) := eK ▸ pe_fld he hb
/-! ### within a try: makings, methods, static methods -/
section
variable {X : Cx} {CX : CXT} {k : Nat} {f C g : Addr} {fd : FuncData} {ps : List Str} {sp : Sp} {dvs : List V} {ds : List Value} {E : L2.St → XK} {x m : Str} {p pos apos p0 : Pos} {e o : Expr} {es : List Expr} {ta : TE} {t : TA} {pl : Sem Bool}
def tMakeS (C : Addr) (sp : Sp) (dvs : List V) (E : L2.St → XK) (t : TA) : TE := fun σ H Q => t σ H fun vs H1 => ∀ x dx, H1 x = none → H1 dx = none → dx ≠ x →
  sp (.ref x :: (vs ++ dvs)) (upd (upd H1 dx (.own x)) x (.ins C dx [])) (fun v H2 => v = .non ∧ Q (.ref x) H2) (E σ)
def tMethS (C : Addr) (m : Str) (sp : Sp) (dvs : List V) (E : L2.St → XK) (ta : TE) (t : TA) : TE := fun σ H Q => ta σ H fun x H1 => ∃ a dx fs, x = .ref a ∧ H1 a = some (.ins C dx fs) ∧ fs.lookup m = none ∧
  t σ H1 fun vs H2 => sp (x :: (vs ++ dvs)) H2 Q (E σ)
theorem run_makeS {pins : List (Addr × Obj)} {σ : L2.St} {H : Hp} {s : Shared} {Q : VK} {us : List Value} {vs : List V} (M : Mk X.K C f) (F : FnOk X.prog X.w X.K X.mg X.base CX k f fd ps sp) (hr : Room (k + 1) X.A) (hb : Binds X.K fd ps ds) (hd : Vals dvs ds)
    (hx : PassesAt CX X σ (E σ)) (I : Inv X pins σ H s) (r : Vals vs us)
    (h : ∀ x dx, H x = none → H dx = none → dx ≠ x → sp (.ref x :: (vs ++ dvs)) (upd (upd H dx (.own x)) x (.ins C dx [])) (fun v H2 => v = .non ∧ Q (.ref x) H2) (E σ)) :
    wpAny (model X.prog X.w) X.A (call (.ref C) us) (EP X pins σ Q) X.xe s := by
  have hq := h (s.heap.objs.size + 1) s.heap.objs.size (I.hok.fresh (Nat.le_succ _)) (I.hok.fresh (Nat.le_refl _)) (Nat.ne_of_lt (Nat.lt_succ_self _))
  have I2 := Inv.made (C := C) I
  have r2 : Vals (V.ref (s.heap.objs.size + 1) :: (vs ++ dvs)) (Value.ref (s.heap.objs.size + 1) :: (us ++ ds)) := .cons rfl (r.append hd)
  have hl : (Value.ref (s.heap.objs.size + 1) :: us ++ ds).length = ps.length := by
    have e := r2.length
    rw [F.len _ _ _ _ hq] at e
    exact e.symm
  refine wpAny_call (make_map (f := f) I.kIn M.makes M.init (beq_iff_eq.mp M.fn) (codeAny_mono (F.run _ X.stack _ _ ⟨Value.ref (s.heap.objs.size + 1) :: us, []⟩ (Value.ref (s.heap.objs.size + 1) :: (us ++ ds)) _ _ (E σ) (hr.make C us [])
    (I2.env0.make C us []) (hb _ (Value.ref (s.heap.objs.size + 1) :: us) I2.kIn hl) r2 hq) fun r s' hq' => ?_))
  cases r with
  | error e => exact hx pins _ _ e s' I2 hq'
  | ok fl =>
    cases fl with
    | ret u =>
      obtain ⟨v, H', I3, rv, ev, q3⟩ := I2.after hq'
      subst ev
      exact ⟨rv, ⟨V.ref (s.heap.objs.size + 1), H', I3, rfl, q3⟩⟩
    | next => exact False.elim hq'
    | brk => exact False.elim hq'
    | cont => exact False.elim hq'
theorem pe_makeS (M : Mk X.K C f) (F : FnOk X.prog X.w X.K X.mg X.base CX k f fd ps sp) (hr : Room (k + 1) X.A) (hg : Gl X x) (hm : X.mg x = some (.ref C)) (hb : Binds X.K fd ps ds) (hd : Vals dvs ds) (hx : ∀ σ, PassesAt CX X σ (E σ))
    (ha : PA X (e :: es) t) (hdb : (x == ("__debug__" : Str)) = false := by decide) (he : starEach (e :: es) X.env = (false, eval e X.env) :: starEach es X.env := by rfl) (hpl : (backTo pos (starEach es X.env)).any (·.1) = false := by rfl) :
    PE X (.Call (.Name x p) (e :: es) [] pos) (tMakeS C sp dvs E t) := by
  refine ⟨fun pins s σ H Q I h => ?_⟩
  refine wpAny_Call_Name_kw (ld_glob I hg hm ?_ hdb)
  refine PySem.W.callWith_K (h₀ := X.base) I.ok.mod.kin M.kp (thn (ha.run pos pins s σ H _ I h) fun us s1 ⟨vs, H1, I1, r, q⟩ => ⟨I1.kIn, ?_⟩) he hpl
  exact run_makeS M F hr hb hd (hx σ) I1 r q
theorem pe_methS (he : PE X o ta) (c : Cls X.K C) (hm : Meth X.K C m f) (F : FnOk X.prog X.w X.K X.mg X.base CX k f fd ps sp) (hr : Room k X.A) (hb : Binds X.K fd ps ds) (hd : Vals dvs ds) (hx : ∀ σ, PassesAt CX X σ (E σ)) (ha : PA X (e :: es) t)
    (hst : starEach (e :: es) X.env = (false, eval e X.env) :: starEach es X.env := by rfl) (hpl : (backTo pos (starEach es X.env)).any (·.1) = false := by rfl)
    (ht : eval (.Call (.Attribute o m apos) (e :: es) [] pos) X.env = (do
      let ov ← eval o X.env
      standAt apos.atName
      let (f, first) ← holding [ov] (getMethod ov m pl)
      callWith pos f first (backTo pos (starEach (e :: es) X.env)) (backToKw pos (keywordEach [] X.env))) := by rfl) :
    PE X (.Call (.Attribute o m apos) (e :: es) [] pos) (tMethS C m sp dvs E ta t) := by
  refine ⟨fun pins s σ H Q I h => ?_⟩
  refine PySem.W.methodCall_KW (pl := pl) (thn (he.run pins s σ H _ I h) fun u s1 ⟨x, H1, I1, rx, a, dx, fs, ex, ea, l, q⟩ => ?_) ht
  subst ex
  obtain rfl : u = Value.ref a := rx
  refine getmeth_ok I1 ea c hm l ?_
  refine PySem.W.callWith_K (first := [.ref a]) (h₀ := X.base) I.ok.mod.kin hm.kp (thn (ha.run pos pins s1 σ H1 _ I1 q) fun us s2 ⟨vs, H2, I2, r, q2⟩ => ⟨I2.kIn, ?_⟩) hst hpl
  exact run_fnSD (us := .ref a :: us) (vs := .ref a :: vs) F hr hb hd (hx σ) I2 (.cons rfl r) q2
theorem pe_scallS (so : StaOf X.K C m g) (hg : Gl X x) (hm : X.mg x = some (.ref C)) (F : FnOk X.prog X.w X.K X.mg X.base CX k g fd ps sp) (hr : Room k X.A) (hk : PySem.W.keepIn X.K (.ref g) = true) (hb : Binds X.K fd ps []) (hx : ∀ σ, PassesAt CX X σ (E σ)) (ha : PA X (e :: es) t)
    (hdb : (x == ("__debug__" : Str)) = false := by decide)
    (hst : starEach (e :: es) X.env = (false, eval e X.env) :: starEach es X.env := by rfl) (hpl : (backTo pos (starEach es X.env)).any (·.1) = false := by rfl)
    (ht : eval (.Call (.Attribute (.Name x p0) m apos) (e :: es) [] pos) X.env = (do
      let ov ← eval (.Name x p0) X.env
      standAt apos.atName
      let (f, first) ← holding [ov] (getMethod ov m pl)
      callWith pos f first (backTo pos (starEach (e :: es) X.env)) (backToKw pos (keywordEach [] X.env))) := by rfl) :
    PE X (.Call (.Attribute (.Name x p0) m apos) (e :: es) [] pos) (tCallS sp E t) := by
  refine ⟨fun pins s σ H Q I h => ?_⟩
  refine PySem.W.methodCall_KW (pl := pl) (ld_glob I hg hm ?_ hdb) ht
  obtain ⟨pp, h1, rest, h2⟩ := so.at_
  refine PySem.W.method_cls I.kIn so.ga (PySem.W.cls_bind I.kIn so.rd h1 (wpAny_call (PySem.W.sm_get (s := { s with toks := s.toks + 1 }) I.kIn h2 (PySem.W.handed_on rfl ?_))))
  have I1 : Inv X pins σ H { s with toks := s.toks + 1 } := I.tok _
  refine PySem.W.callWith_K (h₀ := X.base) I.ok.mod.kin hk (thn (ha.run pos pins _ σ H _ I1 h) fun us s1 ⟨vs, H1, I2, r, q⟩ => ⟨I2.kIn, ?_⟩) hst hpl
  exact run_fnS F hr hb (hx σ) I2 r q
end
section
variable {C : Bc} {F : DFn} {cls c m : Str} {dvs : List V} {dd : List Sl} {t : TA} {a : DSX} {te : TE} {ea : DX}
theorem de_makeS {E : L2.St → XK} (hE : C.E = E) (hd : Dvs dvs dd) (ha : DAs C t a) : DE C (tMakeS (He.ga C.K cls) (spI C.K cls F) dvs E t) (eCall F dd a) := by
  intro X env σ H Q Qd Qx rp he q x
  refine ha X env σ H _ _ Qx rp he (fun ss vs H1 f1 r1 he1 => ?_) x
  intro p dx np nd ne
  have rp1 := rp.step f1
  refine ⟨p, dx, vs ++ dvs, H1, X, C.hd, ss ++ dd, Qd, Qx, rfl, np, nd, ne, rfl, rp1.al, fun h c e => ⟨rp1.hX h c e, (rp1.hands h c e).2.2⟩, SlAll.append r1 (hd C.K C.hd X H1), he1, fun d H' f den qd => ⟨rfl, q d _ H' (f1.trans f) den qd⟩, fun y cls' dx' H' f r z => ?_⟩
  have := x y cls' dx' H' (f1.trans f) r z
  rw [hE] at this
  exact this
theorem de_methS {E : L2.St → XK} (hE : C.E = E) (hd : Dvs dvs dd) (ho : DE C te ea) (ha : DAs C t a) : DE C (tMethS (He.ga C.K c) m (spD C.K F) dvs E te t) (eMeth c m F dd ea a) := by
  intro X env σ H Q Qd Qx rp he q x
  refine ho X env σ H _ _ Qx rp he (fun d v H1 f1 r1 h1 => ?_) x
  split at h1
  · rename_i c' ns ds
    obtain ⟨rfl, h2, h3⟩ := h1
    have rp1 := rp.step f1
    have r1 : Den C.K (vis H1 X) v (.ins c' ns ds) := r1
    have r1' := r1
    cases r1 with
    | @ins p dx _ _ vs _ hp hl al =>
      refine ⟨p, dx, _, rfl, vis_sub _ _ hp, al.lookN h2, ?_⟩
      refine ha X env σ H1 _ _ Qx rp1 h3 (fun ss us H2 f2 r2 h4 => ?_) (x.step f1)
      exact spD_use (rp1.step f2) (.d (r1'.mono (rp1.vs f2)) (SlAll.append r2 (hd C.K C.hd X H2))) h4 (fun d v H' f h => q d v H' (f1.trans (f2.trans f)) h) fun y cls dx H' f r z => by
        have := x y cls dx H' (f1.trans (f2.trans f)) r z
        rw [hE] at this
        exact this
  · exact h1.elim
end
end Mine

namespace Mine
open PySem PySem.Spec PyProof.Rows L2
/-! ### math.gcd, math.comb -/
section
variable {C : Bc}
end
/-! ### sep.join(a list of texts) -/
/-! ### a text walked through, and numbered -/
section
variable {C : Bc} {S : SS} {ta : TA} {ea : DAX} {tl : TE} {el : DX}
end
/-! ### a text times a number -/
end Mine

namespace Mine
open PySem PySem.Spec PyProof.Rows L2
/-! ### == of instances whose class has its own __eq__ -/
/-- the class at C has an own __eq__ that promises sp -/
def EqC (P : Program) (w : World) (K : PySem.W.Frag) (mg : Str → Option Value) (base : Heap) (n : Nat) (C : Addr) (sp : Sp) : Prop :=
  ∃ f fd ps, FnOk P w K mg base CX0 n f fd ps sp ∧ PySem.W.findIn K (.ref C) "__eq__" = some (some (.ref f)) ∧ PySem.W.isFn K (.ref f) = true ∧ L2.Binds K fd ps []
def rEqO (K : PySem.W.Frag) (ok : Addr → Sp → Prop) : R2 := fun x y H Q => ∃ a C dx fs t sp, x = .ref a ∧ H a = some (.ins C dx fs) ∧ ok C sp ∧ TyX K H y t ∧ PySem.W.notFirst K C t = true ∧ sp [x, y] H (fun v H' => ∃ b, v = .bl b ∧ Q (.bl b) H') E0
theorem op_eqO {X : Cx} {K : PySem.W.Frag} {n : Nat} {ok : Addr → Sp → Prop} (eK : X.K = K) (h : ∀ C sp, ok C sp → EqC X.prog X.w X.K X.mg X.base n C sp) (hr : Room n X.A) : OpR X (compareOp .Eq) (rEqO K ok) := by
  intro pins s σ H x y v u Q I rx ry ⟨a, C, dx, fs, t, sp, ex, ha, hok, ty, nf, hsp⟩
  subst eK ex
  obtain rfl : v = Value.ref a := rx
  obtain ⟨f, fd, ps, F, hs, hf, hb⟩ := h C sp hok
  obtain ⟨Pz, kz, hz, _⟩ := kit_of I ry ty
  obtain ⟨mA, J, _⟩ := ins_get I.hok ha
  obtain ⟨od, J, _⟩ := J.look
  obtain ⟨m, hF⟩ := I.fr
  show wpAny (model X.prog X.w) X.A (richCompare .Eq (.ref a) u) (EP X pins σ Q) X.xe s
  refine PySem.W.cmp_K (op := .Eq) (tb := t) hr.units0 hF I.ok.mod.kin J (kz.ty _ _ I.kIn hz) nf hs hf ?_
  have hl := F.len _ _ _ _ hsp
  have r2 : Vals [V.ref a, y] [Value.ref a, u] := .cons rfl (.cons ry .nil)
  refine wpAny_call (codeAny_mono (F.run X.A X.stack s H ⟨[.ref a, u], []⟩ [.ref a, u] [.ref a, y] _ E0 hr I.env0 (by
    have := hb s [.ref a, u] I.kIn (by simpa using hl)
    simpa using this) r2 hsp) fun r s' hq => ?_)
  cases r with
  | error e => exact pass0 pins σ H s e s' I hq
  | ok fl =>
    cases fl with
    | ret w =>
      obtain ⟨z, H', I', rz, b, ez, q⟩ := I.after hq
      subst ez
      have rz : w = Value.bool b := rz
      subst rz
      exact ⟨.bl b, H', I', rfl, q⟩
    | next => exact False.elim hq
    | brk => exact False.elim hq
    | cont => exact False.elim hq
/-- what of the text == of the classes in the table asks -/
structure EqTab (K : PySem.W.Frag) (tabE : Str → Option DFn) (tabC : Str → Bool) : Prop where
  kin : ∀ c F, tabE c = some F → ∀ n, n ∈ ["NoneType", "bool", "int", "str", "tuple", "list", "dict"] → PySem.W.notFirst K (He.ga K c) (.type n) = true
  own : ∀ c F c', tabE c = some F → tabC c' = true → PySem.W.notFirst K (He.ga K c) (.ref (He.ga K c')) = true
  ins : ∀ c', tabC c' = true → ∀ (H : Hp) (a dx : Addr) (fs : List (Str × V)), H a = some (.ins (He.ga K c') dx fs) → TyX K H (.ref a) (.ref (He.ga K c'))
def dEqO (tabE : Str → Option DFn) (tabC : Str → Bool) : D2 := fun x y Q => match x with
  | .ins c ns ds => ∃ F, tabE c = some F ∧ (match y with
    | .ins c' _ _ => tabC c' = true
    | y => y.kind.isSome = true) ∧ F [.d (.ins c ns ds), .d y] (fun r => ∃ b, r = .bl b ∧ Q (.bl b)) (fun _ => False)
  | x => dEq x y Q
def okE (K : PySem.W.Frag) (tabE : Str → Option DFn) (C : Addr) (sp : Sp) : Prop := ∃ c F, tabE c = some F ∧ C = He.ga K c ∧ sp = spD K F
end Mine

namespace PySem
open PySem.SeqAt AutoSeq1 MeetsSeq PySem.W
theorem mine_int_eq_ins (b : Int) (u : Tok) (l C dx : Addr) : Meets (Builtin.«int.__eq__» ⟨[.int b u, .ref l], []⟩) (fun _ R s => s.heap.get? l = some (instObj C dx) ∧ R (.ok (.ret .notImplemented)) s) :=
  .of_wp fun prog w A R s h => by
    obtain ⟨hp, g, d, tk, os⟩ := s; obtain ⟨hl, h⟩ := h
    unfold instObj at hl
    wp_walk using wpAny_loadPart' hl, wpAny_load hl; exact ⟨_, rfl, h⟩
theorem mine_bool_eq_ins (b : Bool) (l C dx : Addr) : Meets (Builtin.«int.__eq__» ⟨[.bool b, .ref l], []⟩) (fun _ R s => s.heap.get? l = some (instObj C dx) ∧ R (.ok (.ret .notImplemented)) s) :=
  .of_wp fun prog w A R s h => by
    obtain ⟨hp, g, d, tk, os⟩ := s; obtain ⟨hl, h⟩ := h
    unfold instObj at hl
    wp_walk using wpAny_loadPart' hl, wpAny_load hl; exact ⟨_, rfl, h⟩
theorem mine_str_eq_ins (b : Str) (u : Tok) (l C dx : Addr) : Meets (Builtin.«str.__eq__» ⟨[.str b u, .ref l], []⟩) (fun _ R s => s.heap.get? l = some (instObj C dx) ∧ R (.ok (.ret .notImplemented)) s) :=
  .of_wp fun prog w A R s h => by
    obtain ⟨hp, g, d, tk, os⟩ := s; obtain ⟨hl, h⟩ := h
    unfold instObj at hl
    wp_walk using wpAny_loadPart' hl, wpAny_load hl; exact ⟨_, rfl, h⟩
theorem mine_list_eq_ins (p l C dx : Addr) (items : Array Value) (n : Nat) (dd : Option Addr) (sl : Array (Option Value)) : Meets (Builtin.«list.__eq__» ⟨[.ref p, .ref l], []⟩) (fun _ R s => (s.heap.get? p = some { cls := .type "list", dict := dd, data := .seq items n, slots := sl } ∧ s.heap.get? l = some (instObj C dx) ∧ ∀ M : Model, Looks M s.heap (isSubtype (.ref C) (.type "list")) false) ∧ R (.ok (.ret .notImplemented)) s) :=
  .of_wp fun prog w A R s h => by
    obtain ⟨hp, g, d, tk, os⟩ := s; obtain ⟨⟨hp1, hl, hs⟩, h⟩ := h
    have hs := hs (model prog w)
    unfold instObj at hl
    have q1 : ∀ {A' : Around} {E : Value → Shared → Prop} {Q : Bool → Shared → Prop}, Q false ⟨hp, g, d, tk, os⟩ → wpAny (model prog w) A' (isSubtype (.ref C) (.type "list")) Q E ⟨hp, g, d, tk, os⟩ := fun q => hs.at q
    wp_walk using wpAny_loadPart' hp1, wpAny_loadPart' hl, wpAny_load hl, q1
    exact ⟨_, rfl, h⟩
theorem mine_tuple_eq_ins (p l C dx : Addr) (items : Array Value) (n : Nat) (dd : Option Addr) (sl : Array (Option Value)) : Meets (Builtin.«tuple.__eq__» ⟨[.ref p, .ref l], []⟩) (fun _ R s => (s.heap.get? p = some { cls := .type "tuple", dict := dd, data := .seq items n, slots := sl } ∧ s.heap.get? l = some (instObj C dx) ∧ ∀ M : Model, Looks M s.heap (isSubtype (.ref C) (.type "tuple")) false) ∧ R (.ok (.ret .notImplemented)) s) :=
  .of_wp fun prog w A R s h => by
    obtain ⟨hp, g, d, tk, os⟩ := s; obtain ⟨⟨hp1, hl, hs⟩, h⟩ := h
    have hs := hs (model prog w)
    unfold instObj at hl
    have q1 : ∀ {A' : Around} {E : Value → Shared → Prop} {Q : Bool → Shared → Prop}, Q false ⟨hp, g, d, tk, os⟩ → wpAny (model prog w) A' (isSubtype (.ref C) (.type "tuple")) Q E ⟨hp, g, d, tk, os⟩ := fun q => hs.at q
    wp_walk using wpAny_loadPart' hp1, wpAny_loadPart' hl, wpAny_load hl, q1
    exact ⟨_, rfl, h⟩
section
variable {prog : Program} {w : World} {A : Around} {E : Value → Shared → Prop} {s : Shared} {K : Frag} {x C L f : Addr} {h₀ : Heap} {m : Str → Option Value} {ox : Obj} {od : Option Obj} {a : Value} {Ta ida : String}
theorem mine_rc_refl {Q : Value → Shared → Prop} (hu : A.units < cLine) (X : K.In s.heap) (ha : s.TypeIs a Ta) (I : InstAt s.heap x ox C od) (e : subIn K (.ref C) (.type Ta) = some false) (h1 : Slot Ta (cmpInfo .Eq).2.1 ida)
    (hs : findIn K (.ref C) "__eq__" = some (some (.ref f))) (hf : isFn K (.ref f) = true)
    (hc : ∀ Q' : Value → Shared → Prop, Q' .notImplemented s → wpAny (model prog w) A (call (.builtin ida) [a, .ref x]) Q' E s)
    (h : wpAny (model prog w) A (call (.ref f) [.ref x, a]) (CmpBack Q) E s) : wpAny (model prog w) A (richCompare .Eq a (.ref x)) Q E s := by
  have one : wpAny (model prog w) A (tryCompare (.ref x) "__eq__" a) (fun r s' => ∃ v, r = some v ∧ Q v s') E s := by
    unfold tryCompare
    refine wpAny_bind (ifBound_K X I hs hf (wpAny_mono h (fun v s' hv => ?_) fun _ _ e => e))
    cases v <;> first | exact hv.elim | exact wpAny_pure ⟨_, rfl, hv⟩
  unfold richCompare
  simp only [ha.oneThing_none]
  refine wpAny_holding (wpAny_bind (wpAny_cRoomFor hu ?_))
  refine wpAny_bind (wpAny_typeOf ha (wpAny_bind (I.type.here ?_)))
  have hne : (Value.type Ta != Value.ref C) = true := by simp
  simp only [hne, if_true]
  refine wpAny_bind ((looks_subIn X e).here ?_)
  simp only [Bool.false_eq_true, if_false, Bool.not_false, if_true]
  refine wpAny_bind (m := tryCompare a _ (.ref x)) (wpAny_tryCompare_declines ha h1 (hc _ ⟨rfl, ?_⟩))
  refine wpAny_bind (m := tryCompare (.ref x) _ a) (wpAny_mono one (fun r s' z => ?_) fun _ _ e => e)
  obtain ⟨v, rfl, hq⟩ := z
  exact wpAny_pure hq
end
end PySem

namespace Mine
open PySem PySem.Spec PyProof.Rows L2
/-! ### a built-in value == an instance whose class has its own __eq__ -/
inductive TyP (H : Hp) : V → String → Prop
  | non : TyP H .non "NoneType"
  | bl (b : Bool) : TyP H (.bl b) "bool"
  | int (i : Int) : TyP H (.int i) "int"
  | str (s : Str) : TyP H (.str s) "str"
  | lst {a : Addr} {xs : List V} (e : H a = some (.lst xs)) : TyP H (.ref a) "list"
  | tup {a : Addr} {xs : List V} (e : H a = some (.tup xs)) : TyP H (.ref a) "tuple"
abbrev kinds6 : List String := ["NoneType", "bool", "int", "str", "tuple", "list"]
theorem TyP.mem {H : Hp} {x : V} {n : String} (h : TyP H x n) : n ∈ kinds6 := by cases h <;> decide
def rEqR (K : PySem.W.Frag) (ok : Addr → Sp → Prop) : R2 := fun x y H Q => ∃ a C dx fs n sp, y = .ref a ∧ H a = some (.ins C dx fs) ∧ ok C sp ∧ TyP H x n ∧ PySem.W.subIn K (.ref C) (.type n) = some false ∧ sp [y, x] H (fun v H' => ∃ b, v = .bl b ∧ Q (.bl b) H') E0
theorem op_eqR {X : Cx} {K : PySem.W.Frag} {n : Nat} {ok : Addr → Sp → Prop} (eK : X.K = K) (h : ∀ C sp, ok C sp → EqC X.prog X.w X.K X.mg X.base n C sp) (hr : Room n X.A) : OpR X (compareOp .Eq) (rEqR K ok) := by
  intro pins s σ H x y v u Q I rx ry ⟨a, C, dx, fs, T, sp, ex, ha, hok, ty, nf, hsp⟩
  subst eK ex
  obtain rfl : u = Value.ref a := ry
  obtain ⟨f, fd, ps, FO, hs, hf, hb⟩ := h C sp hok
  obtain ⟨mA, J, _⟩ := ins_get I.hok ha
  have hg : s.heap.get? a = some (PySem.W.instObj C dx) := (show ObjOk X.prog X.w H s.heap a (.ins C dx fs) from I.hok a _ ha).2.2.2.1
  obtain ⟨od, J, _⟩ := J.look
  have hl := FO.len _ _ _ _ hsp
  have fin : ∀ v, RelV x v → wpAny (model X.prog X.w) X.A (call (.ref f) [.ref a, v]) (PySem.W.CmpBack (EP X pins σ Q)) X.xe s := by
    intro v rx
    have r2 : Vals [V.ref a, x] [Value.ref a, v] := .cons rfl (.cons rx .nil)
    refine wpAny_call (codeAny_mono (FO.run X.A X.stack s H ⟨[.ref a, v], []⟩ [.ref a, v] [.ref a, x] _ E0 hr I.env0 (by
      have := hb s [.ref a, v] I.kIn (by simpa using hl)
      simpa using this) r2 hsp) fun r s' hq => ?_)
    cases r with
    | error e => exact pass0 pins σ H s e s' I hq
    | ok fl =>
      cases fl with
      | ret w =>
        obtain ⟨z, H', I', rz, b, ez, q⟩ := I.after hq
        subst ez
        have rz : w = Value.bool b := rz
        subst rz
        exact ⟨.bl b, H', I', rfl, q⟩
      | next => exact False.elim hq
      | brk => exact False.elim hq
      | cont => exact False.elim hq
  show wpAny (model X.prog X.w) X.A (richCompare .Eq v (.ref a)) (EP X pins σ Q) X.xe s
  have lk : ∀ M : Model, PySem.W.Looks M s.heap (isSubtype (.ref C) (.type T)) false := fun M => PySem.W.looks_subIn I.kIn nf
  cases ty with
  | non =>
    obtain rfl : v = Value.none := rx
    exact PySem.mine_rc_refl hr.units0 I.kIn rfl J nf F.slot_NoneType_eq hs hf (fun _ hq => call_gives F.slot_NoneType_eq rfl F.entry_NoneType_eq (F.args_NoneType_eq_2 _ _) (PySem.SeqAt.NoneType___eq___none_ref_0 a) hq) (fin _ rfl)
  | bl b =>
    obtain rfl : v = Value.bool b := rx
    exact PySem.mine_rc_refl hr.units0 I.kIn rfl J nf F.slot_bool_eq hs hf (fun _ hq => call_meets F.slot_bool_eq rfl F.entry_int_eq (F.args_int_eq_2 _ _) (mine_bool_eq_ins b a C dx) ⟨hg, hq⟩) (fin _ rfl)
  | int i =>
    obtain ⟨t, rfl⟩ := (show ∃ t, v = Value.int i t from rx)
    exact PySem.mine_rc_refl hr.units0 I.kIn (typeIs_int s i t) J nf F.slot_int_eq hs hf (fun _ hq => call_meets F.slot_int_eq (typeIs_int s i t) F.entry_int_eq (F.args_int_eq_2 _ _) (mine_int_eq_ins i t a C dx) ⟨hg, hq⟩) (fin _ ⟨t, rfl⟩)
  | str b =>
    obtain ⟨t, rfl⟩ := (show ∃ t, v = Value.str b t from rx)
    exact PySem.mine_rc_refl hr.units0 I.kIn (typeIs_str s b t) J nf F.slot_str_eq hs hf (fun _ hq => call_meets F.slot_str_eq (typeIs_str s b t) F.entry_str_eq (F.args_str_eq_2 _ _) (mine_str_eq_ins b t a C dx) ⟨hg, hq⟩) (fin _ ⟨t, rfl⟩)
  | @lst p xs e =>
    obtain rfl : v = Value.ref p := rx
    obtain ⟨_, its, k, _, ho⟩ := (show ObjOk X.prog X.w H s.heap p (.lst xs) from I.hok p _ e)
    exact PySem.mine_rc_refl hr.units0 I.kIn ⟨_, ho, rfl⟩ J nf F.slot_list_eq hs hf (fun _ hq => call_meets F.slot_list_eq ⟨_, ho, rfl⟩ F.entry_list_eq (F.args_list_eq_2 _ _) (mine_list_eq_ins p a C dx _ _ _ _) ⟨⟨ho, hg, lk⟩, hq⟩) (fin _ rfl)
  | @tup p xs e =>
    obtain rfl : v = Value.ref p := rx
    obtain ⟨_, its, _, ht⟩ := (show ObjOk X.prog X.w H s.heap p (.tup xs) from I.hok p _ e)
    obtain ⟨⟨cls, dd, data, sl⟩, ho, hc, n, hd⟩ := id ht
    simp only at hc hd
    subst hc hd
    exact PySem.mine_rc_refl hr.units0 I.kIn ⟨_, ho, rfl⟩ J nf F.slot_tuple_eq hs hf (fun _ hq => call_meets F.slot_tuple_eq ⟨_, ho, rfl⟩ F.entry_tuple_eq (F.args_tuple_eq_2 _ _) (mine_tuple_eq_ins p a C dx _ _ _ _) ⟨⟨ho, hg, lk⟩, hq⟩) (fin _ rfl)
def Dt.kindR : Dt → Bool
  | .non | .bl _ | .int _ | .str _ | .tup _ | .lst _ => true
  | _ => false
theorem Den.typ {K : PySem.W.Frag} {H : Hp} {X : Addr → Prop} {v : V} {d : Dt} (h : Den K (vis H X) v d) (hk : d.kindR = true) : ∃ n, TyP H v n := by
  cases d with
  | non => rw [h.flat rfl]; exact ⟨_, .non⟩
  | bl b => rw [h.flat rfl]; exact ⟨_, .bl b⟩
  | int b => rw [h.flat rfl]; exact ⟨_, .int b⟩
  | str b => rw [h.flat rfl]; exact ⟨_, .str b⟩
  | tup xs => cases h with
    | tup h1 _ => exact ⟨_, .tup (vis_sub _ _ h1)⟩
  | lst xs => cases h with
    | lst h1 _ => exact ⟨_, .lst (vis_sub _ _ h1)⟩
  | _ => cases hk
/-- of both kinds -/
def dEqB (tabE : Str → Option DFn) (tabC : Str → Bool) : D2 := fun x y Q => match y with
  | .ins c ns ds => (x.kindR = true ∧ ∃ F, tabE c = some F ∧ F [.d (.ins c ns ds), .d x] (fun r => ∃ b, r = .bl b ∧ Q (.bl b)) (fun _ => False)) ∨ (x.kindR = false ∧ dEqO tabE tabC x (.ins c ns ds) Q)
  | y => dEqO tabE tabC x y Q
structure EqTab2 (K : PySem.W.Frag) (tabE : Str → Option DFn) (tabC : Str → Bool) : Prop extends EqTab K tabE tabC where
  sub : ∀ c F, tabE c = some F → ∀ n, n ∈ kinds6 → PySem.W.subIn K (.ref (He.ga K c)) (.type n) = some false
theorem eqO_core {C : Bc} {X : Addr → Prop} {tabE : Str → Option DFn} {tabC : Str → Bool} (T : EqTab C.K tabE tabC) {env σ} {H2 : Hp} {d d2 : Dt} {v v2 : V} {Q : VK} {Qd : Dt → Prop} (rp2 : Rep C X env σ H2) (r1 : Den C.K (vis H2 X) v d) (r2 : Den C.K (vis H2 X) v2 d2) (he2 : dEqO tabE tabC d d2 Qd)
    (q : ∀ d3 v3 H3, Frm C.hd H2 H3 → Den C.K (vis H3 X) v3 d3 → Qd d3 → Q v3 H3) : rEqO C.K (okE C.K tabE) v v2 H2 Q ∨ rEqD C.K v v2 H2 Q := by
  have eqs : dEq d d2 Qd → rEqO C.K (okE C.K tabE) v v2 H2 Q ∨ rEqD C.K v v2 H2 Q := fun he2 => .inr (od_eq X env σ H2 H2 v v2 _ _ Q Qd rp2 (.inl r1) (.inl r2) he2 fun d3 v3 H3 f3 r3 => q d3 v3 H3 f3 r3)
  cases d with
  | ins c ns ds =>
    obtain ⟨F, hF, hy, he3⟩ := he2
    refine .inl ?_
    have r1' := r1
    cases r1 with
    | @ins p dx _ _ vs _ hp hl al =>
      have sp : spD C.K F [.ref p, v2] H2 (fun v H' => ∃ b, v = .bl b ∧ Q (.bl b) H') E0 := by
        refine spD_use rp2 (.d r1' (.d r2 .nil)) he3 (fun d v H' f h hq => ?_) fun _ _ _ _ _ _ z => z.elim
        obtain ⟨b, rfl, hq⟩ := hq
        have ev : v = .bl b := h.flat rfl
        exact ⟨b, ev, q _ _ H' f (.bl _) hq⟩
      cases d2 with
      | ins c' ns' ds' =>
        have r2' := r2
        cases r2' with
        | @ins p2 dx2 _ _ vs2 _ hp2 hl2 al2 =>
          exact ⟨p, _, dx, _, _, _, rfl, vis_sub _ _ hp, ⟨c, F, hF, rfl, rfl⟩, T.ins _ hy _ _ _ _ (vis_sub _ _ hp2), T.own _ _ _ hF hy, sp⟩
      | _ =>
        obtain ⟨n, hn⟩ := Option.isSome_iff_exists.mp hy
        exact ⟨p, _, dx, _, _, _, rfl, vis_sub _ _ hp, ⟨c, F, hF, rfl, rfl⟩, (Bor.tyx (H1 := H2) (.inl r2) hn), T.kin _ _ hF n (Dt.kind_mem hn), sp⟩
  | _ => exact eqs he2
theorem de_eqB {C : Bc} {ta tb : TE} {a b : DX} {tabE : Str → Option DFn} {tabC : Str → Bool} (T : EqTab2 C.K tabE tabC) (ha : DE C ta a) (hb : DE C tb b) :
    DE C (tOp (fun x y H Q => rEqR C.K (okE C.K tabE) x y H Q ∨ (rEqO C.K (okE C.K tabE) x y H Q ∨ rEqD C.K x y H Q)) ta tb) (eOp (dEqB tabE tabC) a b) := by
  intro X env σ H Q Qd Qx rp he q x
  refine ha X env σ H _ _ Qx rp he (fun d v H1 f1 r1 he1 => ?_) x
  have rp1 := rp.step f1
  refine hb X env σ H1 _ _ Qx rp1 he1 (fun d2 v2 H2 f2 r2 he2 => ?_) (x.step f1)
  have rp2 := rp1.step f2
  have r1 : Den C.K (vis H2 X) v d := Den.mono (rp1.vs f2) r1
  have r2 : Den C.K (vis H2 X) v2 d2 := r2
  have old : dEqO tabE tabC d d2 Qd → rEqR C.K (okE C.K tabE) v v2 H2 Q ∨ (rEqO C.K (okE C.K tabE) v v2 H2 Q ∨ rEqD C.K v v2 H2 Q) := fun he2 =>
    .inr (eqO_core T.toEqTab rp2 r1 r2 he2 fun d3 v3 H3 f3 r3 => q d3 v3 H3 (f1.trans (f2.trans f3)) r3)
  cases d2 with
  | ins c' ns' ds' =>
    rcases he2 with ⟨hk, F, hF, he3⟩ | ⟨_, he3⟩
    · refine .inl ?_
      obtain ⟨n, hn⟩ := Den.typ r1 hk
      have r2' := r2
      cases r2' with
      | @ins p dx _ _ vs _ hp hl al =>
        have sp : spD C.K F [.ref p, v] H2 (fun v H' => ∃ b, v = .bl b ∧ Q (.bl b) H') E0 := by
          refine spD_use rp2 (.d r2 (.d r1 .nil)) he3 (fun d v H' f h hq => ?_) fun _ _ _ _ _ _ z => z.elim
          obtain ⟨b, rfl, hq⟩ := hq
          have ev : v = .bl b := h.flat rfl
          exact ⟨b, ev, q _ _ H' (f1.trans (f2.trans f)) (.bl _) hq⟩
        exact ⟨p, _, dx, _, _, _, rfl, vis_sub _ _ hp, ⟨c', F, hF, rfl, rfl⟩, hn, T.sub _ _ hF n hn.mem, sp⟩
    · exact old he3
  | _ => exact old he2
end Mine

namespace Mine
open PySem PySem.Spec PyProof.Rows L2
/-! ### the tables for == of own classes -/
abbrev kindsT : List String := ["NoneType", "bool", "int", "str", "tuple", "list", "dict"]
def eqsB (cs : List Str) (K : PySem.W.Frag) : Bool := cs.all fun c => (kindsT.all fun n => PySem.W.notFirst K (He.ga K c) (.type n)) && ((kinds6.all fun n => decide (PySem.W.subIn K (.ref (He.ga K c)) (.type n) = some false)) && cs.all fun c' => PySem.W.notFirst K (He.ga K c) (.ref (He.ga K c')))
structure EqsOk (K : PySem.W.Frag) (cs : List Str) : Prop where
  kin : ∀ c, c ∈ cs → ∀ n, n ∈ ["NoneType", "bool", "int", "str", "tuple", "list", "dict"] → PySem.W.notFirst K (He.ga K c) (.type n) = true
  sub : ∀ c, c ∈ cs → ∀ n, n ∈ kinds6 → PySem.W.subIn K (.ref (He.ga K c)) (.type n) = some false
  own : ∀ c, c ∈ cs → ∀ c', c' ∈ cs → PySem.W.notFirst K (He.ga K c) (.ref (He.ga K c')) = true
theorem eqsB_ok {cs : List Str} {K : PySem.W.Frag} (h : eqsB cs K = true) : EqsOk K cs := by
  have h1 := fun c hc => (Bool.and_eq_true_iff.mp (List.all_eq_true.mp h c hc))
  refine ⟨fun c hc n hn => List.all_eq_true.mp (h1 c hc).1 n hn, fun c hc n hn => of_decide_eq_true (List.all_eq_true.mp (Bool.and_eq_true_iff.mp (h1 c hc).2).1 n hn), fun c hc c' hc' => List.all_eq_true.mp (Bool.and_eq_true_iff.mp (h1 c hc).2).2 c' hc'⟩
theorem eqt_of {K : PySem.W.Frag} {cs : List Str} {tabE : Str → Option DFn} {tabC : Str → Bool} (e : EqsOk K cs) (hE : ∀ c F, tabE c = some F → c ∈ cs) (hC : ∀ c, tabC c = true → c ∈ cs)
    (hI : ∀ c, c ∈ cs → Cls K (He.ga K c) ∧ InsK K (He.ga K c)) : EqTab2 K tabE tabC where
  kin c F h n hn := e.kin c (hE c F h) n hn
  own c F c' h h' := e.own c (hE c F h) c' (hC c' h')
  ins c' h' := fun H a dx fs q => tyx_ins (hI c' (hC c' h')).1 (hI c' (hC c' h')).2 H a dx fs q
  sub c F h n hn := e.sub c (hE c F h) n hn
/-! what == says in the pure part -/
section
variable {tabE : Str → Option DFn} {tabC : Str → Bool} {Q : Dt → Prop}
theorem eqB_ins {c c' : Str} {ns ns' : List Str} {ds ds' : List Dt} {F : DFn} (hF : tabE c = some F) (hC : tabC c' = true) (h : F [.d (.ins c ns ds), .d (.ins c' ns' ds')] (fun r => ∃ b, r = .bl b ∧ Q (.bl b)) (fun _ => False)) : dEqB tabE tabC (.ins c ns ds) (.ins c' ns' ds') Q := .inr ⟨rfl, F, hF, hC, h⟩
theorem eqB_plain {x y : Dt} (hx : x.kindR = true) (hy : y.kindR = true) (h : dEq x y Q) : dEqB tabE tabC x y Q := by
  cases y <;> first | (cases hy; done) | (cases x <;> first | (cases hx; done) | exact h)
end
end Mine

namespace Mine
open PySem PySem.Spec PyProof.Rows L2
/-! ### len(set(xs)) of whole numbers; targets of four and five names -/
section
variable {C : Bc}
end
end Mine

namespace Mine
open PySem PySem.Spec PyProof.Rows L2
/-! ### list(range(..)), tuple(range(..)) -/
def eRgL (a b : DX) (k : List Dt → Dt) : DX := fun env Q E => a env (fun x => b env (fun y => match x, y with
  | .int i, .int j => (-(2 ^ 62) ≤ i ∧ i < 2 ^ 62 ∧ -(2 ^ 62) ≤ j ∧ j < 2 ^ 62 ∧ (j - i).toNat ≤ 16777216) ∧ Q (k ((List.range (j - i).toNat).map fun n : Nat => Dt.int (i + (n : Nat))))
  | _, _ => False) E) E
theorem eRgL_W (a b : DX) (k : List Dt → Dt) {env} {Q} {E} : eRgL a b k env Q E = a env (fun x => b env (fun y => match x, y with
  | .int i, .int j => (-(2 ^ 62) ≤ i ∧ i < 2 ^ 62 ∧ -(2 ^ 62) ≤ j ∧ j < 2 ^ 62 ∧ (j - i).toNat ≤ 16777216) ∧ Q (k ((List.range (j - i).toNat).map fun n : Nat => Dt.int (i + (n : Nat))))
  | _, _ => False) E) E := rfl
section
variable {C : Bc} {ta tb : TE} {a b : DX}
end
end Mine

namespace Mine
open PySem PySem.Spec PyProof.Rows L2 PpSet
/-! ### a set comprehension whose items are tuples of whole numbers -/
section
variable {P : Program} {w : World} {A : Around} {E : Value → Shared → Prop} {s : Shared} {a : Addr} {L : List (Addr × List Int)} {es : Array (Int × Value)} {ep : Nat} {t : SetTable}
end
section
variable {X : Cx}
end
end Mine

namespace Mine
open PySem PySem.Spec PyProof.Rows L2 PpSet
/-! ### sorted({e for x in xs}), e tuples of whole numbers -/
end Mine

namespace Mine
open PySem PySem.Spec PyProof.Rows L2
/-! ### f'..{e}..' of texts and whole numbers -/
/-- the parts one by one -/
inductive DJ (C : Bc) : List TE → List DX → Prop where
  | nil : DJ C [] []
  | cons {t : TE} {a : DX} {ts : List TE} {as : List DX} (h : DE C t a) (r : DJ C ts as) : DJ C (t :: ts) (a :: as)
section
variable {C : Bc}
end
/-! ### text.find(sign), text.count(sign), text.startswith(..) -/
def eTm (k : Str → Str → Dt) (a b : DX) : DX := fun env Q E => a env (fun x => match x with
  | .str u => b env (fun y => match y with
    | .str z => Q (k u z)
    | _ => False) E
  | _ => False) E
theorem eTm_W (k : Str → Str → Dt) (a b : DX) {env} {Q} {E} : eTm k a b env Q E = a env (fun x => match x with
  | .str u => b env (fun y => match y with
    | .str z => Q (k u z)
    | _ => False) E
  | _ => False) E := rfl
end Mine

namespace Mine
open PySem PySem.Spec PyProof.Rows L2
/-! ### a comprehension within a comprehension -/
theorem lookup_relabel {env : Env} : ∀ {names : List (PySem.Str × NameKind)} {x : PySem.Str}, (names.lookup x = some .cell ∨ names.lookup x = some .free) →
    ((names.map fun (n, k) => if (k == NameKind.free && env.scope.kind == .function && env.kindOf n == some .cell) then (n, NameKind.cell) else (n, k)).lookup x = some .cell ∨ (names.map fun (n, k) => if (k == NameKind.free && env.scope.kind == .function && env.kindOf n == some .cell) then (n, NameKind.cell) else (n, k)).lookup x = some .free)
  | [], x, h => by simp at h
  | (n, k) :: r, x, h => by
    have ih := @lookup_relabel env r x
    rw [List.map_cons]
    dsimp only
    by_cases e : x == n
    · simp only [List.lookup, e] at h
      rcases h with h | h
      · injection h with h
        subst h
        rw [if_neg (by intro z; simp at z)]
        exact .inl (by simp only [List.lookup, e])
      · injection h with h
        subst h
        by_cases c : (NameKind.free == NameKind.free && env.scope.kind == .function && env.kindOf n == some .cell) = true
        · rw [if_pos c]; exact .inl (by simp only [List.lookup, e])
        · rw [if_neg c]; exact .inr (by simp only [List.lookup, e])
    · have e : (x == n) = false := by simpa using e
      simp only [List.lookup, e] at h
      have := ih h
      split <;> (simp only [List.lookup, e]; exact this)
theorem blkOk_in {N : List PySem.Str} {sc1 scope : Scope} {env : Env} {own : List (PySem.Str × Nat)} (h : blkC N sc1 scope own = true) : BlkOk N (relabel sc1 env) scope own := by
  have b := blkOk_by h
  exact ⟨b.kind, b.uniq, b.ix, fun y hy e => lookup_relabel (b.free y hy e), b.own⟩
theorem pe_lcIn {Y : Cx} {s0 : Shared} {H0 : Hp} {sc1 : Scope} {cl0 : List (PySem.Str × Addr)} {C0 : Addr} {fp0 : List Addr} {N : List PySem.Str} {elt tg iter : Expr} {ifs : List Expr} {scope : Scope} {own : List (PySem.Str × Nat)} {pos : Pos} {wi : TI} {g : TG} {tt : TT} {te : TE}
    (eN : Y.N = N) (hb : blkC N sc1 scope own = true) (hc : (Y.blk s0 H0 sc1 (compEnvC sc1 cl0 C0 Y.env) fp0).calm = true) (hN : N.Nodup) (hi : PI (Y.blk s0 H0 sc1 (compEnvC sc1 cl0 C0 Y.env) fp0) tg iter wi)
    (hg : ∀ (s : Shared) (H : Hp) (C : Addr) (cl : List (PySem.Str × Addr)) (fp : List Addr), PG ((Y.blk s0 H0 sc1 (compEnvC sc1 cl0 C0 Y.env) fp0).blk s H scope (compEnvC scope cl C (compEnvC sc1 cl0 C0 Y.env)) fp) tg g)
    (ht : ∀ (s : Shared) (H : Hp) (C : Addr) (cl : List (PySem.Str × Addr)) (fp : List Addr), PTs ((Y.blk s0 H0 sc1 (compEnvC sc1 cl0 C0 Y.env) fp0).blk s H scope (compEnvC scope cl C (compEnvC sc1 cl0 C0 Y.env)) fp) ifs tt)
    (he : ∀ (s : Shared) (H : Hp) (C : Addr) (cl : List (PySem.Str × Addr)) (fp : List Addr), PE ((Y.blk s0 H0 sc1 (compEnvC sc1 cl0 C0 Y.env) fp0).blk s H scope (compEnvC scope cl C (compEnvC sc1 cl0 C0 Y.env)) fp) elt te)
    (hs : ∀ x, foldedSetIterable iter (compEnvC sc1 cl0 C0 Y.env) x = pure x := by intro _; rfl) :
    PE (Y.blk s0 H0 sc1 (compEnvC sc1 cl0 C0 Y.env) fp0) (.ListComp elt [⟨tg, iter, ifs, 0⟩] scope pos) (tLc wi g tt te (own.map (·.2))) := by
  subst eN
  exact pe_lc (X := Y.blk s0 H0 sc1 (compEnvC sc1 cl0 C0 Y.env) fp0) hc hN hi (blkOk_in hb) hg ht he hs
theorem pi_seqU {X : Cx} {K : PySem.W.Frag} {tg e : Expr} {te : TE} (eK : X.K = K) (he : PE X e te) : PI X tg e (iSeq K te) := eK ▸ pi_seq he
end Mine

namespace Mine
open PySem PySem.Spec PyProof.Rows L2
/-! ### a or b, a a text -/
end Mine

namespace ZN
open PySem
section
variable {M : Model} {A : Around} {E : Value → Shared → Prop}
end
structure Ap (z TI TO : Addr) (p : List (Addr × Addr)) : Prop where
  TIz : TI ≠ z
  TOz : TO ≠ z
  TITO : TI ≠ TO
  nd : (p.map (·.1)).Nodup
  iz : ∀ q ∈ p, q.1 ≠ z
  iTI : ∀ q ∈ p, TI ≠ q.1
  iTO : ∀ q ∈ p, TO ≠ q.1
  lz : ∀ q ∈ p, q.2 ≠ z
  lTO : ∀ q ∈ p, q.2 ≠ TO
  li : ∀ q ∈ p, ∀ r ∈ p, q.2 ≠ r.1
section
variable {prog : Program} {w : World} {A : Around} {E : Value → Shared → Prop} {s : Shared}
/-! made of four lists -/
abbrev li (l : Addr) : Obj := { cls := .type "list_iterator", data := .fields #[.ref l, .int 0 0] }
end
end ZN

namespace Mine
open PySem PySem.Spec PyProof.Rows L2 ZN
/-! ### zip(*xs) of four lists, one name for what it gives -/
def eZipS (a : DX) : DAX := fun env Q E => a env (fun d => ∃ (n : Nat) (xs : List (List Dt)), d = .lst (xs.map .lst) ∧ xs.length = 4 ∧ (∀ l ∈ xs, l.length = n) ∧ Q ((List.range n).map fun i => .tup (xs.map fun l => l.getD i .non))) E
theorem eZipS_W (a : DX) {env} {Q} {E} : eZipS a env Q E = a env (fun d => ∃ (n : Nat) (xs : List (List Dt)), d = .lst (xs.map .lst) ∧ xs.length = 4 ∧ (∀ l ∈ xs, l.length = n) ∧ Q ((List.range n).map fun i => .tup (xs.map fun l => l.getD i .non))) E := rfl
theorem DenAll.cons_inv {K : PySem.W.Frag} {H : Hp} {vs : List V} {d : Dt} {ds : List Dt} (h : DenAll K H vs (d :: ds)) : ∃ v vs', vs = v :: vs' ∧ Den K H v d ∧ DenAll K H vs' ds := by
  cases h with
  | cons a b => exact ⟨_, _, rfl, a, b⟩
end Mine

namespace Mine
open PySem PySem.Spec PyProof.Rows L2
/-! ### a list of one's own handed to a def that only reads it: it stays one's own -/
section
variable {C : Bc} {X : Addr → Prop} {env : List Sl} {σ : L2.St} {H H1 : Hp}
end
/-- x = e, the list of one's own in slot i is handed on within e: what comes back is no part of it -/
def sKeep (i j : Nat) (e : DX) : DSt := fun d env => match env[i]? with
  | some (.own w) => e (frz env i) (fun x => ((∃ z, x = .int z) ∨ ∃ (ns : List Int) (xs : List Dt), x = .lst (ns.map .int) ∧ w = .lst xs ∧ ∃ y ∈ xs, y.flat = none) ∧ d.nx (env.set j (.d x))) (d.xc (frz env i))
  | _ => False
theorem sKeep_W (i j : Nat) (e : DX) {d} {env} : sKeep i j e d env = (match env[i]? with
  | some (.own w) => e (frz env i) (fun x => ((∃ z, x = .int z) ∨ ∃ (ns : List Int) (xs : List Dt), x = .lst (ns.map .int) ∧ w = .lst xs ∧ ∃ y ∈ xs, y.flat = none) ∧ d.nx (env.set j (.d x))) (d.xc (frz env i))
  | _ => False) := rfl
end Mine

namespace Mine
open PySem PySem.Spec PyProof.Rows L2 GenW
/-! ### generators: if and for around a yield -/
section
variable {prog : Program} {w : World} {A : Around} {R : GenEnd} {Y : Protocol} {n : Nat} {s₀ : Shared} {fs : List Frame} {s : Shared} {env : Env}
/-- what a loop's code does with an exception on its way out -/
def noteJ (env : Env) (e : Value) : Sem PySem.Fin := (do noteFrame e env; theTreesLotGoes e : Sem Unit).bind fun _ => .raise e
theorem seg_forLoop {target : Expr} {it : Value} {body : List Stmt}
    (h : wpAny (model prog w) (A.over (.forLoop target it body [] env) fs) (pyNext it) (fun r s1 => match r with
      | none => Seg (model prog w) A R Y n s₀ (.block [] env) ((model prog w).den (.block [] env)) fs s1
      | some v => wpAny (model prog w) (A.over (.forLoop target it body [] env) fs) (letOwnedTupleGo target it v) (fun _ s2 =>
          wpAny (model prog w) (A.over (.forLoop target it body [] env) fs) (assign target env v) (fun _ s3 =>
            Seg (model prog w) A R Y n s₀ (.forLoop target it body [] env) ((execs body env).wrap (fun f => match f with
              | .next | .cont => .pure (.again (.forLoop target it body [] env))
              | .brk => .pure (.done .next)
              | .ret v => .pure (.done (.ret v))) (noteJ env) id id) fs s3)
            (fun x s' => Seg (model prog w) A R Y n s₀ (.forLoop target it body [] env) (noteJ env x) fs s') s2)
          (fun x s' => Seg (model prog w) A R Y n s₀ (.forLoop target it body [] env) (noteJ env x) fs s') s1)
      (fun x s' => Seg (model prog w) A R Y n s₀ (.forLoop target it body [] env) (noteJ env x) fs s') s) :
    Seg (model prog w) A R Y n s₀ (.forLoop target it body [] env) ((model prog w).den (.forLoop target it body [] env)) fs s := by
  show Seg _ A R Y n s₀ _ ((forTurn target it body [] env).onRaise (fun x => do noteFrame x env; theTreesLotGoes x)) fs s
  unfold forTurn
  rw [Sem.onRaise_eq_wrap]
  refine seg_bind_wrap (wpAny_standAt ?_)
  refine seg_bind_wrap (wpAny_onRaise (wpAny_mono h (fun r s1 h1 => ?_) fun x s' hx => wpAny_standAt hx))
  cases r with
  | none =>
    exact seg_again rfl h1
  | some v =>
    refine seg_bind_wrap (wpAny_mono h1 (fun _ s2 h2 => ?_) fun _ _ z => z)
    refine seg_bind_wrap (wpAny_mono h2 (fun _ s3 h3 => ?_) fun _ _ z => z)
    rw [Sem.bind_eq_wrap', Sem.wrap_wrap]
    rw [Sem.wrap_congr (execs body env) _ _ (K' := fun f => match f with
            | .next | .cont => .pure (.again (.forLoop target it body [] env))
            | .brk => .pure (.done .next)
            | .ret v => .pure (.done (.ret v))) (H' := noteJ env)
        (fun f => by cases f <;> rfl)
        (fun e => by rfl)]
    exact h3
end
section
variable {X : Cx} {pos : Pos}
def tGIf (c : TT) (a b : TGn) : TGn := fun D ys σ H => c σ H fun k H1 => if k = true then a D ys σ H1 else b D ys σ H1
theorem gs_if {test : Expr} {body orelse : List Stmt} {c : TT} {a b : TGn} (hc : PT X test c) (ha : GSs X body a) (hb : GSs X orelse b) : GS X (.If test body orelse pos) (tGIf c a b) := by
  refine ⟨fun A S ip R n ys s₀ cd fs K J gd lv s σ H D g hn k hI ht => ?_⟩
  obtain ⟨acc, cc, r, I⟩ := hI
  rw [arm_exec_If]
  refine seg_bind_wrap (wpAny_standAt ?_)
  refine seg_bind_wrap ?_
  rw [g.over]
  refine wpAny_mono (hc.run _ s σ H _ I ht) (fun b s' hb' => ?_) fun x s' hx => k.exc n s₀ x s' hx
  obtain ⟨H2, I2, q2⟩ := hb'
  cases b with
  | true =>
    rw [if_pos rfl] at q2
    exact ha.run A S ip R n ys s₀ cd fs K J gd lv s' σ H2 D g hn k ⟨acc, cc, r, I2⟩ q2
  | false =>
    rw [if_neg Bool.false_ne_true] at q2
    exact hb.run A S ip R n ys s₀ cd fs K J gd lv s' σ H2 D g hn k ⟨acc, cc, r, I2⟩ q2
def tGFor (wi : TI) (g : TG) (tb : TGn) : TGn := fun D ys σ H => wi σ H fun J H1 => ∃ W : Nat → Nat → List V → L2.St → Hp → Prop, (∃ m, W 0 m ys σ H1) ∧ ∀ i m ys σ H, W i m ys σ H →
  (J.stop i H ∧ D.nx ys σ H) ∨ (J.go i H ∧ ∃ N : List V → L2.St → Hp → Prop, (∀ ys' σ' H', N ys' σ' H' → ∃ m', m' < m ∧ W (i + 1) m' ys' σ' H') ∧ ∀ x H', J.yld i H x H' → g x σ H' fun σ2 H2 => tb { D with nx := N, ct := N, bk := D.nx } ys σ2 H2)
theorem gs_for {tg iter : Expr} {body : List Stmt} {wi : TI} {g : TG} {tb : TGn} (hp : PassesOwn (model X.prog X.w) X.A X.env X.xe) (hc : X.calm = true) (hi : PI X tg iter wi) (hg : PG X tg g) (hb : GSs X body tb)
    (hs : ∀ x, foldedSetIterable iter X.env x = pure x := by intro _; rfl) : GS X (.For tg iter body [] pos) (tGFor wi g tb) := by
  refine ⟨fun A S ip R n ys s₀ c fs K J gd lv s σ H D gc hn k hI ht => ?_⟩
  obtain ⟨acc, cc, r, I⟩ := hI
  rw [exec_For]
  refine seg_bind_wrap (wpAny_standAt ?_)
  refine seg_bind_wrap ?_
  rw [gc.over]
  refine wpAny_mono (hi.run _ s σ H _ I ht) (fun v s1 h1 => ?_) fun x s' hx => k.exc n s₀ x s' hx
  refine seg_bind_wrap (wpAny_of_eq (hs v) ?_)
  refine seg_bind_wrap (wpAny_standAt ?_)
  refine seg_bind_wrap (wpAny_holding ?_)
  rw [gc.over]
  refine wpAny_mono h1 (fun itv s2 h2 => ?_) fun x s' hx => k.exc n s₀ x s' hx
  obtain ⟨it, fp, tn, Jt, H2, e, I2, T, st2, f2, W, ⟨m0, w0⟩, turn⟩ := h2
  subst e
  have neS : ∀ b ∈ fp, b ≠ S := fun b hb z => (f2 b hb).2.2.2.2.2 (S, lstObj acc cc) (List.mem_append_right _ List.mem_cons_self) z.symm
  have stat : ∀ {H' : Hp} {acc' : Array Value} {cc' : Nat}, (∀ b ∈ fp, H' b = none) → ∀ b ∈ fp, FpOk X ((S, lstObj acc' cc') :: ip) H' b := fun {H' acc' cc'} hn b hb => by
    obtain ⟨_, q1, q2, q3, q4, q5⟩ := f2 b hb
    refine ⟨hn b hb, q1, q2, q3, q4, fun p hp => ?_⟩
    rcases List.mem_append.mp hp with hp | hp
    · exact q5 p (List.mem_append_left _ hp)
    · rcases List.mem_cons.mp hp with hp | hp
      · rw [hp]; exact fun z => neS b hb z.symm
      · exact q5 p (List.mem_append_right _ (List.mem_cons_of_mem _ hp))
  show Seg _ _ _ _ n s₀ c ((runOwn (.forLoop tg (.ref it) body [] X.env) X.env).wrap K J gd lv) fs s2
  refine seg_call fun p => ?_
  have gl := fun (kk : Result → Sem PySem.Fin) => gc_loop (k := kk) (c' := .forLoop tg (.ref it) body [] X.env) (l := lv []) (kp := []) (p := p) gc rfl rfl
  have loop : ∀ (m i n : Nat) (ys : List V) (s₀ s : Shared) (σ : L2.St) (H : Hp), n + ys.length = sizeLine → W i m ys σ H → tn i s.heap → (∀ b ∈ fp, H b = none) → GI X S ip ys σ H s →
      Seg (model X.prog X.w) A R (GY X S) n s₀ (.forLoop tg (.ref it) body [] X.env) ((model X.prog X.w).den (.forLoop tg (.ref it) body [] X.env))
        (.ret (fun r => ((match r with | .ok f => (.pure f : Sem Flow) | .error e => .raise e).onRaise (cameBack X.env)).wrap K J gd lv) none (gd false) (lv []) c p [] :: fs) s := by
    intro m
    induction m using Nat.strongRecOn with
    | ind m ih =>
      intro i n ys s₀ s3 σ3 H3 hn w3 st3 fr3 hI
      have ee : ∀ (n : Nat) (s₀ : Shared) (x : Value) (s' : Shared), X.xe x s' → Seg (model X.prog X.w) A R (GY X S) n s₀ (.forLoop tg (.ref it) body [] X.env) (noteJ X.env x)
          (.ret (fun r => ((match r with | .ok f => (.pure f : Sem Flow) | .error e => .raise e).onRaise (cameBack X.env)).wrap K J gd lv) none (gd false) (lv []) c p [] :: fs) s' := fun n s₀ x s' hx => by
        unfold noteJ
        rw [Sem.bind_eq_wrap]
        refine seg_wrap ?_
        rw [(gl _).over]
        refine wpAny_bind (wpAny_mono (hp x s' hx) (fun _ s'' hcb => wpAny_theTreesLotGoes ?_) fun y s'' hcb => ?_)
        · exact seg_leaf (.error x) (seg_cameBack gc k hcb)
        · exact seg_leaf (.error y) (seg_cameBack gc k hcb)
      refine seg_forLoop ?_
      rw [(gl _).over]
      obtain ⟨acc, cc, r, I3⟩ := hI
      rcases turn i m ys σ3 H3 w3 with ⟨stop, qn⟩ | ⟨go, N, hN, step⟩
      · refine wpAny_mono (T.done X rfl rfl rfl hc i _ s3 σ3 H3 X.xe I3 (stat fr3) st3 stop) (fun r s4 ⟨hr, I4⟩ => ?_) fun x s' hx => ee n s₀ x s' hx
        subst hr
        exact seg_leaf (.ok .next) (k.ok n ys s₀ s4 .next hn ⟨σ3, H3, ⟨acc, cc, ‹_›, I4⟩, qn⟩)
      · refine wpAny_mono (T.item X rfl rfl rfl hc i _ s3 σ3 H3 X.xe I3 (stat fr3) st3 go) (fun r s4 ⟨u, hr, h4⟩ => ?_) fun x s' hx => ee n s₀ x s' hx
        subst hr
        refine wpAny_mono h4 (fun _ s5 ⟨x, H5, I5, r5, y5, st5, fr5⟩ => ?_) fun x s' hx => ee n s₀ x s' hx
        have I5' := I5.pinned (stat fr5) (T.obj _ _ st5)
        refine wpAny_mono (hg.run _ s5 σ3 H5 x u _ I5' r5 (step x H5 y5)) (fun _ s6 ⟨σ6, H6, I6, q6⟩ => ?_) fun x s' hx => ee n s₀ x s' hx
        have gci : ∀ q ∈ ip ++ pinsAt fp s5.heap, q.1 ≠ S := fun q hq => by
          rcases List.mem_append.mp hq with hq | hq
          · exact gc.ip q hq
          · exact neS q.1 (of_pinsAt hq).1
        refine hb.run A S (ip ++ pinsAt fp s5.heap) R n ys s₀ _ _ _ _ id id s6 σ6 H6 { D with nx := N, ct := N, bk := D.nx } { gl _ with ip := gci } hn ⟨fun n' ys' s₀' s7 f hn' hs => ?_, fun n' s₀' x s7 hx => ee n' s₀' x s7 hx⟩ ⟨acc, cc, ‹_›, I6⟩ q6
        have un : ∀ {zs : List V} {σ7 : L2.St} {H7 : Hp}, GI X S (ip ++ pinsAt fp s5.heap) zs σ7 H7 s7 → GI X S ip zs σ7 H7 s7 := fun {zs σ7 H7} hG => by
          obtain ⟨a7, c7, r7, J7⟩ := hG
          exact ⟨a7, c7, r7, J7.unpinned (pins := (S, lstObj a7 c7) :: ip)⟩
        have again : ∀ {σ7 : L2.St} {H7 : Hp}, GI X S (ip ++ pinsAt fp s5.heap) ys' σ7 H7 s7 → N ys' σ7 H7 → Seg (model X.prog X.w) A R (GY X S) n' s₀' (.forLoop tg (.ref it) body [] X.env) (.pure (.again (.forLoop tg (.ref it) body [] X.env)))
            (.ret (fun r => ((match r with | .ok f => (.pure f : Sem Flow) | .error e => .raise e).onRaise (cameBack X.env)).wrap K J gd lv) none (gd false) (lv []) c p [] :: fs) s7 := fun {σ7 H7} hG n7 => by
          obtain ⟨m', hm, w7⟩ := hN ys' σ7 H7 n7
          obtain ⟨a7, c7, r7, J7⟩ := id hG
          have pin7 : ∀ b ∈ fp, ∀ o, s5.heap.get? b = some o → s7.heap.get? b = some o ∧ H7 b = none := fun b hb o e => by
            have := J7.pin (b, o) (List.mem_append_right _ (List.mem_cons_of_mem _ (List.mem_append_right _ (mem_pinsAt hb e))))
            exact ⟨this.1, this.2.1⟩
          refine seg_again rfl (ih m' hm (i + 1) n' ys' s₀' s7 σ7 H7 hn' w7 (T.keep _ _ _ st5 fun b hb o e => (pin7 b hb o e).1) (fun b hb => ?_) (un hG))
          obtain ⟨o, e, d⟩ := T.obj _ _ st5 b hb
          exact (pin7 b hb o e).2
        cases f with
        | next => obtain ⟨σ7, H7, I7, n7⟩ := hs; exact again I7 n7
        | cont => obtain ⟨σ7, H7, I7, n7⟩ := hs; exact again I7 n7
        | brk => obtain ⟨σ7, H7, I7, q7⟩ := hs; exact seg_leaf (.ok .next) (k.ok n' ys' s₀' s7 .next hn' ⟨σ7, H7, un I7, q7⟩)
        | ret v => obtain ⟨x7, σ7, H7, I7, r7, q7⟩ := hs; exact seg_leaf (.ok (.ret v)) (k.ok n' ys' s₀' s7 (.ret v) hn' ⟨x7, σ7, H7, un I7, r7, q7⟩)
  exact loop m0 0 n ys s₀ s2 σ H2 hn w0 st2 (fun b hb => (f2 b hb).1) ⟨acc, cc, r, I2⟩
end
/-! ### generators over data -/
structure GDn where
  nx : List Dt → List Sl → Prop
  xc : List Sl → Xc → Prop
abbrev DGt := GDn → List Dt → List Sl → Prop
structure GLnk (C : Bc) (X : Addr → Prop) (H : Hp) (D : GEnds) (d : GDn) : Prop where
  nx : ∀ X' env σ H' ys ds, Rep C X' env σ H' → Same (vis H X) (vis H' X') → DenAll C.K (vis H' X') ys ds → d.nx ds env → D.nx ys σ H'
  xc : ∀ X' env σ H' x cls dx, Rep C X' env σ H' → Same (vis H X) (vis H' X') → XRep C.K (vis H' X') cls dx x → d.xc env x → C.E σ cls dx H'
section
variable {C : Bc} {X X1 : Addr → Prop} {env : List Sl} {σ : L2.St} {H H1 : Hp} {D : GEnds} {d : GDn}
theorem GLnk.step (l : GLnk C X H D d) (s : Same (vis H X) (vis H1 X1)) : GLnk C X1 H1 D d where
  nx := fun X' env σ H' ys ds r k a h => l.nx X' env σ H' ys ds r (s.trans k) a h
  xc := fun X' env σ H' x cls dx r k a h => l.xc X' env σ H' x cls dx r (s.trans k) a h
theorem GLnk.xok (l : GLnk C X H D d) (r : Rep C X env σ H) : XOk C X σ H (d.xc env) := fun x cls dx H' f a h => l.xc X env σ H' x cls dx (r.step f) (r.vs f) a h
end
def DGS (C : Bc) (t : TGn) (s : DGt) : Prop := ∀ X env σ H ys ds D d, Rep C X env σ H → DenAll C.K (vis H X) ys ds → GLnk C X H D d → s d ds env → t D ys σ H
def gPlain (s : DSt) : DGt := fun d acc env => s ⟨fun e => d.nx acc e, fun _ => False, fun _ => False, fun _ => False, d.xc⟩ env
def gSeq (a b : DGt) : DGt := fun d acc env => a { d with nx := fun acc' e => b d acc' e } acc env
def gNext : DGt := fun d acc env => d.nx acc env
def gIf (c : DTX) (a b : DGt) : DGt := fun d acc env => c env (fun k => if k = true then a d acc env else b d acc env) (d.xc env)
def gYield (e : DX) : DGt := fun d acc env => acc.length < LINE ∧ e env (fun x => d.nx (acc ++ [x]) env) (d.xc env)
def dGFor (f : DGX) (b : DGt) (d : GDn) : List Dt → List Dt → List Sl → Prop
  | [], acc, env => d.nx acc env
  | x :: xs, acc, env => f x env fun env' => b { d with nx := dGFor f b d xs } acc env'
def gFor (src : DAX) (f : DGX) (b : DGt) : DGt := fun d acc env => src env (fun ds => dGFor f b d ds acc env) (d.xc env)
section
variable {C : Bc} {t : TS} {s : DSt} {tc : TT} {ec : DTX} {te : TE} {e : DX} {tu tv : TGn} {a b : DGt} {wi : TI} {g : TG} {src : DAX} {f : DGX} {js : List Nat}
theorem dgs_plain (h : DS C t s) : DGS C (tPlain t) (gPlain s) := fun X env σ H ys ds D d r a l q =>
  h X env σ H (D.at ys) _ r ⟨fun X' e' σ' H' r' s' h' => l.nx X' e' σ' H' ys ds r' s' (a.mono s') h', fun _ _ _ _ _ _ _ _ _ (h' : False) => h'.elim, fun _ _ _ _ _ _ (h' : False) => h'.elim, fun _ _ _ _ _ _ (h' : False) => h'.elim, l.xc⟩ q
theorem dgs_next : DGS C tG0 gNext := fun X env σ H ys ds D d r a l q => l.nx X env σ H ys ds r (Same.refl _) a q
theorem dgs_seq (ha : DGS C tu a) (hb : DGS C tv b) : DGS C (tGThen tu tv) (gSeq a b) := fun X env σ H ys ds D d r w l q =>
  ha X env σ H ys ds _ { d with nx := fun acc' e => b d acc' e } r w ⟨fun X' e' σ' H' ys' ds' r' s' a' h' => hb X' e' σ' H' ys' ds' D d r' a' (l.step s') h', l.xc⟩ q
theorem dgs_if (hc : DT C tc ec) (ha : DGS C tu a) (hb : DGS C tv b) : DGS C (tGIf tc tu tv) (gIf ec a b) := by
  intro X env σ H ys ds D d r w l h
  refine hc X env σ H _ _ _ r h (fun k H1 f1 h1 => ?_) (l.xok r)
  cases k with
  | true => rw [if_pos rfl] at h1 ⊢; exact ha X env σ H1 ys ds D d (r.step f1) (w.mono (r.vs f1)) (l.step (r.vs f1)) h1
  | false => rw [if_neg (by decide)] at h1 ⊢; exact hb X env σ H1 ys ds D d (r.step f1) (w.mono (r.vs f1)) (l.step (r.vs f1)) h1
theorem dgs_yield (he : DE C te e) : DGS C (tGYield te) (gYield e) := by
  intro X env σ H ys ds D d r w l h
  refine ⟨by rw [w.length, sizeLine_eq]; exact h.1, he X env σ H _ _ _ r h.2 (fun x v H1 f1 r1 h1 => ?_) (l.xok r)⟩
  exact l.nx X env σ H1 _ _ (r.step f1) (r.vs f1) ((w.mono (r.vs f1)).snoc r1) h1
theorem dgs_for (hi : DIg Strong C wi src) (hg : DG C g js f) (hb : DGS C tv b) : DGS C (tGFor wi g tv) (gFor src f b) := by
  intro X env σ H ys ds0 D d r w0 l h
  refine hi X env σ H _ _ _ r h (fun ds J H1 f1 w h1 => ?_) (l.xok r)
  have rp1 := r.step f1
  have l1 := l.step (r.vs f1)
  let W : Nat → Nat → List V → L2.St → Hp → Prop := fun i m ys2 σ2 H2 => m + i = ds.length ∧ ∃ X2 env2 acc, Rep C X2 env2 σ2 H2 ∧ Same (vis H1 X) (vis H2 X2) ∧ DenAll C.K (vis H2 X2) ys2 acc ∧ dGFor f b d (ds.drop i) acc env2
  refine ⟨W, ⟨ds.length, rfl, X, env, ds0, rp1, Same.refl _, w0.mono (r.vs f1), h1⟩, fun i m ys2 σ2 H2 ⟨hm, X2, env2, acc, r2, s2, a2, go⟩ => ?_⟩
  have hw := w X2 i H2 ⟨s2, r2.al⟩
  by_cases c : i < ds.length
  · obtain ⟨g1, g2⟩ := hw.1 c
    refine .inr ⟨g1, W (i + 1) (m - 1), fun ys' σ' H' hW => ⟨m - 1, by omega, hW⟩, fun y H3 hy => ?_⟩
    obtain ⟨s3, x, hx, den⟩ := g2 y H3 hy
    have ed : ds.drop i = x :: ds.drop (i + 1) := by
      rw [List.drop_eq_getElem_cons c]
      congr 1
      rw [List.getElem?_eq_getElem c] at hx
      exact Option.some.inj hx
    rw [ed] at go
    have r3 := r2.step (.same s3)
    have v3 : Same (vis H2 X2) (vis H3 X2) := r2.vs (.same s3)
    have s13 : Same (vis H1 X) (vis H3 X2) := s2.trans v3
    refine hg X2 env2 σ2 H3 y x _ _ r3 den go fun env' σ' r' h' _ _ _ => ?_
    exact hb X2 env' σ' H3 ys2 acc _ { d with nx := dGFor f b d (ds.drop (i + 1)) } r' (a2.mono v3)
      ⟨fun X4 env4 σ4 H4 ys4 ds4 r4 s4 a4 h4 => ⟨by omega, X4, env4, ds4, r4, s13.trans s4, a4, h4⟩, fun X4 env4 σ4 H4 z cls dx r4 s4 a h4 => l1.xc X4 env4 σ4 H4 z cls dx r4 (s13.trans s4) a h4⟩ h'
  · have e : ds.drop i = [] := List.drop_eq_nil_of_le (by omega)
    rw [e] at go
    exact .inl ⟨hw.2 (by omega), l1.nx X2 env2 σ2 H2 ys2 acc r2 s2 a2 go⟩
end
def mkG (np N : Nat) (s : DGt) : DFn := fun args Q E => args.length = np ∧ s ⟨fun acc _ => Q (.lst acc), fun _ x => E x⟩ [] (args ++ List.replicate (N - np) .no)
/-- a generator def over data: what it hands out in all -/
def spGD (K : PySem.W.Frag) (F : DFn) : SpG := fun vs H Q E => ∃ (X : Addr → Prop) (hd : Hnd) (args : List Sl) (Qd : Dt → Prop) (Qx : Xc → Prop), (∀ a, X a → ∃ o, H a = some o) ∧ (∀ h c, hd = some (h, c) → X h ∧ HandC H h c) ∧ SlAll K hd X H vs args ∧ F args Qd Qx ∧
  (∀ ds ys H', Frm hd H H' → DenAll K (vis H' X) ys ds → Qd (.lst ds) → Q ys H') ∧ (∀ x cls dx H', Frm hd H H' → XRep K (vis H' X) cls dx x → Qx x → E cls dx H')
theorem spGD_len {K : PySem.W.Frag} {F : DFn} {np : Nat} (hF : ∀ args Q E, F args Q E → args.length = np) : ∀ vs H Q E, spGD K F vs H Q E → vs.length = np := by
  rintro vs H Q E ⟨X, hd, args, Qd, Qx, _, _, sl, h, _⟩
  rw [sl.length]; exact hF _ _ _ h
theorem gbody_of {K : PySem.W.Frag} {N : List Str} {np n : Nat} {sb : DGt} {t : TGn} {vs : List V} {H : Hp} {Q : List V → Hp → Prop} {E : XK} (hn : N.length = n) (h : spGD K (mkG np n sb) vs H Q E)
    (hb : ∀ X hd, DGS ⟨K, H, X, hd, none, fun _ => E, none⟩ t sb) : t { nx := fun ys _ H' => Q ys H', rt := fun ys v H' => v = .non ∧ Q ys H' } [] (L2.start N vs) H := by
  obtain ⟨X, hd, args, Qd, Qx, al, hh, sl, ⟨ha, h⟩, q, x⟩ := h
  have r := rep_start (N := N) (E := fun _ => E) al hh sl
  rw [ha, hn] at r
  exact hb X hd X _ _ H [] [] _ _ r .nil ⟨fun X' env σ H' ys ds r' s' a' h' => q ds ys H' r'.frm (a'.mono (vis_anti r'.sup)) h', fun X' env σ H' z cls dx r' s' w h' => x z cls dx H' r'.frm (w.mono (vis_anti r'.sup)) h'⟩ h
section
variable {P : Program} {w : World} {K : PySem.W.Frag} {mg : Str → Option Value} {base : Heap} {x qual : Str} {params : Arguments} {body : List Stmt} {scope : Scope} {dvs : List V} {kws : List (Str × V)} {f : Addr} {fd : FuncData}
theorem _root_.L2.FunD.gok {N ps : List Str} {k : Nat} {sp : SpG} (F : FunD K x qual params body scope dvs kws f fd) (S : GScope N ps scope) (len : ∀ vs H Q E, sp vs H Q E → vs.length = ps.length)
    (hbody : ∀ (cdv : Value) (A : Around) (outer : List Env) (s : Shared) (H : Hp) (vs : List V) (Q : List V → Hp → Prop) (E : XK) (pn : List (Addr × Obj)), Room k (A.deeper (envOfC qual scope s.heap.objs.size f cdv)) → sp vs H Q E →
      ∃ t, GSs (gcxOf P w K mg base N qual scope f cdv A outer s H E pn) body t ∧ t { nx := fun ys _ H' => Q ys H', rt := fun ys v H' => v = .non ∧ Q ys H' } [] (start N vs) H) : GFn P w K mg base (k + 1) f fd ps sp := by
  obtain ⟨oc, od, dV, kV, doc, pm, an, cdv, ct, osl, rfl, lk, hcd, _, _⟩ := F.ex
  exact gfn_of lk hcd S len fun A outer s H vs Q E pn hr hsp => hbody cdv A outer s H vs Q E pn hr hsp
end
section
variable {C : Bc} {F : DFn} {dvs : List V} {dd : List Sl} {t : TA} {a : DSX}
end
/-! ### monotone: calls, fields -/
def MonA (t : TA) : Prop := ∀ σ H (Q Q' : List V → Hp → Prop), (∀ v H', Q v H' → Q' v H') → t σ H Q → t σ H Q'
theorem monA_nil : MonA tNil := fun _ _ _ _ m q => m _ _ q
theorem monA_cons {t : TE} {u : TA} (h : Mon t) (k : MonA u) : MonA (tCons t u) := fun σ H _ _ m q => h σ H _ _ (fun _ _ q1 => k _ _ _ _ (fun _ _ q2 => m _ _ q2) q1) q
theorem mon_callA {K : PySem.W.Frag} {F : DFn} {dvs : List V} {E : XK} {t : TA} (m : MonA t) : Mon (tCall (spD K F) dvs E t) := mon_call m
theorem mon_fld {K : PySem.W.Frag} {ta : TE} {f : Str} (h : Mon ta) : Mon (tFld K ta f) := fun σ H _ _ m q => h σ H _ _ (fun _ _ ⟨a, C, dx, fs, v, e1, e2, e3, e4, e5, q1⟩ => ⟨a, C, dx, fs, v, e1, e2, e3, e4, e5, m _ _ q1⟩) q
/-! ### equations -/
theorem mkG_W {np N : Nat} {s : DGt} {args : List Sl} {Q : Dt → Prop} {E : Xc → Prop} : mkG np N s args Q E = (args.length = np ∧ s ⟨fun acc _ => Q (.lst acc), fun _ x => E x⟩ [] (args ++ List.replicate (N - np) .no)) := rfl
theorem gPlain_W {s : DSt} {d : GDn} {acc : List Dt} {env : List Sl} : gPlain s d acc env = s ⟨fun e => d.nx acc e, fun _ => False, fun _ => False, fun _ => False, d.xc⟩ env := rfl
theorem gSeq_W {a b : DGt} {d : GDn} {acc : List Dt} {env : List Sl} : gSeq a b d acc env = a { d with nx := fun acc' e => b d acc' e } acc env := rfl
theorem gNext_W {d : GDn} {acc : List Dt} {env : List Sl} : gNext d acc env = d.nx acc env := rfl
theorem gIf_W {c : DTX} {a b : DGt} {d : GDn} {acc : List Dt} {env : List Sl} : gIf c a b d acc env = c env (fun k => if k = true then a d acc env else b d acc env) (d.xc env) := rfl
theorem gYield_W {e : DX} {d : GDn} {acc : List Dt} {env : List Sl} : gYield e d acc env = (acc.length < LINE ∧ e env (fun x => d.nx (acc ++ [x]) env) (d.xc env)) := rfl
theorem gFor_W {src : DAX} {f : DGX} {b : DGt} {d : GDn} {acc : List Dt} {env : List Sl} : gFor src f b d acc env = src env (fun ds => dGFor f b d ds acc env) (d.xc env) := rfl
end Mine

namespace Mine
open PySem PySem.Spec PyProof.Rows L2
/-! ### rows = [a new list for ..]; rows[k1][k2] = a whole number, right behind: both rows together -/
section
variable {C : Bc} {X : Addr → Prop} {env : List Sl} {σ : L2.St} {H H1 H2 : Hp}
end
def sRowPut (i : Nat) (lc ev e1 e2 : DX) : DSt := fun d env => i < env.length ∧ lc env (fun r => match r with
  | .lst rows => ev (env.set i .no) (fun v => match v with
    | .int z => e1 (env.set i .no) (fun a => match a with
      | .int m => ∃ m' : Nat, ixN rows.length m = some m' ∧ e2 (env.set i .no) (fun b => match b with
        | .int j => ∃ (j' : Nat) (ds : List Dt), rows[m']? = some (.lst ds) ∧ ixN ds.length j = some j' ∧ d.nx (env.set i (.d (.lst (rows.set m' (.lst (ds.set j' (.int z)))))))
        | _ => False) (d.xc (env.set i .no))
      | _ => False) (d.xc (env.set i .no))
    | _ => False) (d.xc (env.set i .no))
  | _ => False) (d.xc env)
section
variable {C : Bc} {wi : TI} {g : TG} {tt : TT} {te tv t1 t2 : TE} {vs : List Nat} {src : DAX} {f : DGX} {et : DTX} {ee ev e1 e2 : DX} {u : TS} {s : DSt} {i : Nat}
end
theorem sRowPut_W {i : Nat} {lc ev e1 e2 : DX} {d : DEn} {env : List Sl} : sRowPut i lc ev e1 e2 d env = (i < env.length ∧ lc env (fun r => match r with
  | .lst rows => ev (env.set i .no) (fun v => match v with
    | .int z => e1 (env.set i .no) (fun a => match a with
      | .int m => ∃ m' : Nat, ixN rows.length m = some m' ∧ e2 (env.set i .no) (fun b => match b with
        | .int j => ∃ (j' : Nat) (ds : List Dt), rows[m']? = some (.lst ds) ∧ ixN ds.length j = some j' ∧ d.nx (env.set i (.d (.lst (rows.set m' (.lst (ds.set j' (.int z)))))))
        | _ => False) (d.xc (env.set i .no))
      | _ => False) (d.xc (env.set i .no))
    | _ => False) (d.xc (env.set i .no))
  | _ => False) (d.xc env)) := rfl
end Mine

namespace Mine
open PySem PySem.Spec PyProof.Rows L2
/-! ### l.count(x) of any plain things -/
def eCnt (a b : DX) : DX := fun env Q E => a env (fun x => match x with
  | .lst ys => b env (fun z => z.sh ∧ Dt.sh (.lst ys) ∧ Q (.int ((ys.countP fun y => y.eqv z : Nat)))) E
  | _ => False) E
theorem eCnt_W (a b : DX) {env} {Q} {E} : eCnt a b env Q E = a env (fun x => match x with
  | .lst ys => b env (fun z => z.sh ∧ Dt.sh (.lst ys) ∧ Q (.int ((ys.countP fun y => y.eqv z : Nat)))) E
  | _ => False) E := rfl
end Mine

namespace Mine
open PySem PySem.Spec PyProof.Rows L2
/-! ### sorted(set(xs)) of whole numbers -/
def eSortedSetI (a : DX) : DX := fun env Q E => a env (fun d => ∃ ns : List Int, d = .lst (ns.map Dt.int) ∧ ns.length < 64 ∧ ∀ ms : List Int, ms.Pairwise (· < ·) → (∀ x, x ∈ ms ↔ x ∈ ns) → Q (.lst (ms.map Dt.int))) E
theorem eSortedSetI_W (a : DX) {env} {Q} {E} : eSortedSetI a env Q E = a env (fun d => ∃ ns : List Int, d = .lst (ns.map Dt.int) ∧ ns.length < 64 ∧ ∀ ms : List Int, ms.Pairwise (· < ·) → (∀ x, x ∈ ms ↔ x ∈ ns) → Q (.lst (ms.map Dt.int))) E := rfl
end Mine

namespace Mine
open PySem PySem.Spec PyProof.Rows L2
/-! ### tables of sets, of any mask 2 ^ e - 1: the way x -> 5 x + 1 meets each slot -/
def five : Nat → Nat → Nat
  | 0, x => x
  | n + 1, x => five n x * 5 + 1
theorem five_add (a x : Nat) : ∀ b, five (a + b) x = five b (five a x)
  | 0 => rfl
  | b + 1 => by show five (a + b) x * 5 + 1 = five b (five a x) * 5 + 1; rw [five_add a x b]
theorem five_pow : ∀ k, ∃ s t, ∀ x, five (2 ^ k) x = (1 + 4 * 2 ^ k * s) * x + 2 ^ k * (2 * t + 1)
  | 0 => ⟨1, 0, fun x => by show x * 5 + 1 = (1 + 4 * 1 * 1) * x + 1 * (2 * 0 + 1); omega⟩
  | k + 1 => by
    obtain ⟨s, t, h⟩ := five_pow k
    refine ⟨s + 2 * 2 ^ k * (s * s), t + 2 ^ k * s * (2 * t + 1), fun x => ?_⟩
    rw [Nat.pow_succ, Nat.mul_two, five_add, h, h]
    generalize 2 ^ k = K
    grind
theorem five_all : ∀ k i j, j < 2 ^ k → ∃ n, n < 2 ^ k ∧ five n i % 2 ^ k = j
  | 0, i, j, h => ⟨0, by decide, by rw [Nat.pow_zero, Nat.mod_one]; omega⟩
  | k + 1, i, j, h => by
    have pk : 0 < 2 ^ k := Nat.pow_pos (by decide)
    obtain ⟨n, hn, e⟩ := five_all k i (j % 2 ^ k) (Nat.mod_lt _ pk)
    obtain ⟨s, t, h5⟩ := five_pow k
    have e2 : 2 ^ (k + 1) = 2 * 2 ^ k := by rw [Nat.pow_succ, Nat.mul_comm]
    rw [e2] at h ⊢
    by_cases c : five n i % (2 * 2 ^ k) = j
    · exact ⟨n, by omega, c⟩
    · refine ⟨n + 2 ^ k, by omega, ?_⟩
      rw [five_add, h5]
      generalize five n i = y at e c
      generalize 2 ^ k = K at *
      have r1 := Nat.div_add_mod y K
      have r2 := Nat.div_add_mod j K
      have hb : j / K < 2 := Nat.div_lt_of_lt_mul (by rw [Nat.mul_comm]; exact h)
      have hq := Nat.div_add_mod (y / K) 2
      have hr := Nat.mod_lt (y / K) (show 0 < 2 by decide)
      rw [e] at r1
      -- y = K q + r, j = K b + r, q and b of unlike parity
      have ne : y / K % 2 ≠ j / K := fun z => c (by
        rw [← r1, ← hq, z, Nat.mul_add, ← Nat.mul_assoc, Nat.mul_comm K 2, Nat.add_assoc, Nat.mul_add_mod, r2]
        exact Nat.mod_eq_of_lt h)
      have main : ∃ m, (1 + 4 * K * s) * y + K * (2 * t + 1) = 2 * K * m + j := by
        generalize y / K = q at *
        generalize j / K = b at *
        generalize j % K = r at *
        have q1 : q % 2 = 0 ∧ b = 1 ∨ q % 2 = 1 ∧ b = 0 := by omega
        rcases q1 with ⟨a1, a2⟩ | ⟨a1, a2⟩
        · refine ⟨q / 2 + 2 * s * y + t, ?_⟩
          rw [a1] at hq; rw [a2] at r2
          generalize q / 2 = u at *
          subst hq; subst r2; subst r1
          grind
        · refine ⟨q / 2 + 1 + 2 * s * y + t, ?_⟩
          rw [a1] at hq; rw [a2] at r2
          generalize q / 2 = u at *
          subst hq; subst r2; subst r1
          grind
      obtain ⟨m, hm⟩ := main
      rw [hm, Nat.mul_add_mod]
      exact Nat.mod_eq_of_lt h
/-- the masks -/
def MaskG (m : Nat) : Prop := ∃ e, m + 1 = 2 ^ e ∧ (e = 3 ∨ e = 5 ∨ e = 7 ∨ e = 9 ∨ e = 11 ∨ e = 13)
theorem MaskG.six {m : Nat} (h : MaskG m) : m = 7 ∨ m = 31 ∨ m = 127 ∨ m = 511 ∨ m = 2047 ∨ m = 8191 := by
  obtain ⟨e, h1, rfl | rfl | rfl | rfl | rfl | rfl⟩ := h <;> omega
theorem MaskG.odd {m : Nat} (h : MaskG m) : m % 2 = 1 ∧ 7 ≤ m ∧ m ≤ 8191 := by
  have := h.six
  omega
theorem lcg_five {m i : Nat} (hi : i ≤ m) : ∀ n, lcgI m i n = five n i % (m + 1)
  | 0 => (Nat.mod_eq_of_lt (Nat.lt_succ_of_le hi)).symm
  | n + 1 => by
    show (lcgI m i n * 5 + 1) % (m + 1) = (five n i * 5 + 1) % (m + 1)
    rw [lcg_five hi n, Nat.add_mod, Nat.mul_mod, Nat.mod_mod, ← Nat.mul_mod, ← Nat.add_mod]
theorem MaskG.all {m : Nat} (h : MaskG m) {i j : Nat} (hi : i ≤ m) (hj : j ≤ m) : ∃ k, k ≤ m ∧ lcgI m i k = j := by
  obtain ⟨e, he, _⟩ := h
  obtain ⟨n, hn, en⟩ := five_all e i j (by omega)
  exact ⟨n, by omega, by rw [lcg_five hi, he]; exact en⟩
theorem MaskG.run {m : Nat} (hm : MaskG m) (h : Int) {j : Nat} (hj : j ≤ m) : ∃ n, n ≤ m + 12 ∧ runI m (SetTable.bits h) n = j := by
  obtain ⟨k, hk, e⟩ := hm.all (runI_le m (SetTable.bits h) 12) hj
  refine ⟨12 + k, by omega, ?_⟩
  rw [runI_tail (bits_lt h)]; exact e
theorem MaskG.met {m : Nat} (hm : MaskG m) (h : Int) {j : Nat} (hj : j ≤ m) : ∃ k, k < 10 * SetTable.turns m ∧ way m h k = j := by
  obtain ⟨n, hn, e⟩ := hm.run h hj
  obtain ⟨k, hk, e2⟩ := run_nth m (SetTable.bits h) n
  have lt : k < 10 * SetTable.turns m := by unfold SetTable.turns; omega
  exact ⟨k, lt, by unfold way; rw [e2]; exact e⟩
theorem way_top {m : Nat} (h : Int) (k : Nat) : way m h k ≤ m := by
  have lt : SetTable.bits h % (m + 1) ≤ m := Nat.le_of_lt_succ (Nat.mod_lt _ (Nat.succ_pos _))
  obtain ⟨r1, r2, _⟩ := runEnd_bd lt
  have := nth_in (m := m) k (runAt m (SetTable.bits h % (m + 1)) (SetTable.bits h)) (by unfold runAt; dsimp only; omega)
  exact Nat.le_trans (Nat.le_add_right _ _) this
end Mine

namespace Mine
open PySem PySem.Spec PyProof.Rows L2
/-- places and hashes: each hash finds its place by its way, over taken ones -/
structure Placed (m : Nat) (ps : List Nat) (hs : List Int) : Prop where
  asc : Ris ps
  len : ps.length = hs.length
  top : ∀ x ∈ ps, x ≤ m
  got : ∀ q ∈ ps.zip hs, ∃ k, way m q.2 k = q.1 ∧ ∀ i, i < k → way m q.2 i ∈ ps
structure TabG (t : SetTable) (hs : List Int) : Prop where
  mask : MaskG t.mask
  bare : t.dummies = #[]
  pl : Placed t.mask t.place.toList hs
/-- the first free place -/
theorem TabG.gap {t : SetTable} {hs : List Int} (T : TabG t hs) (hl : hs.length ≤ t.mask) (h : Int) :
    ∃ K, K < 10 * SetTable.turns t.mask ∧ way t.mask h K ∉ t.place.toList ∧ ∀ k, k < K → way t.mask h k ∈ t.place.toList := by
  obtain ⟨j, hj, hn⟩ := st_missing t.place.toList (t.mask + 1) (by have := T.pl.len; omega)
  obtain ⟨k, hk, e⟩ := T.mask.met h (Nat.le_of_lt_succ hj)
  obtain ⟨K, a, b, c⟩ := st_least (p := fun i => way t.mask h i ∉ t.place.toList) k (by rw [e]; exact hn)
  exact ⟨K, by omega, b, fun i hi => Classical.byContradiction fun z => c i hi z⟩
theorem zip_ins {α β : Type} {l : List α} {l' : List β} {p : Nat} (e : l.length = l'.length) (x : α) (y : β) {q : α × β} (hq : q ∈ (l.take p ++ x :: l.drop p).zip (l'.take p ++ y :: l'.drop p)) : q = (x, y) ∨ q ∈ l.zip l' := by
  rw [List.zip_append (by rw [List.length_take, List.length_take, e]), List.zip_cons_cons, List.mem_append, List.mem_cons] at hq
  have ez : l.zip l' = (l.take p).zip (l'.take p) ++ (l.drop p).zip (l'.drop p) := by
    rw [← List.zip_append (by rw [List.length_take, List.length_take, e]), List.take_append_drop, List.take_append_drop]
  rw [ez, List.mem_append]
  rcases hq with h | h | h
  · exact .inr (.inl h)
  · exact .inl h
  · exact .inr (.inr h)
/-- one more in the table -/
theorem TabG.more {t : SetTable} {hs : List Int} (T : TabG t hs) {h : Int} {K : Nat} (hK : way t.mask h K ∉ t.place.toList) (hb : ∀ k, k < K → way t.mask h k ∈ t.place.toList) {t' : SetTable} {p : Nat} (e : t.put (way t.mask h K) = (t', p)) :
    p ≤ hs.length ∧ TabG t' (hs.take p ++ h :: hs.drop p) ∧ t'.mask = t.mask ∧ t'.led = t.led ∧ t'.plain = t.plain ∧ t'.fill = hs.length + 1 := by
  have top := way_top (m := t.mask) h K
  obtain ⟨j, ej⟩ : ∃ j, way t.mask h K = j := ⟨_, rfl⟩
  rw [ej] at e hK top
  obtain ⟨c1, _, _⟩ := below_cut T.pl.asc j
  have ep : SetTable.below t.place j = p := congrArg Prod.snd e
  have et : (t.put j).1 = t' := congrArg Prod.fst e
  have pp := put_place t j
  have pd := put_dm T.bare j
  have pa : Ris (t.put j).1.place.toList := ris_insert T.pl.asc fun z => hK (List.mem_of_getElem? (by rw [Array.getElem?_toList]; exact z))
  have pm : (t.put j).1.mask = t.mask ∧ (t.put j).1.led = t.led ∧ (t.put j).1.plain = t.plain := ⟨rfl, rfl, rfl⟩
  rw [ep] at pp c1
  rw [et] at pp pd pa pm
  have hl := T.pl.len
  rw [Array.length_toList] at hl
  have lp : t'.place.toList.length = hs.length + 1 := by
    rw [pp, List.length_append, List.length_cons, List.length_take, List.length_drop, Array.length_toList]; omega
  have inn : ∀ {x : Nat}, x ∈ t'.place.toList ↔ x = j ∨ x ∈ t.place.toList := fun {x} => by rw [pp]; exact mem_ins
  refine ⟨by omega, ⟨by rw [pm.1]; exact T.mask, pd, pa, ?_, fun x hx => ?_, fun q hq => ?_⟩, pm.1, pm.2.1, pm.2.2, ?_⟩
  · rw [lp, List.length_append, List.length_cons, List.length_take, List.length_drop]; omega
  · rw [pm.1]
    rcases inn.mp hx with z | z
    · omega
    · exact T.pl.top x z
  · rw [pm.1]
    rw [pp] at hq
    rcases zip_ins T.pl.len j h hq with rfl | z
    · exact ⟨K, ej, fun i hi => inn.mpr (.inr (hb i hi))⟩
    · obtain ⟨k, a, b⟩ := T.pl.got q z
      exact ⟨k, a, fun i hi => inn.mpr (.inr (b i hi))⟩
  · unfold SetTable.fill
    rw [pd, ← Array.length_toList, lp]; rfl
/-- a place for one more when all is laid anew -/
theorem MaskG.free {m : Nat} (hm : MaskG m) (owner : Array (Option Nat)) (h : Int) {j : Nat} (hj : j ≤ m) (hf : oAt owner j = none) :
    ∃ K, SetTable.layClean.free m owner (SetTable.turns m) (SetTable.bits h % (m + 1)) (SetTable.bits h) = some (way m h K) ∧ oAt owner (way m h K) = none ∧ ∀ k, k < K → oAt owner (way m h k) ≠ none := by
  obtain ⟨n, hn, e⟩ := hm.run h hj
  obtain ⟨N, eN⟩ : ∃ N, off m (SetTable.bits h % (m + 1)) (SetTable.bits h) n = N := ⟨_, rfl⟩
  have at_ : way m h N = j := by
    unfold way
    rw [← eN, nth_off, itL_run]; exact e
  obtain ⟨K, a, b, c⟩ := st_least (p := fun i => oAt owner (way m h i) = none) N (by rw [at_]; exact hf)
  refine ⟨K, free_spec m owner (SetTable.turns m) n _ _ K (by unfold SetTable.turns; omega) (by rw [eN]; exact a) (fun i hi => ?_) ?_, b, c⟩
  · have := c i hi
    exact Option.isNone_eq_false_iff.mpr (Option.isSome_iff_ne_none.mpr this)
  · exact Option.isNone_iff_eq_none.mpr b
theorem own_next {m : Nat} (hm : MaskG m) {done : List Int} {owner : Array (Option Nat)} (W : Own m done owner) (hl : done.length ≤ m) (h : Int) :
    ∃ j, SetTable.layClean.free m owner (SetTable.turns m) (SetTable.bits h % (m + 1)) (SetTable.bits h) = some j ∧ Own m (done ++ [h]) (owner.setIfInBounds j (some done.length)) := by
  obtain ⟨ps, hps, hin⟩ := W.ps
  obtain ⟨i0, hi0, hn⟩ := st_missing ps (m + 1) (by omega)
  have fr : oAt owner i0 = none := Classical.byContradiction fun z => hn (hin i0 (Nat.le_of_lt_succ hi0) z)
  obtain ⟨K, e1, e2, e3⟩ := hm.free owner h (Nat.le_of_lt_succ hi0) fr
  have top := way_top (m := m) h K
  obtain ⟨j, ej⟩ : ∃ j, way m h K = j := ⟨_, rfl⟩
  rw [ej] at e1 e2 top
  have self := oAt_set_self (owner := owner) (some done.length) (show j < owner.size by rw [W.sz]; omega)
  have keep : ∀ i, oAt owner i ≠ none → oAt (owner.setIfInBounds j (some done.length)) i = oAt owner i := fun i hi => oAt_set_ne _ fun z => hi (by rw [z]; exact e2)
  refine ⟨j, e1, ?_⟩
  constructor
  · rw [Array.size_setIfInBounds]; exact W.sz
  · intro i k hi e
    by_cases c : i = j
    · subst c
      rw [self] at e
      cases e
      refine ⟨h, K, by simp, ej, fun a ha => ?_⟩
      rw [keep _ (e3 a ha)]; exact e3 a ha
    · rw [oAt_set_ne _ c] at e
      obtain ⟨h', K', a1, a2, a3⟩ := W.at_ i k hi e
      refine ⟨h', K', ?_, a2, fun a ha => by rw [keep _ (a3 a ha)]; exact a3 a ha⟩
      rw [List.getElem?_append_left (List.getElem?_eq_some_iff.mp a1).1]; exact a1
  · intro k hk
    rcases Nat.lt_or_ge k done.length with c | c
    · obtain ⟨i, hi, e⟩ := W.all k c
      exact ⟨i, hi, by rw [keep i (by rw [e]; simp)]; exact e⟩
    · have : k = done.length := by simp at hk; omega
      subst this
      exact ⟨j, top, self⟩
  · refine ⟨j :: ps, by simp [hps], fun i hi e => ?_⟩
    by_cases c : i = j
    · rw [c]; exact List.mem_cons_self
    · rw [oAt_set_ne _ c] at e
      exact List.mem_cons_of_mem _ (hin i hi e)
theorem lay_all {m : Nat} (hm : MaskG m) : ∀ (rest done : List Int) (owner : Array (Option Nat)), Own m done owner → done.length + rest.length ≤ m →
    ∃ o2, rest.foldl (stepF m) (some (owner, done.length)) = some (o2, (done ++ rest).length) ∧ Own m (done ++ rest) o2
  | [], done, owner, W, _ => ⟨owner, by simp, by simpa using W⟩
  | h :: rest, done, owner, W, hl => by
    rw [List.length_cons] at hl
    obtain ⟨j, e, W'⟩ := own_next hm W (by omega) h
    obtain ⟨o2, f, W2⟩ := lay_all hm rest (done ++ [h]) _ W' (by rw [List.length_append]; show _ + 1 + _ ≤ _; omega)
    rw [List.append_assoc, List.length_append] at f
    rw [List.append_assoc] at W2
    exact ⟨o2, by rw [List.foldl_cons, stepF_some e]; exact f, W2⟩
theorem lay_clean {m : Nat} (hm : MaskG m) {hs : Array Int} (hn : hs.size ≤ m) : ∃ owner, SetTable.layClean m hs = some owner ∧ Own m hs.toList owner := by
  obtain ⟨o2, f, W⟩ := lay_all hm hs.toList [] _ (Own.init m) (by show 0 + hs.toList.length ≤ m; rw [Array.length_toList]; omega)
  refine ⟨o2, ?_, W⟩
  rw [layClean_eq]
  show Option.map _ (hs.toList.foldl (stepF m) (some (Array.replicate (m + 1) none, ([] : List Int).length))) = _
  rw [f]; rfl
/-- the table laid anew -/
theorem lay_new (t : SetTable) {hs : Array Int} {wanted M : Nat} (hw : SetTable.sizeAbove wanted - 1 = M) (hM : MaskG M) (hn : hs.size ≤ M) :
    ∃ t' order, t.relaid hs wanted = some (t', order) ∧ order.toList.Perm (List.range hs.size) ∧ TabG t' (order.toList.map fun i => hs.getD i 0) ∧ t'.mask = M ∧ t'.led = t.led ∧ t'.plain = t.plain := by
  obtain ⟨owner, e, W⟩ := lay_clean hM hn
  obtain ⟨r1, r2⟩ := ris_live (fun j => owner.getD j none) (List.range (M + 1)) List.pairwise_lt_range
  obtain ⟨l, el⟩ : ∃ l, liveOf M owner = l := ⟨_, rfl⟩
  have r1 : Ris (l.map (·.1)) := by rw [← el]; exact r1
  have r2 : ∀ x ∈ l.map (·.1), x ∈ List.range (M + 1) := by rw [← el]; exact r2
  have ml : ∀ {j k : Nat}, (j, k) ∈ l ↔ j ≤ M ∧ oAt owner j = some k := fun {j k} => by rw [← el]; exact mem_live W.sz
  refine ⟨tabOf t M owner, (l.map (·.2)).toArray, ?_, ?_, ?_, rfl, rfl, rfl⟩
  · rw [relaid_eq, hw, e, ← el]; rfl
  · refine perm_range hs.size (l.map (·.2)) ?_ fun k hk => ?_
    · have up : l.length ≤ hs.size := by
        obtain ⟨ps, p1, p2⟩ := W.ps
        have nd : (l.map (·.1)).Nodup := List.Pairwise.imp (fun {a b} (h : a < b) => Nat.ne_of_lt h) r1
        have := nat_nodup_len (l.map (·.1)) ps nd fun x hx => by
          obtain ⟨⟨y, k⟩, hq, rfl⟩ := List.mem_map.mp hx
          obtain ⟨b1, b2⟩ := ml.mp hq
          exact p2 y b1 (by rw [b2]; simp)
        simp at this p1; omega
      have dn : hs.size ≤ l.length := by
        have := nat_nodup_len (List.range hs.size) (l.map (·.2)) List.nodup_range fun k hk => by
          obtain ⟨j, b1, b2⟩ := W.all k (by simpa using hk)
          exact List.mem_map.mpr ⟨(j, k), ml.mpr ⟨b1, b2⟩, rfl⟩
        simpa using this
      rw [List.length_map]; omega
    · obtain ⟨j, b1, b2⟩ := W.all k (by simpa using hk)
      exact List.mem_map.mpr ⟨(j, k), ml.mpr ⟨b1, b2⟩, rfl⟩
  · have pls : (tabOf t M owner).place.toList = l.map (·.1) := by show ((liveOf M owner).map (·.1)).toArray.toList = _; rw [el]
    refine ⟨hM, rfl, by rw [pls]; exact r1, by rw [pls]; simp, fun x hx => ?_, fun q hq => ?_⟩
    · rw [pls] at hx
      exact Nat.le_of_lt_succ (List.mem_range.mp (r2 x hx))
    · rw [pls] at hq ⊢
      have ez : (l.map (·.1)).zip ((l.map (·.2)).map fun i => hs.getD i 0) = l.map fun q => (q.1, hs.getD q.2 0) := by
        rw [List.map_map]; exact List.zip_map' ..
      obtain ⟨⟨j, k⟩, hm, rfl⟩ := List.mem_map.mp (show q ∈ l.map fun q => (q.1, hs.getD q.2 0) by rw [← ez]; exact hq)
      obtain ⟨b1, b2⟩ := ml.mp hm
      obtain ⟨h0, K, a1, a2, a3⟩ := W.at_ j k b1 b2
      have e0 : hs.getD k 0 = h0 := by
        rw [Array.getD_eq_getD_getElem?, ← Array.getElem?_toList, a1]; rfl
      refine ⟨K, by dsimp only; rw [e0]; exact a2, fun i hi => ?_⟩
      dsimp only
      rw [e0]
      have := a3 i hi
      obtain ⟨k2, z⟩ := Option.ne_none_iff_exists'.mp this
      exact List.mem_map.mpr ⟨(way M h0 i, k2), ml.mpr ⟨way_top h0 i, z⟩, rfl⟩
end Mine

namespace Mine
open PySem PySem.Spec PyProof.Rows L2
/-- a set of tuples of whole numbers at a: its rows, its table -/
structure SetG (P : Program) (w : World) (h : Heap) (a : Addr) (L : List (Addr × List Int)) (es : Array (Int × Value)) (ep : Nat) (t : SetTable) : Prop where
  at_ : ∃ o, h.get? a = some o ∧ o.ExactSet ∧ o.data = .set es ep t
  ents : es.toList = rowsOf P w L
  tab : TabG t (L.map fun p => thash P w p.2)
  keys : (L.map (·.2)).Nodup
  tups : ∀ p ∈ L, IsT P w h p.2 p.1
  byv : t.plain = true
  ldg : w.params.followText "set-order" = true ∨ t.led = true
  free : L.length * 5 < t.mask * 3
section
variable {P : Program} {w : World} {A : Around} {E : Value → Shared → Prop} {s : Shared} {a : Addr} {L : List (Addr × List Int)} {es : Array (Int × Value)} {ep : Nat} {t : SetTable}
theorem ents_len {L : List (Addr × List Int)} {es : Array (Int × Value)} (h : es.toList = rowsOf P w L) : es.size = L.length := by
  rw [← Array.length_toList, h]; exact List.length_map ..
theorem ents_at {L : List (Addr × List Int)} {es : Array (Int × Value)} (h : es.toList = rowsOf P w L) {i : Nat} {p : Addr × List Int} (e : L[i]? = some p) : es[i]? = some (thash P w p.2, Value.ref p.1) := by
  rw [← Array.getElem?_toList, h, rowsOf, List.getElem?_map, e]; rfl
theorem TabG.size {t : SetTable} {hs : List Int} (T : TabG t hs) : t.place.size = hs.length := by rw [← Array.length_toList]; exact T.pl.len
theorem fits_of {t : SetTable} {hs : List Int} (T : TabG t hs) {n : Nat} (e : n = hs.length) (l : n ≤ t.mask) : t.fits n = true := by
  have := T.size
  unfold SetTable.fits SetTable.fill
  rw [T.bare, Bool.and_eq_true, beq_iff_eq, decide_eq_true_eq]
  exact ⟨by omega, by show t.place.size + 0 ≤ t.mask; omega⟩
theorem SetG.size (R : SetG P w s.heap a L es ep t) : es.size = L.length := ents_len R.ents
theorem SetG.fits (R : SetG P w s.heap a L es ep t) : t.fits es.size = true := fits_of R.tab (by rw [R.size, List.length_map]) (by have := R.free; have := R.size; omega)
theorem SetG.stays (R : SetG P w s.heap a L es ep t) : ¬ t.gaveWay = true := by
  unfold SetTable.gaveWay
  rw [(MaskG.odd R.tab.mask).1]; decide
theorem nth_dummy (m : Nat) : ∀ (n : Nat) (p : SetTable.Probe), p.dummy = none → (nth m p n).dummy = none
  | 0, _, h => h
  | n + 1, p, h => nth_dummy m n (adv m p) (by unfold adv; split <;> exact h)
/-- the c-th state of the way -/
abbrev prb (m : Nat) (h : Int) (c : Nat) : SetTable.Probe := nth m (runAt m (SetTable.bits h % (m + 1)) (SetTable.bits h)) c
theorem find_from (R : SetG P w s.heap a L es ep t) {x : Addr} {k : List Int} (hx : IsT P w s.heap k x) (hu : A.units < cLine) {h : Int} (eh : thash P w k = h) {K : Nat} (hKf : K < 10 * SetTable.turns t.mask) (hK : way t.mask h K ∉ t.place.toList)
    (hKb : ∀ c, c < K → way t.mask h c ∈ t.place.toList) {Q : SetFound → Shared → Prop} (yes : k ∈ L.map (·.2) → Q (.there none) s) (no : k ∉ L.map (·.2) → Q (.free (way t.mask h K) false) s) : ∀ (f c : Nat) (stand : Option SetTable.Probe), stand.getD (t.probeStart h) = prb t.mask h c → c ≤ K → K - c < f →
      (∀ (i : Nat) p, L[i]? = some p → p.2 = k → ∃ c', c ≤ c' ∧ c' < K ∧ t.place.toList[i]? = some (way t.mask h c')) → wpAny (model P w) A (setSearchFrom a (.ref x) h true f stand) Q E s
  | 0, c, _, _, _, hf, _ => absurd hf (Nat.not_lt_zero _)
  | f + 1, c, stand, hst, hc, hf, hre => by
    obtain ⟨o, ho, hex, hd⟩ := R.at_
    have pl := R.tab.pl
    have step : ∀ q, nth t.mask (prb t.mask h c) q = prb t.mask h (c + q) := fun q => (nth_add t.mask c _ q).symm
    have stepj : ∀ q, (nth t.mask (prb t.mask h c) q).j = way t.mask h (c + q) := fun q => by rw [step]
    have last : c + (K - c) = K := by omega
    have spec := go_spec t pl.asc R.tab.bare (fun i => (es[i]?.map (·.1)).getD 0) h (10 * SetTable.turns t.mask) (K - c) (prb t.mask h c) (nth_dummy _ _ _ rfl) (by omega) (fun q hq => by rw [stepj]; exact hKb _ (by omega)) (by rw [stepj, last]; exact hK)
    have hash : ∀ (i : Nat) p, L[i]? = some p → (es[i]?.map (·.1)).getD 0 = thash P w p.2 := fun i p hp => by rw [ents_at R.ents hp]; rfl
    rw [setSearchFrom_succ]
    refine wpAny_bind (wpAny_setState_of ho hd R.fits ?_)
    dsimp only
    refine wp_if_neg R.stays ?_
    try refine wpAny_bind (wpAny_pure ?_)
    rcases spec with ⟨q, i, hq, hi, hh, before, ans⟩ | ⟨before, ans⟩
    · -- a row of this hash is met
      have ans' : t.probe (fun i => (es[i]?.map (·.1)).getD 0) h (stand.getD (t.probeStart h)) = some (.candidate (way t.mask h (c + q)) i (prb t.mask h (c + (q + 1)))) := by
        rw [hst, ← stepj, ← step]; exact ans
      rw [ans']
      dsimp only
      rw [stepj] at hi
      have il : i < L.length := by
        have := (List.getElem?_eq_some_iff.mp hi).1
        have := pl.len
        rw [List.length_map] at this
        omega
      obtain ⟨p, hp⟩ : ∃ p, L[i]? = some p := ⟨_, List.getElem?_eq_getElem il⟩
      have pin : p ∈ L := List.mem_of_getElem? hp
      have live : t.slot (way t.mask h (c + q)) = .live i := slot_live pl.asc hi
      have rest : wpAny (model P w) A (searchRest a (.ref x) h true f es t (way t.mask h (c + q)) i (prb t.mask h (c + (q + 1)))) Q E s := by
        unfold searchRest
        rw [ents_at R.ents hp]
        dsimp only
        refine wpAny_bind (wpAny_holding (wpAny_eqBool_tuple hu (R.tups p pin) hx ?_))
        refine wpAny_bind (wpAny_setState_of ho hd R.fits ?_)
        dsimp only
        by_cases same : p.2 = k
        · exact wp_if_pos (by simp [same]) (wpAny_pure (yes (List.mem_map.mpr ⟨p, pin, same⟩)))
        · refine wp_if_neg (by simp [same]) ?_
          try refine wpAny_bind (wpAny_pure ?_)
          rw [sameMem]
          dsimp only
          simp only [if_true, live, ents_at R.ents hp]
          refine wpAny_bind (wpAny_isSame_ref_self (wpAny_bind (wpAny_pure ?_)))
          simp only [if_true]
          refine wp_if_neg (by simp [same]) (find_from R hx hu eh hKf hK hKb yes no f (c + (q + 1)) _ rfl (by omega) (by omega) fun i0 p0 h0 e0 => ?_)
          obtain ⟨c', a1, a2, a3⟩ := hre i0 p0 h0 e0
          refine ⟨c', Classical.byContradiction fun lt => ?_, a2, a3⟩
          by_cases eq : c' = c + q
          · -- then it would be this row
            have := slot_live pl.asc (eq ▸ a3)
            rw [live] at this
            injection this with this
            rw [← this, hp] at h0
            cases h0
            exact same e0
          · refine before (c' - c) i0 (by omega) ?_ ((hash i0 p0 h0).trans (by rw [e0, eh]))
            rw [stepj, show c + (c' - c) = c' by omega]; exact a3
      by_cases hl : t.led = true
      · refine wp_if_neg (by simp [hl]) ?_
        first
        | exact rest
        | exact wpAny_bind (wpAny_pure rest)
      · refine wp_if_pos (by simp [hl]) (wpAny_bind (seen_tup hx (fun y hy => ?_) ?_))
        · obtain ⟨e, he, ee⟩ := List.mem_map.mp hy
          have he : e ∈ es.toList := by simpa using (show e ∈ es ∧ e.1 = h by simpa using he).1
          rw [R.ents] at he
          obtain ⟨p2, hp2, e2⟩ := List.mem_map.mp he
          exact ⟨p2.2, p2.1, by rw [← ee, ← e2], R.tups p2 hp2⟩
        · refine wp_if_neg (by decide) ?_
          first
          | exact rest
          | exact wpAny_bind (wpAny_pure rest)
    · -- the free place
      have ans' : t.probe (fun i => (es[i]?.map (·.1)).getD 0) h (stand.getD (t.probeStart h)) = some (.empty (way t.mask h K) none) := by
        have := stepj (K - c)
        rw [last] at this
        rw [hst, ← this]; exact ans
      rw [ans']
      dsimp only
      refine wpAny_pure (no fun hm => ?_)
      obtain ⟨p0, hp0, e0⟩ := List.mem_map.mp hm
      obtain ⟨i0, h0⟩ := List.getElem?_of_mem hp0
      obtain ⟨c', a1, a2, a3⟩ := hre i0 p0 h0 e0
      refine before (c' - c) i0 (by omega) ?_ ((hash i0 p0 h0).trans (by rw [e0, eh]))
      rw [stepj, show c + (c' - c) = c' by omega]; exact a3
/-- the search as adding asks for it -/
theorem find_it (R : SetG P w s.heap a L es ep t) {x : Addr} {k : List Int} (hx : IsT P w s.heap k x) (hu : A.units < cLine) {Q : SetFound → Shared → Prop} (yes : k ∈ L.map (·.2) → Q (.there none) s)
    (no : ∀ K, k ∉ L.map (·.2) → way t.mask (thash P w k) K ∉ t.place.toList → (∀ c, c < K → way t.mask (thash P w k) c ∈ t.place.toList) → Q (.free (way t.mask (thash P w k) K) false) s) : wpAny (model P w) A (setSearch a (.ref x) (thash P w k) true) Q E s := by
  obtain ⟨h, eh⟩ : ∃ h, thash P w k = h := ⟨_, rfl⟩
  rw [eh] at no ⊢
  have room := R.free
  have md := R.tab.mask.odd
  obtain ⟨K, hKf, hK, hKb⟩ := R.tab.gap (by rw [List.length_map]; omega) h
  have small : 10 * SetTable.turns t.mask < 100000 := by unfold SetTable.turns; omega
  unfold setSearch
  refine find_from R hx hu eh hKf hK hKb yes (fun z => no K z hK hKb) 100000 0 none rfl (Nat.zero_le _) (by omega) fun i p hp e => ?_
  have len := R.tab.pl.len
  rw [List.length_map] at len
  obtain ⟨j, hj⟩ : ∃ j, t.place.toList[i]? = some j := ⟨_, List.getElem?_eq_getElem (by have := (List.getElem?_eq_some_iff.mp hp).1; omega)⟩
  have hz : (t.place.toList.zip (L.map fun p => thash P w p.2))[i]? = some (j, h) := by
    rw [List.getElem?_zip_eq_some]
    exact ⟨hj, by rw [List.getElem?_map, hp, ← eh, ← e]; rfl⟩
  obtain ⟨c, e1, e2⟩ := R.tab.pl.got _ (List.mem_of_getElem? hz)
  refine ⟨c, Nat.zero_le _, ?_, by rw [hj]; exact congrArg some e1.symm⟩
  rcases Nat.lt_trichotomy c K with z | z | z
  · exact z
  · exact absurd (by rw [← z]; have := List.mem_of_getElem? hj; rw [← show way t.mask h c = j from e1] at this; exact this) hK
  · exact absurd (e2 K z) hK
end
end Mine

namespace Mine
open PySem PySem.Spec PyProof.Rows L2
section
variable {P : Program} {w : World} {A : Around} {E : Value → Shared → Prop} {s : Shared} {a : Addr} {L : List (Addr × List Int)} {es : Array (Int × Value)} {ep : Nat} {t : SetTable}
/-- laid anew, four times as large -/
theorem relayG {o : Obj} (ho : s.heap.get? a = some o) (hex : o.ExactSet) (hd : o.data = .set es ep t) (hrows : es.toList = rowsOf P w L) (T0 : TabG t (L.map fun p => thash P w p.2)) (lt : L.length ≤ t.mask)
    (nd : (L.map (·.2)).Nodup) (tup : ∀ p ∈ L, IsT P w s.heap p.2 p.1) (pl : t.plain = true) (ld : w.params.followText "set-order" = true ∨ t.led = true) {wanted M : Nat}
    (hw : SetTable.sizeAbove wanted - 1 = M) (hM : MaskG M) (hn : L.length * 5 < M * 3) {Q : Unit → Shared → Prop}
    (hQ : ∀ h' L' es' ep' t', Heap.SameBut a s.heap h' → SetG P w h' a L' es' ep' t' → L'.Perm L → Q () { s with heap := h' }) : wpAny (model P w) A (setRelay a wanted) Q E s := by
  have sz : es.size = L.length := ents_len hrows
  have fit : t.fits es.size = true := fits_of T0 (by rw [sz, List.length_map]) (by omega)
  have md := hM.odd
  obtain ⟨t2, order, e, hp, T, em, el, epl⟩ := lay_new t (hs := es.map (·.1)) hw hM (by rw [Array.size_map]; omega)
  rw [Array.size_map, sz] at hp
  obtain ⟨L2, r1, r2, r3⟩ := order_rows L es order hrows hp
  rw [← r3] at T
  have len2 : L2.length = L.length := r2.length_eq
  have sz2 : (order.filterMap (es[·]?)).size = es.size := (ents_len r1).trans (len2.trans sz.symm)
  rw [setRelay_eq]
  refine wpAny_bind (wpAny_setState_of ho hd fit ?_)
  dsimp only
  refine wp_if_neg (by rw [sizeLine_eq]; omega) ?_
  try refine wpAny_bind (wpAny_pure ?_)
  rw [e]
  dsimp only
  refine wpAny_bind (wp_if_neg (by rw [sz2]; simp) ?_)
  try refine wpAny_bind (wpAny_pure ?_)
  refine wpAny_pure ?_
  dsimp only
  refine wpAny_storeSet_of ho hd ?_ (by rw [sz2, sizeLine_eq]; omega)
  have sb : Heap.SameBut a s.heap (s.heap.update a (Obj.putSet (order.filterMap (es[·]?)) t2)) := Heap.SameBut.update ..
  refine hQ _ L2 (order.filterMap (es[·]?)) (ep + 1) t2 sb ?_ r2
  constructor
  · exact ⟨_, store_at (es' := order.filterMap (es[·]?)) (t' := t2) ho hd, ⟨hex.1, hex.2.1, hex.2.2⟩, rfl⟩
  · exact r1
  · exact T
  · exact (r2.map (·.2)).nodup_iff.mpr nd
  · exact fun p hpm => isT_same (tup p (r2.mem_iff.mp hpm)) ho hd sb
  · rw [epl]; exact pl
  · rw [el]; exact ld
  · rw [len2, em]; exact hn
theorem sizes_up : SetTable.sizeAbove (SetTable.grown 5) = 32 ∧ SetTable.sizeAbove (SetTable.grown 19) = 128 ∧ SetTable.sizeAbove (SetTable.grown 77) = 512 ∧ SetTable.sizeAbove (SetTable.grown 307) = 2048 ∧ SetTable.sizeAbove (SetTable.grown 1229) = 8192 := by decide +kernel
/-- one more row -/
theorem addG (R : SetG P w s.heap a L es ep t) {x : Addr} {k : List Int} (hx : IsT P w s.heap k x) (hu : A.units < cLine) (hfew : L.length + 1 < 4000) {Q : Bool → Shared → Prop}
    (hQ : ∀ b h' L' es' ep' t', Heap.SameBut a s.heap h' → SetG P w h' a L' es' ep' t' → (k ∈ L.map (·.2) → L' = L) → (k ∉ L.map (·.2) → L'.Perm ((x, k) :: L)) → Q b { s with heap := h' }) :
    wpAny (model P w) A (setAddHashed a (.ref x) (thash P w k)) Q E s := by
  obtain ⟨o, ho, hex, hd⟩ := R.at_
  have sz := R.size
  have room := R.free
  have md := R.tab.mask.odd
  unfold setAddHashed
  refine wpAny_holding ?_
  rw [show (100000 : Nat) = 99999 + 1 from rfl, setAddHashedIn_succ]
  refine wpAny_bind (wpAny_setState_of ho hd R.fits ?_)
  dsimp only
  refine wp_if_neg (by simp [byScan, Value.scannable]) ?_
  try refine wpAny_bind (wpAny_pure ?_)
  refine wpAny_bind (find_it R hx hu (fun hm => ?_) fun K hm hK hb => ?_)
  · dsimp only
    exact wpAny_pure (hQ false s.heap L es ep t (Heap.SameBut.refl a s.heap) R (fun _ => rfl) fun z => absurd hm z)
  · dsimp only
    refine wpAny_bind (wpAny_setState_of ho hd R.fits ?_)
    dsimp only
    obtain ⟨j, ej⟩ : ∃ j, way t.mask (thash P w k) K = j := ⟨_, rfl⟩
    obtain ⟨t1, p, ept⟩ : ∃ t1 p, t.put (way t.mask (thash P w k) K) = (t1, p) := ⟨_, _, rfl⟩
    obtain ⟨pl, T1, em, el, epl, efl⟩ := R.tab.more hK hb ept
    rw [ept]
    dsimp only
    have by1 : t1.plain = true := epl.trans R.byv
    first
      | (refine wpAny_bind ?_; refine wp_if_pos by1 ?_; refine hashBy_tup hx ?_)
      | refine wp_if_pos by1 (wpAny_bind (hashBy_tup hx ?_))
    simp only [if_true]
    rw [List.length_map] at pl efl
    have rows1 : (SetTable.insertAt es p (thash P w k, Value.ref x)).toList = rowsOf P w (L.take p ++ (x, k) :: L.drop p) := by
      rw [SetTable.toList_insertAt, rows_put, R.ents]
    have pm := put_perm L p (x, k)
    have hashes : (L.take p ++ (x, k) :: L.drop p).map (fun p => thash P w p.2) = (L.map fun p => thash P w p.2).take p ++ thash P w k :: (L.map fun p => thash P w p.2).drop p := by
      simp only [List.map_append, List.map_cons, List.map_take, List.map_drop]
    rw [← hashes] at T1
    obtain ⟨L1, eL1⟩ : ∃ L1, L.take p ++ (x, k) :: L.drop p = L1 := ⟨_, rfl⟩
    obtain ⟨es1, ees⟩ : ∃ es1, SetTable.insertAt es p (thash P w k, Value.ref x) = es1 := ⟨_, rfl⟩
    rw [eL1] at rows1 pm T1
    rw [ees] at rows1 ⊢
    have len1 : L1.length = L.length + 1 := pm.length_eq
    have sz1 : es1.size = L.length + 1 := (ents_len rows1).trans len1
    have keys1 : (L1.map (·.2)).Nodup := (pm.map (·.2)).nodup_iff.mpr (List.nodup_cons.mpr ⟨hm, R.keys⟩)
    refine wpAny_bind (wpAny_storeSet_of ho hd ?_ (by rw [sz1, sizeLine_eq]; omega))
    have sb : Heap.SameBut a s.heap (s.heap.update a (Obj.putSet es1 t1)) := Heap.SameBut.update ..
    have at1 := store_at (es' := es1) (t' := t1) ho hd
    obtain ⟨h1, eh1⟩ : ∃ h1, s.heap.update a (Obj.putSet es1 t1) = h1 := ⟨_, rfl⟩
    rw [eh1] at sb at1 ⊢
    have tups1 : ∀ p ∈ L1, IsT P w h1 p.2 p.1 := fun p hp => by
      rcases List.mem_cons.mp (pm.mem_iff.mp hp) with e | hp
      · rw [e]; exact isT_same hx ho hd sb
      · exact isT_same (R.tups p hp) ho hd sb
    have ld1 : w.params.followText "set-order" = true ∨ t1.led = true := by rw [el]; exact R.ldg
    have fullIff : t1.tooFull = true ↔ t.mask * 3 ≤ (L.length + 1) * 5 := by
      unfold SetTable.tooFull
      rw [decide_eq_true_eq, efl, em]
    by_cases hf : t1.tooFull = true
    · first
        | (refine wpAny_bind ?_; refine wp_if_pos (by simp [hf]) ?_)
        | (refine wp_if_pos (by simp [hf]) ?_; refine wpAny_bind ?_)
      have full := fullIff.mp hf
      rw [sz]
      have go : ∀ M, SetTable.sizeAbove (SetTable.grown (L.length + 1)) - 1 = M → MaskG M → L.length + 1 ≤ t.mask → (L.length + 1) * 5 < M * 3 →
          wpAny (model P w) A (setRelay a (SetTable.grown (L.length + 1))) (fun _ s' => wpAny (model P w) A (pure true) Q E s') E { s with heap := h1 } := fun M a1 a2 a3 a4 => by
        refine relayG (s := { s with heap := h1 }) at1 ⟨hex.1, hex.2.1, hex.2.2⟩ rfl rows1 T1 (by rw [len1, em]; exact a3) keys1 tups1 by1 ld1 a1 a2 (by rw [len1]; exact a4) fun h2 L2 es2 ep2 t2 sb2 R2 pm2 => ?_
        exact wpAny_pure (hQ true h2 L2 es2 ep2 t2 (sb.trans sb2) R2 (fun z => absurd z hm) fun _ => pm2.trans pm)
      obtain ⟨u1, u2, u3, u4, u5⟩ := sizes_up
      have six := R.tab.mask.six
      have which : L.length + 1 = 5 ∨ L.length + 1 = 19 ∨ L.length + 1 = 77 ∨ L.length + 1 = 307 ∨ L.length + 1 = 1229 := by omega
      rcases which with e | e | e | e | e
      · exact go 31 (by rw [e, u1]) ⟨5, rfl, by omega⟩ (by omega) (by omega)
      · exact go 127 (by rw [e, u2]) ⟨7, rfl, by omega⟩ (by omega) (by omega)
      · exact go 511 (by rw [e, u3]) ⟨9, rfl, by omega⟩ (by omega) (by omega)
      · exact go 2047 (by rw [e, u4]) ⟨11, rfl, by omega⟩ (by omega) (by omega)
      · exact go 8191 (by rw [e, u5]) ⟨13, rfl, by omega⟩ (by omega) (by omega)
    · first
        | refine wp_if_neg (by simp [hf]) ?_
        | (refine wpAny_bind ?_; refine wp_if_neg (by simp [hf]) ?_; refine wpAny_pure ?_)
      refine wpAny_pure (hQ true h1 L1 es1 (ep + 1) t1 sb ?_ (fun z => absurd z hm) fun _ => pm)
      have : ¬ t.mask * 3 ≤ (L.length + 1) * 5 := fun z => hf (fullIff.mpr z)
      exact ⟨⟨_, at1, ⟨hex.1, hex.2.1, hex.2.2⟩, rfl⟩, rows1, T1, keys1, tups1, by1, ld1, by rw [len1, em]; omega⟩
end
end Mine

namespace Mine
open PySem PySem.Spec PyProof.Rows L2
def Few (n : Nat) (ws : List (List Int)) : Prop := ∀ us : List (List Int), us.Nodup → (∀ x ∈ us, x ∈ ws) → us.length < n
section
variable {P : Program} {w : World} {A : Around} {E : Value → Shared → Prop} {s : Shared}
abbrev Kept (h h' : Heap) : Prop := ∀ b o, h.get? b = some o → h'.get? b = some o
theorem setG_new {h : Heap} {a : Addr} (ho : h.get? a = some (mineSet0 w)) : SetG P w h a [] #[] 0 (.fresh 0 0 (!w.params.followText "set-order")) where
  at_ := ⟨_, ho, ⟨rfl, rfl, rfl⟩, rfl⟩
  ents := rfl
  tab := ⟨⟨3, rfl, .inl rfl⟩, rfl, List.Pairwise.nil, rfl, nofun, nofun⟩
  keys := List.nodup_nil
  tups := nofun
  byv := rfl
  ldg := by
    cases e : w.params.followText "set-order"
    · exact .inr rfl
    · exact .inl rfl
  free := by show 0 * 5 < 7 * 3; decide
end
end Mine

namespace Mine
open PySem PySem.Spec PyProof.Rows L2
/-! ### sorting rows, any number of them -/
abbrev encR (q : Addr × List Int) : PyData := .tuple (q.2.map .int)
theorem le_rows (p q : Addr × List Int) : PySem.W.dataLe false encR p q = decide (p.2 ≤ q.2) := by
  show (!PySem.W.dataLt (.tuple (q.2.map .int)) (.tuple (p.2.map .int))) = _
  rw [PySem.W.dataLt_tuple]
  show (!PySem.W.rowLt (q.2.map .int) (p.2.map .int)) = _
  rw [PySem.W.dataLt_ints]
  by_cases h : q.2 < p.2
  · have : ¬ p.2 ≤ q.2 := fun r => List.not_lt.mpr r h
    simp [h, this]
  · have : p.2 ≤ q.2 := List.not_lt.mp h
    simp [h, this]
theorem rows_sorted (L : List (Addr × List Int)) : (L.mergeSort (PySem.W.dataLe false encR)).Perm L ∧ (L.mergeSort (PySem.W.dataLe false encR)).Pairwise fun p q => p.2 ≤ q.2 := by
  refine ⟨List.mergeSort_perm _ _, List.Pairwise.imp (fun {p q} h => ?_) (List.pairwise_mergeSort (le := PySem.W.dataLe false encR) (fun a b c h1 h2 => ?_) (fun a b => ?_) L)⟩
  · rw [le_rows] at h; exact of_decide_eq_true h
  · rw [le_rows] at h1 h2 ⊢
    exact decide_eq_true (List.le_trans (of_decide_eq_true h1) (of_decide_eq_true h2))
  · rw [le_rows, le_rows, Bool.or_eq_true]
    rcases List.le_total a.2 b.2 with h | h
    · exact .inl (decide_eq_true h)
    · exact .inr (decide_eq_true h)
theorem each_refs {h : Heap} : ∀ {out : List Value} {L : List (Addr × List Int)}, PySem.W.EachIs (fun (v : Value) (q : Addr × List Int) => v = .ref q.1) out L → out = L.map fun q => Value.ref q.1
  | _, _, .nil => rfl
  | _, _, .cons e r => by rw [List.map_cons, ← e, ← each_refs (h := h) r]
theorem refs_each {R : Value → Addr × List Int → Prop} : ∀ {L : List (Addr × List Int)}, (∀ q ∈ L, R (.ref q.1) q) → PySem.W.EachIs R (L.map fun q => Value.ref q.1) L
  | [], _ => .nil
  | q :: L, h => .cons (h q List.mem_cons_self) (refs_each fun r hr => h r (List.mem_cons_of_mem _ hr))
theorem ints_read {h : Heap} : ∀ {vs : List Value} {k : List Int}, IntsAre vs k → ReadsAll h vs (k.map .int) []
  | _, _, .nil => .nil
  | _, _, .cons n t r => .cons (as := []) (.int n t) (ints_read r)
theorem tup_reads {h : Heap} {b : Addr} {k : List Int} (x : TS.TupInts h (.ref b) k) : Reads h (.ref b) (.tuple (k.map .int)) [] := by
  obtain ⟨a, items, e, ⟨o, ho, hc, n, hd⟩, hi⟩ := x
  cases e
  exact .tuple ho hc hd (ints_read hi)
theorem rows_alike (L : List (Addr × List Int)) : PySem.W.AllAlike (L.map encR) := PySem.W.AllAlike.of fun b b' => by
  show PySem.W.alike (.tuple _) (.tuple _) = true
  rw [PySem.W.alike]; exact PySem.W.alike_ints _ _
theorem rows_sortable {L : List (Addr × List Int)} (h : ∀ q ∈ L, q.2 ≠ []) : PySem.W.Sortable (L.map encR) := .inl fun d hd => by
  obtain ⟨q, hq, rfl⟩ := List.mem_map.mp hd
  cases e : q.2 with
  | nil => exact absurd e (h q hq)
  | cons x r => exact ⟨.int x, r.map .int, by show PyData.tuple (q.2.map .int) = _; rw [e]; rfl⟩
theorem row_depth (q : Addr × List Int) : (encR q).depth ≤ 1 := by
  show PyData.depth (.tuple _) ≤ 1
  rw [PyData.depth, PySem.W.depth_ints]; exact Nat.le_refl _
/-- a row of images is the image of a row -/
theorem perm_lift {α β : Type} {f : α → β} : ∀ {L : List α} {vs : List β}, vs.Perm (L.map f) → ∃ L1 : List α, vs = L1.map f ∧ L1.Perm L
  | [], vs, h => ⟨[], h.eq_nil, .refl _⟩
  | x :: L, vs, h => by
    obtain ⟨a, b, rfl⟩ := List.append_of_mem (h.mem_iff.mpr (List.mem_map.mpr ⟨x, List.mem_cons_self, rfl⟩))
    obtain ⟨L1, e, p⟩ := perm_lift (List.Perm.cons_inv (List.perm_middle.symm.trans h))
    obtain ⟨A, B, rfl, e1, e2⟩ := List.map_eq_append_iff.mp e.symm
    exact ⟨A ++ x :: B, by rw [List.map_append, List.map_cons, e1, e2], List.perm_middle.trans (p.cons x)⟩
section
variable {P : Program} {w : World} {A : Around} {E : Value → Shared → Prop} {s : Shared}
theorem sorted_rows {a : Addr} {L : List (Addr × List Int)} {es : Array (Int × Value)} {ep : Nat} {t : SetTable} {Q : Value → Shared → Prop} (R : SetG P w s.heap a L es ep t) (hh : A.handled = none) (hu : A.units + 64 < cLine) (few : L.length < 4000)
    (kind : (∀ q ∈ L, q.2 ≠ []) ∨ L.length ≤ 1) (hQ : ∀ s' p (out : Array Value) (c : Nat) (L' : List (Addr × List Int)), Kept s.heap s'.heap → s'.gens = s.gens → s'.os = s.os → s.heap.objs.size ≤ p →
      s'.heap.get? p = some (seqObj "list" out c) → out.toList = L'.map (fun q => Value.ref q.1) → L'.Perm L → L'.Pairwise (fun q r => q.2 ≤ r.2) → Q (.ref p) s') : wpAny (model P w) A (call (.builtin "sorted") [.ref a]) Q E s := by
  obtain ⟨o, ho, hex, hd⟩ := R.at_
  have sz := R.size
  refine Calls.call_function_entry kind_sorted plain_sorted entry_sorted (args_sorted1 _) ?_
  unfold Builtin.«sorted»
  refine wpAny_bind (m := checkCount "sorted" 1 1 _) (wpAny_pure (wpAny_bind (collect_set (A := A.in1) hh ⟨o, ho, hex.1, hd⟩ R.fits (by unfold scanBound; omega) R.tab.pl.asc R.ldg fun s1 vs k1 hz g1 o1 pm => ?_)))
  rw [show es.toList.map (·.2) = L.map (fun q => Value.ref q.1) by rw [R.ents]; unfold rowsOf; rw [List.map_map]; rfl] at pm
  obtain ⟨L1, rfl, p1⟩ := perm_lift pm
  have len1 := p1.length_eq
  refine wpAny_bind (wpAny_newList ?_ (by rw [sizeLine_eq, List.length_map]; omega))
  have at1 : (s1.heap.push (seqObj "list" (L1.map fun q => Value.ref q.1).toArray 0)).get? s1.heap.objs.size = some (seqObj "list" (L1.map fun q => Value.ref q.1).toArray 0) := Heap.get?_push_size _ rfl
  have keep : ∀ out, Kept s.heap (sortedHeap (s1.heap.push (seqObj "list" (L1.map fun q => Value.ref q.1).toArray 0)) s1.heap.objs.size (L1.map fun q => Value.ref q.1) out) := fun out b u e => by
    have q := k1 b u e
    exact (sortedHeap_old (Nat.ne_of_lt (Heap.lt_size q)) (by rw [size_push']; exact Nat.lt_succ_of_lt (Heap.lt_size q))).trans (Heap.get?_push_of_some _ q)
  rcases kind with kind | kind
  · have rd : PySem.W.EachIs (fun v b => ∃ as, Reads (s1.heap.push (seqObj "list" (L1.map fun q => Value.ref q.1).toArray 0)) v (encR b) as ∧ s1.heap.objs.size ∉ as) (L1.map fun q => Value.ref q.1) L1 := refs_each fun q hq =>
      ⟨[], tup_reads (tupInts_of (P := P) (w := w) (isT_keep (R.tups q (p1.mem_iff.mp hq)) fun b u e => Heap.get?_push_of_some _ (k1 b u e))), List.not_mem_nil⟩
    refine wpAny_bind (wpAny_holding (PySem.W.list_sort_data (s := { s1 with heap := s1.heap.push (seqObj "list" (L1.map fun q => Value.ref q.1).toArray 0) }) (R := fun (v : Value) (q : Addr × List Int) => v = .ref q.1) at1 (refs_each fun q _ => rfl) rd (rows_alike L1) (rows_sortable fun q hq => kind q (p1.mem_iff.mp hq)) (by rw [sizeLine_eq]; omega)
      (fun b _ => by have := row_depth b; show A.units + 1 + 1 + _ < _; omega) fun out len each => ?_))
    obtain ⟨c, hc⟩ := sortedHeap_at (vs := L1.map fun q => Value.ref q.1) (out := List.toArray out) at1
    obtain ⟨p2, pw⟩ := rows_sorted L1
    exact wpAny_pure ⟨_, rfl, hQ _ s1.heap.objs.size (List.toArray out) c (L1.mergeSort (PySem.W.dataLe false encR)) (keep _) g1 o1 hz hc (each_refs (h := s.heap) each) (p2.trans p1) pw⟩
  · have l1 : (L1.map fun q => Value.ref q.1).length ≤ 1 := by rw [List.length_map]; omega
    refine wpAny_bind (wpAny_holding (wpAny_call_entry (s := { s1 with heap := s1.heap.push (seqObj "list" (L1.map fun q => Value.ref q.1).toArray 0) }) slot_list_sort ⟨_, at1, rfl⟩ entry_list_sort
      (SK.plain_sort (r := fun _ => 0) at1 (by omega) (fun h2 => absurd h2 (by omega)) fun ps out e1 pp _ => ⟨_, rfl, ?_⟩) (args_list_sort _)))
    have eo : out.toList.Perm (L1.map fun q => Value.ref q.1) := by
      rw [e1]
      have z := pp.map Prod.snd
      rwa [List.map_snd_zip (Nat.le_refl _)] at z
    obtain ⟨L2, e2, p2⟩ := perm_lift eo
    obtain ⟨c, hc⟩ := sortedHeap_at (vs := L1.map fun q => Value.ref q.1) (out := out) at1
    refine wpAny_pure ⟨_, rfl, hQ _ s1.heap.objs.size out c L2 (keep _) g1 o1 hz hc e2 (p2.trans p1) ?_⟩
    have := (p2.trans p1).length_eq
    match L2, (show L2.length ≤ 1 by omega) with
    | [], _ => exact .nil
    | [x], _ => exact List.pairwise_singleton _ _
    | _ :: _ :: _, f => exact absurd f (by simp)
end
end Mine

namespace Mine
open PySem PySem.Spec PyProof.Rows L2
/-! ### set(xs), sorted(set(xs)), sorted(xs) of tuples of whole numbers, any number of them -/
/-- the set, without the tuples themselves -/
def SetG0 (P : Program) (w : World) (h : Heap) (a : Addr) (L : List (Addr × List Int)) : Prop := ∃ (es : Array (Int × Value)) (ep : Nat) (t : SetTable), (∃ o, h.get? a = some o ∧ o.ExactSet ∧ o.data = .set es ep t) ∧
  (es.toList = rowsOf P w L ∧ TabG t (L.map fun p => thash P w p.2) ∧ (L.map (·.2)).Nodup ∧ t.plain = true ∧ (w.params.followText "set-order" = true ∨ t.led = true) ∧ L.length * 5 < t.mask * 3)
def SetGO (P : Program) (w : World) (a : Addr) (L : List (Addr × List Int)) : HO := .ext fun h => SetG0 P w h a L
theorem SetG.g0 {P : Program} {w : World} {h : Heap} {a : Addr} {L : List (Addr × List Int)} {es : Array (Int × Value)} {ep : Nat} {t : SetTable} (R : SetG P w h a L es ep t) : SetG0 P w h a L :=
  ⟨es, ep, t, R.at_, R.ents, R.tab, R.keys, R.byv, R.ldg, R.free⟩
theorem SetG0.all {P : Program} {w : World} {h : Heap} {a : Addr} {L : List (Addr × List Int)} (R : SetG0 P w h a L) (tup : ∀ p ∈ L, IsT P w h p.2 p.1) : ∃ es ep t, SetG P w h a L es ep t := by
  obtain ⟨es, ep, t, q0, q1, q2, q3, q4, q5, q6⟩ := R
  exact ⟨es, ep, t, q0, q1, q2, q3, tup, q4, q5, q6⟩
theorem setGO_new {P : Program} {w : World} {H : Hp} {h : Heap} {a : Addr} {L : List (Addr × List Int)} (R : SetG0 P w h a L) : ObjOk P w H h a (SetGO P w a L) := by
  obtain ⟨es, ep, t, ⟨o, ho, r⟩, q⟩ := id R
  refine ⟨R, ⟨o, ho⟩, fun h1 h2 z k => ?_⟩
  obtain ⟨es', ep', t', ⟨o', ho', r'⟩, q'⟩ := (show SetG0 P w _ a L from z)
  exact (show SetG0 P w _ a L from ⟨es', ep', t', ⟨o', k o' ho', r'⟩, q'⟩)
section
variable {X : Cx}
def rSortedSG (K : PySem.W.Frag) (P : Program) (w : World) : List V → Hp → VK → Prop := fun vs H Q => ∃ (a : Addr) (L : List (Addr × List Int)), vs = [V.ref a] ∧ H a = some (SetGO P w a L) ∧ (∀ p ∈ L, SqT K H p.1 (p.2.map V.int)) ∧ L.length < 4000 ∧ ((∀ q ∈ L, q.2 ≠ []) ∨ L.length ≤ 1) ∧
  ∀ (L' : List (Addr × List Int)) (p : Addr), L'.Perm L → L'.Pairwise (fun q r => q.2 ≤ r.2) → H p = none → Q (.ref p) (upd H p (.lst (L'.map fun q => V.ref q.1)))
theorem cr_sortedSG (hc : X.calm = true) (hu : X.A.units + 64 < cLine) : CallR X (.builtin "sorted") (rSortedSG X.K X.prog X.w) := by
  intro pins s σ H vs us Q I r h
  obtain ⟨a, L, rfl, ha, hk, few, kind, q⟩ := h
  rw [Vals.ref1 r]
  obtain ⟨es, ep, t, R⟩ := SetG0.all (show SetG0 X.prog X.w s.heap a L from (I.hok a _ ha).1) fun p hp => I.isT (hk p hp)
  refine sorted_rows R (I.ok.hd hc) hu few kind fun s' p out c L' k g o hp hg hout pm pw => ?_
  have hn : H p = none := I.hok.fresh hp
  have len : (L'.map fun q => V.ref q.1).length ≤ sizeLine := by rw [List.length_map, pm.length_eq, sizeLine_eq]; omega
  have J : Inv X pins σ (upd H p (.lst (L'.map fun q => V.ref q.1))) { s with heap := s'.heap, gens := s'.gens, drawn := s'.drawn, toks := s'.toks } :=
    I.call (ch := []) (Un.laid k hp hn) (I.hok.laid k hp ⟨len, out.toList, c, by rw [hout]; exact vals_of_refs L', hg⟩) (by rw [g]; exact I.bare) nofun
  obtain ⟨h9, g9, d9, t9, o9⟩ := s'
  obtain rfl : o9 = s.os := o
  exact ⟨.ref p, _, J, rfl, q L' p pm pw hn⟩
def rSortedTG (K : PySem.W.Frag) : List V → Hp → VK → Prop := fun vs H Q => ∃ (a : Addr) (ks : List (Addr × List Int)), vs = [V.ref a] ∧ SqL K H a (ks.map fun q => V.ref q.1) ∧ (∀ p ∈ ks, SqT K H p.1 (p.2.map V.int)) ∧ (∀ p ∈ ks, p.2 ≠ []) ∧
  ∀ (L' : List (Addr × List Int)) (p : Addr), L'.Perm ks → L'.Pairwise (fun q r => q.2 ≤ r.2) → H p = none → Q (.ref p) (upd H p (.lst (L'.map fun q => V.ref q.1)))
theorem cr_sortedTG (hu : X.A.units + 64 < cLine) : CallR X (.builtin "sorted") (rSortedTG X.K) := by
  intro pins s σ H vs us Q I r h
  obtain ⟨a, ks, rfl, ha, hk, ne, q⟩ := h
  obtain ⟨its, rv, hl, hz⟩ := I.list ha
  rw [Vals.ref1 r]
  obtain rfl := refs_of_vals rv
  rw [List.length_map] at hz
  refine PySem.W.sorted_data (R := fun (v : Value) (q : Addr × List Int) => v = .ref q.1) (bs := ks) (enc := encR) hl.isList (refs_each fun q _ => rfl) (refs_each fun q hq => ⟨[], tup_reads (tupInts_of (P := X.prog) (w := X.w) (I.isT (hk q hq)))⟩) (rows_alike ks) (rows_sortable ne) hz
    (fun b _ => by have := row_depth b; omega) fun out len each => ?_
  obtain ⟨p2, pw⟩ := rows_sorted ks
  have eo := each_refs (h := s.heap) each
  subst eo
  obtain ⟨ep, at_⟩ := PyProof.Rows.sortedAll_at s.heap (ks.map fun q => Value.ref q.1) ((ks.mergeSort (PySem.W.dataLe false encR)).map fun q => Value.ref q.1).toArray
  exact ⟨.ref (s.heap.objs.size + 1), upd H (s.heap.objs.size + 1) (.lst ((ks.mergeSort (PySem.W.dataLe false encR)).map fun q => V.ref q.1)), I.laid (t' := s.toks) (fun _ _ => PyProof.Rows.sortedAll_old) (Nat.le_succ _) ⟨by rw [List.length_map, p2.length_eq]; exact hz, _, ep, vals_of_refs _, at_⟩, rfl, q _ _ p2 pw (I.hok.fresh (Nat.le_succ _))⟩
end
/-! over data -/
abbrev rowsD (ws : List (List Int)) : Dt := .lst (ws.map fun w => Dt.tup (w.map .int))
/-- rows of one kind: none is empty, or all are -/
def Plain (ws : List (List Int)) : Prop := (∀ x ∈ ws, x ≠ []) ∨ ∀ x ∈ ws, x = []
def eSortedSetG (a : DX) : DX := fun env Q E => a env (fun d => ∃ ws : List (List Int), d = rowsD ws ∧ Few 3999 ws ∧ Plain ws ∧ ∀ us : List (List Int), us.Pairwise (· < ·) → (∀ x, x ∈ us ↔ x ∈ ws) → Q (rowsD us)) E
theorem eSortedSetG_W (a : DX) {env} {Q} {E} : eSortedSetG a env Q E = a env (fun d => ∃ ws : List (List Int), d = rowsD ws ∧ Few 3999 ws ∧ Plain ws ∧ ∀ us : List (List Int), us.Pairwise (· < ·) → (∀ x, x ∈ us ↔ x ∈ ws) → Q (rowsD us)) E := rfl
theorem strict_rows {us : List (List Int)} (h : us.Pairwise (· ≤ ·)) (n : us.Nodup) : us.Pairwise (· < ·) := (h.and n).imp fun {x y} q => Std.lt_of_le_of_ne q.1 q.2
theorem few_one {us : List (List Int)} (n : us.Nodup) (h : ∀ x ∈ us, x = []) : us.length ≤ 1 := by
  match us, n, h with
  | [], _, _ => exact Nat.zero_le _
  | [_], _, _ => exact Nat.le_refl _
  | x :: y :: _, n, h =>
    have e1 := h x (by simp)
    have e2 := h y (by simp)
    exact absurd (e1.trans e2.symm) fun e => (List.nodup_cons.mp n).1 (e ▸ List.mem_cons_self)
def dSortedTG : DL := fun ds Q => match ds with
  | [.lst xs] => ∃ ws : List (List Int), Dt.lst xs = rowsD ws ∧ (∀ x ∈ ws, x ≠ []) ∧ ∀ us : List (List Int), us.Perm ws → us.Pairwise (· ≤ ·) → Q (rowsD us)
  | _ => False
theorem cg_sortedTG {C : Bc} : CallG Fsh C (rSortedTG C.K) dSortedTG := by
  intro X env σ H vs ds Q Qd rp ra he q
  unfold dSortedTG at he
  split at he
  · obtain ⟨v, rfl, r1⟩ := ra.one
    obtain ⟨ws, e0, ne, he⟩ := he
    injection e0 with e0
    subst e0
    obtain ⟨p, L, rfl, h1, e, hL⟩ := r1.rows
    refine ⟨p, L, rfl, .inl (.inl h1), fun k hk => .inl (.inl (vis_sub _ _ (hL k hk))), fun k hk => ne _ (e ▸ List.mem_map.mpr ⟨k, hk, rfl⟩), fun L' p' pm pw hp => ?_⟩
    exact q _ _ _ (.upd hp) (fsh_rows rp hp (.refl H) hL fun k hk => pm.mem_iff.mp hk) (he _ (by rw [← e]; exact pm.map (·.2)) (List.pairwise_map.mpr pw))
  · exact he.elim
def rSortedV (K : PySem.W.Frag) : List V → Hp → VK → Prop := fun xs H Q => rSortedI K xs H Q ∨ rSortedTG K xs H Q
theorem call_sortedV {X : Cx} {K : PySem.W.Frag} (e : X.K = K) (hu : X.A.units + 64 < cLine) : CallR X (.builtin "sorted") (rSortedV K) := e ▸ cr_sortedI.or (cr_sortedTG hu)
def dSortedV : DL := fun ds Q => dSortedI ds Q ∨ dSortedTG ds Q
theorem cg_sortedV {C : Bc} : CallG Fsh C (rSortedV C.K) dSortedV := by
  intro X env σ H vs ds Q Qd rp ra he q
  rcases he with he | he
  · exact .inl (cg_sortedI X env σ H vs ds Q Qd rp ra he q)
  · exact .inr (cg_sortedTG X env σ H vs ds Q Qd rp ra he q)
end Mine

namespace Mine
open PySem PySem.Spec PyProof.Rows L2 PpSet
/-! ### a set comprehension whose items are tuples of whole numbers -/
section
variable {P : Program} {w : World} {A : Around} {E : Value → Shared → Prop} {s : Shared} {a : Addr} {L : List (Addr × List Int)} {es : Array (Int × Value)} {ep : Nat} {t : SetTable}
theorem set_add_rows {x : Addr} {k : List Int} {Q : Value → Shared → Prop} (R : SetG P w s.heap a L es ep t) (hx : IsT P w s.heap k x) (hu : A.units + 3 < cLine) (hfew : L.length + 1 < 4000)
    (hQ : ∀ h' tk L' es' ep' t', Heap.SameBut a s.heap h' → SetG P w h' a L' es' ep' t' → (k ∈ L.map (·.2) → L' = L) → (k ∉ L.map (·.2) → L'.Perm ((x, k) :: L)) → Q .none { s with heap := h', toks := tk }) :
    wpAny (model P w) A (call (.builtin "set.add") [.ref a, .ref x]) Q E s := by
  have hT : s.TypeIs (.ref a) "set" := by
    obtain ⟨o, ho, hex, _⟩ := R.at_
    exact ⟨o, ho, hex.1⟩
  refine wpAny_call_entry F.slot_set_add hT F.entry_set_add ?_ (F.args_set_add_2 _ _)
  unfold Builtin.«set.add» Builtin.Frozenset.oneOther
  simp only [List.isEmpty_nil, bind_assoc]
  unfold Builtin.Frozenset.addrOf setAdd
  refine wpAny_bind (wpAny_pure ?_)
  try dsimp only
  refine wpAny_bind (wpAny_pure ?_)
  try dsimp only
  refine wpAny_bind ?_
  refine wpAny_holding ?_
  refine wpAny_bind (wpAny_pyHash_tuple ?_ hx ?_)
  · rw [Around.in1_units]; omega
  refine addG (s := { s with toks := s.toks + (k.length + 1) }) R hx ?_ hfew fun b h' L' es' ep' t' hsb hS c1 c2 => ?_
  · rw [Around.in1_units]; omega
  show wpAny _ _ (ret Value.none) _ _ _
  exact wpAny_pure ⟨_, rfl, hQ h' _ L' es' ep' t' hsb hS c1 c2⟩
end
section
variable {X : Cx}
/-- set.add of a tuple, as tracked things -/
theorem addG_ok {pins : List (Addr × Obj)} {σ : L2.St} {H : Hp} {s : Shared} {E : Value → Shared → Prop} {D x : Addr} {k : List Int} {L : List (Addr × List Int)} {Q : Value → Shared → Prop} (I : Inv X pins σ H s) (hD : H D = some (SetGO X.prog X.w D L)) (hu : X.A.units + 3 < cLine)
    (hL : ∀ p ∈ L, SqT X.K H p.1 (p.2.map V.int)) (hx : SqT X.K H x (k.map V.int)) (hfew : L.length + 1 < 4000)
    (h : ∀ L' s', (k ∈ L.map (·.2) → L' = L) → (k ∉ L.map (·.2) → L'.Perm ((x, k) :: L)) → Inv X pins σ (upd H D (SetGO X.prog X.w D L')) s' → Q .none s') : wpAny (model X.prog X.w) X.A (call (.builtin "set.add") [.ref D, .ref x]) Q E s := by
  have R0 : SetG0 X.prog X.w s.heap D L := (show SetG0 X.prog X.w s.heap D L from (I.hok D _ hD).1)
  obtain ⟨es, ep, t, R⟩ := SetG0.all R0 fun p hp => I.isT (hL p hp)
  refine set_add_rows R (I.isT hx) hu hfew fun h' tk L' es' ep' t' sb R' c1 c2 => ?_
  have he : ∃ u, h'.get? D = some u := by
    obtain ⟨o, ho, _⟩ := R'.at_
    exact ⟨o, ho⟩
  exact h L' _ c1 c2 (I.write (e := D) (t' := tk) (by rw [hD]; trivial) (.inl rfl) (fun b u hb hu => (sb.2 b hb).trans hu) he (setGO_new R'.g0))
/-- {elt for target in iter if ..}, elt a tuple of whole numbers: D the new set, L what it holds -/
def tScG (K : PySem.W.Frag) (P : Program) (w : World) (wi : TI) (g : TG) (tt : TT) (te : TE) (vs : List Nat) : TE := fun σ H Q => wi σ H fun J H1 => ∀ D, H1 D = none → ∃ W : Nat → Nat → Hp → Prop, (∃ m, W 0 m (upd H1 D (SetGO P w D []))) ∧ ∀ i m H, W i m H →
  (J.stop i H ∧ Q (.ref D) H) ∨ (J.go i H ∧ ∃ Nx : Hp → Prop, (∀ H', Nx H' → ∃ m', m' < m ∧ W (i + 1) m' H') ∧ ∀ x H', J.yld i H x H' → g x (wipe σ vs) H' fun σ2 H2 => wipe σ2 vs = wipe σ vs ∧ tt σ2 H2 fun b H3 =>
    if b = true then te σ2 H3 fun y H4 => ∃ (p : Addr) (k : List Int) (L : List (Addr × List Int)), y = .ref p ∧ SqT K H4 p (k.map V.int) ∧ H4 D = some (SetGO P w D L) ∧ (∀ q ∈ L, SqT K H4 q.1 (q.2.map V.int)) ∧ L.length + 1 < 4000 ∧
      ∀ L', (k ∈ L.map (·.2) → L' = L) → (k ∉ L.map (·.2) → L'.Perm ((p, k) :: L)) → Nx (upd H4 D (SetGO P w D L')) else Nx H3)
theorem pe_scG {elt tg iter : Expr} {ifs : List Expr} {scope : Scope} {own : List (PySem.Str × Nat)} {pos : Pos} {wi : TI} {g : TG} {tt : TT} {te : TE} (hc : X.calm = true) (hu : X.A.units + 64 < cLine) (hN : X.N.Nodup) (hi : PI X tg iter wi) (ok : BlkOk X.N X.env.scope scope own)
    (hg : ∀ (s : Shared) (H : Hp) (C : Addr) (cl : List (PySem.Str × Addr)) (fp : List Addr), PG (X.blk s H scope (compEnvC scope cl C X.env) fp) tg g) (ht : ∀ (s : Shared) (H : Hp) (C : Addr) (cl : List (PySem.Str × Addr)) (fp : List Addr), PTs (X.blk s H scope (compEnvC scope cl C X.env) fp) ifs tt)
    (he : ∀ (s : Shared) (H : Hp) (C : Addr) (cl : List (PySem.Str × Addr)) (fp : List Addr), PE (X.blk s H scope (compEnvC scope cl C X.env) fp) elt te) (hs : ∀ x, foldedSetIterable iter X.env x = pure x := by intro _; rfl) :
    PE X (.SetComp elt [⟨tg, iter, ifs, 0⟩] scope pos) (tScG X.K X.prog X.w wi g tt te (own.map (·.2))) := by
  refine ⟨fun pins s σ H Q I h => ?_⟩
  rw [eval_SetComp]
  have cells : ∀ y ∈ scope.names, y.2 = .free → ∃ c, X.env.cells.lookup y.1 = some c := fun y hy e => (ok.free y hy e).elim (fun k => I.ok.has _ (.inl k)) fun k => I.ok.has _ (.inr k)
  refine wpAny_comprehension_free (use := none) rfl hs (closure_ok cells) ok.kind (fun y hy e => by rw [ok.uniq y hy, e]) (thn (hi.run pins s σ H _ I h) fun xv s1 hx => thn hx fun itv s2 h2 => ?_)
  obtain ⟨it, fp, tn, J, H2, rfl, I2, T, st2, f2, q⟩ := h2
  refine newSet_ok (newEnv_comp ?_)
  generalize hD : s2.heap.objs.size = D
  obtain ⟨W, ⟨m0, w0⟩, turn⟩ := q D (I2.hok.fresh (Nat.le_of_eq hD))
  generalize hs3 : ({ s2 with heap := s2.heap.push { cls := .type "set", dict := none, data := .set #[] 0 (.fresh 0 0 (!X.w.params.followText "set-order")) } } : Shared) = s3
  have e3 : s3.heap = s2.heap.push { cls := .type "set", dict := none, data := .set #[] 0 (.fresh 0 0 (!X.w.params.followText "set-order")) } := by rw [← hs3]
  have keep3 : ∀ b o, s2.heap.get? b = some o → s3.heap.get? b = some o := fun b o e => by rw [e3]; exact Heap.get?_push_of_some _ e
  have I3 : Inv X pins σ (upd H2 D (SetGO X.prog X.w D [])) s3 := by
    rw [← hs3]
    refine I2.laid (t' := s2.toks) (fun b o e => Heap.get?_push_of_some _ e) (Nat.le_of_eq hD) (setGO_new (SetG.g0 (setG_new ?_)))
    rw [← hD]
    exact Heap.get?_push_size _ rfl
  have low : ∀ b ∈ fp, b < s2.heap.objs.size := fun b hb => Heap.lt_size (T.obj _ _ st2 b hb).choose_spec.1
  have f3 : ∀ b ∈ fp, FpOk X pins (upd H2 D (SetGO X.prog X.w D [])) b ∧ b < s3.heap.objs.size := fun b hb =>
    ⟨⟨by rw [upd_ne (by rw [← hD]; exact Nat.ne_of_lt (low b hb))]; exact (f2 b hb).1, (f2 b hb).2⟩, by rw [e3, Heap.size_push]; exact Nat.lt_succ_of_lt (low b hb)⟩
  have I4 := block_start I3 ok hN f3
  generalize hH3 : upd H2 D (SetGO X.prog X.w D []) = H3 at I3 I4 w0 f3
  have pg := hg s3 H3 s3.heap.objs.size (cellsFrom (s3.heap.objs.size + 1) scope.names (cloFrom X.env.cells scope.names [])) fp
  have pt := ht s3 H3 s3.heap.objs.size (cellsFrom (s3.heap.objs.size + 1) scope.names (cloFrom X.env.cells scope.names [])) fp
  have pe := he s3 H3 s3.heap.objs.size (cellsFrom (s3.heap.objs.size + 1) scope.names (cloFrom X.env.cells scope.names [])) fp
  show codeAny _ _ (.compStart (.SetComp elt [⟨tg, iter, ifs, 0⟩] scope pos) 0 (.ref it) (.ref D) (compEnvC scope (cellsFrom (s3.heap.objs.size + 1) scope.names (cloFrom X.env.cells scope.names [])) s3.heap.objs.size X.env)) _ { s3 with heap := pushCells (s3.heap.push { cls := .type "dict", data := .dict #[] }) scope.names }
  generalize hce : compEnvC scope (cellsFrom (s3.heap.objs.size + 1) scope.names (cloFrom X.env.cells scope.names [])) s3.heap.objs.size X.env = ce at I4 pg pt pe ⊢
  have cL : ce.locals = s3.heap.objs.size := by subst hce; rfl
  generalize hs4 : ({ s3 with heap := pushCells (s3.heap.push { cls := .type "dict", data := .dict #[] }) scope.names } : Shared) = s4 at I4 ⊢
  have st4 : tn 0 s4.heap := T.keep _ _ _ st2 fun b _ o e => by rw [← hs4]; exact pushCells_keeps _ _ _ _ (Heap.get?_push_of_some _ (keep3 b o e))
  have stands : ∀ {σ' : L2.St} {H' : Hp} {s' : Shared}, Inv (X.blk s3 H3 scope ce fp) [] σ' H' s' → (∀ b ∈ fp, H' b = none) → ∀ b ∈ fp, FpOk (X.blk s3 H3 scope ce fp) [] H' b := fun {σ' H' s'} I' hn b hb =>
    ⟨hn b hb, (I'.ok.exf b hb).1, I'.ok.exfs b hb, .inl hb, fun x c e => (I'.ok.exf b hb).2 x c e, fun p hp => absurd (show p ∈ ([] : List (Addr × Obj)) ++ [] from hp) (by simp)⟩
  refine (fun loop => codeAny_compStart_set loop (T.self X.A 0 _ _ _ st4 loop)) ?_
  refine compLoopS_any (fun n s' => ∃ i H', Inv (X.blk s3 H3 scope ce fp) [] (wipe σ (own.map (·.2))) H' s' ∧ tn i s'.heap ∧ (∀ b ∈ fp, H' b = none) ∧ W i n H') ?_ m0 ⟨0, H3, I4, st4, fun b hb => (f3 b hb).1.1, w0⟩
  rintro n s5 ⟨i, H5, I5, st5, n5, w5⟩
  rcases turn i n H5 w5 with ⟨stop, qq⟩ | ⟨go, Nx, hNx, step⟩
  · refine thnF (T.done (X.blk s3 H3 scope ce fp) rfl rfl rfl hc i [] s5 _ H5 (fun _ _ => False) I5 (stands I5 n5) st5 stop) fun r s6 ⟨hr, I6⟩ => ?_
    subst hr
    have I7 : Inv X pins σ H5 s6 := I3.call' (ch := fp) I6.os I6.base I6.hok I6.bare fun b hb => ⟨(f3 b hb).1.2.2.2.1, (f3 b hb).1.2.1, (f3 b hb).1.2.2.2.2.1, (f3 b hb).1.2.2.2.2.2⟩
    have nC : H5 s3.heap.objs.size = none := by
      have z : H5 ce.locals = none := I6.free
      rwa [cL] at z
    obtain ⟨m, hn, _⟩ := I6.loc
    have hn : s6.heap.Ns ce.locals m := hn
    rw [cL] at hn
    obtain ⟨g0, g1, g2, g3, g4, g5⟩ := I3.fpOk (Nat.le_refl _) nC
    exact ⟨m, hn, fun h'' sb => ⟨.ref D, H5, I7.turned (t' := s6.toks) (fun b o hb e => (sb.2 b hb).trans e) g0 g1 g3 g4 g5, rfl, qq⟩⟩
  · refine thnF (T.item (X.blk s3 H3 scope ce fp) rfl rfl rfl hc i [] s5 _ H5 (fun _ _ => False) I5 (stands I5 n5) st5 go) fun r s6 ⟨u, hr, h6⟩ => ?_
    subst hr
    refine thnF h6 fun _ s7 ⟨x, H7, I7, r7, y7, st7, n7⟩ => ?_
    refine thnF (pg.run _ s7 _ H7 x u _ (I7.pinned (stands I7 n7) (T.obj _ _ st7)) r7 (step x H7 y7)) fun _ s8 ⟨σ8, H8, I8, hw8, q8⟩ => ?_
    refine thnF (pt.run _ s8 σ8 H8 _ I8 q8) fun b s9 ⟨H9, I9, q9⟩ => ?_
    have fin : ∀ {s' : Shared} {H' : Hp}, Inv (X.blk s3 H3 scope ce fp) ([] ++ pinsAt fp s7.heap) σ8 H' s' → Nx H' → ∃ m, m < n ∧ ∃ i H', Inv (X.blk s3 H3 scope ce fp) [] (wipe σ (own.map (·.2))) H' s' ∧ tn i s'.heap ∧ (∀ b ∈ fp, H' b = none) ∧ W i m H' := fun {s' H'} I' nx => by
      obtain ⟨m', hm, w'⟩ := hNx H' nx
      have held : ∀ b ∈ fp, ∀ o, s7.heap.get? b = some o → s'.heap.get? b = some o ∧ H' b = none := fun b hb o e =>
        ⟨(I'.pin (b, o) (List.mem_append_right _ (List.mem_append_right _ (mem_pinsAt hb e)))).1, (I'.pin (b, o) (List.mem_append_right _ (List.mem_append_right _ (mem_pinsAt hb e)))).2.1⟩
      refine ⟨m', hm, i + 1, H', (I'.unpinned (pins := [])).weak (by rw [← hw8, wipe_length]) (fun j v e => ?_), T.keep _ _ _ st7 fun b hb o e => (held b hb o e).1, fun b hb => ?_, w'⟩
      · rw [← hw8] at e
        exact (wipe_some e).1
      · obtain ⟨o, e, _⟩ := T.obj _ _ st7 b hb
        exact (held b hb o e).2
    cases b with
    | false => exact fin I9 q9
    | true =>
      refine thnF (pe.run _ s9 σ8 H9 _ I9 q9) fun z s10 ⟨yv, H10, I10, r10, p, k, L, ey, hx, hDD, hL, hz, nx⟩ => ?_
      subst ey
      cases (show z = Value.ref p from r10)
      exact addG_ok (X := X.blk s3 H3 scope ce fp) I10 hDD (by show X.A.units + 3 < cLine; omega) hL hx hz fun L' s11 c1 c2 I11 => fin I11 (nx L' c1 c2)
end

/-! ### sorted({e for x in xs if ..}), e tuples of whole numbers -/
def scGoG (f : DGX) (tt : DTX) (te : DX) (env : List Sl) (Q : List (List Int) → Prop) : List Dt → List (List Int) → Prop
  | [], acc => Q acc
  | x :: xs, acc => f x env fun env' => tt env' (fun b => if b = true then te env' (fun y => ∃ w : List Int, y = .tup (w.map .int) ∧ Few 3999 acc ∧ scGoG f tt te env Q xs (acc ++ [w])) (fun _ => False) else scGoG f tt te env Q xs acc) (fun _ => False)
def scEndG (Q : Dt → Prop) (ws : List (List Int)) : Prop := Few 4000 ws ∧ Plain ws ∧ ∀ us : List (List Int), us.Pairwise (· < ·) → (∀ x, x ∈ us ↔ x ∈ ws) → Q (rowsD us)
def eSortScG (src : DAX) (f : DGX) (tt : DTX) (te : DX) (vs : List Nat) : DX := fun env Q E => src env (fun ds => scGoG f tt te (wipeS env vs) (scEndG Q) ds []) E
theorem eSortScG_W (src : DAX) (f : DGX) (tt : DTX) (te : DX) (vs : List Nat) {env} {Q} {E} : eSortScG src f tt te vs env Q E = src env (fun ds => scGoG f tt te (wipeS env vs) (scEndG Q) ds []) E := rfl
theorem df_sortScG {P : Program} {w : World} {C : Bc} {wi : TI} {g : TG} {tt : TT} {te : TE} {vs : List Nat} {src : DAX} {f : DGX} {et : DTX} {ee : DX} (hi : DIg Weak C wi src) (hg : DG C g vs f) (ht : DT C tt et) (he : DE C te ee) :
    DF C (tCB (rSortedSG C.K P w) (tCons (tScG C.K P w wi g tt te vs) tNil)) (eSortScG src f et ee vs) := by
  intro X env σ H Q Qd Qx rp h q x
  refine hi X env σ H _ _ Qx rp h (fun ds J H1 f1 wk h1 => ?_) x
  intro D hD
  have rp1 := rp.step f1
  have nh : ∀ h c, C.hd = some (h, c) → D ≠ h := fun h c e z => by
    obtain ⟨_, _, _, _, q, _⟩ := (rp1.hands h c e).2.2
    rw [z, q] at hD; cases hD
  let W : Nat → Nat → Hp → Prop := fun i m H2 => m + i = ds.length ∧ Frm C.hd H1 H2 ∧ ∃ (L : List (Addr × List Int)) (acc : List (List Int)), H2 D = some (SetGO P w D L) ∧ (∀ k ∈ L, vis H2 (fun a => X a ∨ a = D) k.1 = some (.tup (k.2.map V.int))) ∧ (L.map (·.2)).Nodup ∧ (∀ z, z ∈ L.map (·.2) ↔ z ∈ acc) ∧ scGoG f et ee (wipeS env vs) (scEndG Qd) (ds.drop i) acc
  refine ⟨W, ⟨ds.length, rfl, .upd hD, [], [], upd_same, (fun k hk => by cases hk), List.nodup_nil, fun z => Iff.rfl, h1⟩, fun i m H2 ⟨hm, f2, L, acc, hD2, tups, nd, mem, go⟩ => ?_⟩
  have rpY : Rep C (fun a => X a ∨ a = D) env σ H2 := rp1.hide hD f2 ⟨_, hD2⟩
  have rpW := rpY.wiped vs
  have sW : Weak C X H1 (fun a => X a ∨ a = D) H2 := ⟨f2, rp1.hX, fun a z => z.imp id fun (e : a = D) => by rw [e]; exact hD, rpY.al⟩
  have hw := wk _ i H2 sW
  by_cases c : i < ds.length
  · obtain ⟨g1, g2⟩ := hw.1 c
    refine .inr ⟨g1, W (i + 1) (m - 1), fun H' hW => ⟨m - 1, by omega, hW⟩, fun y H3 hy => ?_⟩
    obtain ⟨s3, d, hd, den⟩ := g2 y H3 hy
    have ed : ds.drop i = d :: ds.drop (i + 1) := by
      rw [List.drop_eq_getElem_cons c]
      congr 1
      rw [List.getElem?_eq_getElem c] at hd
      exact Option.some.inj hd
    rw [ed] at go
    have step : ∀ H5, Frm C.hd H3 H5 → Frm C.hd H2 H5 ∧ H5 D = some (SetGO P w D L) ∧ ∀ k ∈ L, vis H5 (fun a => X a ∨ a = D) k.1 = some (.tup (k.2.map V.int)) := fun H5 f5 => by
      have f25 : Frm C.hd H2 H5 := (Frm.same s3).trans f5
      exact ⟨f25, f25.1 D _ hD2 nh, fun k hk => rpY.vs f25 _ _ (tups k hk)⟩
    refine hg _ _ _ H3 y d _ _ (rpW.step (.same s3)) den go fun env' σ' rp' he' hl hk _ => ⟨wipe_of hl hk, ?_⟩
    refine ht _ env' σ' H3 _ _ _ rp' he' (fun b H4 f4 hb => ?_) xok_no
    cases b with
    | false =>
      rw [if_neg (by decide)] at hb ⊢
      obtain ⟨k1, k2, k3⟩ := step H4 f4
      exact ⟨by omega, f2.trans k1, L, acc, k2, k3, nd, mem, hb⟩
    | true =>
      rw [if_pos rfl] at hb ⊢
      refine he _ env' σ' H4 _ _ _ (rp'.step f4) hb (fun y2 v2 H5 f5 den5 hb5 => ?_) xok_no
      obtain ⟨k, rfl, few, go5⟩ := hb5
      obtain ⟨p, us, rfl, hp, al⟩ := Den.tupI den5
      rw [al.ints_of] at hp
      obtain ⟨f25, hD5, t5⟩ := step H5 (f4.trans f5)
      refine ⟨p, k, L, rfl, .inl (.inl (vis_sub _ _ hp)), hD5, fun k hk => .inl (.inl (vis_sub _ _ (t5 k hk))), ?_, fun L' c1 c2 => ?_⟩
      · have := few _ nd fun z hz => (mem z).mp hz
        rw [List.length_map] at this
        omega
      have sv : Same (vis H5 fun a => X a ∨ a = D) (vis (upd H5 D (SetGO P w D L')) fun a => X a ∨ a = D) := fun a o e => by
        obtain ⟨n1, e1⟩ := vis_of e
        exact vis_mk n1 (by rw [upd_ne fun z => n1 (.inr z)]; exact e1)
      refine ⟨by omega, frm_put rp1 hD (f2.trans f25), L', acc ++ [k], upd_same, fun j hj => sv _ _ ?_, ?_, fun z => ?_, go5⟩
      · by_cases cm : k ∈ L.map (·.2)
        · rw [c1 cm] at hj; exact t5 j hj
        · rcases List.mem_cons.mp ((c2 cm).mem_iff.mp hj) with e | e
          · rw [e]; exact hp
          · exact t5 j e
      · by_cases cm : k ∈ L.map (·.2)
        · rw [c1 cm]; exact nd
        · exact ((c2 cm).map (·.2)).nodup_iff.mpr (List.nodup_cons.mpr ⟨cm, nd⟩)
      · rw [List.mem_append, List.mem_singleton]
        by_cases cm : k ∈ L.map (·.2)
        · rw [c1 cm, mem z]
          exact ⟨.inl, fun h => h.elim id fun e => by rw [e]; exact (mem k).mp cm⟩
        · rw [((c2 cm).map (·.2)).mem_iff, List.map_cons, List.mem_cons, mem z]
          exact Or.comm
  · have e : ds.drop i = [] := List.drop_eq_nil_of_le (by omega)
    rw [e] at go
    obtain ⟨few, kind, fin⟩ := go
    have rp2 := rp1.step f2
    have few2 : L.length < 4000 := by
      have := few _ nd fun z hz => (mem z).mp hz
      rwa [List.length_map] at this
    refine .inl ⟨hw.2 (by omega), ?_⟩
    show rSortedSG C.K P w [V.ref D] H2 Q
    refine ⟨D, L, rfl, hD2, fun k hk => .inl (.inl (vis_sub _ _ (tups k hk))), few2, ?_, fun L' p pm pw hp => ?_⟩
    · rcases kind with c | c
      · exact .inl fun k hk => c _ ((mem _).mp (List.mem_map.mpr ⟨k, hk, rfl⟩))
      · have := few_one nd fun z hz => c z ((mem z).mp hz)
        rw [List.length_map] at this
        exact .inr this
    have tX : ∀ k ∈ L', vis H2 X k.1 = some (.tup (k.2.map V.int)) := fun k hk => by
      obtain ⟨n1, e1⟩ := vis_of (tups k (pm.mem_iff.mp hk))
      exact vis_mk (fun z => n1 (.inl z)) e1
    refine q _ _ _ (f1.trans (f2.trans (.upd hp))) ((fsh_new rp2 hp (DenAll.of_rows tX)).frm rp (f1.trans f2)) (fin _ (strict_rows (List.pairwise_map.mpr pw) ((pm.map (·.2)).nodup_iff.mpr nd)) fun z => ?_)
    rw [(pm.map (·.2)).mem_iff]; exact mem z
end Mine

namespace Mine
open PySem PySem.Spec PyProof.Rows L2
/-! ### the least of rows; the least and the greatest of whole numbers, or a default -/
section
variable {X : Cx}
end
/-! over data -/
end Mine

namespace Mine
open PySem PySem.Spec PyProof.Rows L2
/-! ### a method without arguments that may raise, within a try -/
section
variable {X : Cx} {CX : CXT} {k : Nat} {f C g : Addr} {fd : FuncData} {ps : List Str} {sp : Sp} {dvs : List V} {ds : List Value} {E : L2.St → XK} {x m : Str} {p pos apos p0 : Pos} {e o : Expr} {es : List Expr} {ta : TE} {t : TA} {pl : Sem Bool}
theorem pe_methS0 {pl : Sem Bool} (he : PE X o ta) (c : Cls X.K C) (hm : Meth X.K C m f) (F : FnOk X.prog X.w X.K X.mg X.base CX k f fd ps sp) (hr : Room k X.A) (hb : Binds X.K fd ps ds) (hd : Vals dvs ds) (hx : ∀ σ, PassesAt CX X σ (E σ))
    (ht : eval (.Call (.Attribute o m apos) [] [] pos) X.env = (do
      let ov ← eval o X.env
      standAt apos.atName
      let (f, first) ← holding [ov] (getMethod ov m pl)
      callWith pos f first (backTo pos (starEach [] X.env)) (backToKw pos (keywordEach [] X.env))) := by rfl) :
    PE X (.Call (.Attribute o m apos) [] [] pos) (tMethS C m sp dvs E ta tNil) := by
  refine ⟨fun pins s σ H Q I h => ?_⟩
  refine PySem.W.methodCall_KW (pl := pl) (thn (he.run pins s σ H _ I h) fun u s1 ⟨x, H1, I1, rx, a, dx, fs, ex, ea, l, q⟩ => ?_) ht
  subst ex
  obtain rfl : u = Value.ref a := rx
  refine getmeth_ok I1 ea c hm l ?_
  exact PySem.W.callWith_K0 (first := [.ref a]) I1.kIn hm.kp (run_fnSD (us := [.ref a]) (vs := [.ref a]) F hr hb hd (hx σ) I1 (.cons rfl .nil) q)
end
end Mine

namespace Mine
open PySem PySem.Spec PyProof.Rows L2
/-! ### min(ints, default=d), max(ints, default=d) -/
section
variable {X : Cx} {id : String} {x : Str} {ks : List Str} {p pos : Pos} {e : Expr} {es : List Expr} {kws : List Keyword} {t tk : TA} {r : List V → List V → Hp → VK → Prop}
end
/-! over data -/
def eMinDf (a d : DX) : DX := fun env Q E => a env (fun x => d env (fun z => ∃ ns : List Int, (x = .lst (ns.map .int) ∨ x = .tup (ns.map .int)) ∧ (ns = [] → Q z) ∧ ∀ m ∈ ns, (∀ y ∈ ns, m ≤ y) → Q (.int m)) E) E
def eMaxDf (a d : DX) : DX := fun env Q E => a env (fun x => d env (fun z => ∃ ns : List Int, (x = .lst (ns.map .int) ∨ x = .tup (ns.map .int)) ∧ (ns = [] → Q z) ∧ ∀ m ∈ ns, (∀ y ∈ ns, y ≤ m) → Q (.int m)) E) E
theorem eMinDf_W (a d : DX) {env} {Q} {E} : eMinDf a d env Q E = a env (fun x => d env (fun z => ∃ ns : List Int, (x = .lst (ns.map .int) ∨ x = .tup (ns.map .int)) ∧ (ns = [] → Q z) ∧ ∀ m ∈ ns, (∀ y ∈ ns, m ≤ y) → Q (.int m)) E) E := rfl
theorem eMaxDf_W (a d : DX) {env} {Q} {E} : eMaxDf a d env Q E = a env (fun x => d env (fun z => ∃ ns : List Int, (x = .lst (ns.map .int) ∨ x = .tup (ns.map .int)) ∧ (ns = [] → Q z) ∧ ∀ m ∈ ns, (∀ y ∈ ns, y ≤ m) → Q (.int m)) E) E := rfl
section
variable {C : Bc} {ta td : TE} {a d : DX}
end
end Mine

namespace Mine
open PySem PySem.Spec PyProof.Rows L2
/-! ### x.bit_length() -/
def eBits (a : DX) : DX := fun env Q E => a env (fun d => match d with
  | .int i => Q (.int (Builtin.Int.intBits i : Nat))
  | _ => False) E
theorem eBits_W (a : DX) {env} {Q} {E} : eBits a env Q E = a env (fun d => match d with
  | .int i => Q (.int (Builtin.Int.intBits i : Nat))
  | _ => False) E := rfl
end Mine

namespace Mine
open PySem PySem.Spec PyProof.Rows L2
/-! ### len(set(xs)) of tuples of whole numbers -/
section
variable {X : Cx}
end
def eLenSetG (a : DX) : DX := fun env Q E => a env (fun d => ∃ ws : List (List Int), d = rowsD ws ∧ Few 3999 ws ∧ ∀ us : List (List Int), us.Nodup → (∀ x, x ∈ us ↔ x ∈ ws) → Q (.int us.length)) E
theorem eLenSetG_W (a : DX) {env} {Q} {E} : eLenSetG a env Q E = a env (fun d => ∃ ws : List (List Int), d = rowsD ws ∧ Few 3999 ws ∧ ∀ us : List (List Int), us.Nodup → (∀ x, x ∈ us ↔ x ∈ ws) → Q (.int us.length)) E := rfl
/-! wide numbers to the left -/
abbrev dShlW : D2 := dI CShl fun i j => .int (i * 2 ^ j.toNat)
theorem dShlW_int {i j : Int} {Q : Dt → Prop} : dShlW (.int i) (.int j) Q = (CShl i j ∧ Q (.int (i * 2 ^ j.toNat))) := rfl
end Mine

namespace Mine
open PySem PySem.Spec PyProof.Rows L2
/-! ### a, b, c = a tuple or a list of that length -/
def gD3L (i j k : Nat) : DGX := fun d env Q => match d with
  | .tup [a, b, c] => Q (((env.set i (.d a)).set j (.d b)).set k (.d c))
  | .lst [a, b, c] => Q (((env.set i (.d a)).set j (.d b)).set k (.d c))
  | _ => False
theorem gD3L_W (i j k : Nat) {d} {env} {Q} : gD3L i j k d env Q = (match d with
  | .tup [a, b, c] => Q (((env.set i (.d a)).set j (.d b)).set k (.d c))
  | .lst [a, b, c] => Q (((env.set i (.d a)).set j (.d b)).set k (.d c))
  | _ => False) := rfl
end Mine

namespace Mine
open PySem PySem.Spec PyProof.Rows L2
/-! ### x is True, x is False, of truth values -/
def dIsB : D2 := fun a b Q => match a, b with
  | .bl i, .bl j => Q (.bl (decide (i = j)))
  | _, _ => False
def dNotB : D2 := fun a b Q => match a, b with
  | .bl i, .bl j => Q (.bl (!decide (i = j)))
  | _, _ => False
theorem dIsB_bl {i j : Bool} {Q : Dt → Prop} : dIsB (.bl i) (.bl j) Q = Q (.bl (decide (i = j))) := rfl
theorem dNotB_bl {i j : Bool} {Q : Dt → Prop} : dNotB (.bl i) (.bl j) Q = Q (.bl (!decide (i = j))) := rfl
section
variable {C : Bc}
end
end Mine

namespace Mine
open PySem PySem.Spec PyProof.Rows L2
/-! ### f'{x:b}' of a whole number that is not below nought -/
def binS (n : Nat) : Str := ⟨((Nat.toDigits 2 n).map Char.toNat).toArray⟩
section
variable {prog : Program} {w : World} {A : Around} {E : Value → Shared → Prop} {s : Shared}
end
/-! over data -/
def eFmtB (a : DX) : DX := fun env Q E => a env (fun d => match d with
  | .int i => ∃ n : Nat, i = n ∧ (binS n).length ≤ sizeLine ∧ Q (.str (binS n))
  | _ => False) E
theorem eFmtB_W (a : DX) {env} {Q} {E} : eFmtB a env Q E = a env (fun d => match d with
  | .int i => ∃ n : Nat, i = n ∧ (binS n).length ≤ sizeLine ∧ Q (.str (binS n))
  | _ => False) E := rfl
/-! x.count(y) of a text, y one sign -/
end Mine

namespace Mine
open PySem PySem.Spec PyProof.Rows L2 PpSet
/-! ### a set comprehension of two clauses whose items are tuples of whole numbers -/
section
variable {prog : Program} {w : World} {A : Around} {R : Result → Shared → Prop} {s : Shared} {el a0 b0 a1 b1 : Expr} {f0 f1 : List Expr} {sp : Scope} {po : Pos} {i acc : Value} {ev : Env}
abbrev tests (fs : List Expr) (ev : Env) : Sem Bool := forIn fs true fun c r => if r = true then do let ok ← isTrue c ev (eval c ev); pure (ForInStep.yield ok) else pure (ForInStep.yield r)
end
section
variable {X : Cx}
end
/-! ### sorted({e for x in xs for y in ys}) over data -/
def scGo2G (f : DGX) (tt : DTX) (src1 : DAX) (f1 : DGX) (tt1 : DTX) (te : DX) (vs1 : List Nat) (env : List Sl) (Q : List (List Int) → Prop) : List Dt → List (List Int) → Prop
  | [], acc => Q acc
  | x :: xs, acc => f x env fun env' => tt env' (fun b => if b = true then src1 env' (fun ds1 => scGoG f1 tt1 te (wipeS env' vs1) (fun acc' => scGo2G f tt src1 f1 tt1 te vs1 env Q xs acc') ds1 acc) (fun _ => False) else scGo2G f tt src1 f1 tt1 te vs1 env Q xs acc) fun _ => False
def eSortScG2 (src : DAX) (f : DGX) (tt : DTX) (src1 : DAX) (f1 : DGX) (tt1 : DTX) (te : DX) (vs1 vs : List Nat) : DX := fun env Q E => src env (fun ds => scGo2G f tt src1 f1 tt1 te vs1 (wipeS env vs) (scEndG Q) ds []) E
theorem eSortScG2_W (src : DAX) (f : DGX) (tt : DTX) (src1 : DAX) (f1 : DGX) (tt1 : DTX) (te : DX) (vs1 vs : List Nat) {env} {Q} {E} : eSortScG2 src f tt src1 f1 tt1 te vs1 vs env Q E = src env (fun ds => scGo2G f tt src1 f1 tt1 te vs1 (wipeS env vs) (scEndG Q) ds []) E := rfl
end Mine

namespace Mine
open PySem PySem.Spec PyProof.Rows L2
/-! ### sorted(xs) of at most one tuple, that may be the empty one -/
theorem perm_one {α : Type} {l' l : List α} (z : l'.Perm l) (h : l.length ≤ 1) : l' = l := by
  match l, h with
  | [], _ => exact z.eq_nil
  | [x], _ => exact List.perm_singleton.mp z
section
variable {X : Cx}
def rSortedT1 (K : PySem.W.Frag) : List V → Hp → VK → Prop := fun vs H Q => ∃ (a : Addr) (xs : List V), vs = [V.ref a] ∧ SqL K H a xs ∧ xs.length ≤ 1 ∧ ∀ p : Addr, H p = none → Q (.ref p) (upd H p (.lst xs))
theorem cr_sortedT1 : CallR X (.builtin "sorted") (rSortedT1 X.K) := by
  intro pins s σ H vs us Q I r h
  obtain ⟨a, xs, rfl, ha, few, q⟩ := h
  obtain ⟨its, rv, hl, hz⟩ := I.list ha
  rw [Vals.ref1 r]
  have il := rv.length
  refine PySem.W.sorted_of_sort (vs := its) hl.isList (by omega) (PyProof.Rows.args_sorted1 _) (fun _ => PyProof.Rows.args_list_sort _) fun E' => ?_
  refine SK.plain_sort (s := { s with heap := PySem.W.copyHeap s.heap its }) (r := fun _ => 0) (n := 0) (PySem.W.copyHeap_at s.heap its) (by omega) (fun h2 => absurd h2 (by omega)) fun ps out e1 pp _ => ⟨rfl, ?_⟩
  have z := pp.map Prod.snd
  rw [List.map_snd_zip (Nat.le_refl _), ← e1] at z
  have eo := perm_one z (by omega)
  have e2 : out = its.toArray := by rw [← eo]
  subst e2
  obtain ⟨c, hc⟩ := PyProof.Rows.sortedAll_at s.heap its its.toArray
  exact ⟨.ref (s.heap.objs.size + 1), upd H (s.heap.objs.size + 1) (.lst xs), I.laid (t' := s.toks) (fun _ _ => PyProof.Rows.sortedAll_old) (Nat.le_succ _) ⟨by rw [sizeLine_eq]; omega, its, c, rv, hc⟩, rfl, q _ (I.hok.fresh (Nat.le_succ _))⟩
end
def rSortedW (K : PySem.W.Frag) : List V → Hp → VK → Prop := fun xs H Q => rSortedV K xs H Q ∨ rSortedT1 K xs H Q
theorem call_sortedW {X : Cx} {K : PySem.W.Frag} (e : X.K = K) (hu : X.A.units + 64 < cLine) : CallR X (.builtin "sorted") (rSortedW K) := (call_sortedV e hu).or (e ▸ cr_sortedT1)
def dSortedT1 : DL := fun ds Q => match ds with
  | [.lst xs] => ∃ ws : List (List Int), Dt.lst xs = rowsD ws ∧ ws.length ≤ 1 ∧ Q (rowsD ws)
  | _ => False
def dSortedW : DL := fun ds Q => dSortedV ds Q ∨ dSortedT1 ds Q
theorem cg_sortedT1 {C : Bc} : CallG Fsh C (rSortedT1 C.K) dSortedT1 := by
  intro X env σ H vs ds Q Qd rp ra he q
  unfold dSortedT1 at he
  split at he
  · obtain ⟨v, rfl, r1⟩ := ra.one
    obtain ⟨ws, e0, ne, he⟩ := he
    injection e0 with e0
    subst e0
    obtain ⟨p, L, rfl, h1, e, hL⟩ := r1.rows
    refine ⟨p, _, rfl, .inl (.inl h1), ?_, fun p' hp => ?_⟩
    · rw [← e, List.length_map] at ne
      rw [List.length_map]; exact ne
    · exact q _ _ _ (.upd hp) (fsh_rows (L' := L) rp hp (.refl H) hL fun k hk => hk) (by rw [e]; exact he)
  · exact he.elim
theorem cg_sortedW {C : Bc} : CallG Fsh C (rSortedW C.K) dSortedW := by
  intro X env σ H vs ds Q Qd rp ra he q
  rcases he with he | he
  · exact .inl (cg_sortedV X env σ H vs ds Q Qd rp ra he q)
  · exact .inr (cg_sortedT1 X env σ H vs ds Q Qd rp ra he q)
end Mine

/-! ### zip(*rows), any number of tuples -/
namespace ZT
open PySem ZN
section
variable {prog : Program} {w : World} {A : Around} {E : Value → Shared → Prop} {s : Shared}
end
end ZT
namespace ZT
open PySem ZN
section
variable {prog : Program} {w : World} {A : Around} {E : Value → Shared → Prop} {s : Shared}
end
section
variable {prog : Program} {w : World} {A : Around} {E : Value → Shared → Prop} {s : Shared}
end
end ZT
namespace Mine
open PySem PySem.Spec PyProof.Rows L2 ZN
end Mine
namespace Mine
open PySem PySem.Spec PyProof.Rows L2 ZN
/-- zip(*rows) of a list of tuples of one length -/
def eZipT (a : DX) : DAX := fun env Q E => a env (fun d => ∃ (n : Nat) (xs : List (List Dt)), d = .lst (xs.map .tup) ∧ xs ≠ [] ∧ xs.length ≤ 100 ∧ (∀ l ∈ xs, l.length = n) ∧ Q ((List.range n).map fun i => .tup (xs.map fun l => l.getD i .non))) E
theorem eZipT_W (a : DX) {env} {Q} {E} : eZipT a env Q E = a env (fun d => ∃ (n : Nat) (xs : List (List Dt)), d = .lst (xs.map .tup) ∧ xs ≠ [] ∧ xs.length ≤ 100 ∧ (∀ l ∈ xs, l.length = n) ∧ Q ((List.range n).map fun i => .tup (xs.map fun l => l.getD i .non))) E := rfl
end Mine
namespace Mine
open PySem PySem.Spec PyProof.Rows L2
/-! ### the least of a tuple of whole numbers -/
end Mine

namespace Mine
open PySem PySem.Spec PyProof.Rows L2 GenW
/-! ### list(g(..)) of a generator def that lets an exception of one class out -/
def EG (K : PySem.W.Frag) (E : XK) : XK := fun cls d H => E cls d H ∧ PySem.W.subIn K cls (.type "StopIteration") = some false
theorem noStopG {K : PySem.W.Frag} {E : XK} : NoStop K (EG K E) := fun _ _ _ h => h.2
def eCallG (F : DFn) (dd : List Sl) (c : Str) (a : DSX) : DX := fun env Q E => a env (fun ss => F (ss ++ dd) Q fun x => x.cls = c ∧ E x) E
section
variable {C : Bc} {F : DFn} {dvs : List V} {dd : List Sl} {t : TA} {a : DSX}
theorem df_listGx {c : Str} {E : XK} (hE : C.E = fun _ => E) (hc : PySem.W.subIn C.K (.ref (He.ga C.K c)) (.type "StopIteration") = some false) (hd : Dvs dvs dd) (ha : DAs C t a) :
    DF C (tListG (tCallG (spGD C.K F) dvs (EG C.K E) t)) (eCallG F dd c a) := by
  intro X env σ H Q Qd Qx rp he q x
  refine ha X env σ H _ _ Qx rp he (fun ss vs H1 f1 r1 he1 => ?_) x
  have rp1 := rp.step f1
  exact ⟨X, C.hd, ss ++ dd, Qd, _, rp1.al, fun h c e => ⟨rp1.hX h c e, (rp1.hands h c e).2.2⟩, SlAll.append r1 (hd C.K C.hd X H1), he1,
    fun ds ys H2 f2 a2 q2 p hp => q _ _ _ ((f1.trans f2).trans (.upd hp)) (Fsh.frm rp (f1.trans f2) (fsh_new (rp1.step f2) hp a2)) q2, fun y cls dx H' f r z => by
      have := x y cls dx H' (f1.trans f) r z.2
      rw [hE] at this
      exact ⟨this, by rw [r.1, z.1]; exact hc⟩⟩
end
theorem eCallG_W {F : DFn} {dd : List Sl} {c : Str} {a : DSX} {env : List Sl} {Q : Dt → Prop} {E : Xc → Prop} : eCallG F dd c a env Q E = a env (fun ss => F (ss ++ dd) Q fun x => x.cls = c ∧ E x) E := rfl
end Mine

namespace Mine
open PySem PySem.Spec PyProof.Rows L2
/-! ### the pure part: rules -/
theorem iteQ {c : Prop} [Decidable c] {a b : Prop} (h : c → a) (k : ¬ c → b) : if c then a else b := by
  split
  · exact h (by assumption)
  · exact k (by assumption)
/-- a loop by an invariant over the number of turns; K: what is wanted behind the turn, B: behind a break -/
theorem dFor_inv {f : DGX} {b : DSt} {nx bk ct : List Sl → Prop} {rt : Dt → Prop} {xc : List Sl → Xc → Prop} (I : Nat → List Sl → Prop) : ∀ {xs : List Dt} {env : List Sl}, I 0 env →
    (∀ (i : Nat) (x : Dt) (e : List Sl) (K : List Sl → Prop) (B : { B : List Sl → Prop // ∀ e', nx e' → B e' }), xs[i]? = some x → I i e → (∀ e', I (i + 1) e' → K e') → f x e fun e' => b ⟨K, rt, B.1, K, xc⟩ e') → (∀ e, I xs.length e → nx e) → dFor f b ⟨nx, rt, bk, ct, xc⟩ xs env := by
  intro xs
  induction xs generalizing I with
  | nil => intro env h0 _ fin; exact fin _ h0
  | cons x xs ih =>
    intro env h0 step fin
    refine step 0 x env _ ⟨nx, fun _ h => h⟩ rfl h0 fun e' h1 => ?_
    exact ih (fun i => I (i + 1)) h1 (fun i y e K B e1 => step (i + 1) y e K B (by simpa using e1)) fin
/-- a loop that only looks: what it keeps is the same at each turn -/
theorem dFor_keep {f : DGX} {b : DSt} {nx bk ct : List Sl → Prop} {rt : Dt → Prop} {xc : List Sl → Xc → Prop} (I : List Sl → Prop) {xs : List Dt} {env : List Sl} (h0 : I env)
    (step : ∀ (x : Dt) (e : List Sl) (K : List Sl → Prop) (B : { B : List Sl → Prop // ∀ e', nx e' → B e' }), x ∈ xs → I e → (∀ e', I e' → K e') → f x e fun e' => b ⟨K, rt, B.1, K, xc⟩ e') (fin : ∀ e, I e → nx e) : dFor f b ⟨nx, rt, bk, ct, xc⟩ xs env :=
  dFor_inv (fun _ => I) h0 (fun i x e K B hx => step x e K B (List.mem_of_getElem? hx)) fin
/-- a comprehension: which items stay, what becomes of them -/
theorem lc_ok {α : Type} {f : DGX} {tt : DTX} {te : DX} {env : List Sl} {Q : Dt → Prop} (e : α → Dt) (p : α → Bool) (g : α → Dt) : ∀ {xs : List α} {acc : List Dt},
    (∀ x ∈ xs, ∀ (K1 : Dt → Prop) (K0 : Prop), (p x = true → K1 (g x)) → (p x = false → K0) → f (e x) env fun env' => tt env' (fun b => if b = true then te env' K1 (fun _ => False) else K0) fun _ => False) →
    acc.length + xs.length ≤ 16777216 → Q (.lst (acc ++ (xs.filter p).map g)) → lcGo f tt te env Q (xs.map e) acc := by
  intro xs
  induction xs with
  | nil => intro acc _ _ q; show Q (.lst acc); simpa using q
  | cons x xs ih =>
    intro acc step hl q
    refine step x List.mem_cons_self _ _ (fun hp => ?_) fun hp => ?_
    · rw [List.length_cons] at hl
      refine ⟨by show acc.length < 16777216; omega, ih (fun y hy => step y (List.mem_cons_of_mem _ hy)) (by rw [List.length_append]; show acc.length + 1 + _ ≤ _; omega) ?_⟩
      rw [List.filter_cons, if_pos hp, List.map_cons] at q
      simpa using q
    · rw [List.length_cons] at hl
      refine ih (fun y hy => step y (List.mem_cons_of_mem _ hy)) (by omega) ?_
      rw [List.filter_cons, if_neg (by rw [hp]; decide)] at q
      exact q
/-- without a test -/
theorem lc_map {α : Type} {f : DGX} {te : DX} {env : List Sl} {Q : Dt → Prop} (e : α → Dt) (g : α → Dt) {xs : List α}
    (step : ∀ x ∈ xs, ∀ K1 : Dt → Prop, K1 (g x) → f (e x) env fun env' => te env' K1 (fun _ => False)) (hl : xs.length ≤ 16777216) (q : Q (.lst (xs.map g))) : lcGo f eYes te env Q (xs.map e) [] := by
  refine lc_ok e (fun _ => true) g (fun x hx K1 K0 h1 _ => ?_) (by simpa using hl) (by rw [List.filter_eq_self.mpr fun _ _ => rfl]; exact q)
  exact step x hx K1 (h1 rfl)
/-- a comprehension whose items are any of their kind -/
theorem lc_any {f : DGX} {te : DX} {env : List Sl} {Q : Dt → Prop} (G : Dt → Prop) : ∀ {ds : List Dt} {acc : List Dt}, (∀ x ∈ ds, ∀ K1 : Dt → Prop, (∀ y, G y → K1 y) → f x env fun env' => te env' K1 (fun _ => False)) →
    acc.length + ds.length ≤ 16777216 → (∀ y ∈ acc, G y) → (∀ ys, ys.length = acc.length + ds.length → (∀ y ∈ ys, G y) → Q (.lst ys)) → lcGo f eYes te env Q ds acc := by
  intro ds
  induction ds with
  | nil => intro acc _ _ ha q; exact q acc rfl ha
  | cons x ds ih =>
    intro acc step hl ha q
    rw [List.length_cons] at hl q
    refine step x List.mem_cons_self _ fun y hy => ⟨by show acc.length < 16777216; omega, ih (fun z hz => step z (List.mem_cons_of_mem _ hz)) (by rw [List.length_append]; show acc.length + 1 + _ ≤ _; omega) (fun z hz => ?_) fun ys e h => q ys ?_ h⟩
    · rcases List.mem_append.mp hz with h | h
      · exact ha z h
      · rw [List.mem_singleton.mp h]; exact hy
    · rw [e, List.length_append]; show acc.length + 1 + _ = _; omega
/-! ### data of a type -/
abbrev iT (w : List Int) : Dt := .tup (w.map .int)
abbrev iL (w : List Int) : Dt := .lst (w.map .int)
def Dt.shN (n : Nat) (a : Dt) : Prop := ∃ p, a.py = some p ∧ p.canLay0 = true ∧ p.depth ≤ n
theorem Dt.shN.sh {n : Nat} {a : Dt} (h : a.shN n) (hn : n ≤ 64 := by decide) : a.sh := by
  obtain ⟨p, e, c, d⟩ := h
  exact ⟨p, e, by unfold SeqAt.shaped; rw [c, decide_eq_true (by omega)]; rfl⟩
theorem shN_bl (b : Bool) : (Dt.bl b).shN 0 := ⟨.bool b, by rw [Dt.py], by rw [PyData.canLay0], by rw [PyData.depth]; exact Nat.le_refl _⟩
theorem shN_int (i : Int) : (Dt.int i).shN 0 := ⟨.int i, by rw [Dt.py], by rw [PyData.canLay0], by rw [PyData.depth]; exact Nat.le_refl _⟩
theorem shN_all {n : Nat} : ∀ {xs : List Dt}, (∀ x ∈ xs, x.shN n) → ∃ ps, Dt.pys xs = some ps ∧ PyData.canLayAll0 ps = true ∧ PyData.depthAll ps ≤ n
  | [], _ => ⟨[], by rw [Dt.pys], by rw [PyData.canLayAll0], by rw [PyData.depthAll]; exact Nat.zero_le _⟩
  | x :: xs, h => by
    obtain ⟨p, e, c, d⟩ := h x List.mem_cons_self
    obtain ⟨ps, e2, c2, d2⟩ := shN_all fun y hy => h y (List.mem_cons_of_mem _ hy)
    exact ⟨p :: ps, by rw [Dt.pys, e, e2], by rw [PyData.canLayAll0, c, c2]; rfl, by rw [PyData.depthAll]; omega⟩
theorem shN_tup {n : Nat} {xs : List Dt} (h : ∀ x ∈ xs, x.shN n) : (Dt.tup xs).shN (n + 1) := by
  obtain ⟨ps, e, c, d⟩ := shN_all h
  exact ⟨.tuple ps, by rw [Dt.py, e]; rfl, by rw [PyData.canLay0]; exact c, by rw [PyData.depth]; omega⟩
theorem shN_lst {n : Nat} {xs : List Dt} (h : ∀ x ∈ xs, x.shN n) : (Dt.lst xs).shN (n + 1) := by
  obtain ⟨ps, e, c, d⟩ := shN_all h
  exact ⟨.list ps, by rw [Dt.py, e]; rfl, by rw [PyData.canLay0]; exact c, by rw [PyData.depth]; omega⟩
theorem shN_str {z : Str} (h : PyData.strOk z = true) : (Dt.str z).shN 0 := ⟨.str z, by rw [Dt.py], by rw [PyData.canLay0]; exact h, by rw [PyData.depth]; exact Nat.le_refl _⟩
/-! equality -/
def eqvL : List Dt → List Dt → Bool
  | [], [] => true
  | x :: xs, y :: ys => x.eqv y && eqvL xs ys
  | _, _ => false
theorem eqvL_of {n m : Nat} : ∀ {xs ys : List Dt} {ps qs : List PyData}, Dt.pys xs = some ps → Dt.pys ys = some qs → PyData.eqvAll ps qs = eqvL xs ys
  | [], [], _, _, e1, e2 => by
    rw [Dt.pys] at e1 e2; cases e1; cases e2; rw [PyData.eqvAll]; rfl
  | [], y :: ys, _, _, e1, e2 => by
    rw [Dt.pys] at e1
    rw [Dt.pys] at e2
    cases e1
    split at e2
    · cases e2; rw [PyData.eqvAll]; rfl
    · cases e2
  | x :: xs, [], _, _, e1, e2 => by
    rw [Dt.pys] at e1
    rw [Dt.pys] at e2
    cases e2
    split at e1
    · cases e1; rw [PyData.eqvAll]; rfl
    · cases e1
  | x :: xs, y :: ys, _, _, e1, e2 => by
    rw [Dt.pys] at e1
    rw [Dt.pys] at e2
    split at e1
    · rename_i p ps h1 h2
      cases e1
      split at e2
      · rename_i q qs h3 h4
        cases e2
        rw [PyData.eqvAll, eqvL_of (n := n) (m := m) h2 h4, ← Dt.eqv_of h1 h3]; rfl
      · cases e2
    · cases e1
theorem eqv_seq {xs ys : List Dt} (h1 : ∃ ps, Dt.pys xs = some ps) (h2 : ∃ ps, Dt.pys ys = some ps) : (Dt.tup xs).eqv (.tup ys) = eqvL xs ys ∧ (Dt.lst xs).eqv (.lst ys) = eqvL xs ys ∧ (Dt.tup xs).eqv (.lst ys) = false ∧ (Dt.lst xs).eqv (.tup ys) = false := by
  obtain ⟨ps, e1⟩ := h1
  obtain ⟨qs, e2⟩ := h2
  have a : (Dt.tup xs).py = some (.tuple ps) := by rw [Dt.py, e1]; rfl
  have b : (Dt.tup ys).py = some (.tuple qs) := by rw [Dt.py, e2]; rfl
  have c : (Dt.lst xs).py = some (.list ps) := by rw [Dt.py, e1]; rfl
  have d : (Dt.lst ys).py = some (.list qs) := by rw [Dt.py, e2]; rfl
  rw [Dt.eqv_of a b, Dt.eqv_of c d, Dt.eqv_of a d, Dt.eqv_of c b]
  refine ⟨?_, ?_, ?_, ?_⟩
  · rw [PyData.eqv]; exact eqvL_of (n := 0) (m := 0) e1 e2
  · rw [PyData.eqv]; exact eqvL_of (n := 0) (m := 0) e1 e2
  · rw [PyData.eqv]
  · rw [PyData.eqv]
theorem eqv_int (i j : Int) : (Dt.int i).eqv (.int j) = decide (i = j) := by
  rw [Dt.eqv_of (a := .int i) (b := .int j) (by rw [Dt.py]) (by rw [Dt.py]), PyData.eqv]; rfl
/-- a type whose things are data, equal exactly if they are -/
structure EqE {α : Type} [DecidableEq α] (e : α → Dt) (n : Nat) : Prop where
  sh : ∀ a, (e a).shN n
  eq : ∀ a b, (e a).eqv (e b) = decide (a = b)
theorem eqE_int : EqE Dt.int 0 := ⟨shN_int, eqv_int⟩
section
variable {α : Type} [DecidableEq α] {e : α → Dt} {n : Nat}
theorem EqE.pys (h : EqE e n) (xs : List α) : ∃ ps, Dt.pys (xs.map e) = some ps := by
  obtain ⟨ps, e1, _⟩ := shN_all (n := n) (xs := xs.map e) fun x hx => by
    obtain ⟨a, _, rfl⟩ := List.mem_map.mp hx
    exact h.sh a
  exact ⟨ps, e1⟩
theorem EqE.eqvL (h : EqE e n) : ∀ xs ys : List α, Mine.eqvL (xs.map e) (ys.map e) = decide (xs = ys)
  | [], [] => by simp [Mine.eqvL]
  | [], y :: ys => by simp [Mine.eqvL]
  | x :: xs, [] => by simp [Mine.eqvL]
  | x :: xs, y :: ys => by
    rw [List.map_cons, List.map_cons, Mine.eqvL, h.eq, EqE.eqvL h xs ys]
    by_cases a : x = y <;> by_cases b : xs = ys <;> simp [a, b]
theorem EqE.tup (h : EqE e n) : EqE (fun xs : List α => Dt.tup (xs.map e)) (n + 1) :=
  ⟨fun xs => shN_tup fun x hx => by obtain ⟨a, _, rfl⟩ := List.mem_map.mp hx; exact h.sh a, fun xs ys => by
    show (Dt.tup (xs.map e)).eqv (.tup (ys.map e)) = _
    rw [(eqv_seq (h.pys xs) (h.pys ys)).1]; exact h.eqvL xs ys⟩
theorem EqE.lst (h : EqE e n) : EqE (fun xs : List α => Dt.lst (xs.map e)) (n + 1) :=
  ⟨fun xs => shN_lst fun x hx => by obtain ⟨a, _, rfl⟩ := List.mem_map.mp hx; exact h.sh a, fun xs ys => by
    show (Dt.lst (xs.map e)).eqv (.lst (ys.map e)) = _
    rw [(eqv_seq (h.pys xs) (h.pys ys)).2.1]; exact h.eqvL xs ys⟩
theorem EqE.dEq (h : EqE e n) {a b : α} {Q : Dt → Prop} (q : Q (.bl (decide (a = b)))) (hn : n ≤ 64 := by decide) : dEq (e a) (e b) Q :=
  ⟨(h.sh a).sh hn, (h.sh b).sh hn, by rw [h.eq]; exact q⟩
theorem EqE.dNe (h : EqE e n) {a b : α} {Q : Dt → Prop} (q : Q (.bl (!decide (a = b)))) (hn : n ≤ 64 := by decide) : dNe (e a) (e b) Q :=
  ⟨(h.sh a).sh hn, (h.sh b).sh hn, by rw [h.eq]; exact q⟩
end
theorem eqE_T : EqE iT 1 := eqE_int.tup
theorem eqE_L : EqE iL 1 := eqE_int.lst
theorem dEq_int {i j : Int} {Q : Dt → Prop} : dEq (.int i) (.int j) Q = Q (.bl (decide (i = j))) := by
  refine propext ⟨fun h => ?_, fun h => eqE_int.dEq h⟩
  have := h.2.2
  rwa [eqv_int] at this
theorem dNe_int {i j : Int} {Q : Dt → Prop} : dNe (.int i) (.int j) Q = Q (.bl (!decide (i = j))) := by
  refine propext ⟨fun h => ?_, fun h => eqE_int.dNe h⟩
  have := h.2.2
  rwa [eqv_int] at this
/-! items -/
theorem ix_at {xs : List Dt} {k : Int} {n : Nat} {Q : Dt → Prop} (e : k = n) (h : n < xs.length) (q : Q xs[n]) : ∃ x, atI xs k = some x ∧ Q x :=
  ⟨xs[n], by rw [e]; exact atI_nat (by rw [List.getElem?_eq_getElem h]), q⟩
theorem ix_map {α : Type} {e : α → Dt} {xs : List α} {k : Int} {n : Nat} {Q : Dt → Prop} (hk : k = n) (h : n < xs.length) (q : Q (e xs[n])) : ∃ x, atI (xs.map e) k = some x ∧ Q x :=
  ix_at hk (by rw [List.length_map]; exact h) (by rw [List.getElem_map]; exact q)
end Mine
namespace Mine
open PySem PySem.Spec PyProof.Rows L2
/-- a comprehension by an invariant over what is made so far -/
theorem lc_inv {f : DGX} {tt : DTX} {te : DX} {env : List Sl} {Q : Dt → Prop} (I : Nat → List Dt → Prop) : ∀ {xs : List Dt} {acc : List Dt}, I 0 acc →
    (∀ (i : Nat) (x : Dt) (acc : List Dt) (K : List Dt → Prop), xs[i]? = some x → I i acc → (∀ a, I (i + 1) a → K a) → f x env fun env' => tt env' (fun b => if b = true then te env' (fun y => acc.length < 16777216 ∧ K (acc ++ [y])) (fun _ => False) else K acc) fun _ => False) →
    (∀ a, I xs.length a → Q (.lst a)) → lcGo f tt te env Q xs acc := by
  intro xs
  induction xs generalizing I with
  | nil => intro acc h0 _ fin; exact fin _ h0
  | cons x xs ih =>
    intro acc h0 step fin
    exact step 0 x acc (fun a => lcGo f tt te env Q xs a) rfl h0 fun a h1 => ih (fun i => I (i + 1)) h1 (fun i y acc K e1 => step (i + 1) y acc K (by simpa using e1)) fin
mutual
theorem Dt.eqv_self0 : ∀ {a : Dt} {p : PyData}, a.py = some p → PyData.eqv p p = true
  | .non, _, e => by rw [Dt.py] at e; cases e; rw [PyData.eqv]
  | .bl b, _, e => by rw [Dt.py] at e; cases e; rw [PyData.eqv]; simp
  | .int b, _, e => by rw [Dt.py] at e; cases e; rw [PyData.eqv]; simp
  | .str b, _, e => by rw [Dt.py] at e; cases e; rw [PyData.eqv]; simp
  | .tup xs, _, e => by
    rw [Dt.py, Option.map_eq_some_iff] at e
    obtain ⟨ps, e1, rfl⟩ := e
    rw [PyData.eqv]; exact Dt.eqv_selfs e1
  | .lst xs, _, e => by
    rw [Dt.py, Option.map_eq_some_iff] at e
    obtain ⟨ps, e1, rfl⟩ := e
    rw [PyData.eqv]; exact Dt.eqv_selfs e1
  | .dk _ _, _, e => by rw [Dt.py] at e <;> cases e
  | .ins _ _ _, _, e => by rw [Dt.py] at e <;> cases e
  | .raw _, _, e => by rw [Dt.py] at e <;> cases e
theorem Dt.eqv_selfs : ∀ {xs : List Dt} {ps : List PyData}, Dt.pys xs = some ps → PyData.eqvAll ps ps = true
  | [], _, e => by rw [Dt.pys] at e; cases e; rw [PyData.eqvAll]
  | x :: xs, _, e => by
    rw [Dt.pys] at e
    split at e
    · rename_i p ps h1 h2
      cases e
      rw [PyData.eqvAll, Dt.eqv_self0 h1, Dt.eqv_selfs h2]; rfl
    · cases e
end
theorem Dt.eqv_self {a : Dt} (h : a.sh) : a.eqv a = true := by
  obtain ⟨p, e, _⟩ := h
  rw [Dt.eqv_of e e]; exact Dt.eqv_self0 e
theorem dEq_self {a : Dt} {Q : Dt → Prop} (h : a.sh) (q : Q (.bl true)) : dEq a a Q := ⟨h, h, by rw [Dt.eqv_self h]; exact q⟩
theorem dNe_self {a : Dt} {Q : Dt → Prop} (h : a.sh) (q : Q (.bl false)) : dNe a a Q := ⟨h, h, by rw [Dt.eqv_self h]; exact q⟩
theorem rg_toNat (n : Nat) : ((n : Int)).toNat = n := by omega
theorem take_snoc {α : Type} {xs : List α} {i : Nat} {x : α} (h : xs[i]? = some x) : xs.take (i + 1) = xs.take i ++ [x] := by
  rw [List.take_add_one, h]; rfl
theorem map_get {α : Type} {e : α → Dt} {xs : List α} {i : Nat} {x : Dt} (h : (xs.map e)[i]? = some x) : ∃ a, xs[i]? = some a ∧ x = e a := by
  rw [List.getElem?_map, Option.map_eq_some_iff] at h
  obtain ⟨a, h1, h2⟩ := h
  exact ⟨a, h1, h2.symm⟩
theorem ix_get {xs : List Dt} {k : Int} {n : Nat} {x : Dt} {Q : Dt → Prop} (e : k = n) (h : xs[n]? = some x) (q : Q x) : ∃ x, atI xs k = some x ∧ Q x :=
  ⟨x, by rw [e]; exact atI_nat h, q⟩
end Mine
namespace Mine
open PySem PySem.Spec PyProof.Rows L2
theorem cutG_drop {α : Type} {xs : List α} {z : Int} {k : Nat} (e : z = k) : cutG xs (some z) none = xs.drop k := by
  subst e
  unfold cutG
  rw [HT.sIx_none, HT.sIx_nat]
  by_cases h : k ≤ xs.length
  · rw [Nat.min_eq_left h, List.take_of_length_le (by rw [List.length_drop]; omega)]
  · rw [Nat.min_eq_right (by omega), List.drop_of_length_le (Nat.le_refl _), List.drop_of_length_le (by omega), List.take_nil]
end Mine
namespace Mine
open PySem PySem.Spec PyProof.Rows L2
theorem ix_mem {xs : List Dt} {k : Nat} {Q : Dt → Prop} (h : k < xs.length) (q : ∀ x ∈ xs, Q x) : ∃ x, atI xs (k : Int) = some x ∧ Q x :=
  ix_get rfl (List.getElem?_eq_getElem h) (q _ (List.getElem_mem h))
end Mine

namespace Mine
open PySem PySem.Spec PyProof.Rows L2
/-! ### any thing: its kind -/
theorem kn_int (i : Int) : (Dt.int i).kind.isSome = true := rfl
theorem kn_bl (i : Bool) : (Dt.bl i).kind.isSome = true := rfl
theorem kn_non : (Dt.non).kind.isSome = true := rfl
theorem kn_str (i : Str) : (Dt.str i).kind.isSome = true := rfl
theorem kn_tup (i : List Dt) : (Dt.tup i).kind.isSome = true := rfl
theorem kn_lst (i : List Dt) : (Dt.lst i).kind.isSome = true := rfl
theorem kn_dt (i : List (List Key)) (j : List Dt) : (Dt.dt i j).kind.isSome = true := rfl
theorem isN_dt (i : List (List Key)) (j : List Dt) : Dt.isN (.dt i j) = false := rfl
theorem kn_dk (i : List Key) (j : List Dt) : (Dt.dk i j).kind.isSome = true := rfl
def isW : Dt → Bool
  | .int _ => true
  | _ => false
def isSeq : Dt → Bool
  | .lst _ => true
  | .tup _ => true
  | _ => false
def isTp : Dt → Bool
  | .tup _ => true
  | _ => false
def isSt : Dt → Bool
  | .str _ => true
  | _ => false
def isLs : Dt → Bool
  | .lst _ => true
  | _ => false
def itemsOf : Dt → List Dt
  | .lst xs => xs
  | .tup xs => xs
  | _ => []
/-- a whole number within bounds -/
def inB (lo hi : Int) : Dt → Bool
  | .int i => decide (lo ≤ i) && decide (i ≤ hi)
  | _ => false
theorem isa_int (a : Dt) : a.isa "int" = (isW a || (match a with | .bl _ => true | _ => false)) := by cases a <;> (unfold Dt.isa; rfl)
theorem isa_bool (a : Dt) : a.isa "bool" = (match a with | .bl _ => true | _ => false) := by cases a <;> (unfold Dt.isa; rfl)
theorem isa_tup (a : Dt) : a.isa "tuple" = isTp a := by cases a <;> (unfold Dt.isa; rfl)
theorem isa_str (a : Dt) : a.isa "str" = isSt a := by cases a <;> (unfold Dt.isa; rfl)
theorem isa_lst (a : Dt) : a.isa "list" = isLs a := by cases a <;> (unfold Dt.isa; rfl)
theorem isa_seq (a : Dt) : (a.isa "list" || a.isa "tuple") = isSeq a := by cases a <;> (unfold Dt.isa; rfl)
theorem isa_int_int (i : Int) : (Dt.int i).isa "int" = true := rfl
theorem isa_int_bool (i : Int) : (Dt.int i).isa "bool" = false := rfl
theorem isa_tup_tup (i : List Dt) : (Dt.tup i).isa "tuple" = true := rfl
theorem isa_bl_bool (i : Bool) : (Dt.bl i).isa "bool" = true := rfl
theorem isa_seq_tup (i : List Dt) : ((Dt.tup i).isa "list" || (Dt.tup i).isa "tuple") = true := rfl
theorem isa_seq_lst (i : List Dt) : ((Dt.lst i).isa "list" || (Dt.lst i).isa "tuple") = true := rfl
theorem isa_seq2 (a : Dt) : (isLs a || isTp a) = isSeq a := by cases a <;> rfl
section
variable {i j : Int} {x y : List Dt} {u v : Str} {Q : Dt → Prop}
theorem dAdd_int : dAdd (.int i) (.int j) Q = Q (.int (i + j)) := rfl
theorem dAdd_lst : dAdd (.lst x) (.lst y) Q = (x.length + y.length ≤ 16777216 ∧ Q (.lst (x ++ y))) := rfl
theorem dAdd_tup : dAdd (.tup x) (.tup y) Q = (x.length + y.length ≤ 16777216 ∧ Q (.tup (x ++ y))) := rfl
theorem dAdd_str : dAdd (.str u) (.str v) Q = (u.length + v.length ≤ 16777216 ∧ Q (.str (u ++ v))) := rfl
theorem dAddL_lst : dAddL (.lst x) (.lst y) Q = (x.length + y.length ≤ 16777216 ∧ Q (.lst (x ++ y))) := rfl
theorem dSub_int : dSub (.int i) (.int j) Q = Q (.int (i - j)) := rfl
theorem dMul_int : dMul (.int i) (.int j) Q = (CMul i j ∧ Q (.int (i * j))) := rfl
theorem dMul_lst : dMul (.lst x) (.int j) Q = ((-(2 ^ 63) ≤ j ∧ j < 2 ^ 63 ∧ x.length * j.toNat ≤ 16777216) ∧ Q (.lst (List.replicate j.toNat x).flatten)) := rfl
theorem dMulL_lst : dMulL (.lst x) (.int j) Q = ((-(2 ^ 63) ≤ j ∧ j < 2 ^ 63 ∧ x.length * j.toNat ≤ 16777216) ∧ Q (.lst (List.replicate j.toNat x).flatten)) := rfl
theorem dMul_tup : dMul (.tup x) (.int j) Q = ((x ≠ [] ∧ -(2 ^ 62) ≤ j ∧ j ≤ 1000 ∧ x.length ≤ 1000) ∧ Q (.tup (List.replicate j.toNat x).flatten)) := rfl
theorem dFdiv_int : dFdiv (.int i) (.int j) Q = (CDiv i j ∧ Q (.int (i / j))) := rfl
theorem dMod_int : dMod (.int i) (.int j) Q = (0 < j ∧ Q (.int (i % j))) := rfl
theorem dPow_int : dPow (.int i) (.int j) Q = (CPow i j ∧ Q (.int (i ^ j.toNat))) := rfl
theorem dShl_int : dShl (.int i) (.int j) Q = (CPow i j ∧ Q (.int (i * 2 ^ j.toNat))) := rfl
theorem dShr_int : dShr (.int i) (.int j) Q = (0 ≤ j ∧ Q (.int (i / 2 ^ j.toNat))) := rfl
theorem dLe_int : dLe (.int i) (.int j) Q = Q (.bl (decide (i ≤ j))) := rfl
theorem dLt_int : dLt (.int i) (.int j) Q = Q (.bl (decide (i < j))) := rfl
theorem dGt_int : dGt (.int i) (.int j) Q = Q (.bl (decide (j < i))) := rfl
theorem dGe_int : dGe (.int i) (.int j) Q = Q (.bl (decide (j ≤ i))) := rfl
theorem dNeg_int : dNeg (.int i) Q = Q (.int (-i)) := rfl
end
theorem isSeq_lst (x : List Dt) : isSeq (.lst x) = true := rfl
theorem isSeq_tup (x : List Dt) : isSeq (.tup x) = true := rfl
theorem isTp_tup (x : List Dt) : isTp (.tup x) = true := rfl
theorem isTp_lst (x : List Dt) : isTp (.lst x) = false := rfl
theorem isLs_lst (x : List Dt) : isLs (.lst x) = true := rfl
theorem isLs_tup (x : List Dt) : isLs (.tup x) = false := rfl
theorem isN_non : Dt.isN .non = true := rfl
theorem isN_int (i : Int) : Dt.isN (.int i) = false := rfl
theorem isN_bl (i : Bool) : Dt.isN (.bl i) = false := rfl
theorem isN_str (i : Str) : Dt.isN (.str i) = false := rfl
theorem isN_tup (i : List Dt) : Dt.isN (.tup i) = false := rfl
theorem isN_lst (i : List Dt) : Dt.isN (.lst i) = false := rfl
theorem isN_dk (i : List Key) (j : List Dt) : Dt.isN (.dk i j) = false := rfl
theorem isN_ins (c : Str) (i : List Str) (j : List Dt) : Dt.isN (.ins c i j) = false := rfl
theorem line0 : ((0 : Nat) ≤ 16777216) = True := eq_true (by decide)
theorem line1 : ((1 : Nat) ≤ 16777216) = True := eq_true (by decide)
theorem line2 : ((2 : Nat) ≤ 16777216) = True := eq_true (by decide)
theorem line3 : ((3 : Nat) ≤ 16777216) = True := eq_true (by decide)
theorem line4 : ((4 : Nat) ≤ 16777216) = True := eq_true (by decide)
theorem line5 : ((5 : Nat) ≤ 16777216) = True := eq_true (by decide)
theorem line6 : ((6 : Nat) ≤ 16777216) = True := eq_true (by decide)
theorem line7 : ((7 : Nat) ≤ 16777216) = True := eq_true (by decide)
theorem line8 : ((8 : Nat) ≤ 16777216) = True := eq_true (by decide)
theorem line9 : ((9 : Nat) ≤ 16777216) = True := eq_true (by decide)
theorem line10 : ((10 : Nat) ≤ 16777216) = True := eq_true (by decide)
theorem line11 : ((11 : Nat) ≤ 16777216) = True := eq_true (by decide)
theorem line12 : ((12 : Nat) ≤ 16777216) = True := eq_true (by decide)
theorem dTru_non {Q : Bool → Prop} : dTru .non Q = Q false := rfl
theorem dTru_bl {b : Bool} {Q : Bool → Prop} : dTru (.bl b) Q = Q b := rfl
theorem dTru_int {i : Int} {Q : Bool → Prop} : dTru (.int i) Q = Q (i != 0) := rfl
theorem dTru_lst {x : List Dt} {Q : Bool → Prop} : dTru (.lst x) Q = Q (!x.isEmpty) := rfl
theorem dTru_tup {x : List Dt} {Q : Bool → Prop} : dTru (.tup x) Q = Q (!x.isEmpty) := rfl
theorem dTru_str {x : Str} {Q : Bool → Prop} : dTru (.str x) Q = (x.length ≤ 16777216 ∧ Q ((x.length : Int) != 0)) := rfl
theorem dTru_dk {x : List Key} {y : List Dt} {Q : Bool → Prop} : dTru (.dk x y) Q = Q (!x.isEmpty) := rfl
theorem isTp_non : isTp .non = false := rfl
theorem isTp_int (i : Int) : isTp (.int i) = false := rfl
theorem isTp_str (i : Str) : isTp (.str i) = false := rfl
theorem isW_int (i : Int) : isW (.int i) = true := rfl
/-- a thing that may be asked for its items -/
theorem seq_or {a : Dt} : (∃ xs, a = .lst xs) ∨ (∃ xs, a = .tup xs) ∨ isSeq a = false := by
  cases a <;> first | exact .inl ⟨_, rfl⟩ | exact .inr (.inl ⟨_, rfl⟩) | exact .inr (.inr rfl)
/-- the first place of an item that is not as it should be -/
def badAt (p : Dt → Bool) (xs : List Dt) : Option Nat := xs.findIdx? fun x => !p x
theorem badAt_none {p : Dt → Bool} {xs : List Dt} (h : ∀ (j : Nat) x, xs[j]? = some x → p x = true) : badAt p xs = none := by
  unfold badAt
  rw [List.findIdx?_eq_none_iff]
  intro x hx
  obtain ⟨j, hj⟩ := List.mem_iff_getElem?.mp hx
  rw [h j x hj]; rfl
theorem badAt_some {p : Dt → Bool} {xs : List Dt} {i : Nat} {y : Dt} (h : ∀ (j : Nat) x, j < i → xs[j]? = some x → p x = true) (hy : xs[i]? = some y) (hp : p y = false) : badAt p xs = some i := by
  unfold badAt
  rw [List.findIdx?_eq_some_iff_getElem]
  obtain ⟨hl, he⟩ := List.getElem?_eq_some_iff.mp hy
  refine ⟨hl, by rw [he, hp]; rfl, fun j hj => ?_⟩
  rw [h j _ hj (List.getElem?_eq_getElem (Nat.lt_trans hj hl))]; decide
theorem badAt_map {p : Dt → Bool} {α : Type} {e : α → Dt} {xs : List α} (h : ∀ a ∈ xs, p (e a) = true) : badAt p (xs.map e) = none :=
  badAt_none fun j x hx => by
    obtain ⟨a, ha, rfl⟩ := List.mem_map.mp (List.mem_of_getElem? hx)
    exact h a ha
/-- the index due of a word that is refused -/
def badWord (q : Int) (m : Nat) (a : Dt) : Option Int := match isSeq a with
  | false => some (-1)
  | true => if m < (itemsOf a).length then some (-1) else (badAt (inB 0 (q - 1)) (itemsOf a)).map fun i : Nat => (i : Int)
theorem enum_get {xs : List Dt} {i : Nat} {x : Dt} (h : (xs.mapIdx fun i x => Dt.tup [.int (i : Nat), x])[i]? = some x) : ∃ y, xs[i]? = some y ∧ x = .tup [.int (i : Nat), y] := by
  rw [List.getElem?_mapIdx, Option.map_eq_some_iff] at h
  obtain ⟨y, h1, h2⟩ := h
  exact ⟨y, h1, h2.symm⟩
theorem rng_get {n i : Nat} {x : Dt} (h : ((List.range n).map fun i => Dt.int (i : Nat))[i]? = some x) : i < n ∧ x = .int (i : Nat) := by
  rw [List.getElem?_map, Option.map_eq_some_iff] at h
  obtain ⟨y, h1, h2⟩ := h
  obtain ⟨hl, e⟩ := List.getElem?_eq_some_iff.mp h1
  rw [List.length_range] at hl
  rw [List.getElem_range] at e
  exact ⟨hl, by rw [← h2, e]⟩
end Mine

namespace Mine
open PySem PySem.Spec PyProof.Rows L2
/-! ### dicts as tables -/
section
variable {κ : Type} [DecidableEq κ]
theorem putKs_mem {j k : κ} : ∀ {ks : List κ}, k ∈ putKs ks j ↔ k ∈ ks ∨ k = j
  | [] => by simp [putKs]
  | a :: ks => by
    unfold putKs
    by_cases c : a = j
    · rw [if_pos c]
      refine ⟨.inl, fun h => h.elim id fun e => ?_⟩
      rw [e, ← c]; exact List.mem_cons_self
    · rw [if_neg c, List.mem_cons, List.mem_cons, putKs_mem (ks := ks), or_assoc]
theorem putKs_nodup {j : κ} : ∀ {ks : List κ}, ks.Nodup → (putKs ks j).Nodup
  | [], _ => by simp [putKs]
  | a :: ks, h => by
    have h2 := List.nodup_cons.mp h
    unfold putKs
    by_cases c : a = j
    · rw [if_pos c]; exact h
    · rw [if_neg c]
      refine List.nodup_cons.mpr ⟨fun m => ?_, putKs_nodup h2.2⟩
      rcases putKs_mem.mp m with m | m
      · exact h2.1 m
      · exact c m
theorem putKs_len {j : κ} : ∀ {ks : List κ}, (putKs ks j).length ≤ ks.length + 1
  | [] => Nat.le_refl _
  | a :: ks => by
    unfold putKs
    split
    · exact Nat.le_succ _
    · rw [List.length_cons, List.length_cons]; exact Nat.succ_le_succ putKs_len
theorem put_len {j : κ} {y : Dt} : ∀ {ks : List κ} {ds : List Dt}, ks.length = ds.length → (putKs ks j).length = (putVs ks ds j y).length
  | [], [], _ => rfl
  | a :: ks, d :: ds, h => by
    unfold putKs putVs
    split
    · simpa using h
    · rw [List.length_cons, List.length_cons, put_len (by simpa using h)]
theorem valD_put {j k : κ} {y : Dt} : ∀ {ks : List κ} {ds : List Dt}, ks.length = ds.length → valD (putKs ks j) (putVs ks ds j y) k = if k = j then some y else valD ks ds k
  | [], [], _ => by
    show (if j = k then some y else none) = if k = j then some y else none
    by_cases c : k = j
    · rw [if_pos c, if_pos c.symm]
    · rw [if_neg c, if_neg fun e => c e.symm]
  | a :: ks, d :: ds, h => by
    unfold putKs putVs
    by_cases c : a = j
    · rw [if_pos c, if_pos c]
      unfold valD
      by_cases c2 : a = k
      · rw [if_pos c2, if_pos (c2 ▸ c)]
      · rw [if_neg c2, if_neg fun e => c2 (c.trans e.symm), if_neg c2]
    · rw [if_neg c, if_neg c]
      show (if a = k then some d else valD (putKs ks j) (putVs ks ds j y) k) = _
      rw [valD_put (by simpa using h)]
      show _ = if k = j then some y else if a = k then some d else valD ks ds k
      by_cases c2 : a = k
      · rw [if_pos c2, if_pos c2, if_neg fun e => c (c2.trans e)]
      · rw [if_neg c2, if_neg c2]
/-- the dict ks, ds is this table, with at most n keys -/
structure Tb (ks : List κ) (ds : List Dt) (f : κ → Option Dt) (n : Nat) : Prop where
  nd : ks.Nodup
  len : ks.length = ds.length
  few : ks.length ≤ n
  val : ∀ k, valD ks ds k = f k
theorem Tb.nil : Tb ([] : List κ) [] (fun _ => none) 0 := ⟨List.nodup_nil, rfl, Nat.le_refl _, fun _ => rfl⟩
theorem Tb.put {ks : List κ} {ds : List Dt} {f : κ → Option Dt} {n : Nat} (h : Tb ks ds f n) (j : κ) (y : Dt) : Tb (putKs ks j) (putVs ks ds j y) (fun k => if k = j then some y else f k) (n + 1) :=
  ⟨putKs_nodup h.nd, put_len h.len, Nat.le_trans putKs_len (Nat.succ_le_succ h.few), fun k => by rw [valD_put h.len, h.val]⟩
theorem Tb.congr {ks : List κ} {ds : List Dt} {f g : κ → Option Dt} {n m : Nat} (h : Tb ks ds f n) (e : ∀ k, f k = g k) (l : n ≤ m) : Tb ks ds g m := ⟨h.nd, h.len, Nat.le_trans h.few l, fun k => (h.val k).trans (e k)⟩
end
end Mine

namespace Mine
open PySem PySem.Spec PyProof.Rows L2
def mt (a b : Str) : Option Bool :=
  if a = "BadBook" ∧ b = "BadBook" then some true else
  if a = "BadBook" ∧ b = "BadModulus" then some false else
  if a = "BadBook" ∧ b = "BadNumber" then some false else
  if a = "BadBook" ∧ b = "BadRest" then some false else
  if a = "BadBook" ∧ b = "BadWord" then some false else
  if a = "BadBook" ∧ b = "NotPerfect" then some false else
  if a = "BadBook" ∧ b = "TooMany" then some false else
  if a = "BadModulus" ∧ b = "BadBook" then some false else
  if a = "BadModulus" ∧ b = "BadModulus" then some true else
  if a = "BadModulus" ∧ b = "BadNumber" then some false else
  if a = "BadModulus" ∧ b = "BadRest" then some false else
  if a = "BadModulus" ∧ b = "BadWord" then some false else
  if a = "BadModulus" ∧ b = "NotPerfect" then some false else
  if a = "BadModulus" ∧ b = "TooMany" then some false else
  if a = "BadNumber" ∧ b = "BadBook" then some false else
  if a = "BadNumber" ∧ b = "BadModulus" then some false else
  if a = "BadNumber" ∧ b = "BadNumber" then some true else
  if a = "BadNumber" ∧ b = "BadRest" then some false else
  if a = "BadNumber" ∧ b = "BadWord" then some false else
  if a = "BadNumber" ∧ b = "NotPerfect" then some false else
  if a = "BadNumber" ∧ b = "TooMany" then some false else
  if a = "BadRest" ∧ b = "BadBook" then some false else
  if a = "BadRest" ∧ b = "BadModulus" then some false else
  if a = "BadRest" ∧ b = "BadNumber" then some false else
  if a = "BadRest" ∧ b = "BadRest" then some true else
  if a = "BadRest" ∧ b = "BadWord" then some false else
  if a = "BadRest" ∧ b = "NotPerfect" then some false else
  if a = "BadRest" ∧ b = "TooMany" then some false else
  if a = "BadWord" ∧ b = "BadBook" then some false else
  if a = "BadWord" ∧ b = "BadModulus" then some false else
  if a = "BadWord" ∧ b = "BadNumber" then some false else
  if a = "BadWord" ∧ b = "BadRest" then some false else
  if a = "BadWord" ∧ b = "BadWord" then some true else
  if a = "BadWord" ∧ b = "NotPerfect" then some false else
  if a = "BadWord" ∧ b = "TooMany" then some false else
  if a = "NotPerfect" ∧ b = "BadBook" then some false else
  if a = "NotPerfect" ∧ b = "BadModulus" then some false else
  if a = "NotPerfect" ∧ b = "BadNumber" then some false else
  if a = "NotPerfect" ∧ b = "BadRest" then some false else
  if a = "NotPerfect" ∧ b = "BadWord" then some false else
  if a = "NotPerfect" ∧ b = "NotPerfect" then some true else
  if a = "NotPerfect" ∧ b = "TooMany" then some false else
  if a = "TooMany" ∧ b = "BadBook" then some false else
  if a = "TooMany" ∧ b = "BadModulus" then some false else
  if a = "TooMany" ∧ b = "BadNumber" then some false else
  if a = "TooMany" ∧ b = "BadRest" then some false else
  if a = "TooMany" ∧ b = "BadWord" then some false else
  if a = "TooMany" ∧ b = "NotPerfect" then some false else
  if a = "TooMany" ∧ b = "TooMany" then some true else
  none
theorem mt_BadBook_BadBook : mt "BadBook" "BadBook" = some true := by decide +kernel
theorem mt_BadBook_BadModulus : mt "BadBook" "BadModulus" = some false := by decide +kernel
theorem mt_BadBook_BadNumber : mt "BadBook" "BadNumber" = some false := by decide +kernel
theorem mt_BadBook_BadRest : mt "BadBook" "BadRest" = some false := by decide +kernel
theorem mt_BadBook_BadWord : mt "BadBook" "BadWord" = some false := by decide +kernel
theorem mt_BadBook_NotPerfect : mt "BadBook" "NotPerfect" = some false := by decide +kernel
theorem mt_BadBook_TooMany : mt "BadBook" "TooMany" = some false := by decide +kernel
theorem mt_BadModulus_BadBook : mt "BadModulus" "BadBook" = some false := by decide +kernel
theorem mt_BadModulus_BadModulus : mt "BadModulus" "BadModulus" = some true := by decide +kernel
theorem mt_BadModulus_BadNumber : mt "BadModulus" "BadNumber" = some false := by decide +kernel
theorem mt_BadModulus_BadRest : mt "BadModulus" "BadRest" = some false := by decide +kernel
theorem mt_BadModulus_BadWord : mt "BadModulus" "BadWord" = some false := by decide +kernel
theorem mt_BadModulus_NotPerfect : mt "BadModulus" "NotPerfect" = some false := by decide +kernel
theorem mt_BadModulus_TooMany : mt "BadModulus" "TooMany" = some false := by decide +kernel
theorem mt_BadNumber_BadBook : mt "BadNumber" "BadBook" = some false := by decide +kernel
theorem mt_BadNumber_BadModulus : mt "BadNumber" "BadModulus" = some false := by decide +kernel
theorem mt_BadNumber_BadNumber : mt "BadNumber" "BadNumber" = some true := by decide +kernel
theorem mt_BadNumber_BadRest : mt "BadNumber" "BadRest" = some false := by decide +kernel
theorem mt_BadNumber_BadWord : mt "BadNumber" "BadWord" = some false := by decide +kernel
theorem mt_BadNumber_NotPerfect : mt "BadNumber" "NotPerfect" = some false := by decide +kernel
theorem mt_BadNumber_TooMany : mt "BadNumber" "TooMany" = some false := by decide +kernel
theorem mt_BadRest_BadBook : mt "BadRest" "BadBook" = some false := by decide +kernel
theorem mt_BadRest_BadModulus : mt "BadRest" "BadModulus" = some false := by decide +kernel
theorem mt_BadRest_BadNumber : mt "BadRest" "BadNumber" = some false := by decide +kernel
theorem mt_BadRest_BadRest : mt "BadRest" "BadRest" = some true := by decide +kernel
theorem mt_BadRest_BadWord : mt "BadRest" "BadWord" = some false := by decide +kernel
theorem mt_BadRest_NotPerfect : mt "BadRest" "NotPerfect" = some false := by decide +kernel
theorem mt_BadRest_TooMany : mt "BadRest" "TooMany" = some false := by decide +kernel
theorem mt_BadWord_BadBook : mt "BadWord" "BadBook" = some false := by decide +kernel
theorem mt_BadWord_BadModulus : mt "BadWord" "BadModulus" = some false := by decide +kernel
theorem mt_BadWord_BadNumber : mt "BadWord" "BadNumber" = some false := by decide +kernel
theorem mt_BadWord_BadRest : mt "BadWord" "BadRest" = some false := by decide +kernel
theorem mt_BadWord_BadWord : mt "BadWord" "BadWord" = some true := by decide +kernel
theorem mt_BadWord_NotPerfect : mt "BadWord" "NotPerfect" = some false := by decide +kernel
theorem mt_BadWord_TooMany : mt "BadWord" "TooMany" = some false := by decide +kernel
theorem mt_NotPerfect_BadBook : mt "NotPerfect" "BadBook" = some false := by decide +kernel
theorem mt_NotPerfect_BadModulus : mt "NotPerfect" "BadModulus" = some false := by decide +kernel
theorem mt_NotPerfect_BadNumber : mt "NotPerfect" "BadNumber" = some false := by decide +kernel
theorem mt_NotPerfect_BadRest : mt "NotPerfect" "BadRest" = some false := by decide +kernel
theorem mt_NotPerfect_BadWord : mt "NotPerfect" "BadWord" = some false := by decide +kernel
theorem mt_NotPerfect_NotPerfect : mt "NotPerfect" "NotPerfect" = some true := by decide +kernel
theorem mt_NotPerfect_TooMany : mt "NotPerfect" "TooMany" = some false := by decide +kernel
theorem mt_TooMany_BadBook : mt "TooMany" "BadBook" = some false := by decide +kernel
theorem mt_TooMany_BadModulus : mt "TooMany" "BadModulus" = some false := by decide +kernel
theorem mt_TooMany_BadNumber : mt "TooMany" "BadNumber" = some false := by decide +kernel
theorem mt_TooMany_BadRest : mt "TooMany" "BadRest" = some false := by decide +kernel
theorem mt_TooMany_BadWord : mt "TooMany" "BadWord" = some false := by decide +kernel
theorem mt_TooMany_NotPerfect : mt "TooMany" "NotPerfect" = some false := by decide +kernel
theorem mt_TooMany_TooMany : mt "TooMany" "TooMany" = some true := by decide +kernel
def tab_PlaceError (a : Str) : Option Bool :=
  if a = "BadBook" then some true else
  if a = "BadModulus" then some true else
  if a = "BadNumber" then some true else
  if a = "BadRest" then some true else
  if a = "BadWord" then some true else
  if a = "NotPerfect" then some true else
  if a = "TooMany" then some true else
  none
theorem tab_PlaceError_BadBook : tab_PlaceError "BadBook" = some true := by decide +kernel
theorem tab_PlaceError_BadModulus : tab_PlaceError "BadModulus" = some true := by decide +kernel
theorem tab_PlaceError_BadNumber : tab_PlaceError "BadNumber" = some true := by decide +kernel
theorem tab_PlaceError_BadRest : tab_PlaceError "BadRest" = some true := by decide +kernel
theorem tab_PlaceError_BadWord : tab_PlaceError "BadWord" = some true := by decide +kernel
theorem tab_PlaceError_NotPerfect : tab_PlaceError "NotPerfect" = some true := by decide +kernel
theorem tab_PlaceError_TooMany : tab_PlaceError "TooMany" = some true := by decide +kernel
def ftab (a f : Str) : Bool :=
  if a = "Book" ∧ f = "letters" then true else
  if a = "Book" ∧ f = "length" then true else
  if a = "Book" ∧ f = "words" then true else
  if a = "Book" ∧ f = "size" then true else
  if a = "SumBook" ∧ f = "length" then true else
  if a = "SumBook" ∧ f = "modulus" then true else
  if a = "SumBook" ∧ f = "rest" then true else
  false
theorem ftab_Book_letters : ftab "Book" "letters" = true := by decide +kernel
theorem ftab_Book_length : ftab "Book" "length" = true := by decide +kernel
theorem ftab_Book_words : ftab "Book" "words" = true := by decide +kernel
theorem ftab_Book_size : ftab "Book" "size" = true := by decide +kernel
theorem ftab_SumBook_length : ftab "SumBook" "length" = true := by decide +kernel
theorem ftab_SumBook_modulus : ftab "SumBook" "modulus" = true := by decide +kernel
theorem ftab_SumBook_rest : ftab "SumBook" "rest" = true := by decide +kernel
theorem look_Book_letters {x0 x1 x2 x3 : Dt} : (List.zip (["letters", "length", "words", "size"] : List Str) [x0, x1, x2, x3]).lookup ("letters" : Str) = some x0 := rfl
theorem putN_Book_letters : putNs "letters" ([] : List Str) = (["letters"] : List Str) := by decide +kernel
theorem putD_Book_letters { y : Dt} : putDs "letters" y ([] : List Str) [] = [y] := rfl
theorem look_Book_length {x0 x1 x2 x3 : Dt} : (List.zip (["letters", "length", "words", "size"] : List Str) [x0, x1, x2, x3]).lookup ("length" : Str) = some x1 := rfl
theorem putN_Book_length : putNs "length" (["letters"] : List Str) = (["letters", "length"] : List Str) := by decide +kernel
theorem putD_Book_length {x0 y : Dt} : putDs "length" y (["letters"] : List Str) [x0] = [x0, y] := rfl
theorem look_Book_words {x0 x1 x2 x3 : Dt} : (List.zip (["letters", "length", "words", "size"] : List Str) [x0, x1, x2, x3]).lookup ("words" : Str) = some x2 := rfl
theorem putN_Book_words : putNs "words" (["letters", "length"] : List Str) = (["letters", "length", "words"] : List Str) := by decide +kernel
theorem putD_Book_words {x0 x1 y : Dt} : putDs "words" y (["letters", "length"] : List Str) [x0, x1] = [x0, x1, y] := rfl
theorem look_Book_size {x0 x1 x2 x3 : Dt} : (List.zip (["letters", "length", "words", "size"] : List Str) [x0, x1, x2, x3]).lookup ("size" : Str) = some x3 := rfl
theorem putN_Book_size : putNs "size" (["letters", "length", "words"] : List Str) = (["letters", "length", "words", "size"] : List Str) := by decide +kernel
theorem putD_Book_size {x0 x1 x2 y : Dt} : putDs "size" y (["letters", "length", "words"] : List Str) [x0, x1, x2] = [x0, x1, x2, y] := rfl
theorem look_Book_has {x0 x1 x2 x3 : Dt} : (List.zip (["letters", "length", "words", "size"] : List Str) [x0, x1, x2, x3]).lookup ("has" : Str) = none := rfl
theorem look_Book_put {x0 x1 x2 x3 : Dt} : (List.zip (["letters", "length", "words", "size"] : List Str) [x0, x1, x2, x3]).lookup ("put" : Str) = none := rfl
theorem look_Book_struck {x0 x1 x2 x3 : Dt} : (List.zip (["letters", "length", "words", "size"] : List Str) [x0, x1, x2, x3]).lookup ("struck" : Str) = none := rfl
theorem look_Book_turned {x0 x1 x2 x3 : Dt} : (List.zip (["letters", "length", "words", "size"] : List Str) [x0, x1, x2, x3]).lookup ("turned" : Str) = none := rfl
theorem look_Book_contrary {x0 x1 x2 x3 : Dt} : (List.zip (["letters", "length", "words", "size"] : List Str) [x0, x1, x2, x3]).lookup ("contrary" : Str) = none := rfl
theorem look_Book_joined {x0 x1 x2 x3 : Dt} : (List.zip (["letters", "length", "words", "size"] : List Str) [x0, x1, x2, x3]).lookup ("joined" : Str) = none := rfl
theorem look_Book_stretched {x0 x1 x2 x3 : Dt} : (List.zip (["letters", "length", "words", "size"] : List Str) [x0, x1, x2, x3]).lookup ("stretched" : Str) = none := rfl
theorem look_SumBook_length {x0 x1 x2 : Dt} : (List.zip (["length", "modulus", "rest"] : List Str) [x0, x1, x2]).lookup ("length" : Str) = some x0 := rfl
theorem putN_SumBook_length : putNs "length" ([] : List Str) = (["length"] : List Str) := by decide +kernel
theorem putD_SumBook_length { y : Dt} : putDs "length" y ([] : List Str) [] = [y] := rfl
theorem look_SumBook_modulus {x0 x1 x2 : Dt} : (List.zip (["length", "modulus", "rest"] : List Str) [x0, x1, x2]).lookup ("modulus" : Str) = some x1 := rfl
theorem putN_SumBook_modulus : putNs "modulus" (["length"] : List Str) = (["length", "modulus"] : List Str) := by decide +kernel
theorem putD_SumBook_modulus {x0 y : Dt} : putDs "modulus" y (["length"] : List Str) [x0] = [x0, y] := rfl
theorem look_SumBook_rest {x0 x1 x2 : Dt} : (List.zip (["length", "modulus", "rest"] : List Str) [x0, x1, x2]).lookup ("rest" : Str) = some x2 := rfl
theorem putN_SumBook_rest : putNs "rest" (["length", "modulus"] : List Str) = (["length", "modulus", "rest"] : List Str) := by decide +kernel
theorem putD_SumBook_rest {x0 x1 y : Dt} : putDs "rest" y (["length", "modulus"] : List Str) [x0, x1] = [x0, x1, y] := rfl
theorem look_SumBook_has {x0 x1 x2 : Dt} : (List.zip (["length", "modulus", "rest"] : List Str) [x0, x1, x2]).lookup ("has" : Str) = none := rfl
theorem look_SumBook_contrary {x0 x1 x2 : Dt} : (List.zip (["length", "modulus", "rest"] : List Str) [x0, x1, x2]).lookup ("contrary" : Str) = none := rfl
theorem look_SumBook_turned {x0 x1 x2 : Dt} : (List.zip (["length", "modulus", "rest"] : List Str) [x0, x1, x2]).lookup ("turned" : Str) = none := rfl
def tabI_Book (a : Str) : Option Bool :=
  if a = "Book" then some true else
  if a = "SumBook" then some false else
  none
theorem tabI_Book_Book : tabI_Book "Book" = some true := by decide +kernel
theorem tabI_Book_SumBook : tabI_Book "SumBook" = some false := by decide +kernel
def tabI_SumBook (a : Str) : Option Bool :=
  if a = "Book" then some false else
  if a = "SumBook" then some true else
  none
theorem tabI_SumBook_Book : tabI_SumBook "Book" = some false := by decide +kernel
theorem tabI_SumBook_SumBook : tabI_SumBook "SumBook" = some true := by decide +kernel
def eqsL : List Str := ["Book", "SumBook"]
def S_Book___eq : DSt := (sRet (eAndV (eIsI tabI_Book (eVarB 1)) (eAndV (eOp dEq (eFld ftab "letters" (eVarB 0)) (eFld ftab "letters" (eVarB 1))) (eAndV (eOp dEq (eFld ftab "length" (eVarB 0)) (eFld ftab "length" (eVarB 1))) (eOp dEq (eFld ftab "words" (eVarB 0)) (eFld ftab "words" (eVarB 1)))))))
theorem F_Book___eq_ex : ∃ x : DFn, x = mkD0 2 2 S_Book___eq := ⟨_, rfl⟩
noncomputable def F_Book___eq : DFn := F_Book___eq_ex.choose
theorem F_Book___eq_eq : F_Book___eq = mkD0 2 2 S_Book___eq := F_Book___eq_ex.choose_spec
def S_SumBook___eq : DSt := (sRet (eAndV (eIsI tabI_SumBook (eVarB 1)) (eAndV (eOp dEq (eFld ftab "length" (eVarB 0)) (eFld ftab "length" (eVarB 1))) (eAndV (eOp dEq (eFld ftab "modulus" (eVarB 0)) (eFld ftab "modulus" (eVarB 1))) (eOp dEq (eFld ftab "rest" (eVarB 0)) (eFld ftab "rest" (eVarB 1)))))))
theorem F_SumBook___eq_ex : ∃ x : DFn, x = mkD0 2 2 S_SumBook___eq := ⟨_, rfl⟩
noncomputable def F_SumBook___eq : DFn := F_SumBook___eq_ex.choose
theorem F_SumBook___eq_eq : F_SumBook___eq = mkD0 2 2 S_SumBook___eq := F_SumBook___eq_ex.choose_spec
def tabN (a : Str) : Option Nat :=
  if a = "Book" then some 0 else
  if a = "SumBook" then some 1 else
  none
noncomputable def tabE (a : Str) : Option DFn := (tabN a).bind fun i => [F_Book___eq, F_SumBook___eq][i]?
def tabC (a : Str) : Bool := (tabN a).isSome
theorem tabN_Book : tabN "Book" = some 0 := by decide +kernel
theorem tabE_Book : tabE "Book" = some F_Book___eq := by unfold tabE; rw [tabN_Book]; rfl
theorem tabC_Book : tabC "Book" = true := by unfold tabC; rw [tabN_Book]; rfl
theorem tabN_SumBook : tabN "SumBook" = some 1 := by decide +kernel
theorem tabE_SumBook : tabE "SumBook" = some F_SumBook___eq := by unfold tabE; rw [tabN_SumBook]; rfl
theorem tabC_SumBook : tabC "SumBook" = true := by unfold tabC; rw [tabN_SumBook]; rfl
theorem tabN_mem : ∀ a i, tabN a = some i → a ∈ eqsL := by
  intro a i h
  unfold tabN at h
  by_cases c : a = "Book"
  · subst c; decide +kernel
  rw [if_neg c] at h; clear c
  by_cases c : a = "SumBook"
  · subst c; decide +kernel
  rw [if_neg c] at h; clear c
  cases h
def S_law_book_of : DSt := (sSeq (sAsg (eOp dIx (eLst (eCons (eC (.int 0)) (eCons (eC (.int 0)) (eCons (eC (.int 0)) (eCons (eC (.int 0)) (eCons (eC (.int 1)) (eCons (eOp dAdd (eC (.int 1)) (eCall0 F_law_take [] (eConsH 0 (eConsS (eOp dAdd (eVarB 1) (eC (.int 2))) eNil)))) (eCons (eCall0 F_law_take [] (eConsH 0 (eConsS (eOp dSub (eC (.int (1000000))) (eVarB 1)) eNil))) eNil)))))))) (eCall0 F_law_take [] (eConsH 0 (eConsS (eC (.int 7)) eNil)))) (gD 2))
    (sSeq (sAsg (eOp dAdd (eOp dAdd (eVarB 1) (eC (.int 1))) (eVarB 2)) (gD 3))
    (sSeq (sAsg (eCall0 F_law_take [] (eConsH 0 (eConsS (eCB dMin2 (eCons (eVarB 3) (eCons (eOp dAdd (eOp dFdiv (eOp dMul (eVarB 1) (eOp dAdd (eVarB 1) (eC (.int 1)))) (eC (.int 2))) (eC (.int 1))) eNil))) eNil))) (gD 4))
    (sSeq (sIf (eTest (eOp dEq (eCall0 F_law_take [] (eConsH 0 (eConsS (eC (.int 2)) eNil))) (eC (.int 0))))
    (sAsg (eCall0 F_law_take [] (eConsH 0 (eConsS (eVar 3) eNil))) (gD 4))
    sNext)
    (sRet (eLst (eCons (eVar 1) (eCons (eVar 3) (eCons (eVar 4) eNil)))))))))
theorem F_law_book_of_ex : ∃ x : DFn, x = mkD0 2 5 S_law_book_of := ⟨_, rfl⟩
noncomputable def F_law_book_of : DFn := F_law_book_of_ex.choose
theorem F_law_book_of_eq : F_law_book_of = mkD0 2 5 S_law_book_of := F_law_book_of_ex.choose_spec
def S_is_whole : DSt := (sSeq (sIf (eOrT (eNotT (eTru (eCB (dIsi "int") (eCons (eVarB 0) (eCons (eC (.raw (.ty "int"))) eNil))))) (eTru (eCB (dIsi "bool") (eCons (eVarB 0) (eCons (eC (.raw (.ty "bool"))) eNil)))))
    (sRet (eC (.bl false)))
    sNext)
    (sRet (eAndV (eOrV (eOp dIsN (eVarB 1) (eC .non)) (eOp dGe (eVarB 0) (eVarB 1))) (eOrV (eOp dIsN (eVarB 2) (eC .non)) (eOp dLe (eVarB 0) (eVarB 2))))))
theorem F_is_whole_ex : ∃ x : DFn, x = mkD0 3 3 S_is_whole := ⟨_, rfl⟩
noncomputable def F_is_whole : DFn := F_is_whole_ex.choose
theorem F_is_whole_eq : F_is_whole = mkD0 3 3 S_is_whole := F_is_whole_ex.choose_spec
def S_check_number : DSt := (sSeq (sIf (eNotT (eTru (eCall0 F_is_whole [] (eConsS (eVar 0) (eConsS (eVar 1) (eConsS (eVar 2) eNil))))))
    (sRaise "BadNumber")
    sNext)
    (sRet (eVar 0)))
theorem F_check_number_ex : ∃ x : DFn, x = mkD 3 3 S_check_number := ⟨_, rfl⟩
noncomputable def F_check_number : DFn := F_check_number_ex.choose
theorem F_check_number_eq : F_check_number = mkD 3 3 S_check_number := F_check_number_ex.choose_spec
def S_check_modulus : DSt := (sIf (eNotT (eTru (eCall0 F_is_whole [] (eConsS (eVar 0) (eConsS (eVar 1) (eConsS (eC (.int (1000000))) eNil))))))
    (sRaise "BadModulus")
    sNext)
theorem F_check_modulus_ex : ∃ x : DFn, x = mkD 2 2 S_check_modulus := ⟨_, rfl⟩
noncomputable def F_check_modulus : DFn := F_check_modulus_ex.choose
theorem F_check_modulus_eq : F_check_modulus = mkD 2 2 S_check_modulus := F_check_modulus_ex.choose_spec
def S_check_rest : DSt := (sIf (eNotT (eTru (eCall0 F_is_whole [] (eConsS (eVar 0) (eConsS (eC (.int 0)) (eConsS (eOp dSub (eVarB 1) (eC (.int 1))) eNil))))))
    (sRaise "BadRest")
    sNext)
theorem F_check_rest_ex : ∃ x : DFn, x = mkD 2 2 S_check_rest := ⟨_, rfl⟩
noncomputable def F_check_rest : DFn := F_check_rest_ex.choose
theorem F_check_rest_eq : F_check_rest = mkD 2 2 S_check_rest := F_check_rest_ex.choose_spec
def S_SumBook___init : DSt := (sSeq (sDrop (eCall F_check_number [] (eConsS (eVar 1) (eConsS (eC (.int 0)) (eConsS (eC (.int (200))) eNil)))))
    (sSeq (sDrop (eCall F_check_modulus [] (eConsS (eVar 2) (eConsS (eOp dAdd (eVarB 1) (eC (.int 1))) eNil))))
    (sSeq (sDrop (eCall F_check_rest [] (eConsS (eVar 3) (eConsS (eVar 2) eNil))))
    (sSeq (sSetF ftab "length" 0 (eVar 1))
    (sSeq (sSetF ftab "modulus" 0 (eVar 2))
    (sSetF ftab "rest" 0 (eVar 3)))))))
theorem F_SumBook___init_ex : ∃ x : DFn, x = mkI "SumBook" 4 4 S_SumBook___init := ⟨_, rfl⟩
noncomputable def F_SumBook___init : DFn := F_SumBook___init_ex.choose
theorem F_SumBook___init_eq : F_SumBook___init = mkI "SumBook" 4 4 S_SumBook___init := F_SumBook___init_ex.choose_spec
def S_law_made : DSt := (sSeq (sTry mt (sAsg (eCall F_SumBook___init [] (eConsS (eVar 0) (eConsS (eVar 1) (eConsS (eVar 2) eNil)))) (gD 3)) (("BadNumber", some 4, (sRet (eTup (eCons (eC (.str "number")) (eCons (eIsX 4 tab_PlaceError) eNil))))) :: (("BadModulus", some 4, (sRet (eTup (eCons (eC (.str "modulus")) (eCons (eIsX 4 tab_PlaceError) eNil))))) :: (("BadRest", some 4, (sRet (eTup (eCons (eC (.str "rest")) (eCons (eIsX 4 tab_PlaceError) eNil))))) :: []))))
    (sRet (eVar 3)))
theorem F_law_made_ex : ∃ x : DFn, x = mkD0 3 5 S_law_made := ⟨_, rfl⟩
noncomputable def F_law_made : DFn := F_law_made_ex.choose
theorem F_law_made_eq : F_law_made = mkD0 3 5 S_law_made := F_law_made_ex.choose_spec
def S_SumBook_contrary : DSt := (sSeq (sAsg (eOp dFdiv (eOp dMul (eFld ftab "length" (eVarB 0)) (eOp dAdd (eFld ftab "length" (eVarB 0)) (eC (.int 1)))) (eC (.int 2))) (gD 1))
    (sRet (eCall F_SumBook___init [] (eConsS (eFld ftab "length" (eVarB 0)) (eConsS (eFld ftab "modulus" (eVarB 0)) (eConsS (eOp dMod (eOp dSub (eVarB 1) (eFld ftab "rest" (eVarB 0))) (eFld ftab "modulus" (eVarB 0))) eNil))))))
theorem F_SumBook_contrary_ex : ∃ x : DFn, x = mkD 1 2 S_SumBook_contrary := ⟨_, rfl⟩
noncomputable def F_SumBook_contrary : DFn := F_SumBook_contrary_ex.choose
theorem F_SumBook_contrary_eq : F_SumBook_contrary = mkD 1 2 S_SumBook_contrary := F_SumBook_contrary_ex.choose_spec
def S_law_whole : DSt := (sRet (eAndV (eCB (dIsi "int") (eCons (eVarB 0) (eCons (eC (.raw (.ty "int"))) eNil))) (eNotVT (eCB (dIsi "bool") (eCons (eVarB 0) (eCons (eC (.raw (.ty "bool"))) eNil))))))
theorem F_law_whole_ex : ∃ x : DFn, x = mkD0 1 1 S_law_whole := ⟨_, rfl⟩
noncomputable def F_law_whole : DFn := F_law_whole_ex.choose
theorem F_law_whole_eq : F_law_whole = mkD0 1 1 S_law_whole := F_law_whole_ex.choose_spec
def S_SumBook_is_full : DSt := (sRet (eOp dEq (eFld ftab "modulus" (eVarB 0)) (eOp dAdd (eFld ftab "length" (eVarB 0)) (eC (.int 1)))))
theorem F_SumBook_is_full_ex : ∃ x : DFn, x = mkD0 1 1 S_SumBook_is_full := ⟨_, rfl⟩
noncomputable def F_SumBook_is_full : DFn := F_SumBook_is_full_ex.choose
theorem F_SumBook_is_full_eq : F_SumBook_is_full = mkD0 1 1 S_SumBook_is_full := F_SumBook_is_full_ex.choose_spec
def S_law_is_book : DSt := (sSeq (sIf (eNotT (eTru (eIsI tabI_SumBook (eVarB 0))))
    (sRet (eC (.bl false)))
    sNext)
    (sSeq (sAsg (eLst (eCons (eFld ftab "length" (eVarB 0)) (eCons (eFld ftab "modulus" (eVarB 0)) (eCons (eFld ftab "rest" (eVarB 0)) eNil)))) (gD 4))
    (sSeq (sIf (eOrT (eNotT (eTru (eCB dAll (eCons (eLc (eSeq (eVarB 4)) (gD 5) eYes (eCall0 F_law_whole [] (eConsS (eVar 5) eNil)) [5]) eNil)))) (eTest (eOp dNe (eVarB 4) (eLst (eCons (eVar 1) (eCons (eVar 2) (eCons (eVar 3) eNil)))))))
    (sRet (eC (.bl false)))
    sNext)
    (sRet (eAndV (eCB (dIsi "bool") (eCons (eProp "SumBook" F_SumBook_is_full (eVar 0)) (eCons (eC (.raw (.ty "bool"))) eNil))) (eOp dEq (eProp "SumBook" F_SumBook_is_full (eVar 0)) (eOp dEq (eVarB 2) (eOp dAdd (eVarB 1) (eC (.int 1))))))))))
theorem F_law_is_book_ex : ∃ x : DFn, x = mkD0 4 6 S_law_is_book := ⟨_, rfl⟩
noncomputable def F_law_is_book : DFn := F_law_is_book_ex.choose
theorem F_law_is_book_eq : F_law_is_book = mkD0 4 6 S_law_is_book := F_law_is_book_ex.choose_spec
def S_SumBook_turned : DSt := (sSeq (sIf (eNotT (eTru (eProp "SumBook" F_SumBook_is_full (eVar 0))))
    (sRaise "NotPerfect")
    sNext)
    (sRet (eCall F_SumBook___init [] (eConsS (eFld ftab "length" (eVarB 0)) (eConsS (eFld ftab "modulus" (eVarB 0)) (eConsS (eOp dMod (eUn dNeg (eFld ftab "rest" (eVarB 0))) (eFld ftab "modulus" (eVarB 0))) eNil))))))
theorem F_SumBook_turned_ex : ∃ x : DFn, x = mkD 1 1 S_SumBook_turned := ⟨_, rfl⟩
noncomputable def F_SumBook_turned : DFn := F_SumBook_turned_ex.choose
theorem F_SumBook_turned_eq : F_SumBook_turned = mkD 1 1 S_SumBook_turned := F_SumBook_turned_ex.choose_spec
theorem S_law_turned_r5_ex : ∃ x : DSt, x = (sRet (eVar 1)) := ⟨_, rfl⟩
noncomputable def S_law_turned_r5 : DSt := S_law_turned_r5_ex.choose
theorem S_law_turned_r5_eq : S_law_turned_r5 = (sRet (eVar 1)) := S_law_turned_r5_ex.choose_spec
def S_law_turned : DSt := (sSeq (sTry mt (sAsg (eMeth "SumBook" "turned" F_SumBook_turned [] (eVar 0) eNil) (gD 1)) (("NotPerfect", some 2, (sRet (eTup (eCons (eC (.str "not full")) (eCons (eIsX 2 tab_PlaceError) eNil))))) :: []))
    S_law_turned_r5)
theorem F_law_turned_ex : ∃ x : DFn, x = mkD0 1 3 S_law_turned := ⟨_, rfl⟩
noncomputable def F_law_turned : DFn := F_law_turned_ex.choose
theorem F_law_turned_eq : F_law_turned = mkD0 1 3 S_law_turned := F_law_turned_ex.choose_spec
def S_law_word : DSt := (sRet (eCB dTupOf (eCons (eLc (eRng1 (eCons (eVarB 2) eNil)) (gD 3) eYes (eCall0 F_law_take [] (eConsH 0 (eConsS (eVar 1) eNil))) [3]) eNil)))
theorem F_law_word_ex : ∃ x : DFn, x = mkD0 3 4 S_law_word := ⟨_, rfl⟩
noncomputable def F_law_word : DFn := F_law_word_ex.choose
theorem F_law_word_eq : F_law_word = mkD0 3 4 S_law_word := F_law_word_ex.choose_spec
def S_law_runny : DSt := (sSeq (sIf (eTest (eOp dGt (eCall0 F_law_take [] (eConsH 0 (eConsS (eC (.int 3)) eNil))) (eC (.int 0))))
    (sRet (eCall0 F_law_word [] (eConsH 0 (eConsS (eVar 1) (eConsS (eVar 2) eNil)))))
    sNext)
    (sSeq (sOwn 3 (eLst eNil))
    (sSeq (sAsg (eCall0 F_law_take [] (eConsH 0 (eConsS (eVar 1) eNil))) (gD 4))
    (sSeq (sFor (eRng1 (eCons (eVarB 2) eNil)) (gD 5)
    (sSeq (sIf (eTest (eOp dEq (eCall0 F_law_take [] (eConsH 0 (eConsS (eC (.int 4)) eNil))) (eC (.int 0))))
    (sAsg (eCall0 F_law_take [] (eConsH 0 (eConsS (eVar 1) eNil))) (gD 4))
    sNext)
    (sApp 3 (eVar 4))))
    (sRet (eCB dTupOf (eCons (eVarB 3) eNil)))))))
theorem F_law_runny_ex : ∃ x : DFn, x = mkD0 3 6 S_law_runny := ⟨_, rfl⟩
noncomputable def F_law_runny : DFn := F_law_runny_ex.choose
theorem F_law_runny_eq : F_law_runny = mkD0 3 6 S_law_runny := F_law_runny_ex.choose_spec
def S_check_word : DSt := (sSeq (sIf (eOrT (eNotT (eTru (eCB (dIsi2 "list" "tuple") (eCons (eVarB 1) (eCons (eTup (eCons (eC (.raw (.ty "list"))) (eCons (eC (.raw (.ty "tuple"))) eNil))) eNil))))) (eTest (eOp dGt (eCB dLen (eCons (eVarB 1) eNil)) (eVarB 2))))
    (sRaise1 "BadWord" "index" (eUn dNeg (eC (.int 1))))
    sNext)
    (sSeq (sFor (eEnum (eCons (eVar 1) eNil)) (gD2 3 4)
    (sIf (eNotT (eTru (eCall0 F_is_whole [] (eConsS (eVar 4) (eConsS (eC (.int 0)) (eConsS (eOp dSub (eVarB 0) (eC (.int 1))) eNil))))))
    (sRaise1 "BadWord" "index" (eVar 3))
    sNext))
    (sRet (eCB dTupOf (eCons (eVarB 1) eNil)))))
theorem F_check_word_ex : ∃ x : DFn, x = mkD 3 5 S_check_word := ⟨_, rfl⟩
noncomputable def F_check_word : DFn := F_check_word_ex.choose
theorem F_check_word_eq : F_check_word = mkD 3 5 S_check_word := F_check_word_ex.choose_spec
def S_sum_of : DSt := (sRet (eCB dSum (eCons (eLc (eEnumK 1 (eCons (eVarB 0) eNil)) (gD2 1 2) (eTest (eOp dEq (eVarB 2) (eC (.int 1)))) (eVar 1) [1, 2]) eNil)))
theorem F_sum_of_ex : ∃ x : DFn, x = mkD0 1 3 S_sum_of := ⟨_, rfl⟩
noncomputable def F_sum_of : DFn := F_sum_of_ex.choose
theorem F_sum_of_eq : F_sum_of = mkD0 1 3 S_sum_of := F_sum_of_ex.choose_spec
def S_SumBook_holding : DSt := (sSeq (sAsg (eCall F_check_word [] (eConsS (eC (.int 2)) (eConsS (eVar 0) (eConsS (eC (.int (200))) eNil)))) (gD 0))
    (sSeq (sDrop (eCall F_check_modulus [] (eConsS (eVar 1) (eConsS (eOp dAdd (eCB dLen (eCons (eVarB 0) eNil)) (eC (.int 1))) eNil))))
    (sRet (eCall F_SumBook___init [] (eConsS (eCB dLen (eCons (eVarB 0) eNil)) (eConsS (eVar 1) (eConsS (eOp dMod (eCall0 F_sum_of [] (eConsS (eVar 0) eNil)) (eVarB 1)) eNil)))))))
theorem F_SumBook_holding_ex : ∃ x : DFn, x = mkD 2 2 S_SumBook_holding := ⟨_, rfl⟩
noncomputable def F_SumBook_holding : DFn := F_SumBook_holding_ex.choose
theorem F_SumBook_holding_eq : F_SumBook_holding = mkD 2 2 S_SumBook_holding := F_SumBook_holding_ex.choose_spec
def S_SumBook_has : DSt := (sSeq (sAsg (eCall F_check_word [] (eConsS (eC (.int 2)) (eConsS (eVar 1) (eConsS (eC (.int (200))) eNil)))) (gD 1))
    (sRet (eAndV (eOp dEq (eCB dLen (eCons (eVarB 1) eNil)) (eFld ftab "length" (eVarB 0))) (eOp dEq (eOp dMod (eCall0 F_sum_of [] (eConsS (eVar 1) eNil)) (eFld ftab "modulus" (eVarB 0))) (eFld ftab "rest" (eVarB 0))))))
theorem F_SumBook_has_ex : ∃ x : DFn, x = mkD 2 2 S_SumBook_has := ⟨_, rfl⟩
noncomputable def F_SumBook_has : DFn := F_SumBook_has_ex.choose
theorem F_SumBook_has_eq : F_SumBook_has = mkD 2 2 S_SumBook_has := F_SumBook_has_ex.choose_spec
def S_law_sum : DSt := (sRet (eCB dSum (eCons (eLc (eRng1 (eCons (eCB dLen (eCons (eVarB 0) eNil)) eNil)) (gD 1) eYes (eOp dMul (eOp dAdd (eVarB 1) (eC (.int 1))) (eOp dIx (eVarB 0) (eVarB 1))) [1]) eNil)))
theorem F_law_sum_ex : ∃ x : DFn, x = mkD0 1 2 S_law_sum := ⟨_, rfl⟩
noncomputable def F_law_sum : DFn := F_law_sum_ex.choose
theorem F_law_sum_eq : F_law_sum = mkD0 1 2 S_law_sum := F_law_sum_ex.choose_spec
theorem S_law_led_right_r23_ex : ∃ x : DSt, x = (sIf (eOrT (eTru (eMeth0 "SumBook" "has" F_SumBook_has [] (eVar 1) (eConsS (eIf (eTest (eOp dLt (eVarB 3) (eC (.int 200)))) (eOp dAdd (eVarB 8) (eTup (eCons (eC (.int 0)) eNil))) (eSl dSl (eVarB 8) (ePart (eC (.int 1))) eNoPart)) eNil))) (eAndT (eTest (eOp dGt (eVarB 3) (eC (.int 0)))) (eTru (eMeth0 "SumBook" "has" F_SumBook_has [] (eVar 1) (eConsS (eSl dSl (eVarB 8) (ePart (eC (.int 1))) eNoPart) eNil)))))
    (sRet (eC (.bl false)))
    sNext) := ⟨_, rfl⟩
noncomputable def S_law_led_right_r23 : DSt := S_law_led_right_r23_ex.choose
theorem S_law_led_right_r23_eq : S_law_led_right_r23 = (sIf (eOrT (eTru (eMeth0 "SumBook" "has" F_SumBook_has [] (eVar 1) (eConsS (eIf (eTest (eOp dLt (eVarB 3) (eC (.int 200)))) (eOp dAdd (eVarB 8) (eTup (eCons (eC (.int 0)) eNil))) (eSl dSl (eVarB 8) (ePart (eC (.int 1))) eNoPart)) eNil))) (eAndT (eTest (eOp dGt (eVarB 3) (eC (.int 0)))) (eTru (eMeth0 "SumBook" "has" F_SumBook_has [] (eVar 1) (eConsS (eSl dSl (eVarB 8) (ePart (eC (.int 1))) eNoPart) eNil)))))
    (sRet (eC (.bl false)))
    sNext) := S_law_led_right_r23_ex.choose_spec
theorem S_law_led_right_r21_ex : ∃ x : DSt, x = (sSeq (sIf (eOrT (eTest (eOp dNe (eMeth0 "SumBook" "has" F_SumBook_has [] (eVar 1) (eConsS (eVar 8) eNil)) (eVarB 11))) (eOrT (eTest (eOp dNe (eMeth0 "SumBook" "has" F_SumBook_has [] (eVar 5) (eConsS (eVar 10) eNil)) (eVarB 11))) (eTest (eOp dNe (eOp (dEqB tabE tabC) (eVar 9) (eVar 1)) (eVarB 11)))))
    (sRet (eC (.bl false)))
    sNext)
    S_law_led_right_r23) := ⟨_, rfl⟩
noncomputable def S_law_led_right_r21 : DSt := S_law_led_right_r21_ex.choose
theorem S_law_led_right_r21_eq : S_law_led_right_r21 = (sSeq (sIf (eOrT (eTest (eOp dNe (eMeth0 "SumBook" "has" F_SumBook_has [] (eVar 1) (eConsS (eVar 8) eNil)) (eVarB 11))) (eOrT (eTest (eOp dNe (eMeth0 "SumBook" "has" F_SumBook_has [] (eVar 5) (eConsS (eVar 10) eNil)) (eVarB 11))) (eTest (eOp dNe (eOp (dEqB tabE tabC) (eVar 9) (eVar 1)) (eVarB 11)))))
    (sRet (eC (.bl false)))
    sNext)
    S_law_led_right_r23) := S_law_led_right_r21_ex.choose_spec
theorem S_law_led_right_r20_ex : ∃ x : DSt, x = (sSeq (sAsg (eOp (dEqB tabE tabC) (eOp dMod (eCB dInt (eCons (eCall0 F_law_sum [] (eConsS (eVar 8) eNil)) eNil)) (eVarB 4)) (eOp dIx (eVarB 2) (eC (.int 2)))) (gD 11))
    S_law_led_right_r21) := ⟨_, rfl⟩
noncomputable def S_law_led_right_r20 : DSt := S_law_led_right_r20_ex.choose
theorem S_law_led_right_r20_eq : S_law_led_right_r20 = (sSeq (sAsg (eOp (dEqB tabE tabC) (eOp dMod (eCB dInt (eCons (eCall0 F_law_sum [] (eConsS (eVar 8) eNil)) eNil)) (eVarB 4)) (eOp dIx (eVarB 2) (eC (.int 2)))) (gD 11))
    S_law_led_right_r21) := S_law_led_right_r20_ex.choose_spec
theorem S_law_led_right_r18_ex : ∃ x : DSt, x = (sSeq (sIf (eOrT (eNotT (eTru (eMeth0 "SumBook" "has" F_SumBook_has [] (eMeth0 "SumBook" "contrary" F_SumBook_contrary [] (eVar 9) eNil) (eConsS (eVar 10) eNil)))) (eAndT (eTest (eOp (dEqB tabE tabC) (eVar 4) (eOp dAdd (eVarB 3) (eC (.int 1))))) (eNotT (eTru (eMeth0 "SumBook" "has" F_SumBook_has [] (eMeth0 "SumBook" "turned" F_SumBook_turned [] (eVar 9) eNil) (eConsS (eCB dLstOf (eCons (eRev (eVarB 8)) eNil)) eNil))))))
    (sRet (eC (.bl false)))
    sNext)
    S_law_led_right_r20) := ⟨_, rfl⟩
noncomputable def S_law_led_right_r18 : DSt := S_law_led_right_r18_ex.choose
theorem S_law_led_right_r18_eq : S_law_led_right_r18 = (sSeq (sIf (eOrT (eNotT (eTru (eMeth0 "SumBook" "has" F_SumBook_has [] (eMeth0 "SumBook" "contrary" F_SumBook_contrary [] (eVar 9) eNil) (eConsS (eVar 10) eNil)))) (eAndT (eTest (eOp (dEqB tabE tabC) (eVar 4) (eOp dAdd (eVarB 3) (eC (.int 1))))) (eNotT (eTru (eMeth0 "SumBook" "has" F_SumBook_has [] (eMeth0 "SumBook" "turned" F_SumBook_turned [] (eVar 9) eNil) (eConsS (eCB dLstOf (eCons (eRev (eVarB 8)) eNil)) eNil))))))
    (sRet (eC (.bl false)))
    sNext)
    S_law_led_right_r20) := S_law_led_right_r18_ex.choose_spec
theorem S_law_led_right_r17_ex : ∃ x : DSt, x = (sSeq (sAsg (eCB dTupOf (eCons (eLc (eSeq (eVarB 8)) (gD 12) eYes (eOp dSub (eC (.int 1)) (eVarB 12)) [12]) eNil)) (gD 10))
    S_law_led_right_r18) := ⟨_, rfl⟩
noncomputable def S_law_led_right_r17 : DSt := S_law_led_right_r17_ex.choose
theorem S_law_led_right_r17_eq : S_law_led_right_r17 = (sSeq (sAsg (eCB dTupOf (eCons (eLc (eSeq (eVarB 8)) (gD 12) eYes (eOp dSub (eC (.int 1)) (eVarB 12)) [12]) eNil)) (gD 10))
    S_law_led_right_r18) := S_law_led_right_r17_ex.choose_spec
theorem S_law_led_right_r15_ex : ∃ x : DSt, x = (sSeq (sIf (eOrT (eNotT (eTru (eCall0 F_law_is_book [] (eConsS (eVar 9) (eConsS (eVar 3) (eConsS (eVar 4) (eConsS (eOp dMod (eCB dInt (eCons (eCall0 F_law_sum [] (eConsS (eVar 8) eNil)) eNil)) (eVarB 4)) eNil))))))) (eNotT (eTru (eMeth0 "SumBook" "has" F_SumBook_has [] (eVar 9) (eConsS (eVar 8) eNil)))))
    (sRet (eC (.bl false)))
    sNext)
    S_law_led_right_r17) := ⟨_, rfl⟩
noncomputable def S_law_led_right_r15 : DSt := S_law_led_right_r15_ex.choose
theorem S_law_led_right_r15_eq : S_law_led_right_r15 = (sSeq (sIf (eOrT (eNotT (eTru (eCall0 F_law_is_book [] (eConsS (eVar 9) (eConsS (eVar 3) (eConsS (eVar 4) (eConsS (eOp dMod (eCB dInt (eCons (eCall0 F_law_sum [] (eConsS (eVar 8) eNil)) eNil)) (eVarB 4)) eNil))))))) (eNotT (eTru (eMeth0 "SumBook" "has" F_SumBook_has [] (eVar 9) (eConsS (eVar 8) eNil)))))
    (sRet (eC (.bl false)))
    sNext)
    S_law_led_right_r17) := S_law_led_right_r15_ex.choose_spec
theorem S_law_led_right_r14_ex : ∃ x : DSt, x = (sSeq (sAsg (eCall0 F_SumBook_holding [] (eConsS (eCB dLstOf (eCons (eVarB 8) eNil)) (eConsS (eVar 4) eNil))) (gD 9))
    S_law_led_right_r15) := ⟨_, rfl⟩
noncomputable def S_law_led_right_r14 : DSt := S_law_led_right_r14_ex.choose
theorem S_law_led_right_r14_eq : S_law_led_right_r14 = (sSeq (sAsg (eCall0 F_SumBook_holding [] (eConsS (eCB dLstOf (eCons (eVarB 8) eNil)) (eConsS (eVar 4) eNil))) (gD 9))
    S_law_led_right_r15) := S_law_led_right_r14_ex.choose_spec
theorem S_law_led_right_b13_ex : ∃ x : DSt, x = (sSeq (sAsg (eCall0 F_law_runny [] (eConsH 0 (eConsS (eC (.int 2)) (eConsS (eVar 3) eNil)))) (gD 8))
    S_law_led_right_r14) := ⟨_, rfl⟩
noncomputable def S_law_led_right_b13 : DSt := S_law_led_right_b13_ex.choose
theorem S_law_led_right_b13_eq : S_law_led_right_b13 = (sSeq (sAsg (eCall0 F_law_runny [] (eConsH 0 (eConsS (eC (.int 2)) (eConsS (eVar 3) eNil)))) (gD 8))
    S_law_led_right_r14) := S_law_led_right_b13_ex.choose_spec
theorem S_law_led_right_r25_ex : ∃ x : DSt, x = (sRet (eC (.bl true))) := ⟨_, rfl⟩
noncomputable def S_law_led_right_r25 : DSt := S_law_led_right_r25_ex.choose
theorem S_law_led_right_r25_eq : S_law_led_right_r25 = (sRet (eC (.bl true))) := S_law_led_right_r25_ex.choose_spec
theorem S_law_led_right_r12_ex : ∃ x : DSt, x = (sSeq (sFor (eRng1 (eCons (eC (.int 3)) eNil)) (gD 7)
    S_law_led_right_b13)
    S_law_led_right_r25) := ⟨_, rfl⟩
noncomputable def S_law_led_right_r12 : DSt := S_law_led_right_r12_ex.choose
theorem S_law_led_right_r12_eq : S_law_led_right_r12 = (sSeq (sFor (eRng1 (eCons (eC (.int 3)) eNil)) (gD 7)
    S_law_led_right_b13)
    S_law_led_right_r25) := S_law_led_right_r12_ex.choose_spec
theorem S_law_led_right_r7_ex : ∃ x : DSt, x = (sSeq (sIf (eTest (eOp dNe (eVarB 4) (eOp dAdd (eVarB 3) (eC (.int 1)))))
    (sIf (eTest (eOp dNe (eVarB 6) (eTup (eCons (eC (.str "not full")) (eCons (eC (.bl true)) eNil)))))
    (sRet (eC (.bl false)))
    sNext)
    (sIf (eOrT (eNotT (eTru (eCall0 F_law_is_book [] (eConsS (eVar 6) (eConsS (eVar 3) (eConsS (eVar 4) (eConsS (eOp dMod (eCB dInt (eCons (eUn dNeg (eOp dIx (eVarB 2) (eC (.int 2)))) eNil)) (eVarB 4)) eNil))))))) (eNotT (eTest (eOp (dEqB tabE tabC) (eCall0 F_law_turned [] (eConsS (eVar 6) eNil)) (eVar 1)))))
    (sRet (eC (.bl false)))
    sNext))
    S_law_led_right_r12) := ⟨_, rfl⟩
noncomputable def S_law_led_right_r7 : DSt := S_law_led_right_r7_ex.choose
theorem S_law_led_right_r7_eq : S_law_led_right_r7 = (sSeq (sIf (eTest (eOp dNe (eVarB 4) (eOp dAdd (eVarB 3) (eC (.int 1)))))
    (sIf (eTest (eOp dNe (eVarB 6) (eTup (eCons (eC (.str "not full")) (eCons (eC (.bl true)) eNil)))))
    (sRet (eC (.bl false)))
    sNext)
    (sIf (eOrT (eNotT (eTru (eCall0 F_law_is_book [] (eConsS (eVar 6) (eConsS (eVar 3) (eConsS (eVar 4) (eConsS (eOp dMod (eCB dInt (eCons (eUn dNeg (eOp dIx (eVarB 2) (eC (.int 2)))) eNil)) (eVarB 4)) eNil))))))) (eNotT (eTest (eOp (dEqB tabE tabC) (eCall0 F_law_turned [] (eConsS (eVar 6) eNil)) (eVar 1)))))
    (sRet (eC (.bl false)))
    sNext))
    S_law_led_right_r12) := S_law_led_right_r7_ex.choose_spec
theorem S_law_led_right_r6_ex : ∃ x : DSt, x = (sSeq (sAsg (eCall0 F_law_turned [] (eConsS (eVar 1) eNil)) (gD 6))
    S_law_led_right_r7) := ⟨_, rfl⟩
noncomputable def S_law_led_right_r6 : DSt := S_law_led_right_r6_ex.choose
theorem S_law_led_right_r6_eq : S_law_led_right_r6 = (sSeq (sAsg (eCall0 F_law_turned [] (eConsS (eVar 1) eNil)) (gD 6))
    S_law_led_right_r7) := S_law_led_right_r6_ex.choose_spec
theorem S_law_led_right_r4_ex : ∃ x : DSt, x = (sSeq (sIf (eOrT (eNotT (eTru (eCall0 F_law_is_book [] (eConsS (eVar 5) (eConsS (eVar 3) (eConsS (eVar 4) (eConsS (eOp dMod (eCB dInt (eCons (eOp dSub (eOp dFdiv (eOp dMul (eVarB 3) (eOp dAdd (eVarB 3) (eC (.int 1)))) (eC (.int 2))) (eOp dIx (eVarB 2) (eC (.int 2)))) eNil)) (eVarB 4)) eNil))))))) (eNotT (eTest (eOp (dEqB tabE tabC) (eMeth0 "SumBook" "contrary" F_SumBook_contrary [] (eVar 5) eNil) (eVar 1)))))
    (sRet (eC (.bl false)))
    sNext)
    S_law_led_right_r6) := ⟨_, rfl⟩
noncomputable def S_law_led_right_r4 : DSt := S_law_led_right_r4_ex.choose
theorem S_law_led_right_r4_eq : S_law_led_right_r4 = (sSeq (sIf (eOrT (eNotT (eTru (eCall0 F_law_is_book [] (eConsS (eVar 5) (eConsS (eVar 3) (eConsS (eVar 4) (eConsS (eOp dMod (eCB dInt (eCons (eOp dSub (eOp dFdiv (eOp dMul (eVarB 3) (eOp dAdd (eVarB 3) (eC (.int 1)))) (eC (.int 2))) (eOp dIx (eVarB 2) (eC (.int 2)))) eNil)) (eVarB 4)) eNil))))))) (eNotT (eTest (eOp (dEqB tabE tabC) (eMeth0 "SumBook" "contrary" F_SumBook_contrary [] (eVar 5) eNil) (eVar 1)))))
    (sRet (eC (.bl false)))
    sNext)
    S_law_led_right_r6) := S_law_led_right_r4_ex.choose_spec
theorem S_law_led_right_r3_ex : ∃ x : DSt, x = (sSeq (sAsg (eMeth0 "SumBook" "contrary" F_SumBook_contrary [] (eVar 1) eNil) (gD 5))
    S_law_led_right_r4) := ⟨_, rfl⟩
noncomputable def S_law_led_right_r3 : DSt := S_law_led_right_r3_ex.choose
theorem S_law_led_right_r3_eq : S_law_led_right_r3 = (sSeq (sAsg (eMeth0 "SumBook" "contrary" F_SumBook_contrary [] (eVar 1) eNil) (gD 5))
    S_law_led_right_r4) := S_law_led_right_r3_ex.choose_spec
theorem S_law_led_right_r2_ex : ∃ x : DSt, x = (sSeq (sAsg (eOp dIx (eVarB 2) (eC (.int 1))) (gD 4))
    S_law_led_right_r3) := ⟨_, rfl⟩
noncomputable def S_law_led_right_r2 : DSt := S_law_led_right_r2_ex.choose
theorem S_law_led_right_r2_eq : S_law_led_right_r2 = (sSeq (sAsg (eOp dIx (eVarB 2) (eC (.int 1))) (gD 4))
    S_law_led_right_r3) := S_law_led_right_r2_ex.choose_spec
def S_law_led_right : DSt := (sSeq (sAsg (eOp dIx (eVarB 2) (eC (.int 0))) (gD 3))
    S_law_led_right_r2)
theorem F_law_led_right_ex : ∃ x : DFn, x = mkD0 3 13 S_law_led_right := ⟨_, rfl⟩
noncomputable def F_law_led_right : DFn := F_law_led_right_ex.choose
theorem F_law_led_right_eq : F_law_led_right = mkD0 3 13 S_law_led_right := F_law_led_right_ex.choose_spec
def S_is_word : DSt := (sSeq (sIf (eOrT (eNotT (eTru (eCB (dIsi2 "list" "tuple") (eCons (eVarB 2) (eCons (eTup (eCons (eC (.raw (.ty "list"))) (eCons (eC (.raw (.ty "tuple"))) eNil))) eNil))))) (eTest (eOp dNe (eCB dLen (eCons (eVarB 2) eNil)) (eVarB 1))))
    (sRet (eC (.bl false)))
    sNext)
    (sRet (eCB dAll (eCons (eLc (eSeq (eVarB 2)) (gD 3) eYes (eCall0 F_is_whole [] (eConsS (eVar 3) (eConsS (eC (.int 0)) (eConsS (eOp dSub (eVarB 0) (eC (.int 1))) eNil)))) [3]) eNil))))
theorem F_is_word_ex : ∃ x : DFn, x = mkD0 3 4 S_is_word := ⟨_, rfl⟩
noncomputable def F_is_word : DFn := F_is_word_ex.choose
theorem F_is_word_eq : F_is_word = mkD0 3 4 S_is_word := F_is_word_ex.choose_spec
def S_check_words : DSt := (sSeq (sIf (eNotT (eTru (eCB (dIsi2 "list" "tuple") (eCons (eVarB 2) (eCons (eTup (eCons (eC (.raw (.ty "list"))) (eCons (eC (.raw (.ty "tuple"))) eNil))) eNil)))))
    (sRaise1 "BadBook" "what" (eC (.str "words")))
    sNext)
    (sSeq (sFor (eSeq (eVar 2)) (gD 3)
    (sIf (eNotT (eTru (eCall0 F_is_word [] (eConsS (eVar 0) (eConsS (eVar 1) (eConsS (eVar 3) eNil))))))
    (sRaise1 "BadBook" "what" (eC (.str "words")))
    sNext))
    (sSeq (sAsg (eCB dTupOf (eCons (eSortScG (eSeq (eVarB 2)) (gD 3) eYes (eCB dTupOf (eCons (eVarB 3) eNil)) [3]) eNil)) (gD 4))
    (sSeq (sIf (eTest (eOp dGt (eCB dLen (eCons (eVarB 4) eNil)) (eC (.int (64)))))
    (sRaise1 "BadBook" "what" (eC (.str "many")))
    sNext)
    (sRet (eVar 4))))))
theorem F_check_words_ex : ∃ x : DFn, x = mkD 3 5 S_check_words := ⟨_, rfl⟩
noncomputable def F_check_words : DFn := F_check_words_ex.choose
theorem F_check_words_eq : F_check_words = mkD 3 5 S_check_words := F_check_words_ex.choose_spec
def S_Book___init : DSt := (sSeq (sIf (eNotT (eTru (eCall0 F_is_whole [] (eConsS (eVar 1) (eConsS (eC (.int 2)) (eConsS (eC (.int 4)) eNil))))))
    (sRaise1 "BadBook" "what" (eC (.str "letters")))
    sNext)
    (sSeq (sIf (eNotT (eTru (eCall0 F_is_whole [] (eConsS (eVar 2) (eConsS (eC (.int 0)) (eConsS (eC (.int (24))) eNil))))))
    (sRaise1 "BadBook" "what" (eC (.str "length")))
    sNext)
    (sSeq (sSetF ftab "letters" 0 (eVar 1))
    (sSeq (sSetF ftab "length" 0 (eVar 2))
    (sSeq (sSetF ftab "words" 0 (eCall F_check_words [] (eConsS (eVar 1) (eConsS (eVar 2) (eConsS (eVar 3) eNil)))))
    (sSetF ftab "size" 0 (eCB dLen (eCons (eFldS ftab "words" 0) eNil))))))))
theorem F_Book___init_ex : ∃ x : DFn, x = mkI "Book" 4 4 S_Book___init := ⟨_, rfl⟩
noncomputable def F_Book___init : DFn := F_Book___init_ex.choose
theorem F_Book___init_eq : F_Book___init = mkI "Book" 4 4 S_Book___init := F_Book___init_ex.choose_spec
def S_all_words : DSt := (sSeq (sAsg (eLst (eCons (eTup eNil) eNil)) (gD 2))
    (sSeq (sFor (eRng1 (eCons (eVarB 1) eNil)) (gD 3)
    (sAsg (eLc2 (eSeq (eVarB 2)) (gD 4) eYes (eRng1 (eCons (eVarB 0) eNil)) (gD 5) eYes (eOp dAdd (eVarB 4) (eTup (eCons (eVar 5) eNil))) [5] [4, 5]) (gD 2)))
    (sRet (eVar 2))))
theorem F_all_words_ex : ∃ x : DFn, x = mkD0 2 6 S_all_words := ⟨_, rfl⟩
noncomputable def F_all_words : DFn := F_all_words_ex.choose
theorem F_all_words_eq : F_all_words = mkD0 2 6 S_all_words := F_all_words_ex.choose_spec
def S_power_of : DSt := (sSeq (sAsg (eC (.int 1)) (gD 2))
    (sSeq (sFor (eRng1 (eCons (eVarB 1) eNil)) (gD 3)
    (sAsg (eOp dMul (eVarB 2) (eVarB 0)) (gD 2)))
    (sRet (eVar 2))))
theorem F_power_of_ex : ∃ x : DFn, x = mkD0 2 4 S_power_of := ⟨_, rfl⟩
noncomputable def F_power_of : DFn := F_power_of_ex.choose
theorem F_power_of_eq : F_power_of = mkD0 2 4 S_power_of := F_power_of_ex.choose_spec
def S_sum_members : DGt := (gSeq (gPlain (sIf (eTest (eOp dGt (eFld ftab "length" (eVarB 0)) (eC (.int (14)))))
    (sRaise1 "TooMany" "count" (eCall0 F_power_of [] (eConsS (eC (.int 2)) (eConsS (eFld ftab "length" (eVarB 0)) eNil))))
    sNext))
    (gSeq (gFor (eSeq (eCall0 F_all_words [] (eConsS (eC (.int 2)) (eConsS (eFld ftab "length" (eVarB 0)) eNil)))) (gD 1)
    (gSeq (gIf (eTest (eOp dEq (eOp dMod (eCall0 F_sum_of [] (eConsS (eVar 1) eNil)) (eFld ftab "modulus" (eVarB 0))) (eFld ftab "rest" (eVarB 0))))
    (gSeq (gYield (eVar 1))
    gNext)
    gNext)
    gNext))
    gNext))
theorem F_sum_members_ex : ∃ x : DFn, x = mkG 1 2 S_sum_members := ⟨_, rfl⟩
noncomputable def F_sum_members : DFn := F_sum_members_ex.choose
theorem F_sum_members_eq : F_sum_members = mkG 1 2 S_sum_members := F_sum_members_ex.choose_spec
def S_book_of_sums : DSt := (sRet (eCall F_Book___init [] (eConsS (eC (.int 2)) (eConsS (eFld ftab "length" (eVarB 0)) (eConsS (eCallG F_sum_members [] "TooMany" (eConsS (eVar 0) eNil)) eNil)))))
theorem F_book_of_sums_ex : ∃ x : DFn, x = mkD 1 1 S_book_of_sums := ⟨_, rfl⟩
noncomputable def F_book_of_sums : DFn := F_book_of_sums_ex.choose
theorem F_book_of_sums_eq : F_book_of_sums = mkD 1 1 S_book_of_sums := F_book_of_sums_ex.choose_spec
def S_law_all_words : DSt := (sSeq (sAsg (eLst (eCons (eTup eNil) eNil)) (gD 2))
    (sSeq (sFor (eRng1 (eCons (eVarB 1) eNil)) (gD 3)
    (sSeq (sAsg (eLst eNil) (gD 4))
    (sSeq (sFor (eSeq (eVar 2)) (gD 5)
    (sAsg (eOp dAdd (eVarB 4) (eLc (eRng1 (eCons (eVarB 0) eNil)) (gD 6) eYes (eOp dAdd (eVarB 5) (eTup (eCons (eVar 6) eNil))) [6])) (gD 4)))
    (sAsg (eVar 4) (gD 2)))))
    (sRet (eVar 2))))
theorem F_law_all_words_ex : ∃ x : DFn, x = mkD0 2 7 S_law_all_words := ⟨_, rfl⟩
noncomputable def F_law_all_words : DFn := F_law_all_words_ex.choose
theorem F_law_all_words_eq : F_law_all_words = mkD0 2 7 S_law_all_words := F_law_all_words_ex.choose_spec
def S_law_sum_words : DSt := (sRet (eLc (eSeq (eCall0 F_law_all_words [] (eConsS (eC (.int 2)) (eConsS (eVar 0) eNil)))) (gD 3) (eTest (eOp dEq (eOp dMod (eCB dInt (eCons (eOp dSub (eCall0 F_law_sum [] (eConsS (eVar 3) eNil)) (eVarB 2)) eNil)) (eVarB 1)) (eC (.int 0)))) (eVar 3) [3]))
theorem F_law_sum_words_ex : ∃ x : DFn, x = mkD0 3 4 S_law_sum_words := ⟨_, rfl⟩
noncomputable def F_law_sum_words : DFn := F_law_sum_words_ex.choose
theorem F_law_sum_words_eq : F_law_sum_words = mkD0 3 4 S_law_sum_words := F_law_sum_words_ex.choose_spec
def S_Book_contrary : DSt := (sSeq (sAsg (eLc (eSeq (eFld ftab "words" (eVarB 0))) (gD 2) eYes (eCB dTupOf (eCons (eLc (eSeq (eVarB 2)) (gD 3) eYes (eOp dSub (eOp dSub (eFld ftab "letters" (eVarB 0)) (eC (.int 1))) (eVarB 3)) [3]) eNil)) [2]) (gD 1))
    (sRet (eCall F_Book___init [] (eConsS (eFld ftab "letters" (eVarB 0)) (eConsS (eFld ftab "length" (eVarB 0)) (eConsS (eVar 1) eNil))))))
theorem F_Book_contrary_ex : ∃ x : DFn, x = mkD 1 4 S_Book_contrary := ⟨_, rfl⟩
noncomputable def F_Book_contrary : DFn := F_Book_contrary_ex.choose
theorem F_Book_contrary_eq : F_Book_contrary = mkD 1 4 S_Book_contrary := F_Book_contrary_ex.choose_spec
def S_Book_turned : DSt := (sRet (eCall F_Book___init [] (eConsS (eFld ftab "letters" (eVarB 0)) (eConsS (eFld ftab "length" (eVarB 0)) (eConsS (eLc (eSeq (eFld ftab "words" (eVarB 0))) (gD 1) eYes (eRev (eVarB 1)) [1]) eNil)))))
theorem F_Book_turned_ex : ∃ x : DFn, x = mkD 1 2 S_Book_turned := ⟨_, rfl⟩
noncomputable def F_Book_turned : DFn := F_Book_turned_ex.choose
theorem F_Book_turned_eq : F_Book_turned = mkD 1 2 S_Book_turned := F_Book_turned_ex.choose_spec
theorem S_law_plain_right_r11_ex : ∃ x : DSt, x = (sRet (eAndV (eOp (dEqB tabE tabC) (eCall0 F_book_of_sums [] (eConsS (eMeth0 "SumBook" "turned" F_SumBook_turned [] (eVar 0) eNil) eNil)) (eMeth0 "Book" "turned" F_Book_turned [] (eVar 2) eNil)) (eOp (dEqB tabE tabC) (eFld ftab "words" (eMeth0 "Book" "turned" F_Book_turned [] (eVar 2) eNil)) (eCB dTupOf (eCons (eCB dSortedW (eCons (eLc (eSeq (eVarB 3)) (gD 4) eYes (eRev (eVarB 4)) [4]) eNil)) eNil))))) := ⟨_, rfl⟩
noncomputable def S_law_plain_right_r11 : DSt := S_law_plain_right_r11_ex.choose
theorem S_law_plain_right_r11_eq : S_law_plain_right_r11 = (sRet (eAndV (eOp (dEqB tabE tabC) (eCall0 F_book_of_sums [] (eConsS (eMeth0 "SumBook" "turned" F_SumBook_turned [] (eVar 0) eNil) eNil)) (eMeth0 "Book" "turned" F_Book_turned [] (eVar 2) eNil)) (eOp (dEqB tabE tabC) (eFld ftab "words" (eMeth0 "Book" "turned" F_Book_turned [] (eVar 2) eNil)) (eCB dTupOf (eCons (eCB dSortedW (eCons (eLc (eSeq (eVarB 3)) (gD 4) eYes (eRev (eVarB 4)) [4]) eNil)) eNil))))) := S_law_plain_right_r11_ex.choose_spec
theorem S_law_plain_right_r9_ex : ∃ x : DSt, x = (sSeq (sIf (eTest (eOp dNe (eOp dIx (eVarB 1) (eC (.int 1))) (eOp dAdd (eOp dIx (eVarB 1) (eC (.int 0))) (eC (.int 1)))))
    (sRet (eC (.bl true)))
    sNext)
    S_law_plain_right_r11) := ⟨_, rfl⟩
noncomputable def S_law_plain_right_r9 : DSt := S_law_plain_right_r9_ex.choose
theorem S_law_plain_right_r9_eq : S_law_plain_right_r9 = (sSeq (sIf (eTest (eOp dNe (eOp dIx (eVarB 1) (eC (.int 1))) (eOp dAdd (eOp dIx (eVarB 1) (eC (.int 0))) (eC (.int 1)))))
    (sRet (eC (.bl true)))
    sNext)
    S_law_plain_right_r11) := S_law_plain_right_r9_ex.choose_spec
theorem S_law_plain_right_r7_ex : ∃ x : DSt, x = (sSeq (sIf (eTest (eOp dNe (eFld ftab "words" (eMeth0 "Book" "contrary" F_Book_contrary [] (eVar 2) eNil)) (eCB dTupOf (eCons (eCB dSortedW (eCons (eLc (eSeq (eVarB 3)) (gD 4) eYes (eCB dTupOf (eCons (eLc (eSeq (eVarB 4)) (gD 5) eYes (eOp dSub (eC (.int 1)) (eVarB 5)) [5]) eNil)) [4]) eNil)) eNil))))
    (sRet (eC (.bl false)))
    sNext)
    S_law_plain_right_r9) := ⟨_, rfl⟩
noncomputable def S_law_plain_right_r7 : DSt := S_law_plain_right_r7_ex.choose
theorem S_law_plain_right_r7_eq : S_law_plain_right_r7 = (sSeq (sIf (eTest (eOp dNe (eFld ftab "words" (eMeth0 "Book" "contrary" F_Book_contrary [] (eVar 2) eNil)) (eCB dTupOf (eCons (eCB dSortedW (eCons (eLc (eSeq (eVarB 3)) (gD 4) eYes (eCB dTupOf (eCons (eLc (eSeq (eVarB 4)) (gD 5) eYes (eOp dSub (eC (.int 1)) (eVarB 5)) [5]) eNil)) [4]) eNil)) eNil))))
    (sRet (eC (.bl false)))
    sNext)
    S_law_plain_right_r9) := S_law_plain_right_r7_ex.choose_spec
theorem S_law_plain_right_r5_ex : ∃ x : DSt, x = (sSeq (sIf (eNotT (eTest (eOp (dEqB tabE tabC) (eCall0 F_book_of_sums [] (eConsS (eMeth0 "SumBook" "contrary" F_SumBook_contrary [] (eVar 0) eNil) eNil)) (eMeth0 "Book" "contrary" F_Book_contrary [] (eVar 2) eNil))))
    (sRet (eC (.bl false)))
    sNext)
    S_law_plain_right_r7) := ⟨_, rfl⟩
noncomputable def S_law_plain_right_r5 : DSt := S_law_plain_right_r5_ex.choose
theorem S_law_plain_right_r5_eq : S_law_plain_right_r5 = (sSeq (sIf (eNotT (eTest (eOp (dEqB tabE tabC) (eCall0 F_book_of_sums [] (eConsS (eMeth0 "SumBook" "contrary" F_SumBook_contrary [] (eVar 0) eNil) eNil)) (eMeth0 "Book" "contrary" F_Book_contrary [] (eVar 2) eNil))))
    (sRet (eC (.bl false)))
    sNext)
    S_law_plain_right_r7) := S_law_plain_right_r5_ex.choose_spec
theorem S_law_plain_right_r3_ex : ∃ x : DSt, x = (sSeq (sIf (eOrT (eTest (eOp dNe (eFld ftab "letters" (eVarB 2)) (eC (.int 2)))) (eOrT (eTest (eOp dNe (eFld ftab "length" (eVarB 2)) (eOp dIx (eVarB 1) (eC (.int 0))))) (eTest (eOp dNe (eFld ftab "words" (eVarB 2)) (eCB dTupOf (eCons (eVarB 3) eNil))))))
    (sRet (eC (.bl false)))
    sNext)
    S_law_plain_right_r5) := ⟨_, rfl⟩
noncomputable def S_law_plain_right_r3 : DSt := S_law_plain_right_r3_ex.choose
theorem S_law_plain_right_r3_eq : S_law_plain_right_r3 = (sSeq (sIf (eOrT (eTest (eOp dNe (eFld ftab "letters" (eVarB 2)) (eC (.int 2)))) (eOrT (eTest (eOp dNe (eFld ftab "length" (eVarB 2)) (eOp dIx (eVarB 1) (eC (.int 0))))) (eTest (eOp dNe (eFld ftab "words" (eVarB 2)) (eCB dTupOf (eCons (eVarB 3) eNil))))))
    (sRet (eC (.bl false)))
    sNext)
    S_law_plain_right_r5) := S_law_plain_right_r3_ex.choose_spec
theorem S_law_plain_right_r2_ex : ∃ x : DSt, x = (sSeq (sAsg (eCall0 F_law_sum_words [] (eConsS (eOp dIx (eVarB 1) (eC (.int 0))) (eConsS (eOp dIx (eVarB 1) (eC (.int 1))) (eConsS (eOp dIx (eVarB 1) (eC (.int 2))) eNil)))) (gD 3))
    S_law_plain_right_r3) := ⟨_, rfl⟩
noncomputable def S_law_plain_right_r2 : DSt := S_law_plain_right_r2_ex.choose
theorem S_law_plain_right_r2_eq : S_law_plain_right_r2 = (sSeq (sAsg (eCall0 F_law_sum_words [] (eConsS (eOp dIx (eVarB 1) (eC (.int 0))) (eConsS (eOp dIx (eVarB 1) (eC (.int 1))) (eConsS (eOp dIx (eVarB 1) (eC (.int 2))) eNil)))) (gD 3))
    S_law_plain_right_r3) := S_law_plain_right_r2_ex.choose_spec
def S_law_plain_right : DSt := (sSeq (sAsg (eCall0 F_book_of_sums [] (eConsS (eVar 0) eNil)) (gD 2))
    S_law_plain_right_r2)
theorem F_law_plain_right_ex : ∃ x : DFn, x = mkD0 2 6 S_law_plain_right := ⟨_, rfl⟩
noncomputable def F_law_plain_right : DFn := F_law_plain_right_ex.choose
theorem F_law_plain_right_eq : F_law_plain_right = mkD0 2 6 S_law_plain_right := F_law_plain_right_ex.choose_spec
def S_law_odd : DSt := (sRet (eOp dIx (eLst (eCons (eUn dNeg (eC (.int 1))) (eCons (eOp dAdd (eVarB 1) (eC (.int 1))) (eCons (eC (.bl true)) (eCons (eC .non) (eCons (eC (.str "1")) (eCons (eTup (eCons (eC (.int 0)) eNil)) (eCons (eOp dSub (eUn dNeg (eC (.int 1))) (eCall0 F_law_take [] (eConsH 0 (eConsS (eC (.int (1000000))) eNil)))) (eCons (eOp dAdd (eOp dAdd (eVarB 1) (eC (.int 1))) (eCall0 F_law_take [] (eConsH 0 (eConsS (eC (.int (1000000))) eNil)))) eNil))))))))) (eCall0 F_law_take [] (eConsH 0 (eConsS (eC (.int 8)) eNil)))))
theorem F_law_odd_ex : ∃ x : DFn, x = mkD0 2 2 S_law_odd := ⟨_, rfl⟩
noncomputable def F_law_odd : DFn := F_law_odd_ex.choose
theorem F_law_odd_eq : F_law_odd = mkD0 2 2 S_law_odd := F_law_odd_ex.choose_spec
def S_law_made_refused : DSt := (sSeq (sAsg (eCall0 F_law_odd [] (eConsH 0 (eConsS (eC (.int 200)) eNil))) (gD 2))
    (sSeq (sAsg (eOp dIx (eLst (eCons (eOp dIx (eVarB 1) (eC (.int 0))) (eCons (eC (.bl true)) (eCons (eC .non) (eCons (eC (.str "9")) (eCons (eOp dAdd (eC (.int (1000000))) (eC (.int 1))) (eCons (eUn dNeg (eOp dIx (eVarB 1) (eC (.int 1)))) (eCons (eOp dAdd (eOp dAdd (eC (.int (1000000))) (eC (.int 1))) (eCall0 F_law_take [] (eConsH 0 (eConsS (eC (.int (1000000))) eNil)))) eNil)))))))) (eCall0 F_law_take [] (eConsH 0 (eConsS (eC (.int 7)) eNil)))) (gD 3))
    (sSeq (sAsg (eCall0 F_law_odd [] (eConsH 0 (eConsS (eOp dSub (eOp dIx (eVarB 1) (eC (.int 1))) (eC (.int 1))) eNil))) (gD 4))
    (sSeq (sAsg (eCall0 F_law_take [] (eConsH 0 (eConsS (eC (.int 2)) eNil))) (gD 5))
    (sSeq (sIf (eTest (eOp dNe (eCall0 F_law_made [] (eConsS (eVar 2) (eConsS (eOp dIx (eLst (eCons (eOp dIx (eVarB 1) (eC (.int 1))) (eCons (eVar 3) eNil))) (eVarB 5)) (eConsS (eOp dIx (eLst (eCons (eC (.int 0)) (eCons (eVar 4) eNil))) (eCall0 F_law_take [] (eConsH 0 (eConsS (eC (.int 2)) eNil)))) eNil)))) (eTup (eCons (eC (.str "number")) (eCons (eC (.bl true)) eNil)))))
    (sRet (eC (.bl false)))
    sNext)
    (sSeq (sIf (eTest (eOp dNe (eCall0 F_law_made [] (eConsS (eOp dIx (eVarB 1) (eC (.int 0))) (eConsS (eVar 3) (eConsS (eOp dIx (eLst (eCons (eC (.int 0)) (eCons (eVar 4) eNil))) (eVarB 5)) eNil)))) (eTup (eCons (eC (.str "modulus")) (eCons (eC (.bl true)) eNil)))))
    (sRet (eC (.bl false)))
    sNext)
    (sRet (eOp dEq (eCall0 F_law_made [] (eConsS (eOp dIx (eVarB 1) (eC (.int 0))) (eConsS (eOp dIx (eVarB 1) (eC (.int 1))) (eConsS (eVar 4) eNil)))) (eTup (eCons (eC (.str "rest")) (eCons (eC (.bl true)) eNil)))))))))))
theorem F_law_made_refused_ex : ∃ x : DFn, x = mkD0 2 6 S_law_made_refused := ⟨_, rfl⟩
noncomputable def F_law_made_refused : DFn := F_law_made_refused_ex.choose
theorem F_law_made_refused_eq : F_law_made_refused = mkD0 2 6 S_law_made_refused := F_law_made_refused_ex.choose_spec
theorem S_law_bad_word_r11_ex : ∃ x : DSt, x = (sFrz 4 (sRet (eLst (eCons (eIf (eTest (eOp dEq (eCall0 F_law_take [] (eConsH 0 (eConsS (eC (.int 2)) eNil))) (eC (.int 0)))) (eVar 4) (eCB dTupOf (eCons (eVarB 4) eNil))) (eCons (eVar 5) eNil))))) := ⟨_, rfl⟩
noncomputable def S_law_bad_word_r11 : DSt := S_law_bad_word_r11_ex.choose
theorem S_law_bad_word_r11_eq : S_law_bad_word_r11 = (sFrz 4 (sRet (eLst (eCons (eIf (eTest (eOp dEq (eCall0 F_law_take [] (eConsH 0 (eConsS (eC (.int 2)) eNil))) (eC (.int 0)))) (eVar 4) (eCB dTupOf (eCons (eVarB 4) eNil))) (eCons (eVar 5) eNil))))) := S_law_bad_word_r11_ex.choose_spec
theorem S_law_bad_word_r9_ex : ∃ x : DSt, x = (sSeq (sIf (eTest (eOp dEq (eCall0 F_law_take [] (eConsH 0 (eConsS (eC (.int 2)) eNil))) (eC (.int 0))))
    (sPut 4 (eUn dNeg (eC (.int 1))) (eIf (eTest (eOp dLt (eVarB 5) (eOp dSub (eCB dLen (eCons (eVarB 4) eNil)) (eC (.int 1))))) (eC (.int 7)) (eOp dIx (eVarB 4) (eUn dNeg (eC (.int 1))))))
    sNext)
    S_law_bad_word_r11) := ⟨_, rfl⟩
noncomputable def S_law_bad_word_r9 : DSt := S_law_bad_word_r9_ex.choose
theorem S_law_bad_word_r9_eq : S_law_bad_word_r9 = (sSeq (sIf (eTest (eOp dEq (eCall0 F_law_take [] (eConsH 0 (eConsS (eC (.int 2)) eNil))) (eC (.int 0))))
    (sPut 4 (eUn dNeg (eC (.int 1))) (eIf (eTest (eOp dLt (eVarB 5) (eOp dSub (eCB dLen (eCons (eVarB 4) eNil)) (eC (.int 1))))) (eC (.int 7)) (eOp dIx (eVarB 4) (eUn dNeg (eC (.int 1))))))
    sNext)
    S_law_bad_word_r11) := S_law_bad_word_r9_ex.choose_spec
theorem S_law_bad_word_r8_ex : ∃ x : DSt, x = (sSeq (sPut 4 (eVar 5) (eCall0 F_law_odd [] (eConsH 0 (eConsS (eC (.int 1)) eNil))))
    S_law_bad_word_r9) := ⟨_, rfl⟩
noncomputable def S_law_bad_word_r8 : DSt := S_law_bad_word_r8_ex.choose
theorem S_law_bad_word_r8_eq : S_law_bad_word_r8 = (sSeq (sPut 4 (eVar 5) (eCall0 F_law_odd [] (eConsH 0 (eConsS (eC (.int 1)) eNil))))
    S_law_bad_word_r9) := S_law_bad_word_r8_ex.choose_spec
theorem S_law_bad_word_r7_ex : ∃ x : DSt, x = (sSeq (sAsg (eCall0 F_law_take [] (eConsH 0 (eConsS (eCB dLen (eCons (eVarB 4) eNil)) eNil))) (gD 5))
    S_law_bad_word_r8) := ⟨_, rfl⟩
noncomputable def S_law_bad_word_r7 : DSt := S_law_bad_word_r7_ex.choose
theorem S_law_bad_word_r7_eq : S_law_bad_word_r7 = (sSeq (sAsg (eCall0 F_law_take [] (eConsH 0 (eConsS (eCB dLen (eCons (eVarB 4) eNil)) eNil))) (gD 5))
    S_law_bad_word_r8) := S_law_bad_word_r7_ex.choose_spec
theorem S_law_bad_word_r6_ex : ∃ x : DSt, x = (sSeq (sOwn 4 (eIf (eTru (eVarB 1)) (eCB dLstOf (eCons (eVarB 1) eNil)) (eLst (eCons (eC (.int 0)) eNil))))
    S_law_bad_word_r7) := ⟨_, rfl⟩
noncomputable def S_law_bad_word_r6 : DSt := S_law_bad_word_r6_ex.choose
theorem S_law_bad_word_r6_eq : S_law_bad_word_r6 = (sSeq (sOwn 4 (eIf (eTru (eVarB 1)) (eCB dLstOf (eCons (eVarB 1) eNil)) (eLst (eCons (eC (.int 0)) eNil))))
    S_law_bad_word_r7) := S_law_bad_word_r6_ex.choose_spec
theorem S_law_bad_word_r4_ex : ∃ x : DSt, x = (sSeq (sIf (eTest (eOp dEq (eVarB 3) (eC (.int 1))))
    (sRet (eLst (eCons (eOp dMul (eLst (eCons (eC (.int 0)) eNil)) (eOp dAdd (eOp dAdd (eVarB 2) (eC (.int 1))) (eCall0 F_law_take [] (eConsH 0 (eConsS (eC (.int 3)) eNil))))) (eCons (eUn dNeg (eC (.int 1))) eNil))))
    sNext)
    S_law_bad_word_r6) := ⟨_, rfl⟩
noncomputable def S_law_bad_word_r4 : DSt := S_law_bad_word_r4_ex.choose
theorem S_law_bad_word_r4_eq : S_law_bad_word_r4 = (sSeq (sIf (eTest (eOp dEq (eVarB 3) (eC (.int 1))))
    (sRet (eLst (eCons (eOp dMul (eLst (eCons (eC (.int 0)) eNil)) (eOp dAdd (eOp dAdd (eVarB 2) (eC (.int 1))) (eCall0 F_law_take [] (eConsH 0 (eConsS (eC (.int 3)) eNil))))) (eCons (eUn dNeg (eC (.int 1))) eNil))))
    sNext)
    S_law_bad_word_r6) := S_law_bad_word_r4_ex.choose_spec
theorem S_law_bad_word_r2_ex : ∃ x : DSt, x = (sSeq (sIf (eTest (eOp dEq (eVarB 3) (eC (.int 0))))
    (sRet (eLst (eCons (eOp dIx (eLst (eCons (eC .non) (eCons (eC (.str "01")) (eCons (eC (.int 5)) (eCons (eDk1 0 1) eNil))))) (eCall0 F_law_take [] (eConsH 0 (eConsS (eC (.int 4)) eNil)))) (eCons (eUn dNeg (eC (.int 1))) eNil))))
    sNext)
    S_law_bad_word_r4) := ⟨_, rfl⟩
noncomputable def S_law_bad_word_r2 : DSt := S_law_bad_word_r2_ex.choose
theorem S_law_bad_word_r2_eq : S_law_bad_word_r2 = (sSeq (sIf (eTest (eOp dEq (eVarB 3) (eC (.int 0))))
    (sRet (eLst (eCons (eOp dIx (eLst (eCons (eC .non) (eCons (eC (.str "01")) (eCons (eC (.int 5)) (eCons (eDk1 0 1) eNil))))) (eCall0 F_law_take [] (eConsH 0 (eConsS (eC (.int 4)) eNil)))) (eCons (eUn dNeg (eC (.int 1))) eNil))))
    sNext)
    S_law_bad_word_r4) := S_law_bad_word_r2_ex.choose_spec
def S_law_bad_word : DSt := (sSeq (sAsg (eCall0 F_law_take [] (eConsH 0 (eConsS (eC (.int 4)) eNil))) (gD 3))
    S_law_bad_word_r2)
theorem F_law_bad_word_ex : ∃ x : DFn, x = mkD0 3 6 S_law_bad_word := ⟨_, rfl⟩
noncomputable def F_law_bad_word : DFn := F_law_bad_word_ex.choose
theorem F_law_bad_word_eq : F_law_bad_word = mkD0 3 6 S_law_bad_word := F_law_bad_word_ex.choose_spec
def S_law_has_refused : DSt := (sSeq (sTry mt (sDrop (eMeth "SumBook" "has" F_SumBook_has [] (eVar 0) (eConsS (eVar 1) eNil))) (("BadWord", some 2, (sRet (eTup (eCons (eC (.str "word")) (eCons (eXf 2 "BadWord" "index") eNil))))) :: []))
    (sRet (eC .non)))
theorem F_law_has_refused_ex : ∃ x : DFn, x = mkD0 2 3 S_law_has_refused := ⟨_, rfl⟩
noncomputable def F_law_has_refused : DFn := F_law_has_refused_ex.choose
theorem F_law_has_refused_eq : F_law_has_refused = mkD0 2 3 S_law_has_refused := F_law_has_refused_ex.choose_spec
def S_law_held_refused : DSt := (sSeq (sTry mt (sDrop (eCall F_SumBook_holding [] (eConsS (eVar 0) (eConsS (eVar 1) eNil)))) (("BadWord", some 2, (sRet (eTup (eCons (eC (.str "word")) (eCons (eXf 2 "BadWord" "index") eNil))))) :: (("BadModulus", none, (sRet (eTup (eCons (eC (.str "modulus")) (eCons (eC (.int 0)) eNil))))) :: [])))
    (sRet (eC .non)))
theorem F_law_held_refused_ex : ∃ x : DFn, x = mkD0 2 3 S_law_held_refused := ⟨_, rfl⟩
noncomputable def F_law_held_refused : DFn := F_law_held_refused_ex.choose
theorem F_law_held_refused_eq : F_law_held_refused = mkD0 2 3 S_law_held_refused := F_law_held_refused_ex.choose_spec
def S_law_power : DSt := (sSeq (sAsg (eC (.int 1)) (gD 2))
    (sSeq (sFor (eRng1 (eCons (eVarB 1) eNil)) (gD 3)
    (sAsg (eOp dMul (eVarB 2) (eVarB 0)) (gD 2)))
    (sRet (eVar 2))))
theorem F_law_power_ex : ∃ x : DFn, x = mkD0 2 4 S_law_power := ⟨_, rfl⟩
noncomputable def F_law_power : DFn := F_law_power_ex.choose
theorem F_law_power_eq : F_law_power = mkD0 2 4 S_law_power := F_law_power_ex.choose_spec
def S_law_great_refused : DSt := (sSeq (sTry mt (sDrop (eCall F_book_of_sums [] (eConsS (eCall F_SumBook___init [] (eConsS (eVar 0) (eConsS (eOp dAdd (eVarB 0) (eC (.int 1))) (eConsS (eVar 1) eNil)))) eNil))) (("BadBook", some 2, (sRet (eXf 2 "BadBook" "what"))) :: (("TooMany", some 2, (sRet (eXf 2 "TooMany" "count"))) :: [])))
    (sRet (eC .non)))
theorem F_law_great_refused_ex : ∃ x : DFn, x = mkD0 2 3 S_law_great_refused := ⟨_, rfl⟩
noncomputable def F_law_great_refused : DFn := F_law_great_refused_ex.choose
theorem F_law_great_refused_eq : F_law_great_refused = mkD0 2 3 S_law_great_refused := F_law_great_refused_ex.choose_spec
theorem S_law_r23_ex : ∃ x : DSt, x = (sIf (eTest (eOp dNe (eCall0 F_law_held_refused [] (eConsS (eVar 7) (eConsS (eOp dIx (eLst (eCons (eCB dLen (eCons (eVarB 7) eNil)) (eCons (eC (.bl true)) (eCons (eOp dAdd (eC (.int (1000000))) (eC (.int 1))) (eCons (eC .non) eNil))))) (eCall0 F_law_take [] (eConsH 1 (eConsS (eC (.int 4)) eNil)))) eNil))) (eTup (eCons (eC (.str "modulus")) (eCons (eC (.int 0)) eNil)))))
    (sRet (eC (.bl false)))
    sNext) := ⟨_, rfl⟩
noncomputable def S_law_r23 : DSt := S_law_r23_ex.choose
theorem S_law_r23_eq : S_law_r23 = (sIf (eTest (eOp dNe (eCall0 F_law_held_refused [] (eConsS (eVar 7) (eConsS (eOp dIx (eLst (eCons (eCB dLen (eCons (eVarB 7) eNil)) (eCons (eC (.bl true)) (eCons (eOp dAdd (eC (.int (1000000))) (eC (.int 1))) (eCons (eC .non) eNil))))) (eCall0 F_law_take [] (eConsH 1 (eConsS (eC (.int 4)) eNil)))) eNil))) (eTup (eCons (eC (.str "modulus")) (eCons (eC (.int 0)) eNil)))))
    (sRet (eC (.bl false)))
    sNext) := S_law_r23_ex.choose_spec
theorem S_law_r21_ex : ∃ x : DSt, x = (sSeq (sIf (eOrT (eTest (eOp dNe (eCall0 F_law_held_refused [] (eConsS (eOp dIx (eVarB 8) (eC (.int 0))) (eConsS (eOp dIx (eLst (eCons (eC (.int 300)) (eCons (eC .non) eNil))) (eCall0 F_law_take [] (eConsH 1 (eConsS (eC (.int 2)) eNil)))) eNil))) (eTup (eCons (eC (.str "word")) (eCons (eOp dIx (eVarB 8) (eC (.int 1))) eNil))))) (eTest (eOp dNe (eCall0 F_law_has_refused [] (eConsS (eVar 6) (eConsS (eOp dIx (eVarB 8) (eC (.int 0))) eNil))) (eTup (eCons (eC (.str "word")) (eCons (eOp dIx (eVarB 8) (eC (.int 1))) eNil))))))
    (sRet (eC (.bl false)))
    sNext)
    S_law_r23) := ⟨_, rfl⟩
noncomputable def S_law_r21 : DSt := S_law_r21_ex.choose
theorem S_law_r21_eq : S_law_r21 = (sSeq (sIf (eOrT (eTest (eOp dNe (eCall0 F_law_held_refused [] (eConsS (eOp dIx (eVarB 8) (eC (.int 0))) (eConsS (eOp dIx (eLst (eCons (eC (.int 300)) (eCons (eC .non) eNil))) (eCall0 F_law_take [] (eConsH 1 (eConsS (eC (.int 2)) eNil)))) eNil))) (eTup (eCons (eC (.str "word")) (eCons (eOp dIx (eVarB 8) (eC (.int 1))) eNil))))) (eTest (eOp dNe (eCall0 F_law_has_refused [] (eConsS (eVar 6) (eConsS (eOp dIx (eVarB 8) (eC (.int 0))) eNil))) (eTup (eCons (eC (.str "word")) (eCons (eOp dIx (eVarB 8) (eC (.int 1))) eNil))))))
    (sRet (eC (.bl false)))
    sNext)
    S_law_r23) := S_law_r21_ex.choose_spec
theorem S_law_r20_ex : ∃ x : DSt, x = (sSeq (sAsg (eCall0 F_law_bad_word [] (eConsH 1 (eConsS (eVar 7) (eConsS (eC (.int 200)) eNil)))) (gD 8))
    S_law_r21) := ⟨_, rfl⟩
noncomputable def S_law_r20 : DSt := S_law_r20_ex.choose
theorem S_law_r20_eq : S_law_r20 = (sSeq (sAsg (eCall0 F_law_bad_word [] (eConsH 1 (eConsS (eVar 7) (eConsS (eC (.int 200)) eNil)))) (gD 8))
    S_law_r21) := S_law_r20_ex.choose_spec
theorem S_law_r19_ex : ∃ x : DSt, x = (sSeq (sAsg (eCall0 F_law_runny [] (eConsH 1 (eConsS (eC (.int 2)) (eConsS (eCB dMin2 (eCons (eVarB 4) (eCons (eC (.int 20)) eNil))) eNil)))) (gD 7))
    S_law_r20) := ⟨_, rfl⟩
noncomputable def S_law_r19 : DSt := S_law_r19_ex.choose
theorem S_law_r19_eq : S_law_r19 = (sSeq (sAsg (eCall0 F_law_runny [] (eConsH 1 (eConsS (eC (.int 2)) (eConsS (eCB dMin2 (eCons (eVarB 4) (eCons (eC (.int 20)) eNil))) eNil)))) (gD 7))
    S_law_r20) := S_law_r19_ex.choose_spec
theorem S_law_r17_ex : ∃ x : DSt, x = (sSeq (sIf (eNotT (eTru (eCall0 F_law_made_refused [] (eConsH 1 (eConsS (eVar 5) eNil)))))
    (sRet (eC (.bl false)))
    sNext)
    S_law_r19) := ⟨_, rfl⟩
noncomputable def S_law_r17 : DSt := S_law_r17_ex.choose
theorem S_law_r17_eq : S_law_r17 = (sSeq (sIf (eNotT (eTru (eCall0 F_law_made_refused [] (eConsH 1 (eConsS (eVar 5) eNil)))))
    (sRet (eC (.bl false)))
    sNext)
    S_law_r19) := S_law_r17_ex.choose_spec
theorem S_law_r15_ex : ∃ x : DSt, x = (sSeq (sIf (eAndT (eNotT (eTru (eVarB 3))) (eNotT (eTru (eCall0 F_law_plain_right [] (eConsS (eVar 6) (eConsS (eVar 5) eNil))))))
    (sRet (eC (.bl false)))
    sNext)
    S_law_r17) := ⟨_, rfl⟩
noncomputable def S_law_r15 : DSt := S_law_r15_ex.choose
theorem S_law_r15_eq : S_law_r15 = (sSeq (sIf (eAndT (eNotT (eTru (eVarB 3))) (eNotT (eTru (eCall0 F_law_plain_right [] (eConsS (eVar 6) (eConsS (eVar 5) eNil))))))
    (sRet (eC (.bl false)))
    sNext)
    S_law_r17) := S_law_r15_ex.choose_spec
theorem S_law_r13_ex : ∃ x : DSt, x = (sSeq (sIf (eAndT (eTest (eOp dGt (eOp dIx (eVarB 5) (eC (.int 0))) (eC (.int 0)))) (eTest (eOp (dEqB tabE tabC) (eVar 6) (eCall0 F_SumBook___init [] (eConsS (eOp dSub (eOp dIx (eVarB 5) (eC (.int 0))) (eC (.int 1))) (eConsS (eOp dIx (eVarB 5) (eC (.int 1))) (eConsS (eOp dIx (eVarB 5) (eC (.int 2))) eNil)))))))
    (sRet (eC (.bl false)))
    sNext)
    S_law_r15) := ⟨_, rfl⟩
noncomputable def S_law_r13 : DSt := S_law_r13_ex.choose
theorem S_law_r13_eq : S_law_r13 = (sSeq (sIf (eAndT (eTest (eOp dGt (eOp dIx (eVarB 5) (eC (.int 0))) (eC (.int 0)))) (eTest (eOp (dEqB tabE tabC) (eVar 6) (eCall0 F_SumBook___init [] (eConsS (eOp dSub (eOp dIx (eVarB 5) (eC (.int 0))) (eC (.int 1))) (eConsS (eOp dIx (eVarB 5) (eC (.int 1))) (eConsS (eOp dIx (eVarB 5) (eC (.int 2))) eNil)))))))
    (sRet (eC (.bl false)))
    sNext)
    S_law_r15) := S_law_r13_ex.choose_spec
theorem S_law_r11_ex : ∃ x : DSt, x = (sSeq (sIf (eAndT (eTest (eOp dGt (eOp dIx (eVarB 5) (eC (.int 1))) (eC (.int 1)))) (eTest (eOp (dEqB tabE tabC) (eVar 6) (eCall0 F_SumBook___init [] (eConsS (eOp dIx (eVarB 5) (eC (.int 0))) (eConsS (eOp dIx (eVarB 5) (eC (.int 1))) (eConsS (eOp dMod (eCB dInt (eCons (eOp dAdd (eOp dIx (eVarB 5) (eC (.int 2))) (eC (.int 1))) eNil)) (eOp dIx (eVarB 5) (eC (.int 1)))) eNil)))))))
    (sRet (eC (.bl false)))
    sNext)
    S_law_r13) := ⟨_, rfl⟩
noncomputable def S_law_r11 : DSt := S_law_r11_ex.choose
theorem S_law_r11_eq : S_law_r11 = (sSeq (sIf (eAndT (eTest (eOp dGt (eOp dIx (eVarB 5) (eC (.int 1))) (eC (.int 1)))) (eTest (eOp (dEqB tabE tabC) (eVar 6) (eCall0 F_SumBook___init [] (eConsS (eOp dIx (eVarB 5) (eC (.int 0))) (eConsS (eOp dIx (eVarB 5) (eC (.int 1))) (eConsS (eOp dMod (eCB dInt (eCons (eOp dAdd (eOp dIx (eVarB 5) (eC (.int 2))) (eC (.int 1))) eNil)) (eOp dIx (eVarB 5) (eC (.int 1)))) eNil)))))))
    (sRet (eC (.bl false)))
    sNext)
    S_law_r13) := S_law_r11_ex.choose_spec
theorem S_law_r9_ex : ∃ x : DSt, x = (sSeq (sIf (eOrT (eNotT (eTest (eOp (dEqB tabE tabC) (eVar 6) (eCall0 F_SumBook___init [] (eConsS (eOp dIx (eVarB 5) (eC (.int 0))) (eConsS (eOp dIx (eVarB 5) (eC (.int 1))) (eConsS (eOp dIx (eVarB 5) (eC (.int 2))) eNil))))))) (eTest (eOp (dEqB tabE tabC) (eVar 6) (eCall0 F_SumBook___init [] (eConsS (eOp dIx (eVarB 5) (eC (.int 0))) (eConsS (eOp dSub (eOp dAdd (eOp dIx (eVarB 5) (eC (.int 1))) (eC (.int 1))) (eOp dMul (eC (.int 2)) (eOp dFdiv (eOp dIx (eVarB 5) (eC (.int 1))) (eC (.int (1000000)))))) (eConsS (eC (.int 0)) eNil)))))))
    (sRet (eC (.bl false)))
    sNext)
    S_law_r11) := ⟨_, rfl⟩
noncomputable def S_law_r9 : DSt := S_law_r9_ex.choose
theorem S_law_r9_eq : S_law_r9 = (sSeq (sIf (eOrT (eNotT (eTest (eOp (dEqB tabE tabC) (eVar 6) (eCall0 F_SumBook___init [] (eConsS (eOp dIx (eVarB 5) (eC (.int 0))) (eConsS (eOp dIx (eVarB 5) (eC (.int 1))) (eConsS (eOp dIx (eVarB 5) (eC (.int 2))) eNil))))))) (eTest (eOp (dEqB tabE tabC) (eVar 6) (eCall0 F_SumBook___init [] (eConsS (eOp dIx (eVarB 5) (eC (.int 0))) (eConsS (eOp dSub (eOp dAdd (eOp dIx (eVarB 5) (eC (.int 1))) (eC (.int 1))) (eOp dMul (eC (.int 2)) (eOp dFdiv (eOp dIx (eVarB 5) (eC (.int 1))) (eC (.int (1000000)))))) (eConsS (eC (.int 0)) eNil)))))))
    (sRet (eC (.bl false)))
    sNext)
    S_law_r11) := S_law_r9_ex.choose_spec
theorem S_law_r7_ex : ∃ x : DSt, x = (sSeq (sIf (eOrT (eNotT (eTru (eCall0 F_law_is_book [] (eConsS (eVar 6) (eConsS (eOp dIx (eVarB 5) (eC (.int 0))) (eConsS (eOp dIx (eVarB 5) (eC (.int 1))) (eConsS (eOp dIx (eVarB 5) (eC (.int 2))) eNil))))))) (eNotT (eTru (eCall0 F_law_led_right [] (eConsH 1 (eConsS (eVar 6) (eConsS (eVar 5) eNil)))))))
    (sRet (eC (.bl false)))
    sNext)
    S_law_r9) := ⟨_, rfl⟩
noncomputable def S_law_r7 : DSt := S_law_r7_ex.choose
theorem S_law_r7_eq : S_law_r7 = (sSeq (sIf (eOrT (eNotT (eTru (eCall0 F_law_is_book [] (eConsS (eVar 6) (eConsS (eOp dIx (eVarB 5) (eC (.int 0))) (eConsS (eOp dIx (eVarB 5) (eC (.int 1))) (eConsS (eOp dIx (eVarB 5) (eC (.int 2))) eNil))))))) (eNotT (eTru (eCall0 F_law_led_right [] (eConsH 1 (eConsS (eVar 6) (eConsS (eVar 5) eNil)))))))
    (sRet (eC (.bl false)))
    sNext)
    S_law_r9) := S_law_r7_ex.choose_spec
theorem S_law_r6_ex : ∃ x : DSt, x = (sSeq (sAsg (eCall0 F_law_made [] (eConsS (eOp dIx (eVarB 5) (eC (.int 0))) (eConsS (eOp dIx (eVarB 5) (eC (.int 1))) (eConsS (eOp dIx (eVarB 5) (eC (.int 2))) eNil)))) (gD 6))
    S_law_r7) := ⟨_, rfl⟩
noncomputable def S_law_r6 : DSt := S_law_r6_ex.choose
theorem S_law_r6_eq : S_law_r6 = (sSeq (sAsg (eCall0 F_law_made [] (eConsS (eOp dIx (eVarB 5) (eC (.int 0))) (eConsS (eOp dIx (eVarB 5) (eC (.int 1))) (eConsS (eOp dIx (eVarB 5) (eC (.int 2))) eNil)))) (gD 6))
    S_law_r7) := S_law_r6_ex.choose_spec
theorem S_law_r5_ex : ∃ x : DSt, x = (sSeq (sAsg (eCall0 F_law_book_of [] (eConsH 1 (eConsS (eVar 4) eNil))) (gD 5))
    S_law_r6) := ⟨_, rfl⟩
noncomputable def S_law_r5 : DSt := S_law_r5_ex.choose
theorem S_law_r5_eq : S_law_r5 = (sSeq (sAsg (eCall0 F_law_book_of [] (eConsH 1 (eConsS (eVar 4) eNil))) (gD 5))
    S_law_r6) := S_law_r5_ex.choose_spec
theorem S_law_r4_ex : ∃ x : DSt, x = (sSeq (sAsg (eIf (eTru (eVarB 3)) (eOp dAdd (eC (.int 9)) (eCall0 F_law_take [] (eConsH 1 (eConsS (eC (.int 192)) eNil)))) (eCall0 F_law_take [] (eConsH 1 (eConsS (eC (.int 9)) eNil)))) (gD 4))
    S_law_r5) := ⟨_, rfl⟩
noncomputable def S_law_r4 : DSt := S_law_r4_ex.choose
theorem S_law_r4_eq : S_law_r4 = (sSeq (sAsg (eIf (eTru (eVarB 3)) (eOp dAdd (eC (.int 9)) (eCall0 F_law_take [] (eConsH 1 (eConsS (eC (.int 192)) eNil)))) (eCall0 F_law_take [] (eConsH 1 (eConsS (eC (.int 9)) eNil)))) (gD 4))
    S_law_r5) := S_law_r4_ex.choose_spec
theorem S_law_b3_ex : ∃ x : DSt, x = (sSeq (sAsg (eOp (dEqB tabE tabC) (eCall0 F_law_take [] (eConsH 1 (eConsS (eC (.int 4)) eNil))) (eC (.int 0))) (gD 3))
    S_law_r4) := ⟨_, rfl⟩
noncomputable def S_law_b3 : DSt := S_law_b3_ex.choose
theorem S_law_b3_eq : S_law_b3 = (sSeq (sAsg (eOp (dEqB tabE tabC) (eCall0 F_law_take [] (eConsH 1 (eConsS (eC (.int 4)) eNil))) (eC (.int 0))) (gD 3))
    S_law_r4) := S_law_b3_ex.choose_spec
theorem S_law_r27_ex : ∃ x : DSt, x = (sRet (eOp (dEqB tabE tabC) (eCall0 F_law_great_refused [] (eConsS (eVar 9) (eConsS (eCall0 F_law_take [] (eConsH 1 (eConsS (eOp dAdd (eVarB 9) (eC (.int 1))) eNil))) eNil))) (eVar 10))) := ⟨_, rfl⟩
noncomputable def S_law_r27 : DSt := S_law_r27_ex.choose
theorem S_law_r27_eq : S_law_r27 = (sRet (eOp (dEqB tabE tabC) (eCall0 F_law_great_refused [] (eConsS (eVar 9) (eConsS (eCall0 F_law_take [] (eConsH 1 (eConsS (eOp dAdd (eVarB 9) (eC (.int 1))) eNil))) eNil))) (eVar 10))) := S_law_r27_ex.choose_spec
theorem S_law_r26_ex : ∃ x : DSt, x = (sSeq (sAsg (eIf (eTest (eOp dLt (eVarB 9) (eC (.int 15)))) (eC (.str "many")) (eCall0 F_law_power [] (eConsS (eC (.int 2)) (eConsS (eVar 9) eNil)))) (gD 10))
    S_law_r27) := ⟨_, rfl⟩
noncomputable def S_law_r26 : DSt := S_law_r26_ex.choose
theorem S_law_r26_eq : S_law_r26 = (sSeq (sAsg (eIf (eTest (eOp dLt (eVarB 9) (eC (.int 15)))) (eC (.str "many")) (eCall0 F_law_power [] (eConsS (eC (.int 2)) (eConsS (eVar 9) eNil)))) (gD 10))
    S_law_r27) := S_law_r26_ex.choose_spec
theorem S_law_r25_ex : ∃ x : DSt, x = (sSeq (sAsg (eOp dIx (eLst (eCons (eC (.int 10)) (eCons (eC (.int 11)) (eCons (eC (.int 15)) (eCons (eOp dAdd (eC (.int 16)) (eCall0 F_law_take [] (eConsH 1 (eConsS (eC (.int 185)) eNil)))) (eCons (eC (.int 12)) eNil)))))) (eIf (eTest (eOp (dEqB tabE tabC) (eCall0 F_law_take [] (eConsH 1 (eConsS (eC (.int 3)) eNil))) (eC (.int 0)))) (eOp dMod (eCall0 F_law_take [] (eConsH 1 (eConsS (eC (.int 20)) eNil))) (eC (.int 5))) (eC (.int 2)))) (gD 9))
    S_law_r26) := ⟨_, rfl⟩
noncomputable def S_law_r25 : DSt := S_law_r25_ex.choose
theorem S_law_r25_eq : S_law_r25 = (sSeq (sAsg (eOp dIx (eLst (eCons (eC (.int 10)) (eCons (eC (.int 11)) (eCons (eC (.int 15)) (eCons (eOp dAdd (eC (.int 16)) (eCall0 F_law_take [] (eConsH 1 (eConsS (eC (.int 185)) eNil)))) (eCons (eC (.int 12)) eNil)))))) (eIf (eTest (eOp (dEqB tabE tabC) (eCall0 F_law_take [] (eConsH 1 (eConsS (eC (.int 3)) eNil))) (eC (.int 0)))) (eOp dMod (eCall0 F_law_take [] (eConsH 1 (eConsS (eC (.int 20)) eNil))) (eC (.int 5))) (eC (.int 2)))) (gD 9))
    S_law_r26) := S_law_r25_ex.choose_spec
def S_law : DSt := (sSeq (sFor (eRng1 (eCons (eC (.int 2)) eNil)) (gD 2)
    S_law_b3)
    S_law_r25)
abbrev Goal : Prop := LawGoal 9 S_law
end Mine

namespace Mine
open PySem PySem.Spec PyProof.Rows L2
abbrev PG : Program := PySem.Challenge.pw_lostplaces_k43_whole_sum_books_made_turn
def top (i : Nat) : Stmt := PG.main.body.getD i (.Pass ⟨0, 0, 0, 0⟩)
abbrev s_wall : Stmt := top 0
abbrev N_wall : List Str := ["k"]
abbrev P_wall : List Str := ["k"]
theorem sc_wall : FnScope N_wall P_wall (defScope s_wall) := ⟨rfl, rfl, rfl, by decide +kernel, rfl, by decide +kernel, by decide +kernel⟩
abbrev D_wall (K : PySem.W.Frag) (f : Addr) (fd : FuncData) : Prop := FunD K "_wall" "_wall" (defArgs s_wall) (defBody s_wall) (defScope s_wall) [] [] f fd
abbrev s_BadWord___init : Stmt := inClass (top 4) 0
abbrev N_BadWord___init : List Str := ["self", "index"]
abbrev P_BadWord___init : List Str := ["self", "index"]
theorem sc_BadWord___init : FnScope N_BadWord___init P_BadWord___init (defScope s_BadWord___init) := ⟨rfl, rfl, rfl, by decide +kernel, rfl, by decide +kernel, by decide +kernel⟩
abbrev D_BadWord___init (K : PySem.W.Frag) (f : Addr) (fd : FuncData) : Prop := FunD K "__init__" "BadWord.__init__" (defArgs s_BadWord___init) (defBody s_BadWord___init) (defScope s_BadWord___init) [] [] f fd
abbrev s_TooMany___init : Stmt := inClass (top 5) 0
abbrev N_TooMany___init : List Str := ["self", "count"]
abbrev P_TooMany___init : List Str := ["self", "count"]
theorem sc_TooMany___init : FnScope N_TooMany___init P_TooMany___init (defScope s_TooMany___init) := ⟨rfl, rfl, rfl, by decide +kernel, rfl, by decide +kernel, by decide +kernel⟩
abbrev D_TooMany___init (K : PySem.W.Frag) (f : Addr) (fd : FuncData) : Prop := FunD K "__init__" "TooMany.__init__" (defArgs s_TooMany___init) (defBody s_TooMany___init) (defScope s_TooMany___init) [] [] f fd
abbrev s_BadBook___init : Stmt := inClass (top 6) 0
abbrev N_BadBook___init : List Str := ["self", "what"]
abbrev P_BadBook___init : List Str := ["self", "what"]
theorem sc_BadBook___init : FnScope N_BadBook___init P_BadBook___init (defScope s_BadBook___init) := ⟨rfl, rfl, rfl, by decide +kernel, rfl, by decide +kernel, by decide +kernel⟩
abbrev D_BadBook___init (K : PySem.W.Frag) (f : Addr) (fd : FuncData) : Prop := FunD K "__init__" "BadBook.__init__" (defArgs s_BadBook___init) (defBody s_BadBook___init) (defScope s_BadBook___init) [] [] f fd
abbrev s_is_whole : Stmt := top 12
abbrev N_is_whole : List Str := ["thing", "low", "high"]
abbrev P_is_whole : List Str := ["thing", "low", "high"]
theorem sc_is_whole : FnScope N_is_whole P_is_whole (defScope s_is_whole) := ⟨rfl, rfl, rfl, by decide +kernel, rfl, by decide +kernel, by decide +kernel⟩
abbrev D_is_whole (K : PySem.W.Frag) (f : Addr) (fd : FuncData) : Prop := FunD K "is_whole" "is_whole" (defArgs s_is_whole) (defBody s_is_whole) (defScope s_is_whole) [.non, .non] [] f fd
abbrev s_check_number : Stmt := top 13
abbrev N_check_number : List Str := ["thing", "low", "high"]
abbrev P_check_number : List Str := ["thing", "low", "high"]
theorem sc_check_number : FnScope N_check_number P_check_number (defScope s_check_number) := ⟨rfl, rfl, rfl, by decide +kernel, rfl, by decide +kernel, by decide +kernel⟩
abbrev D_check_number (K : PySem.W.Frag) (f : Addr) (fd : FuncData) : Prop := FunD K "check_number" "check_number" (defArgs s_check_number) (defBody s_check_number) (defScope s_check_number) [] [] f fd
abbrev s_power_of : Stmt := top 14
abbrev N_power_of : List Str := ["base", "exponent", "power", "_"]
abbrev P_power_of : List Str := ["base", "exponent"]
theorem sc_power_of : FnScope N_power_of P_power_of (defScope s_power_of) := ⟨rfl, rfl, rfl, by decide +kernel, rfl, by decide +kernel, by decide +kernel⟩
abbrev D_power_of (K : PySem.W.Frag) (f : Addr) (fd : FuncData) : Prop := FunD K "power_of" "power_of" (defArgs s_power_of) (defBody s_power_of) (defScope s_power_of) [] [] f fd
abbrev s_check_word : Stmt := top 15
abbrev N_check_word : List Str := ["letters", "word", "most", "index", "letter"]
abbrev P_check_word : List Str := ["letters", "word", "most"]
theorem sc_check_word : FnScope N_check_word P_check_word (defScope s_check_word) := ⟨rfl, rfl, rfl, by decide +kernel, rfl, by decide +kernel, by decide +kernel⟩
abbrev D_check_word (K : PySem.W.Frag) (f : Addr) (fd : FuncData) : Prop := FunD K "check_word" "check_word" (defArgs s_check_word) (defBody s_check_word) (defScope s_check_word) [.int (24)] [] f fd
abbrev s_is_word : Stmt := top 16
abbrev N_is_word : List Str := ["letters", "length", "thing", "letter"]
abbrev P_is_word : List Str := ["letters", "length", "thing"]
theorem sc_is_word : FnScope N_is_word P_is_word (defScope s_is_word) := ⟨rfl, rfl, rfl, by decide +kernel, rfl, by decide +kernel, by decide +kernel⟩
abbrev D_is_word (K : PySem.W.Frag) (f : Addr) (fd : FuncData) : Prop := FunD K "is_word" "is_word" (defArgs s_is_word) (defBody s_is_word) (defScope s_is_word) [] [] f fd
abbrev s_all_words : Stmt := top 17
abbrev N_all_words : List Str := ["letters", "length", "words", "_", "word", "letter"]
abbrev P_all_words : List Str := ["letters", "length"]
theorem sc_all_words : FnScope N_all_words P_all_words (defScope s_all_words) := ⟨rfl, rfl, rfl, by decide +kernel, rfl, by decide +kernel, by decide +kernel⟩
abbrev D_all_words (K : PySem.W.Frag) (f : Addr) (fd : FuncData) : Prop := FunD K "all_words" "all_words" (defArgs s_all_words) (defBody s_all_words) (defScope s_all_words) [] [] f fd
abbrev s_check_words : Stmt := top 20
abbrev N_check_words : List Str := ["letters", "length", "words", "word", "members"]
abbrev P_check_words : List Str := ["letters", "length", "words"]
theorem sc_check_words : FnScope N_check_words P_check_words (defScope s_check_words) := ⟨rfl, rfl, rfl, by decide +kernel, rfl, by decide +kernel, by decide +kernel⟩
abbrev D_check_words (K : PySem.W.Frag) (f : Addr) (fd : FuncData) : Prop := FunD K "_check_words" "_check_words" (defArgs s_check_words) (defBody s_check_words) (defScope s_check_words) [] [] f fd
abbrev s_Book___init : Stmt := inClass (top 21) 0
abbrev N_Book___init : List Str := ["self", "letters", "length", "words"]
abbrev P_Book___init : List Str := ["self", "letters", "length", "words"]
theorem sc_Book___init : FnScope N_Book___init P_Book___init (defScope s_Book___init) := ⟨rfl, rfl, rfl, by decide +kernel, rfl, by decide +kernel, by decide +kernel⟩
abbrev D_Book___init (K : PySem.W.Frag) (f : Addr) (fd : FuncData) : Prop := FunD K "__init__" "Book.__init__" (defArgs s_Book___init) (defBody s_Book___init) (defScope s_Book___init) [] [] f fd
abbrev s_Book___eq : Stmt := inClass (top 21) 1
abbrev N_Book___eq : List Str := ["self", "other"]
abbrev P_Book___eq : List Str := ["self", "other"]
theorem sc_Book___eq : FnScope N_Book___eq P_Book___eq (defScope s_Book___eq) := ⟨rfl, rfl, rfl, by decide +kernel, rfl, by decide +kernel, by decide +kernel⟩
abbrev D_Book___eq (K : PySem.W.Frag) (f : Addr) (fd : FuncData) : Prop := FunD K "__eq__" "Book.__eq__" (defArgs s_Book___eq) (defBody s_Book___eq) (defScope s_Book___eq) [] [] f fd
abbrev s_Book___iter : Stmt := inClass (top 21) 2
abbrev N_Book___iter : List Str := ["self"]
abbrev P_Book___iter : List Str := ["self"]
theorem sc_Book___iter : FnScope N_Book___iter P_Book___iter (defScope s_Book___iter) := ⟨rfl, rfl, rfl, by decide +kernel, rfl, by decide +kernel, by decide +kernel⟩
abbrev D_Book___iter (K : PySem.W.Frag) (f : Addr) (fd : FuncData) : Prop := FunD K "__iter__" "Book.__iter__" (defArgs s_Book___iter) (defBody s_Book___iter) (defScope s_Book___iter) [] [] f fd
abbrev s_Book_has : Stmt := inClass (top 21) 3
abbrev N_Book_has : List Str := ["self", "word"]
abbrev P_Book_has : List Str := ["self", "word"]
theorem sc_Book_has : FnScope N_Book_has P_Book_has (defScope s_Book_has) := ⟨rfl, rfl, rfl, by decide +kernel, rfl, by decide +kernel, by decide +kernel⟩
abbrev D_Book_has (K : PySem.W.Frag) (f : Addr) (fd : FuncData) : Prop := FunD K "has" "Book.has" (defArgs s_Book_has) (defBody s_Book_has) (defScope s_Book_has) [] [] f fd
abbrev s_Book_put : Stmt := inClass (top 21) 4
abbrev N_Book_put : List Str := ["self", "word"]
abbrev P_Book_put : List Str := ["self", "word"]
theorem sc_Book_put : FnScope N_Book_put P_Book_put (defScope s_Book_put) := ⟨rfl, rfl, rfl, by decide +kernel, rfl, by decide +kernel, by decide +kernel⟩
abbrev D_Book_put (K : PySem.W.Frag) (f : Addr) (fd : FuncData) : Prop := FunD K "put" "Book.put" (defArgs s_Book_put) (defBody s_Book_put) (defScope s_Book_put) [] [] f fd
abbrev s_Book_struck : Stmt := inClass (top 21) 5
abbrev N_Book_struck : List Str := ["self", "word"]
abbrev P_Book_struck : List Str := ["self", "word"]
theorem sc_Book_struck : FnScope N_Book_struck P_Book_struck (defScope s_Book_struck) := ⟨rfl, rfl, rfl, by decide +kernel, rfl, by decide +kernel, by decide +kernel⟩
abbrev D_Book_struck (K : PySem.W.Frag) (f : Addr) (fd : FuncData) : Prop := FunD K "struck" "Book.struck" (defArgs s_Book_struck) (defBody s_Book_struck) (defScope s_Book_struck) [] [] f fd
abbrev s_Book_turned : Stmt := inClass (top 21) 6
abbrev N_Book_turned : List Str := ["self", "member"]
abbrev P_Book_turned : List Str := ["self"]
theorem sc_Book_turned : FnScope N_Book_turned P_Book_turned (defScope s_Book_turned) := ⟨rfl, rfl, rfl, by decide +kernel, rfl, by decide +kernel, by decide +kernel⟩
abbrev D_Book_turned (K : PySem.W.Frag) (f : Addr) (fd : FuncData) : Prop := FunD K "turned" "Book.turned" (defArgs s_Book_turned) (defBody s_Book_turned) (defScope s_Book_turned) [] [] f fd
abbrev s_Book_contrary : Stmt := inClass (top 21) 7
abbrev N_Book_contrary : List Str := ["self", "words", "member", "letter"]
abbrev P_Book_contrary : List Str := ["self"]
theorem sc_Book_contrary : FnScope N_Book_contrary P_Book_contrary (defScope s_Book_contrary) := ⟨rfl, rfl, rfl, by decide +kernel, rfl, by decide +kernel, by decide +kernel⟩
abbrev D_Book_contrary (K : PySem.W.Frag) (f : Addr) (fd : FuncData) : Prop := FunD K "contrary" "Book.contrary" (defArgs s_Book_contrary) (defBody s_Book_contrary) (defScope s_Book_contrary) [] [] f fd
abbrev s_Book_joined : Stmt := inClass (top 21) 8
abbrev N_Book_joined : List Str := ["self", "other"]
abbrev P_Book_joined : List Str := ["self", "other"]
theorem sc_Book_joined : FnScope N_Book_joined P_Book_joined (defScope s_Book_joined) := ⟨rfl, rfl, rfl, by decide +kernel, rfl, by decide +kernel, by decide +kernel⟩
abbrev D_Book_joined (K : PySem.W.Frag) (f : Addr) (fd : FuncData) : Prop := FunD K "joined" "Book.joined" (defArgs s_Book_joined) (defBody s_Book_joined) (defScope s_Book_joined) [] [] f fd
abbrev s_Book_stretched : Stmt := inClass (top 21) 9
abbrev N_Book_stretched : List Str := ["self", "times"]
abbrev P_Book_stretched : List Str := ["self", "times"]
theorem sc_Book_stretched : FnScope N_Book_stretched P_Book_stretched (defScope s_Book_stretched) := ⟨rfl, rfl, rfl, by decide +kernel, rfl, by decide +kernel, by decide +kernel⟩
abbrev D_Book_stretched (K : PySem.W.Frag) (f : Addr) (fd : FuncData) : Prop := FunD K "stretched" "Book.stretched" (defArgs s_Book_stretched) (defBody s_Book_stretched) (defScope s_Book_stretched) [] [] f fd
abbrev s_sum_of : Stmt := top 26
abbrev N_sum_of : List Str := ["word", "place", "letter"]
abbrev P_sum_of : List Str := ["word"]
theorem sc_sum_of : FnScope N_sum_of P_sum_of (defScope s_sum_of) := ⟨rfl, rfl, rfl, by decide +kernel, rfl, by decide +kernel, by decide +kernel⟩
abbrev D_sum_of (K : PySem.W.Frag) (f : Addr) (fd : FuncData) : Prop := FunD K "_sum_of" "_sum_of" (defArgs s_sum_of) (defBody s_sum_of) (defScope s_sum_of) [] [] f fd
abbrev s_SumBook___init : Stmt := inClass (top 27) 0
abbrev N_SumBook___init : List Str := ["self", "length", "modulus", "rest"]
abbrev P_SumBook___init : List Str := ["self", "length", "modulus", "rest"]
theorem sc_SumBook___init : FnScope N_SumBook___init P_SumBook___init (defScope s_SumBook___init) := ⟨rfl, rfl, rfl, by decide +kernel, rfl, by decide +kernel, by decide +kernel⟩
abbrev D_SumBook___init (K : PySem.W.Frag) (f : Addr) (fd : FuncData) : Prop := FunD K "__init__" "SumBook.__init__" (defArgs s_SumBook___init) (defBody s_SumBook___init) (defScope s_SumBook___init) [] [] f fd
abbrev s_SumBook___eq : Stmt := inClass (top 27) 1
abbrev N_SumBook___eq : List Str := ["self", "other"]
abbrev P_SumBook___eq : List Str := ["self", "other"]
theorem sc_SumBook___eq : FnScope N_SumBook___eq P_SumBook___eq (defScope s_SumBook___eq) := ⟨rfl, rfl, rfl, by decide +kernel, rfl, by decide +kernel, by decide +kernel⟩
abbrev D_SumBook___eq (K : PySem.W.Frag) (f : Addr) (fd : FuncData) : Prop := FunD K "__eq__" "SumBook.__eq__" (defArgs s_SumBook___eq) (defBody s_SumBook___eq) (defScope s_SumBook___eq) [] [] f fd
abbrev s_SumBook_is_full : Stmt := inClass (top 27) 2
abbrev N_SumBook_is_full : List Str := ["self"]
abbrev P_SumBook_is_full : List Str := ["self"]
theorem sc_SumBook_is_full : FnScope N_SumBook_is_full P_SumBook_is_full (defScope s_SumBook_is_full) := ⟨rfl, rfl, rfl, by decide +kernel, rfl, by decide +kernel, by decide +kernel⟩
abbrev D_SumBook_is_full (K : PySem.W.Frag) (f : Addr) (fd : FuncData) : Prop := FunD K "is_full" "SumBook.is_full" (defArgs s_SumBook_is_full) (defBody s_SumBook_is_full) (defScope s_SumBook_is_full) [] [] f fd
abbrev s_SumBook_holding : Stmt := inClass (top 27) 3
abbrev N_SumBook_holding : List Str := ["word", "modulus"]
abbrev P_SumBook_holding : List Str := ["word", "modulus"]
theorem sc_SumBook_holding : FnScope N_SumBook_holding P_SumBook_holding (defScope s_SumBook_holding) := ⟨rfl, rfl, rfl, by decide +kernel, rfl, by decide +kernel, by decide +kernel⟩
abbrev D_SumBook_holding (K : PySem.W.Frag) (f : Addr) (fd : FuncData) : Prop := FunD K "holding" "SumBook.holding" (defArgs s_SumBook_holding) (defBody s_SumBook_holding) (defScope s_SumBook_holding) [] [] f fd
abbrev s_SumBook_has : Stmt := inClass (top 27) 4
abbrev N_SumBook_has : List Str := ["self", "word"]
abbrev P_SumBook_has : List Str := ["self", "word"]
theorem sc_SumBook_has : FnScope N_SumBook_has P_SumBook_has (defScope s_SumBook_has) := ⟨rfl, rfl, rfl, by decide +kernel, rfl, by decide +kernel, by decide +kernel⟩
abbrev D_SumBook_has (K : PySem.W.Frag) (f : Addr) (fd : FuncData) : Prop := FunD K "has" "SumBook.has" (defArgs s_SumBook_has) (defBody s_SumBook_has) (defScope s_SumBook_has) [] [] f fd
abbrev s_SumBook_contrary : Stmt := inClass (top 27) 5
abbrev N_SumBook_contrary : List Str := ["self", "whole"]
abbrev P_SumBook_contrary : List Str := ["self"]
theorem sc_SumBook_contrary : FnScope N_SumBook_contrary P_SumBook_contrary (defScope s_SumBook_contrary) := ⟨rfl, rfl, rfl, by decide +kernel, rfl, by decide +kernel, by decide +kernel⟩
abbrev D_SumBook_contrary (K : PySem.W.Frag) (f : Addr) (fd : FuncData) : Prop := FunD K "contrary" "SumBook.contrary" (defArgs s_SumBook_contrary) (defBody s_SumBook_contrary) (defScope s_SumBook_contrary) [] [] f fd
abbrev s_SumBook_turned : Stmt := inClass (top 27) 6
abbrev N_SumBook_turned : List Str := ["self"]
abbrev P_SumBook_turned : List Str := ["self"]
theorem sc_SumBook_turned : FnScope N_SumBook_turned P_SumBook_turned (defScope s_SumBook_turned) := ⟨rfl, rfl, rfl, by decide +kernel, rfl, by decide +kernel, by decide +kernel⟩
abbrev D_SumBook_turned (K : PySem.W.Frag) (f : Addr) (fd : FuncData) : Prop := FunD K "turned" "SumBook.turned" (defArgs s_SumBook_turned) (defBody s_SumBook_turned) (defScope s_SumBook_turned) [] [] f fd
abbrev s_check_modulus : Stmt := top 28
abbrev N_check_modulus : List Str := ["modulus", "least"]
abbrev P_check_modulus : List Str := ["modulus", "least"]
theorem sc_check_modulus : FnScope N_check_modulus P_check_modulus (defScope s_check_modulus) := ⟨rfl, rfl, rfl, by decide +kernel, rfl, by decide +kernel, by decide +kernel⟩
abbrev D_check_modulus (K : PySem.W.Frag) (f : Addr) (fd : FuncData) : Prop := FunD K "_check_modulus" "_check_modulus" (defArgs s_check_modulus) (defBody s_check_modulus) (defScope s_check_modulus) [] [] f fd
abbrev s_check_rest : Stmt := top 29
abbrev N_check_rest : List Str := ["rest", "modulus"]
abbrev P_check_rest : List Str := ["rest", "modulus"]
theorem sc_check_rest : FnScope N_check_rest P_check_rest (defScope s_check_rest) := ⟨rfl, rfl, rfl, by decide +kernel, rfl, by decide +kernel, by decide +kernel⟩
abbrev D_check_rest (K : PySem.W.Frag) (f : Addr) (fd : FuncData) : Prop := FunD K "_check_rest" "_check_rest" (defArgs s_check_rest) (defBody s_check_rest) (defScope s_check_rest) [] [] f fd
abbrev s_sum_members : Stmt := top 30
abbrev N_sum_members : List Str := ["book", "word"]
abbrev P_sum_members : List Str := ["book"]
theorem sc_sum_members : GScope N_sum_members P_sum_members (defScope s_sum_members) := ⟨rfl, rfl, rfl, by decide +kernel, rfl, by decide +kernel, by decide +kernel⟩
abbrev D_sum_members (K : PySem.W.Frag) (f : Addr) (fd : FuncData) : Prop := FunD K "sum_members" "sum_members" (defArgs s_sum_members) (defBody s_sum_members) (defScope s_sum_members) [] [] f fd
abbrev s_book_of_sums : Stmt := top 32
abbrev N_book_of_sums : List Str := ["book"]
abbrev P_book_of_sums : List Str := ["book"]
theorem sc_book_of_sums : FnScope N_book_of_sums P_book_of_sums (defScope s_book_of_sums) := ⟨rfl, rfl, rfl, by decide +kernel, rfl, by decide +kernel, by decide +kernel⟩
abbrev D_book_of_sums (K : PySem.W.Frag) (f : Addr) (fd : FuncData) : Prop := FunD K "book_of_sums" "book_of_sums" (defArgs s_book_of_sums) (defBody s_book_of_sums) (defScope s_book_of_sums) [] [] f fd
abbrev s_law_hand : Stmt := top 34
abbrev N_law_hand : List Str := ["_law_script", "_law_total", "_law_cells", "_law_cell"]
abbrev P_law_hand : List Str := ["_law_script"]
theorem sc_law_hand : FnScope N_law_hand P_law_hand (defScope s_law_hand) := ⟨rfl, rfl, rfl, by decide +kernel, rfl, by decide +kernel, by decide +kernel⟩
abbrev D_law_hand (K : PySem.W.Frag) (f : Addr) (fd : FuncData) : Prop := FunD K "_law_hand" "_law_hand" (defArgs s_law_hand) (defBody s_law_hand) (defScope s_law_hand) [] [] f fd
abbrev s_law_mixed : Stmt := top 35
abbrev N_law_mixed : List Str := ["_law_number", "_law_turn", "_law_once", "_law_twice"]
abbrev P_law_mixed : List Str := ["_law_number", "_law_turn"]
theorem sc_law_mixed : FnScope N_law_mixed P_law_mixed (defScope s_law_mixed) := ⟨rfl, rfl, rfl, by decide +kernel, rfl, by decide +kernel, by decide +kernel⟩
abbrev D_law_mixed (K : PySem.W.Frag) (f : Addr) (fd : FuncData) : Prop := FunD K "_law_mixed" "_law_mixed" (defArgs s_law_mixed) (defBody s_law_mixed) (defScope s_law_mixed) [] [] f fd
abbrev s_law_take : Stmt := top 36
abbrev N_law_take : List Str := ["_law_hand_here", "_law_many", "_law_cell", "_law_rest"]
abbrev P_law_take : List Str := ["_law_hand_here", "_law_many"]
theorem sc_law_take : FnScope N_law_take P_law_take (defScope s_law_take) := ⟨rfl, rfl, rfl, by decide +kernel, rfl, by decide +kernel, by decide +kernel⟩
abbrev D_law_take (K : PySem.W.Frag) (f : Addr) (fd : FuncData) : Prop := FunD K "_law_take" "_law_take" (defArgs s_law_take) (defBody s_law_take) (defScope s_law_take) [] [] f fd
abbrev s_law_whole : Stmt := top 37
abbrev N_law_whole : List Str := ["_law_thing"]
abbrev P_law_whole : List Str := ["_law_thing"]
theorem sc_law_whole : FnScope N_law_whole P_law_whole (defScope s_law_whole) := ⟨rfl, rfl, rfl, by decide +kernel, rfl, by decide +kernel, by decide +kernel⟩
abbrev D_law_whole (K : PySem.W.Frag) (f : Addr) (fd : FuncData) : Prop := FunD K "_law_whole" "_law_whole" (defArgs s_law_whole) (defBody s_law_whole) (defScope s_law_whole) [] [] f fd
abbrev s_law_word : Stmt := top 38
abbrev N_law_word : List Str := ["_law_hand_here", "_law_q", "_law_n", "_law_k"]
abbrev P_law_word : List Str := ["_law_hand_here", "_law_q", "_law_n"]
theorem sc_law_word : FnScope N_law_word P_law_word (defScope s_law_word) := ⟨rfl, rfl, rfl, by decide +kernel, rfl, by decide +kernel, by decide +kernel⟩
abbrev D_law_word (K : PySem.W.Frag) (f : Addr) (fd : FuncData) : Prop := FunD K "_law_word" "_law_word" (defArgs s_law_word) (defBody s_law_word) (defScope s_law_word) [] [] f fd
abbrev s_law_runny : Stmt := top 39
abbrev N_law_runny : List Str := ["_law_hand_here", "_law_q", "_law_n", "_law_told", "_law_letter", "_law_k"]
abbrev P_law_runny : List Str := ["_law_hand_here", "_law_q", "_law_n"]
theorem sc_law_runny : FnScope N_law_runny P_law_runny (defScope s_law_runny) := ⟨rfl, rfl, rfl, by decide +kernel, rfl, by decide +kernel, by decide +kernel⟩
abbrev D_law_runny (K : PySem.W.Frag) (f : Addr) (fd : FuncData) : Prop := FunD K "_law_runny" "_law_runny" (defArgs s_law_runny) (defBody s_law_runny) (defScope s_law_runny) [] [] f fd
abbrev s_law_power : Stmt := top 40
abbrev N_law_power : List Str := ["_law_base", "_law_exponent", "_law_total", "_law_k"]
abbrev P_law_power : List Str := ["_law_base", "_law_exponent"]
theorem sc_law_power : FnScope N_law_power P_law_power (defScope s_law_power) := ⟨rfl, rfl, rfl, by decide +kernel, rfl, by decide +kernel, by decide +kernel⟩
abbrev D_law_power (K : PySem.W.Frag) (f : Addr) (fd : FuncData) : Prop := FunD K "_law_power" "_law_power" (defArgs s_law_power) (defBody s_law_power) (defScope s_law_power) [] [] f fd
abbrev s_law_all_words : Stmt := top 41
abbrev N_law_all_words : List Str := ["_law_q", "_law_n", "_law_told", "_law_k", "_law_longer", "_law_word_here", "_law_letter"]
abbrev P_law_all_words : List Str := ["_law_q", "_law_n"]
theorem sc_law_all_words : FnScope N_law_all_words P_law_all_words (defScope s_law_all_words) := ⟨rfl, rfl, rfl, by decide +kernel, rfl, by decide +kernel, by decide +kernel⟩
abbrev D_law_all_words (K : PySem.W.Frag) (f : Addr) (fd : FuncData) : Prop := FunD K "_law_all_words" "_law_all_words" (defArgs s_law_all_words) (defBody s_law_all_words) (defScope s_law_all_words) [] [] f fd
abbrev s_law_sum : Stmt := top 42
abbrev N_law_sum : List Str := ["_law_word_here", "_law_k"]
abbrev P_law_sum : List Str := ["_law_word_here"]
theorem sc_law_sum : FnScope N_law_sum P_law_sum (defScope s_law_sum) := ⟨rfl, rfl, rfl, by decide +kernel, rfl, by decide +kernel, by decide +kernel⟩
abbrev D_law_sum (K : PySem.W.Frag) (f : Addr) (fd : FuncData) : Prop := FunD K "_law_sum" "_law_sum" (defArgs s_law_sum) (defBody s_law_sum) (defScope s_law_sum) [] [] f fd
abbrev s_law_sum_words : Stmt := top 43
abbrev N_law_sum_words : List Str := ["_law_n", "_law_modulus", "_law_rest", "_law_word_here"]
abbrev P_law_sum_words : List Str := ["_law_n", "_law_modulus", "_law_rest"]
theorem sc_law_sum_words : FnScope N_law_sum_words P_law_sum_words (defScope s_law_sum_words) := ⟨rfl, rfl, rfl, by decide +kernel, rfl, by decide +kernel, by decide +kernel⟩
abbrev D_law_sum_words (K : PySem.W.Frag) (f : Addr) (fd : FuncData) : Prop := FunD K "_law_sum_words" "_law_sum_words" (defArgs s_law_sum_words) (defBody s_law_sum_words) (defScope s_law_sum_words) [] [] f fd
abbrev s_law_odd : Stmt := top 44
abbrev N_law_odd : List Str := ["_law_hand_here", "_law_good"]
abbrev P_law_odd : List Str := ["_law_hand_here", "_law_good"]
theorem sc_law_odd : FnScope N_law_odd P_law_odd (defScope s_law_odd) := ⟨rfl, rfl, rfl, by decide +kernel, rfl, by decide +kernel, by decide +kernel⟩
abbrev D_law_odd (K : PySem.W.Frag) (f : Addr) (fd : FuncData) : Prop := FunD K "_law_odd" "_law_odd" (defArgs s_law_odd) (defBody s_law_odd) (defScope s_law_odd) [] [] f fd
abbrev s_law_bad_word : Stmt := top 45
abbrev N_law_bad_word : List Str := ["_law_hand_here", "_law_word_here", "_law_most", "_law_turn", "_law_spoilt", "_law_at"]
abbrev P_law_bad_word : List Str := ["_law_hand_here", "_law_word_here", "_law_most"]
theorem sc_law_bad_word : FnScope N_law_bad_word P_law_bad_word (defScope s_law_bad_word) := ⟨rfl, rfl, rfl, by decide +kernel, rfl, by decide +kernel, by decide +kernel⟩
abbrev D_law_bad_word (K : PySem.W.Frag) (f : Addr) (fd : FuncData) : Prop := FunD K "_law_bad_word" "_law_bad_word" (defArgs s_law_bad_word) (defBody s_law_bad_word) (defScope s_law_bad_word) [] [] f fd
abbrev s_law_book_of : Stmt := top 46
abbrev N_law_book_of : List Str := ["_law_hand_here", "_law_n", "_law_extra", "_law_modulus", "_law_rest"]
abbrev P_law_book_of : List Str := ["_law_hand_here", "_law_n"]
theorem sc_law_book_of : FnScope N_law_book_of P_law_book_of (defScope s_law_book_of) := ⟨rfl, rfl, rfl, by decide +kernel, rfl, by decide +kernel, by decide +kernel⟩
abbrev D_law_book_of (K : PySem.W.Frag) (f : Addr) (fd : FuncData) : Prop := FunD K "_law_book_of" "_law_book_of" (defArgs s_law_book_of) (defBody s_law_book_of) (defScope s_law_book_of) [] [] f fd
abbrev s_law_made : Stmt := top 47
abbrev N_law_made : List Str := ["_law_length", "_law_modulus", "_law_rest", "_law_book", "e"]
abbrev P_law_made : List Str := ["_law_length", "_law_modulus", "_law_rest"]
theorem sc_law_made : FnScope N_law_made P_law_made (defScope s_law_made) := ⟨rfl, rfl, rfl, by decide +kernel, rfl, by decide +kernel, by decide +kernel⟩
abbrev D_law_made (K : PySem.W.Frag) (f : Addr) (fd : FuncData) : Prop := FunD K "_law_made" "_law_made" (defArgs s_law_made) (defBody s_law_made) (defScope s_law_made) [] [] f fd
abbrev s_law_made_refused : Stmt := top 48
abbrev N_law_made_refused : List Str := ["_law_hand_here", "_law_facts", "_law_length", "_law_modulus", "_law_rest", "_law_wild"]
abbrev P_law_made_refused : List Str := ["_law_hand_here", "_law_facts"]
theorem sc_law_made_refused : FnScope N_law_made_refused P_law_made_refused (defScope s_law_made_refused) := ⟨rfl, rfl, rfl, by decide +kernel, rfl, by decide +kernel, by decide +kernel⟩
abbrev D_law_made_refused (K : PySem.W.Frag) (f : Addr) (fd : FuncData) : Prop := FunD K "_law_made_refused" "_law_made_refused" (defArgs s_law_made_refused) (defBody s_law_made_refused) (defScope s_law_made_refused) [] [] f fd
abbrev s_law_held_refused : Stmt := top 49
abbrev N_law_held_refused : List Str := ["_law_word_here", "_law_modulus", "e"]
abbrev P_law_held_refused : List Str := ["_law_word_here", "_law_modulus"]
theorem sc_law_held_refused : FnScope N_law_held_refused P_law_held_refused (defScope s_law_held_refused) := ⟨rfl, rfl, rfl, by decide +kernel, rfl, by decide +kernel, by decide +kernel⟩
abbrev D_law_held_refused (K : PySem.W.Frag) (f : Addr) (fd : FuncData) : Prop := FunD K "_law_held_refused" "_law_held_refused" (defArgs s_law_held_refused) (defBody s_law_held_refused) (defScope s_law_held_refused) [] [] f fd
abbrev s_law_has_refused : Stmt := top 50
abbrev N_law_has_refused : List Str := ["_law_book", "_law_word_here", "e"]
abbrev P_law_has_refused : List Str := ["_law_book", "_law_word_here"]
theorem sc_law_has_refused : FnScope N_law_has_refused P_law_has_refused (defScope s_law_has_refused) := ⟨rfl, rfl, rfl, by decide +kernel, rfl, by decide +kernel, by decide +kernel⟩
abbrev D_law_has_refused (K : PySem.W.Frag) (f : Addr) (fd : FuncData) : Prop := FunD K "_law_has_refused" "_law_has_refused" (defArgs s_law_has_refused) (defBody s_law_has_refused) (defScope s_law_has_refused) [] [] f fd
abbrev s_law_turned : Stmt := top 51
abbrev N_law_turned : List Str := ["_law_book", "_law_other", "e"]
abbrev P_law_turned : List Str := ["_law_book"]
theorem sc_law_turned : FnScope N_law_turned P_law_turned (defScope s_law_turned) := ⟨rfl, rfl, rfl, by decide +kernel, rfl, by decide +kernel, by decide +kernel⟩
abbrev D_law_turned (K : PySem.W.Frag) (f : Addr) (fd : FuncData) : Prop := FunD K "_law_turned" "_law_turned" (defArgs s_law_turned) (defBody s_law_turned) (defScope s_law_turned) [] [] f fd
abbrev s_law_is_book : Stmt := top 52
abbrev N_law_is_book : List Str := ["_law_book", "_law_length", "_law_modulus", "_law_rest", "_law_facts", "_law_one"]
abbrev P_law_is_book : List Str := ["_law_book", "_law_length", "_law_modulus", "_law_rest"]
theorem sc_law_is_book : FnScope N_law_is_book P_law_is_book (defScope s_law_is_book) := ⟨rfl, rfl, rfl, by decide +kernel, rfl, by decide +kernel, by decide +kernel⟩
abbrev D_law_is_book (K : PySem.W.Frag) (f : Addr) (fd : FuncData) : Prop := FunD K "_law_is_book" "_law_is_book" (defArgs s_law_is_book) (defBody s_law_is_book) (defScope s_law_is_book) [] [] f fd
abbrev s_law_led_right : Stmt := top 53
abbrev N_law_led_right : List Str := ["_law_hand_here", "_law_book", "_law_facts", "_law_n", "_law_modulus", "_law_against", "_law_about", "_law_turn", "_law_word_here", "_law_held", "_law_other", "_law_there", "_law_letter"]
abbrev P_law_led_right : List Str := ["_law_hand_here", "_law_book", "_law_facts"]
theorem sc_law_led_right : FnScope N_law_led_right P_law_led_right (defScope s_law_led_right) := ⟨rfl, rfl, rfl, by decide +kernel, rfl, by decide +kernel, by decide +kernel⟩
abbrev D_law_led_right (K : PySem.W.Frag) (f : Addr) (fd : FuncData) : Prop := FunD K "_law_led_right" "_law_led_right" (defArgs s_law_led_right) (defBody s_law_led_right) (defScope s_law_led_right) [] [] f fd
abbrev s_law_plain_right : Stmt := top 54
abbrev N_law_plain_right : List Str := ["_law_book", "_law_facts", "_law_plain", "_law_rows", "_law_row", "_law_letter"]
abbrev P_law_plain_right : List Str := ["_law_book", "_law_facts"]
theorem sc_law_plain_right : FnScope N_law_plain_right P_law_plain_right (defScope s_law_plain_right) := ⟨rfl, rfl, rfl, by decide +kernel, rfl, by decide +kernel, by decide +kernel⟩
abbrev D_law_plain_right (K : PySem.W.Frag) (f : Addr) (fd : FuncData) : Prop := FunD K "_law_plain_right" "_law_plain_right" (defArgs s_law_plain_right) (defBody s_law_plain_right) (defScope s_law_plain_right) [] [] f fd
abbrev s_law_great_refused : Stmt := top 55
abbrev N_law_great_refused : List Str := ["_law_n", "_law_rest", "e"]
abbrev P_law_great_refused : List Str := ["_law_n", "_law_rest"]
theorem sc_law_great_refused : FnScope N_law_great_refused P_law_great_refused (defScope s_law_great_refused) := ⟨rfl, rfl, rfl, by decide +kernel, rfl, by decide +kernel, by decide +kernel⟩
abbrev D_law_great_refused (K : PySem.W.Frag) (f : Addr) (fd : FuncData) : Prop := FunD K "_law_great_refused" "_law_great_refused" (defArgs s_law_great_refused) (defBody s_law_great_refused) (defScope s_law_great_refused) [] [] f fd
abbrev s_law : Stmt := top 56
abbrev N_law : List Str := ["_law_script", "_law_hand_here", "_law_turn", "_law_great", "_law_n", "_law_facts", "_law_book", "_law_word_here", "_law_bad", "_law_big", "_law_due"]
abbrev P_law : List Str := ["_law_script"]
theorem sc_law : FnScope N_law P_law (defScope s_law) := ⟨rfl, rfl, rfl, by decide +kernel, rfl, by decide +kernel, by decide +kernel⟩
abbrev D_law (K : PySem.W.Frag) (f : Addr) (fd : FuncData) : Prop := FunD K "law" "law" (defArgs s_law) (defBody s_law) (defScope s_law) [] [] f fd
structure Txt (K : PySem.W.Frag) (mg : Str → Option Value) : Prop where
  x_BadWord : FldExc K (He.ga K "BadWord") (He.ma K (He.ga K "BadWord") "__init__")
  n_BadWord_is_index : PySem.W.findIn K (.ref (He.ga K "BadWord")) "index" = some none
  x_TooMany : FldExc K (He.ga K "TooMany") (He.ma K (He.ga K "TooMany") "__init__")
  n_TooMany_is_count : PySem.W.findIn K (.ref (He.ga K "TooMany")) "count" = some none
  x_BadBook : FldExc K (He.ga K "BadBook") (He.ma K (He.ga K "BadBook") "__init__")
  n_BadBook_is_what : PySem.W.findIn K (.ref (He.ga K "BadBook")) "what" = some none
  z_isinstance : mg "isinstance" = none
  z_bool : mg "bool" = none
  z_int : mg "int" = none
  g_is_whole : mg "is_whole" = some (.ref (He.ga K "is_whole"))
  g_BadNumber : mg "BadNumber" = some (.ref (He.ga K "BadNumber"))
  e_BadNumber : OwnExc K (He.ga K "BadNumber")
  z_range : mg "range" = none
  z_len : mg "len" = none
  z_tuple : mg "tuple" = none
  z_list : mg "list" = none
  g_BadWord : mg "BadWord" = some (.ref (He.ga K "BadWord"))
  z_enumerate : mg "enumerate" = none
  z_all : mg "all" = none
  g_BadBook : mg "BadBook" = some (.ref (He.ga K "BadBook"))
  g_is_word : mg "is_word" = some (.ref (He.ga K "is_word"))
  z_sorted : mg "sorted" = none
  c_MOST_MEMBERS : ∃ t, mg "MOST_MEMBERS" = some (.int 64 t)
  c_MOST_LETTERS : ∃ t, mg "MOST_LETTERS" = some (.int 24 t)
  g__check_words : mg "_check_words" = some (.ref (He.ga K "_check_words"))
  g_Book : mg "Book" = some (.ref (He.ga K "Book"))
  g_check_word : mg "check_word" = some (.ref (He.ga K "check_word"))
  g__wall : mg "_wall" = some (.ref (He.ga K "_wall"))
  r_Book : Mk K (He.ga K "Book") (He.ma K (He.ga K "Book") "__init__")
  z_sum : mg "sum" = none
  g_check_number : mg "check_number" = some (.ref (He.ga K "check_number"))
  c_MOST_HERE : ∃ t, mg "MOST_HERE" = some (.int 200 t)
  g__check_modulus : mg "_check_modulus" = some (.ref (He.ga K "_check_modulus"))
  g__check_rest : mg "_check_rest" = some (.ref (He.ga K "_check_rest"))
  g_SumBook : mg "SumBook" = some (.ref (He.ga K "SumBook"))
  r_SumBook : Mk K (He.ga K "SumBook") (He.ma K (He.ga K "SumBook") "__init__")
  g__sum_of : mg "_sum_of" = some (.ref (He.ga K "_sum_of"))
  l_SumBook : Cls K (He.ga K "SumBook")
  p_SumBook_is_is_full : PropOf K (He.ga K "SumBook") "is_full" (He.ma K (He.ga K "SumBook") "is_full") (gA K "SumBook" "is_full")
  g_NotPerfect : mg "NotPerfect" = some (.ref (He.ga K "NotPerfect"))
  e_NotPerfect : OwnExc K (He.ga K "NotPerfect")
  c_MOST_MODULUS : ∃ t, mg "MOST_MODULUS" = some (.int 1000000 t)
  g_BadModulus : mg "BadModulus" = some (.ref (He.ga K "BadModulus"))
  e_BadModulus : OwnExc K (He.ga K "BadModulus")
  g_BadRest : mg "BadRest" = some (.ref (He.ga K "BadRest"))
  e_BadRest : OwnExc K (He.ga K "BadRest")
  g_all_words : mg "all_words" = some (.ref (He.ga K "all_words"))
  c_MOST_LISTED : ∃ t, mg "MOST_LISTED" = some (.int 14 t)
  g_TooMany : mg "TooMany" = some (.ref (He.ga K "TooMany"))
  g_power_of : mg "power_of" = some (.ref (He.ga K "power_of"))
  g_sum_members : mg "sum_members" = some (.ref (He.ga K "sum_members"))
  u_TooMany : PySem.W.subIn K (.ref (He.ga K "TooMany")) (.type "StopIteration") = some false
  z_abs : mg "abs" = none
  g__law_mixed : mg "_law_mixed" = some (.ref (He.ga K "_law_mixed"))
  g__law_take : mg "_law_take" = some (.ref (He.ga K "_law_take"))
  g__law_word : mg "_law_word" = some (.ref (He.ga K "_law_word"))
  g__law_all_words : mg "_law_all_words" = some (.ref (He.ga K "_law_all_words"))
  g__law_sum : mg "_law_sum" = some (.ref (He.ga K "_law_sum"))
  g__law_odd : mg "_law_odd" = some (.ref (He.ga K "_law_odd"))
  z_min : mg "min" = none
  g_PlaceError : mg "PlaceError" = some (.ref (He.ga K "PlaceError"))
  g__law_made : mg "_law_made" = some (.ref (He.ga K "_law_made"))
  y_SumBook_is_holding : StaOf K (He.ga K "SumBook") "holding" (He5.wf K (He.ga K "SumBook") "staticmethod" "holding")
  b_SumBook_is_has : Meth K (He.ga K "SumBook") "has" (He.ma K (He.ga K "SumBook") "has")
  b_SumBook_is_turned : Meth K (He.ga K "SumBook") "turned" (He.ma K (He.ga K "SumBook") "turned")
  g__law_whole : mg "_law_whole" = some (.ref (He.ga K "_law_whole"))
  b_SumBook_is_contrary : Meth K (He.ga K "SumBook") "contrary" (He.ma K (He.ga K "SumBook") "contrary")
  g__law_is_book : mg "_law_is_book" = some (.ref (He.ga K "_law_is_book"))
  g__law_turned : mg "_law_turned" = some (.ref (He.ga K "_law_turned"))
  g__law_runny : mg "_law_runny" = some (.ref (He.ga K "_law_runny"))
  g_book_of_sums : mg "book_of_sums" = some (.ref (He.ga K "book_of_sums"))
  g__law_sum_words : mg "_law_sum_words" = some (.ref (He.ga K "_law_sum_words"))
  l_Book : Cls K (He.ga K "Book")
  b_Book_is_contrary : Meth K (He.ga K "Book") "contrary" (He.ma K (He.ga K "Book") "contrary")
  b_Book_is_turned : Meth K (He.ga K "Book") "turned" (He.ma K (He.ga K "Book") "turned")
  g__law_hand : mg "_law_hand" = some (.ref (He.ga K "_law_hand"))
  g__law_book_of : mg "_law_book_of" = some (.ref (He.ga K "_law_book_of"))
  g__law_led_right : mg "_law_led_right" = some (.ref (He.ga K "_law_led_right"))
  g__law_plain_right : mg "_law_plain_right" = some (.ref (He.ga K "_law_plain_right"))
  g__law_made_refused : mg "_law_made_refused" = some (.ref (He.ga K "_law_made_refused"))
  g__law_bad_word : mg "_law_bad_word" = some (.ref (He.ga K "_law_bad_word"))
  g__law_has_refused : mg "_law_has_refused" = some (.ref (He.ga K "_law_has_refused"))
  g__law_held_refused : mg "_law_held_refused" = some (.ref (He.ga K "_law_held_refused"))
  g__law_power : mg "_law_power" = some (.ref (He.ga K "_law_power"))
  g__law_great_refused : mg "_law_great_refused" = some (.ref (He.ga K "_law_great_refused"))
  m_BadBook_is_BadBook : PySem.W.exmOne K (.ref (He.ga K "BadBook")) (.ref (He.ga K "BadBook")) = some true
  m_BadBook_is_BadModulus : PySem.W.exmOne K (.ref (He.ga K "BadBook")) (.ref (He.ga K "BadModulus")) = some false
  m_BadBook_is_BadNumber : PySem.W.exmOne K (.ref (He.ga K "BadBook")) (.ref (He.ga K "BadNumber")) = some false
  m_BadBook_is_BadRest : PySem.W.exmOne K (.ref (He.ga K "BadBook")) (.ref (He.ga K "BadRest")) = some false
  m_BadBook_is_BadWord : PySem.W.exmOne K (.ref (He.ga K "BadBook")) (.ref (He.ga K "BadWord")) = some false
  m_BadBook_is_NotPerfect : PySem.W.exmOne K (.ref (He.ga K "BadBook")) (.ref (He.ga K "NotPerfect")) = some false
  m_BadBook_is_TooMany : PySem.W.exmOne K (.ref (He.ga K "BadBook")) (.ref (He.ga K "TooMany")) = some false
  m_BadModulus_is_BadBook : PySem.W.exmOne K (.ref (He.ga K "BadModulus")) (.ref (He.ga K "BadBook")) = some false
  m_BadModulus_is_BadModulus : PySem.W.exmOne K (.ref (He.ga K "BadModulus")) (.ref (He.ga K "BadModulus")) = some true
  m_BadModulus_is_BadNumber : PySem.W.exmOne K (.ref (He.ga K "BadModulus")) (.ref (He.ga K "BadNumber")) = some false
  m_BadModulus_is_BadRest : PySem.W.exmOne K (.ref (He.ga K "BadModulus")) (.ref (He.ga K "BadRest")) = some false
  m_BadModulus_is_BadWord : PySem.W.exmOne K (.ref (He.ga K "BadModulus")) (.ref (He.ga K "BadWord")) = some false
  m_BadModulus_is_NotPerfect : PySem.W.exmOne K (.ref (He.ga K "BadModulus")) (.ref (He.ga K "NotPerfect")) = some false
  m_BadModulus_is_TooMany : PySem.W.exmOne K (.ref (He.ga K "BadModulus")) (.ref (He.ga K "TooMany")) = some false
  m_BadNumber_is_BadBook : PySem.W.exmOne K (.ref (He.ga K "BadNumber")) (.ref (He.ga K "BadBook")) = some false
  m_BadNumber_is_BadModulus : PySem.W.exmOne K (.ref (He.ga K "BadNumber")) (.ref (He.ga K "BadModulus")) = some false
  m_BadNumber_is_BadNumber : PySem.W.exmOne K (.ref (He.ga K "BadNumber")) (.ref (He.ga K "BadNumber")) = some true
  m_BadNumber_is_BadRest : PySem.W.exmOne K (.ref (He.ga K "BadNumber")) (.ref (He.ga K "BadRest")) = some false
  m_BadNumber_is_BadWord : PySem.W.exmOne K (.ref (He.ga K "BadNumber")) (.ref (He.ga K "BadWord")) = some false
  m_BadNumber_is_NotPerfect : PySem.W.exmOne K (.ref (He.ga K "BadNumber")) (.ref (He.ga K "NotPerfect")) = some false
  m_BadNumber_is_TooMany : PySem.W.exmOne K (.ref (He.ga K "BadNumber")) (.ref (He.ga K "TooMany")) = some false
  m_BadRest_is_BadBook : PySem.W.exmOne K (.ref (He.ga K "BadRest")) (.ref (He.ga K "BadBook")) = some false
  m_BadRest_is_BadModulus : PySem.W.exmOne K (.ref (He.ga K "BadRest")) (.ref (He.ga K "BadModulus")) = some false
  m_BadRest_is_BadNumber : PySem.W.exmOne K (.ref (He.ga K "BadRest")) (.ref (He.ga K "BadNumber")) = some false
  m_BadRest_is_BadRest : PySem.W.exmOne K (.ref (He.ga K "BadRest")) (.ref (He.ga K "BadRest")) = some true
  m_BadRest_is_BadWord : PySem.W.exmOne K (.ref (He.ga K "BadRest")) (.ref (He.ga K "BadWord")) = some false
  m_BadRest_is_NotPerfect : PySem.W.exmOne K (.ref (He.ga K "BadRest")) (.ref (He.ga K "NotPerfect")) = some false
  m_BadRest_is_TooMany : PySem.W.exmOne K (.ref (He.ga K "BadRest")) (.ref (He.ga K "TooMany")) = some false
  m_BadWord_is_BadBook : PySem.W.exmOne K (.ref (He.ga K "BadWord")) (.ref (He.ga K "BadBook")) = some false
  m_BadWord_is_BadModulus : PySem.W.exmOne K (.ref (He.ga K "BadWord")) (.ref (He.ga K "BadModulus")) = some false
  m_BadWord_is_BadNumber : PySem.W.exmOne K (.ref (He.ga K "BadWord")) (.ref (He.ga K "BadNumber")) = some false
  m_BadWord_is_BadRest : PySem.W.exmOne K (.ref (He.ga K "BadWord")) (.ref (He.ga K "BadRest")) = some false
  m_BadWord_is_BadWord : PySem.W.exmOne K (.ref (He.ga K "BadWord")) (.ref (He.ga K "BadWord")) = some true
  m_BadWord_is_NotPerfect : PySem.W.exmOne K (.ref (He.ga K "BadWord")) (.ref (He.ga K "NotPerfect")) = some false
  m_BadWord_is_TooMany : PySem.W.exmOne K (.ref (He.ga K "BadWord")) (.ref (He.ga K "TooMany")) = some false
  m_NotPerfect_is_BadBook : PySem.W.exmOne K (.ref (He.ga K "NotPerfect")) (.ref (He.ga K "BadBook")) = some false
  m_NotPerfect_is_BadModulus : PySem.W.exmOne K (.ref (He.ga K "NotPerfect")) (.ref (He.ga K "BadModulus")) = some false
  m_NotPerfect_is_BadNumber : PySem.W.exmOne K (.ref (He.ga K "NotPerfect")) (.ref (He.ga K "BadNumber")) = some false
  m_NotPerfect_is_BadRest : PySem.W.exmOne K (.ref (He.ga K "NotPerfect")) (.ref (He.ga K "BadRest")) = some false
  m_NotPerfect_is_BadWord : PySem.W.exmOne K (.ref (He.ga K "NotPerfect")) (.ref (He.ga K "BadWord")) = some false
  m_NotPerfect_is_NotPerfect : PySem.W.exmOne K (.ref (He.ga K "NotPerfect")) (.ref (He.ga K "NotPerfect")) = some true
  m_NotPerfect_is_TooMany : PySem.W.exmOne K (.ref (He.ga K "NotPerfect")) (.ref (He.ga K "TooMany")) = some false
  m_TooMany_is_BadBook : PySem.W.exmOne K (.ref (He.ga K "TooMany")) (.ref (He.ga K "BadBook")) = some false
  m_TooMany_is_BadModulus : PySem.W.exmOne K (.ref (He.ga K "TooMany")) (.ref (He.ga K "BadModulus")) = some false
  m_TooMany_is_BadNumber : PySem.W.exmOne K (.ref (He.ga K "TooMany")) (.ref (He.ga K "BadNumber")) = some false
  m_TooMany_is_BadRest : PySem.W.exmOne K (.ref (He.ga K "TooMany")) (.ref (He.ga K "BadRest")) = some false
  m_TooMany_is_BadWord : PySem.W.exmOne K (.ref (He.ga K "TooMany")) (.ref (He.ga K "BadWord")) = some false
  m_TooMany_is_NotPerfect : PySem.W.exmOne K (.ref (He.ga K "TooMany")) (.ref (He.ga K "NotPerfect")) = some false
  m_TooMany_is_TooMany : PySem.W.exmOne K (.ref (He.ga K "TooMany")) (.ref (He.ga K "TooMany")) = some true
  s_BadBook : ExcC K (He.ga K "BadBook")
  k_BadBook_is_PlaceError : PySem.W.kitOne K (.ref (He.ga K "BadBook")) (.ref (He.ga K "PlaceError")) = some true
  s_BadModulus : ExcC K (He.ga K "BadModulus")
  k_BadModulus_is_PlaceError : PySem.W.kitOne K (.ref (He.ga K "BadModulus")) (.ref (He.ga K "PlaceError")) = some true
  s_BadNumber : ExcC K (He.ga K "BadNumber")
  k_BadNumber_is_PlaceError : PySem.W.kitOne K (.ref (He.ga K "BadNumber")) (.ref (He.ga K "PlaceError")) = some true
  s_BadRest : ExcC K (He.ga K "BadRest")
  k_BadRest_is_PlaceError : PySem.W.kitOne K (.ref (He.ga K "BadRest")) (.ref (He.ga K "PlaceError")) = some true
  s_BadWord : ExcC K (He.ga K "BadWord")
  k_BadWord_is_PlaceError : PySem.W.kitOne K (.ref (He.ga K "BadWord")) (.ref (He.ga K "PlaceError")) = some true
  s_NotPerfect : ExcC K (He.ga K "NotPerfect")
  k_NotPerfect_is_PlaceError : PySem.W.kitOne K (.ref (He.ga K "NotPerfect")) (.ref (He.ga K "PlaceError")) = some true
  s_TooMany : ExcC K (He.ga K "TooMany")
  k_TooMany_is_PlaceError : PySem.W.kitOne K (.ref (He.ga K "TooMany")) (.ref (He.ga K "PlaceError")) = some true
  a_Book_is_letters : NoAttr K (He.ga K "Book") "letters"
  a_Book_is_length : NoAttr K (He.ga K "Book") "length"
  a_Book_is_words : NoAttr K (He.ga K "Book") "words"
  a_Book_is_size : NoAttr K (He.ga K "Book") "size"
  a_SumBook_is_length : NoAttr K (He.ga K "SumBook") "length"
  a_SumBook_is_modulus : NoAttr K (He.ga K "SumBook") "modulus"
  a_SumBook_is_rest : NoAttr K (He.ga K "SumBook") "rest"
  q_eqs : EqsOk K eqsL
  b_Book_is___eq__ : Meth K (He.ga K "Book") "__eq__" (He.ma K (He.ga K "Book") "__eq__")
  o_Book : InsK K (He.ga K "Book")
  b_SumBook_is___eq__ : Meth K (He.ga K "SumBook") "__eq__" (He.ma K (He.ga K "SumBook") "__eq__")
  o_SumBook : InsK K (He.ga K "SumBook")
  j_Book : KinOk K (He.ga K "Book")
  k_Book_is_Book : PySem.W.kitOne K (.ref (He.ga K "Book")) (.ref (He.ga K "Book")) = some true
  k_SumBook_is_Book : PySem.W.kitOne K (.ref (He.ga K "SumBook")) (.ref (He.ga K "Book")) = some false
  j_SumBook : KinOk K (He.ga K "SumBook")
  k_Book_is_SumBook : PySem.W.kitOne K (.ref (He.ga K "Book")) (.ref (He.ga K "SumBook")) = some false
  k_SumBook_is_SumBook : PySem.W.kitOne K (.ref (He.ga K "SumBook")) (.ref (He.ga K "SumBook")) = some true
  F_wall : ∃ fd, D_wall K (He.ga K "_wall") fd
  F_BadWord___init : ∃ fd, D_BadWord___init K (He.ma K (He.ga K "BadWord") "__init__") fd
  F_TooMany___init : ∃ fd, D_TooMany___init K (He.ma K (He.ga K "TooMany") "__init__") fd
  F_BadBook___init : ∃ fd, D_BadBook___init K (He.ma K (He.ga K "BadBook") "__init__") fd
  F_is_whole : ∃ fd, D_is_whole K (He.ga K "is_whole") fd
  F_check_number : ∃ fd, D_check_number K (He.ga K "check_number") fd
  F_power_of : ∃ fd, D_power_of K (He.ga K "power_of") fd
  F_check_word : ∃ fd, D_check_word K (He.ga K "check_word") fd
  F_is_word : ∃ fd, D_is_word K (He.ga K "is_word") fd
  F_all_words : ∃ fd, D_all_words K (He.ga K "all_words") fd
  F_check_words : ∃ fd, D_check_words K (He.ga K "_check_words") fd
  F_Book___init : ∃ fd, D_Book___init K (He.ma K (He.ga K "Book") "__init__") fd
  F_Book___eq : ∃ fd, D_Book___eq K (He.ma K (He.ga K "Book") "__eq__") fd
  F_Book___iter : ∃ fd, D_Book___iter K (He.ma K (He.ga K "Book") "__iter__") fd
  F_Book_has : ∃ fd, D_Book_has K (He.ma K (He.ga K "Book") "has") fd
  F_Book_put : ∃ fd, D_Book_put K (He.ma K (He.ga K "Book") "put") fd
  F_Book_struck : ∃ fd, D_Book_struck K (He.ma K (He.ga K "Book") "struck") fd
  F_Book_turned : ∃ fd, D_Book_turned K (He.ma K (He.ga K "Book") "turned") fd
  F_Book_contrary : ∃ fd, D_Book_contrary K (He.ma K (He.ga K "Book") "contrary") fd
  F_Book_joined : ∃ fd, D_Book_joined K (He.ma K (He.ga K "Book") "joined") fd
  F_Book_stretched : ∃ fd, D_Book_stretched K (He.ma K (He.ga K "Book") "stretched") fd
  F_sum_of : ∃ fd, D_sum_of K (He.ga K "_sum_of") fd
  F_SumBook___init : ∃ fd, D_SumBook___init K (He.ma K (He.ga K "SumBook") "__init__") fd
  F_SumBook___eq : ∃ fd, D_SumBook___eq K (He.ma K (He.ga K "SumBook") "__eq__") fd
  F_SumBook_is_full : ∃ fd, D_SumBook_is_full K (gA K "SumBook" "is_full") fd
  F_SumBook_holding : ∃ fd, D_SumBook_holding K (He5.wf K (He.ga K "SumBook") "staticmethod" "holding") fd
  F_SumBook_has : ∃ fd, D_SumBook_has K (He.ma K (He.ga K "SumBook") "has") fd
  F_SumBook_contrary : ∃ fd, D_SumBook_contrary K (He.ma K (He.ga K "SumBook") "contrary") fd
  F_SumBook_turned : ∃ fd, D_SumBook_turned K (He.ma K (He.ga K "SumBook") "turned") fd
  F_check_modulus : ∃ fd, D_check_modulus K (He.ga K "_check_modulus") fd
  F_check_rest : ∃ fd, D_check_rest K (He.ga K "_check_rest") fd
  F_sum_members : ∃ fd, D_sum_members K (He.ga K "sum_members") fd
  F_book_of_sums : ∃ fd, D_book_of_sums K (He.ga K "book_of_sums") fd
  F_law_hand : ∃ fd, D_law_hand K (He.ga K "_law_hand") fd
  F_law_mixed : ∃ fd, D_law_mixed K (He.ga K "_law_mixed") fd
  F_law_take : ∃ fd, D_law_take K (He.ga K "_law_take") fd
  F_law_whole : ∃ fd, D_law_whole K (He.ga K "_law_whole") fd
  F_law_word : ∃ fd, D_law_word K (He.ga K "_law_word") fd
  F_law_runny : ∃ fd, D_law_runny K (He.ga K "_law_runny") fd
  F_law_power : ∃ fd, D_law_power K (He.ga K "_law_power") fd
  F_law_all_words : ∃ fd, D_law_all_words K (He.ga K "_law_all_words") fd
  F_law_sum : ∃ fd, D_law_sum K (He.ga K "_law_sum") fd
  F_law_sum_words : ∃ fd, D_law_sum_words K (He.ga K "_law_sum_words") fd
  F_law_odd : ∃ fd, D_law_odd K (He.ga K "_law_odd") fd
  F_law_bad_word : ∃ fd, D_law_bad_word K (He.ga K "_law_bad_word") fd
  F_law_book_of : ∃ fd, D_law_book_of K (He.ga K "_law_book_of") fd
  F_law_made : ∃ fd, D_law_made K (He.ga K "_law_made") fd
  F_law_made_refused : ∃ fd, D_law_made_refused K (He.ga K "_law_made_refused") fd
  F_law_held_refused : ∃ fd, D_law_held_refused K (He.ga K "_law_held_refused") fd
  F_law_has_refused : ∃ fd, D_law_has_refused K (He.ga K "_law_has_refused") fd
  F_law_turned : ∃ fd, D_law_turned K (He.ga K "_law_turned") fd
  F_law_is_book : ∃ fd, D_law_is_book K (He.ga K "_law_is_book") fd
  F_law_led_right : ∃ fd, D_law_led_right K (He.ga K "_law_led_right") fd
  F_law_plain_right : ∃ fd, D_law_plain_right K (He.ga K "_law_plain_right") fd
  F_law_great_refused : ∃ fd, D_law_great_refused K (He.ga K "_law_great_refused") fd
  F_law : ∃ fd, D_law K (He.ga K "law") fd
theorem bd_wall {K : PySem.W.Frag} {f : Addr} {fd : FuncData} (F : D_wall K f fd) : Binds K fd P_wall [] := F.bindsN fun _ _ _ _ _ _ us hl => match us, hl with | [_], _ => rfl
theorem bd_BadWord___init {K : PySem.W.Frag} {f : Addr} {fd : FuncData} (F : D_BadWord___init K f fd) : Binds K fd P_BadWord___init [] := F.bindsN fun _ _ _ _ _ _ us hl => match us, hl with | [_, _], _ => rfl
theorem bd_TooMany___init {K : PySem.W.Frag} {f : Addr} {fd : FuncData} (F : D_TooMany___init K f fd) : Binds K fd P_TooMany___init [] := F.bindsN fun _ _ _ _ _ _ us hl => match us, hl with | [_, _], _ => rfl
theorem bd_BadBook___init {K : PySem.W.Frag} {f : Addr} {fd : FuncData} (F : D_BadBook___init K f fd) : Binds K fd P_BadBook___init [] := F.bindsN fun _ _ _ _ _ _ us hl => match us, hl with | [_, _], _ => rfl
theorem bd_check_number {K : PySem.W.Frag} {f : Addr} {fd : FuncData} (F : D_check_number K f fd) : Binds K fd P_check_number [] := F.bindsN fun _ _ _ _ _ _ us hl => match us, hl with | [_, _, _], _ => rfl
theorem bd_power_of {K : PySem.W.Frag} {f : Addr} {fd : FuncData} (F : D_power_of K f fd) : Binds K fd P_power_of [] := F.bindsN fun _ _ _ _ _ _ us hl => match us, hl with | [_, _], _ => rfl
theorem bd_is_word {K : PySem.W.Frag} {f : Addr} {fd : FuncData} (F : D_is_word K f fd) : Binds K fd P_is_word [] := F.bindsN fun _ _ _ _ _ _ us hl => match us, hl with | [_, _, _], _ => rfl
theorem bd_all_words {K : PySem.W.Frag} {f : Addr} {fd : FuncData} (F : D_all_words K f fd) : Binds K fd P_all_words [] := F.bindsN fun _ _ _ _ _ _ us hl => match us, hl with | [_, _], _ => rfl
theorem bd_check_words {K : PySem.W.Frag} {f : Addr} {fd : FuncData} (F : D_check_words K f fd) : Binds K fd P_check_words [] := F.bindsN fun _ _ _ _ _ _ us hl => match us, hl with | [_, _, _], _ => rfl
theorem bd_Book___init {K : PySem.W.Frag} {f : Addr} {fd : FuncData} (F : D_Book___init K f fd) : Binds K fd P_Book___init [] := F.bindsN fun _ _ _ _ _ _ us hl => match us, hl with | [_, _, _, _], _ => rfl
theorem bd_Book___eq {K : PySem.W.Frag} {f : Addr} {fd : FuncData} (F : D_Book___eq K f fd) : Binds K fd P_Book___eq [] := F.bindsN fun _ _ _ _ _ _ us hl => match us, hl with | [_, _], _ => rfl
theorem bd_Book___iter {K : PySem.W.Frag} {f : Addr} {fd : FuncData} (F : D_Book___iter K f fd) : Binds K fd P_Book___iter [] := F.bindsN fun _ _ _ _ _ _ us hl => match us, hl with | [_], _ => rfl
theorem bd_Book_has {K : PySem.W.Frag} {f : Addr} {fd : FuncData} (F : D_Book_has K f fd) : Binds K fd P_Book_has [] := F.bindsN fun _ _ _ _ _ _ us hl => match us, hl with | [_, _], _ => rfl
theorem bd_Book_put {K : PySem.W.Frag} {f : Addr} {fd : FuncData} (F : D_Book_put K f fd) : Binds K fd P_Book_put [] := F.bindsN fun _ _ _ _ _ _ us hl => match us, hl with | [_, _], _ => rfl
theorem bd_Book_struck {K : PySem.W.Frag} {f : Addr} {fd : FuncData} (F : D_Book_struck K f fd) : Binds K fd P_Book_struck [] := F.bindsN fun _ _ _ _ _ _ us hl => match us, hl with | [_, _], _ => rfl
theorem bd_Book_turned {K : PySem.W.Frag} {f : Addr} {fd : FuncData} (F : D_Book_turned K f fd) : Binds K fd P_Book_turned [] := F.bindsN fun _ _ _ _ _ _ us hl => match us, hl with | [_], _ => rfl
theorem bd_Book_contrary {K : PySem.W.Frag} {f : Addr} {fd : FuncData} (F : D_Book_contrary K f fd) : Binds K fd P_Book_contrary [] := F.bindsN fun _ _ _ _ _ _ us hl => match us, hl with | [_], _ => rfl
theorem bd_Book_joined {K : PySem.W.Frag} {f : Addr} {fd : FuncData} (F : D_Book_joined K f fd) : Binds K fd P_Book_joined [] := F.bindsN fun _ _ _ _ _ _ us hl => match us, hl with | [_, _], _ => rfl
theorem bd_Book_stretched {K : PySem.W.Frag} {f : Addr} {fd : FuncData} (F : D_Book_stretched K f fd) : Binds K fd P_Book_stretched [] := F.bindsN fun _ _ _ _ _ _ us hl => match us, hl with | [_, _], _ => rfl
theorem bd_sum_of {K : PySem.W.Frag} {f : Addr} {fd : FuncData} (F : D_sum_of K f fd) : Binds K fd P_sum_of [] := F.bindsN fun _ _ _ _ _ _ us hl => match us, hl with | [_], _ => rfl
theorem bd_SumBook___init {K : PySem.W.Frag} {f : Addr} {fd : FuncData} (F : D_SumBook___init K f fd) : Binds K fd P_SumBook___init [] := F.bindsN fun _ _ _ _ _ _ us hl => match us, hl with | [_, _, _, _], _ => rfl
theorem bd_SumBook___eq {K : PySem.W.Frag} {f : Addr} {fd : FuncData} (F : D_SumBook___eq K f fd) : Binds K fd P_SumBook___eq [] := F.bindsN fun _ _ _ _ _ _ us hl => match us, hl with | [_, _], _ => rfl
theorem bd_SumBook_is_full {K : PySem.W.Frag} {f : Addr} {fd : FuncData} (F : D_SumBook_is_full K f fd) : Binds K fd P_SumBook_is_full [] := F.bindsN fun _ _ _ _ _ _ us hl => match us, hl with | [_], _ => rfl
theorem bd_SumBook_holding {K : PySem.W.Frag} {f : Addr} {fd : FuncData} (F : D_SumBook_holding K f fd) : Binds K fd P_SumBook_holding [] := F.bindsN fun _ _ _ _ _ _ us hl => match us, hl with | [_, _], _ => rfl
theorem bd_SumBook_has {K : PySem.W.Frag} {f : Addr} {fd : FuncData} (F : D_SumBook_has K f fd) : Binds K fd P_SumBook_has [] := F.bindsN fun _ _ _ _ _ _ us hl => match us, hl with | [_, _], _ => rfl
theorem bd_SumBook_contrary {K : PySem.W.Frag} {f : Addr} {fd : FuncData} (F : D_SumBook_contrary K f fd) : Binds K fd P_SumBook_contrary [] := F.bindsN fun _ _ _ _ _ _ us hl => match us, hl with | [_], _ => rfl
theorem bd_SumBook_turned {K : PySem.W.Frag} {f : Addr} {fd : FuncData} (F : D_SumBook_turned K f fd) : Binds K fd P_SumBook_turned [] := F.bindsN fun _ _ _ _ _ _ us hl => match us, hl with | [_], _ => rfl
theorem bd_check_modulus {K : PySem.W.Frag} {f : Addr} {fd : FuncData} (F : D_check_modulus K f fd) : Binds K fd P_check_modulus [] := F.bindsN fun _ _ _ _ _ _ us hl => match us, hl with | [_, _], _ => rfl
theorem bd_check_rest {K : PySem.W.Frag} {f : Addr} {fd : FuncData} (F : D_check_rest K f fd) : Binds K fd P_check_rest [] := F.bindsN fun _ _ _ _ _ _ us hl => match us, hl with | [_, _], _ => rfl
theorem bd_sum_members {K : PySem.W.Frag} {f : Addr} {fd : FuncData} (F : D_sum_members K f fd) : Binds K fd P_sum_members [] := F.bindsN fun _ _ _ _ _ _ us hl => match us, hl with | [_], _ => rfl
theorem bd_book_of_sums {K : PySem.W.Frag} {f : Addr} {fd : FuncData} (F : D_book_of_sums K f fd) : Binds K fd P_book_of_sums [] := F.bindsN fun _ _ _ _ _ _ us hl => match us, hl with | [_], _ => rfl
theorem bd_law_hand {K : PySem.W.Frag} {f : Addr} {fd : FuncData} (F : D_law_hand K f fd) : Binds K fd P_law_hand [] := F.bindsN fun _ _ _ _ _ _ us hl => match us, hl with | [_], _ => rfl
theorem bd_law_mixed {K : PySem.W.Frag} {f : Addr} {fd : FuncData} (F : D_law_mixed K f fd) : Binds K fd P_law_mixed [] := F.bindsN fun _ _ _ _ _ _ us hl => match us, hl with | [_, _], _ => rfl
theorem bd_law_take {K : PySem.W.Frag} {f : Addr} {fd : FuncData} (F : D_law_take K f fd) : Binds K fd P_law_take [] := F.bindsN fun _ _ _ _ _ _ us hl => match us, hl with | [_, _], _ => rfl
theorem bd_law_whole {K : PySem.W.Frag} {f : Addr} {fd : FuncData} (F : D_law_whole K f fd) : Binds K fd P_law_whole [] := F.bindsN fun _ _ _ _ _ _ us hl => match us, hl with | [_], _ => rfl
theorem bd_law_word {K : PySem.W.Frag} {f : Addr} {fd : FuncData} (F : D_law_word K f fd) : Binds K fd P_law_word [] := F.bindsN fun _ _ _ _ _ _ us hl => match us, hl with | [_, _, _], _ => rfl
theorem bd_law_runny {K : PySem.W.Frag} {f : Addr} {fd : FuncData} (F : D_law_runny K f fd) : Binds K fd P_law_runny [] := F.bindsN fun _ _ _ _ _ _ us hl => match us, hl with | [_, _, _], _ => rfl
theorem bd_law_power {K : PySem.W.Frag} {f : Addr} {fd : FuncData} (F : D_law_power K f fd) : Binds K fd P_law_power [] := F.bindsN fun _ _ _ _ _ _ us hl => match us, hl with | [_, _], _ => rfl
theorem bd_law_all_words {K : PySem.W.Frag} {f : Addr} {fd : FuncData} (F : D_law_all_words K f fd) : Binds K fd P_law_all_words [] := F.bindsN fun _ _ _ _ _ _ us hl => match us, hl with | [_, _], _ => rfl
theorem bd_law_sum {K : PySem.W.Frag} {f : Addr} {fd : FuncData} (F : D_law_sum K f fd) : Binds K fd P_law_sum [] := F.bindsN fun _ _ _ _ _ _ us hl => match us, hl with | [_], _ => rfl
theorem bd_law_sum_words {K : PySem.W.Frag} {f : Addr} {fd : FuncData} (F : D_law_sum_words K f fd) : Binds K fd P_law_sum_words [] := F.bindsN fun _ _ _ _ _ _ us hl => match us, hl with | [_, _, _], _ => rfl
theorem bd_law_odd {K : PySem.W.Frag} {f : Addr} {fd : FuncData} (F : D_law_odd K f fd) : Binds K fd P_law_odd [] := F.bindsN fun _ _ _ _ _ _ us hl => match us, hl with | [_, _], _ => rfl
theorem bd_law_bad_word {K : PySem.W.Frag} {f : Addr} {fd : FuncData} (F : D_law_bad_word K f fd) : Binds K fd P_law_bad_word [] := F.bindsN fun _ _ _ _ _ _ us hl => match us, hl with | [_, _, _], _ => rfl
theorem bd_law_book_of {K : PySem.W.Frag} {f : Addr} {fd : FuncData} (F : D_law_book_of K f fd) : Binds K fd P_law_book_of [] := F.bindsN fun _ _ _ _ _ _ us hl => match us, hl with | [_, _], _ => rfl
theorem bd_law_made {K : PySem.W.Frag} {f : Addr} {fd : FuncData} (F : D_law_made K f fd) : Binds K fd P_law_made [] := F.bindsN fun _ _ _ _ _ _ us hl => match us, hl with | [_, _, _], _ => rfl
theorem bd_law_made_refused {K : PySem.W.Frag} {f : Addr} {fd : FuncData} (F : D_law_made_refused K f fd) : Binds K fd P_law_made_refused [] := F.bindsN fun _ _ _ _ _ _ us hl => match us, hl with | [_, _], _ => rfl
theorem bd_law_held_refused {K : PySem.W.Frag} {f : Addr} {fd : FuncData} (F : D_law_held_refused K f fd) : Binds K fd P_law_held_refused [] := F.bindsN fun _ _ _ _ _ _ us hl => match us, hl with | [_, _], _ => rfl
theorem bd_law_has_refused {K : PySem.W.Frag} {f : Addr} {fd : FuncData} (F : D_law_has_refused K f fd) : Binds K fd P_law_has_refused [] := F.bindsN fun _ _ _ _ _ _ us hl => match us, hl with | [_, _], _ => rfl
theorem bd_law_turned {K : PySem.W.Frag} {f : Addr} {fd : FuncData} (F : D_law_turned K f fd) : Binds K fd P_law_turned [] := F.bindsN fun _ _ _ _ _ _ us hl => match us, hl with | [_], _ => rfl
theorem bd_law_is_book {K : PySem.W.Frag} {f : Addr} {fd : FuncData} (F : D_law_is_book K f fd) : Binds K fd P_law_is_book [] := F.bindsN fun _ _ _ _ _ _ us hl => match us, hl with | [_, _, _, _], _ => rfl
theorem bd_law_led_right {K : PySem.W.Frag} {f : Addr} {fd : FuncData} (F : D_law_led_right K f fd) : Binds K fd P_law_led_right [] := F.bindsN fun _ _ _ _ _ _ us hl => match us, hl with | [_, _, _], _ => rfl
theorem bd_law_plain_right {K : PySem.W.Frag} {f : Addr} {fd : FuncData} (F : D_law_plain_right K f fd) : Binds K fd P_law_plain_right [] := F.bindsN fun _ _ _ _ _ _ us hl => match us, hl with | [_, _], _ => rfl
theorem bd_law_great_refused {K : PySem.W.Frag} {f : Addr} {fd : FuncData} (F : D_law_great_refused K f fd) : Binds K fd P_law_great_refused [] := F.bindsN fun _ _ _ _ _ _ us hl => match us, hl with | [_, _], _ => rfl
theorem bd_law {K : PySem.W.Frag} {f : Addr} {fd : FuncData} (F : D_law K f fd) : Binds K fd P_law [] := F.bindsN fun _ _ _ _ _ _ us hl => match us, hl with | [_], _ => rfl
theorem bd_is_whole_3 {K : PySem.W.Frag} {f : Addr} {fd : FuncData} (F : D_is_whole K f fd) : ∃ ds, Vals [] ds ∧ Binds K fd P_is_whole ds := F.binds1 3 2 (by simp) rfl fun _ _ _ _ _ _ _ us its h1 h2 => match us, its, h1, h2 with | [_, _, _], [_, _], _, _ => ⟨_, rfl, rfl⟩
theorem bd_check_word_2 {K : PySem.W.Frag} {f : Addr} {fd : FuncData} (F : D_check_word K f fd) : ∃ ds, Vals [V.int (24)] ds ∧ Binds K fd P_check_word ds := F.binds1 2 0 (by simp) rfl fun _ _ _ _ _ _ _ us its h1 h2 => match us, its, h1, h2 with | [_, _], [_], _, _ => ⟨_, rfl, rfl⟩
theorem bd_check_word_3 {K : PySem.W.Frag} {f : Addr} {fd : FuncData} (F : D_check_word K f fd) : ∃ ds, Vals [] ds ∧ Binds K fd P_check_word ds := F.binds1 3 1 (by simp) rfl fun _ _ _ _ _ _ _ us its h1 h2 => match us, its, h1, h2 with | [_, _, _], [_], _, _ => ⟨_, rfl, rfl⟩
theorem mt_ok {K : PySem.W.Frag} {mg : Str → Option Value} (T : Txt K mg) : ∀ a b r, mt a b = some r → PySem.W.exmOne K (.ref (He.ga K a)) (.ref (He.ga K b)) = some r := by
  intro a b r h
  unfold mt at h
  by_cases c : a = "BadBook" ∧ b = "BadBook"
  · rw [if_pos c] at h; obtain ⟨rfl, rfl⟩ := c; cases h; exact T.m_BadBook_is_BadBook
  rw [if_neg c] at h; clear c
  by_cases c : a = "BadBook" ∧ b = "BadModulus"
  · rw [if_pos c] at h; obtain ⟨rfl, rfl⟩ := c; cases h; exact T.m_BadBook_is_BadModulus
  rw [if_neg c] at h; clear c
  by_cases c : a = "BadBook" ∧ b = "BadNumber"
  · rw [if_pos c] at h; obtain ⟨rfl, rfl⟩ := c; cases h; exact T.m_BadBook_is_BadNumber
  rw [if_neg c] at h; clear c
  by_cases c : a = "BadBook" ∧ b = "BadRest"
  · rw [if_pos c] at h; obtain ⟨rfl, rfl⟩ := c; cases h; exact T.m_BadBook_is_BadRest
  rw [if_neg c] at h; clear c
  by_cases c : a = "BadBook" ∧ b = "BadWord"
  · rw [if_pos c] at h; obtain ⟨rfl, rfl⟩ := c; cases h; exact T.m_BadBook_is_BadWord
  rw [if_neg c] at h; clear c
  by_cases c : a = "BadBook" ∧ b = "NotPerfect"
  · rw [if_pos c] at h; obtain ⟨rfl, rfl⟩ := c; cases h; exact T.m_BadBook_is_NotPerfect
  rw [if_neg c] at h; clear c
  by_cases c : a = "BadBook" ∧ b = "TooMany"
  · rw [if_pos c] at h; obtain ⟨rfl, rfl⟩ := c; cases h; exact T.m_BadBook_is_TooMany
  rw [if_neg c] at h; clear c
  by_cases c : a = "BadModulus" ∧ b = "BadBook"
  · rw [if_pos c] at h; obtain ⟨rfl, rfl⟩ := c; cases h; exact T.m_BadModulus_is_BadBook
  rw [if_neg c] at h; clear c
  by_cases c : a = "BadModulus" ∧ b = "BadModulus"
  · rw [if_pos c] at h; obtain ⟨rfl, rfl⟩ := c; cases h; exact T.m_BadModulus_is_BadModulus
  rw [if_neg c] at h; clear c
  by_cases c : a = "BadModulus" ∧ b = "BadNumber"
  · rw [if_pos c] at h; obtain ⟨rfl, rfl⟩ := c; cases h; exact T.m_BadModulus_is_BadNumber
  rw [if_neg c] at h; clear c
  by_cases c : a = "BadModulus" ∧ b = "BadRest"
  · rw [if_pos c] at h; obtain ⟨rfl, rfl⟩ := c; cases h; exact T.m_BadModulus_is_BadRest
  rw [if_neg c] at h; clear c
  by_cases c : a = "BadModulus" ∧ b = "BadWord"
  · rw [if_pos c] at h; obtain ⟨rfl, rfl⟩ := c; cases h; exact T.m_BadModulus_is_BadWord
  rw [if_neg c] at h; clear c
  by_cases c : a = "BadModulus" ∧ b = "NotPerfect"
  · rw [if_pos c] at h; obtain ⟨rfl, rfl⟩ := c; cases h; exact T.m_BadModulus_is_NotPerfect
  rw [if_neg c] at h; clear c
  by_cases c : a = "BadModulus" ∧ b = "TooMany"
  · rw [if_pos c] at h; obtain ⟨rfl, rfl⟩ := c; cases h; exact T.m_BadModulus_is_TooMany
  rw [if_neg c] at h; clear c
  by_cases c : a = "BadNumber" ∧ b = "BadBook"
  · rw [if_pos c] at h; obtain ⟨rfl, rfl⟩ := c; cases h; exact T.m_BadNumber_is_BadBook
  rw [if_neg c] at h; clear c
  by_cases c : a = "BadNumber" ∧ b = "BadModulus"
  · rw [if_pos c] at h; obtain ⟨rfl, rfl⟩ := c; cases h; exact T.m_BadNumber_is_BadModulus
  rw [if_neg c] at h; clear c
  by_cases c : a = "BadNumber" ∧ b = "BadNumber"
  · rw [if_pos c] at h; obtain ⟨rfl, rfl⟩ := c; cases h; exact T.m_BadNumber_is_BadNumber
  rw [if_neg c] at h; clear c
  by_cases c : a = "BadNumber" ∧ b = "BadRest"
  · rw [if_pos c] at h; obtain ⟨rfl, rfl⟩ := c; cases h; exact T.m_BadNumber_is_BadRest
  rw [if_neg c] at h; clear c
  by_cases c : a = "BadNumber" ∧ b = "BadWord"
  · rw [if_pos c] at h; obtain ⟨rfl, rfl⟩ := c; cases h; exact T.m_BadNumber_is_BadWord
  rw [if_neg c] at h; clear c
  by_cases c : a = "BadNumber" ∧ b = "NotPerfect"
  · rw [if_pos c] at h; obtain ⟨rfl, rfl⟩ := c; cases h; exact T.m_BadNumber_is_NotPerfect
  rw [if_neg c] at h; clear c
  by_cases c : a = "BadNumber" ∧ b = "TooMany"
  · rw [if_pos c] at h; obtain ⟨rfl, rfl⟩ := c; cases h; exact T.m_BadNumber_is_TooMany
  rw [if_neg c] at h; clear c
  by_cases c : a = "BadRest" ∧ b = "BadBook"
  · rw [if_pos c] at h; obtain ⟨rfl, rfl⟩ := c; cases h; exact T.m_BadRest_is_BadBook
  rw [if_neg c] at h; clear c
  by_cases c : a = "BadRest" ∧ b = "BadModulus"
  · rw [if_pos c] at h; obtain ⟨rfl, rfl⟩ := c; cases h; exact T.m_BadRest_is_BadModulus
  rw [if_neg c] at h; clear c
  by_cases c : a = "BadRest" ∧ b = "BadNumber"
  · rw [if_pos c] at h; obtain ⟨rfl, rfl⟩ := c; cases h; exact T.m_BadRest_is_BadNumber
  rw [if_neg c] at h; clear c
  by_cases c : a = "BadRest" ∧ b = "BadRest"
  · rw [if_pos c] at h; obtain ⟨rfl, rfl⟩ := c; cases h; exact T.m_BadRest_is_BadRest
  rw [if_neg c] at h; clear c
  by_cases c : a = "BadRest" ∧ b = "BadWord"
  · rw [if_pos c] at h; obtain ⟨rfl, rfl⟩ := c; cases h; exact T.m_BadRest_is_BadWord
  rw [if_neg c] at h; clear c
  by_cases c : a = "BadRest" ∧ b = "NotPerfect"
  · rw [if_pos c] at h; obtain ⟨rfl, rfl⟩ := c; cases h; exact T.m_BadRest_is_NotPerfect
  rw [if_neg c] at h; clear c
  by_cases c : a = "BadRest" ∧ b = "TooMany"
  · rw [if_pos c] at h; obtain ⟨rfl, rfl⟩ := c; cases h; exact T.m_BadRest_is_TooMany
  rw [if_neg c] at h; clear c
  by_cases c : a = "BadWord" ∧ b = "BadBook"
  · rw [if_pos c] at h; obtain ⟨rfl, rfl⟩ := c; cases h; exact T.m_BadWord_is_BadBook
  rw [if_neg c] at h; clear c
  by_cases c : a = "BadWord" ∧ b = "BadModulus"
  · rw [if_pos c] at h; obtain ⟨rfl, rfl⟩ := c; cases h; exact T.m_BadWord_is_BadModulus
  rw [if_neg c] at h; clear c
  by_cases c : a = "BadWord" ∧ b = "BadNumber"
  · rw [if_pos c] at h; obtain ⟨rfl, rfl⟩ := c; cases h; exact T.m_BadWord_is_BadNumber
  rw [if_neg c] at h; clear c
  by_cases c : a = "BadWord" ∧ b = "BadRest"
  · rw [if_pos c] at h; obtain ⟨rfl, rfl⟩ := c; cases h; exact T.m_BadWord_is_BadRest
  rw [if_neg c] at h; clear c
  by_cases c : a = "BadWord" ∧ b = "BadWord"
  · rw [if_pos c] at h; obtain ⟨rfl, rfl⟩ := c; cases h; exact T.m_BadWord_is_BadWord
  rw [if_neg c] at h; clear c
  by_cases c : a = "BadWord" ∧ b = "NotPerfect"
  · rw [if_pos c] at h; obtain ⟨rfl, rfl⟩ := c; cases h; exact T.m_BadWord_is_NotPerfect
  rw [if_neg c] at h; clear c
  by_cases c : a = "BadWord" ∧ b = "TooMany"
  · rw [if_pos c] at h; obtain ⟨rfl, rfl⟩ := c; cases h; exact T.m_BadWord_is_TooMany
  rw [if_neg c] at h; clear c
  by_cases c : a = "NotPerfect" ∧ b = "BadBook"
  · rw [if_pos c] at h; obtain ⟨rfl, rfl⟩ := c; cases h; exact T.m_NotPerfect_is_BadBook
  rw [if_neg c] at h; clear c
  by_cases c : a = "NotPerfect" ∧ b = "BadModulus"
  · rw [if_pos c] at h; obtain ⟨rfl, rfl⟩ := c; cases h; exact T.m_NotPerfect_is_BadModulus
  rw [if_neg c] at h; clear c
  by_cases c : a = "NotPerfect" ∧ b = "BadNumber"
  · rw [if_pos c] at h; obtain ⟨rfl, rfl⟩ := c; cases h; exact T.m_NotPerfect_is_BadNumber
  rw [if_neg c] at h; clear c
  by_cases c : a = "NotPerfect" ∧ b = "BadRest"
  · rw [if_pos c] at h; obtain ⟨rfl, rfl⟩ := c; cases h; exact T.m_NotPerfect_is_BadRest
  rw [if_neg c] at h; clear c
  by_cases c : a = "NotPerfect" ∧ b = "BadWord"
  · rw [if_pos c] at h; obtain ⟨rfl, rfl⟩ := c; cases h; exact T.m_NotPerfect_is_BadWord
  rw [if_neg c] at h; clear c
  by_cases c : a = "NotPerfect" ∧ b = "NotPerfect"
  · rw [if_pos c] at h; obtain ⟨rfl, rfl⟩ := c; cases h; exact T.m_NotPerfect_is_NotPerfect
  rw [if_neg c] at h; clear c
  by_cases c : a = "NotPerfect" ∧ b = "TooMany"
  · rw [if_pos c] at h; obtain ⟨rfl, rfl⟩ := c; cases h; exact T.m_NotPerfect_is_TooMany
  rw [if_neg c] at h; clear c
  by_cases c : a = "TooMany" ∧ b = "BadBook"
  · rw [if_pos c] at h; obtain ⟨rfl, rfl⟩ := c; cases h; exact T.m_TooMany_is_BadBook
  rw [if_neg c] at h; clear c
  by_cases c : a = "TooMany" ∧ b = "BadModulus"
  · rw [if_pos c] at h; obtain ⟨rfl, rfl⟩ := c; cases h; exact T.m_TooMany_is_BadModulus
  rw [if_neg c] at h; clear c
  by_cases c : a = "TooMany" ∧ b = "BadNumber"
  · rw [if_pos c] at h; obtain ⟨rfl, rfl⟩ := c; cases h; exact T.m_TooMany_is_BadNumber
  rw [if_neg c] at h; clear c
  by_cases c : a = "TooMany" ∧ b = "BadRest"
  · rw [if_pos c] at h; obtain ⟨rfl, rfl⟩ := c; cases h; exact T.m_TooMany_is_BadRest
  rw [if_neg c] at h; clear c
  by_cases c : a = "TooMany" ∧ b = "BadWord"
  · rw [if_pos c] at h; obtain ⟨rfl, rfl⟩ := c; cases h; exact T.m_TooMany_is_BadWord
  rw [if_neg c] at h; clear c
  by_cases c : a = "TooMany" ∧ b = "NotPerfect"
  · rw [if_pos c] at h; obtain ⟨rfl, rfl⟩ := c; cases h; exact T.m_TooMany_is_NotPerfect
  rw [if_neg c] at h; clear c
  by_cases c : a = "TooMany" ∧ b = "TooMany"
  · rw [if_pos c] at h; obtain ⟨rfl, rfl⟩ := c; cases h; exact T.m_TooMany_is_TooMany
  rw [if_neg c] at h; clear c
  cases h
theorem isx_PlaceError {K : PySem.W.Frag} {mg : Str → Option Value} (T : Txt K mg) : ∀ c b, tab_PlaceError c = some b → ExcC K (He.ga K c) ∧ PySem.W.kitOne K (.ref (He.ga K c)) (.ref (He.ga K "PlaceError")) = some b := by
  intro a r h
  unfold tab_PlaceError at h
  by_cases c : a = "BadBook"
  · rw [if_pos c] at h; subst c; cases h; exact ⟨T.s_BadBook, T.k_BadBook_is_PlaceError⟩
  rw [if_neg c] at h; clear c
  by_cases c : a = "BadModulus"
  · rw [if_pos c] at h; subst c; cases h; exact ⟨T.s_BadModulus, T.k_BadModulus_is_PlaceError⟩
  rw [if_neg c] at h; clear c
  by_cases c : a = "BadNumber"
  · rw [if_pos c] at h; subst c; cases h; exact ⟨T.s_BadNumber, T.k_BadNumber_is_PlaceError⟩
  rw [if_neg c] at h; clear c
  by_cases c : a = "BadRest"
  · rw [if_pos c] at h; subst c; cases h; exact ⟨T.s_BadRest, T.k_BadRest_is_PlaceError⟩
  rw [if_neg c] at h; clear c
  by_cases c : a = "BadWord"
  · rw [if_pos c] at h; subst c; cases h; exact ⟨T.s_BadWord, T.k_BadWord_is_PlaceError⟩
  rw [if_neg c] at h; clear c
  by_cases c : a = "NotPerfect"
  · rw [if_pos c] at h; subst c; cases h; exact ⟨T.s_NotPerfect, T.k_NotPerfect_is_PlaceError⟩
  rw [if_neg c] at h; clear c
  by_cases c : a = "TooMany"
  · rw [if_pos c] at h; subst c; cases h; exact ⟨T.s_TooMany, T.k_TooMany_is_PlaceError⟩
  rw [if_neg c] at h; clear c
  cases h
theorem fld_ok {K : PySem.W.Frag} {mg : Str → Option Value} (T : Txt K mg) : FldOk K ftab := by
  intro a f h
  unfold ftab at h
  by_cases c : a = "Book" ∧ f = "letters"
  · obtain ⟨rfl, rfl⟩ := c; exact ⟨T.l_Book, T.a_Book_is_letters⟩
  rw [if_neg c] at h; clear c
  by_cases c : a = "Book" ∧ f = "length"
  · obtain ⟨rfl, rfl⟩ := c; exact ⟨T.l_Book, T.a_Book_is_length⟩
  rw [if_neg c] at h; clear c
  by_cases c : a = "Book" ∧ f = "words"
  · obtain ⟨rfl, rfl⟩ := c; exact ⟨T.l_Book, T.a_Book_is_words⟩
  rw [if_neg c] at h; clear c
  by_cases c : a = "Book" ∧ f = "size"
  · obtain ⟨rfl, rfl⟩ := c; exact ⟨T.l_Book, T.a_Book_is_size⟩
  rw [if_neg c] at h; clear c
  by_cases c : a = "SumBook" ∧ f = "length"
  · obtain ⟨rfl, rfl⟩ := c; exact ⟨T.l_SumBook, T.a_SumBook_is_length⟩
  rw [if_neg c] at h; clear c
  by_cases c : a = "SumBook" ∧ f = "modulus"
  · obtain ⟨rfl, rfl⟩ := c; exact ⟨T.l_SumBook, T.a_SumBook_is_modulus⟩
  rw [if_neg c] at h; clear c
  by_cases c : a = "SumBook" ∧ f = "rest"
  · obtain ⟨rfl, rfl⟩ := c; exact ⟨T.l_SumBook, T.a_SumBook_is_rest⟩
  rw [if_neg c] at h; clear c
  cases h
theorem isi_Book {K : PySem.W.Frag} {mg : Str → Option Value} (T : Txt K mg) : IsOk K "Book" tabI_Book := by
  refine ⟨fun a r h => ?_, T.j_Book⟩
  unfold tabI_Book at h
  by_cases c : a = "Book"
  · rw [if_pos c] at h; subst c; cases h; exact ⟨T.k_Book_is_Book, tyx_ins T.l_Book T.o_Book⟩
  rw [if_neg c] at h; clear c
  by_cases c : a = "SumBook"
  · rw [if_pos c] at h; subst c; cases h; exact ⟨T.k_SumBook_is_Book, tyx_ins T.l_SumBook T.o_SumBook⟩
  rw [if_neg c] at h; clear c
  cases h
theorem isi_SumBook {K : PySem.W.Frag} {mg : Str → Option Value} (T : Txt K mg) : IsOk K "SumBook" tabI_SumBook := by
  refine ⟨fun a r h => ?_, T.j_SumBook⟩
  unfold tabI_SumBook at h
  by_cases c : a = "Book"
  · rw [if_pos c] at h; subst c; cases h; exact ⟨T.k_Book_is_SumBook, tyx_ins T.l_Book T.o_Book⟩
  rw [if_neg c] at h; clear c
  by_cases c : a = "SumBook"
  · rw [if_pos c] at h; subst c; cases h; exact ⟨T.k_SumBook_is_SumBook, tyx_ins T.l_SumBook T.o_SumBook⟩
  rw [if_neg c] at h; clear c
  cases h
theorem eqt {K : PySem.W.Frag} {mg : Str → Option Value} (T : Txt K mg) : EqTab2 K tabE tabC := by
  refine eqt_of T.q_eqs (fun c F h => ?_) (fun c h => ?_) (fun c h => ?_)
  · unfold tabE at h; cases e : tabN c with
    | none => rw [e] at h; cases h
    | some i => exact tabN_mem _ _ e
  · unfold tabC at h; cases e : tabN c with
    | none => rw [e] at h; cases h
    | some i => exact tabN_mem _ _ e
  · unfold eqsL at h
    rcases List.mem_cons.mp h with e | h
    · subst e; exact ⟨T.l_Book, T.o_Book⟩
    rcases List.mem_cons.mp h with e | h
    · subst e; exact ⟨T.l_SumBook, T.o_SumBook⟩
    cases h
end Mine

namespace Mine
open PySem PySem.Spec PyProof.Rows L2
def q_wall : He5.DefA := ⟨fun K => (He.ga K "_wall"), "_wall", "_wall", defArgs s_wall, defBody s_wall, defScope s_wall, [], []⟩
def q_BadWord___init : He5.DefA := ⟨fun K => (He.ma K (He.ga K "BadWord") "__init__"), "__init__", "BadWord.__init__", defArgs s_BadWord___init, defBody s_BadWord___init, defScope s_BadWord___init, [], []⟩
def q_TooMany___init : He5.DefA := ⟨fun K => (He.ma K (He.ga K "TooMany") "__init__"), "__init__", "TooMany.__init__", defArgs s_TooMany___init, defBody s_TooMany___init, defScope s_TooMany___init, [], []⟩
def q_BadBook___init : He5.DefA := ⟨fun K => (He.ma K (He.ga K "BadBook") "__init__"), "__init__", "BadBook.__init__", defArgs s_BadBook___init, defBody s_BadBook___init, defScope s_BadBook___init, [], []⟩
def q_is_whole : He5.DefA := ⟨fun K => (He.ga K "is_whole"), "is_whole", "is_whole", defArgs s_is_whole, defBody s_is_whole, defScope s_is_whole, [.non, .non], []⟩
def q_check_number : He5.DefA := ⟨fun K => (He.ga K "check_number"), "check_number", "check_number", defArgs s_check_number, defBody s_check_number, defScope s_check_number, [], []⟩
def q_power_of : He5.DefA := ⟨fun K => (He.ga K "power_of"), "power_of", "power_of", defArgs s_power_of, defBody s_power_of, defScope s_power_of, [], []⟩
def q_check_word : He5.DefA := ⟨fun K => (He.ga K "check_word"), "check_word", "check_word", defArgs s_check_word, defBody s_check_word, defScope s_check_word, [.int (24)], []⟩
def q_is_word : He5.DefA := ⟨fun K => (He.ga K "is_word"), "is_word", "is_word", defArgs s_is_word, defBody s_is_word, defScope s_is_word, [], []⟩
def q_all_words : He5.DefA := ⟨fun K => (He.ga K "all_words"), "all_words", "all_words", defArgs s_all_words, defBody s_all_words, defScope s_all_words, [], []⟩
def q_check_words : He5.DefA := ⟨fun K => (He.ga K "_check_words"), "_check_words", "_check_words", defArgs s_check_words, defBody s_check_words, defScope s_check_words, [], []⟩
def q_Book___init : He5.DefA := ⟨fun K => (He.ma K (He.ga K "Book") "__init__"), "__init__", "Book.__init__", defArgs s_Book___init, defBody s_Book___init, defScope s_Book___init, [], []⟩
def q_Book___eq : He5.DefA := ⟨fun K => (He.ma K (He.ga K "Book") "__eq__"), "__eq__", "Book.__eq__", defArgs s_Book___eq, defBody s_Book___eq, defScope s_Book___eq, [], []⟩
def q_Book___iter : He5.DefA := ⟨fun K => (He.ma K (He.ga K "Book") "__iter__"), "__iter__", "Book.__iter__", defArgs s_Book___iter, defBody s_Book___iter, defScope s_Book___iter, [], []⟩
def q_Book_has : He5.DefA := ⟨fun K => (He.ma K (He.ga K "Book") "has"), "has", "Book.has", defArgs s_Book_has, defBody s_Book_has, defScope s_Book_has, [], []⟩
def q_Book_put : He5.DefA := ⟨fun K => (He.ma K (He.ga K "Book") "put"), "put", "Book.put", defArgs s_Book_put, defBody s_Book_put, defScope s_Book_put, [], []⟩
def q_Book_struck : He5.DefA := ⟨fun K => (He.ma K (He.ga K "Book") "struck"), "struck", "Book.struck", defArgs s_Book_struck, defBody s_Book_struck, defScope s_Book_struck, [], []⟩
def q_Book_turned : He5.DefA := ⟨fun K => (He.ma K (He.ga K "Book") "turned"), "turned", "Book.turned", defArgs s_Book_turned, defBody s_Book_turned, defScope s_Book_turned, [], []⟩
def q_Book_contrary : He5.DefA := ⟨fun K => (He.ma K (He.ga K "Book") "contrary"), "contrary", "Book.contrary", defArgs s_Book_contrary, defBody s_Book_contrary, defScope s_Book_contrary, [], []⟩
def q_Book_joined : He5.DefA := ⟨fun K => (He.ma K (He.ga K "Book") "joined"), "joined", "Book.joined", defArgs s_Book_joined, defBody s_Book_joined, defScope s_Book_joined, [], []⟩
def q_Book_stretched : He5.DefA := ⟨fun K => (He.ma K (He.ga K "Book") "stretched"), "stretched", "Book.stretched", defArgs s_Book_stretched, defBody s_Book_stretched, defScope s_Book_stretched, [], []⟩
def q_sum_of : He5.DefA := ⟨fun K => (He.ga K "_sum_of"), "_sum_of", "_sum_of", defArgs s_sum_of, defBody s_sum_of, defScope s_sum_of, [], []⟩
def q_SumBook___init : He5.DefA := ⟨fun K => (He.ma K (He.ga K "SumBook") "__init__"), "__init__", "SumBook.__init__", defArgs s_SumBook___init, defBody s_SumBook___init, defScope s_SumBook___init, [], []⟩
def q_SumBook___eq : He5.DefA := ⟨fun K => (He.ma K (He.ga K "SumBook") "__eq__"), "__eq__", "SumBook.__eq__", defArgs s_SumBook___eq, defBody s_SumBook___eq, defScope s_SumBook___eq, [], []⟩
def q_SumBook_is_full : He5.DefA := ⟨fun K => (gA K "SumBook" "is_full"), "is_full", "SumBook.is_full", defArgs s_SumBook_is_full, defBody s_SumBook_is_full, defScope s_SumBook_is_full, [], []⟩
def q_SumBook_holding : He5.DefA := ⟨fun K => (He5.wf K (He.ga K "SumBook") "staticmethod" "holding"), "holding", "SumBook.holding", defArgs s_SumBook_holding, defBody s_SumBook_holding, defScope s_SumBook_holding, [], []⟩
def q_SumBook_has : He5.DefA := ⟨fun K => (He.ma K (He.ga K "SumBook") "has"), "has", "SumBook.has", defArgs s_SumBook_has, defBody s_SumBook_has, defScope s_SumBook_has, [], []⟩
def q_SumBook_contrary : He5.DefA := ⟨fun K => (He.ma K (He.ga K "SumBook") "contrary"), "contrary", "SumBook.contrary", defArgs s_SumBook_contrary, defBody s_SumBook_contrary, defScope s_SumBook_contrary, [], []⟩
def q_SumBook_turned : He5.DefA := ⟨fun K => (He.ma K (He.ga K "SumBook") "turned"), "turned", "SumBook.turned", defArgs s_SumBook_turned, defBody s_SumBook_turned, defScope s_SumBook_turned, [], []⟩
def q_check_modulus : He5.DefA := ⟨fun K => (He.ga K "_check_modulus"), "_check_modulus", "_check_modulus", defArgs s_check_modulus, defBody s_check_modulus, defScope s_check_modulus, [], []⟩
def q_check_rest : He5.DefA := ⟨fun K => (He.ga K "_check_rest"), "_check_rest", "_check_rest", defArgs s_check_rest, defBody s_check_rest, defScope s_check_rest, [], []⟩
def q_sum_members : He5.DefA := ⟨fun K => (He.ga K "sum_members"), "sum_members", "sum_members", defArgs s_sum_members, defBody s_sum_members, defScope s_sum_members, [], []⟩
def q_book_of_sums : He5.DefA := ⟨fun K => (He.ga K "book_of_sums"), "book_of_sums", "book_of_sums", defArgs s_book_of_sums, defBody s_book_of_sums, defScope s_book_of_sums, [], []⟩
def q_law_hand : He5.DefA := ⟨fun K => (He.ga K "_law_hand"), "_law_hand", "_law_hand", defArgs s_law_hand, defBody s_law_hand, defScope s_law_hand, [], []⟩
def q_law_mixed : He5.DefA := ⟨fun K => (He.ga K "_law_mixed"), "_law_mixed", "_law_mixed", defArgs s_law_mixed, defBody s_law_mixed, defScope s_law_mixed, [], []⟩
def q_law_take : He5.DefA := ⟨fun K => (He.ga K "_law_take"), "_law_take", "_law_take", defArgs s_law_take, defBody s_law_take, defScope s_law_take, [], []⟩
def q_law_whole : He5.DefA := ⟨fun K => (He.ga K "_law_whole"), "_law_whole", "_law_whole", defArgs s_law_whole, defBody s_law_whole, defScope s_law_whole, [], []⟩
def q_law_word : He5.DefA := ⟨fun K => (He.ga K "_law_word"), "_law_word", "_law_word", defArgs s_law_word, defBody s_law_word, defScope s_law_word, [], []⟩
def q_law_runny : He5.DefA := ⟨fun K => (He.ga K "_law_runny"), "_law_runny", "_law_runny", defArgs s_law_runny, defBody s_law_runny, defScope s_law_runny, [], []⟩
def q_law_power : He5.DefA := ⟨fun K => (He.ga K "_law_power"), "_law_power", "_law_power", defArgs s_law_power, defBody s_law_power, defScope s_law_power, [], []⟩
def q_law_all_words : He5.DefA := ⟨fun K => (He.ga K "_law_all_words"), "_law_all_words", "_law_all_words", defArgs s_law_all_words, defBody s_law_all_words, defScope s_law_all_words, [], []⟩
def q_law_sum : He5.DefA := ⟨fun K => (He.ga K "_law_sum"), "_law_sum", "_law_sum", defArgs s_law_sum, defBody s_law_sum, defScope s_law_sum, [], []⟩
def q_law_sum_words : He5.DefA := ⟨fun K => (He.ga K "_law_sum_words"), "_law_sum_words", "_law_sum_words", defArgs s_law_sum_words, defBody s_law_sum_words, defScope s_law_sum_words, [], []⟩
def q_law_odd : He5.DefA := ⟨fun K => (He.ga K "_law_odd"), "_law_odd", "_law_odd", defArgs s_law_odd, defBody s_law_odd, defScope s_law_odd, [], []⟩
def q_law_bad_word : He5.DefA := ⟨fun K => (He.ga K "_law_bad_word"), "_law_bad_word", "_law_bad_word", defArgs s_law_bad_word, defBody s_law_bad_word, defScope s_law_bad_word, [], []⟩
def q_law_book_of : He5.DefA := ⟨fun K => (He.ga K "_law_book_of"), "_law_book_of", "_law_book_of", defArgs s_law_book_of, defBody s_law_book_of, defScope s_law_book_of, [], []⟩
def q_law_made : He5.DefA := ⟨fun K => (He.ga K "_law_made"), "_law_made", "_law_made", defArgs s_law_made, defBody s_law_made, defScope s_law_made, [], []⟩
def q_law_made_refused : He5.DefA := ⟨fun K => (He.ga K "_law_made_refused"), "_law_made_refused", "_law_made_refused", defArgs s_law_made_refused, defBody s_law_made_refused, defScope s_law_made_refused, [], []⟩
def q_law_held_refused : He5.DefA := ⟨fun K => (He.ga K "_law_held_refused"), "_law_held_refused", "_law_held_refused", defArgs s_law_held_refused, defBody s_law_held_refused, defScope s_law_held_refused, [], []⟩
def q_law_has_refused : He5.DefA := ⟨fun K => (He.ga K "_law_has_refused"), "_law_has_refused", "_law_has_refused", defArgs s_law_has_refused, defBody s_law_has_refused, defScope s_law_has_refused, [], []⟩
def q_law_turned : He5.DefA := ⟨fun K => (He.ga K "_law_turned"), "_law_turned", "_law_turned", defArgs s_law_turned, defBody s_law_turned, defScope s_law_turned, [], []⟩
def q_law_is_book : He5.DefA := ⟨fun K => (He.ga K "_law_is_book"), "_law_is_book", "_law_is_book", defArgs s_law_is_book, defBody s_law_is_book, defScope s_law_is_book, [], []⟩
def q_law_led_right : He5.DefA := ⟨fun K => (He.ga K "_law_led_right"), "_law_led_right", "_law_led_right", defArgs s_law_led_right, defBody s_law_led_right, defScope s_law_led_right, [], []⟩
def q_law_plain_right : He5.DefA := ⟨fun K => (He.ga K "_law_plain_right"), "_law_plain_right", "_law_plain_right", defArgs s_law_plain_right, defBody s_law_plain_right, defScope s_law_plain_right, [], []⟩
def q_law_great_refused : He5.DefA := ⟨fun K => (He.ga K "_law_great_refused"), "_law_great_refused", "_law_great_refused", defArgs s_law_great_refused, defBody s_law_great_refused, defScope s_law_great_refused, [], []⟩
def q_law : He5.DefA := ⟨fun K => (He.ga K "law"), "law", "law", defArgs s_law, defBody s_law, defScope s_law, [], []⟩
def fn : List He5.DefA := [q_wall, q_BadWord___init, q_TooMany___init, q_BadBook___init, q_is_whole, q_check_number, q_power_of, q_check_word, q_is_word, q_all_words, q_check_words, q_Book___init, q_Book___eq, q_Book___iter, q_Book_has, q_Book_put, q_Book_struck, q_Book_turned, q_Book_contrary, q_Book_joined, q_Book_stretched, q_sum_of, q_SumBook___init, q_SumBook___eq, q_SumBook_is_full, q_SumBook_holding, q_SumBook_has, q_SumBook_contrary, q_SumBook_turned, q_check_modulus, q_check_rest, q_sum_members, q_book_of_sums, q_law_hand, q_law_mixed, q_law_take, q_law_whole, q_law_word, q_law_runny, q_law_power, q_law_all_words, q_law_sum, q_law_sum_words, q_law_odd, q_law_bad_word, q_law_book_of, q_law_made, q_law_made_refused, q_law_held_refused, q_law_has_refused, q_law_turned, q_law_is_book, q_law_led_right, q_law_plain_right, q_law_great_refused, q_law]
def fa : List He.Fa := [.free "isinstance", .free "bool", .free "int", .glo "is_whole", .glo "BadNumber", .exc "BadNumber", .free "range", .free "len", .free "tuple", .free "list", .glo "BadWord", .free "enumerate", .free "all", .glo "BadBook", .glo "is_word", .free "sorted", .int "MOST_MEMBERS" 64, .int "MOST_LETTERS" 24, .glo "_check_words", .glo "Book", .glo "check_word", .glo "_wall", .mkr "Book", .free "sum", .glo "check_number", .int "MOST_HERE" 200, .glo "_check_modulus", .glo "_check_rest", .glo "SumBook", .mkr "SumBook", .glo "_sum_of", .cls "SumBook", .glo "NotPerfect", .exc "NotPerfect", .int "MOST_MODULUS" 1000000, .glo "BadModulus", .exc "BadModulus", .glo "BadRest", .exc "BadRest", .glo "all_words", .int "MOST_LISTED" 14, .glo "TooMany", .glo "power_of", .glo "sum_members", .free "abs", .glo "_law_mixed", .glo "_law_take", .glo "_law_word", .glo "_law_all_words", .glo "_law_sum", .glo "_law_odd", .free "min", .glo "PlaceError", .glo "_law_made", .meth "SumBook" "has", .meth "SumBook" "turned", .glo "_law_whole", .meth "SumBook" "contrary", .glo "_law_is_book", .glo "_law_turned", .glo "_law_runny", .glo "book_of_sums", .glo "_law_sum_words", .cls "Book", .meth "Book" "contrary", .meth "Book" "turned", .glo "_law_hand", .glo "_law_book_of", .glo "_law_led_right", .glo "_law_plain_right", .glo "_law_made_refused", .glo "_law_bad_word", .glo "_law_has_refused", .glo "_law_held_refused", .glo "_law_power", .glo "_law_great_refused", .exm "BadBook" "BadBook" true, .exm "BadBook" "BadModulus" false, .exm "BadBook" "BadNumber" false, .exm "BadBook" "BadRest" false, .exm "BadBook" "BadWord" false, .exm "BadBook" "NotPerfect" false, .exm "BadBook" "TooMany" false, .exm "BadModulus" "BadBook" false, .exm "BadModulus" "BadModulus" true, .exm "BadModulus" "BadNumber" false, .exm "BadModulus" "BadRest" false, .exm "BadModulus" "BadWord" false, .exm "BadModulus" "NotPerfect" false, .exm "BadModulus" "TooMany" false, .exm "BadNumber" "BadBook" false, .exm "BadNumber" "BadModulus" false, .exm "BadNumber" "BadNumber" true, .exm "BadNumber" "BadRest" false, .exm "BadNumber" "BadWord" false, .exm "BadNumber" "NotPerfect" false, .exm "BadNumber" "TooMany" false, .exm "BadRest" "BadBook" false, .exm "BadRest" "BadModulus" false, .exm "BadRest" "BadNumber" false, .exm "BadRest" "BadRest" true, .exm "BadRest" "BadWord" false, .exm "BadRest" "NotPerfect" false, .exm "BadRest" "TooMany" false, .exm "BadWord" "BadBook" false, .exm "BadWord" "BadModulus" false, .exm "BadWord" "BadNumber" false, .exm "BadWord" "BadRest" false, .exm "BadWord" "BadWord" true, .exm "BadWord" "NotPerfect" false, .exm "BadWord" "TooMany" false, .exm "NotPerfect" "BadBook" false, .exm "NotPerfect" "BadModulus" false, .exm "NotPerfect" "BadNumber" false, .exm "NotPerfect" "BadRest" false, .exm "NotPerfect" "BadWord" false, .exm "NotPerfect" "NotPerfect" true, .exm "NotPerfect" "TooMany" false, .exm "TooMany" "BadBook" false, .exm "TooMany" "BadModulus" false, .exm "TooMany" "BadNumber" false, .exm "TooMany" "BadRest" false, .exm "TooMany" "BadWord" false, .exm "TooMany" "NotPerfect" false, .exm "TooMany" "TooMany" true, .noat "Book" "letters", .noat "Book" "length", .noat "Book" "words", .noat "Book" "size", .noat "SumBook" "length", .noat "SumBook" "modulus", .noat "SumBook" "rest", .meth "Book" "__eq__", .meth "SumBook" "__eq__", .glo "law"]
def ex (K : PySem.W.Frag) : Bool := (fexB K "BadWord" && (He.eqO (PySem.W.findIn K (.ref (He.ga K "BadWord")) "index") (some none) && (fexB K "TooMany" && (He.eqO (PySem.W.findIn K (.ref (He.ga K "TooMany")) "count") (some none) && (fexB K "BadBook" && (He.eqO (PySem.W.findIn K (.ref (He.ga K "BadBook")) "what") (some none) && (propB "SumBook" "is_full" K && (decide (PySem.W.subIn K (.ref (He.ga K "TooMany")) (.type "StopIteration") = some false) && (staB "SumBook" "holding" K && (isxB K (He.ga K "BadBook") && (decide (PySem.W.kitOne K (.ref (He.ga K "BadBook")) (.ref (He.ga K "PlaceError")) = some true) && (isxB K (He.ga K "BadModulus") && (decide (PySem.W.kitOne K (.ref (He.ga K "BadModulus")) (.ref (He.ga K "PlaceError")) = some true) && (isxB K (He.ga K "BadNumber") && (decide (PySem.W.kitOne K (.ref (He.ga K "BadNumber")) (.ref (He.ga K "PlaceError")) = some true) && (isxB K (He.ga K "BadRest") && (decide (PySem.W.kitOne K (.ref (He.ga K "BadRest")) (.ref (He.ga K "PlaceError")) = some true) && (isxB K (He.ga K "BadWord") && (decide (PySem.W.kitOne K (.ref (He.ga K "BadWord")) (.ref (He.ga K "PlaceError")) = some true) && (isxB K (He.ga K "NotPerfect") && (decide (PySem.W.kitOne K (.ref (He.ga K "NotPerfect")) (.ref (He.ga K "PlaceError")) = some true) && (isxB K (He.ga K "TooMany") && (decide (PySem.W.kitOne K (.ref (He.ga K "TooMany")) (.ref (He.ga K "PlaceError")) = some true) && (eqsB eqsL K && (insB "Book" K && (insB "SumBook" K && (kinB "Book" K && (decide (PySem.W.kitOne K (.ref (He.ga K "Book")) (.ref (He.ga K "Book")) = some true) && (decide (PySem.W.kitOne K (.ref (He.ga K "SumBook")) (.ref (He.ga K "Book")) = some false) && (kinB "SumBook" K && (decide (PySem.W.kitOne K (.ref (He.ga K "Book")) (.ref (He.ga K "SumBook")) = some false) && (decide (PySem.W.kitOne K (.ref (He.ga K "SumBook")) (.ref (He.ga K "SumBook")) = some true) && true))))))))))))))))))))))))))))))))
theorem txt_of {K : PySem.W.Frag} {h : Heap} {mg : Str → Option Value} (X : K.In h) (G : h.Ns mainGlobals mg) (c : He5.SaysA fa fn K) (E : ex K = true) : Txt K mg := by
  obtain ⟨E0, E⟩ := He.ba E
  obtain ⟨E1, E⟩ := He.ba E
  obtain ⟨E2, E⟩ := He.ba E
  obtain ⟨E3, E⟩ := He.ba E
  obtain ⟨E4, E⟩ := He.ba E
  obtain ⟨E5, E⟩ := He.ba E
  obtain ⟨E6, E⟩ := He.ba E
  obtain ⟨E7, E⟩ := He.ba E
  obtain ⟨E8, E⟩ := He.ba E
  obtain ⟨E9, E⟩ := He.ba E
  obtain ⟨E10, E⟩ := He.ba E
  obtain ⟨E11, E⟩ := He.ba E
  obtain ⟨E12, E⟩ := He.ba E
  obtain ⟨E13, E⟩ := He.ba E
  obtain ⟨E14, E⟩ := He.ba E
  obtain ⟨E15, E⟩ := He.ba E
  obtain ⟨E16, E⟩ := He.ba E
  obtain ⟨E17, E⟩ := He.ba E
  obtain ⟨E18, E⟩ := He.ba E
  obtain ⟨E19, E⟩ := He.ba E
  obtain ⟨E20, E⟩ := He.ba E
  obtain ⟨E21, E⟩ := He.ba E
  obtain ⟨E22, E⟩ := He.ba E
  obtain ⟨E23, E⟩ := He.ba E
  obtain ⟨E24, E⟩ := He.ba E
  obtain ⟨E25, E⟩ := He.ba E
  obtain ⟨E26, E⟩ := He.ba E
  obtain ⟨E27, E⟩ := He.ba E
  obtain ⟨E28, E⟩ := He.ba E
  obtain ⟨E29, E⟩ := He.ba E
  obtain ⟨E30, E⟩ := He.ba E
  obtain ⟨E31, E⟩ := He.ba E
  exact {
    x_BadWord := fexB_ok E0,
    n_BadWord_is_index := He.eqO_ok E1,
    x_TooMany := fexB_ok E2,
    n_TooMany_is_count := He.eqO_ok E3,
    x_BadBook := fexB_ok E4,
    n_BadBook_is_what := He.eqO_ok E5,
    z_isinstance := He.free_ok X G (c.fact 0 (f := .free "isinstance") rfl),
    z_bool := He.free_ok X G (c.fact 1 (f := .free "bool") rfl),
    z_int := He.free_ok X G (c.fact 2 (f := .free "int") rfl),
    g_is_whole := He.glo_ok X G (c.fact 3 (f := .glo "is_whole") rfl),
    g_BadNumber := He.glo_ok X G (c.fact 4 (f := .glo "BadNumber") rfl),
    e_BadNumber := own_of (c.fact 5 (f := .exc "BadNumber") rfl),
    z_range := He.free_ok X G (c.fact 6 (f := .free "range") rfl),
    z_len := He.free_ok X G (c.fact 7 (f := .free "len") rfl),
    z_tuple := He.free_ok X G (c.fact 8 (f := .free "tuple") rfl),
    z_list := He.free_ok X G (c.fact 9 (f := .free "list") rfl),
    g_BadWord := He.glo_ok X G (c.fact 10 (f := .glo "BadWord") rfl),
    z_enumerate := He.free_ok X G (c.fact 11 (f := .free "enumerate") rfl),
    z_all := He.free_ok X G (c.fact 12 (f := .free "all") rfl),
    g_BadBook := He.glo_ok X G (c.fact 13 (f := .glo "BadBook") rfl),
    g_is_word := He.glo_ok X G (c.fact 14 (f := .glo "is_word") rfl),
    z_sorted := He.free_ok X G (c.fact 15 (f := .free "sorted") rfl),
    c_MOST_MEMBERS := He.int_ok X G (c.fact 16 (f := .int "MOST_MEMBERS" 64) rfl),
    c_MOST_LETTERS := He.int_ok X G (c.fact 17 (f := .int "MOST_LETTERS" 24) rfl),
    g__check_words := He.glo_ok X G (c.fact 18 (f := .glo "_check_words") rfl),
    g_Book := He.glo_ok X G (c.fact 19 (f := .glo "Book") rfl),
    g_check_word := He.glo_ok X G (c.fact 20 (f := .glo "check_word") rfl),
    g__wall := He.glo_ok X G (c.fact 21 (f := .glo "_wall") rfl),
    r_Book := He.mkr_ok (c.fact 22 (f := .mkr "Book") rfl),
    z_sum := He.free_ok X G (c.fact 23 (f := .free "sum") rfl),
    g_check_number := He.glo_ok X G (c.fact 24 (f := .glo "check_number") rfl),
    c_MOST_HERE := He.int_ok X G (c.fact 25 (f := .int "MOST_HERE" 200) rfl),
    g__check_modulus := He.glo_ok X G (c.fact 26 (f := .glo "_check_modulus") rfl),
    g__check_rest := He.glo_ok X G (c.fact 27 (f := .glo "_check_rest") rfl),
    g_SumBook := He.glo_ok X G (c.fact 28 (f := .glo "SumBook") rfl),
    r_SumBook := He.mkr_ok (c.fact 29 (f := .mkr "SumBook") rfl),
    g__sum_of := He.glo_ok X G (c.fact 30 (f := .glo "_sum_of") rfl),
    l_SumBook := He.cls_ok (c.fact 31 (f := .cls "SumBook") rfl),
    p_SumBook_is_is_full := propB_ok E6,
    g_NotPerfect := He.glo_ok X G (c.fact 32 (f := .glo "NotPerfect") rfl),
    e_NotPerfect := own_of (c.fact 33 (f := .exc "NotPerfect") rfl),
    c_MOST_MODULUS := He.int_ok X G (c.fact 34 (f := .int "MOST_MODULUS" 1000000) rfl),
    g_BadModulus := He.glo_ok X G (c.fact 35 (f := .glo "BadModulus") rfl),
    e_BadModulus := own_of (c.fact 36 (f := .exc "BadModulus") rfl),
    g_BadRest := He.glo_ok X G (c.fact 37 (f := .glo "BadRest") rfl),
    e_BadRest := own_of (c.fact 38 (f := .exc "BadRest") rfl),
    g_all_words := He.glo_ok X G (c.fact 39 (f := .glo "all_words") rfl),
    c_MOST_LISTED := He.int_ok X G (c.fact 40 (f := .int "MOST_LISTED" 14) rfl),
    g_TooMany := He.glo_ok X G (c.fact 41 (f := .glo "TooMany") rfl),
    g_power_of := He.glo_ok X G (c.fact 42 (f := .glo "power_of") rfl),
    g_sum_members := He.glo_ok X G (c.fact 43 (f := .glo "sum_members") rfl),
    u_TooMany := of_decide_eq_true E7,
    z_abs := He.free_ok X G (c.fact 44 (f := .free "abs") rfl),
    g__law_mixed := He.glo_ok X G (c.fact 45 (f := .glo "_law_mixed") rfl),
    g__law_take := He.glo_ok X G (c.fact 46 (f := .glo "_law_take") rfl),
    g__law_word := He.glo_ok X G (c.fact 47 (f := .glo "_law_word") rfl),
    g__law_all_words := He.glo_ok X G (c.fact 48 (f := .glo "_law_all_words") rfl),
    g__law_sum := He.glo_ok X G (c.fact 49 (f := .glo "_law_sum") rfl),
    g__law_odd := He.glo_ok X G (c.fact 50 (f := .glo "_law_odd") rfl),
    z_min := He.free_ok X G (c.fact 51 (f := .free "min") rfl),
    g_PlaceError := He.glo_ok X G (c.fact 52 (f := .glo "PlaceError") rfl),
    g__law_made := He.glo_ok X G (c.fact 53 (f := .glo "_law_made") rfl),
    y_SumBook_is_holding := staB_ok E8,
    b_SumBook_is_has := He.meth_ok (c.fact 54 (f := .meth "SumBook" "has") rfl),
    b_SumBook_is_turned := He.meth_ok (c.fact 55 (f := .meth "SumBook" "turned") rfl),
    g__law_whole := He.glo_ok X G (c.fact 56 (f := .glo "_law_whole") rfl),
    b_SumBook_is_contrary := He.meth_ok (c.fact 57 (f := .meth "SumBook" "contrary") rfl),
    g__law_is_book := He.glo_ok X G (c.fact 58 (f := .glo "_law_is_book") rfl),
    g__law_turned := He.glo_ok X G (c.fact 59 (f := .glo "_law_turned") rfl),
    g__law_runny := He.glo_ok X G (c.fact 60 (f := .glo "_law_runny") rfl),
    g_book_of_sums := He.glo_ok X G (c.fact 61 (f := .glo "book_of_sums") rfl),
    g__law_sum_words := He.glo_ok X G (c.fact 62 (f := .glo "_law_sum_words") rfl),
    l_Book := He.cls_ok (c.fact 63 (f := .cls "Book") rfl),
    b_Book_is_contrary := He.meth_ok (c.fact 64 (f := .meth "Book" "contrary") rfl),
    b_Book_is_turned := He.meth_ok (c.fact 65 (f := .meth "Book" "turned") rfl),
    g__law_hand := He.glo_ok X G (c.fact 66 (f := .glo "_law_hand") rfl),
    g__law_book_of := He.glo_ok X G (c.fact 67 (f := .glo "_law_book_of") rfl),
    g__law_led_right := He.glo_ok X G (c.fact 68 (f := .glo "_law_led_right") rfl),
    g__law_plain_right := He.glo_ok X G (c.fact 69 (f := .glo "_law_plain_right") rfl),
    g__law_made_refused := He.glo_ok X G (c.fact 70 (f := .glo "_law_made_refused") rfl),
    g__law_bad_word := He.glo_ok X G (c.fact 71 (f := .glo "_law_bad_word") rfl),
    g__law_has_refused := He.glo_ok X G (c.fact 72 (f := .glo "_law_has_refused") rfl),
    g__law_held_refused := He.glo_ok X G (c.fact 73 (f := .glo "_law_held_refused") rfl),
    g__law_power := He.glo_ok X G (c.fact 74 (f := .glo "_law_power") rfl),
    g__law_great_refused := He.glo_ok X G (c.fact 75 (f := .glo "_law_great_refused") rfl),
    m_BadBook_is_BadBook := He.exm_ok (c.fact 76 (f := .exm "BadBook" "BadBook" true) rfl),
    m_BadBook_is_BadModulus := He.exm_ok (c.fact 77 (f := .exm "BadBook" "BadModulus" false) rfl),
    m_BadBook_is_BadNumber := He.exm_ok (c.fact 78 (f := .exm "BadBook" "BadNumber" false) rfl),
    m_BadBook_is_BadRest := He.exm_ok (c.fact 79 (f := .exm "BadBook" "BadRest" false) rfl),
    m_BadBook_is_BadWord := He.exm_ok (c.fact 80 (f := .exm "BadBook" "BadWord" false) rfl),
    m_BadBook_is_NotPerfect := He.exm_ok (c.fact 81 (f := .exm "BadBook" "NotPerfect" false) rfl),
    m_BadBook_is_TooMany := He.exm_ok (c.fact 82 (f := .exm "BadBook" "TooMany" false) rfl),
    m_BadModulus_is_BadBook := He.exm_ok (c.fact 83 (f := .exm "BadModulus" "BadBook" false) rfl),
    m_BadModulus_is_BadModulus := He.exm_ok (c.fact 84 (f := .exm "BadModulus" "BadModulus" true) rfl),
    m_BadModulus_is_BadNumber := He.exm_ok (c.fact 85 (f := .exm "BadModulus" "BadNumber" false) rfl),
    m_BadModulus_is_BadRest := He.exm_ok (c.fact 86 (f := .exm "BadModulus" "BadRest" false) rfl),
    m_BadModulus_is_BadWord := He.exm_ok (c.fact 87 (f := .exm "BadModulus" "BadWord" false) rfl),
    m_BadModulus_is_NotPerfect := He.exm_ok (c.fact 88 (f := .exm "BadModulus" "NotPerfect" false) rfl),
    m_BadModulus_is_TooMany := He.exm_ok (c.fact 89 (f := .exm "BadModulus" "TooMany" false) rfl),
    m_BadNumber_is_BadBook := He.exm_ok (c.fact 90 (f := .exm "BadNumber" "BadBook" false) rfl),
    m_BadNumber_is_BadModulus := He.exm_ok (c.fact 91 (f := .exm "BadNumber" "BadModulus" false) rfl),
    m_BadNumber_is_BadNumber := He.exm_ok (c.fact 92 (f := .exm "BadNumber" "BadNumber" true) rfl),
    m_BadNumber_is_BadRest := He.exm_ok (c.fact 93 (f := .exm "BadNumber" "BadRest" false) rfl),
    m_BadNumber_is_BadWord := He.exm_ok (c.fact 94 (f := .exm "BadNumber" "BadWord" false) rfl),
    m_BadNumber_is_NotPerfect := He.exm_ok (c.fact 95 (f := .exm "BadNumber" "NotPerfect" false) rfl),
    m_BadNumber_is_TooMany := He.exm_ok (c.fact 96 (f := .exm "BadNumber" "TooMany" false) rfl),
    m_BadRest_is_BadBook := He.exm_ok (c.fact 97 (f := .exm "BadRest" "BadBook" false) rfl),
    m_BadRest_is_BadModulus := He.exm_ok (c.fact 98 (f := .exm "BadRest" "BadModulus" false) rfl),
    m_BadRest_is_BadNumber := He.exm_ok (c.fact 99 (f := .exm "BadRest" "BadNumber" false) rfl),
    m_BadRest_is_BadRest := He.exm_ok (c.fact 100 (f := .exm "BadRest" "BadRest" true) rfl),
    m_BadRest_is_BadWord := He.exm_ok (c.fact 101 (f := .exm "BadRest" "BadWord" false) rfl),
    m_BadRest_is_NotPerfect := He.exm_ok (c.fact 102 (f := .exm "BadRest" "NotPerfect" false) rfl),
    m_BadRest_is_TooMany := He.exm_ok (c.fact 103 (f := .exm "BadRest" "TooMany" false) rfl),
    m_BadWord_is_BadBook := He.exm_ok (c.fact 104 (f := .exm "BadWord" "BadBook" false) rfl),
    m_BadWord_is_BadModulus := He.exm_ok (c.fact 105 (f := .exm "BadWord" "BadModulus" false) rfl),
    m_BadWord_is_BadNumber := He.exm_ok (c.fact 106 (f := .exm "BadWord" "BadNumber" false) rfl),
    m_BadWord_is_BadRest := He.exm_ok (c.fact 107 (f := .exm "BadWord" "BadRest" false) rfl),
    m_BadWord_is_BadWord := He.exm_ok (c.fact 108 (f := .exm "BadWord" "BadWord" true) rfl),
    m_BadWord_is_NotPerfect := He.exm_ok (c.fact 109 (f := .exm "BadWord" "NotPerfect" false) rfl),
    m_BadWord_is_TooMany := He.exm_ok (c.fact 110 (f := .exm "BadWord" "TooMany" false) rfl),
    m_NotPerfect_is_BadBook := He.exm_ok (c.fact 111 (f := .exm "NotPerfect" "BadBook" false) rfl),
    m_NotPerfect_is_BadModulus := He.exm_ok (c.fact 112 (f := .exm "NotPerfect" "BadModulus" false) rfl),
    m_NotPerfect_is_BadNumber := He.exm_ok (c.fact 113 (f := .exm "NotPerfect" "BadNumber" false) rfl),
    m_NotPerfect_is_BadRest := He.exm_ok (c.fact 114 (f := .exm "NotPerfect" "BadRest" false) rfl),
    m_NotPerfect_is_BadWord := He.exm_ok (c.fact 115 (f := .exm "NotPerfect" "BadWord" false) rfl),
    m_NotPerfect_is_NotPerfect := He.exm_ok (c.fact 116 (f := .exm "NotPerfect" "NotPerfect" true) rfl),
    m_NotPerfect_is_TooMany := He.exm_ok (c.fact 117 (f := .exm "NotPerfect" "TooMany" false) rfl),
    m_TooMany_is_BadBook := He.exm_ok (c.fact 118 (f := .exm "TooMany" "BadBook" false) rfl),
    m_TooMany_is_BadModulus := He.exm_ok (c.fact 119 (f := .exm "TooMany" "BadModulus" false) rfl),
    m_TooMany_is_BadNumber := He.exm_ok (c.fact 120 (f := .exm "TooMany" "BadNumber" false) rfl),
    m_TooMany_is_BadRest := He.exm_ok (c.fact 121 (f := .exm "TooMany" "BadRest" false) rfl),
    m_TooMany_is_BadWord := He.exm_ok (c.fact 122 (f := .exm "TooMany" "BadWord" false) rfl),
    m_TooMany_is_NotPerfect := He.exm_ok (c.fact 123 (f := .exm "TooMany" "NotPerfect" false) rfl),
    m_TooMany_is_TooMany := He.exm_ok (c.fact 124 (f := .exm "TooMany" "TooMany" true) rfl),
    s_BadBook := isxB_ok E9,
    k_BadBook_is_PlaceError := of_decide_eq_true E10,
    s_BadModulus := isxB_ok E11,
    k_BadModulus_is_PlaceError := of_decide_eq_true E12,
    s_BadNumber := isxB_ok E13,
    k_BadNumber_is_PlaceError := of_decide_eq_true E14,
    s_BadRest := isxB_ok E15,
    k_BadRest_is_PlaceError := of_decide_eq_true E16,
    s_BadWord := isxB_ok E17,
    k_BadWord_is_PlaceError := of_decide_eq_true E18,
    s_NotPerfect := isxB_ok E19,
    k_NotPerfect_is_PlaceError := of_decide_eq_true E20,
    s_TooMany := isxB_ok E21,
    k_TooMany_is_PlaceError := of_decide_eq_true E22,
    a_Book_is_letters := He.noat_ok (c.fact 125 (f := .noat "Book" "letters") rfl),
    a_Book_is_length := He.noat_ok (c.fact 126 (f := .noat "Book" "length") rfl),
    a_Book_is_words := He.noat_ok (c.fact 127 (f := .noat "Book" "words") rfl),
    a_Book_is_size := He.noat_ok (c.fact 128 (f := .noat "Book" "size") rfl),
    a_SumBook_is_length := He.noat_ok (c.fact 129 (f := .noat "SumBook" "length") rfl),
    a_SumBook_is_modulus := He.noat_ok (c.fact 130 (f := .noat "SumBook" "modulus") rfl),
    a_SumBook_is_rest := He.noat_ok (c.fact 131 (f := .noat "SumBook" "rest") rfl),
    q_eqs := eqsB_ok E23,
    b_Book_is___eq__ := He.meth_ok (c.fact 132 (f := .meth "Book" "__eq__") rfl),
    o_Book := insB_ok E24,
    b_SumBook_is___eq__ := He.meth_ok (c.fact 133 (f := .meth "SumBook" "__eq__") rfl),
    o_SumBook := insB_ok E25,
    j_Book := kinB_ok E26,
    k_Book_is_Book := of_decide_eq_true E27,
    k_SumBook_is_Book := of_decide_eq_true E28,
    j_SumBook := kinB_ok E29,
    k_Book_is_SumBook := of_decide_eq_true E30,
    k_SumBook_is_SumBook := of_decide_eq_true E31,
    F_wall := c.def_ 0 (d := q_wall) rfl,
    F_BadWord___init := c.def_ 1 (d := q_BadWord___init) rfl,
    F_TooMany___init := c.def_ 2 (d := q_TooMany___init) rfl,
    F_BadBook___init := c.def_ 3 (d := q_BadBook___init) rfl,
    F_is_whole := c.def_ 4 (d := q_is_whole) rfl,
    F_check_number := c.def_ 5 (d := q_check_number) rfl,
    F_power_of := c.def_ 6 (d := q_power_of) rfl,
    F_check_word := c.def_ 7 (d := q_check_word) rfl,
    F_is_word := c.def_ 8 (d := q_is_word) rfl,
    F_all_words := c.def_ 9 (d := q_all_words) rfl,
    F_check_words := c.def_ 10 (d := q_check_words) rfl,
    F_Book___init := c.def_ 11 (d := q_Book___init) rfl,
    F_Book___eq := c.def_ 12 (d := q_Book___eq) rfl,
    F_Book___iter := c.def_ 13 (d := q_Book___iter) rfl,
    F_Book_has := c.def_ 14 (d := q_Book_has) rfl,
    F_Book_put := c.def_ 15 (d := q_Book_put) rfl,
    F_Book_struck := c.def_ 16 (d := q_Book_struck) rfl,
    F_Book_turned := c.def_ 17 (d := q_Book_turned) rfl,
    F_Book_contrary := c.def_ 18 (d := q_Book_contrary) rfl,
    F_Book_joined := c.def_ 19 (d := q_Book_joined) rfl,
    F_Book_stretched := c.def_ 20 (d := q_Book_stretched) rfl,
    F_sum_of := c.def_ 21 (d := q_sum_of) rfl,
    F_SumBook___init := c.def_ 22 (d := q_SumBook___init) rfl,
    F_SumBook___eq := c.def_ 23 (d := q_SumBook___eq) rfl,
    F_SumBook_is_full := c.def_ 24 (d := q_SumBook_is_full) rfl,
    F_SumBook_holding := c.def_ 25 (d := q_SumBook_holding) rfl,
    F_SumBook_has := c.def_ 26 (d := q_SumBook_has) rfl,
    F_SumBook_contrary := c.def_ 27 (d := q_SumBook_contrary) rfl,
    F_SumBook_turned := c.def_ 28 (d := q_SumBook_turned) rfl,
    F_check_modulus := c.def_ 29 (d := q_check_modulus) rfl,
    F_check_rest := c.def_ 30 (d := q_check_rest) rfl,
    F_sum_members := c.def_ 31 (d := q_sum_members) rfl,
    F_book_of_sums := c.def_ 32 (d := q_book_of_sums) rfl,
    F_law_hand := c.def_ 33 (d := q_law_hand) rfl,
    F_law_mixed := c.def_ 34 (d := q_law_mixed) rfl,
    F_law_take := c.def_ 35 (d := q_law_take) rfl,
    F_law_whole := c.def_ 36 (d := q_law_whole) rfl,
    F_law_word := c.def_ 37 (d := q_law_word) rfl,
    F_law_runny := c.def_ 38 (d := q_law_runny) rfl,
    F_law_power := c.def_ 39 (d := q_law_power) rfl,
    F_law_all_words := c.def_ 40 (d := q_law_all_words) rfl,
    F_law_sum := c.def_ 41 (d := q_law_sum) rfl,
    F_law_sum_words := c.def_ 42 (d := q_law_sum_words) rfl,
    F_law_odd := c.def_ 43 (d := q_law_odd) rfl,
    F_law_bad_word := c.def_ 44 (d := q_law_bad_word) rfl,
    F_law_book_of := c.def_ 45 (d := q_law_book_of) rfl,
    F_law_made := c.def_ 46 (d := q_law_made) rfl,
    F_law_made_refused := c.def_ 47 (d := q_law_made_refused) rfl,
    F_law_held_refused := c.def_ 48 (d := q_law_held_refused) rfl,
    F_law_has_refused := c.def_ 49 (d := q_law_has_refused) rfl,
    F_law_turned := c.def_ 50 (d := q_law_turned) rfl,
    F_law_is_book := c.def_ 51 (d := q_law_is_book) rfl,
    F_law_led_right := c.def_ 52 (d := q_law_led_right) rfl,
    F_law_plain_right := c.def_ 53 (d := q_law_plain_right) rfl,
    F_law_great_refused := c.def_ 54 (d := q_law_great_refused) rfl,
    F_law := c.def_ 55 (d := q_law) rfl }
def loose0 : List Str := ["_wall", "PlaceError", "BadNumber", "BadWord", "TooMany", "BadBook", "BadModulus", "BadRest", "NotPerfect", "MOST_LETTERS", "is_whole", "check_number", "power_of", "check_word", "is_word", "all_words", "MOST_MEMBERS", "_check_words", "Book", "MOST_HERE", "MOST_MODULUS", "MOST_LISTED", "_sum_of", "SumBook", "_check_modulus", "_check_rest", "sum_members", "book_of_sums", "_law_hand", "_law_mixed"]
def loose1 : List Str := ["_law_take", "_law_whole", "_law_word", "_law_runny", "_law_power", "_law_all_words", "_law_sum", "_law_sum_words", "_law_odd", "_law_bad_word", "_law_book_of", "_law_made", "_law_made_refused", "_law_held_refused", "_law_has_refused", "_law_turned", "_law_is_book", "_law_led_right", "_law_plain_right", "_law_great_refused"]
def loose : List Str := loose0 ++ loose1
abbrev R : PySem.W.OpenRow := PySem.W.OpenLaw.row PySem.Challenge.rw_lostplaces_k43_whole_sum_books_made_turn
def at0 : List Nat := [3, 6, 4, 21, 31, 44, 63, 82, 101, 113, 125, 137, 147, 154, 161, 169, 174, 179, 184, 260, 269, 332, 343, 350, 357, 364, 371, 378, 385, 392, 397, 404, 411, 416, 421, 426, 433, 440, 447, 454, 461, 468, 475, 482, 487, 492, 497, 504, 511, 0, 20, 30, 43, 62, 81, 100, 112, 124, 136, 146, 140, 153, 160, 168, 162, 173, 178, 183, 259, 268, 331, 342, 349, 356, 363, 370, 377, 384, 391, 396, 403, 410, 415, 420, 425, 432, 439, 446, 453, 460, 467, 474, 481, 486, 491, 496, 503, 510, 15, 16, 17, 18, 19, 29, 32, 42, 60, 61, 79, 80, 98, 99, 111, 123, 135, 141, 142, 143, 144, 145, 148, 149, 150, 151, 152, 155, 156, 157, 158, 159, 163, 164, 165, 166, 167, 170, 171, 172, 175, 176, 177, 180, 181, 182, 198, 205, 212, 219, 226, 233, 238, 243, 250, 257, 258, 261, 262, 265, 266, 267, 283, 290, 298, 307, 315, 322, 329, 330, 333, 334, 337, 338, 339, 340, 341, 344, 345, 346, 347, 348, 351, 352, 353, 354, 355, 358, 359, 360, 361, 362, 365, 366, 367, 368, 369, 372, 373, 374, 375, 376, 379, 380, 381, 382, 383, 386, 387, 388, 389, 390, 393, 394, 395, 398, 399, 400, 401, 402, 405, 406, 407, 408, 409, 412, 413, 414, 417, 418, 419, 422, 423, 424, 427, 428, 429, 430, 431, 434, 435, 436, 437, 438, 441, 442, 443, 444, 445, 448, 449, 450, 451, 452, 455, 456, 457, 458, 459, 462, 463, 464, 465, 466, 469, 470, 471, 472, 473, 476, 477, 478, 479, 480, 483, 484, 485, 488, 489, 490, 493, 494, 495, 498, 499, 500, 501, 502, 505, 506, 507, 508, 509, 59, 78, 97, 197, 204, 211, 218, 225, 232, 237, 242, 249, 256, 282, 289, 297, 305, 306, 314, 321, 328, 54, 55, 56, 57, 58, 73, 74, 75, 76, 77, 92, 93, 94, 95, 96, 192, 193, 194, 195, 196, 199, 200, 201, 202, 203, 206, 207, 208, 209, 210, 213, 214, 215, 216, 217, 220, 221, 222, 223, 224, 227, 228, 229, 230, 231, 234, 235, 236, 239, 240, 241, 244, 245, 246, 247, 248, 251, 252, 253, 254, 255, 277, 278, 279, 280, 281, 284, 285, 286, 287, 288, 296, 304, 308, 309, 310, 311, 312, 313, 316, 317, 318, 319, 320, 323, 324, 325, 326, 327, 2]
def obsL (n : List Nat) (fa : List He.Fa) (fn : List He5.DefA) (ex : PySem.W.Frag → Bool) (g : Addr → Option Obj) : He.AlD × Bool := (He5.obsA fa fn (He.frG g n), ex (He.frG g n))
def hookL (n : List Nat) (fa : List He.Fa) (fn : List He5.DefA) (ex : PySem.W.Frag → Bool) : PySem.W.Hook where
  α := He.AlD × Bool
  obs := fun s => obsL n fa fn ex s.heap.get?
  val := fun _ => (He5.valA fn, true)
  says := fun _ h => ∃ K : PySem.W.Frag, K.In h ∧ He5.SaysA fa fn K ∧ ex K = true
  of := fun _ _ e => ⟨_, He.frG_in, congrArg (fun z : He.AlD × Bool => z.1) e, congrArg (fun z : He.AlD × Bool => z.2) e⟩
  keeps := fun _ _ _ ⟨K, hK, c⟩ k => ⟨K, PySem.W.Frag.In.keeps hK k, c⟩
theorem obsL_eq {n : List Nat} {fa : List He.Fa} {fn : List He5.DefA} {ex : PySem.W.Frag → Bool} {g : Addr → Option Obj} {s : Shared} (h : ∀ a, g a = s.heap.get? a) : obsL n fa fn ex g = (hookL n fa fn ex).obs s := by
  have e : g = s.heap.get? := funext h
  rw [e] <;> rfl
abbrev hk : PySem.W.Hook := hookL at0 fa fn ex
def ob (s : PySem.W.SharedT) : He.AlD × Bool := obsL at0 fa fn ex (HandSHeadRun.getT s)
theorem ob_eq (s : PySem.W.SharedT) : ob s = hk.obs s.abs := obsL_eq (HandSHeadRun.getT_eq s)
theorem opt_six {α β γ δ : Type} {o : Option α} {a : α → β} {b : α → γ} {c d f : α → Bool} {e : α → δ} {ta : β} {tb : γ} {te : δ} (h1 : o.map a = some ta) (h2 : o.map b = some tb) (h3 : o.map c = some true) (h4 : o.map d = some true) (h5 : o.map e = some te) (h6 : o.map f = some true) :
    o.map (fun x => (a x, b x, ((c x && d x, e x), f x))) = some (ta, tb, ((true, te), true)) := by
  cases o with
  | none => cases h1
  | some x =>
    injection h1 with h1
    injection h2 with h2
    injection h3 with h3
    injection h4 with h4
    injection h5 with h5
    injection h6 with h6
    show some (a x, b x, ((c x && d x, e x), f x)) = _
    rw [h1, h2, h3, h4, h5, h6] <;> rfl
open PySem.W PySem.Calls HandSHeadRun in
theorem run1 (w : World) (os : OsState) : (endF (stepQ (denQ tabQ) R.prog w) 20000 R.prog w os).map (fun x => looksF R.prog (boot_heap w.params) x.abs) = some true := by kernel_rfl
open PySem.W PySem.Calls HandSHeadRun in
theorem run2 (w : World) (os : OsState) : (endF (stepQ (denQ tabQ) R.prog w) 20000 R.prog w os).map (fun x => seenQ (PySem.W.view R.prog [56]) loose (importedModules R.prog.main.body) (fun s => xlAt (PySem.W.view R.prog [56]) [] s && recOk R.toRowW.records s) x.abs) = some (openGood (PySem.W.view R.prog [56]) loose) := by kernel_rfl
open PySem.W PySem.Calls HandSHeadRun in
theorem run3 (w : World) (os : OsState) : (endF (stepQ (denQ tabQ) R.prog w) 20000 R.prog w os).map (fun x => fa.all fun f => f.ok (He.frG (getT x) at0)) = some true := by kernel_rfl
open PySem.W PySem.Calls HandSHeadRun in
theorem run4 (w : World) (os : OsState) : (endF (stepQ (denQ tabQ) R.prog w) 20000 R.prog w os).map (fun x => fn.all fun d => d.ok (He.frG (getT x) at0)) = some true := by kernel_rfl
open PySem.W PySem.Calls HandSHeadRun in
theorem run5 (w : World) (os : OsState) : (endF (stepQ (denQ tabQ) R.prog w) 20000 R.prog w os).map (fun x => fn.map fun d => He5.fnA (He.frG (getT x) at0) (d.at_ (He.frG (getT x) at0))) = some (fn.map He5.DefA.val) := by kernel_rfl
open PySem.W PySem.Calls HandSHeadRun in
theorem run6 (w : World) (os : OsState) : (endF (stepQ (denQ tabQ) R.prog w) 20000 R.prog w os).map (fun x => ex (He.frG (getT x) at0)) = some true := by kernel_rfl
open PySem.W PySem.Calls HandSHeadRun in
theorem run (w : World) : RunEq R (PySem.W.view R.prog [56]) hk ob 20000 loose w := by
  intro os
  exact opt_six (run1 w os) (run2 w os) (run3 w os) (run4 w os) (run5 w os) (run6 w os)
end Mine
namespace Mine
open PySem PySem.W PySem.Calls PyProof.Rows HandSHeadRun
abbrev rr := OpenLaw.row PySem.Challenge.rw_lostplaces_k43_whole_sum_books_made_turn
abbrev qq := view (OpenLaw.row PySem.Challenge.rw_lostplaces_k43_whole_sum_books_made_turn).prog [56]
abbrev dd := HandSHeadRun.topDef rr.prog 56
theorem h_e : opening rr.prog = plainProg rr.prog.main.scope.names := by kernel_rfl
theorem h_f : ∀ s, fenceModules? rr.prog s = some s := fun s => by kernel_rfl
theorem h_def : defOf qq rr.name = some (dd, []) := by kernel_rfl
theorem h_p : rr.prog.theDef rr.name = some (dd.params, dd.body, dd.scope) := by kernel_rfl
theorem h_k : kwWritten? dd.params.kwonlyargs dd.params.kw_defaults = some [] := by kernel_rfl
theorem h_wr : (!rr.writes || rr.records.isEmpty) = true := by rfl
theorem h_ws : rr.wellSaid = true := by first | assumption | decide +kernel
theorem h_ok : (chainsOk qq && opensWell rr.prog && (frees rr.toRowW && rr.within.isEmpty)) = true := by decide +kernel
theorem h_b : rr.prog.bare := ⟨rfl, rfl, rfl, rfl, rfl, by decide +kernel⟩
end Mine

namespace Mine
open PySem PySem.Spec PyProof.Rows L2
local macro_rules | `(tactic| walk_at "wp") => `(tactic| try simp -implicitDefEqProofs only [eFld_W, eFldS_W, sSetF_W, eMeth_W, eMeth0_W, eProp_W, mkI_W, mkI0_W, eVarD_W, eDic_W, eGet1_W, eGet2_W, eAtD_W, eInD_W, eNotInD_W, sOwnD_W, sPutD_W, Bool.false_eq_true, LINE_W, line0, line1, line2, line3, line4, line5, line6, line7, line8, line9, line10, line11, line12, take_W, Int.reduceLT, Int.reduceLE, Int.reduceNeg, mkD_W, mkD0_W, sSeq_W, sAsg_W, sRet_W, sRetN_W, sIf_W, sNext_W, sDrop_W, sBreak_W, sCont_W, sOwn_W, sPar_W, sPar3_W, sFrz_W, frz_W, fz_lst, fz_dk, fz_dt, sApp_W, sExt_W, sPop_W, sPopTo_W, sPut_W, sAugP_W, sAug_W, sFor_W, sRaise_W, sRaise1_W, gD_W, gD2_W, gD3_W, eVar_W, eVarB_W, eC_W, eOp_W, eUn_W, eCB_W, eNil_W, eCons_W, eConsS_W, eConsH_W, eTup_W, eLst_W, eCall_W, eCall0_W, eTest_W, eNotT_W, eAndT_W, eOrT_W, eTru_W, dTru_non, dTru_bl, dTru_int, dTru_lst, dTru_tup, dTru_str, dTru_dk, eBool_W, eAndV_W, eOrV_W, eNotV_W, eNotVT_W, eIf_W, eChain_W, eLc_W, eLc2_W, eYes_W, eSeq_W, eRng1_W, eRng2_W, eEnum_W, eZip_W, eSl_W, ePart_W, eNoPart_W, eRev_W, eRevL_W, eDk0_W, dAdd_int, dAdd_lst, dAdd_tup, dAdd_str, dAddL_lst, dSub_int, dMul_int, dMul_lst, dMulL_lst, dMul_tup, dFdiv_int, dMod_int, dPow_int, dShl_int, dShr_int, dLe_int, dLt_int, dGt_int, dGe_int, dNeg_int, isa_seq2, isLs_lst, isLs_tup, Bool.or_false, Bool.or_true, Bool.true_or, Bool.false_or, Bool.and_true, Bool.true_and, Bool.and_false, Bool.false_and, isSeq_lst, isSeq_tup, isTp_tup, isTp_lst, isTp_non, isTp_int, isTp_str, isW_int, dIsN_W, dNotN_W, isN_non, isN_int, isN_bl, isN_str, isN_tup, isN_lst, isN_dk, isN_dt, isN_ins, dIx_W, dSl_W, dSlL_W, dLen_W, dInt_W, dStr_W, dAbs_W, dMax2_W, dMin2_W, dTupOf_W, dLstOf_W, dIsi_W, dIsi2_W, kn_int, kn_bl, kn_non, kn_str, kn_tup, kn_lst, kn_dk, kn_dt, isa_int_int, isa_int_bool, isa_tup_tup, isa_bl_bool, isa_seq_tup, isa_seq_lst, isa_int, isa_bool, isa_seq, isa_tup, isa_str, isa_lst, dEq_int, dNe_int, Dt.flat, wipeS, List.getElem?_cons_zero, List.getElem?_cons_succ, List.set_cons_zero, List.set_cons_succ, List.replicate, List.append_nil, List.cons_append, List.nil_append, List.length_cons, List.length_nil, Nat.reduceAdd, Nat.reduceSub, Nat.zero_add, Option.isSome_some, Bool.true_eq_false, Bool.false_eq_true, if_true, if_false, ite_true, ite_false, eq_self, not_true_eq_false, not_false_eq_true, true_and, and_true, decide_eq_true_eq, Bool.not_true, Bool.not_false, Bool.not_eq_true', decide_eq_false_iff_not, decide_true, decide_false, List.length_map, List.map_cons, List.map_nil, Option.some.injEq, reduceCtorEq, Bool.not_eq_eq_eq_not, eEnumK_W, eDk1_W, eXf_W, eIsX_W, sTry_W, sKeep_W, eZipS_W, eZipT_W, eRgL_W, mkG_W, gPlain_W, gSeq_W, gNext_W, gIf_W, gYield_W, gFor_W, sRowPut_W, eCnt_W, eSortedSetI_W, eSortedSetG_W, eSortScG_W, eMinDf_W, eMaxDf_W, eBits_W, eLenSetG_W, dShlW_int, gD3L_W, dIsB_bl, dNotB_bl, eFmtB_W, eTm_W, eSortScG2_W])

section
theorem is_whole_ok {x : Dt} {lo hi : Int} {Q : Dt → Prop} {E : Xc → Prop} (hk : x.kind.isSome = true) (q : Q (.bl (inB lo hi x))) : F_is_whole [.d x, .d (.int lo), .d (.int hi)] Q E := by
  rw [F_is_whole_eq]; unfold S_is_whole
  cases x with
  | int i =>
    walk_at "wp"
    by_cases a : lo ≤ i <;> simpa [inB, a, isW] using q
  | raw v => cases hk
  | ins c ns vs => cases hk
  | _ => walk_at "wp"; simpa [isW, inB] using q
end

section
theorem law_whole_ok {x : Dt} {Q : Dt → Prop} {E : Xc → Prop} (hk : x.kind.isSome = true) (q : Q (.bl (isW x))) : F_law_whole [.d x] Q E := by
  rw [F_law_whole_eq]; unfold S_law_whole
  cases x with
  | raw v => cases hk
  | ins c ns vs => cases hk
  | _ => walk_at "wp"; simpa [isW] using q
end

section
/-- a word of letters below q -/
def Wd (q n : Nat) (w : List Int) : Prop := w.length = n ∧ ∀ x ∈ w, 0 ≤ x ∧ x < q
theorem ints_of_dts {P : Int → Prop} : ∀ {ys : List Dt}, (∀ y ∈ ys, ∃ i : Int, y = .int i ∧ P i) → ∃ w : List Int, ys = w.map .int ∧ ∀ x ∈ w, P x
  | [], _ => ⟨[], rfl, by simp⟩
  | y :: ys, h => by
    obtain ⟨i, e, p⟩ := h y List.mem_cons_self
    obtain ⟨w, e2, p2⟩ := ints_of_dts fun z hz => h z (List.mem_cons_of_mem _ hz)
    exact ⟨i :: w, by rw [e, e2]; rfl, fun x hx => by
      rcases List.mem_cons.mp hx with r | r
      · rw [r]; exact p
      · exact p2 x r⟩
end

section
theorem law_word_ok {q n : Nat} {Q : Dt → Prop} {E : Xc → Prop} (hq : 0 < q) (hq2 : q < 1000) (hn : n < 1000) (h : ∀ w, Wd q n w → Q (iT w)) : F_law_word [.hand, .d (.int q), .d (.int n)] Q E := by
  rw [F_law_word_eq]; unfold S_law_word
  walk_at "wp"
  refine ⟨by omega, lc_any (fun y => ∃ i : Int, y = .int i ∧ 0 ≤ i ∧ i < q) (fun x hx K hK => ?_) (by simp; omega) (by simp) fun ys e g => ?_⟩
  · walk_at "wp"
    exact ⟨by omega, fun r hr => hK _ ⟨r, rfl, by omega, hr⟩⟩
  · obtain ⟨w, rfl, hw⟩ := ints_of_dts g
    exact h w ⟨by simpa using e, hw⟩
end

section
theorem law_runny_ok {q n : Nat} {Q : Dt → Prop} {E : Xc → Prop} (hq : 0 < q) (hq2 : q < 1000) (hn : n < 1000) (h : ∀ w, Wd q n w → Q (iT w)) : F_law_runny [.hand, .d (.int q), .d (.int n)] Q E := by
  rw [F_law_runny_eq]; unfold S_law_runny
  walk_at "wp"
  refine fun r hr => iteQ (fun _ => law_word_ok hq hq2 hn h) fun _ => ⟨by omega, fun r0 hr0 => ⟨by omega, ?_⟩⟩
  refine dFor_inv (fun i e => ∃ (w : List Int) (l : Nat) (s : Sl), e = [.hand, .d (.int q), .d (.int n), .own (.lst (w.map .int)), .d (.int l), s] ∧ Wd q i w ∧ l < q) ⟨[], r0, .no, rfl, ⟨rfl, by simp⟩, by omega⟩ ?_ ?_
  · rintro i x _ K B hx ⟨w, l, s, rfl, hw, hl⟩ hK
    obtain ⟨hi, rfl⟩ := rng_get hx
    walk_at "wp"
    have hln : w.length < 16777216 := by rw [hw.1]; omega
    have fin : ∀ l' : Nat, l' < q → K [.hand, .d (.int q), .d (.int n), .own (.lst (w.map .int ++ [.int l'])), .d (.int l'), .d (.int (i : Nat))] := fun l' hl' =>
      hK _ ⟨w ++ [(l' : Int)], l', _, by rw [List.map_append]; rfl, ⟨by rw [List.length_append, hw.1]; rfl, fun z hz => by
        rcases List.mem_append.mp hz with r | r
        · exact hw.2 z r
        · rw [List.mem_singleton.mp r]; omega⟩, hl'⟩
    refine fun r1 hr1 => iteQ (fun _ => ?_) fun _ => ⟨hln, fin l hl⟩
    exact ⟨by omega, fun r2 hr2 => ⟨hln, fin r2 (by omega)⟩⟩
  · rintro _ ⟨w, l, s, rfl, hw, hl⟩
    walk_at "wp"
    have e : ((n : Int)).toNat = n := by omega
    rw [List.length_map, List.length_range, e] at hw
    exact h w hw
end

section
theorem badWord_lst {xs : List Dt} {q : Int} {m : Nat} : badWord q m (.lst xs) = if m < xs.length then some (-1) else (badAt (inB 0 (q - 1)) xs).map fun i : Nat => (i : Int) := rfl
theorem badWord_tup {xs : List Dt} {q : Int} {m : Nat} : badWord q m (.tup xs) = if m < xs.length then some (-1) else (badAt (inB 0 (q - 1)) xs).map fun i : Nat => (i : Int) := rfl
theorem check_word_ok {a : Dt} {q : Int} {m : Nat} {Q : Dt → Prop} {E : Xc → Prop} (hk : a.kind.isSome = true) (hi : ∀ x ∈ itemsOf a, x.kind.isSome = true)
    (h0 : badWord q m a = none → Q (.tup (itemsOf a))) (h1 : ∀ i, badWord q m a = some i → E ⟨"BadWord", [("index", .int i)]⟩) : F_check_word [.d (.int q), .d a, .d (.int m)] Q E := by
  rw [F_check_word_eq]; unfold S_check_word
  have loop : ∀ (xs : List Dt) (d : DEn), (∀ x ∈ xs, x.kind.isSome = true) → (badAt (inB 0 (q - 1)) xs = none → ∀ s t, d.nx [.d (.int q), .d a, .d (.int m), s, t]) → (∀ i, badAt (inB 0 (q - 1)) xs = some i → ∀ e, d.xc e ⟨"BadWord", [("index", .int (i : Nat))]⟩) →
      dFor (gD2 3 4) (sIf (eNotT (eTru (eCall0 F_is_whole [] (eConsS (eVar 4) (eConsS (eC (.int 0)) (eConsS (eOp dSub (eVarB 0) (eC (.int 1))) eNil)))))) (sRaise1 "BadWord" "index" (eVar 3)) sNext) d (xs.mapIdx fun i x => .tup [.int (i : Nat), x])
      [.d (.int q), .d a, .d (.int m), .no, .no] := by
    intro xs d hxs hd0 hd1
    refine dFor_inv (fun i e => ∃ s t, e = [.d (.int q), .d a, .d (.int m), s, t] ∧ ∀ (j : Nat) x, j < i → xs[j]? = some x → inB 0 (q - 1) x = true) ⟨_, _, rfl, fun j x hj => absurd hj (Nat.not_lt_zero _)⟩ ?_ ?_
    · rintro i x _ K B hx ⟨s, t, rfl, hp⟩ hK
      obtain ⟨y, hy, rfl⟩ := enum_get hx
      walk_at "wp"
      refine is_whole_ok (hxs y (List.mem_of_getElem? hy)) ?_
      show if inB 0 (q - 1) y = false then _ else _
      refine iteQ (fun e => hd1 i (badAt_some hp hy e) _) fun e => hK _ ⟨_, _, rfl, fun j z hj hz => ?_⟩
      by_cases c : j = i
      · subst c; rw [hy] at hz; cases hz
        cases e2 : inB 0 (q - 1) y
        · exact absurd e2 e
        · rfl
      · exact hp j z (by omega) hz
    · rintro _ ⟨s, t, rfl, hp⟩
      exact hd0 (badAt_none fun j x hx => hp j x (by rw [List.length_mapIdx]; exact (List.getElem?_eq_some_iff.mp hx).1) hx) s t
  rcases seq_or (a := a) with ⟨xs, rfl⟩ | ⟨xs, rfl⟩ | e
  · rw [badWord_lst] at h0
    simp only [badWord_lst] at h1
    walk_at "wp"
    refine iteQ (fun c => h1 (-1) (if_pos (by omega))) fun c => ?_
    rw [if_neg (by omega)] at h0
    simp only [if_neg (show ¬ m < xs.length by omega)] at h1
    exact loop xs _ hi (fun e s t => h0 (by rw [e]; rfl)) fun i e _ => h1 i (by rw [e]; rfl)
  · rw [badWord_tup] at h0
    simp only [badWord_tup] at h1
    walk_at "wp"
    refine iteQ (fun c => h1 (-1) (if_pos (by omega))) fun c => ?_
    rw [if_neg (by omega)] at h0
    simp only [if_neg (show ¬ m < xs.length by omega)] at h1
    exact loop xs _ hi (fun e s t => h0 (by rw [e]; rfl)) fun i e _ => h1 i (by rw [e]; rfl)
  · have e2 : badWord q m a = some (-1) := by unfold badWord; rw [e]
    walk_at "wp"
    refine ⟨hk, ?_⟩
    rw [e, if_pos rfl]
    exact h1 _ e2
end

section
/-- all words of n letters below q, in their order -/
def longer (q : Nat) (u : List Int) : List (List Int) := (List.range q).map fun k : Nat => u ++ [(k : Int)]
def allW (q : Nat) : Nat → List (List Int)
  | 0 => [[]]
  | n + 1 => (allW q n).flatMap (longer q)
theorem flat_len (q : Nat) : ∀ ws : List (List Int), (ws.flatMap (longer q)).length = ws.length * q
  | [] => by simp
  | w :: ws => by
    rw [List.flatMap_cons, List.length_append, flat_len q ws, List.length_cons, Nat.add_mul]
    unfold longer
    rw [List.length_map, List.length_range]; omega
theorem allW_len (q : Nat) : ∀ n, (allW q n).length = q ^ n
  | 0 => rfl
  | n + 1 => by
    show ((allW q n).flatMap (longer q)).length = _
    rw [flat_len, allW_len q n, Nat.pow_succ]
theorem mem_allW {q : Nat} : ∀ {n : Nat} {u : List Int}, u ∈ allW q n ↔ u.length = n ∧ ∀ x ∈ u, 0 ≤ x ∧ x < q
  | 0, u => by
    show u ∈ [[]] ↔ _
    rw [List.mem_singleton]
    constructor
    · rintro rfl; exact ⟨rfl, by simp⟩
    · rintro ⟨h, _⟩; exact List.length_eq_zero_iff.mp h
  | n + 1, u => by
    show u ∈ (allW q n).flatMap (longer q) ↔ _
    rw [List.mem_flatMap]
    constructor
    · rintro ⟨w, hw, hu⟩
      obtain ⟨k, hk, rfl⟩ := List.mem_map.mp hu
      obtain ⟨h1, h2⟩ := mem_allW.mp hw
      refine ⟨by rw [List.length_append, h1]; rfl, fun x hx => ?_⟩
      rcases List.mem_append.mp hx with hx | hx
      · exact h2 x hx
      · rw [List.mem_singleton.mp hx]
        have := List.mem_range.mp hk
        omega
    · rintro ⟨h1, h2⟩
      have ne : u ≠ [] := fun e => by rw [e] at h1; cases h1
      have hl := h2 _ (List.getLast_mem ne)
      refine ⟨u.dropLast, mem_allW.mpr ⟨by rw [List.length_dropLast]; omega, fun x hx => h2 x (List.dropLast_subset u hx)⟩, List.mem_map.mpr ⟨(u.getLast ne).toNat, List.mem_range.mpr (by omega), ?_⟩⟩
      rw [Int.toNat_of_nonneg hl.1]
      exact List.dropLast_concat_getLast ne
theorem law_all_words_ok {q n : Nat} {Q : Dt → Prop} {E : Xc → Prop} (hq : 0 < q) (hq2 : q < 1000) (hn : n < 1000) (hp : q ^ n ≤ 1000000) (h : Q (.lst ((allW q n).map iT))) : F_law_all_words [.d (.int q), .d (.int n)] Q E := by
  rw [F_law_all_words_eq]; unfold S_law_all_words
  walk_at "wp"
  refine ⟨by omega, ?_⟩
  refine dFor_inv (fun i e => ∃ s3 s4 s5 s6, e = [.d (.int q), .d (.int n), .d (.lst ((allW q i).map iT)), s3, s4, s5, s6]) ⟨_, _, _, _, rfl⟩ ?_ ?_
  · rintro i x _ K B hx ⟨s3, s4, s5, s6, rfl⟩ hK
    obtain ⟨hi, rfl⟩ := rng_get hx
    have hi : i < n := by simpa using hi
    walk_at "wp"
    refine dFor_inv (fun j e => ∃ s5 s6, e = [.d (.int q), .d (.int n), .d (.lst ((allW q i).map iT)), .d (.int (i : Nat)), .d (.lst ((((allW q i).take j).flatMap (longer q)).map iT)), s5, s6]) ⟨_, _, rfl⟩ ?_ ?_
    · rintro j x _ K2 B2 hx2 ⟨s5, s6, rfl⟩ hK2
      obtain ⟨u, hu, rfl⟩ := map_get hx2
      have hlen := flat_len q ((allW q i).take (j + 1))
      have hj : j < (allW q i).length := (List.getElem?_eq_some_iff.mp hu).1
      have hle : ((allW q i).take (j + 1)).length * q ≤ q ^ n := by
        rw [List.length_take, Nat.min_eq_left (by omega)]
        rw [allW_len] at hj
        calc (j + 1) * q ≤ q ^ i * q := Nat.mul_le_mul_right q hj
          _ = q ^ (i + 1) := (Nat.pow_succ ..).symm
          _ ≤ q ^ n := Nat.pow_le_pow_right hq hi
      have hul : u.length < 1000 := by
        have := (mem_allW.mp (List.mem_of_getElem? hu)).1
        omega
      have ts : ((allW q i).take (j + 1)).flatMap (longer q) = ((allW q i).take j).flatMap (longer q) ++ longer q u := by
        rw [take_snoc hu, List.flatMap_append]; simp
      walk_at "wp"
      refine ⟨by omega, ?_⟩
      refine lc_map (fun k : Nat => Dt.int (k : Nat)) (fun k : Nat => iT (u ++ [(k : Int)])) (fun k hk K1 h1 => ?_) (by rw [List.length_range]; omega) ?_
      · walk_at "wp"
        refine ⟨by omega, ?_⟩
        rw [show (iT (u ++ [(k : Int)])) = .tup (u.map .int ++ [.int k]) by rw [iT, List.map_append]; rfl] at h1
        exact h1
      · walk_at "wp"
        have l2 : (longer q u).length = q := by unfold longer; rw [List.length_map, List.length_range]
        have l3 := congrArg List.length ts
        rw [List.length_append] at l3
        refine ⟨by rw [List.length_range]; simp only [Int.toNat_natCast]; omega, hK2 _ ⟨.d (iT u), s6, ?_⟩⟩
        rw [ts, List.map_append, show (longer q u).map iT = (List.range ((q : Int)).toNat).map fun k : Nat => iT (u ++ [(k : Int)]) by unfold longer; rw [List.map_map, Int.toNat_natCast]; rfl]
    · rintro _ ⟨s5, s6, rfl⟩
      walk_at "wp"
      rw [List.take_length]
      exact hK _ ⟨_, _, _, _, rfl⟩
  · rintro _ ⟨s3, s4, s5, s6, rfl⟩
    walk_at "wp"
    rw [List.length_range, Int.toNat_natCast]
    exact h
end

section
/-! ### letters put in and taken out, place sums -/
def ins (a : Int) : Nat → List Int → List Int
  | 0, w => a :: w
  | _ + 1, [] => [a]
  | k + 1, c :: w => c :: ins a k w
def del : Nat → List Int → List Int
  | _, [] => []
  | 0, _ :: w => w
  | k + 1, c :: w => c :: del k w
def Bits (y : List Int) : Prop := ∀ x ∈ y, x = 0 ∨ x = 1
theorem Bits.tail {c : Int} {y : List Int} (h : Bits (c :: y)) : Bits y := fun x hx => h x (List.mem_cons_of_mem _ hx)
theorem Bits.head {c : Int} {y : List Int} (h : Bits (c :: y)) : c = 0 ∨ c = 1 := h c List.mem_cons_self
/-- the sum of the places (the first is o + 1) -/
def wsum : Nat → List Int → Int
  | _, [] => 0
  | o, x :: r => ((o : Int) + 1) * x + wsum (o + 1) r
theorem wsum_shift : ∀ (o : Nat) (y : List Int), wsum (o + 1) y = wsum o y + y.sum
  | _, [] => rfl
  | o, x :: r => by
    show (((o + 1 : Nat) : Int) + 1) * x + wsum (o + 1 + 1) r = ((o : Int) + 1) * x + wsum (o + 1) r + (x :: r).sum
    rw [wsum_shift (o + 1) r, List.sum_cons]
    have e : (((o + 1 : Nat) : Int) + 1) * x = ((o : Int) + 1) * x + x := by
      have : ((o + 1 : Nat) : Int) = (o : Int) + 1 := by omega
      rw [this, Int.add_mul ((o : Int) + 1) 1 x, Int.one_mul]
    omega
/-! the loss at i: how much it lowers the place sum -/
theorem wsum_take (o : Nat) : ∀ (i : Nat) (u : List Int), (h : i < u.length) → wsum o (u.take (i + 1)) = wsum o (u.take i) + ((o : Int) + i + 1) * u[i]
  | _, [], h => absurd h (by simp)
  | 0, c :: u, _ => by
    show ((o : Int) + 1) * c + 0 = 0 + _
    simp
  | i + 1, c :: u, h => by
    show ((o : Int) + 1) * c + wsum (o + 1) (u.take (i + 1)) = ((o : Int) + 1) * c + wsum (o + 1) (u.take i) + _
    rw [wsum_take (o + 1) i u (by simpa using h), List.getElem_cons_succ]
    have : (((o + 1 : Nat) : Int) + (i : Int) + 1) = ((o : Int) + ((i + 1 : Nat) : Int) + 1) := by omega
    rw [this]; omega
end

section
theorem enumk_get {xs : List Dt} {k i : Nat} {x : Dt} (h : (xs.mapIdx fun i x => Dt.tup [.int ((k : Int) + (i : Nat)), x])[i]? = some x) : ∃ y, xs[i]? = some y ∧ x = .tup [.int ((k : Int) + (i : Nat)), y] := by
  rw [List.getElem?_mapIdx, Option.map_eq_some_iff] at h
  obtain ⟨y, h1, h2⟩ := h
  exact ⟨y, h1, h2.symm⟩
theorem bits_01 {w : List Int} (h : Bits w) : ∀ x ∈ w, 0 ≤ x ∧ x < 2 := fun x hx => by have := h x hx; omega
theorem bits_of_wd {n : Nat} {w : List Int} (h : Wd 2 n w) : Bits w := fun x hx => by have := h.2 x hx; omega
theorem sum_of_ok {w : List Int} {Q : Dt → Prop} {E : Xc → Prop} (hb : Bits w) (hl : w.length < 1000) (q : Q (.int (wsum 0 w))) : F_sum_of [.d (iT w)] Q E := by
  rw [F_sum_of_eq]; unfold S_sum_of
  walk_at "wp"
  refine lc_inv (fun i acc => ∃ ns : List Int, acc = ns.map .int ∧ ns.sum = wsum 0 (w.take i) ∧ ns.length ≤ i) ⟨[], rfl, rfl, Nat.le_refl _⟩ ?_ ?_
  · rintro i x _ K hx ⟨ns, rfl, e, hn⟩ hK
    obtain ⟨y, hy, rfl⟩ := enumk_get hx
    obtain ⟨z, hz, rfl⟩ := map_get hy
    obtain ⟨hi, ez⟩ := List.getElem?_eq_some_iff.mp hz
    have st := wsum_take 0 i w hi
    rw [ez] at st
    walk_at "wp"
    rcases hb z (List.mem_of_getElem? hz) with rfl | rfl
    · rw [if_neg (by decide)]
      exact hK _ ⟨ns, rfl, by omega, by omega⟩
    · rw [if_pos rfl]
      exact ⟨by omega, hK _ ⟨ns ++ [1 + (i : Int)], by rw [List.map_append]; rfl, by rw [List.sum_append]; simp; omega, by rw [List.length_append]; show _ + 1 ≤ _; omega⟩⟩
  · rintro _ ⟨ns, rfl, e, hn⟩
    unfold dSum
    refine ⟨ns, rfl, ?_⟩
    rw [e, List.length_mapIdx, List.length_map, List.take_length]; exact q
theorem badWord_bits {w : List Int} {m : Nat} (hb : Bits w) (hm : w.length ≤ m) : badWord 2 m (.tup (w.map .int)) = none ∧ badWord 2 m (.lst (w.map .int)) = none := by
  have e : badAt (inB 0 (2 - 1)) (w.map .int) = none := badAt_map fun a ha => by have := bits_01 hb a ha; simp [inB]; omega
  rw [badWord_tup, badWord_lst, e, List.length_map, if_neg (by omega)]
  exact ⟨rfl, rfl⟩
/-- a thing that is asked: its kind and its items' are known -/
def Kn (a : Dt) : Prop := a.kind.isSome = true ∧ ∀ x ∈ itemsOf a, x.kind.isSome = true
theorem kn_iT (w : List Int) : Kn (iT w) := ⟨rfl, fun x hx => by obtain ⟨i, _, rfl⟩ := List.mem_map.mp hx; rfl⟩
theorem kn_iL (w : List Int) : Kn (iL w) := ⟨rfl, fun x hx => by obtain ⟨i, _, rfl⟩ := List.mem_map.mp hx; rfl⟩
theorem law_sum_ok {w : List Int} {Q : Dt → Prop} {E : Xc → Prop} (hb : Bits w) (hl : w.length < 1000) (q : Q (.int (wsum 0 w))) : F_law_sum [.d (iT w)] Q E := by
  rw [F_law_sum_eq]; unfold S_law_sum
  walk_at "wp"
  refine ⟨by omega, ?_⟩
  refine lc_inv (fun i acc => ∃ ns : List Int, acc = ns.map .int ∧ ns.sum = wsum 0 (w.take i) ∧ ns.length ≤ i) ⟨[], rfl, rfl, Nat.le_refl _⟩ ?_ ?_
  · rintro i x _ K hx ⟨ns, rfl, e, hn⟩ hK
    obtain ⟨hi, rfl⟩ := rng_get hx
    have hi : i < w.length := by omega
    have st := wsum_take 0 i w hi
    walk_at "wp"
    refine ix_map (n := i) rfl hi ?_
    walk_at "wp"
    refine ⟨.inl (by omega), by omega, hK _ ⟨ns ++ [((i : Int) + 1) * w[i]], by rw [List.map_append]; rfl, ?_, by rw [List.length_append]; show _ + 1 ≤ _; omega⟩⟩
    rw [List.sum_append, st, e]; simp
  · rintro _ ⟨ns, rfl, e, hn⟩
    unfold dSum
    refine ⟨ns, rfl, ?_⟩
    rw [e, List.length_map, List.length_range, rg_toNat, List.take_length]; exact q
end

section
end

section
theorem nf {b : Bool} (h : ¬ b = false) : b = true := by cases b <;> simp_all
end

section
/-- the sum book of length n, modulus m and rest r -/
def bk (n m r : Int) : Dt := .ins "SumBook" ["length", "modulus", "rest"] [.int n, .int m, .int r]
local macro_rules | `(tactic| walk_at "fl") => `(tactic| try simp only [bk, ftab_SumBook_length, ftab_SumBook_modulus, ftab_SumBook_rest, look_SumBook_length, look_SumBook_modulus, look_SumBook_rest, true_and, Option.some.injEq, exists_eq_left'])
theorem check_number_ok {x : Dt} {lo hi : Int} {Q : Dt → Prop} {E : Xc → Prop} (hk : x.kind.isSome = true) (q : inB lo hi x = true → Q x) (h1 : inB lo hi x = false → E ⟨"BadNumber", []⟩) : F_check_number [.d x, .d (.int lo), .d (.int hi)] Q E := by
  rw [F_check_number_eq]; unfold S_check_number
  walk_at "wp"
  refine is_whole_ok hk ?_
  walk_at "wp"
  cases h : inB lo hi x with
  | true => simpa using q h
  | false => simpa using h1 h
theorem check_modulus_ok {x : Dt} {lo : Int} {Q : Dt → Prop} {E : Xc → Prop} (hk : x.kind.isSome = true) (q : inB lo 1000000 x = true → Q .non) (h1 : inB lo 1000000 x = false → E ⟨"BadModulus", []⟩) : F_check_modulus [.d x, .d (.int lo)] Q E := by
  rw [F_check_modulus_eq]; unfold S_check_modulus
  walk_at "wp"
  refine is_whole_ok hk ?_
  walk_at "wp"
  cases h : inB lo 1000000 x with
  | true => simpa using q h
  | false => simpa using h1 h
theorem check_rest_ok {x : Dt} {m : Int} {Q : Dt → Prop} {E : Xc → Prop} (hk : x.kind.isSome = true) (q : inB 0 (m - 1) x = true → Q .non) (h1 : inB 0 (m - 1) x = false → E ⟨"BadRest", []⟩) : F_check_rest [.d x, .d (.int m)] Q E := by
  rw [F_check_rest_eq]; unfold S_check_rest
  walk_at "wp"
  refine is_whole_ok hk ?_
  walk_at "wp"
  cases h : inB 0 (m - 1) x with
  | true => simpa using q h
  | false => simpa using h1 h
theorem inB_int {lo hi i : Int} (a : lo ≤ i) (b : i ≤ hi) : inB lo hi (.int i) = true := by
  unfold inB; simp [a, b, isW]
theorem make_ok {n m r : Int} {Q : Dt → Prop} {E : Xc → Prop} (hn : 0 ≤ n) (hn2 : n ≤ 200) (hm : n + 1 ≤ m) (hm2 : m ≤ 1000000) (hr : 0 ≤ r) (hr2 : r < m) (q : Q (bk n m r)) : F_SumBook___init [.d (.int n), .d (.int m), .d (.int r)] Q E := by
  rw [F_SumBook___init_eq]; unfold S_SumBook___init
  walk_at "wp"
  refine check_number_ok rfl (fun _ => ?_) fun h => by rw [inB_int hn hn2] at h; cases h
  refine check_modulus_ok rfl (fun _ => ?_) fun h => by rw [inB_int hm hm2] at h; cases h
  refine check_rest_ok rfl (fun _ => ?_) fun h => by rw [inB_int hr (by omega)] at h; cases h
  simp only [ftab_SumBook_length, ftab_SumBook_modulus, ftab_SumBook_rest, putN_SumBook_length, putN_SumBook_modulus, putN_SumBook_rest, putD_SumBook_length, putD_SumBook_modulus, putD_SumBook_rest, List.getElem?_cons_zero, List.set_cons_zero, true_and, List.length_nil, List.length_cons]
  exact ⟨by decide, by decide, by decide, q⟩
theorem is_full_ok {n m r : Int} {Q : Dt → Prop} {E : Xc → Prop} (q : Q (.bl (decide (m = n + 1)))) : F_SumBook_is_full [.d (bk n m r)] Q E := by
  rw [F_SumBook_is_full_eq]; unfold S_SumBook_is_full bk
  walk_at "wp"
  simp only [ftab_SumBook_length, ftab_SumBook_modulus, look_SumBook_length, look_SumBook_modulus, true_and, Option.some.injEq, exists_eq_left']
  walk_at "wp"
  exact q
end

section
theorem bits_allW {n : Nat} {u : List Int} : u ∈ allW 2 n ↔ u.length = n ∧ Bits u := by
  rw [mem_allW]
  refine and_congr_right fun _ => ⟨fun h x hx => ?_, fun h x hx => ?_⟩
  · have := h x hx
    have e : ((2 : Nat) : Int) = 2 := rfl
    omega
  · have e : ((2 : Nat) : Int) = 2 := rfl
    rcases h x hx with c | c <;> omega
end

section
/-- the words of the sum book -/
def sumW (n : Nat) (m r : Int) : List (List Int) := (allW 2 n).filter fun u => decide ((wsum 0 u - r) % m = 0)
theorem law_sum_words_ok {n : Nat} {m r : Int} {Q : Dt → Prop} {E : Xc → Prop} (hn : n < 20) (hp : 2 ^ n ≤ 1000000) (hm : 0 < m) (q : Q (.lst ((sumW n m r).map iT))) : F_law_sum_words [.d (.int n), .d (.int m), .d (.int r)] Q E := by
  rw [F_law_sum_words_eq]; unfold S_law_sum_words
  walk_at "wp"
  refine law_all_words_ok (q := 2) (by decide) (by decide) (by omega) hp ?_
  walk_at "wp"
  refine lc_ok iT (fun u => decide ((wsum 0 u - r) % m = 0)) iT (fun u hu K1 K0 h1 h0 => ?_) (by rw [allW_len, List.length_nil]; omega) ?_
  · obtain ⟨hl, hb⟩ := bits_allW.mp hu
    walk_at "wp"
    refine law_sum_ok hb (by omega) ?_
    walk_at "wp"
    refine ⟨hm, ?_⟩
    walk_at "wp"
    refine iteQ (fun c => h1 (by simpa using c)) fun c => h0 (by simpa using c)
  · walk_at "wp"
    exact q
end

section
theorem law_book_of_ok {n : Nat} {Q : Dt → Prop} {E : Xc → Prop} (hn : n < 1000) (q : ∀ m r : Int, (n : Int) + 1 ≤ m → m ≤ 1000000 → 0 ≤ r → r < m → Q (.lst [.int n, .int m, .int r])) : F_law_book_of [.hand, .d (.int n)] Q E := by
  rw [F_law_book_of_eq]; unfold S_law_book_of
  walk_at "wp"
  refine ⟨by omega, fun r0 h0 => ⟨by omega, fun r1 h1 r2 h2 => ix_mem (by show r2 < 7; omega) fun d hd => ?_⟩⟩
  obtain ⟨e, rfl, e0, e1⟩ : ∃ e : Int, d = .int e ∧ 0 ≤ e ∧ e + n + 1 ≤ 1000000 := by
    simp only [List.mem_cons, List.not_mem_nil, or_false] at hd
    rcases hd with h | h | h | h | h | h | h <;> exact ⟨_, h, by omega, by omega⟩
  walk_at "wp"
  have t0 : 0 ≤ (n : Int) * (n + 1) := Int.mul_nonneg (by omega) (by omega)
  have t1 : (n : Int) * (n + 1) ≤ 1000 * 1000 := Int.mul_le_mul (by omega) (by omega) (by omega) (by omega)
  refine ⟨by unfold CMul; omega, by unfold CDiv; omega, ?_⟩
  have q := q (n + 1 + e)
  generalize (n : Int) * (n + 1) = t at *
  refine ⟨by split <;> omega, fun r3 h3 r4 h4 => iteQ (fun c => ?_) fun c => ?_⟩
  · exact ⟨by omega, fun r5 h5 => q r5 (by omega) (by omega) (by omega) h5⟩
  · exact q r3 (by omega) (by omega) (by omega) (by split at h3 <;> omega)
end

section
theorem law_odd_ok {n : Int} {Q : Dt → Prop} {E : Xc → Prop} (hn : 0 ≤ n) (q : ∀ d : Dt, d.kind.isSome = true → inB 0 n d = false → Q d) : F_law_odd [.hand, .d (.int n)] Q E := by
  rw [F_law_odd_eq]; unfold S_law_odd
  walk_at "wp"
  refine fun r1 _ r2 _ k hk => ix_mem (by show k < 8; omega) fun d hd => ?_
  simp only [List.mem_cons, List.not_mem_nil, or_false] at hd
  rcases hd with h | h | h | h | h | h | h | h <;> subst h <;> refine q _ rfl ?_ <;> simp [inB] <;> omega
end

section
theorem badWord_nseq {q : Int} {m : Nat} {a : Dt} (h : isSeq a = false) : badWord q m a = some (-1) := by unfold badWord; rw [h]
theorem ixN_at {n k : Nat} (h : k < n) : ixN n (k : Int) = some k := by
  unfold ixN
  rw [if_pos (by omega), if_pos (by omega), Int.toNat_natCast]
/-- what is left of a spoilt word: its list, the place of the odd thing -/
theorem bad_word_end {w : List Int} {m at_ : Nat} {xs : List Dt} {D : DEn} {odd : Dt} {v : List Int} (hv : Bits v) (hvl : v.length ≤ m) (hm : 200 ≤ m) (hat : at_ < v.length) (ho1 : odd.kind.isSome = true) (ho2 : inB 0 1 odd = false)
    (hxl : xs.length = v.length) (hx : xs[at_]? = some odd) (hp : ∀ j, j < at_ → xs[j]? = (v.map Dt.int)[j]?) (hk : ∀ x ∈ xs, x.kind.isSome = true) (t : Sl) (q : ∀ (a : Dt) (i : Int), Kn a → badWord 2 m a = some i → D.rt (.lst [a, .int i])) :
    S_law_bad_word_r11 D [.hand, .d (iT w), .d (.int m), t, .own (.lst xs), .d (.int at_)] := by
  have bad : badAt (inB 0 (2 - 1)) xs = some at_ := by
    refine badAt_some (fun j x hj hx2 => ?_) hx ho2
    rw [hp j hj, List.getElem?_map] at hx2
    obtain ⟨y, hy, rfl⟩ := Option.map_eq_some_iff.mp hx2
    have := hv y (List.mem_of_getElem? hy)
    simp [inB]; omega
  rw [S_law_bad_word_r11_eq]
  walk_at "wp"
  intro r _
  refine iteQ (fun _ => q _ _ ⟨rfl, hk⟩ ?_) fun _ => q _ _ ⟨rfl, hk⟩ ?_
  · rw [badWord_lst, if_neg (by omega), bad]; rfl
  · rw [badWord_tup, if_neg (by omega), bad]; rfl
theorem law_bad_word_ok {w : List Int} {m : Nat} {Q : Dt → Prop} {E : Xc → Prop} (hb : Bits w) (hl : w.length ≤ m) (hm : 200 ≤ m) (hm2 : m ≤ 201) (q : ∀ (a : Dt) (i : Int), Kn a → badWord 2 m a = some i → Q (.lst [a, .int i])) : F_law_bad_word [.hand, .d (iT w), .d (.int m)] Q E := by
  rw [F_law_bad_word_eq]; unfold S_law_bad_word
  walk_at "wp"
  intro t ht
  rw [S_law_bad_word_r2_eq]
  walk_at "wp"
  refine iteQ (fun _ => ?_) fun _ => ?_
  · refine fun k hk => ix_mem (by show k < 4; omega) fun d hd => ?_
    simp only [List.mem_cons, List.not_mem_nil, or_false] at hd
    rcases hd with h | h | h | h <;> subst h <;> refine q _ _ ⟨rfl, fun x hx => by cases hx⟩ (badWord_nseq rfl)
  rw [S_law_bad_word_r4_eq]
  walk_at "wp"
  refine iteQ (fun _ => ?_) fun _ => ?_
  · intro r hr
    have e : ((m : Int) + 1 + (r : Int)).toNat = m + 1 + r := by omega
    rw [e]
    refine ⟨⟨by omega, by omega, by omega⟩, ?_⟩
    have es : (List.replicate (m + 1 + r) [Dt.int 0]).flatten = List.replicate (m + 1 + r) (Dt.int 0) := by simp
    rw [es]
    refine q _ _ ⟨rfl, fun x hx => by rw [List.eq_of_mem_replicate hx]; rfl⟩ ?_
    rw [badWord_lst, List.length_replicate, if_pos (by omega)]
  · have go : ∀ (v : List Int) (D : DEn), Bits v → v ≠ [] → v.length ≤ m → D.rt = Q → S_law_bad_word_r7 D [.hand, .d (iT w), .d (.int m), .d (.int t), .own (.lst (v.map .int)), .no] := by
      intro v D hv hne hvl hD
      have hpos := List.length_pos_iff.mpr hne
      rw [S_law_bad_word_r7_eq]
      walk_at "wp"
      refine ⟨by omega, fun at_ hat => ?_⟩
      have hat : at_ < v.length := by omega
      rw [S_law_bad_word_r8_eq]
      walk_at "wp"
      refine law_odd_ok (by decide) fun odd ho1 ho2 => ⟨at_, ixN_at hat, ?_⟩
      have hk0 : ∀ x ∈ (v.map Dt.int).set at_ odd, x.kind.isSome = true := fun x hx => by
        rcases List.mem_or_eq_of_mem_set hx with h | h
        · obtain ⟨y, _, rfl⟩ := List.mem_map.mp h; rfl
        · rw [h]; exact ho1
      have hx0 : ((v.map Dt.int).set at_ odd)[at_]? = some odd := by rw [List.getElem?_set_self (by rw [List.length_map]; exact hat)]
      have hp0 : ∀ j, j < at_ → ((v.map Dt.int).set at_ odd)[j]? = (v.map Dt.int)[j]? := fun j hj => by rw [List.getElem?_set_ne (by omega)]
      have hl0 : ((v.map Dt.int).set at_ odd).length = v.length := by rw [List.length_set, List.length_map]
      have q2 : ∀ (a : Dt) (i : Int), Kn a → badWord 2 m a = some i → D.rt (.lst [a, .int i]) := by rw [hD]; exact q
      rw [S_law_bad_word_r9_eq]
      walk_at "wp"
      intro r2 _
      generalize hxs : (v.map Dt.int).set at_ odd = xs at hk0 hx0 hp0 hl0 ⊢
      refine iteQ (fun _ => ?_) fun _ => bad_word_end hv hvl hm hat ho1 ho2 hl0 hx0 hp0 hk0 _ q2
      have put : ∀ y : Dt, y.kind.isSome = true → (at_ < v.length - 1 ∨ xs[v.length - 1]? = some y) → ∃ j, ixN xs.length (-1) = some j ∧ S_law_bad_word_r11 D [.hand, .d (iT w), .d (.int m), .d (.int t), .own (.lst (xs.set j y)), .d (.int at_)] := fun y hy hc => by
        refine ⟨v.length - 1, by rw [ixN_back (by omega), hl0], ?_⟩
        by_cases c : at_ < v.length - 1
        · refine bad_word_end hv hvl hm hat ho1 ho2 (by rw [List.length_set, hl0]) (by rw [List.getElem?_set_ne (by omega)]; exact hx0) (fun j hj => by rw [List.getElem?_set_ne (by omega)]; exact hp0 j hj) (fun x hx => ?_) _ q2
          rcases List.mem_or_eq_of_mem_set hx with h | h
          · exact hk0 x h
          · rw [h]; exact hy
        · have hc2 := hc.resolve_left c
          have : xs.set (v.length - 1) y = xs := by
            obtain ⟨h1, h2⟩ := List.getElem?_eq_some_iff.mp hc2
            rw [← h2]; exact List.set_getElem_self h1
          rw [this]
          exact bad_word_end hv hvl hm hat ho1 ho2 hl0 hx0 hp0 hk0 _ q2
      refine iteQ (fun c => put (.int 7) rfl (.inl (by omega))) fun c => ?_
      have hlast : v.length - 1 < xs.length := by omega
      refine ⟨xs[v.length - 1], ?_, put _ (hk0 _ (List.getElem_mem hlast)) (.inr (List.getElem?_eq_getElem hlast))⟩
      unfold atI
      rw [ixN_back (by omega), hl0]
      exact List.getElem?_eq_getElem hlast
    rw [S_law_bad_word_r6_eq]
    walk_at "wp"
    by_cases c : w = []
    · subst c
      exact go [0] _ (fun x hx => by simp at hx; exact .inl hx) (by simp) (by show 1 ≤ m; omega) rfl
    · rw [if_pos (by cases w with
        | nil => exact absurd rfl c
        | cons _ _ => rfl)]
      exact go w _ hb c hl rfl
end

section
/-! ### sum books: made, turned, contrary, asked -/
local macro_rules | `(tactic| walk_at "fl") => `(tactic| try simp only [bk, ftab_SumBook_length, ftab_SumBook_modulus, ftab_SumBook_rest, look_SumBook_length, look_SumBook_modulus, look_SumBook_rest, true_and, Option.some.injEq, exists_eq_left'])
theorem make_num {x y z : Dt} {Q : Dt → Prop} {E : Xc → Prop} (hk : x.kind.isSome = true) (h : inB 0 200 x = false) (k : E ⟨"BadNumber", []⟩) : F_SumBook___init [.d x, .d y, .d z] Q E := by
  rw [F_SumBook___init_eq]; unfold S_SumBook___init
  walk_at "wp"
  exact check_number_ok hk (fun c => by rw [h] at c; cases c) fun _ => k
theorem make_mod {n : Nat} {y z : Dt} {Q : Dt → Prop} {E : Xc → Prop} (hn : n ≤ 200) (hk : y.kind.isSome = true) (h : inB ((n : Int) + 1) 1000000 y = false) (k : E ⟨"BadModulus", []⟩) : F_SumBook___init [.d (.int n), .d y, .d z] Q E := by
  rw [F_SumBook___init_eq]; unfold S_SumBook___init
  walk_at "wp"
  refine check_number_ok rfl (fun _ => ?_) fun h => by rw [inB_int (by omega) (by omega)] at h; cases h
  exact check_modulus_ok hk (fun c => by rw [h] at c; cases c) fun _ => k
theorem make_rest {n : Nat} {m : Int} {z : Dt} {Q : Dt → Prop} {E : Xc → Prop} (hn : n ≤ 200) (hm : (n : Int) + 1 ≤ m) (hm2 : m ≤ 1000000) (hk : z.kind.isSome = true) (h : inB 0 (m - 1) z = false) (k : E ⟨"BadRest", []⟩) : F_SumBook___init [.d (.int n), .d (.int m), .d z] Q E := by
  rw [F_SumBook___init_eq]; unfold S_SumBook___init
  walk_at "wp"
  refine check_number_ok rfl (fun _ => ?_) fun h => by rw [inB_int (by omega) (by omega)] at h; cases h
  refine check_modulus_ok rfl (fun _ => ?_) fun h => by rw [inB_int hm hm2] at h; cases h
  exact check_rest_ok hk (fun c => by rw [h] at c; cases c) fun _ => k
theorem contrary_ok {n m r : Int} {Q : Dt → Prop} {E : Xc → Prop} (hn : 0 ≤ n) (hn2 : n ≤ 200) (hm : n + 1 ≤ m) (hm2 : m ≤ 1000000) (q : Q (bk n m ((n * (n + 1) / 2 - r) % m))) : F_SumBook_contrary [.d (bk n m r)] Q E := by
  rw [F_SumBook_contrary_eq]; unfold S_SumBook_contrary
  walk_at "wp"
  walk_at "fl"
  walk_at "wp"
  refine ⟨by unfold CMul; omega, by unfold CDiv; omega, ?_⟩
  walk_at "fl"
  walk_at "wp"
  refine ⟨by omega, ?_⟩
  have h0 := Int.emod_nonneg (n * (n + 1) / 2 - r) (show m ≠ 0 by omega)
  have h1 := Int.emod_lt_of_pos (n * (n + 1) / 2 - r) (show 0 < m by omega)
  exact make_ok hn hn2 hm hm2 h0 h1 q
theorem turned_ok {n m r : Int} {Q : Dt → Prop} {E : Xc → Prop} (hn : 0 ≤ n) (hn2 : n ≤ 200) (hm : m = n + 1) (q : Q (bk n m (-r % m))) : F_SumBook_turned [.d (bk n m r)] Q E := by
  rw [F_SumBook_turned_eq]; unfold S_SumBook_turned
  walk_at "wp"
  unfold bk
  walk_at "wp"
  refine is_full_ok ?_
  rw [decide_eq_true hm]
  walk_at "wp"
  walk_at "fl"
  walk_at "wp"
  refine ⟨by omega, ?_⟩
  have h0 := Int.emod_nonneg (-r) (show m ≠ 0 by omega)
  have h1 := Int.emod_lt_of_pos (-r) (show 0 < m by omega)
  exact make_ok hn hn2 (by omega) (by omega) h0 h1 q
theorem turned_not {n m r : Int} {Q : Dt → Prop} {E : Xc → Prop} (hm : m ≠ n + 1) (k : E ⟨"NotPerfect", []⟩) : F_SumBook_turned [.d (bk n m r)] Q E := by
  rw [F_SumBook_turned_eq]; unfold S_SumBook_turned
  walk_at "wp"
  unfold bk
  walk_at "wp"
  refine is_full_ok ?_
  rw [decide_eq_false hm]
  walk_at "wp"
  exact k
theorem holdE {a : Dt} {w : List Int} {m : Int} {Q : Dt → Prop} {E : Xc → Prop} (ha : a = iT w ∨ a = iL w) (hb : Bits w) (hl : w.length ≤ 200) (hm : (w.length : Int) + 1 ≤ m) (hm2 : m ≤ 1000000) (q : Q (bk w.length m (wsum 0 w % m))) : F_SumBook_holding [.d a, .d (.int m)] Q E := by
  have g := badWord_bits (m := 200) hb hl
  have ga : badWord 2 200 a = none := by rcases ha with h | h <;> subst h <;> first | exact g.1 | exact g.2
  have gk : Kn a := by rcases ha with h | h <;> subst h <;> first | exact kn_iT w | exact kn_iL w
  have gi : itemsOf a = w.map .int := by rcases ha with h | h <;> subst h <;> rfl
  rw [F_SumBook_holding_eq]; unfold S_SumBook_holding
  walk_at "wp"
  refine check_word_ok (q := 2) (m := 200) gk.1 gk.2 (fun _ => ?_) fun i h => by rw [ga] at h; cases h
  rw [gi]
  walk_at "wp"
  refine check_modulus_ok rfl (fun _ => ?_) fun h => by rw [inB_int hm hm2] at h; cases h
  walk_at "wp"
  refine sum_of_ok hb (by omega) ?_
  walk_at "wp"
  refine ⟨by omega, ?_⟩
  have h0 := Int.emod_nonneg (wsum 0 w) (show m ≠ 0 by omega)
  have h1 := Int.emod_lt_of_pos (wsum 0 w) (show 0 < m by omega)
  exact make_ok (by omega) (by omega) hm hm2 h0 h1 q
theorem hold_word {a y : Dt} {i : Int} {Q : Dt → Prop} {E : Xc → Prop} (hk : Kn a) (hb : badWord 2 200 a = some i) (k : E ⟨"BadWord", [("index", .int i)]⟩) : F_SumBook_holding [.d a, .d y] Q E := by
  rw [F_SumBook_holding_eq]; unfold S_SumBook_holding
  walk_at "wp"
  refine check_word_ok (q := 2) (m := 200) hk.1 hk.2 (fun h => ?_) fun j h => ?_
  · rw [hb] at h; cases h
  · rw [hb] at h; cases h; exact k
theorem hold_mod {w : List Int} {y : Dt} {Q : Dt → Prop} {E : Xc → Prop} (hb : Bits w) (hl : w.length ≤ 200) (hk : y.kind.isSome = true) (hy : inB ((w.length : Int) + 1) 1000000 y = false) (k : E ⟨"BadModulus", []⟩) : F_SumBook_holding [.d (iT w), .d y] Q E := by
  have g : badWord 2 200 (iT w) = none := (badWord_bits hb hl).1
  rw [F_SumBook_holding_eq]; unfold S_SumBook_holding
  walk_at "wp"
  refine check_word_ok (q := 2) (m := 200) rfl (kn_iT w).2 (fun _ => ?_) fun i h => by rw [show badWord 2 200 (iT w) = none from g] at h; cases h
  rw [show itemsOf (iT w) = w.map .int from rfl]
  walk_at "wp"
  exact check_modulus_ok hk (fun c => by rw [hy] at c; cases c) fun _ => k
theorem hasE {a : Dt} {w : List Int} {n m r : Int} {Q : Dt → Prop} {E : Xc → Prop} (ha : a = iT w ∨ a = iL w) (hb : Bits w) (hl : w.length ≤ 200) (hm : 0 < m) (q : Q (.bl (decide ((w.length : Int) = n) && decide (wsum 0 w % m = r)))) : F_SumBook_has [.d (bk n m r), .d a] Q E := by
  have g := badWord_bits (m := 200) hb hl
  have ga : badWord 2 200 a = none := by rcases ha with h | h <;> subst h <;> first | exact g.1 | exact g.2
  have gk : Kn a := by rcases ha with h | h <;> subst h <;> first | exact kn_iT w | exact kn_iL w
  have gi : itemsOf a = w.map .int := by rcases ha with h | h <;> subst h <;> rfl
  rw [F_SumBook_has_eq]; unfold S_SumBook_has
  walk_at "wp"
  refine check_word_ok (q := 2) (m := 200) gk.1 gk.2 (fun _ => ?_) fun i h => by rw [ga] at h; cases h
  rw [gi]
  walk_at "wp"
  walk_at "fl"
  walk_at "wp"
  refine iteQ (fun c => ?_) fun c => ?_
  · refine sum_of_ok hb (by omega) ?_
    walk_at "fl"
    walk_at "wp"
    refine ⟨hm, ?_⟩
    walk_at "wp"
    rw [decide_eq_true c, Bool.true_and] at q
    exact q
  · rw [decide_eq_false c, Bool.false_and] at q
    exact q
theorem has_bad {a b : Dt} {i : Int} {Q : Dt → Prop} {E : Xc → Prop} (hk : Kn a) (hb : badWord 2 200 a = some i) (k : E ⟨"BadWord", [("index", .int i)]⟩) : F_SumBook_has [.d b, .d a] Q E := by
  rw [F_SumBook_has_eq]; unfold S_SumBook_has
  walk_at "wp"
  refine check_word_ok (q := 2) (m := 200) hk.1 hk.2 (fun h => ?_) fun j h => ?_
  · rw [hb] at h; cases h
  · rw [hb] at h; cases h; exact k
theorem sum_eq {n m r n' m' r' : Int} {Q : Dt → Prop} {E : Xc → Prop} (k : Q (.bl (decide (n = n') && (decide (m = m') && decide (r = r'))))) : F_SumBook___eq [.d (bk n m r), .d (bk n' m' r')] Q E := by
  rw [F_SumBook___eq_eq]; unfold S_SumBook___eq
  walk_at "wp"
  rw [eIsI_W]
  unfold bk
  walk_at "wp"
  refine ⟨true, tabI_SumBook_SumBook, ?_⟩
  refine iteQ (fun _ => ?_) fun h => absurd rfl h
  refine ⟨ftab_SumBook_length, .int n, rfl, ftab_SumBook_length, .int n', rfl, ?_⟩
  rw [dEq_int]
  by_cases c : n = n'
  · rw [decide_eq_true c, Bool.true_and] at k
    rw [decide_eq_true c]
    refine iteQ (fun _ => ?_) fun h => absurd rfl h
    refine ⟨ftab_SumBook_modulus, .int m, rfl, ftab_SumBook_modulus, .int m', rfl, ?_⟩
    rw [dEq_int]
    by_cases d : m = m'
    · rw [decide_eq_true d, Bool.true_and] at k
      rw [decide_eq_true d]
      refine iteQ (fun _ => ?_) fun h => absurd rfl h
      refine ⟨ftab_SumBook_rest, .int r, rfl, ftab_SumBook_rest, .int r', rfl, ?_⟩
      rw [dEq_int]
      exact k
    · rw [decide_eq_false d, Bool.false_and] at k
      rw [decide_eq_false d]
      exact k
  · rw [decide_eq_false c, Bool.false_and] at k
    rw [decide_eq_false c]
    exact k
theorem sum_eqB {n m r n' m' r' : Int} {Q : Dt → Prop} (k : Q (.bl (decide (n = n') && (decide (m = m') && decide (r = r'))))) : dEqB tabE tabC (bk n m r) (bk n' m' r') Q :=
  eqB_ins tabE_SumBook tabC_SumBook (sum_eq ⟨_, rfl, k⟩)
end

section
/-! ### what the law makes, turns and asks -/
theorem made_ok {n m r : Int} {Q : Dt → Prop} {E : Xc → Prop} (hn : 0 ≤ n) (hn2 : n ≤ 200) (hm : n + 1 ≤ m) (hm2 : m ≤ 1000000) (hr : 0 ≤ r) (hr2 : r < m) (q : Q (bk n m r)) : F_law_made [.d (.int n), .d (.int m), .d (.int r)] Q E := by
  rw [F_law_made_eq]; unfold S_law_made
  walk_at "wp"
  refine make_ok hn hn2 hm hm2 hr hr2 ?_
  walk_at "wp"
  exact q
theorem made_num {x y z : Dt} {Q : Dt → Prop} {E : Xc → Prop} (hk : x.kind.isSome = true) (h : inB 0 200 x = false) (k : Q (.tup [.str "number", .bl true])) : F_law_made [.d x, .d y, .d z] Q E := by
  rw [F_law_made_eq]; unfold S_law_made
  walk_at "wp"
  refine make_num hk h ?_
  refine ⟨true, mt_BadNumber_BadNumber, ?_⟩
  rw [if_pos rfl]
  walk_at "wp"
  exact ⟨true, tab_PlaceError_BadNumber, k⟩
theorem made_mod {n : Nat} {y z : Dt} {Q : Dt → Prop} {E : Xc → Prop} (hn : n ≤ 200) (hk : y.kind.isSome = true) (h : inB ((n : Int) + 1) 1000000 y = false) (k : Q (.tup [.str "modulus", .bl true])) : F_law_made [.d (.int n), .d y, .d z] Q E := by
  rw [F_law_made_eq]; unfold S_law_made
  walk_at "wp"
  refine make_mod hn hk h ?_
  refine ⟨false, mt_BadModulus_BadNumber, ?_⟩
  rw [if_neg (by decide)]
  refine ⟨true, mt_BadModulus_BadModulus, ?_⟩
  rw [if_pos rfl]
  walk_at "wp"
  exact ⟨true, tab_PlaceError_BadModulus, k⟩
theorem made_rest {n : Nat} {m : Int} {z : Dt} {Q : Dt → Prop} {E : Xc → Prop} (hn : n ≤ 200) (hm : (n : Int) + 1 ≤ m) (hm2 : m ≤ 1000000) (hk : z.kind.isSome = true) (h : inB 0 (m - 1) z = false) (k : Q (.tup [.str "rest", .bl true])) : F_law_made [.d (.int n), .d (.int m), .d z] Q E := by
  rw [F_law_made_eq]; unfold S_law_made
  walk_at "wp"
  refine make_rest hn hm hm2 hk h ?_
  refine ⟨false, mt_BadRest_BadNumber, ?_⟩
  rw [if_neg (by decide)]
  refine ⟨false, mt_BadRest_BadModulus, ?_⟩
  rw [if_neg (by decide)]
  refine ⟨true, mt_BadRest_BadRest, ?_⟩
  rw [if_pos rfl]
  walk_at "wp"
  exact ⟨true, tab_PlaceError_BadRest, k⟩
theorem law_turned_ok {n m r : Int} {Q : Dt → Prop} {E : Xc → Prop} (hn : 0 ≤ n) (hn2 : n ≤ 200) (hm : m = n + 1) (q : Q (bk n m (-r % m))) : F_law_turned [.d (bk n m r)] Q E := by
  rw [F_law_turned_eq]; unfold S_law_turned
  walk_at "wp"
  unfold bk
  walk_at "wp"
  simp only [look_SumBook_turned, true_and]
  refine turned_ok hn hn2 hm ?_
  rw [S_law_turned_r5_eq]
  walk_at "wp"
  exact q
theorem law_turned_not {n m r : Int} {Q : Dt → Prop} {E : Xc → Prop} (hm : m ≠ n + 1) (k : Q (.tup [.str "not full", .bl true])) : F_law_turned [.d (bk n m r)] Q E := by
  rw [F_law_turned_eq]; unfold S_law_turned
  walk_at "wp"
  unfold bk
  walk_at "wp"
  simp only [look_SumBook_turned, true_and]
  refine turned_not hm ?_
  refine ⟨true, mt_NotPerfect_NotPerfect, ?_⟩
  rw [if_pos rfl]
  walk_at "wp"
  exact ⟨true, tab_PlaceError_NotPerfect, k⟩
theorem law_is_book_ok {n m r : Int} {Q : Dt → Prop} {E : Xc → Prop} (k : Q (.bl true)) : F_law_is_book [.d (bk n m r), .d (.int n), .d (.int m), .d (.int r)] Q E := by
  rw [F_law_is_book_eq]; unfold S_law_is_book
  walk_at "wp"
  rw [eIsI_W]
  unfold bk
  walk_at "wp"
  refine ⟨true, tabI_SumBook_SumBook, ?_⟩
  refine iteQ (fun h => by cases h) fun _ => ?_
  refine ⟨ftab_SumBook_length, .int n, rfl, ftab_SumBook_modulus, .int m, rfl, ftab_SumBook_rest, .int r, rfl, ?_⟩
  walk_at "wp"
  refine lc_map (xs := [n, m, r]) (e := Dt.int) (fun _ => Dt.bl true) (fun x hx K hK => ?_) (by show 3 ≤ _; decide) ?_
  · walk_at "wp"
    exact law_whole_ok rfl hK
  · unfold dAll
    refine ⟨[true, true, true], rfl, ?_⟩
    rw [show ([true, true, true].all id) = true from rfl]
    walk_at "wp"
    refine eqE_L.dNe (a := [n, m, r]) (b := [n, m, r]) ?_
    rw [decide_eq_true rfl]
    refine iteQ (fun h => by cases h) fun _ => ?_
    refine is_full_ok ⟨rfl, iteQ (fun _ => ?_) fun h => absurd rfl h⟩
    refine is_full_ok ?_
    exact dEq_self (shN_bl _).sh k
end

section
/-! packed tables -/
section
variable {B : Nat} {f g : Nat → Nat}
end
end

section
/-! ### how many words of n bits have a place sum of each rest -/
def cnt (m : Nat) : Nat → Nat → Nat
  | 0, r => if r = 0 then 1 else 0
  | n + 1, r => cnt m n r + cnt m n ((r + m - (n + 1) % m) % m)
theorem cnt_le (m : Nat) : ∀ n r, cnt m n r ≤ 2 ^ n
  | 0, r => by unfold cnt; split <;> decide
  | n + 1, r => by
    have a := cnt_le m n r
    have b := cnt_le m n ((r + m - (n + 1) % m) % m)
    unfold cnt
    rw [Nat.pow_succ]; omega
end

section
theorem wsum_snoc (x : Int) : ∀ (o : Nat) (w : List Int), wsum o (w ++ [x]) = wsum o w + ((o : Int) + w.length + 1) * x
  | o, [] => by
    show ((o : Int) + 1) * x + 0 = 0 + _
    rw [Int.add_zero, Int.zero_add]
    show _ = ((o : Int) + 0 + 1) * x
    rw [Int.add_zero]
  | o, y :: w => by
    show ((o : Int) + 1) * y + wsum (o + 1) (w ++ [x]) = ((o : Int) + 1) * y + wsum (o + 1) w + _
    have e : (((o + 1 : Nat) : Int)) + (w.length : Int) + 1 = (o : Int) + ((w.length + 1 : Nat) : Int) + 1 := by omega
    rw [wsum_snoc x (o + 1) w, List.length_cons, e]
    omega
theorem mod_back {s : Int} {m k r : Nat} (hm : 0 < m) (hr : r < m) : ((s + k) % (m : Int) = r) ↔ (s % (m : Int) = ((r + m - k % m) % m : Nat)) := by
  have hk := Nat.div_add_mod k m
  have hl := Nat.mod_lt k hm
  have er : (r : Int) = (r : Int) % m := (Int.emod_eq_of_lt (by omega) (by omega)).symm
  have e3 : (k : Int) = (m : Int) * ((k / m : Nat) : Int) + ((k % m : Nat) : Int) := by
    have : (k : Int) = ((m * (k / m) + k % m : Nat) : Int) := by rw [hk]
    rw [this, Int.natCast_add, Int.natCast_mul]
  have e4 : (((r + m - k % m) % m : Nat) : Int) = ((r : Int) + m - ((k % m : Nat) : Int)) % m := by
    rw [Int.natCast_emod]; congr 1; omega
  rw [e4, Int.emod_eq_emod_iff_emod_sub_eq_zero]
  conv => lhs; rhs; rw [er]
  rw [Int.emod_eq_emod_iff_emod_sub_eq_zero]
  have e5 : s - ((r : Int) + m - ((k % m : Nat) : Int)) = (s + k - r) + (m : Int) * (-(((k / m : Nat) : Int)) - 1) := by
    rw [Int.mul_sub, Int.mul_neg, Int.mul_one, e3]
    omega
  rw [e5, Int.add_mul_emod_self_left]
def hasR (m r : Nat) (w : List Int) : Bool := decide (wsum 0 w % (m : Int) = r)
theorem count_longer {m n r : Nat} (hm : 0 < m) (hr : r < m) : ∀ ws : List (List Int), (∀ w ∈ ws, w.length = n) → (ws.flatMap (longer 2)).countP (hasR m r) = ws.countP (hasR m r) + ws.countP (hasR m ((r + m - (n + 1) % m) % m))
  | [], _ => rfl
  | w :: ws, h => by
    have ih := count_longer hm hr ws fun w hw => h w (List.mem_cons_of_mem _ hw)
    have hw := h w List.mem_cons_self
    have e0 : hasR m r (w ++ [0]) = hasR m r w := by
      unfold hasR; rw [wsum_snoc, Int.mul_zero, Int.add_zero]
    have e1 : hasR m r (w ++ [1]) = hasR m ((r + m - (n + 1) % m) % m) w := by
      unfold hasR
      rw [wsum_snoc, Int.mul_one, hw]
      have := mod_back (s := wsum 0 w) (k := n + 1) hm hr
      rw [show ((0 : Nat) : Int) + (n : Int) + 1 = ((n + 1 : Nat) : Int) by omega]
      exact decide_eq_decide.mpr this
    have el : longer 2 w = [w ++ [0], w ++ [1]] := rfl
    rw [List.flatMap_cons, List.countP_append, ih, el, List.countP_cons, List.countP_cons, List.countP_nil, List.countP_cons, List.countP_cons, e0, e1]
    omega
theorem count_words {m : Nat} (hm : 0 < m) : ∀ (n r : Nat), r < m → (allW 2 n).countP (hasR m r) = cnt m n r
  | 0, r, hr => by
    show [[]].countP (hasR m r) = cnt m 0 r
    rw [List.countP_cons, List.countP_nil]
    unfold hasR cnt
    show 0 + (if decide ((0 : Int) % m = r) = true then 1 else 0) = _
    rw [Int.zero_emod]
    by_cases c : r = 0
    · subst c; rfl
    · rw [if_neg c, if_neg (by rw [decide_eq_true_eq]; omega)]
  | n + 1, r, hr => by
    show ((allW 2 n).flatMap (longer 2)).countP (hasR m r) = _
    rw [count_longer hm hr _ fun w hw => (mem_allW.mp hw).1, count_words hm n r hr, count_words hm n _ (Nat.mod_lt _ hm)]
    rfl
end

section
/-! ### sums of turned and contrary words -/
theorem cc_rest {N r m : Int} (h0 : 0 ≤ r) (h1 : r < m) : (N - (N - r) % m) % m = r := by
  have e := Int.emod_add_mul_ediv (N - r) m
  have e2 : N - (N - r) % m = r + m * ((N - r) / m) := by omega
  rw [e2, Int.add_mul_emod_self_left, Int.emod_eq_of_lt h0 h1]
theorem tt_rest {r m : Int} (h0 : 0 ≤ r) (h1 : r < m) : -(-r % m) % m = r := by
  have := cc_rest (N := 0) h0 h1
  rwa [Int.zero_sub, Int.zero_sub] at this
theorem cwd_bits {w : List Int} (h : Bits w) : Bits (w.map fun x => 1 - x) := fun y hy => by
  obtain ⟨x, hx, rfl⟩ := List.mem_map.mp hy
  have := h x hx
  omega
theorem wsum_cwd : ∀ (o : Nat) (w : List Int), 2 * (wsum o (w.map fun x => 1 - x) + wsum o w) = (w.length : Int) * (2 * o + w.length + 1)
  | o, [] => by
    show 2 * ((0 : Int) + 0) = 0 * _
    rw [Int.zero_mul]; rfl
  | o, x :: w => by
    have ih := wsum_cwd (o + 1) w
    show 2 * (((o : Int) + 1) * (1 - x) + wsum (o + 1) (w.map fun x => 1 - x) + (((o : Int) + 1) * x + wsum (o + 1) w)) = _
    rw [List.length_cons]
    generalize wsum (o + 1) (w.map fun x => 1 - x) = a at *
    generalize wsum (o + 1) w = b at *
    have e1 : ((o : Int) + 1) * (1 - x) = ((o : Int) + 1) - ((o : Int) + 1) * x := by rw [Int.mul_sub, Int.mul_one]
    have e2 : (((w.length + 1 : Nat) : Int)) * (2 * (o : Int) + ((w.length + 1 : Nat) : Int) + 1) = (w.length : Int) * (2 * ((o + 1 : Nat) : Int) + (w.length : Int) + 1) + 2 * ((o : Int) + 1) := by
      grind
    rw [e1, e2, ← ih]
    omega
theorem wsum_cwd0 {n : Nat} {w : List Int} (hl : w.length = n) : wsum 0 (w.map fun x => 1 - x) = (n : Int) * ((n : Int) + 1) / 2 - wsum 0 w := by
  have h := wsum_cwd 0 w
  rw [hl, show 2 * ((0 : Nat) : Int) + (n : Int) + 1 = (n : Int) + 1 by omega] at h
  omega
theorem wsum_rev : ∀ w : List Int, wsum 0 w.reverse + wsum 0 w = ((w.length : Int) + 1) * w.sum
  | [] => rfl
  | x :: w => by
    have ih := wsum_rev w
    rw [List.reverse_cons, wsum_snoc, List.length_reverse, List.sum_cons, List.length_cons]
    show wsum 0 w.reverse + (((0 : Nat) : Int) + w.length + 1) * x + ((((0 : Nat) : Int) + 1) * x + wsum (0 + 1) w) = _
    rw [wsum_shift 0 w]
    grind
theorem rev_rest {n : Nat} {w : List Int} (hl : w.length = n) : wsum 0 w.reverse % ((n : Int) + 1) = -wsum 0 w % ((n : Int) + 1) := by
  have h := wsum_rev w
  rw [hl] at h
  have : wsum 0 w.reverse = -wsum 0 w + ((n : Int) + 1) * w.sum := by omega
  rw [this, Int.add_mul_emod_self_left]
theorem neg_rest (s m : Int) : -(s % m) % m = -s % m := by
  have e := Int.emod_add_mul_ediv s m
  have e2 : -(s % m) = -s + m * (s / m) := by omega
  rw [e2, Int.add_mul_emod_self_left]
theorem sub_rest (N s m : Int) : (N - s % m) % m = (N - s) % m := by
  have e := Int.emod_add_mul_ediv s m
  have e2 : N - s % m = N - s + m * (s / m) := by omega
  rw [e2, Int.add_mul_emod_self_left]
theorem cc_iff {N s r m : Int} (h0 : 0 ≤ r) (h1 : r < m) : (N - s) % m = (N - r) % m ↔ s % m = r := by
  have e1 := sub_rest N (N - s) m
  have e2 := cc_rest (N := N) h0 h1
  have e3 := sub_rest N s m
  rw [show N - (N - s) = s by omega] at e1
  constructor
  · intro h; rw [← e1, h, e2]
  · intro h; rw [← e3, h]
theorem bits_rev {w : List Int} (h : Bits w) : Bits w.reverse := fun x hx => h x (List.mem_reverse.mp hx)
end

section
abbrev faD (n m r : Int) : Dt := .lst [.int n, .int m, .int r]
theorem fa_0 {n m r : Int} {Q : Dt → Prop} (k : Q (.int n)) : ∃ x, atI [Dt.int n, .int m, .int r] 0 = some x ∧ Q x := ix_get (n := 0) rfl rfl k
theorem fa_1 {n m r : Int} {Q : Dt → Prop} (k : Q (.int m)) : ∃ x, atI [Dt.int n, .int m, .int r] 1 = some x ∧ Q x := ix_get (n := 1) rfl rfl k
theorem fa_2 {n m r : Int} {Q : Dt → Prop} (k : Q (.int r)) : ∃ x, atI [Dt.int n, .int m, .int r] 2 = some x ∧ Q x := ix_get (n := 2) rfl rfl k
theorem led_r23 {n : Nat} {m r : Int} {w : List Int} {s5 s6 s7 s9 s10 s11 s12 : Sl} {D : DEn} (hn : n ≤ 200) (hm : 0 < m) (hw : Bits w) (hl : w.length = n) (k : D.nx [.hand, .d (bk n m r), .d (faD n m r), .d (.int n), .d (.int m), s5, s6, s7, .d (iT w), s9, s10, s11, s12]) :
    S_law_led_right_r23 D [.hand, .d (bk n m r), .d (faD n m r), .d (.int n), .d (.int m), s5, s6, s7, .d (iT w), s9, s10, s11, s12] := by
  have part : ∀ {u : List Int} {Q : Dt → Prop}, Bits u → u.length ≤ 200 → u.length ≠ n → Q (.bl false) → F_SumBook_has [.d (bk n m r), .d (iT u)] Q (fun _ => False) := fun hu h2 h3 q => hasE (.inl rfl) hu h2 hm (by rw [decide_eq_false (by omega), Bool.false_and]; exact q)
  have tl : Bits (w.drop 1) := fun x hx => hw x (List.mem_of_mem_drop hx)
  have cut : cutG (w.map Dt.int) (some 1) none = (w.drop 1).map Dt.int := by rw [cutG_drop (z := 1) (k := 1) rfl, List.map_drop]
  have second : 0 < n → ∀ {Q : Dt → Prop}, Q (.bl false) → F_SumBook_has [.d (bk n m r), .d (.tup (cutG (w.map Dt.int) (some 1) none))] Q (fun _ => False) := fun h0 Q q => by
    rw [cut]
    exact part tl (by rw [List.length_drop]; omega) (by rw [List.length_drop]; omega) q
  rw [S_law_led_right_r23_eq]
  walk_at "wp"
  unfold bk at *
  walk_at "wp"
  simp only [look_SumBook_has, true_and]
  have tail : ∀ {K : Prop}, K → (if 0 < (n : Int) then F_SumBook_has [.d (.ins "SumBook" ["length", "modulus", "rest"] [.int n, .int m, .int r]), .d (.tup (cutG (w.map Dt.int) (some 1) none))] (fun d => dTru d fun k => if k = true then D.rt (.bl false) else K) (fun _ => False) else K) := fun hK => by
    refine iteQ (fun c => second (by omega) ?_) fun _ => hK
    exact hK
  refine iteQ (fun c => ⟨by omega, ?_⟩) fun c => ?_
  · have e : w.map Dt.int ++ [.int 0] = (w ++ [0]).map Dt.int := by rw [List.map_append]; rfl
    rw [e]
    refine part (fun x hx => ?_) (by rw [List.length_append]; show _ + 1 ≤ _; omega) (by rw [List.length_append]; show _ + 1 ≠ _; omega) ?_
    · rcases List.mem_append.mp hx with h | h
      · exact hw x h
      · rw [List.mem_singleton.mp h]; exact .inl rfl
    · exact tail k
  · exact second (by omega) (tail k)
theorem led_r21 {n : Nat} {m r : Int} {w : List Int} {s6 s7 s12 : Sl} {D : DEn} (hn : n ≤ 200) (hm : 0 < m) (hr : 0 ≤ r) (hr2 : r < m) (hw : Bits w) (hl : w.length = n)
    (k : D.nx [.hand, .d (bk n m r), .d (faD n m r), .d (.int n), .d (.int m), .d (bk n m (((n : Int) * (n + 1) / 2 - r) % m)), s6, s7, .d (iT w), .d (bk n m (wsum 0 w % m)), .d (iT (w.map fun x => 1 - x)), .d (.bl (decide (wsum 0 w % m = r))), s12]) :
    S_law_led_right_r21 D [.hand, .d (bk n m r), .d (faD n m r), .d (.int n), .d (.int m), .d (bk n m (((n : Int) * (n + 1) / 2 - r) % m)), s6, s7, .d (iT w), .d (bk n m (wsum 0 w % m)), .d (iT (w.map fun x => 1 - x)), .d (.bl (decide (wsum 0 w % m = r))), s12] := by
  have e1 : decide ((w.length : Int) = n) = true := decide_eq_true (by omega)
  have e2 : decide (((w.map fun x => 1 - x).length : Int) = n) = true := decide_eq_true (by rw [List.length_map]; omega)
  rw [S_law_led_right_r21_eq]
  walk_at "wp"
  unfold bk
  walk_at "wp"
  simp only [look_SumBook_has, true_and]
  refine hasE (.inl rfl) hw (by omega) hm ?_
  rw [e1, Bool.true_and]
  refine dNe_self (shN_bl _).sh ?_
  refine iteQ (fun h => by cases h) fun _ => ?_
  refine hasE (.inl rfl) (cwd_bits hw) (by rw [List.length_map]; omega) hm ?_
  rw [e2, Bool.true_and, wsum_cwd0 hl, decide_eq_decide.mpr (cc_iff hr hr2)]
  refine dNe_self (shN_bl _).sh ?_
  refine iteQ (fun h => by cases h) fun _ => ?_
  refine sum_eqB ?_
  rw [decide_eq_true rfl, decide_eq_true rfl, Bool.true_and, Bool.true_and]
  refine dNe_self (shN_bl _).sh ?_
  refine iteQ (fun h => by cases h) fun _ => ?_
  exact led_r23 hn hm hw hl k
theorem led_r18 {n : Nat} {m r : Int} {w : List Int} {s6 s7 s11 s12 : Sl} {D : DEn} (hn : n ≤ 200) (hm : (n : Int) + 1 ≤ m) (hm2 : m ≤ 1000000) (hr : 0 ≤ r) (hr2 : r < m) (hw : Bits w) (hl : w.length = n)
    (k : ∀ s, D.nx [.hand, .d (bk n m r), .d (faD n m r), .d (.int n), .d (.int m), .d (bk n m (((n : Int) * (n + 1) / 2 - r) % m)), s6, s7, .d (iT w), .d (bk n m (wsum 0 w % m)), .d (iT (w.map fun x => 1 - x)), s, s12]) :
    S_law_led_right_r18 D [.hand, .d (bk n m r), .d (faD n m r), .d (.int n), .d (.int m), .d (bk n m (((n : Int) * (n + 1) / 2 - r) % m)), s6, s7, .d (iT w), .d (bk n m (wsum 0 w % m)), .d (iT (w.map fun x => 1 - x)), s11, s12] := by
  have e2 : decide (((w.map fun x => 1 - x).length : Int) = n) = true := decide_eq_true (by rw [List.length_map]; omega)
  have e3 : decide ((w.reverse.length : Int) = n) = true := decide_eq_true (by rw [List.length_reverse]; omega)
  have fin : S_law_led_right_r20 D [.hand, .d (bk n m r), .d (faD n m r), .d (.int n), .d (.int m), .d (bk n m (((n : Int) * (n + 1) / 2 - r) % m)), s6, s7, .d (iT w), .d (bk n m (wsum 0 w % m)), .d (iT (w.map fun x => 1 - x)), s11, s12] := by
    rw [S_law_led_right_r20_eq]
    walk_at "wp"
    refine law_sum_ok hw (by omega) ?_
    walk_at "wp"
    refine ⟨by omega, fa_2 (eqB_plain rfl rfl ?_)⟩
    rw [dEq_int]
    exact led_r21 hn (by omega) hr hr2 hw hl (k _)
  rw [S_law_led_right_r18_eq]
  walk_at "wp"
  unfold bk at *
  walk_at "wp"
  simp only [look_SumBook_has, look_SumBook_contrary, true_and]
  refine contrary_ok (n := n) (m := m) (r := wsum 0 w % m) (by omega) (by omega) hm hm2 ?_
  unfold bk
  walk_at "wp"
  simp only [look_SumBook_has, look_SumBook_contrary, true_and]
  refine hasE (n := n) (m := m) (.inl rfl) (cwd_bits hw) (by rw [List.length_map]; omega) (by omega) ?_
  rw [e2, Bool.true_and, wsum_cwd0 hl, sub_rest, decide_eq_true rfl]
  walk_at "wp"
  refine eqB_plain rfl rfl ?_
  rw [dEq_int]
  by_cases c : m = (n : Int) + 1
  · rw [decide_eq_true c]
    refine iteQ (fun _ => ?_) fun h => absurd rfl h
    simp only [look_SumBook_turned, true_and]
    refine turned_ok (n := n) (m := m) (r := wsum 0 w % m) (by omega) (by omega) c ?_
    unfold bk
    walk_at "wp"
    simp only [look_SumBook_has, true_and]
    rw [show (w.map Dt.int).reverse = w.reverse.map Dt.int from List.map_reverse.symm]
    refine hasE (n := n) (m := m) (.inr rfl) (bits_rev hw) (by rw [List.length_reverse]; omega) (by omega) ?_
    rw [e3, Bool.true_and, neg_rest, c, rev_rest hl, decide_eq_true rfl]
    walk_at "wp"
    rw [c] at fin
    exact fin
  · rw [decide_eq_false c]
    refine iteQ (fun h => by cases h) fun _ => ?_
    exact fin
end

section
theorem led_b13 {n : Nat} {m r : Int} {s6 s7 s8 s9 s10 s11 s12 : Sl} {D : DEn} (hn : n ≤ 200) (hm : (n : Int) + 1 ≤ m) (hm2 : m ≤ 1000000) (hr : 0 ≤ r) (hr2 : r < m)
    (k : ∀ s8 s9 s10 s11, D.nx [.hand, .d (bk n m r), .d (faD n m r), .d (.int n), .d (.int m), .d (bk n m (((n : Int) * (n + 1) / 2 - r) % m)), s6, s7, s8, s9, s10, s11, s12]) :
    S_law_led_right_b13 D [.hand, .d (bk n m r), .d (faD n m r), .d (.int n), .d (.int m), .d (bk n m (((n : Int) * (n + 1) / 2 - r) % m)), s6, s7, s8, s9, s10, s11, s12] := by
  rw [S_law_led_right_b13_eq]
  walk_at "wp"
  refine law_runny_ok (q := 2) (by decide) (by decide) (by omega) fun w hw => ?_
  have wb := bits_of_wd hw
  have wl := hw.1
  rw [S_law_led_right_r14_eq]
  walk_at "wp"
  refine holdE (w := w) (.inr rfl) wb (by omega) (by omega) hm2 ?_
  rw [wl, S_law_led_right_r15_eq]
  walk_at "wp"
  refine law_sum_ok wb (by omega) ?_
  walk_at "wp"
  refine ⟨by omega, law_is_book_ok ?_⟩
  walk_at "wp"
  unfold bk at *
  walk_at "wp"
  simp only [look_SumBook_has, true_and]
  refine hasE (n := n) (m := m) (r := wsum 0 w % m) (.inl rfl) wb (by omega) (by omega) ?_
  rw [decide_eq_true rfl, Bool.and_true, decide_eq_true (by omega)]
  walk_at "wp"
  rw [S_law_led_right_r17_eq]
  walk_at "wp"
  refine lc_map (e := Dt.int) (fun x => Dt.int (1 - x)) (fun x hx K hK => ?_) (by omega) ?_
  · walk_at "wp"
    exact hK
  · walk_at "wp"
    rw [show w.map (fun x => Dt.int (1 - x)) = (w.map fun x => 1 - x).map Dt.int by rw [List.map_map]; rfl]
    exact led_r18 hn hm hm2 hr hr2 wb wl fun s => k _ _ _ _
theorem led_right_ok {n : Nat} {m r : Int} {Q : Dt → Prop} {E : Xc → Prop} (hn : n ≤ 200) (hm : (n : Int) + 1 ≤ m) (hm2 : m ≤ 1000000) (hr : 0 ≤ r) (hr2 : r < m) (k : Q (.bl true)) : F_law_led_right [.hand, .d (bk n m r), .d (faD n m r)] Q E := by
  have hN := Int.emod_nonneg ((n : Int) * (n + 1) / 2 - r) (show m ≠ 0 by omega)
  have hN2 := Int.emod_lt_of_pos ((n : Int) * (n + 1) / 2 - r) (show 0 < m by omega)
  rw [F_law_led_right_eq]; unfold S_law_led_right
  walk_at "wp"
  refine fa_0 ?_
  rw [S_law_led_right_r2_eq]
  walk_at "wp"
  refine fa_1 ?_
  rw [S_law_led_right_r3_eq]
  walk_at "wp"
  unfold bk
  walk_at "wp"
  simp only [look_SumBook_contrary, true_and]
  refine contrary_ok (n := n) (m := m) (r := r) (by omega) (by omega) hm hm2 ?_
  have loop : ∀ (s6 : Sl) (D : DEn), D.rt = Q → S_law_led_right_r12 D [.hand, .d (bk n m r), .d (faD n m r), .d (.int n), .d (.int m), .d (bk n m (((n : Int) * (n + 1) / 2 - r) % m)), s6, .no, .no, .no, .no, .no, .no] := fun s6 D hD => by
    rw [S_law_led_right_r12_eq]
    walk_at "wp"
    refine ⟨by omega, ?_⟩
    refine dFor_inv (fun _ e => ∃ s7 s8 s9 s10 s11, e = [.hand, .d (bk n m r), .d (faD n m r), .d (.int n), .d (.int m), .d (bk n m (((n : Int) * (n + 1) / 2 - r) % m)), s6, s7, s8, s9, s10, s11, .no]) ⟨_, _, _, _, _, rfl⟩ ?_ ?_
    · rintro i x _ K B hx ⟨s7, s8, s9, s10, s11, rfl⟩ hK
      obtain ⟨_, rfl⟩ := rng_get hx
      walk_at "wp"
      exact led_b13 hn hm hm2 hr hr2 fun _ _ _ _ => hK _ ⟨_, _, _, _, _, rfl⟩
    · rintro _ ⟨s7, s8, s9, s10, s11, rfl⟩
      rw [S_law_led_right_r25_eq]
      walk_at "wp"
      rw [hD]
      exact k
  rw [S_law_led_right_r4_eq]
  walk_at "wp"
  refine ⟨by unfold CMul; omega, by unfold CDiv; omega, fa_2 ?_⟩
  walk_at "wp"
  refine ⟨by omega, law_is_book_ok ?_⟩
  walk_at "wp"
  unfold bk
  walk_at "wp"
  simp only [look_SumBook_contrary, true_and]
  refine contrary_ok (n := n) (m := m) (r := ((n : Int) * (n + 1) / 2 - r) % m) (by omega) (by omega) hm hm2 ?_
  rw [cc_rest hr hr2]
  refine sum_eqB ?_
  rw [decide_eq_true rfl, decide_eq_true rfl, decide_eq_true rfl]
  walk_at "wp"
  rw [S_law_led_right_r6_eq]
  walk_at "wp"
  by_cases c : m = (n : Int) + 1
  · have h0 := Int.emod_nonneg (-r) (show m ≠ 0 by omega)
    have h1 := Int.emod_lt_of_pos (-r) (show 0 < m by omega)
    refine law_turned_ok (n := n) (m := m) (r := r) (by omega) (by omega) c ?_
    rw [S_law_led_right_r7_eq]
    walk_at "wp"
    rw [if_neg fun h => h c]
    refine fa_2 ?_
    walk_at "wp"
    refine ⟨by omega, law_is_book_ok ?_⟩
    walk_at "wp"
    refine law_turned_ok (n := n) (m := m) (r := -r % m) (by omega) (by omega) c ?_
    rw [tt_rest hr hr2]
    refine sum_eqB ?_
    rw [decide_eq_true rfl, decide_eq_true rfl, decide_eq_true rfl]
    walk_at "wp"
    exact loop _ _ rfl
  · refine law_turned_not (n := n) (m := m) (r := r) c ?_
    rw [S_law_led_right_r7_eq]
    walk_at "wp"
    rw [if_pos c]
    refine dNe_self (shN_tup (n := 0) fun x hx => ?_).sh ?_
    · rcases List.mem_cons.mp hx with h | h
      · rw [h]; exact shN_str (by decide +kernel)
      · rw [List.mem_singleton.mp h]; exact shN_bl true
    · walk_at "wp"
      exact loop _ _ rfl
end

section
/-! ### what is refused -/
theorem str_bl_sh {z : Str} {b : Bool} (h : PyData.strOk z = true) : (Dt.tup [.str z, .bl b]).sh := (shN_tup (n := 0) fun x hx => by
  rcases List.mem_cons.mp hx with e | e
  · rw [e]; exact shN_str h
  · rw [List.mem_singleton.mp e]; exact shN_bl b).sh
theorem str_int_sh {z : Str} {b : Int} (h : PyData.strOk z = true) : (Dt.tup [.str z, .int b]).sh := (shN_tup (n := 0) fun x hx => by
  rcases List.mem_cons.mp hx with e | e
  · rw [e]; exact shN_str h
  · rw [List.mem_singleton.mp e]; exact shN_int b).sh
theorem made_refused_ok {n : Nat} {m r : Int} {Q : Dt → Prop} {E : Xc → Prop} (hn : n ≤ 200) (hm : (n : Int) + 1 ≤ m) (hm2 : m ≤ 1000000) (k : Q (.bl true)) : F_law_made_refused [.hand, .d (faD n m r)] Q E := by
  rw [F_law_made_refused_eq]; unfold S_law_made_refused
  walk_at "wp"
  refine law_odd_ok (n := 200) (by decide) fun d1 hk1 hb1 => ?_
  refine fa_0 (fa_1 ?_)
  walk_at "wp"
  refine fun t1 h1 t2 h2 => ix_mem (by show t2 < 7; omega) fun d2 hd2 => ?_
  obtain ⟨hk2, hb2⟩ : d2.kind.isSome = true ∧ inB ((n : Int) + 1) 1000000 d2 = false := by
    simp only [List.mem_cons, List.not_mem_nil, or_false] at hd2
    rcases hd2 with h | h | h | h | h | h | h <;> subst h <;> refine ⟨rfl, ?_⟩ <;> simp [inB] <;> omega
  refine fa_1 ?_
  walk_at "wp"
  refine law_odd_ok (n := m - 1) (by omega) fun d3 hk3 hb3 => ?_
  intro t3 h3
  refine fa_1 (ix_mem (by show t3 < 2; omega) fun d4 _ t4 h4 => ix_mem (by show t4 < 2; omega) fun d5 _ => ?_)
  refine made_num hk1 hb1 (dNe_self (str_bl_sh (by decide +kernel)) ?_)
  walk_at "wp"
  refine fa_0 (ix_mem (by show t3 < 2; omega) fun d6 _ => ?_)
  refine made_mod hn hk2 hb2 (dNe_self (str_bl_sh (by decide +kernel)) ?_)
  walk_at "wp"
  refine fa_0 (fa_1 ?_)
  exact made_rest hn hm hm2 hk3 hb3 (dEq_self (str_bl_sh (by decide +kernel)) k)
theorem held_word {a y : Dt} {i : Int} {Q : Dt → Prop} {E : Xc → Prop} (hk : Kn a) (hb : badWord 2 200 a = some i) (k : Q (.tup [.str "word", .int i])) : F_law_held_refused [.d a, .d y] Q E := by
  rw [F_law_held_refused_eq]; unfold S_law_held_refused
  walk_at "wp"
  refine hold_word hk hb ?_
  refine ⟨true, mt_BadWord_BadWord, ?_⟩
  rw [if_pos rfl]
  walk_at "wp"
  exact ⟨rfl, .int i, rfl, k⟩
theorem held_mod {w : List Int} {y : Dt} {Q : Dt → Prop} {E : Xc → Prop} (hb : Bits w) (hl : w.length ≤ 200) (hk : y.kind.isSome = true) (hy : inB ((w.length : Int) + 1) 1000000 y = false) (k : Q (.tup [.str "modulus", .int 0])) : F_law_held_refused [.d (iT w), .d y] Q E := by
  rw [F_law_held_refused_eq]; unfold S_law_held_refused
  walk_at "wp"
  refine hold_mod hb hl hk hy ?_
  refine ⟨false, mt_BadModulus_BadWord, ?_⟩
  rw [if_neg (by decide)]
  refine ⟨true, mt_BadModulus_BadModulus, ?_⟩
  rw [if_pos rfl]
  walk_at "wp"
  exact k
theorem has_refused_ok {a : Dt} {n m r i : Int} {Q : Dt → Prop} {E : Xc → Prop} (hk : Kn a) (hb : badWord 2 200 a = some i) (k : Q (.tup [.str "word", .int i])) : F_law_has_refused [.d (bk n m r), .d a] Q E := by
  rw [F_law_has_refused_eq]; unfold S_law_has_refused
  walk_at "wp"
  unfold bk
  walk_at "wp"
  simp only [look_SumBook_has, true_and]
  refine has_bad hk hb ?_
  refine ⟨true, mt_BadWord_BadWord, ?_⟩
  rw [if_pos rfl]
  walk_at "wp"
  exact ⟨rfl, .int i, rfl, k⟩
end

section
theorem lcIn_map {α : Type} {f : DGX} {te : DX} {env : List Sl} {K : List Dt → Prop} (e g : α → Dt) : ∀ {xs : List α} {acc : List Dt}, (∀ x ∈ xs, ∀ K1 : Dt → Prop, K1 (g x) → f (e x) env fun env' => te env' K1 (fun _ => False)) →
    acc.length + xs.length ≤ 16777216 → K (acc ++ xs.map g) → lcIn f eYes te env K (xs.map e) acc := by
  intro xs
  induction xs with
  | nil => intro acc _ _ q; rw [List.map_nil, List.append_nil] at q; exact q
  | cons x xs ih =>
    intro acc step hl q
    rw [List.length_cons] at hl
    refine step x List.mem_cons_self (fun y => acc.length < LINE ∧ lcIn f eYes te env K (xs.map e) (acc ++ [y])) ⟨by show acc.length < 16777216; omega, ih (fun y hy => step y (List.mem_cons_of_mem _ hy)) (by rw [List.length_append]; show acc.length + 1 + _ ≤ _; omega) ?_⟩
    rw [List.append_assoc]; exact q
theorem lc2_map {α : Type} {f : DGX} {src1 : DAX} {f1 : DGX} {te : DX} {vs1 : List Nat} {env : List Sl} {Q : Dt → Prop} (e : α → Dt) (h : α → List Dt) : ∀ {xs : List α} {acc : List Dt},
    (∀ x ∈ xs, ∀ (acc : List Dt) (K1 : List Dt → Prop), acc.length ≤ 8000000 → K1 (acc ++ h x) → f (e x) env fun env' => src1 env' (fun ds1 => lcIn f1 eYes te (wipeS env' vs1) K1 ds1 acc) (fun _ => False)) →
    (acc ++ xs.flatMap h).length ≤ 8000000 → Q (.lst (acc ++ xs.flatMap h)) → lcGo2 f eYes src1 f1 eYes te vs1 env Q (xs.map e) acc := by
  intro xs
  induction xs with
  | nil => intro acc _ _ q; rw [List.flatMap_nil, List.append_nil] at q; exact q
  | cons x xs ih =>
    intro acc step hl q
    rw [List.flatMap_cons, ← List.append_assoc] at hl q
    have hl2 := hl
    rw [List.length_append, List.length_append] at hl2
    exact step x List.mem_cons_self acc _ (by omega) (ih (fun y hy => step y (List.mem_cons_of_mem _ hy)) hl q)
theorem all_words_ok {q n : Nat} {Q : Dt → Prop} {E : Xc → Prop} (hq : 0 < q) (hq2 : q < 1000) (hn : n < 1000) (hp : q ^ n ≤ 1000000) (k : Q (.lst ((allW q n).map iT))) : F_all_words [.d (.int q), .d (.int n)] Q E := by
  rw [F_all_words_eq]; unfold S_all_words
  walk_at "wp"
  refine ⟨by omega, ?_⟩
  refine dFor_inv (fun i e => ∃ s3 s4 s5, e = [.d (.int q), .d (.int n), .d (.lst ((allW q i).map iT)), s3, s4, s5]) ⟨_, _, _, rfl⟩ ?_ ?_
  · rintro i x _ K B hx ⟨s3, s4, s5, rfl⟩ hK
    obtain ⟨hi, rfl⟩ := rng_get hx
    have hi : i < n := by simpa using hi
    have hpow : q ^ (i + 1) ≤ q ^ n := Nat.pow_le_pow_right hq (by omega)
    walk_at "wp"
    refine lc2_map iT (fun u => (longer q u).map iT) (fun u hu acc K1 ha h => ?_) ?_ ?_
    · have hl := (mem_allW.mp hu).1
      walk_at "wp"
      refine ⟨by omega, ?_⟩
      refine lcIn_map (e := fun i : Nat => Dt.int (i : Nat)) (fun i : Nat => iT (u ++ [(i : Int)])) (fun x hx K2 h2 => ?_) (by rw [List.length_range]; omega) ?_
      · walk_at "wp"
        refine ⟨by rw [hl]; omega, ?_⟩
        have e2 : iT (u ++ [(x : Int)]) = Dt.tup (u.map Dt.int ++ [Dt.int x]) := by
          show Dt.tup _ = _
          rw [List.map_append]; rfl
        rw [e2] at h2
        exact h2
      · have e : (longer q u).map iT = (List.range q).map fun i : Nat => iT (u ++ [(i : Int)]) := by unfold longer; rw [List.map_map]; rfl
        rw [e] at h
        exact h
    · have e : (allW q i).flatMap (fun u => (longer q u).map iT) = (allW q (i + 1)).map iT := by
        show _ = ((allW q i).flatMap (longer q)).map iT
        rw [List.map_flatMap]
      rw [List.nil_append, e, List.length_map, allW_len]; omega
    · have e : (allW q i).flatMap (fun u => (longer q u).map iT) = (allW q (i + 1)).map iT := by
        show _ = ((allW q i).flatMap (longer q)).map iT
        rw [List.map_flatMap]
      rw [List.nil_append, e]
      walk_at "wp"
      exact hK _ ⟨_, _, _, rfl⟩
  · rintro _ ⟨s3, s4, s5, rfl⟩
    rw [List.length_map, List.length_range]
    walk_at "wp"
    exact k
end

section
/-! ### all words by a comprehension of two clauses -/
/-! ### a generator's loop -/
theorem dGFor_inv {f : DGX} {b : DGt} {nx : List Dt → List Sl → Prop} {xc : List Sl → Xc → Prop} (I : Nat → List Dt → List Sl → Prop) : ∀ {xs acc : List Dt} {env : List Sl}, I 0 acc env →
    (∀ (i : Nat) (x : Dt) (acc : List Dt) (e : List Sl) (K : List Dt → List Sl → Prop), xs[i]? = some x → I i acc e → (∀ a' e', I (i + 1) a' e' → K a' e') → f x e fun e' => b ⟨K, xc⟩ acc e') → (∀ acc e, I xs.length acc e → nx acc e) → dGFor f b ⟨nx, xc⟩ xs acc env := by
  intro xs
  induction xs generalizing I with
  | nil => intro acc env h0 _ fin; exact fin _ _ h0
  | cons x xs ih =>
    intro acc env h0 step fin
    refine step 0 x acc env _ rfl h0 fun a' e' h1 => ?_
    exact ih (fun i => I (i + 1)) h1 (fun i y acc e K e1 => step (i + 1) y acc e K (by simpa using e1)) fin
local macro_rules | `(tactic| walk_at "fl") => `(tactic| try simp only [bk, ftab_SumBook_length, ftab_SumBook_modulus, ftab_SumBook_rest, look_SumBook_length, look_SumBook_modulus, look_SumBook_rest, true_and, Option.some.injEq, exists_eq_left'])
theorem sum_members_ok {n m r : Nat} {Q : Dt → Prop} {E : Xc → Prop} (hn : n ≤ 14) (hm : 0 < m) (k : Q (.lst (((allW 2 n).filter (hasR m r)).map iT))) : F_sum_members [.d (bk n m r)] Q E := by
  have hp : 2 ^ n ≤ 2 ^ 14 := Nat.pow_le_pow_right (by decide) hn
  have h14 : (2 : Nat) ^ 14 ≤ 1000000 := by decide
  rw [F_sum_members_eq]; unfold S_sum_members
  walk_at "wp"
  walk_at "fl"
  walk_at "wp"
  rw [if_neg (by omega)]
  refine all_words_ok (q := 2) (by decide) (by decide) (by omega) (by omega) ?_
  walk_at "wp"
  refine dGFor_inv (fun i acc e => ∃ s, e = [.d (bk n m r), s] ∧ acc = (((allW 2 n).take i).filter (hasR m r)).map iT) ⟨_, rfl, by rw [List.take_zero]; rfl⟩ ?_ ?_
  · rintro i x _ _ K hx ⟨s, rfl, rfl⟩ hK
    obtain ⟨w, hw, rfl⟩ := map_get hx
    have hw2 := mem_allW.mp (List.mem_of_getElem? hw)
    have hb : Bits w := fun x hx => by have := hw2.2 x hx; omega
    have hlen : ((((allW 2 n).take i).filter (hasR m r)).map iT).length < 16777216 := by
      rw [List.length_map]
      have h1 := List.length_filter_le (hasR m r) ((allW 2 n).take i)
      have h2 := List.length_take_le i (allW 2 n)
      have h3 := List.length_take (i := i) (l := allW 2 n)
      rw [allW_len] at h3
      omega
    walk_at "wp"
    refine sum_of_ok hb (by rw [hw2.1]; omega) ?_
    walk_at "fl"
    walk_at "wp"
    refine ⟨by omega, ?_⟩
    have step : ((((allW 2 n).take (i + 1)).filter (hasR m r)).map iT) = if wsum 0 w % (m : Int) = (r : Int) then ((((allW 2 n).take i).filter (hasR m r)).map iT) ++ [iT w] else ((((allW 2 n).take i).filter (hasR m r)).map iT) := by
      rw [take_snoc hw, List.filter_append, List.map_append]
      by_cases c : wsum 0 w % (m : Int) = (r : Int)
      · rw [if_pos c, List.filter_cons_of_pos (by unfold hasR; exact decide_eq_true c)]; rfl
      · rw [if_neg c, List.filter_cons_of_neg (by unfold hasR; rw [decide_eq_true_eq]; exact c)]; simp
    refine iteQ (fun c => ?_) fun c => ?_
    · rw [if_pos c] at step
      exact ⟨by rw [List.length_map] at hlen; exact hlen, hK _ _ ⟨_, rfl, step.symm⟩⟩
    · rw [if_neg c] at step
      exact hK _ _ ⟨_, rfl, step.symm⟩
  · rintro _ _ ⟨s, rfl, rfl⟩
    rw [List.length_map, List.take_length]
    walk_at "wp"
    exact k
end

section
theorem nodup_len {α : Type} [DecidableEq α] : ∀ {xs ys : List α}, xs.Nodup → (∀ x ∈ xs, x ∈ ys) → xs.length ≤ ys.length
  | [], ys, _, _ => Nat.zero_le _
  | x :: xs, ys, h, s => by
    obtain ⟨h1, h2⟩ := List.nodup_cons.mp h
    have hx := s x List.mem_cons_self
    have := nodup_len (xs := xs) (ys := ys.erase x) h2 fun y hy => (List.mem_erase_of_ne (a := y) (b := x) fun e => h1 (by rw [← e]; exact hy)).mpr (s y (List.mem_cons_of_mem _ hy))
    rw [List.length_erase_of_mem hx] at this
    have := List.length_pos_of_mem hx
    rw [List.length_cons]; omega
end

section
/-- rows that rise: one row for one set -/
theorem asc_uniq {α : Type} {lt : α → α → Prop} (irr : ∀ x, ¬ lt x x) (tr : ∀ x y z, lt x y → lt y z → lt x z) : ∀ {xs ys : List α}, xs.Pairwise lt → ys.Pairwise lt → (∀ x, x ∈ xs ↔ x ∈ ys) → xs = ys
  | [], [], _, _, _ => rfl
  | [], y :: _, _, _, h => absurd ((h y).mpr List.mem_cons_self) (by simp)
  | x :: _, [], _, _, h => absurd ((h x).mp List.mem_cons_self) (by simp)
  | x :: xs, y :: ys, hx, hy, h => by
    obtain ⟨hx1, hx2⟩ := List.pairwise_cons.mp hx
    obtain ⟨hy1, hy2⟩ := List.pairwise_cons.mp hy
    have e : x = y := by
      rcases List.mem_cons.mp ((h x).mp List.mem_cons_self) with e | m
      · exact e
      · rcases List.mem_cons.mp ((h y).mpr List.mem_cons_self) with e | m2
        · exact e.symm
        · exact absurd (tr _ _ _ (hx1 y m2) (hy1 x m)) (irr x)
    subst e
    rw [asc_uniq irr tr hx2 hy2 fun z => ?_]
    constructor
    · intro hz
      rcases List.mem_cons.mp ((h z).mp (List.mem_cons_of_mem _ hz)) with e | m
      · exact absurd (e ▸ hx1 z hz) (irr _)
      · exact m
    · intro hz
      rcases List.mem_cons.mp ((h z).mpr (List.mem_cons_of_mem _ hz)) with e | m
      · exact absurd (e ▸ hy1 z hz) (irr _)
      · exact m
theorem rows_uniq {xs ys : List (List Int)} (hx : xs.Pairwise (· < ·)) (hy : ys.Pairwise (· < ·)) (h : ∀ x, x ∈ xs ↔ x ∈ ys) : xs = ys :=
  asc_uniq (fun x => List.lt_irrefl x) (fun _ _ _ => List.lt_trans) hx hy h
theorem rows_nodup {xs : List (List Int)} (hx : xs.Pairwise (· < ·)) : xs.Nodup := List.Pairwise.imp (S := fun a b => a ≠ b) (fun {a b} (h : a < b) e => List.lt_irrefl a (by rw [← e] at h; exact h)) hx
end

section
theorem rowsT_sh (ws : List (List Int)) : (Dt.tup (ws.map iT)).sh := (shN_tup (n := 1) fun x hx => by
  obtain ⟨w, _, rfl⟩ := List.mem_map.mp hx
  exact shN_tup fun y hy => by obtain ⟨i, _, rfl⟩ := List.mem_map.mp hy; exact shN_int i).sh
end

section
theorem allW_lt (q : Nat) : ∀ n, (allW q n).Pairwise (· < ·)
  | 0 => List.pairwise_singleton _ _
  | n + 1 => by
    have same : ∀ {us : List (List Int)}, us.Pairwise (· < ·) → (∀ u ∈ us, u.length = n) → (us.flatMap (longer q)).Pairwise (· < ·) := by
      intro us
      induction us with
      | nil => intro _ _; exact List.Pairwise.nil
      | cons u us ih =>
        intro hp hl
        obtain ⟨h1, h2⟩ := List.pairwise_cons.mp hp
        rw [List.flatMap_cons, List.pairwise_append]
        refine ⟨?_, ih h2 fun v hv => hl v (List.mem_cons_of_mem _ hv), ?_⟩
        · unfold longer
          refine List.pairwise_map.mpr (List.pairwise_lt_range.imp fun {a b} h => ?_)
          exact snocL (.inr ⟨rfl, by omega⟩) rfl
        · intro x hx y hy
          obtain ⟨v, hv, hy⟩ := List.mem_flatMap.mp hy
          obtain ⟨a, _, rfl⟩ := List.mem_map.mp hx
          obtain ⟨b, _, rfl⟩ := List.mem_map.mp hy
          exact snocL (.inl (h1 v hv)) (by rw [hl u List.mem_cons_self, hl v (List.mem_cons_of_mem _ hv)])
    exact same (allW_lt q n) fun u hu => (mem_allW.mp hu).1
where
  snocL {x y : List Int} {a b : Int} (h : x < y ∨ x = y ∧ a < b) (hl : x.length = y.length) : x ++ [a] < y ++ [b] := by
    induction x generalizing y with
    | nil =>
      cases y with
      | nil =>
        rcases h with h | ⟨_, h⟩
        · exact absurd h (List.lt_irrefl _)
        · exact List.Lex.rel h
      | cons c y => cases hl
    | cons c x ih =>
      cases y with
      | nil => cases hl
      | cons d y =>
        rcases h with h | ⟨h, g⟩
        · cases h with
          | rel h => exact List.Lex.rel h
          | cons h => exact List.Lex.cons (ih (.inl h) (by simpa using hl))
        · cases h
          exact List.Lex.cons (ih (.inr ⟨rfl, g⟩) rfl)
end

section
/-! ### books of words: the members in order, or too many -/
theorem sc_ws {f : DGX} {te : DX} {env : List Sl} {K : List (List Int) → Prop} (G : List Int → Prop) (few : ∀ acc : List (List Int), (∀ x ∈ acc, G x) → Few 3999 acc) : ∀ {ys acc : List (List Int)}, (∀ y ∈ ys, G y ∧ ∀ K1 : Dt → Prop, K1 (iT y) → f (iT y) env fun env' => te env' K1 (fun _ => False)) → (∀ x ∈ acc, G x) → K (acc ++ ys) → scGoG f eYes te env K (ys.map iT) acc := by
  intro ys
  induction ys with
  | nil => intro acc _ _ k; rw [List.append_nil] at k; exact k
  | cons y ys ih =>
    intro acc h ha k
    obtain ⟨gy, hy⟩ := h y List.mem_cons_self
    refine hy _ ⟨y, rfl, few acc ha, ih (fun z hz => h z (List.mem_cons_of_mem _ hz)) (fun x hx => ?_) (by rw [List.append_assoc]; exact k)⟩
    rcases List.mem_append.mp hx with hx | hx
    · exact ha x hx
    · rw [List.mem_singleton.mp hx]; exact gy
theorem is_word2 {n : Nat} {w : List Int} {Q : Dt → Prop} {E : Xc → Prop} (hw : Bits w) (hn : w.length = n) (hl : n ≤ 1000) (k : Q (.bl true)) : F_is_word [.d (.int 2), .d (.int n), .d (iT w)] Q E := by
  rw [F_is_word_eq]; unfold S_is_word
  walk_at "wp"
  rw [if_neg fun c => c (by rw [hn])]
  refine lc_map (e := Dt.int) (fun _ => Dt.bl true) (fun x hx K hK => ?_) (by omega) ?_
  · have := hw x hx
    walk_at "wp"
    refine is_whole_ok rfl ?_
    rw [inB_int (by omega) (by omega)]
    exact hK
  · unfold dAll
    refine ⟨w.map fun _ => true, by rw [List.map_map]; rfl, ?_⟩
    rw [show (w.map fun _ => true).all id = true by simp]
    exact k
theorem check_words2 {n : Nat} {ws : List (List Int)} {Q : Dt → Prop} {E : Xc → Prop} (hk : ∀ w ∈ ws, w.length = n ∧ Bits w) (hn : n ≤ 1000) (hl : ws.length ≤ 3900)
    (k : ∀ us : List (List Int), us.Pairwise (· < ·) → (∀ x, x ∈ us ↔ x ∈ ws) → us.length ≤ 64 → Q (.tup (us.map iT)))
    (k2 : ∀ us : List (List Int), us.Pairwise (· < ·) → (∀ x, x ∈ us ↔ x ∈ ws) → 64 < us.length → E ⟨"BadBook", [("what", .str "many")]⟩) : F_check_words [.d (.int 2), .d (.int n), .d (rowsD ws)] Q E := by
  rw [F_check_words_eq]; unfold S_check_words
  walk_at "wp"
  refine dFor_inv (fun i e => ∃ s3, e = [.d (.int 2), .d (.int n), .d (rowsD ws), s3, .no]) ⟨_, rfl⟩ ?_ ?_
  · rintro i x _ K B hx ⟨s3, rfl⟩ hK
    obtain ⟨v, hv, rfl⟩ := map_get hx
    obtain ⟨v1, v2⟩ := hk v (List.mem_of_getElem? hv)
    walk_at "wp"
    refine is_word2 v2 v1 hn ?_
    walk_at "wp"
    exact hK _ ⟨_, rfl⟩
  · rintro _ ⟨s3, rfl⟩
    walk_at "wp"
    have fw : ∀ acc : List (List Int), (∀ x ∈ acc, x ∈ ws) → ∀ us : List (List Int), us.Nodup → (∀ x ∈ us, x ∈ acc) → us.length ≤ 3900 := fun acc h us nd hs => Nat.le_trans (nodup_len nd fun x hx => h x (hs x hx)) hl
    refine sc_ws (fun x => x ∈ ws) (fun acc h us nd hs => by have := fw acc h us nd hs; omega) (fun y hy => ⟨hy, fun K1 h1 => ?_⟩) (fun _ h => by cases h) ?_
    · walk_at "wp"
      exact h1
    · rw [List.nil_append]
      refine ⟨fun us nd hs => by have := fw ws (fun _ h => h) us nd hs; omega, ?_, fun us up um => ?_⟩
      · by_cases c : n = 0
        · exact .inr fun x hx => List.length_eq_zero_iff.mp ((hk x hx).1.trans c)
        · refine .inl fun x hx e => c ?_
          rw [← (hk x hx).1, e]; rfl
      · walk_at "wp"
        refine iteQ (fun c => k2 us up um (by omega)) fun c => k us up um (by omega)
/-- the book of letters 0 and 1 -/
def bb (n : Nat) (ws : List (List Int)) : Dt := .ins "Book" ["letters", "length", "words", "size"] [.int 2, .int n, .tup (ws.map iT), .int ws.length]
theorem book2 {n : Nat} {ws : List (List Int)} {Q : Dt → Prop} {E : Xc → Prop} (hk : ∀ w ∈ ws, w.length = n ∧ Bits w) (hn : n ≤ 24) (hl : ws.length ≤ 3900)
    (k : ∀ us : List (List Int), us.Pairwise (· < ·) → (∀ x, x ∈ us ↔ x ∈ ws) → us.length ≤ 64 → Q (bb n us))
    (k2 : ∀ us : List (List Int), us.Pairwise (· < ·) → (∀ x, x ∈ us ↔ x ∈ ws) → 64 < us.length → E ⟨"BadBook", [("what", .str "many")]⟩) : F_Book___init [.d (.int 2), .d (.int n), .d (rowsD ws)] Q E := by
  rw [F_Book___init_eq]; unfold S_Book___init
  walk_at "wp"
  refine is_whole_ok rfl ?_
  rw [inB_int (by omega) (by omega)]
  walk_at "wp"
  refine is_whole_ok rfl ?_
  rw [inB_int (by omega) (by omega)]
  walk_at "wp"
  simp only [ftab_Book_letters, ftab_Book_length, ftab_Book_words, ftab_Book_size, putN_Book_letters, putN_Book_length, putN_Book_words, putN_Book_size, putD_Book_letters, putD_Book_length, putD_Book_words, putD_Book_size, List.getElem?_cons_zero, List.set_cons_zero, true_and, List.length_nil, List.length_cons]
  refine ⟨by decide, by decide, ?_⟩
  refine check_words2 hk (by omega) hl (fun us up um ul => ?_) k2
  refine ⟨by decide, .tup (us.map iT), rfl, by decide, ?_⟩
  rw [List.length_map]
  exact k us up um ul
theorem book_eq2 {n : Nat} {K L : List (List Int)} {Q : Dt → Prop} {E : Xc → Prop} (k : Q (.bl (decide (K = L)))) : F_Book___eq [.d (bb n K), .d (bb n L)] Q E := by
  rw [F_Book___eq_eq]; unfold S_Book___eq
  walk_at "wp"
  rw [eIsI_W]
  unfold bb
  walk_at "wp"
  refine ⟨true, tabI_Book_Book, ?_⟩
  refine iteQ (fun _ => ?_) fun h => absurd rfl h
  refine ⟨ftab_Book_letters, .int 2, rfl, ftab_Book_letters, .int 2, rfl, dEq_self (shN_int _).sh ?_⟩
  refine iteQ (fun _ => ?_) fun h => absurd rfl h
  refine ⟨ftab_Book_length, .int n, rfl, ftab_Book_length, .int n, rfl, dEq_self (shN_int _).sh ?_⟩
  refine iteQ (fun _ => ?_) fun h => absurd rfl h
  exact ⟨ftab_Book_words, .tup (K.map iT), rfl, ftab_Book_words, .tup (L.map iT), rfl, eqE_T.tup.dEq k⟩
theorem book_eqB {n : Nat} {K L : List (List Int)} {Q : Dt → Prop} (h : K = L) (k : Q (.bl true)) : dEqB tabE tabC (bb n K) (bb n L) Q :=
  eqB_ins tabE_Book tabC_Book (book_eq2 ⟨_, rfl, by rw [decide_eq_true h]; exact k⟩)
theorem book_contrary {n : Nat} {ws : List (List Int)} {Q : Dt → Prop} {E : Xc → Prop} (hk : ∀ w ∈ ws, w.length = n ∧ Bits w) (hn : n ≤ 24) (hl : ws.length ≤ 64)
    (k : ∀ us : List (List Int), us.Pairwise (· < ·) → (∀ x, x ∈ us ↔ x ∈ ws.map fun w => w.map fun x => 1 - x) → Q (bb n us)) : F_Book_contrary [.d (bb n ws)] Q E := by
  rw [F_Book_contrary_eq]; unfold S_Book_contrary
  walk_at "wp"
  unfold bb
  walk_at "wp"
  refine ⟨ftab_Book_words, .tup (ws.map iT), rfl, ?_⟩
  refine lc_map (e := iT) (fun w => iT (w.map fun x => 1 - x)) (fun w hw K hK => ?_) (by omega) ?_
  · walk_at "wp"
    refine lc_map (e := Dt.int) (fun x => Dt.int (1 - x)) (fun x hx K hK => ?_) (by have := (hk w hw).1; omega) ?_
    · walk_at "wp"
      refine ⟨ftab_Book_letters, .int 2, rfl, ?_⟩
      exact hK
    · walk_at "wp"
      rw [show w.map (fun x => Dt.int (1 - x)) = (w.map fun x => 1 - x).map Dt.int by rw [List.map_map]; rfl]
      exact hK
  · walk_at "wp"
    refine ⟨ftab_Book_letters, .int 2, rfl, ftab_Book_length, .int n, rfl, ?_⟩
    rw [show ws.map (fun w => iT (w.map fun x => 1 - x)) = (ws.map fun w => w.map fun x => 1 - x).map iT by rw [List.map_map]; rfl]
    refine book2 (fun w hw => ?_) hn (by rw [List.length_map]; omega) (fun us up um ul => k us up um) fun us up um ul => ?_
    · obtain ⟨v, hv, rfl⟩ := List.mem_map.mp hw
      exact ⟨by rw [List.length_map]; exact (hk v hv).1, cwd_bits (hk v hv).2⟩
    · have := nodup_len (rows_nodup up) fun x hx => (um x).mp hx
      rw [List.length_map] at this
      omega
theorem book_turned {n : Nat} {ws : List (List Int)} {Q : Dt → Prop} {E : Xc → Prop} (hk : ∀ w ∈ ws, w.length = n ∧ Bits w) (hn : n ≤ 24) (hl : ws.length ≤ 64)
    (k : ∀ us : List (List Int), us.Pairwise (· < ·) → (∀ x, x ∈ us ↔ x ∈ ws.map List.reverse) → Q (bb n us)) : F_Book_turned [.d (bb n ws)] Q E := by
  rw [F_Book_turned_eq]; unfold S_Book_turned
  walk_at "wp"
  unfold bb
  walk_at "wp"
  refine ⟨ftab_Book_letters, .int 2, rfl, ftab_Book_length, .int n, rfl, ftab_Book_words, .tup (ws.map iT), rfl, ?_⟩
  refine lc_map (e := iT) (fun w => iT w.reverse) (fun w hw K hK => ?_) (by omega) ?_
  · walk_at "wp"
    rw [show (w.map Dt.int).reverse = w.reverse.map Dt.int from List.map_reverse.symm]
    exact hK
  · rw [show ws.map (fun w => iT w.reverse) = (ws.map List.reverse).map iT by rw [List.map_map]; rfl]
    refine book2 (fun w hw => ?_) hn (by rw [List.length_map]; omega) (fun us up um ul => k us up um) fun us up um ul => ?_
    · obtain ⟨v, hv, rfl⟩ := List.mem_map.mp hw
      exact ⟨by rw [List.length_reverse]; exact (hk v hv).1, bits_rev (hk v hv).2⟩
    · have := nodup_len (rows_nodup up) fun x hx => (um x).mp hx
      rw [List.length_map] at this
      omega
end

section
/-! ### the members of a sum book of at most 8 letters: at most 64 -/
theorem cnt_0 (m r : Nat) : cnt m 0 r = if r = 0 then 1 else 0 := rfl
theorem cnt_s (m n r : Nat) : cnt m (n + 1) r = cnt m n r + cnt m n ((r + m - (n + 1) % m) % m) := rfl
theorem back_mod {r m k : Nat} (hr : r < m) (hk : k < m) : (r + m - k % m) % m = if k ≤ r then r - k else r + m - k := by
  rw [Nat.mod_eq_of_lt hk]
  by_cases c : k ≤ r
  · rw [if_pos c, show r + m - k = r - k + m by omega, Nat.add_mod_right, Nat.mod_eq_of_lt (by omega)]
  · rw [if_neg c, Nat.mod_eq_of_lt (by omega)]
theorem cnt_two {m r : Nat} (hm : 4 ≤ m) (hr : r < m) : cnt m 2 r ≤ 1 := by
  rw [cnt_s, cnt_s, cnt_s, cnt_0, cnt_0, cnt_0, cnt_0, back_mod (k := 0 + 1) hr (by omega), back_mod (k := 1 + 1) hr (by omega)]
  rw [back_mod (k := 0 + 1) (r := if 1 + 1 ≤ r then r - (1 + 1) else r + m - (1 + 1)) (by split <;> omega) (by omega)]
  repeat' split
  all_goals omega
theorem cnt_few {m : Nat} (hm : 4 ≤ m) : ∀ (k r : Nat), r < m → cnt m (k + 2) r ≤ 2 ^ k
  | 0, r, hr => cnt_two hm hr
  | k + 1, r, hr => by
    rw [cnt_s]
    have a := cnt_few hm k r hr
    have b := cnt_few hm k ((r + m - (k + 2 + 1) % m) % m) (Nat.mod_lt _ (by omega))
    rw [Nat.pow_succ]
    omega
def Ws (n m r : Nat) : List (List Int) := (allW 2 n).filter (hasR m r)
theorem Ws_len {n m r : Nat} (hm : 0 < m) (hr : r < m) : (Ws n m r).length = cnt m n r := by
  unfold Ws
  rw [← List.countP_eq_length_filter]
  exact count_words hm n r hr
theorem Ws_few {n m r : Nat} (hn : n ≤ 8) (hm : n + 1 ≤ m) (hr : r < m) : (Ws n m r).length ≤ 64 := by
  rw [Ws_len (by omega) hr]
  by_cases c : n ≤ 6
  · have h := cnt_le m n r
    have := Nat.pow_le_pow_right (n := 2) (by decide) c
    omega
  · obtain ⟨k, rfl⟩ : ∃ k, n = k + 2 := ⟨n - 2, by omega⟩
    have h := cnt_few (m := m) (by omega) k r hr
    have := Nat.pow_le_pow_right (n := 2) (by decide) (show k ≤ 6 by omega)
    omega
theorem Ws_lt (n m r : Nat) : (Ws n m r).Pairwise (· < ·) := (allW_lt 2 n).filter _
theorem mem_Ws {n m r : Nat} {x : List Int} : x ∈ Ws n m r ↔ x.length = n ∧ Bits x ∧ wsum 0 x % (m : Int) = r := by
  unfold Ws
  rw [List.mem_filter, bits_allW, and_assoc]
  unfold hasR
  rw [decide_eq_true_eq]
theorem Ws_kind {n m r : Nat} : ∀ w ∈ Ws n m r, w.length = n ∧ Bits w := fun w hw => let h := mem_Ws.mp hw; ⟨h.1, h.2.1⟩
theorem sumW_Ws {n m r : Nat} (hr : r < m) : sumW n m r = Ws n m r := by
  unfold sumW Ws
  refine List.filter_congr fun x _ => ?_
  unfold hasR
  rw [decide_eq_decide, ← Int.emod_eq_emod_iff_emod_sub_eq_zero, Int.emod_eq_of_lt (by omega) (by omega : (r : Int) < m)]
theorem book_sums_ok {n m r : Nat} {Q : Dt → Prop} {E : Xc → Prop} (hn : n ≤ 8) (hm : n + 1 ≤ m) (hr : r < m) (k : Q (bb n (Ws n m r))) : F_book_of_sums [.d (bk n m r)] Q E := by
  rw [F_book_of_sums_eq]; unfold S_book_of_sums
  walk_at "wp"
  simp only [eCallG_W]
  walk_at "wp"
  unfold bk
  walk_at "wp"
  refine ⟨ftab_SumBook_length, .int n, rfl, ?_⟩
  refine sum_members_ok (n := n) (m := m) (r := r) (by omega) (by omega) ?_
  refine book2 (n := n) (ws := Ws n m r) Ws_kind (by omega) (by have := Ws_few hn hm hr; omega) (fun us up um ul => ?_) fun us up um ul => ?_
  · rw [rows_uniq up (Ws_lt n m r) um]
    exact k
  · have := nodup_len (rows_nodup up) fun x hx => (um x).mp hx
    have := Ws_few hn hm hr
    omega
/-! ### the contrary and the turned one, member by member -/
def cr (n m r : Nat) : Nat := (((n : Int) * (n + 1) / 2 - r) % m).toNat
def tr (m r : Nat) : Nat := (-(r : Int) % m).toNat
theorem cr_int {n m r : Nat} (hm : 0 < m) : ((cr n m r : Nat) : Int) = ((n : Int) * (n + 1) / 2 - r) % m := by
  unfold cr
  rw [Int.toNat_of_nonneg (Int.emod_nonneg _ (by omega))]
theorem tr_int {m r : Nat} (hm : 0 < m) : ((tr m r : Nat) : Int) = -(r : Int) % m := by
  unfold tr
  rw [Int.toNat_of_nonneg (Int.emod_nonneg _ (by omega))]
theorem cwd_cwd (w : List Int) : (w.map fun x => 1 - x).map (fun x => 1 - x) = w := by
  rw [List.map_map]
  conv => rhs; rw [← List.map_id w]
  exact List.map_congr_left fun x _ => by show 1 - (1 - x) = x; omega
theorem Ws_contrary {n m r : Nat} (hr : r < m) (x : List Int) : x ∈ Ws n m (cr n m r) ↔ x ∈ (Ws n m r).map fun w => w.map fun x => 1 - x := by
  rw [mem_Ws, cr_int (by omega), List.mem_map]
  constructor
  · rintro ⟨h1, h2, h3⟩
    refine ⟨x.map fun x => 1 - x, mem_Ws.mpr ⟨by rw [List.length_map]; exact h1, cwd_bits h2, ?_⟩, cwd_cwd x⟩
    have e := wsum_cwd0 h1
    rw [e, ← sub_rest, h3]
    exact cc_rest (by omega) (by omega)
  · rintro ⟨w, hw, rfl⟩
    obtain ⟨h1, h2, h3⟩ := mem_Ws.mp hw
    refine ⟨by rw [List.length_map]; exact h1, cwd_bits h2, ?_⟩
    rw [wsum_cwd0 h1]
    exact (cc_iff (by omega) (by omega)).mpr h3
theorem Ws_turned {n r : Nat} (hr : r < n + 1) (x : List Int) : x ∈ Ws n (n + 1) (tr (n + 1) r) ↔ x ∈ (Ws n (n + 1) r).map List.reverse := by
  rw [mem_Ws, tr_int (by omega), List.mem_map]
  constructor
  · rintro ⟨h1, h2, h3⟩
    refine ⟨x.reverse, mem_Ws.mpr ⟨by rw [List.length_reverse]; exact h1, bits_rev h2, ?_⟩, List.reverse_reverse x⟩
    rw [show ((n + 1 : Nat) : Int) = (n : Int) + 1 by omega] at h3 ⊢
    rw [rev_rest h1, ← neg_rest, h3]
    exact tt_rest (by omega) (by omega)
  · rintro ⟨w, hw, rfl⟩
    obtain ⟨h1, h2, h3⟩ := mem_Ws.mp hw
    refine ⟨by rw [List.length_reverse]; exact h1, bits_rev h2, ?_⟩
    rw [show ((n + 1 : Nat) : Int) = (n : Int) + 1 by omega] at h3 ⊢
    rw [rev_rest h1, ← neg_rest, h3]
end

section
/-! ### the plain books -/
theorem sorted_ws {n : Nat} {ws L : List (List Int)} {Q : Dt → Prop} (hl : ∀ x ∈ ws, x.length = n) (nd : ws.Nodup) (lt : L.Pairwise (· < ·)) (lm : ∀ x, x ∈ L ↔ x ∈ ws) (k : Q (rowsD L)) : dSortedW [rowsD ws] Q := by
  by_cases c : n = 0
  · subst c
    have h1 := few_one nd fun x hx => List.length_eq_zero_iff.mp (hl x hx)
    refine .inr ⟨ws, rfl, h1, ?_⟩
    have : ws = L := by
      refine rows_uniq ?_ lt fun x => (lm x).symm
      match ws, h1 with
      | [], _ => exact .nil
      | [x], _ => exact List.pairwise_singleton _ _
    rw [this]
    exact k
  · refine .inl (.inr ⟨ws, rfl, fun x hx e => c ?_, fun us pm pw => ?_⟩)
    · rw [← hl x hx, e]; rfl
    · rw [rows_uniq (strict_rows pw (pm.nodup_iff.mpr nd)) lt fun x => pm.mem_iff.trans (lm x).symm]
      exact k
theorem nodup_inv {f : List Int → List Int} (hf : ∀ x, f (f x) = x) {ws : List (List Int)} (h : ws.Nodup) : (ws.map f).Nodup := by
  unfold List.Nodup
  rw [List.pairwise_map]
  exact List.Pairwise.imp (fun {a b} ne e => ne (by rw [← hf a, ← hf b, e])) h
theorem plain_right_ok {n m r : Nat} {Q : Dt → Prop} {E : Xc → Prop} (hn : n ≤ 8) (hm : n + 1 ≤ m) (hm2 : m ≤ 1000000) (hr : r < m) (k : Q (.bl true)) : F_law_plain_right [.d (bk n m r), .d (faD n m r)] Q E := by
  have hp : 2 ^ n ≤ 1000000 := Nat.le_trans (Nat.pow_le_pow_right (by decide) hn) (by decide)
  have hl := Ws_few hn hm hr
  have hk := Ws_kind (n := n) (m := m) (r := r)
  have nd := rows_nodup (Ws_lt n m r)
  have hcr : cr n m r < m := by
    have := Int.emod_lt_of_pos ((n : Int) * (n + 1) / 2 - r) (show (0 : Int) < m by omega)
    have := cr_int (n := n) (m := m) (r := r) (by omega)
    omega
  have htr : tr m r < m := by
    have := Int.emod_lt_of_pos (-(r : Int)) (show (0 : Int) < m by omega)
    have := tr_int (m := m) (r := r) (by omega)
    omega
  rw [F_law_plain_right_eq]; unfold S_law_plain_right
  walk_at "wp"
  refine book_sums_ok hn hm hr ?_
  rw [S_law_plain_right_r2_eq]
  walk_at "wp"
  refine fa_0 (fa_1 (fa_2 ?_))
  refine law_sum_words_ok (by omega) hp (by omega) ?_
  rw [sumW_Ws hr, S_law_plain_right_r3_eq]
  walk_at "wp"
  have r11 : n + 1 = m → ∀ (D : DEn) (s4 s5 : Sl), D.rt = Q → S_law_plain_right_r11 D [.d (bk n m r), .d (faD n m r), .d (bb n (Ws n m r)), .d (rowsD (Ws n m r)), s4, s5] := fun em D s4 s5 hD => by
    subst em
    rw [S_law_plain_right_r11_eq]
    walk_at "wp"
    unfold bk
    walk_at "wp"
    simp only [look_SumBook_turned, true_and]
    refine turned_ok (n := n) (m := ((n + 1 : Nat) : Int)) (r := r) (by omega) (by omega) (by omega) ?_
    rw [← tr_int (by omega)]
    refine book_sums_ok hn hm htr ?_
    unfold bb
    walk_at "wp"
    simp only [look_Book_turned, true_and]
    refine book_turned (n := n) (ws := Ws n (n + 1) r) hk (by omega) hl fun us up um => ?_
    have eu : Ws n (n + 1) (tr (n + 1) r) = us := rows_uniq (Ws_lt _ _ _) up fun x => (Ws_turned hr x).trans (um x).symm
    refine book_eqB eu ?_
    walk_at "wp"
    refine book_turned (n := n) (ws := Ws n (n + 1) r) hk (by omega) hl fun us2 up2 um2 => ?_
    have eu2 : us2 = us := rows_uniq up2 up fun x => (um2 x).trans (um x).symm
    subst eu2
    unfold bb
    walk_at "wp"
    refine ⟨ftab_Book_words, .tup (us2.map iT), rfl, ?_⟩
    refine lc_map (e := iT) (fun w => iT w.reverse) (fun w hw K hK => ?_) (by omega) ?_
    · walk_at "wp"
      rw [show (w.map Dt.int).reverse = w.reverse.map Dt.int from List.map_reverse.symm]
      exact hK
    · rw [show (Ws n (n + 1) r).map (fun w => iT w.reverse) = ((Ws n (n + 1) r).map List.reverse).map iT by rw [List.map_map]; rfl]
      refine sorted_ws (n := n) (fun x hx => ?_) (nodup_inv List.reverse_reverse nd) up um ?_
      · obtain ⟨v, hv, rfl⟩ := List.mem_map.mp hx
        rw [List.length_reverse]; exact (hk v hv).1
      · refine eqB_plain rfl rfl (dEq_self (rowsT_sh us2) ?_)
        rw [hD]
        exact k
  have r7 : ∀ (D : DEn), D.rt = Q → S_law_plain_right_r7 D [.d (bk n m r), .d (faD n m r), .d (bb n (Ws n m r)), .d (rowsD (Ws n m r)), .no, .no] := fun D hD => by
    rw [S_law_plain_right_r7_eq]
    walk_at "wp"
    unfold bb
    walk_at "wp"
    simp only [look_Book_contrary, true_and]
    refine book_contrary (n := n) (ws := Ws n m r) hk (by omega) hl fun us up um => ?_
    unfold bb
    walk_at "wp"
    refine ⟨ftab_Book_words, .tup (us.map iT), rfl, ?_⟩
    refine lc_map (e := iT) (fun w => iT (w.map fun x => 1 - x)) (fun w hw K hK => ?_) (by omega) ?_
    · walk_at "wp"
      refine lc_map (e := Dt.int) (fun x => Dt.int (1 - x)) (fun x hx K hK => ?_) (by have := (hk w hw).1; omega) ?_
      · walk_at "wp"
        exact hK
      · walk_at "wp"
        rw [show w.map (fun x => Dt.int (1 - x)) = (w.map fun x => 1 - x).map Dt.int by rw [List.map_map]; rfl]
        exact hK
    · walk_at "wp"
      rw [show (Ws n m r).map (fun w => iT (w.map fun x => 1 - x)) = ((Ws n m r).map fun w => w.map fun x => 1 - x).map iT by rw [List.map_map]; rfl]
      refine sorted_ws (n := n) (fun x hx => ?_) (nodup_inv cwd_cwd nd) up um ?_
      · obtain ⟨v, hv, rfl⟩ := List.mem_map.mp hx
        rw [List.length_map]; exact (hk v hv).1
      · walk_at "wp"
        refine dNe_self (rowsT_sh us) ?_
        walk_at "wp"
        rw [S_law_plain_right_r9_eq]
        walk_at "wp"
        refine fa_1 (fa_0 ?_)
        walk_at "wp"
        refine iteQ (fun _ => by rw [hD]; exact k) fun c => ?_
        exact r11 (by omega) _ _ _ hD
  unfold bb
  walk_at "wp"
  refine ⟨ftab_Book_letters, .int 2, rfl, dNe_self (shN_int _).sh (iteQ (fun h => by cases h) fun _ => ?_)⟩
  refine ⟨ftab_Book_length, .int n, rfl, fa_0 (dNe_self (shN_int _).sh (iteQ (fun h => by cases h) fun _ => ?_))⟩
  refine ⟨ftab_Book_words, .tup ((Ws n m r).map iT), rfl, dNe_self (rowsT_sh _) (iteQ (fun h => by cases h) fun _ => ?_)⟩
  rw [S_law_plain_right_r5_eq]
  walk_at "wp"
  unfold bk
  walk_at "wp"
  simp only [look_SumBook_contrary, true_and]
  refine contrary_ok (n := n) (m := m) (r := r) (by omega) (by omega) (by omega) (by omega) ?_
  rw [← cr_int (by omega)]
  refine book_sums_ok hn hm hcr ?_
  simp only [look_Book_contrary, true_and]
  refine book_contrary (n := n) (ws := Ws n m r) hk (by omega) hl fun us up um => ?_
  refine book_eqB (rows_uniq (Ws_lt _ _ _) up fun x => (Ws_contrary hr x).trans (um x).symm) ?_
  walk_at "wp"
  exact r7 _ rfl
end

section
/-! ### books with too many members -/
theorem law_power2 {n : Nat} {Q : Dt → Prop} {E : Xc → Prop} (hn : n ≤ 1000) (k : Q (.int ((2 ^ n : Nat) : Int))) : F_law_power [.d (.int 2), .d (.int n)] Q E := by
  rw [F_law_power_eq]; unfold S_law_power
  walk_at "wp"
  refine ⟨by omega, ?_⟩
  refine dFor_inv (fun i e => ∃ s, e = [.d (.int 2), .d (.int n), .d (.int ((2 ^ i : Nat) : Int)), s]) ⟨_, rfl⟩ ?_ ?_
  · rintro i x _ K B hx ⟨s, rfl⟩ hK
    obtain ⟨hi, rfl⟩ := rng_get hx
    walk_at "wp"
    refine ⟨by unfold CMul; omega, hK _ ⟨.d (.int (i : Nat)), ?_⟩⟩
    rw [Nat.pow_succ, Int.natCast_mul]; rfl
  · rintro _ ⟨s, rfl⟩
    rw [List.length_map, List.length_range, Int.toNat_natCast]
    walk_at "wp"
    exact k
theorem power2 {n : Nat} {Q : Dt → Prop} {E : Xc → Prop} (hn : n ≤ 1000) (k : Q (.int ((2 ^ n : Nat) : Int))) : F_power_of [.d (.int 2), .d (.int n)] Q E := by
  rw [F_power_of_eq]; unfold S_power_of
  walk_at "wp"
  refine ⟨by omega, ?_⟩
  refine dFor_inv (fun i e => ∃ s, e = [.d (.int 2), .d (.int n), .d (.int ((2 ^ i : Nat) : Int)), s]) ⟨_, rfl⟩ ?_ ?_
  · rintro i x _ K B hx ⟨s, rfl⟩ hK
    obtain ⟨hi, rfl⟩ := rng_get hx
    walk_at "wp"
    refine ⟨by unfold CMul; omega, hK _ ⟨.d (.int (i : Nat)), ?_⟩⟩
    rw [Nat.pow_succ, Int.natCast_mul]; rfl
  · rintro _ ⟨s, rfl⟩
    rw [List.length_map, List.length_range, Int.toNat_natCast]
    walk_at "wp"
    exact k
local macro_rules | `(tactic| walk_at "fl") => `(tactic| try simp only [bk, ftab_SumBook_length, ftab_SumBook_modulus, ftab_SumBook_rest, look_SumBook_length, look_SumBook_modulus, look_SumBook_rest, true_and, Option.some.injEq, exists_eq_left'])
theorem sum_members_many {n m r : Nat} {Q : Dt → Prop} {E : Xc → Prop} (hn : 14 < n) (hn2 : n ≤ 1000) (k : E ⟨"TooMany", [("count", .int ((2 ^ n : Nat) : Int))]⟩) : F_sum_members [.d (bk n m r)] Q E := by
  rw [F_sum_members_eq]; unfold S_sum_members
  walk_at "wp"
  walk_at "fl"
  walk_at "wp"
  rw [if_pos (by omega)]
  refine power2 hn2 ?_
  exact k
theorem great_many {n r : Nat} {Q : Dt → Prop} {E : Xc → Prop} (hn : 14 < n) (hn2 : n ≤ 200) (hr : r ≤ n) (k : Q (.int ((2 ^ n : Nat) : Int))) : F_law_great_refused [.d (.int n), .d (.int r)] Q E := by
  rw [F_law_great_refused_eq]; unfold S_law_great_refused
  walk_at "wp"
  refine make_ok (n := n) (m := (n : Int) + 1) (r := r) (by omega) (by omega) (by omega) (by omega) (by omega) (by omega) ?_
  rw [F_book_of_sums_eq]; unfold S_book_of_sums
  walk_at "wp"
  simp only [eCallG_W]
  walk_at "wp"
  unfold bk
  walk_at "wp"
  refine ⟨ftab_SumBook_length, .int n, rfl, ?_⟩
  refine sum_members_many (n := n) (m := n + 1) (r := r) hn (by omega) ?_
  refine ⟨rfl, false, mt_TooMany_BadBook, ?_⟩
  rw [if_neg (by decide)]
  refine ⟨true, mt_TooMany_TooMany, ?_⟩
  rw [if_pos rfl]
  walk_at "wp"
  exact ⟨rfl, .int ((2 ^ n : Nat) : Int), rfl, k⟩
theorem great_cnt : ∀ n, n = 10 ∨ n = 11 ∨ n = 12 → ∀ r, r < n + 1 → 64 < cnt (n + 1) n r ∧ cnt (n + 1) n r ≤ 3900 := by
  have h : ((List.range 11).all fun r => Nat.blt 64 (cnt 11 10 r)) = true ∧ ((List.range 12).all fun r => Nat.blt 64 (cnt 12 11 r)) = true ∧ ((List.range 13).all fun r => Nat.blt 64 (cnt 13 12 r)) = true ∧
      ((List.range 13).all fun r => Nat.ble (cnt 13 12 r) 3900) = true := by decide +kernel
  obtain ⟨h1, h2, h3, h4⟩ := h
  rw [List.all_eq_true] at h1 h2 h3 h4
  rintro n (rfl | rfl | rfl) r hr
  · exact ⟨Nat.blt_eq.mp (h1 r (List.mem_range.mpr hr)), Nat.le_trans (cnt_le _ _ _) (by decide)⟩
  · exact ⟨Nat.blt_eq.mp (h2 r (List.mem_range.mpr hr)), Nat.le_trans (cnt_le _ _ _) (by decide)⟩
  · exact ⟨Nat.blt_eq.mp (h3 r (List.mem_range.mpr hr)), Nat.ble_eq.mp (h4 r (List.mem_range.mpr hr))⟩
theorem great_words {n r : Nat} {Q : Dt → Prop} {E : Xc → Prop} (hn : n = 10 ∨ n = 11 ∨ n = 12) (hr : r ≤ n) (k : Q (.str "many")) : F_law_great_refused [.d (.int n), .d (.int r)] Q E := by
  obtain ⟨c1, c2⟩ := great_cnt n hn r (by omega)
  rw [← Ws_len (by omega) (by omega)] at c1 c2
  rw [F_law_great_refused_eq]; unfold S_law_great_refused
  walk_at "wp"
  refine make_ok (n := n) (m := (n : Int) + 1) (r := r) (by omega) (by omega) (by omega) (by omega) (by omega) (by omega) ?_
  rw [F_book_of_sums_eq]; unfold S_book_of_sums
  walk_at "wp"
  simp only [eCallG_W]
  walk_at "wp"
  unfold bk
  walk_at "wp"
  refine ⟨ftab_SumBook_length, .int n, rfl, ?_⟩
  refine sum_members_ok (n := n) (m := n + 1) (r := r) (by omega) (by omega) ?_
  refine book2 (n := n) (ws := Ws n (n + 1) r) Ws_kind (by omega) c2 (fun us up um ul => ?_) fun us up um ul => ?_
  · have := nodup_len (rows_nodup (Ws_lt n (n + 1) r)) fun x hx => (um x).mpr hx
    omega
  · refine ⟨true, mt_BadBook_BadBook, ?_⟩
    rw [if_pos rfl]
    walk_at "wp"
    exact ⟨rfl, .str "many", rfl, k⟩
end

section
/-! ### the law -/
theorem law_r23_ok {n : Nat} {w : List Int} {D : DEn} {s0 s2 s3 s5 s6 s8 s9 s10 : Sl} (hw : Bits w) (hl : w.length ≤ 200) (k : D.nx [s0, .hand, s2, s3, .d (.int n), s5, s6, .d (iT w), s8, s9, s10]) :
    S_law_r23 D [s0, .hand, s2, s3, .d (.int n), s5, s6, .d (iT w), s8, s9, s10] := by
  rw [S_law_r23_eq]
  walk_at "wp"
  refine fun t ht => ix_mem (by show t < 4; omega) fun d hd => ?_
  obtain ⟨h1, h2⟩ : d.kind.isSome = true ∧ inB ((w.length : Int) + 1) 1000000 d = false := by
    simp only [List.mem_cons, List.not_mem_nil, or_false] at hd
    rcases hd with h | h | h | h <;> subst h <;> refine ⟨rfl, ?_⟩ <;> simp [inB] <;> omega
  refine held_mod hw hl h1 h2 (dNe_self (str_int_sh (by decide +kernel)) ?_)
  walk_at "wp"
  exact k
theorem law_r19_ok {n : Nat} {m r : Int} {D : DEn} {s0 s2 s3 s5 s7 s8 s9 s10 : Sl} (k : ∀ s7 s8, D.nx [s0, .hand, s2, s3, .d (.int n), s5, .d (bk n m r), s7, s8, s9, s10]) :
    S_law_r19 D [s0, .hand, s2, s3, .d (.int n), s5, .d (bk n m r), s7, s8, s9, s10] := by
  rw [S_law_r19_eq]
  walk_at "wp"
  have e : (if (n : Int) < 20 then (n : Int) else 20) = ((min n 20 : Nat) : Int) := by split <;> omega
  have e2 : (if (20 : Int) < (n : Int) then (20 : Int) else n) = ((min n 20 : Nat) : Int) := by split <;> omega
  try rw [e]
  try rw [e2]
  refine law_runny_ok (q := 2) (by decide) (by decide) (by omega) fun w hw => ?_
  have wb := bits_of_wd hw
  have wl : w.length ≤ 20 := by rw [hw.1]; omega
  rw [S_law_r20_eq]
  walk_at "wp"
  refine law_bad_word_ok (m := 200) wb (by omega) (by decide) (by decide) fun a i ka ba => ?_
  rw [S_law_r21_eq]
  walk_at "wp"
  refine ix_get (n := 0) rfl rfl ?_
  refine fun t ht => ix_mem (by show t < 2; omega) fun d hd => ?_
  refine held_word ka ba (ix_get (n := 1) rfl rfl (dNe_self (str_int_sh (by decide +kernel)) ?_))
  walk_at "wp"
  refine ix_get (n := 0) rfl rfl ?_
  refine has_refused_ok ka ba (ix_get (n := 1) rfl rfl (dNe_self (str_int_sh (by decide +kernel)) ?_))
  walk_at "wp"
  exact law_r23_ok wb (by omega) (k _ _)
theorem law_r15_ok {n m r : Nat} {g : Bool} {D : DEn} {s0 s2 s7 s8 s9 s10 : Sl} (hg : g = false → n ≤ 8) (hn : n ≤ 200) (hm : n + 1 ≤ m) (hm2 : m ≤ 1000000) (hr : r < m) (k : ∀ s7 s8, D.nx [s0, .hand, s2, .d (.bl g), .d (.int n), .d (faD n m r), .d (bk n m r), s7, s8, s9, s10]) :
    S_law_r15 D [s0, .hand, s2, .d (.bl g), .d (.int n), .d (faD n m r), .d (bk n m r), s7, s8, s9, s10] := by
  have fin : S_law_r17 D [s0, .hand, s2, .d (.bl g), .d (.int n), .d (faD n m r), .d (bk n m r), s7, s8, s9, s10] := by
    rw [S_law_r17_eq]
    walk_at "wp"
    refine made_refused_ok hn (by omega) (by omega) ?_
    walk_at "wp"
    exact law_r19_ok k
  rw [S_law_r15_eq]
  walk_at "wp"
  cases g with
  | true =>
    refine iteQ (fun h => by cases h) fun _ => fin
  | false =>
    refine iteQ (fun _ => ?_) fun h => absurd rfl h
    refine plain_right_ok (hg rfl) hm hm2 hr ?_
    walk_at "wp"
    exact fin
theorem law_r9_ok {n m r : Nat} {D : DEn} {s0 s2 s3 s4 s7 s8 s9 s10 : Sl} (hn : n ≤ 200) (hm : n + 1 ≤ m) (hm2 : m ≤ 1000000) (hr : r < m) (k : S_law_r15 D [s0, .hand, s2, s3, s4, .d (faD n m r), .d (bk n m r), s7, s8, s9, s10]) :
    S_law_r9 D [s0, .hand, s2, s3, s4, .d (faD n m r), .d (bk n m r), s7, s8, s9, s10] := by
  have r13 : S_law_r13 D [s0, .hand, s2, s3, s4, .d (faD n m r), .d (bk n m r), s7, s8, s9, s10] := by
    rw [S_law_r13_eq]
    walk_at "wp"
    refine fa_0 ?_
    walk_at "wp"
    refine iteQ (fun c => ?_) fun _ => k
    refine fa_0 (fa_1 (fa_2 ?_))
    refine make_ok (by omega) (by omega) (by omega) (by omega) (by omega) (by omega) (sum_eqB ?_)
    rw [decide_eq_false (by omega), Bool.false_and]
    walk_at "wp"
    exact k
  have r11 : S_law_r11 D [s0, .hand, s2, s3, s4, .d (faD n m r), .d (bk n m r), s7, s8, s9, s10] := by
    rw [S_law_r11_eq]
    walk_at "wp"
    refine fa_1 ?_
    walk_at "wp"
    refine iteQ (fun c => ?_) fun _ => r13
    have h0 := Int.emod_nonneg ((r : Int) + 1) (show (m : Int) ≠ 0 by omega)
    have h1 := Int.emod_lt_of_pos ((r : Int) + 1) (show (0 : Int) < m by omega)
    refine fa_0 (fa_1 (fa_2 ?_))
    walk_at "wp"
    refine fa_1 ⟨by omega, ?_⟩
    refine make_ok (by omega) (by omega) (by omega) (by omega) h0 h1 (sum_eqB ?_)
    have ne : ¬ ((r : Int) = ((r : Int) + 1) % m) := by
      by_cases d : (r : Int) + 1 = m
      · rw [d, Int.emod_self]; omega
      · rw [Int.emod_eq_of_lt (by omega) (by omega)]; omega
    rw [decide_eq_false ne, Bool.and_false, Bool.and_false]
    walk_at "wp"
    exact r13
  rw [S_law_r9_eq]
  walk_at "wp"
  refine fa_0 (fa_1 (fa_2 ?_))
  refine make_ok (by omega) (by omega) (by omega) (by omega) (by omega) (by omega) (sum_eqB ?_)
  rw [decide_eq_true rfl, decide_eq_true rfl, decide_eq_true rfl]
  walk_at "wp"
  refine fa_0 (fa_1 (fa_1 ?_))
  walk_at "wp"
  refine ⟨by unfold CDiv; omega, by unfold CMul; omega, ?_⟩
  refine make_ok (by omega) (by omega) (by omega) (by omega) (by omega) (by omega) (sum_eqB ?_)
  rw [decide_eq_false (by omega : ¬ ((m : Int) = (m : Int) + 1 - 2 * ((m : Int) / 1000000))), Bool.false_and, Bool.and_false]
  walk_at "wp"
  exact r11
theorem law_b3_ok {D : DEn} {s0 s2 s3 s4 s5 s6 s7 s8 s9 s10 : Sl} (q : ∀ s2 s3 s4 s5 s6 s7 s8, D.nx [s0, .hand, s2, s3, s4, s5, s6, s7, s8, s9, s10]) : S_law_b3 D [s0, .hand, s2, s3, s4, s5, s6, s7, s8, s9, s10] := by
  rw [S_law_b3_eq]
  walk_at "wp"
  intro t ht
  refine eqB_plain rfl rfl ?_
  rw [dEq_int]
  have main : ∀ (g : Bool) (n : Nat), (g = false → n ≤ 8) → n ≤ 200 → S_law_r5 D [s0, .hand, s2, .d (.bl g), .d (.int n), s5, s6, s7, s8, s9, s10] := fun g n hg hn => by
    rw [S_law_r5_eq]
    walk_at "wp"
    refine law_book_of_ok (by omega) fun m r h1 h2 h3 h4 => ?_
    obtain ⟨m, rfl⟩ := Int.eq_ofNat_of_zero_le (show 0 ≤ m by omega)
    obtain ⟨r, rfl⟩ := Int.eq_ofNat_of_zero_le h3
    rw [S_law_r6_eq]
    walk_at "wp"
    refine fa_0 (fa_1 (fa_2 ?_))
    refine made_ok (by omega) (by omega) h1 h2 h3 h4 ?_
    rw [S_law_r7_eq]
    walk_at "wp"
    refine fa_0 (fa_1 (fa_2 ?_))
    refine law_is_book_ok ?_
    walk_at "wp"
    refine led_right_ok hn h1 h2 h3 h4 ?_
    walk_at "wp"
    exact law_r9_ok hn (by omega) (by omega) (by omega) (law_r15_ok hg hn (by omega) (by omega) (by omega) fun s7 s8 => q _ _ _ _ _ _ _)
  rw [S_law_r4_eq]
  walk_at "wp"
  by_cases c : (t : Int) = 0
  · rw [decide_eq_true c]
    refine iteQ (fun _ u hu => ?_) fun h => absurd c h
    have := main true (9 + u) (fun h => by cases h) (by omega)
    rw [show (((9 + u : Nat)) : Int) = 9 + (u : Int) by omega] at this
    exact this
  · rw [decide_eq_false c]
    refine iteQ (fun h => absurd h c) fun _ u hu => main false u (fun _ => by omega) (by omega)
theorem law_end {D : DEn} {s0 s2 s3 s4 s5 s6 s7 s8 s9 s10 : Sl} (k : D.rt (.bl true)) : S_law_r25 D [s0, .hand, s2, s3, s4, s5, s6, s7, s8, s9, s10] := by
  have fin : ∀ big : Nat, (big = 10 ∨ big = 11 ∨ big = 12) ∨ 14 < big ∧ big ≤ 200 → S_law_r26 D [s0, .hand, s2, s3, s4, s5, s6, s7, s8, .d (.int big), s10] := fun big hb => by
    rw [S_law_r26_eq]
    walk_at "wp"
    rcases hb with hb | ⟨h1, h2⟩
    · refine iteQ (fun _ => ?_) fun c => by omega
      rw [S_law_r27_eq]
      walk_at "wp"
      refine ⟨by omega, fun t ht => great_words hb (by omega) ?_⟩
      refine eqB_plain rfl rfl (dEq_self (shN_str (by decide +kernel)).sh k)
    · refine iteQ (fun c => by omega) fun _ => ?_
      refine law_power2 (by omega) ?_
      rw [S_law_r27_eq]
      walk_at "wp"
      refine ⟨by omega, fun t ht => great_many h1 h2 (by omega) ?_⟩
      refine eqB_plain rfl rfl (dEq_self (shN_int _).sh k)
  have pick : ∀ (u k : Nat), u < 185 → k < 5 → ∃ x, atI [Dt.int 10, .int 11, .int 15, .int (16 + (u : Int)), .int 12] (k : Int) = some x ∧ S_law_r26 D [s0, .hand, s2, s3, s4, s5, s6, s7, s8, .d x, s10] := fun u k hu hk => ix_mem hk fun d hd => by
    simp only [List.mem_cons, List.not_mem_nil, or_false] at hd
    rcases hd with h | h | h | h | h <;> subst h
    · exact fin 10 (.inl (.inl rfl))
    · exact fin 11 (.inl (.inr (.inl rfl)))
    · exact fin 15 (.inr ⟨by omega, by omega⟩)
    · have := fin (16 + u) (.inr ⟨by omega, by omega⟩)
      rw [show (((16 + u : Nat)) : Int) = 16 + (u : Int) by omega] at this
      exact this
    · exact fin 12 (.inl (.inr (.inr rfl)))
  rw [S_law_r25_eq]
  walk_at "wp"
  intro u hu v hv
  refine eqB_plain rfl rfl ?_
  rw [dEq_int]
  by_cases c : (v : Int) = 0
  · rw [decide_eq_true c]
    refine iteQ (fun _ x hx => ?_) fun h => absurd rfl h
    have := pick u (x % 5) (by omega) (Nat.mod_lt _ (by decide))
    rw [Int.natCast_emod] at this
    exact this
  · rw [decide_eq_false c]
    refine iteQ (fun h => by cases h) fun _ => ?_
    exact pick u 2 (by omega) (by decide)
theorem goal : Goal := by
  unfold Goal LawGoal S_law
  walk_at "wp"
  refine ⟨by decide, ?_⟩
  refine dFor_keep (fun e => ∃ s2 s3 s4 s5 s6 s7 s8, e = [.no, .hand, s2, s3, s4, s5, s6, s7, s8, .no, .no]) ⟨_, _, _, _, _, _, _, rfl⟩ ?_ ?_
  · rintro x _ K B hx ⟨s2, s3, s4, s5, s6, s7, s8, rfl⟩ hK
    obtain ⟨i, hi, rfl⟩ := List.mem_map.mp hx
    exact law_b3_ok fun s2 s3 s4 s5 s6 s7 s8 => hK _ ⟨_, _, _, _, _, _, _, rfl⟩
  · rintro _ ⟨s2, s3, s4, s5, s6, s7, s8, rfl⟩
    exact law_end rfl
end

end Mine
namespace Mine
open PySem PySem.Spec PyProof.Rows L2
local macro_rules | `(tactic| walk_at "rd") => `(tactic| try simp only [tMk1, iEnumA, iSeq, tPar3, tAugS, ipI, rRepA, rIxA, tCallSD, rExtend, tDNewK, iZipS, tXf, tSeq, tAsg, tCB, tCons, tNil, tVar, tOp, tUn, rI, rI0, rU, gName, gNil, gCons, gSub, rSetL, tC, tRet, tRetN, tNext, tIfS, tTest, tB, tAnd, tOr, tNot, tAndV, tOrV, tNotV, tIf,
  tDrop, tCall, tCallS, tPar, tAug, ipI, tBreak, tCont, tTup, tLst, rEq_int, rNe_int, rEq_bl, rNe_bl, rEq_str, rNe_str, HO.lst.injEq, HO.tup.injEq, Bool.not_eq_true', decide_eq_false_iff_not, rIxH, rIxTH, rCat, tSl, tPart, tNoPart, tBM, rAppend, L2.start, tFor_eq, tLc_eq, iList, iTup, iRng1, iRng2, iEnum, iZip, cx_K, cx_prog, cx_w, cx_nK, forall_const, tYes, wipe, List.foldl_cons, List.foldl_nil, and_assoc, List.map_cons, List.map_nil, List.length_cons, List.length_nil, List.replicate, List.append_nil, List.cons_append, List.nil_append,
  List.getElem?_cons_zero, List.getElem?_cons_succ, List.set_cons_zero, List.set_cons_succ, Nat.zero_add, Nat.add_zero, Nat.reduceAdd, Nat.reduceSub, Option.some.injEq, V.int.injEq, V.bl.injEq, V.ref.injEq, V.str.injEq,
  List.cons.injEq, and_true, true_and, exists_eq_left, exists_eq_left', exists_eq_right, exists_const, exists_eq, exists_and_left, exists_and_right, upd_same, upd_upd, atI_0, atI_1, atI_2, atI_3, ixN_4_0, ixN_4_1, ixN_4_2, ixN_4_3, some_lst, some_tup, decide_eq_true_eq, reduceCtorEq,
  V.int.injEq, Bool.true_eq_false, Bool.false_eq_true, if_true, if_false, ite_true, ite_false, eq_self, not_true_eq_false, not_false_eq_true, decide_true, decide_false, Bool.not_true, Bool.not_false, false_and, and_false, exists_false])
local macro_rules | `(tactic| walk_at "mono") => `(tactic| repeat (first | with_reducible exact mon_var _ | with_reducible exact mon_c _ | with_reducible exact mon_rI _ _ | with_reducible exact mon_rI0 _ | with_reducible exact mon_rEq | with_reducible exact mon_rNe | with_reducible refine mon_test ?_ | with_reducible refine mon_op ?_ ?_ ?_ | with_reducible refine mon_and ?_ ?_ | with_reducible refine mon_or ?_ ?_ | with_reducible exact mon_rU _ | with_reducible refine mon_un ?_ ?_))
local macro_rules | `(tactic| walk_at "sd") => `(tactic| first | assumption | omega | (unfold CMul; omega) | (unfold CDiv; omega) | rfl | decide)
local macro_rules | `(tactic| walk_at "go") => `(tactic| repeat (refine And.intro (by first | assumption | omega | exact tyL (by assumption) | (unfold CMul; omega) | (unfold CDiv; omega) | rfl | decide) ?_))
theorem ok_law_hand {P : Program} {w : World} {K : PySem.W.Frag} {mg : Str → Option Value} {base : Heap} (T : Txt K mg) : ∃ fd, FnOk P w K mg base CX0 1 (He.ga K "_law_hand") fd P_law_hand (sp_hand K) ∧ D_law_hand K (He.ga K "_law_hand") fd := by
  obtain ⟨fd, F⟩ := T.F_law_hand
  refine ⟨fd, F.ok sc_law_hand (fun vs H Q E h => ?_) (fun cdv A outer s H vs Q E hr h => ?_), F⟩
  · obtain ⟨a, ns, rfl, _⟩ := h
    rfl
  ·
    obtain ⟨a, ns, rfl, hS, hl, q⟩ := h
    refine ⟨_, PSs.nox (pss_cons (ps_set (i := 1) sc_law_hand.nd rfl (by first | exact Or.inl rfl | exact Or.inr rfl) (pe_op op_add (pe_callB call_len_seq (by rfl) T.z_len (by decide +kernel) (pa_cons (pv 0) pa_nil)) pe_int))
    (pss_cons (ps_set (i := 2) sc_law_hand.nd rfl (by first | exact Or.inl rfl | exact Or.inr rfl) (pe_lst pa_nil))
    (pss_cons (ps_for PassesOwn.never rfl (pi_list (pv 0)) (pg_name (i := 3) sc_law_hand.nd rfl (by first | exact Or.inl rfl | exact Or.inr rfl))
    (pss_cons (ps_set (i := 1) sc_law_hand.nd rfl (by first | exact Or.inl rfl | exact Or.inr rfl) (pe_op op_mod (pe_callTy call_intI (by rfl) T.z_int (by decide +kernel) (pa_cons (pe_op op_add (pe_op op_mul (pv 1) pe_int) (pe_callTy call_intI (by rfl) T.z_int (by decide +kernel) (pa_cons (pv 3) pa_nil))) pa_nil)) pe_int))
    (pss_one (ps_expr (pe_bm PySem.F.plainAttrs_list PySem.F.slot_list_append PySem.F.type_list_append mt_append (pv 2) (pa_cons (pe_callB call_abs (by rfl) T.z_abs (by decide +kernel) (pa_cons (pe_callTy call_intI (by rfl) T.z_int (by decide +kernel) (pa_cons (pv 3) pa_nil)) pa_nil)) pa_nil))))))
    (pss_one (ps_ret (pe_lst (pa_cons (pv 2) (pa_cons pe_int (pa_cons pe_int (pa_cons (pv 1) pa_nil)))))))))), ?_⟩
    walk_at "rd"
    refine ⟨ns.map V.int, .inl hS, by decide, fun c hc => ⟨⟨_, (same_upd hc).seq hS⟩, ?_⟩⟩
    refine Loop.by (walk_list (xs := ns.map V.int)) (i_hand H a c) ⟨_, none, [], rfl, rfl, upd_same, by simp, same_upd hc, by omega, by rw [List.length_map]; omega⟩
      (fun i σ H' _ ⟨_, _, _, _, _, _, _, sm, _⟩ => sm.seq hS) ?_ ?_
    · rintro i x σ H' H'' hi ⟨tot, v3, cells, rfl, hz, hc', hp, sm, h0, h1⟩ ⟨rfl, hx⟩
      rw [List.length_map] at hi
      rw [List.getElem?_map, List.getElem?_eq_getElem hi] at hx
      obtain rfl := Option.some.inj hx
      walk_at "rd"
      walk_at "go"
      refine ⟨_, hc', by rw [List.length_map]; exact small1000 (by omega), _, _, cells ++ [if ns[i] < 0 then -ns[i] else ns[i]], rfl, by simp [hz], by rw [upd_same, List.map_append]; rfl, ?_, ?_, by omega, by omega⟩
      · intro z hz
        rcases List.mem_append.mp hz with h | h
        · exact hp z h
        · rw [List.mem_singleton] at h; rw [h]; split <;> omega
      · intro b o e
        rw [upd_ne (ne_of_none e hc)]; exact sm b o e
    · rintro σ H' ⟨tot, v3, cells, rfl, hz, hc', hp, sm, h0, h1⟩
      walk_at "rd"
      rw [List.length_map] at hz
      refine ⟨by decide, fun p hp' => q _ p (sm.trans (same_upd hp')) (sm.free hp') ⟨c, cells, 0, 0, tot, upd_same, ?_, hp, by omega, by omega, by omega, h0, h1⟩⟩
      rw [upd_ne (ne_of_none hc' hp')]; exact hc'
end Mine

namespace Mine
open PySem PySem.Spec PyProof.Rows L2
theorem ok_Book___eq {P : Program} {w : World} {K : PySem.W.Frag} {mg : Str → Option Value} {base : Heap} (T : Txt K mg) : ∃ fd, FnOk P w K mg base CX0 1 (He.ma K (He.ga K "Book") "__eq__") fd P_Book___eq (spD K F_Book___eq) ∧ D_Book___eq K (He.ma K (He.ga K "Book") "__eq__") fd := by
  obtain ⟨fd, F⟩ := T.F_Book___eq
  refine ⟨fd, F.ok sc_Book___eq (fun vs H Q E h => ?_) (fun cdv A outer s H vs Q E hr h => ?_), F⟩
  · rw [F_Book___eq_eq] at h
    exact spD_len (np := 2) (fun _ _ _ h => h.1) vs H Q E h
  · rw [F_Book___eq_eq] at h
    refine ⟨_, PSs.nox (pss_one (ps_ret (pe_and (pe_callB (call_isiU (K := K) rfl) (by rfl) T.z_isinstance (by decide +kernel) (pa_cons (pv 1) (pa_cons (pe_glob (v := .ref (He.ga _ "Book")) rfl T.g_Book rfl) pa_nil))) (pe_and (pe_cmpR (op_eqU rfl hr.units) (pe_fldU (K := K) rfl (pv 0) (by rfl)) (pe_fldU (K := K) rfl (pv 1) (by rfl)) (by first | exact nomark _ | rfl)) (pe_and (pe_cmpR (op_eqU rfl hr.units) (pe_fldU (K := K) rfl (pv 0) (by rfl)) (pe_fldU (K := K) rfl (pv 1) (by rfl)) (by first | exact nomark _ | rfl)) (pe_one (pe_cmpR (op_eqU rfl hr.units) (pe_fldU (K := K) rfl (pv 0) (by rfl)) (pe_fldU (K := K) rfl (pv 1) (by rfl)) (by first | exact nomark _ | rfl)))))))), ?_⟩
    exact body_of0 rfl h fun X hd => (dst_ret (de_andV (de_isI (isi_Book T) (db_var 1)) (de_andV (dg_op od_eq (DEg.bor (de_fld (fld_ok T) (db_var 0))) (DEg.bor (de_fld (fld_ok T) (db_var 1)))) (de_andV (dg_op od_eq (DEg.bor (de_fld (fld_ok T) (db_var 0))) (DEg.bor (de_fld (fld_ok T) (db_var 1)))) (dg_op od_eq (DEg.bor (de_fld (fld_ok T) (db_var 0))) (DEg.bor (de_fld (fld_ok T) (db_var 1))))))))
end Mine

namespace Mine
open PySem PySem.Spec PyProof.Rows L2
theorem ok_SumBook___eq {P : Program} {w : World} {K : PySem.W.Frag} {mg : Str → Option Value} {base : Heap} (T : Txt K mg) : ∃ fd, FnOk P w K mg base CX0 1 (He.ma K (He.ga K "SumBook") "__eq__") fd P_SumBook___eq (spD K F_SumBook___eq) ∧ D_SumBook___eq K (He.ma K (He.ga K "SumBook") "__eq__") fd := by
  obtain ⟨fd, F⟩ := T.F_SumBook___eq
  refine ⟨fd, F.ok sc_SumBook___eq (fun vs H Q E h => ?_) (fun cdv A outer s H vs Q E hr h => ?_), F⟩
  · rw [F_SumBook___eq_eq] at h
    exact spD_len (np := 2) (fun _ _ _ h => h.1) vs H Q E h
  · rw [F_SumBook___eq_eq] at h
    refine ⟨_, PSs.nox (pss_one (ps_ret (pe_and (pe_callB (call_isiU (K := K) rfl) (by rfl) T.z_isinstance (by decide +kernel) (pa_cons (pv 1) (pa_cons (pe_glob (v := .ref (He.ga _ "SumBook")) rfl T.g_SumBook rfl) pa_nil))) (pe_and (pe_cmpR (op_eqU rfl hr.units) (pe_fldU (K := K) rfl (pv 0) (by rfl)) (pe_fldU (K := K) rfl (pv 1) (by rfl)) (by first | exact nomark _ | rfl)) (pe_and (pe_cmpR (op_eqU rfl hr.units) (pe_fldU (K := K) rfl (pv 0) (by rfl)) (pe_fldU (K := K) rfl (pv 1) (by rfl)) (by first | exact nomark _ | rfl)) (pe_one (pe_cmpR (op_eqU rfl hr.units) (pe_fldU (K := K) rfl (pv 0) (by rfl)) (pe_fldU (K := K) rfl (pv 1) (by rfl)) (by first | exact nomark _ | rfl)))))))), ?_⟩
    exact body_of0 rfl h fun X hd => (dst_ret (de_andV (de_isI (isi_SumBook T) (db_var 1)) (de_andV (dg_op od_eq (DEg.bor (de_fld (fld_ok T) (db_var 0))) (DEg.bor (de_fld (fld_ok T) (db_var 1)))) (de_andV (dg_op od_eq (DEg.bor (de_fld (fld_ok T) (db_var 0))) (DEg.bor (de_fld (fld_ok T) (db_var 1)))) (dg_op od_eq (DEg.bor (de_fld (fld_ok T) (db_var 0))) (DEg.bor (de_fld (fld_ok T) (db_var 1))))))))
end Mine

namespace Mine
open PySem PySem.Spec PyProof.Rows L2
theorem eqc {P : Program} {w : World} {K : PySem.W.Frag} {mg : Str → Option Value} {base : Heap} (T : Txt K mg) : ∀ C sp, okE K tabE C sp → EqC P w K mg base 1 C sp := by
  rintro C sp ⟨c, F, h, rfl, rfl⟩
  unfold tabE tabN at h
  by_cases e : c = "Book"
  · rw [if_pos e] at h; subst e; have h : some F_Book___eq = some F := h; cases h; obtain ⟨fd, G, D⟩ := ok_Book___eq (P := P) (w := w) (base := base) T; exact ⟨_, fd, _, G, T.b_Book_is___eq__.at_, T.b_Book_is___eq__.fn, bd_Book___eq D⟩
  rw [if_neg e] at h; clear e
  by_cases e : c = "SumBook"
  · rw [if_pos e] at h; subst e; have h : some F_SumBook___eq = some F := h; cases h; obtain ⟨fd, G, D⟩ := ok_SumBook___eq (P := P) (w := w) (base := base) T; exact ⟨_, fd, _, G, T.b_SumBook_is___eq__.at_, T.b_SumBook_is___eq__.fn, bd_SumBook___eq D⟩
  rw [if_neg e] at h; clear e
  cases h
end Mine

namespace Mine
open PySem PySem.Spec PyProof.Rows L2
local macro_rules | `(tactic| walk_at "rd") => `(tactic| try simp only [tMk1, iEnumA, iSeq, tPar3, tAugS, ipI, rRepA, rIxA, tCallSD, rExtend, tDNewK, iZipS, tXf, tSeq, tAsg, tCB, tCons, tNil, tVar, tOp, tUn, rI, rI0, rU, gName, gNil, gCons, gSub, rSetL, tC, tRet, tRetN, tNext, tIfS, tTest, tB, tAnd, tOr, tNot, tAndV, tOrV, tNotV, tIf,
  tDrop, tCall, tCallS, tPar, tAug, ipI, tBreak, tCont, tTup, tLst, rEq_int, rNe_int, rEq_bl, rNe_bl, rEq_str, rNe_str, HO.lst.injEq, HO.tup.injEq, Bool.not_eq_true', decide_eq_false_iff_not, rIxH, rIxTH, rCat, tSl, tPart, tNoPart, tBM, rAppend, L2.start, tFor_eq, tLc_eq, iList, iTup, iRng1, iRng2, iEnum, iZip, cx_K, cx_prog, cx_w, cx_nK, forall_const, tYes, wipe, List.foldl_cons, List.foldl_nil, and_assoc, List.map_cons, List.map_nil, List.length_cons, List.length_nil, List.replicate, List.append_nil, List.cons_append, List.nil_append,
  List.getElem?_cons_zero, List.getElem?_cons_succ, List.set_cons_zero, List.set_cons_succ, Nat.zero_add, Nat.add_zero, Nat.reduceAdd, Nat.reduceSub, Option.some.injEq, V.int.injEq, V.bl.injEq, V.ref.injEq, V.str.injEq,
  List.cons.injEq, and_true, true_and, exists_eq_left, exists_eq_left', exists_eq_right, exists_const, exists_eq, exists_and_left, exists_and_right, upd_same, upd_upd, atI_0, atI_1, atI_2, atI_3, ixN_4_0, ixN_4_1, ixN_4_2, ixN_4_3, some_lst, some_tup, decide_eq_true_eq, reduceCtorEq,
  V.int.injEq, Bool.true_eq_false, Bool.false_eq_true, if_true, if_false, ite_true, ite_false, eq_self, not_true_eq_false, not_false_eq_true, decide_true, decide_false, Bool.not_true, Bool.not_false, false_and, and_false, exists_false])
local macro_rules | `(tactic| walk_at "mono") => `(tactic| repeat (first | with_reducible exact mon_var _ | with_reducible exact mon_c _ | with_reducible exact mon_rI _ _ | with_reducible exact mon_rI0 _ | with_reducible exact mon_rEq | with_reducible exact mon_rNe | with_reducible refine mon_test ?_ | with_reducible refine mon_op ?_ ?_ ?_ | with_reducible refine mon_and ?_ ?_ | with_reducible refine mon_or ?_ ?_ | with_reducible exact mon_rU _ | with_reducible refine mon_un ?_ ?_))
local macro_rules | `(tactic| walk_at "sd") => `(tactic| first | assumption | omega | (unfold CMul; omega) | (unfold CDiv; omega) | rfl | decide)
local macro_rules | `(tactic| walk_at "go") => `(tactic| repeat (refine And.intro (by first | assumption | omega | exact tyL (by assumption) | (unfold CMul; omega) | (unfold CDiv; omega) | rfl | decide) ?_))
theorem ok_law_mixed {P : Program} {w : World} {K : PySem.W.Frag} {mg : Str → Option Value} {base : Heap} (T : Txt K mg) : ∃ fd, FnOk P w K mg base CX0 1 (He.ga K "_law_mixed") fd P_law_mixed sp_mixed ∧ D_law_mixed K (He.ga K "_law_mixed") fd := by
  obtain ⟨fd, F⟩ := T.F_law_mixed
  refine ⟨fd, F.ok sc_law_mixed (fun vs H Q E h => ?_) (fun cdv A outer s H vs Q E hr h => ?_), F⟩
  · obtain ⟨n, t, rfl, _⟩ := h
    rfl
  ·
    obtain ⟨n, t, rfl, ⟨h1, h2, h3, h4⟩, q⟩ := h
    refine ⟨_, PSs.nox (pss_cons (ps_set (i := 2) sc_law_mixed.nd rfl (by first | exact Or.inl rfl | exact Or.inr rfl) (pe_op op_mod (pe_callTy call_intI (by rfl) T.z_int (by decide +kernel) (pa_cons (pe_op op_add (pe_op op_add (pe_op op_mul (pv 0) pe_int) (pe_op op_mul (pv 1) pe_int)) pe_int) pa_nil)) pe_int))
    (pss_cons (ps_set (i := 3) sc_law_mixed.nd rfl (by first | exact Or.inl rfl | exact Or.inr rfl) (pe_op op_mod (pe_callTy call_intI (by rfl) T.z_int (by decide +kernel) (pa_cons (pe_op op_add (pe_op op_add (pe_op op_mul (pv 2) (pv 2)) (pe_op op_mul (pv 1) pe_int)) (pe_op op_fdiv (pv 2) pe_int)) pa_nil)) pe_int))
    (pss_one (ps_ret (pe_op op_fdiv (pe_callTy call_intI (by rfl) T.z_int (by decide +kernel) (pa_cons (pe_op op_mod (pe_callTy call_intI (by rfl) T.z_int (by decide +kernel) (pa_cons (pe_op op_add (pe_op op_mul (pv 3) pe_int) (pe_op op_fdiv (pv 2) pe_int)) pa_nil)) pe_int) pa_nil)) pe_int))))), ?_⟩
    walk_at "rd"
    walk_at "go"
    exact q _ (mixedN_pos n t)
end Mine

namespace Mine
open PySem PySem.Spec PyProof.Rows L2
local macro_rules | `(tactic| walk_at "rd") => `(tactic| try simp only [tMk1, iEnumA, iSeq, tPar3, tAugS, ipI, rRepA, rIxA, tCallSD, rExtend, tDNewK, iZipS, tXf, tSeq, tAsg, tCB, tCons, tNil, tVar, tOp, tUn, rI, rI0, rU, gName, gNil, gCons, gSub, rSetL, tC, tRet, tRetN, tNext, tIfS, tTest, tB, tAnd, tOr, tNot, tAndV, tOrV, tNotV, tIf,
  tDrop, tCall, tCallS, tPar, tAug, ipI, tBreak, tCont, tTup, tLst, rEq_int, rNe_int, rEq_bl, rNe_bl, rEq_str, rNe_str, HO.lst.injEq, HO.tup.injEq, Bool.not_eq_true', decide_eq_false_iff_not, rIxH, rIxTH, rCat, tSl, tPart, tNoPart, tBM, rAppend, L2.start, tFor_eq, tLc_eq, iList, iTup, iRng1, iRng2, iEnum, iZip, cx_K, cx_prog, cx_w, cx_nK, forall_const, tYes, wipe, List.foldl_cons, List.foldl_nil, and_assoc, List.map_cons, List.map_nil, List.length_cons, List.length_nil, List.replicate, List.append_nil, List.cons_append, List.nil_append,
  List.getElem?_cons_zero, List.getElem?_cons_succ, List.set_cons_zero, List.set_cons_succ, Nat.zero_add, Nat.add_zero, Nat.reduceAdd, Nat.reduceSub, Option.some.injEq, V.int.injEq, V.bl.injEq, V.ref.injEq, V.str.injEq,
  List.cons.injEq, and_true, true_and, exists_eq_left, exists_eq_left', exists_eq_right, exists_const, exists_eq, exists_and_left, exists_and_right, upd_same, upd_upd, atI_0, atI_1, atI_2, atI_3, ixN_4_0, ixN_4_1, ixN_4_2, ixN_4_3, some_lst, some_tup, decide_eq_true_eq, reduceCtorEq,
  V.int.injEq, Bool.true_eq_false, Bool.false_eq_true, if_true, if_false, ite_true, ite_false, eq_self, not_true_eq_false, not_false_eq_true, decide_true, decide_false, Bool.not_true, Bool.not_false, false_and, and_false, exists_false])
local macro_rules | `(tactic| walk_at "mono") => `(tactic| repeat (first | with_reducible exact mon_var _ | with_reducible exact mon_c _ | with_reducible exact mon_rI _ _ | with_reducible exact mon_rI0 _ | with_reducible exact mon_rEq | with_reducible exact mon_rNe | with_reducible refine mon_test ?_ | with_reducible refine mon_op ?_ ?_ ?_ | with_reducible refine mon_and ?_ ?_ | with_reducible refine mon_or ?_ ?_ | with_reducible exact mon_rU _ | with_reducible refine mon_un ?_ ?_))
local macro_rules | `(tactic| walk_at "sd") => `(tactic| first | assumption | omega | (unfold CMul; omega) | (unfold CDiv; omega) | rfl | decide)
local macro_rules | `(tactic| walk_at "go") => `(tactic| repeat (refine And.intro (by first | assumption | omega | exact tyL (by assumption) | (unfold CMul; omega) | (unfold CDiv; omega) | rfl | decide) ?_))
theorem ok_law_take {P : Program} {w : World} {K : PySem.W.Frag} {mg : Str → Option Value} {base : Heap} (T : Txt K mg) : ∃ fd, FnOk P w K mg base CX0 2 (He.ga K "_law_take") fd P_law_take (spD K F_law_take) ∧ D_law_take K (He.ga K "_law_take") fd := by
  obtain ⟨fd, F⟩ := T.F_law_take
  obtain ⟨fd_law_mixed, G_law_mixed, D_law_mixed⟩ := ok_law_mixed (P := P) (w := w) (base := base) T
  have k_law_mixed := D_law_mixed.kp
  have b_law_mixed := bd_law_mixed D_law_mixed
  refine ⟨fd, F.ok sc_law_take (fun vs H Q E h => ?_) (fun cdv A outer s H vs Q E hr h => ?_), F⟩
  · obtain ⟨h, m, rfl, _⟩ := take_spD _ _ _ _ h -- := h
    rfl
  ·
    replace h := take_spD _ _ _ _ h
    obtain ⟨h, m, rfl, ⟨c, cells, at_, big, mix, hH, hC, hp, ha, hl, hb, hm, hm2⟩, h1, h2, q⟩ := h
    have hc : c ≠ h := ne_of hC hH (by
      intro z
      cases cells with
      | nil => cases z
      | cons x r => cases z)
    have k : ∀ xs, upd H h (.lst xs) c = some (.lst (cells.map V.int)) := fun xs => by rw [upd_ne hc]; exact hC
    have key : ∀ (ai : Int) (a2 : Nat) (b2 m2 : Int), ai = a2 → a2 ≤ cells.length → 0 ≤ b2 → 0 ≤ m2 → m2 < 2147483563 → HandN H h (.lst [.ref c, .int ai, .int b2, .int m2]) :=
      fun ai a2 b2 m2 e x1 x2 x3 x4 => ⟨⟨c, cells, a2, b2, m2, by rw [upd_same, e], k _, hp, x1, hl, x2, x3, x4⟩, c, _, _, hH, rfl⟩
    have emod : ∀ z : Int, 0 ≤ z % m ∧ z % m < m := fun z => ⟨Int.emod_nonneg _ (by omega), Int.emod_lt_of_pos _ h1⟩
    have ediv : ∀ z : Int, 0 ≤ z → 0 ≤ z / m := fun z hz => Int.ediv_nonneg hz (by omega)
    have fresh : ∀ (ai : Int) (a2 : Nat) (b2 : Int), ai = a2 → a2 ≤ cells.length → 0 ≤ b2 → (0 : Int) < 2147483549 ∧ sp_mixed [V.int ((mix + 1) % 2147483549), V.int ai] (upd H h (.lst [.ref c, .int ai, .int b2, .int ((mix + 1) % 2147483549)]))
        (fun x H1 => ∃ i, x = V.int i ∧ 0 < m ∧ Q (V.int (i % m)) H1) E0 := fun ai a2 b2 e x1 x2 => by
      refine ⟨by decide, _, _, rfl, by omega, fun r hr => ⟨r, rfl, h1, q _ _ (emod r).1 (emod r).2 (key ai a2 b2 _ e x1 x2 (by omega) (by omega))⟩⟩
    refine ⟨_, PSs.nox (pss_cons (ps_if (PW.pt (pw_and (pt_cmpR op_eq (pe_ix ix_H (pv 0) pe_int (fun _ _ => rfl)) pe_int (nomark _)) (pw_and1 (pt_cmpR op_lt (pe_ix ix_H (pv 0) pe_int (fun _ _ => rfl)) (pe_callB call_lenL (by rfl) T.z_len (by decide +kernel) (pa_cons (pe_ix ix_H (pv 0) pe_int (fun _ _ => rfl)) pa_nil)) (nomark _)))))
    (pss_cons (ps_set (i := 2) sc_law_take.nd rfl (by first | exact Or.inl rfl | exact Or.inr rfl) (pe_ix ix_H (pe_ix ix_H (pv 0) pe_int (fun _ _ => rfl)) (pe_ix ix_H (pv 0) pe_int (fun _ _ => rfl)) (fun _ _ => rfl)))
    (pss_cons (ps_asg (pe_op op_add (pe_ix ix_H (pv 0) pe_int (fun _ _ => rfl)) pe_int) (pg_sub (pv 0) pe_int set_list))
    (pss_cons (ps_if (pt_cmpR op_lt (pv 2) (pe_op op_pow pe_int pe_int) (nomark _))
    (pss_one (ps_ret (pe_op op_mod (pe_callTy call_intI (by rfl) T.z_int (by decide +kernel) (pa_cons (pe_call G_law_mixed (hr.mono (by decide)) rfl T.g__law_mixed k_law_mixed b_law_mixed .nil pass0 (pa_cons (pe_op op_mod (pe_callTy call_intI (by rfl) T.z_int (by decide +kernel) (pa_cons (pv 2) pa_nil)) pe_int) (pa_cons (pe_ix ix_H (pv 0) pe_int (fun _ _ => rfl)) pa_nil))) pa_nil)) (pv 1))))
    pss_nil)
    (pss_one (ps_asg (pv 2) (pg_sub (pv 0) pe_int set_list))))))
    pss_nil)
    (pss_cons (ps_if (pt_cmpR op_gt (pe_ix ix_H (pv 0) pe_int (fun _ _ => rfl)) pe_int (nomark _))
    (pss_cons (ps_set (i := 3) sc_law_take.nd rfl (by first | exact Or.inl rfl | exact Or.inr rfl) (pe_ix ix_H (pv 0) pe_int (fun _ _ => rfl)))
    (pss_cons (ps_asg (pe_op op_fdiv (pe_callTy call_intI (by rfl) T.z_int (by decide +kernel) (pa_cons (pv 3) pa_nil)) (pv 1)) (pg_sub (pv 0) pe_int set_list))
    (pss_one (ps_ret (pe_op op_mod (pe_callTy call_intI (by rfl) T.z_int (by decide +kernel) (pa_cons (pv 3) pa_nil)) (pv 1))))))
    pss_nil)
    (pss_cons (ps_asg (pe_op op_mod (pe_callTy call_intI (by rfl) T.z_int (by decide +kernel) (pa_cons (pe_op op_add (pe_ix ix_H (pv 0) pe_int (fun _ _ => rfl)) pe_int) pa_nil)) pe_int) (pg_sub (pv 0) pe_int set_list))
    (pss_one (ps_ret (pe_op op_mod (pe_callTy call_intI (by rfl) T.z_int (by decide +kernel) (pa_cons (pe_call G_law_mixed (hr.mono (by decide)) rfl T.g__law_mixed k_law_mixed b_law_mixed .nil pass0 (pa_cons (pe_ix ix_H (pv 0) pe_int (fun _ _ => rfl)) (pa_cons (pe_ix ix_H (pv 0) pe_int (fun _ _ => rfl)) pa_nil))) pa_nil)) (pv 1))))))), ?_⟩
    simp only [tMk1, iEnumA, iSeq, tPar3, tAugS, ipI, rRepA, rIxA, tCallSD, rExtend, tDNewK, iZipS, tXf, tSeq, tAsg, tCB, tCons, tNil, tVar, tOp, tUn, rI, rI0, rU, gName, gNil, gCons, gSub, rSetL, tC, tRet, tRetN, tNext, tIfS, tTest, tB, tAnd, tOr, tNot, tAndV, tOrV, tNotV, tIf,
  tDrop, tCall, tCallS, tPar, tAug, ipI, tBreak, tCont, tTup, tLst, rEq_int, rNe_int, rEq_bl, rNe_bl, rEq_str, rNe_str, HO.lst.injEq, HO.tup.injEq, Bool.not_eq_true', decide_eq_false_iff_not, rIxH, rIxTH, rCat, tSl, tPart, tNoPart, tBM, rAppend, L2.start, tFor_eq, tLc_eq, iList, iTup, iRng1, iRng2, iEnum, iZip, cx_K, cx_prog, cx_w, cx_nK, forall_const, tYes, wipe, List.foldl_cons, List.foldl_nil, and_assoc, List.map_cons, List.map_nil, List.length_cons, List.length_nil, List.replicate, List.append_nil, List.cons_append, List.nil_append,
  List.getElem?_cons_zero, List.getElem?_cons_succ, List.set_cons_zero, List.set_cons_succ, Nat.zero_add, Nat.add_zero, Nat.reduceAdd, Nat.reduceSub, Option.some.injEq, V.int.injEq, V.bl.injEq, V.ref.injEq, V.str.injEq,
  List.cons.injEq, and_true, true_and, exists_eq_left, exists_eq_left', exists_eq_right, exists_const, exists_eq, exists_and_left, exists_and_right, upd_same, upd_upd, atI_0, atI_1, atI_2, atI_3, ixN_4_0, ixN_4_1, ixN_4_2, ixN_4_3, some_lst, some_tup, decide_eq_true_eq, reduceCtorEq,
  V.int.injEq, Bool.true_eq_false, Bool.false_eq_true, if_true, if_false, ite_true, ite_false, eq_self, not_true_eq_false, not_false_eq_true, decide_true, decide_false, Bool.not_true, Bool.not_false, false_and, and_false, exists_false, hH, hC]
    have old : if 0 < big then CDiv big m ∧ 0 < m ∧ Q (V.int (big % m)) (upd H h (HO.lst [V.ref c, V.int ↑at_, V.int (big / m), V.int mix]))
        else (0 : Int) < 2147483549 ∧ sp_mixed [V.int ((mix + 1) % 2147483549), V.int ↑at_] (upd H h (HO.lst [V.ref c, V.int ↑at_, V.int big, V.int ((mix + 1) % 2147483549)])) (fun x H1 => ∃ i, x = V.int i ∧ 0 < m ∧ Q (V.int (i % m)) H1) E0 :=
      ite2 (fun _ => ⟨⟨h1, h2⟩, h1, q _ _ (emod big).1 (emod big).2 (key _ at_ _ _ rfl ha (ediv _ hb) hm hm2)⟩) (fun _ => fresh _ at_ _ rfl ha hb)
    refine ite2 (fun _ => ite2 (fun e => ?_) (fun _ => old)) (fun _ => old)
    have hlt : at_ < cells.length := by rw [List.length_map] at e; omega
    have hz := hp cells[at_] (List.getElem_mem hlt)
    refine ⟨.int cells[at_], atI_nat (by rw [List.getElem?_map, List.getElem?_eq_getElem hlt]; rfl), ⟨by decide, by decide, by decide⟩, _, rfl, ite2 (fun e2 => ?_) (fun e2 => ?_)⟩
    · refine ⟨_, rfl, by decide, _, _, rfl, by omega, fun r hr => ⟨r, rfl, h1, q _ _ (emod r).1 (emod r).2 (key _ (at_ + 1) _ _ (by omega) (by omega) hb hm hm2)⟩⟩
    · refine ⟨_, rfl, ite2 (fun e3 => ?_) (fun e3 => fresh _ (at_ + 1) _ (by omega) (by omega) hz)⟩
      exact ⟨_, rfl, ⟨h1, h2⟩, _, rfl, h1, q _ _ (emod _).1 (emod _).2 (key _ (at_ + 1) _ _ (by omega) (by omega) (ediv _ hz) hm hm2)⟩
end Mine

namespace Mine
open PySem PySem.Spec PyProof.Rows L2
theorem ok_law_book_of {P : Program} {w : World} {K : PySem.W.Frag} {mg : Str → Option Value} {base : Heap} (T : Txt K mg) : ∃ fd, FnOk P w K mg base CX0 3 (He.ga K "_law_book_of") fd P_law_book_of (spD K F_law_book_of) ∧ D_law_book_of K (He.ga K "_law_book_of") fd := by
  obtain ⟨fd, F⟩ := T.F_law_book_of
  obtain ⟨fd_law_take, G_law_take, D_law_take⟩ := ok_law_take (P := P) (w := w) (base := base) T
  have k_law_take := D_law_take.kp
  have b_law_take := bd_law_take D_law_take
  refine ⟨fd, F.ok sc_law_book_of (fun vs H Q E h => ?_) (fun cdv A outer s H vs Q E hr h => ?_), F⟩
  · rw [F_law_book_of_eq] at h
    exact spD_len (np := 2) (fun _ _ _ h => h.1) vs H Q E h
  · rw [F_law_book_of_eq] at h
    refine ⟨_, PSs.nox (pss_cons (ps_set (i := 2) sc_law_book_of.nd rfl (by first | exact Or.inl rfl | exact Or.inr rfl) (pe_ix (ix_U (K := K) rfl) (pe_lst (pa_cons pe_int (pa_cons pe_int (pa_cons pe_int (pa_cons pe_int (pa_cons pe_int (pa_cons (pe_op (op_addU rfl) pe_int (pe_call G_law_take (hr.mono (by decide)) rfl T.g__law_take k_law_take b_law_take .nil pass0 (pa_cons (pv 0) (pa_cons (pe_op (op_addU rfl) (pv 1) pe_int) pa_nil)))) (pa_cons (pe_call G_law_take (hr.mono (by decide)) rfl T.g__law_take k_law_take b_law_take .nil pass0 (pa_cons (pv 0) (pa_cons (pe_op op_sub (pe_op op_pow pe_int pe_int) (pv 1)) pa_nil))) pa_nil)))))))) (pe_call G_law_take (hr.mono (by decide)) rfl T.g__law_take k_law_take b_law_take .nil pass0 (pa_cons (pv 0) (pa_cons pe_int pa_nil))) (fun _ _ => rfl)))
    (pss_cons (ps_set (i := 3) sc_law_book_of.nd rfl (by first | exact Or.inl rfl | exact Or.inr rfl) (pe_op (op_addU rfl) (pe_op (op_addU rfl) (pv 1) pe_int) (pv 2)))
    (pss_cons (ps_set (i := 4) sc_law_book_of.nd rfl (by first | exact Or.inl rfl | exact Or.inr rfl) (pe_call G_law_take (hr.mono (by decide)) rfl T.g__law_take k_law_take b_law_take .nil pass0 (pa_cons (pv 0) (pa_cons (pe_callB (call_min2U rfl) (by rfl) T.z_min (by decide +kernel) (pa_cons (pv 3) (pa_cons (pe_op (op_addU rfl) (pe_op op_fdiv (pe_op op_mulU (pv 1) (pe_op (op_addU rfl) (pv 1) pe_int)) pe_int) pe_int) pa_nil))) pa_nil))))
    (pss_cons (ps_if (pt_cmpR (op_eqU rfl hr.units) (pe_call G_law_take (hr.mono (by decide)) rfl T.g__law_take k_law_take b_law_take .nil pass0 (pa_cons (pv 0) (pa_cons pe_int pa_nil))) pe_int (by first | exact nomark _ | rfl))
    (pss_one (ps_set (i := 4) sc_law_book_of.nd rfl (by first | exact Or.inl rfl | exact Or.inr rfl) (pe_call G_law_take (hr.mono (by decide)) rfl T.g__law_take k_law_take b_law_take .nil pass0 (pa_cons (pv 0) (pa_cons (pv 3) pa_nil)))))
    pss_nil)
    (pss_one (ps_ret (pe_lst (pa_cons (pv 1) (pa_cons (pv 3) (pa_cons (pv 4) pa_nil)))))))))), ?_⟩
    exact body_of0 rfl h fun X hd => (dst_seq (dst_asg (dg_op od_ix (DEg.bor (DEg.cln (df_lst (da_cons (de_int 0) (da_cons (de_int 0) (da_cons (de_int 0) (da_cons (de_int 0) (da_cons (de_int 1) (da_cons (dg_op od_add (DEg.bor (de_int 1)) (DEg.bor (de_call0 dv_nil (ds_hand (i := 0) (ds_cons (dg_op od_add (db_var 1) (DEg.bor (de_int 2))) ds_nil))))) (da_cons (de_call0 dv_nil (ds_hand (i := 0) (ds_cons (dg_op od_sub (DEg.bor (de_powC (a := 10) (b := 6) (c := 1000000) (cpow_of (by decide +kernel)) (by decide +kernel))) (db_var 1)) ds_nil))) da_nil)))))))))) (DEg.bor (de_call0 dv_nil (ds_hand (i := 0) (ds_cons (de_int 7) ds_nil))))) (dg_name 2))
    (dst_seq (dst_asg (dg_op od_add (DEg.bor (dg_op od_add (db_var 1) (DEg.bor (de_int 1)))) (db_var 2)) (dg_name 3))
    (dst_seq (dst_asg (de_call0 dv_nil (ds_hand (i := 0) (ds_cons (dg_cb cg_min2 (db_cons (db_var 3) (db_cons (DEg.bor (dg_op od_add (DEg.bor (dg_op od_fdiv (DEg.bor (dg_op od_mul (db_var 1) (DEg.bor (dg_op od_add (db_var 1) (DEg.bor (de_int 1)))))) (DEg.bor (de_int 2)))) (DEg.bor (de_int 1)))) db_nil))) ds_nil))) (dg_name 4))
    (dst_seq (dst_if (dt_test (dg_op od_eq (DEg.bor (de_call0 dv_nil (ds_hand (i := 0) (ds_cons (de_int 2) ds_nil)))) (DEg.bor (de_int 0))))
    (dst_asg (de_call0 dv_nil (ds_hand (i := 0) (ds_cons (de_var 3) ds_nil))) (dg_name 4))
    dst_next)
    (dst_ret (DEg.cln (df_lst (da_cons (de_var 1) (da_cons (de_var 3) (da_cons (de_var 4) da_nil))))))))))
end Mine

namespace Mine
open PySem PySem.Spec PyProof.Rows L2
theorem ok_is_whole {P : Program} {w : World} {K : PySem.W.Frag} {mg : Str → Option Value} {base : Heap} (T : Txt K mg) : ∃ fd, FnOk P w K mg base CX0 1 (He.ga K "is_whole") fd P_is_whole (spD K F_is_whole) ∧ D_is_whole K (He.ga K "is_whole") fd := by
  obtain ⟨fd, F⟩ := T.F_is_whole
  refine ⟨fd, F.ok sc_is_whole (fun vs H Q E h => ?_) (fun cdv A outer s H vs Q E hr h => ?_), F⟩
  · rw [F_is_whole_eq] at h
    exact spD_len (np := 3) (fun _ _ _ h => h.1) vs H Q E h
  · rw [F_is_whole_eq] at h
    refine ⟨_, PSs.nox (pss_cons (ps_if (PW.pt (pw_or (pt_not (pt_tru rfl (pe_callB (call_isiU (K := K) rfl) (by rfl) T.z_isinstance (by decide +kernel) (pa_cons (pv 0) (pa_cons (pe_bltn (v := .ty "int") (by rfl) T.z_int (by decide +kernel) rfl) pa_nil))) (by intro _; rfl))) (pw_or1 (pt_tru rfl (pe_callB (call_isiU (K := K) rfl) (by rfl) T.z_isinstance (by decide +kernel) (pa_cons (pv 0) (pa_cons (pe_bltn (v := .ty "bool") (by rfl) T.z_bool (by decide +kernel) rfl) pa_nil))) (by intro _; rfl)))))
    (pss_one (ps_ret pe_bl))
    pss_nil)
    (pss_one (ps_ret (pe_and (pe_or (pe_cmpR op_isN (pv 1) pe_non (by first | exact nomark _ | rfl)) (pe_one (pe_cmpR op_ge (pv 0) (pv 1) (by first | exact nomark _ | rfl)))) (pe_one (pe_or (pe_cmpR op_isN (pv 2) pe_non (by first | exact nomark _ | rfl)) (pe_one (pe_cmpR op_le (pv 0) (pv 2) (by first | exact nomark _ | rfl))))))))), ?_⟩
    exact body_of0 rfl h fun X hd => (dst_seq (dst_if (dt_or (dt_not (dt_tru (DEg.bor (dg_cb (cg_isi known_int) (db_cons (db_var 0) (db_cons (DEg.bor (de_raw (.ty "int"))) db_nil)))))) (dt_tru (DEg.bor (dg_cb (cg_isi known_bool) (db_cons (db_var 0) (db_cons (DEg.bor (de_raw (.ty "bool"))) db_nil))))))
    (dst_ret (de_bl false))
    dst_next)
    (dst_ret (de_andV (de_orV (dg_op od_isN (db_var 1) (DEg.bor de_non)) (dg_op od_ge (db_var 0) (db_var 1))) (de_orV (dg_op od_isN (db_var 2) (DEg.bor de_non)) (dg_op od_le (db_var 0) (db_var 2))))))
end Mine

namespace Mine
open PySem PySem.Spec PyProof.Rows L2
theorem ok_check_number {P : Program} {w : World} {K : PySem.W.Frag} {mg : Str → Option Value} {base : Heap} (T : Txt K mg) : ∃ fd, FnOk P w K mg base (L2.CX P w) 2 (He.ga K "check_number") fd P_check_number (spD K F_check_number) ∧ D_check_number K (He.ga K "check_number") fd := by
  obtain ⟨fd, F⟩ := T.F_check_number
  obtain ⟨fd_is_whole, G_is_whole, D_is_whole⟩ := ok_is_whole (P := P) (w := w) (base := base) T
  have k_is_whole := D_is_whole.kp
  obtain ⟨ds_is_whole_3, r_is_whole_3, b_is_whole_3⟩ := bd_is_whole_3 D_is_whole
  refine ⟨fd, F.ok sc_check_number (fun vs H Q E h => ?_) (fun cdv A outer s H vs Q E hr h => ?_), F⟩
  · rw [F_check_number_eq] at h
    exact spD_len (np := 3) (fun _ _ _ h => h.1) vs H Q E h
  · rw [F_check_number_eq] at h
    refine ⟨_, (pss_cons (ps_if (pt_not (pt_tru rfl (pe_call G_is_whole (hr.mono (by decide)) rfl T.g_is_whole k_is_whole b_is_whole_3 r_is_whole_3 pass0 (pa_cons (pv 0) (pa_cons (pv 1) (pa_cons (pv 2) pa_nil)))) (by intro _; rfl)))
    (pss_one (ps_raise rfl (takes_of rfl rfl rfl rfl) (mk0 T.e_BadNumber T.g_BadNumber rfl)))
    pss_nil)
    (pss_one (ps_ret (pv 0)))), ?_⟩
    exact body_of rfl h fun X hd => (dst_seq (dst_if (dt_not (dt_tru (DEg.bor (de_call0 dv_nil (ds_cons (de_var 0) (ds_cons (de_var 1) (ds_cons (de_var 2) ds_nil)))))))
    (dst_raise rfl)
    dst_next)
    (dst_ret (de_var 0)))
end Mine

namespace Mine
open PySem PySem.Spec PyProof.Rows L2
theorem ok_check_modulus {P : Program} {w : World} {K : PySem.W.Frag} {mg : Str → Option Value} {base : Heap} (T : Txt K mg) : ∃ fd, FnOk P w K mg base (L2.CX P w) 2 (He.ga K "_check_modulus") fd P_check_modulus (spD K F_check_modulus) ∧ D_check_modulus K (He.ga K "_check_modulus") fd := by
  obtain ⟨fd, F⟩ := T.F_check_modulus
  obtain ⟨fd_is_whole, G_is_whole, D_is_whole⟩ := ok_is_whole (P := P) (w := w) (base := base) T
  have k_is_whole := D_is_whole.kp
  obtain ⟨ds_is_whole_3, r_is_whole_3, b_is_whole_3⟩ := bd_is_whole_3 D_is_whole
  refine ⟨fd, F.ok sc_check_modulus (fun vs H Q E h => ?_) (fun cdv A outer s H vs Q E hr h => ?_), F⟩
  · rw [F_check_modulus_eq] at h
    exact spD_len (np := 2) (fun _ _ _ h => h.1) vs H Q E h
  · rw [F_check_modulus_eq] at h
    refine ⟨_, (pss_one (ps_if (pt_not (pt_tru rfl (pe_call G_is_whole (hr.mono (by decide)) rfl T.g_is_whole k_is_whole b_is_whole_3 r_is_whole_3 pass0 (pa_cons (pv 0) (pa_cons (pv 1) (pa_cons (pe_glob (v := .int (1000000)) rfl T.c_MOST_MODULUS.choose_spec ⟨_, rfl⟩) pa_nil)))) (by intro _; rfl)))
    (pss_one (ps_raise rfl (takes_of rfl rfl rfl rfl) (mk0 T.e_BadModulus T.g_BadModulus rfl)))
    pss_nil)), ?_⟩
    exact body_of rfl h fun X hd => (dst_if (dt_not (dt_tru (DEg.bor (de_call0 dv_nil (ds_cons (de_var 0) (ds_cons (de_var 1) (ds_cons (de_int (1000000)) ds_nil)))))))
    (dst_raise rfl)
    dst_next)
end Mine

namespace Mine
open PySem PySem.Spec PyProof.Rows L2
theorem ok_check_rest {P : Program} {w : World} {K : PySem.W.Frag} {mg : Str → Option Value} {base : Heap} (T : Txt K mg) : ∃ fd, FnOk P w K mg base (L2.CX P w) 2 (He.ga K "_check_rest") fd P_check_rest (spD K F_check_rest) ∧ D_check_rest K (He.ga K "_check_rest") fd := by
  obtain ⟨fd, F⟩ := T.F_check_rest
  obtain ⟨fd_is_whole, G_is_whole, D_is_whole⟩ := ok_is_whole (P := P) (w := w) (base := base) T
  have k_is_whole := D_is_whole.kp
  obtain ⟨ds_is_whole_3, r_is_whole_3, b_is_whole_3⟩ := bd_is_whole_3 D_is_whole
  refine ⟨fd, F.ok sc_check_rest (fun vs H Q E h => ?_) (fun cdv A outer s H vs Q E hr h => ?_), F⟩
  · rw [F_check_rest_eq] at h
    exact spD_len (np := 2) (fun _ _ _ h => h.1) vs H Q E h
  · rw [F_check_rest_eq] at h
    refine ⟨_, (pss_one (ps_if (pt_not (pt_tru rfl (pe_call G_is_whole (hr.mono (by decide)) rfl T.g_is_whole k_is_whole b_is_whole_3 r_is_whole_3 pass0 (pa_cons (pv 0) (pa_cons pe_int (pa_cons (pe_op op_sub (pv 1) pe_int) pa_nil)))) (by intro _; rfl)))
    (pss_one (ps_raise rfl (takes_of rfl rfl rfl rfl) (mk0 T.e_BadRest T.g_BadRest rfl)))
    pss_nil)), ?_⟩
    exact body_of rfl h fun X hd => (dst_if (dt_not (dt_tru (DEg.bor (de_call0 dv_nil (ds_cons (de_var 0) (ds_cons (de_int 0) (ds_cons (dg_op od_sub (db_var 1) (DEg.bor (de_int 1))) ds_nil)))))))
    (dst_raise rfl)
    dst_next)
end Mine

namespace Mine
open PySem PySem.Spec PyProof.Rows L2
theorem ok_SumBook___init {P : Program} {w : World} {K : PySem.W.Frag} {mg : Str → Option Value} {base : Heap} (T : Txt K mg) : ∃ fd, FnOk P w K mg base (L2.CX P w) 3 (He.ma K (He.ga K "SumBook") "__init__") fd P_SumBook___init (spI K "SumBook" F_SumBook___init) ∧ D_SumBook___init K (He.ma K (He.ga K "SumBook") "__init__") fd := by
  obtain ⟨fd, F⟩ := T.F_SumBook___init
  obtain ⟨fd_check_number, G_check_number, D_check_number⟩ := ok_check_number (P := P) (w := w) (base := base) T
  have k_check_number := D_check_number.kp
  have b_check_number := bd_check_number D_check_number
  obtain ⟨fd_check_modulus, G_check_modulus, D_check_modulus⟩ := ok_check_modulus (P := P) (w := w) (base := base) T
  have k_check_modulus := D_check_modulus.kp
  have b_check_modulus := bd_check_modulus D_check_modulus
  obtain ⟨fd_check_rest, G_check_rest, D_check_rest⟩ := ok_check_rest (P := P) (w := w) (base := base) T
  have k_check_rest := D_check_rest.kp
  have b_check_rest := bd_check_rest D_check_rest
  refine ⟨fd, F.ok sc_SumBook___init (fun vs H Q E h => ?_) (fun cdv A outer s H vs Q E hr h => ?_), F⟩
  · rw [F_SumBook___init_eq] at h
    exact spI_len (np := 4) (fun _ _ _ h => h.1) vs H Q E h
  · rw [F_SumBook___init_eq] at h
    refine ⟨_, (pss_cons (ps_expr (pe_call G_check_number (hr.mono (by decide)) rfl T.g_check_number k_check_number b_check_number .nil (E := E) (passes_call (takes_of rfl rfl rfl rfl) fun _ _ _ _ h => h) (pa_cons (pv 1) (pa_cons pe_int (pa_cons (pe_glob (v := .int (200)) rfl T.c_MOST_HERE.choose_spec ⟨_, rfl⟩) pa_nil)))))
    (pss_cons (ps_expr (pe_call G_check_modulus (hr.mono (by decide)) rfl T.g__check_modulus k_check_modulus b_check_modulus .nil (E := E) (passes_call (takes_of rfl rfl rfl rfl) fun _ _ _ _ h => h) (pa_cons (pv 2) (pa_cons (pe_op (op_addU rfl) (pv 1) pe_int) pa_nil))))
    (pss_cons (ps_expr (pe_call G_check_rest (hr.mono (by decide)) rfl T.g__check_rest k_check_rest b_check_rest .nil (E := E) (passes_call (takes_of rfl rfl rfl rfl) fun _ _ _ _ h => h) (pa_cons (pv 3) (pa_cons (pv 2) pa_nil))))
    (pss_cons (ps_fld (pv 0) (pv 1) (by rfl))
    (pss_cons (ps_fld (pv 0) (pv 2) (by rfl))
    (pss_one (ps_fld (pv 0) (pv 3) (by rfl)))))))), ?_⟩
    exact body_ofI rfl h fun H X hd x => (dst_seq (dst_drop (de_call rfl dv_nil (ds_cons (de_var 1) (ds_cons (de_int 0) (ds_cons (de_int (200)) ds_nil)))))
    (dst_seq (dst_drop (de_call rfl dv_nil (ds_cons (de_var 2) (ds_cons (dg_op od_add (db_var 1) (DEg.bor (de_int 1))) ds_nil))))
    (dst_seq (dst_drop (de_call rfl dv_nil (ds_cons (de_var 3) (ds_cons (de_var 2) ds_nil))))
    (dst_seq (dst_setF (fld_ok T) (de_var 1))
    (dst_seq (dst_setF (fld_ok T) (de_var 2))
    (dst_setF (fld_ok T) (de_var 3)))))))
end Mine

namespace Mine
open PySem PySem.Spec PyProof.Rows L2
theorem ok_law_made {P : Program} {w : World} {K : PySem.W.Frag} {mg : Str → Option Value} {base : Heap} (T : Txt K mg) : ∃ fd, FnOk P w K mg base CX0 5 (He.ga K "_law_made") fd P_law_made (spD K F_law_made) ∧ D_law_made K (He.ga K "_law_made") fd := by
  obtain ⟨fd, F⟩ := T.F_law_made
  obtain ⟨fd_SumBook___init, G_SumBook___init, D_SumBook___init⟩ := ok_SumBook___init (P := P) (w := w) (base := base) T
  have k_SumBook___init := D_SumBook___init.kp
  have b_SumBook___init := bd_SumBook___init D_SumBook___init
  refine ⟨fd, F.ok sc_law_made (fun vs H Q E h => ?_) (fun cdv A outer s H vs Q E hr h => ?_), F⟩
  · rw [F_law_made_eq] at h
    exact spD_len (np := 3) (fun _ _ _ h => h.1) vs H Q E h
  · rw [F_law_made_eq] at h
    have hd : ∀ X hd, DS ⟨K, H, X, hd, none, fun _ _ _ _ => False, none⟩ _ S_law_made := fun X hd => (dst_seq (dst_try rfl rfl (mt_ok T) (fun W => (dst_asg (de_makeS (cls := "SumBook") rfl dv_nil (ds_cons (de_var 0) (ds_cons (de_var 1) (ds_cons (de_var 2) ds_nil)))) (dg_name 3))) (HsOk.cons (fun a cls d => (dst_ret (de_tup (da_cons (de_str "number") (da_cons (de_isX (isx_PlaceError T)) da_nil))))) (HsOk.cons (fun a cls d => (dst_ret (de_tup (da_cons (de_str "modulus") (da_cons (de_isX (isx_PlaceError T)) da_nil))))) (HsOk.cons (fun a cls d => (dst_ret (de_tup (da_cons (de_str "rest") (da_cons (de_isX (isx_PlaceError T)) da_nil))))) HsOk.nil))))
    (dst_ret (de_var 3)))
    refine ⟨_, PSs.nox (pss_cons (ps_try_named rfl rfl sc_law_made.nd takes0 (fun W pn xe tk0 po => (pss_one (ps_set (i := 3) sc_law_made.nd rfl (by first | exact Or.inl rfl | exact Or.inr rfl) (pe_makeS T.r_SumBook G_SumBook___init (hr.mono (by decide)) rfl T.g_SumBook b_SumBook___init .nil (fun σ => passAt tk0 σ) (pa_cons (pv 0) (pa_cons (pv 1) (pa_cons (pv 2) pa_nil))))))) (HdsN.named (i := 4) rfl rfl ⟨rfl, by decide, .inl T.g_BadNumber⟩ (fun a oe cls d pn hz hf => (pss_one (ps_ret (pe_tup (pa_cons pe_str (pa_cons (pe_callB (call_isX (K := K) rfl hz hf) (by rfl) T.z_isinstance (by decide +kernel) (pa_cons (pv 4) (pa_cons (pe_glob (v := .ref (He.ga _ "PlaceError")) rfl T.g_PlaceError rfl) pa_nil))) pa_nil)))))) (HdsN.named (i := 4) rfl rfl ⟨rfl, by decide, .inl T.g_BadModulus⟩ (fun a oe cls d pn hz hf => (pss_one (ps_ret (pe_tup (pa_cons pe_str (pa_cons (pe_callB (call_isX (K := K) rfl hz hf) (by rfl) T.z_isinstance (by decide +kernel) (pa_cons (pv 4) (pa_cons (pe_glob (v := .ref (He.ga _ "PlaceError")) rfl T.g_PlaceError rfl) pa_nil))) pa_nil)))))) (HdsN.named (i := 4) rfl rfl ⟨rfl, by decide, .inl T.g_BadRest⟩ (fun a oe cls d pn hz hf => (pss_one (ps_ret (pe_tup (pa_cons pe_str (pa_cons (pe_callB (call_isX (K := K) rfl hz hf) (by rfl) T.z_isinstance (by decide +kernel) (pa_cons (pv 4) (pa_cons (pe_glob (v := .ref (He.ga _ "PlaceError")) rfl T.g_PlaceError rfl) pa_nil))) pa_nil)))))) HdsN.nil))))
    (pss_one (ps_ret (pv 3)))), ?_⟩
    dsimp only [Bc.wE] at hd
    have r := body_of0 (N := N_law_made) rfl h hd
    exact r
end Mine

namespace Mine
open PySem PySem.Spec PyProof.Rows L2
theorem ok_SumBook_contrary {P : Program} {w : World} {K : PySem.W.Frag} {mg : Str → Option Value} {base : Heap} (T : Txt K mg) : ∃ fd, FnOk P w K mg base (L2.CX P w) 5 (He.ma K (He.ga K "SumBook") "contrary") fd P_SumBook_contrary (spD K F_SumBook_contrary) ∧ D_SumBook_contrary K (He.ma K (He.ga K "SumBook") "contrary") fd := by
  obtain ⟨fd, F⟩ := T.F_SumBook_contrary
  obtain ⟨fd_SumBook___init, G_SumBook___init, D_SumBook___init⟩ := ok_SumBook___init (P := P) (w := w) (base := base) T
  have k_SumBook___init := D_SumBook___init.kp
  have b_SumBook___init := bd_SumBook___init D_SumBook___init
  refine ⟨fd, F.ok sc_SumBook_contrary (fun vs H Q E h => ?_) (fun cdv A outer s H vs Q E hr h => ?_), F⟩
  · rw [F_SumBook_contrary_eq] at h
    exact spD_len (np := 1) (fun _ _ _ h => h.1) vs H Q E h
  · rw [F_SumBook_contrary_eq] at h
    refine ⟨_, (pss_cons (ps_set (i := 1) sc_SumBook_contrary.nd rfl (by first | exact Or.inl rfl | exact Or.inr rfl) (pe_op op_fdiv (pe_op op_mulU (pe_fldU (K := K) rfl (pv 0) (by rfl)) (pe_op (op_addU rfl) (pe_fldU (K := K) rfl (pv 0) (by rfl)) pe_int)) pe_int))
    (pss_one (ps_ret (pe_make T.r_SumBook G_SumBook___init (hr.mono (by decide)) rfl T.g_SumBook b_SumBook___init .nil (E := E) (passes_call (takes_of rfl rfl rfl rfl) fun _ _ _ _ h => h) (pa_cons (pe_fldU (K := K) rfl (pv 0) (by rfl)) (pa_cons (pe_fldU (K := K) rfl (pv 0) (by rfl)) (pa_cons (pe_op op_mod (pe_op op_sub (pv 1) (pe_fldU (K := K) rfl (pv 0) (by rfl))) (pe_fldU (K := K) rfl (pv 0) (by rfl))) pa_nil))))))), ?_⟩
    exact body_of rfl h fun X hd => (dst_seq (dst_asg (dg_op od_fdiv (DEg.bor (dg_op od_mul (DEg.bor (de_fld (fld_ok T) (db_var 0))) (DEg.bor (dg_op od_add (DEg.bor (de_fld (fld_ok T) (db_var 0))) (DEg.bor (de_int 1)))))) (DEg.bor (de_int 2))) (dg_name 1))
    (dst_ret (de_make rfl dv_nil (ds_cons (de_fld (fld_ok T) (db_var 0)) (ds_cons (de_fld (fld_ok T) (db_var 0)) (ds_cons (dg_op od_mod (DEg.bor (dg_op od_sub (db_var 1) (DEg.bor (de_fld (fld_ok T) (db_var 0))))) (DEg.bor (de_fld (fld_ok T) (db_var 0)))) ds_nil))))))
end Mine

namespace Mine
open PySem PySem.Spec PyProof.Rows L2
theorem ok_law_whole {P : Program} {w : World} {K : PySem.W.Frag} {mg : Str → Option Value} {base : Heap} (T : Txt K mg) : ∃ fd, FnOk P w K mg base CX0 1 (He.ga K "_law_whole") fd P_law_whole (spD K F_law_whole) ∧ D_law_whole K (He.ga K "_law_whole") fd := by
  obtain ⟨fd, F⟩ := T.F_law_whole
  refine ⟨fd, F.ok sc_law_whole (fun vs H Q E h => ?_) (fun cdv A outer s H vs Q E hr h => ?_), F⟩
  · rw [F_law_whole_eq] at h
    exact spD_len (np := 1) (fun _ _ _ h => h.1) vs H Q E h
  · rw [F_law_whole_eq] at h
    refine ⟨_, PSs.nox (pss_one (ps_ret (pe_and (pe_callB (call_isiU (K := K) rfl) (by rfl) T.z_isinstance (by decide +kernel) (pa_cons (pv 0) (pa_cons (pe_bltn (v := .ty "int") (by rfl) T.z_int (by decide +kernel) rfl) pa_nil))) (pe_one (pe_notVT (K := K) rfl (pe_callB (call_isiU (K := K) rfl) (by rfl) T.z_isinstance (by decide +kernel) (pa_cons (pv 0) (pa_cons (pe_bltn (v := .ty "bool") (by rfl) T.z_bool (by decide +kernel) rfl) pa_nil)))))))), ?_⟩
    exact body_of0 rfl h fun X hd => (dst_ret (de_andV (dg_cb (cg_isi known_int) (db_cons (db_var 0) (db_cons (DEg.bor (de_raw (.ty "int"))) db_nil))) (de_notVT (DEg.bor (dg_cb (cg_isi known_bool) (db_cons (db_var 0) (db_cons (DEg.bor (de_raw (.ty "bool"))) db_nil)))))))
end Mine

namespace Mine
open PySem PySem.Spec PyProof.Rows L2
theorem ok_SumBook_is_full {P : Program} {w : World} {K : PySem.W.Frag} {mg : Str → Option Value} {base : Heap} (T : Txt K mg) : ∃ fd, FnOk P w K mg base CX0 1 (gA K "SumBook" "is_full") fd P_SumBook_is_full (spD K F_SumBook_is_full) ∧ D_SumBook_is_full K (gA K "SumBook" "is_full") fd := by
  obtain ⟨fd, F⟩ := T.F_SumBook_is_full
  refine ⟨fd, F.ok sc_SumBook_is_full (fun vs H Q E h => ?_) (fun cdv A outer s H vs Q E hr h => ?_), F⟩
  · rw [F_SumBook_is_full_eq] at h
    exact spD_len (np := 1) (fun _ _ _ h => h.1) vs H Q E h
  · rw [F_SumBook_is_full_eq] at h
    refine ⟨_, PSs.nox (pss_one (ps_ret (pe_cmpR (op_eqU rfl hr.units) (pe_fldU (K := K) rfl (pv 0) (by rfl)) (pe_op (op_addU rfl) (pe_fldU (K := K) rfl (pv 0) (by rfl)) pe_int) (by first | exact nomark _ | rfl)))), ?_⟩
    exact body_of0 rfl h fun X hd => (dst_ret (dg_op od_eq (DEg.bor (de_fld (fld_ok T) (db_var 0))) (DEg.bor (dg_op od_add (DEg.bor (de_fld (fld_ok T) (db_var 0))) (DEg.bor (de_int 1))))))
end Mine

namespace Mine
open PySem PySem.Spec PyProof.Rows L2
theorem ok_law_is_book {P : Program} {w : World} {K : PySem.W.Frag} {mg : Str → Option Value} {base : Heap} (T : Txt K mg) : ∃ fd, FnOk P w K mg base CX0 3 (He.ga K "_law_is_book") fd P_law_is_book (spD K F_law_is_book) ∧ D_law_is_book K (He.ga K "_law_is_book") fd := by
  obtain ⟨fd, F⟩ := T.F_law_is_book
  obtain ⟨fd_law_whole, G_law_whole, D_law_whole⟩ := ok_law_whole (P := P) (w := w) (base := base) T
  have k_law_whole := D_law_whole.kp
  have b_law_whole := bd_law_whole D_law_whole
  obtain ⟨fd_SumBook_is_full, G_SumBook_is_full, D_SumBook_is_full⟩ := ok_SumBook_is_full (P := P) (w := w) (base := base) T
  have k_SumBook_is_full := D_SumBook_is_full.kp
  have b_SumBook_is_full := bd_SumBook_is_full D_SumBook_is_full
  refine ⟨fd, F.ok sc_law_is_book (fun vs H Q E h => ?_) (fun cdv A outer s H vs Q E hr h => ?_), F⟩
  · rw [F_law_is_book_eq] at h
    exact spD_len (np := 4) (fun _ _ _ h => h.1) vs H Q E h
  · rw [F_law_is_book_eq] at h
    refine ⟨_, PSs.nox (pss_cons (ps_if (pt_not (pt_tru rfl (pe_callB (call_isiU (K := K) rfl) (by rfl) T.z_isinstance (by decide +kernel) (pa_cons (pv 0) (pa_cons (pe_glob (v := .ref (He.ga _ "SumBook")) rfl T.g_SumBook rfl) pa_nil))) (by intro _; rfl)))
    (pss_one (ps_ret pe_bl))
    pss_nil)
    (pss_cons (ps_set (i := 4) sc_law_is_book.nd rfl (by first | exact Or.inl rfl | exact Or.inr rfl) (pe_lst (pa_cons (pe_fldU (K := K) rfl (pv 0) (by rfl)) (pa_cons (pe_fldU (K := K) rfl (pv 0) (by rfl)) (pa_cons (pe_fldU (K := K) rfl (pv 0) (by rfl)) pa_nil)))))
    (pss_cons (ps_if (PW.pt (pw_or (pt_not (pt_tru rfl (pe_callB (call_allU (K := K) rfl rfl) (by rfl) T.z_all (by decide +kernel) (pa_cons (pe_lc (own := [("_law_one", 5)]) rfl sc_law_is_book.nd (pi_seq (pv 4)) (blkOk_by (own := [("_law_one", 5)]) (N := N_law_is_book) (sc := defScope s_law_is_book) (by decide +kernel)) (fun _ _ _ _ _ => (pg_name (i := 5) sc_law_is_book.nd rfl (by first | exact Or.inl rfl | exact Or.inr rfl))) (fun _ _ _ _ _ => pts_nil) (fun _ _ _ _ _ => (pe_call G_law_whole (hr.mono (by decide)) rfl T.g__law_whole k_law_whole b_law_whole .nil pass0 (pa_cons (pv 5) pa_nil)))) pa_nil)) (by intro _; rfl))) (pw_or1 (pt_cmpR (op_neU rfl hr.units) (pv 4) (pe_lst (pa_cons (pv 1) (pa_cons (pv 2) (pa_cons (pv 3) pa_nil)))) (by first | exact nomark _ | rfl)))))
    (pss_one (ps_ret pe_bl))
    pss_nil)
    (pss_one (ps_ret (pe_and (pe_callB (call_isiU (K := K) rfl) (by rfl) T.z_isinstance (by decide +kernel) (pa_cons (pe_prop (pv 0) T.l_SumBook T.p_SumBook_is_is_full G_SumBook_is_full (hr.mono (by decide)) b_SumBook_is_full .nil pass0 (by rfl)) (pa_cons (pe_bltn (v := .ty "bool") (by rfl) T.z_bool (by decide +kernel) rfl) pa_nil))) (pe_one (pe_cmpR (op_eqU rfl hr.units) (pe_prop (pv 0) T.l_SumBook T.p_SumBook_is_is_full G_SumBook_is_full (hr.mono (by decide)) b_SumBook_is_full .nil pass0 (by rfl)) (pe_cmpR (op_eqU rfl hr.units) (pv 2) (pe_op (op_addU rfl) (pv 1) pe_int) (by first | exact nomark _ | rfl)) (by first | exact nomark _ | rfl))))))))), ?_⟩
    exact body_of0 rfl h fun X hd => (dst_seq (dst_if (dt_not (dt_tru (DEg.bor (de_isI (isi_SumBook T) (db_var 0)))))
    (dst_ret (de_bl false))
    dst_next)
    (dst_seq (dst_asg (DEg.cln (df_lst (da_cons (de_fld (fld_ok T) (db_var 0)) (da_cons (de_fld (fld_ok T) (db_var 0)) (da_cons (de_fld (fld_ok T) (db_var 0)) da_nil))))) (dg_name 4))
    (dst_seq (dst_if (dt_or (dt_not (dt_tru (DEg.bor (dg_cb cg_all (db_cons (DEg.bor (DEg.cln (df_lc (di_seq (R := Bor) (db_var 4)) (dg_name 5) dt_yes (de_call0 dv_nil (ds_cons (de_var 5) ds_nil))))) db_nil))))) (dt_test (dg_op od_ne (db_var 4) (DEg.bor (DEg.cln (df_lst (da_cons (de_var 1) (da_cons (de_var 2) (da_cons (de_var 3) da_nil)))))))))
    (dst_ret (de_bl false))
    dst_next)
    (dst_ret (de_andV (dg_cb (cg_isi known_bool) (db_cons (DEg.bor (de_prop (de_var 0))) (db_cons (DEg.bor (de_raw (.ty "bool"))) db_nil))) (dg_op od_eq (DEg.bor (de_prop (de_var 0))) (DEg.bor (dg_op od_eq (db_var 2) (DEg.bor (dg_op od_add (db_var 1) (DEg.bor (de_int 1))))))))))))
end Mine

namespace Mine
open PySem PySem.Spec PyProof.Rows L2
theorem ok_SumBook_turned {P : Program} {w : World} {K : PySem.W.Frag} {mg : Str → Option Value} {base : Heap} (T : Txt K mg) : ∃ fd, FnOk P w K mg base (L2.CX P w) 5 (He.ma K (He.ga K "SumBook") "turned") fd P_SumBook_turned (spD K F_SumBook_turned) ∧ D_SumBook_turned K (He.ma K (He.ga K "SumBook") "turned") fd := by
  obtain ⟨fd, F⟩ := T.F_SumBook_turned
  obtain ⟨fd_SumBook_is_full, G_SumBook_is_full, D_SumBook_is_full⟩ := ok_SumBook_is_full (P := P) (w := w) (base := base) T
  have k_SumBook_is_full := D_SumBook_is_full.kp
  have b_SumBook_is_full := bd_SumBook_is_full D_SumBook_is_full
  obtain ⟨fd_SumBook___init, G_SumBook___init, D_SumBook___init⟩ := ok_SumBook___init (P := P) (w := w) (base := base) T
  have k_SumBook___init := D_SumBook___init.kp
  have b_SumBook___init := bd_SumBook___init D_SumBook___init
  refine ⟨fd, F.ok sc_SumBook_turned (fun vs H Q E h => ?_) (fun cdv A outer s H vs Q E hr h => ?_), F⟩
  · rw [F_SumBook_turned_eq] at h
    exact spD_len (np := 1) (fun _ _ _ h => h.1) vs H Q E h
  · rw [F_SumBook_turned_eq] at h
    refine ⟨_, (pss_cons (ps_if (pt_not (pt_tru rfl (pe_prop (pv 0) T.l_SumBook T.p_SumBook_is_is_full G_SumBook_is_full (hr.mono (by decide)) b_SumBook_is_full .nil pass0 (by rfl)) (by intro _; rfl)))
    (pss_one (ps_raise rfl (takes_of rfl rfl rfl rfl) (mk0 T.e_NotPerfect T.g_NotPerfect rfl)))
    pss_nil)
    (pss_one (ps_ret (pe_make T.r_SumBook G_SumBook___init (hr.mono (by decide)) rfl T.g_SumBook b_SumBook___init .nil (E := E) (passes_call (takes_of rfl rfl rfl rfl) fun _ _ _ _ h => h) (pa_cons (pe_fldU (K := K) rfl (pv 0) (by rfl)) (pa_cons (pe_fldU (K := K) rfl (pv 0) (by rfl)) (pa_cons (pe_op op_mod (pe_un un_neg (pe_fldU (K := K) rfl (pv 0) (by rfl))) (pe_fldU (K := K) rfl (pv 0) (by rfl))) pa_nil))))))), ?_⟩
    exact body_of rfl h fun X hd => (dst_seq (dst_if (dt_not (dt_tru (DEg.bor (de_prop (de_var 0)))))
    (dst_raise rfl)
    dst_next)
    (dst_ret (de_make rfl dv_nil (ds_cons (de_fld (fld_ok T) (db_var 0)) (ds_cons (de_fld (fld_ok T) (db_var 0)) (ds_cons (dg_op od_mod (DEg.bor (de_un ud_neg (DEg.bor (de_fld (fld_ok T) (db_var 0))))) (DEg.bor (de_fld (fld_ok T) (db_var 0)))) ds_nil))))))
end Mine

namespace Mine
open PySem PySem.Spec PyProof.Rows L2
theorem ok_law_turned {P : Program} {w : World} {K : PySem.W.Frag} {mg : Str → Option Value} {base : Heap} (T : Txt K mg) : ∃ fd, FnOk P w K mg base CX0 6 (He.ga K "_law_turned") fd P_law_turned (spD K F_law_turned) ∧ D_law_turned K (He.ga K "_law_turned") fd := by
  obtain ⟨fd, F⟩ := T.F_law_turned
  obtain ⟨fd_SumBook_turned, G_SumBook_turned, D_SumBook_turned⟩ := ok_SumBook_turned (P := P) (w := w) (base := base) T
  have k_SumBook_turned := D_SumBook_turned.kp
  have b_SumBook_turned := bd_SumBook_turned D_SumBook_turned
  refine ⟨fd, F.ok sc_law_turned (fun vs H Q E h => ?_) (fun cdv A outer s H vs Q E hr h => ?_), F⟩
  · rw [F_law_turned_eq] at h
    exact spD_len (np := 1) (fun _ _ _ h => h.1) vs H Q E h
  · rw [F_law_turned_eq] at h
    refine ⟨_, PSs.nox (pss_cons (ps_try_named rfl rfl sc_law_turned.nd takes0 (fun W pn xe tk0 po => (pss_one (ps_set (i := 1) sc_law_turned.nd rfl (by first | exact Or.inl rfl | exact Or.inr rfl) (pe_methS0 (pv 0) T.l_SumBook T.b_SumBook_is_turned G_SumBook_turned (hr.mono (by decide)) b_SumBook_turned .nil (fun σ => passAt tk0 σ))))) (HdsN.named (i := 2) rfl rfl ⟨rfl, by decide, .inl T.g_NotPerfect⟩ (fun a oe cls d pn hz hf => (pss_one (ps_ret (pe_tup (pa_cons pe_str (pa_cons (pe_callB (call_isX (K := K) rfl hz hf) (by rfl) T.z_isinstance (by decide +kernel) (pa_cons (pv 2) (pa_cons (pe_glob (v := .ref (He.ga _ "PlaceError")) rfl T.g_PlaceError rfl) pa_nil))) pa_nil)))))) HdsN.nil))
    (pss_one (ps_ret (pv 1)))), ?_⟩
    exact body_of0 rfl h fun X hd => (dst_seq (dst_try rfl rfl (mt_ok T) (fun W => (dst_asg (de_methS rfl dv_nil (de_var 0) ds_nil) (dg_name 1))) (HsOk.cons (fun a cls d => (dst_ret (de_tup (da_cons (de_str "not full") (da_cons (de_isX (isx_PlaceError T)) da_nil))))) HsOk.nil))
    (dst_of S_law_turned_r5_eq
    (dst_ret (de_var 1))))
end Mine

namespace Mine
open PySem PySem.Spec PyProof.Rows L2
theorem ok_law_word {P : Program} {w : World} {K : PySem.W.Frag} {mg : Str → Option Value} {base : Heap} (T : Txt K mg) : ∃ fd, FnOk P w K mg base CX0 3 (He.ga K "_law_word") fd P_law_word (spD K F_law_word) ∧ D_law_word K (He.ga K "_law_word") fd := by
  obtain ⟨fd, F⟩ := T.F_law_word
  obtain ⟨fd_law_take, G_law_take, D_law_take⟩ := ok_law_take (P := P) (w := w) (base := base) T
  have k_law_take := D_law_take.kp
  have b_law_take := bd_law_take D_law_take
  refine ⟨fd, F.ok sc_law_word (fun vs H Q E h => ?_) (fun cdv A outer s H vs Q E hr h => ?_), F⟩
  · rw [F_law_word_eq] at h
    exact spD_len (np := 3) (fun _ _ _ h => h.1) vs H Q E h
  · rw [F_law_word_eq] at h
    refine ⟨_, PSs.nox (pss_one (ps_ret (pe_callTy (call_tupU (K := K) rfl) (by rfl) T.z_tuple (by decide +kernel) (pa_cons (pe_lc (own := [("_law_k", 3)]) rfl sc_law_word.nd (pi_range1 (by rfl) T.z_range (pa_cons (pv 2) pa_nil)) (blkOk_by (own := [("_law_k", 3)]) (N := N_law_word) (sc := defScope s_law_word) (by decide +kernel)) (fun _ _ _ _ _ => (pg_name (i := 3) sc_law_word.nd rfl (by first | exact Or.inl rfl | exact Or.inr rfl))) (fun _ _ _ _ _ => pts_nil) (fun _ _ _ _ _ => (pe_call G_law_take (hr.mono (by decide)) rfl T.g__law_take k_law_take b_law_take .nil pass0 (pa_cons (pv 0) (pa_cons (pv 1) pa_nil))))) pa_nil)))), ?_⟩
    exact body_of0 rfl h fun X hd => (dst_ret (dg_cb cg_tup (db_cons (DEg.bor (DEg.cln (df_lc (di_rng1 (db_cons (db_var 2) db_nil)) (dg_name 3) dt_yes (de_call0 dv_nil (ds_hand (i := 0) (ds_cons (de_var 1) ds_nil)))))) db_nil)))
end Mine

namespace Mine
open PySem PySem.Spec PyProof.Rows L2
theorem ok_law_runny {P : Program} {w : World} {K : PySem.W.Frag} {mg : Str → Option Value} {base : Heap} (T : Txt K mg) : ∃ fd, FnOk P w K mg base CX0 4 (He.ga K "_law_runny") fd P_law_runny (spD K F_law_runny) ∧ D_law_runny K (He.ga K "_law_runny") fd := by
  obtain ⟨fd, F⟩ := T.F_law_runny
  obtain ⟨fd_law_take, G_law_take, D_law_take⟩ := ok_law_take (P := P) (w := w) (base := base) T
  have k_law_take := D_law_take.kp
  have b_law_take := bd_law_take D_law_take
  obtain ⟨fd_law_word, G_law_word, D_law_word⟩ := ok_law_word (P := P) (w := w) (base := base) T
  have k_law_word := D_law_word.kp
  have b_law_word := bd_law_word D_law_word
  refine ⟨fd, F.ok sc_law_runny (fun vs H Q E h => ?_) (fun cdv A outer s H vs Q E hr h => ?_), F⟩
  · rw [F_law_runny_eq] at h
    exact spD_len (np := 3) (fun _ _ _ h => h.1) vs H Q E h
  · rw [F_law_runny_eq] at h
    refine ⟨_, PSs.nox (pss_cons (ps_if (pt_cmpR op_gt (pe_call G_law_take (hr.mono (by decide)) rfl T.g__law_take k_law_take b_law_take .nil pass0 (pa_cons (pv 0) (pa_cons pe_int pa_nil))) pe_int (by first | exact nomark _ | rfl))
    (pss_one (ps_ret (pe_call G_law_word (hr.mono (by decide)) rfl T.g__law_word k_law_word b_law_word .nil pass0 (pa_cons (pv 0) (pa_cons (pv 1) (pa_cons (pv 2) pa_nil))))))
    pss_nil)
    (pss_cons (ps_set (i := 3) sc_law_runny.nd rfl (by first | exact Or.inl rfl | exact Or.inr rfl) (pe_lst pa_nil))
    (pss_cons (ps_set (i := 4) sc_law_runny.nd rfl (by first | exact Or.inl rfl | exact Or.inr rfl) (pe_call G_law_take (hr.mono (by decide)) rfl T.g__law_take k_law_take b_law_take .nil pass0 (pa_cons (pv 0) (pa_cons (pv 1) pa_nil))))
    (pss_cons (ps_for PassesOwn.never rfl (pi_range1 (by rfl) T.z_range (pa_cons (pv 2) pa_nil)) (pg_name (i := 5) sc_law_runny.nd rfl (by first | exact Or.inl rfl | exact Or.inr rfl))
    (pss_cons (ps_if (pt_cmpR (op_eqU rfl hr.units) (pe_call G_law_take (hr.mono (by decide)) rfl T.g__law_take k_law_take b_law_take .nil pass0 (pa_cons (pv 0) (pa_cons pe_int pa_nil))) pe_int (by first | exact nomark _ | rfl))
    (pss_one (ps_set (i := 4) sc_law_runny.nd rfl (by first | exact Or.inl rfl | exact Or.inr rfl) (pe_call G_law_take (hr.mono (by decide)) rfl T.g__law_take k_law_take b_law_take .nil pass0 (pa_cons (pv 0) (pa_cons (pv 1) pa_nil)))))
    pss_nil)
    (pss_one (ps_expr (pe_bm PySem.F.plainAttrs_list PySem.F.slot_list_append PySem.F.type_list_append mt_append (pv 3) (pa_cons (pv 4) pa_nil))))))
    (pss_one (ps_ret (pe_callTy (call_tupU (K := K) rfl) (by rfl) T.z_tuple (by decide +kernel) (pa_cons (pv 3) pa_nil)))))))), ?_⟩
    exact body_of0 rfl h fun X hd => (dst_seq (dst_if (dt_test (dg_op od_gt (DEg.bor (de_call0 dv_nil (ds_hand (i := 0) (ds_cons (de_int 3) ds_nil)))) (DEg.bor (de_int 0))))
    (dst_ret (de_call0 dv_nil (ds_hand (i := 0) (ds_cons (de_var 1) (ds_cons (de_var 2) ds_nil)))))
    dst_next)
    (dst_seq (dst_own (df_lst da_nil))
    (dst_seq (dst_asg (de_call0 dv_nil (ds_hand (i := 0) (ds_cons (de_var 1) ds_nil))) (dg_name 4))
    (dst_seq (dst_for (di_rng1 (db_cons (db_var 2) db_nil)) (dg_name 5)
    (dst_seq (dst_if (dt_test (dg_op od_eq (DEg.bor (de_call0 dv_nil (ds_hand (i := 0) (ds_cons (de_int 4) ds_nil)))) (DEg.bor (de_int 0))))
    (dst_asg (de_call0 dv_nil (ds_hand (i := 0) (ds_cons (de_var 1) ds_nil))) (dg_name 4))
    dst_next)
    (dst_app (de_var 4))))
    (dst_ret (dg_cb cg_tup (db_cons (db_var 3) db_nil)))))))
end Mine

namespace Mine
open PySem PySem.Spec PyProof.Rows L2
local macro_rules | `(tactic| walk_at "rd") => `(tactic| try simp only [tMk1, iEnumA, iSeq, tPar3, tAugS, ipI, rRepA, rIxA, tCallSD, rExtend, tDNewK, iZipS, tXf, tSeq, tAsg, tCB, tCons, tNil, tVar, tOp, tUn, rI, rI0, rU, gName, gNil, gCons, gSub, rSetL, tC, tRet, tRetN, tNext, tIfS, tTest, tB, tAnd, tOr, tNot, tAndV, tOrV, tNotV, tIf,
  tDrop, tCall, tCallS, tPar, tAug, ipI, tBreak, tCont, tTup, tLst, rEq_int, rNe_int, rEq_bl, rNe_bl, rEq_str, rNe_str, HO.lst.injEq, HO.tup.injEq, Bool.not_eq_true', decide_eq_false_iff_not, rIxH, rIxTH, rCat, tSl, tPart, tNoPart, tBM, rAppend, L2.start, tFor_eq, tLc_eq, iList, iTup, iRng1, iRng2, iEnum, iZip, cx_K, cx_prog, cx_w, cx_nK, forall_const, tYes, wipe, List.foldl_cons, List.foldl_nil, and_assoc, List.map_cons, List.map_nil, List.length_cons, List.length_nil, List.replicate, List.append_nil, List.cons_append, List.nil_append,
  List.getElem?_cons_zero, List.getElem?_cons_succ, List.set_cons_zero, List.set_cons_succ, Nat.zero_add, Nat.add_zero, Nat.reduceAdd, Nat.reduceSub, Option.some.injEq, V.int.injEq, V.bl.injEq, V.ref.injEq, V.str.injEq,
  List.cons.injEq, and_true, true_and, exists_eq_left, exists_eq_left', exists_eq_right, exists_const, exists_eq, exists_and_left, exists_and_right, upd_same, upd_upd, atI_0, atI_1, atI_2, atI_3, ixN_4_0, ixN_4_1, ixN_4_2, ixN_4_3, some_lst, some_tup, decide_eq_true_eq, reduceCtorEq,
  V.int.injEq, Bool.true_eq_false, Bool.false_eq_true, if_true, if_false, ite_true, ite_false, eq_self, not_true_eq_false, not_false_eq_true, decide_true, decide_false, Bool.not_true, Bool.not_false, false_and, and_false, exists_false])
local macro_rules | `(tactic| walk_at "mono") => `(tactic| repeat (first | with_reducible exact mon_var _ | with_reducible exact mon_c _ | with_reducible exact mon_rI _ _ | with_reducible exact mon_rI0 _ | with_reducible exact mon_rEq | with_reducible exact mon_rNe | with_reducible refine mon_test ?_ | with_reducible refine mon_op ?_ ?_ ?_ | with_reducible refine mon_and ?_ ?_ | with_reducible refine mon_or ?_ ?_ | with_reducible exact mon_rU _ | with_reducible refine mon_un ?_ ?_))
local macro_rules | `(tactic| walk_at "sd") => `(tactic| first | assumption | omega | (unfold CMul; omega) | (unfold CDiv; omega) | rfl | decide)
local macro_rules | `(tactic| walk_at "go") => `(tactic| repeat (refine And.intro (by first | assumption | omega | exact tyL (by assumption) | (unfold CMul; omega) | (unfold CDiv; omega) | rfl | decide) ?_))
theorem ok_BadWord___init {P : Program} {w : World} {K : PySem.W.Frag} {mg : Str → Option Value} {base : Heap} (T : Txt K mg) : ∃ fd, FnOk P w K mg base CX0 1 (He.ma K (He.ga K "BadWord") "__init__") fd P_BadWord___init (spFld (He.ga K "BadWord") "index") ∧ D_BadWord___init K (He.ma K (He.ga K "BadWord") "__init__") fd := by
  obtain ⟨fd, F⟩ := T.F_BadWord___init
  refine ⟨fd, F.ok sc_BadWord___init (fun vs H Q E h => ?_) (fun cdv A outer s H vs Q E hr h => ?_), F⟩
  · obtain ⟨a, v, rfl, _⟩ := h
    rfl
  ·
    obtain ⟨a, v, rfl, ha, q⟩ := h
    refine ⟨_, PSs.nox (pss_one (ps_ost (pv 0) (pv 1))), ?_⟩
    simp only [tMk1, iEnumA, iSeq, tPar3, tAugS, ipI, rRepA, rIxA, tCallSD, rExtend, tDNewK, iZipS, tXf, tSeq, tAsg, tCB, tCons, tNil, tVar, tOp, tUn, rI, rI0, rU, gName, gNil, gCons, gSub, rSetL, tC, tRet, tRetN, tNext, tIfS, tTest, tB, tAnd, tOr, tNot, tAndV, tOrV, tNotV, tIf,
  tDrop, tCall, tCallS, tPar, tAug, ipI, tBreak, tCont, tTup, tLst, rEq_int, rNe_int, rEq_bl, rNe_bl, rEq_str, rNe_str, HO.lst.injEq, HO.tup.injEq, Bool.not_eq_true', decide_eq_false_iff_not, rIxH, rIxTH, rCat, tSl, tPart, tNoPart, tBM, rAppend, L2.start, tFor_eq, tLc_eq, iList, iTup, iRng1, iRng2, iEnum, iZip, cx_K, cx_prog, cx_w, cx_nK, forall_const, tYes, wipe, List.foldl_cons, List.foldl_nil, and_assoc, List.map_cons, List.map_nil, List.length_cons, List.length_nil, List.replicate, List.append_nil, List.cons_append, List.nil_append,
  List.getElem?_cons_zero, List.getElem?_cons_succ, List.set_cons_zero, List.set_cons_succ, Nat.zero_add, Nat.add_zero, Nat.reduceAdd, Nat.reduceSub, Option.some.injEq, V.int.injEq, V.bl.injEq, V.ref.injEq, V.str.injEq,
  List.cons.injEq, and_true, true_and, exists_eq_left, exists_eq_left', exists_eq_right, exists_const, exists_eq, exists_and_left, exists_and_right, upd_same, upd_upd, atI_0, atI_1, atI_2, atI_3, ixN_4_0, ixN_4_1, ixN_4_2, ixN_4_3, some_lst, some_tup, decide_eq_true_eq, reduceCtorEq,
  V.int.injEq, Bool.true_eq_false, Bool.false_eq_true, if_true, if_false, ite_true, ite_false, eq_self, not_true_eq_false, not_false_eq_true, decide_true, decide_false, Bool.not_true, Bool.not_false, false_and, and_false, exists_false, tOst]
    exact ⟨_, T.x_BadWord.o, T.n_BadWord_is_index, .inl ⟨ha, fun dx h1 h2 => q dx h1 h2⟩⟩
end Mine

namespace Mine
open PySem PySem.Spec PyProof.Rows L2
theorem ok_check_word {P : Program} {w : World} {K : PySem.W.Frag} {mg : Str → Option Value} {base : Heap} (T : Txt K mg) : ∃ fd, FnOk P w K mg base (L2.CX P w) 3 (He.ga K "check_word") fd P_check_word (spD K F_check_word) ∧ D_check_word K (He.ga K "check_word") fd := by
  obtain ⟨fd, F⟩ := T.F_check_word
  obtain ⟨fd_BadWord___init, G_BadWord___init, D_BadWord___init⟩ := ok_BadWord___init (P := P) (w := w) (base := base) T
  have k_BadWord___init := D_BadWord___init.kp
  have b_BadWord___init := bd_BadWord___init D_BadWord___init
  obtain ⟨fd_is_whole, G_is_whole, D_is_whole⟩ := ok_is_whole (P := P) (w := w) (base := base) T
  have k_is_whole := D_is_whole.kp
  obtain ⟨ds_is_whole_3, r_is_whole_3, b_is_whole_3⟩ := bd_is_whole_3 D_is_whole
  refine ⟨fd, F.ok sc_check_word (fun vs H Q E h => ?_) (fun cdv A outer s H vs Q E hr h => ?_), F⟩
  · rw [F_check_word_eq] at h
    exact spD_len (np := 3) (fun _ _ _ h => h.1) vs H Q E h
  · rw [F_check_word_eq] at h
    refine ⟨_, (pss_cons (ps_if (PW.pt (pw_or (pt_not (pt_tru rfl (pe_callB (call_isiTU (K := K) rfl) (by rfl) T.z_isinstance (by decide +kernel) (pa_cons (pv 1) (pa_cons (pe_tup (pa_cons (pe_bltn (v := .ty "list") (by rfl) T.z_list (by decide +kernel) rfl) (pa_cons (pe_bltn (v := .ty "tuple") (by rfl) T.z_tuple (by decide +kernel) rfl) pa_nil))) pa_nil))) (by intro _; rfl))) (pw_or1 (pt_cmpR op_gt (pe_callB (call_lenU (K := K) rfl) (by rfl) T.z_len (by decide +kernel) (pa_cons (pv 1) pa_nil)) (pv 2) (by first | exact nomark _ | rfl)))))
    (pss_one (ps_raise rfl (takes_of rfl rfl rfl rfl) (mk1 T.x_BadWord T.g_BadWord G_BadWord___init b_BadWord___init (hr.mono (by decide)) (mon_un (mon_rU _) (mon_c _)) (pe_un un_neg pe_int) rfl)))
    pss_nil)
    (pss_cons (ps_for (passes_of rfl) rfl (pi_enumA (by rfl) T.z_enumerate (pa_cons (pv 1) pa_nil)) (pg_tupK (K := K) (n := 2) rfl (by rfl) (pgs_cons (pg_name (i := 3) sc_check_word.nd rfl (by first | exact Or.inl rfl | exact Or.inr rfl)) (pgs_cons (pg_name (i := 4) sc_check_word.nd rfl (by first | exact Or.inl rfl | exact Or.inr rfl)) pgs_nil)))
    (pss_one (ps_if (pt_not (pt_tru rfl (pe_call G_is_whole (hr.mono (by decide)) rfl T.g_is_whole k_is_whole b_is_whole_3 r_is_whole_3 pass0 (pa_cons (pv 4) (pa_cons pe_int (pa_cons (pe_op op_sub (pv 0) pe_int) pa_nil)))) (by intro _; rfl)))
    (pss_one (ps_raise rfl (takes_of rfl rfl rfl rfl) (mk1 T.x_BadWord T.g_BadWord G_BadWord___init b_BadWord___init (hr.mono (by decide)) (mon_var _) (pv 3) rfl)))
    pss_nil)))
    (pss_one (ps_ret (pe_callTy (call_tupU (K := K) rfl) (by rfl) T.z_tuple (by decide +kernel) (pa_cons (pv 1) pa_nil)))))), ?_⟩
    exact body_of rfl h fun X hd => (dst_seq (dst_if (dt_or (dt_not (dt_tru (DEg.bor (dg_cb (cg_isi2 known_list known_tuple) (db_cons (db_var 1) (db_cons (DEg.bor (de_tup (da_cons (de_raw (.ty "list")) (da_cons (de_raw (.ty "tuple")) da_nil)))) db_nil)))))) (dt_test (dg_op od_gt (DEg.bor (dg_cb cg_len (db_cons (db_var 1) db_nil))) (db_var 2))))
    (dst_raise1 rfl (de_un ud_neg (DEg.bor (de_int 1))))
    dst_next)
    (dst_seq (dst_for (di_enum (R := Cln) (de_var 1)) (dg_two 3 4)
    (dst_if (dt_not (dt_tru (DEg.bor (de_call0 dv_nil (ds_cons (de_var 4) (ds_cons (de_int 0) (ds_cons (dg_op od_sub (db_var 0) (DEg.bor (de_int 1))) ds_nil)))))))
    (dst_raise1 rfl (de_var 3))
    dst_next))
    (dst_ret (dg_cb cg_tup (db_cons (db_var 1) db_nil)))))
end Mine

namespace Mine
open PySem PySem.Spec PyProof.Rows L2
theorem ok_sum_of {P : Program} {w : World} {K : PySem.W.Frag} {mg : Str → Option Value} {base : Heap} (T : Txt K mg) : ∃ fd, FnOk P w K mg base CX0 1 (He.ga K "_sum_of") fd P_sum_of (spD K F_sum_of) ∧ D_sum_of K (He.ga K "_sum_of") fd := by
  obtain ⟨fd, F⟩ := T.F_sum_of
  refine ⟨fd, F.ok sc_sum_of (fun vs H Q E h => ?_) (fun cdv A outer s H vs Q E hr h => ?_), F⟩
  · rw [F_sum_of_eq] at h
    exact spD_len (np := 1) (fun _ _ _ h => h.1) vs H Q E h
  · rw [F_sum_of_eq] at h
    refine ⟨_, PSs.nox (pss_one (ps_ret (pe_callB (CallR.k (r := rSumA) (K := K) (cr_sumA rfl) rfl) (by rfl) T.z_sum (by decide +kernel) (pa_cons (pe_lc (own := [("place", 1), ("letter", 2)]) rfl sc_sum_of.nd (pi_enumTk (k := 1) (by decide) (by rfl) T.z_enumerate (pa_cons (pv 0) pa_nil)) (blkOk_by (own := [("place", 1), ("letter", 2)]) (N := N_sum_of) (sc := defScope s_sum_of) (by decide +kernel)) (fun _ _ _ _ _ => (pg_tupK (K := K) (n := 2) rfl (by rfl) (pgs_cons (pg_name (i := 1) sc_sum_of.nd rfl (by first | exact Or.inl rfl | exact Or.inr rfl)) (pgs_cons (pg_name (i := 2) sc_sum_of.nd rfl (by first | exact Or.inl rfl | exact Or.inr rfl)) pgs_nil)))) (fun _ _ _ _ _ => (pts_one (pt_cmpR (op_eqU rfl hr.units) (pv 2) pe_int (by first | exact nomark _ | rfl)))) (fun _ _ _ _ _ => (pv 1))) pa_nil)))), ?_⟩
    exact body_of0 rfl h fun X hd => (dst_ret (dg_cb cg_sum (db_cons (DEg.bor (DEg.cln (df_lc (di_enumK (R := Bor) (k := 1) (db_var 0)) (dg_two 1 2) (dt_test (dg_op od_eq (db_var 2) (DEg.bor (de_int 1)))) (de_var 1)))) db_nil)))
end Mine

namespace Mine
open PySem PySem.Spec PyProof.Rows L2
theorem ok_SumBook_holding {P : Program} {w : World} {K : PySem.W.Frag} {mg : Str → Option Value} {base : Heap} (T : Txt K mg) : ∃ fd, FnOk P w K mg base (L2.CX P w) 5 (He5.wf K (He.ga K "SumBook") "staticmethod" "holding") fd P_SumBook_holding (spD K F_SumBook_holding) ∧ D_SumBook_holding K (He5.wf K (He.ga K "SumBook") "staticmethod" "holding") fd := by
  obtain ⟨fd, F⟩ := T.F_SumBook_holding
  obtain ⟨fd_check_word, G_check_word, D_check_word⟩ := ok_check_word (P := P) (w := w) (base := base) T
  have k_check_word := D_check_word.kp
  obtain ⟨ds_check_word_3, r_check_word_3, b_check_word_3⟩ := bd_check_word_3 D_check_word
  obtain ⟨fd_check_modulus, G_check_modulus, D_check_modulus⟩ := ok_check_modulus (P := P) (w := w) (base := base) T
  have k_check_modulus := D_check_modulus.kp
  have b_check_modulus := bd_check_modulus D_check_modulus
  obtain ⟨fd_SumBook___init, G_SumBook___init, D_SumBook___init⟩ := ok_SumBook___init (P := P) (w := w) (base := base) T
  have k_SumBook___init := D_SumBook___init.kp
  have b_SumBook___init := bd_SumBook___init D_SumBook___init
  obtain ⟨fd_sum_of, G_sum_of, D_sum_of⟩ := ok_sum_of (P := P) (w := w) (base := base) T
  have k_sum_of := D_sum_of.kp
  have b_sum_of := bd_sum_of D_sum_of
  refine ⟨fd, F.ok sc_SumBook_holding (fun vs H Q E h => ?_) (fun cdv A outer s H vs Q E hr h => ?_), F⟩
  · rw [F_SumBook_holding_eq] at h
    exact spD_len (np := 2) (fun _ _ _ h => h.1) vs H Q E h
  · rw [F_SumBook_holding_eq] at h
    refine ⟨_, (pss_cons (ps_set (i := 0) sc_SumBook_holding.nd rfl (by first | exact Or.inl rfl | exact Or.inr rfl) (pe_call G_check_word (hr.mono (by decide)) rfl T.g_check_word k_check_word b_check_word_3 r_check_word_3 (E := E) (passes_call (takes_of rfl rfl rfl rfl) fun _ _ _ _ h => h) (pa_cons pe_int (pa_cons (pv 0) (pa_cons (pe_glob (v := .int (200)) rfl T.c_MOST_HERE.choose_spec ⟨_, rfl⟩) pa_nil)))))
    (pss_cons (ps_expr (pe_call G_check_modulus (hr.mono (by decide)) rfl T.g__check_modulus k_check_modulus b_check_modulus .nil (E := E) (passes_call (takes_of rfl rfl rfl rfl) fun _ _ _ _ h => h) (pa_cons (pv 1) (pa_cons (pe_op (op_addU rfl) (pe_callB (call_lenU (K := K) rfl) (by rfl) T.z_len (by decide +kernel) (pa_cons (pv 0) pa_nil)) pe_int) pa_nil))))
    (pss_one (ps_ret (pe_make T.r_SumBook G_SumBook___init (hr.mono (by decide)) rfl T.g_SumBook b_SumBook___init .nil (E := E) (passes_call (takes_of rfl rfl rfl rfl) fun _ _ _ _ h => h) (pa_cons (pe_callB (call_lenU (K := K) rfl) (by rfl) T.z_len (by decide +kernel) (pa_cons (pv 0) pa_nil)) (pa_cons (pv 1) (pa_cons (pe_op op_mod (pe_call G_sum_of (hr.mono (by decide)) rfl T.g__sum_of k_sum_of b_sum_of .nil pass0 (pa_cons (pv 0) pa_nil)) (pv 1)) pa_nil)))))))), ?_⟩
    exact body_of rfl h fun X hd => (dst_seq (dst_asg (de_call rfl dv_nil (ds_cons (de_int 2) (ds_cons (de_var 0) (ds_cons (de_int (200)) ds_nil)))) (dg_name 0))
    (dst_seq (dst_drop (de_call rfl dv_nil (ds_cons (de_var 1) (ds_cons (dg_op od_add (DEg.bor (dg_cb cg_len (db_cons (db_var 0) db_nil))) (DEg.bor (de_int 1))) ds_nil))))
    (dst_ret (de_make rfl dv_nil (ds_cons (dg_cb cg_len (db_cons (db_var 0) db_nil)) (ds_cons (de_var 1) (ds_cons (dg_op od_mod (DEg.bor (de_call0 dv_nil (ds_cons (de_var 0) ds_nil))) (db_var 1)) ds_nil)))))))
end Mine

namespace Mine
open PySem PySem.Spec PyProof.Rows L2
theorem ok_SumBook_has {P : Program} {w : World} {K : PySem.W.Frag} {mg : Str → Option Value} {base : Heap} (T : Txt K mg) : ∃ fd, FnOk P w K mg base (L2.CX P w) 4 (He.ma K (He.ga K "SumBook") "has") fd P_SumBook_has (spD K F_SumBook_has) ∧ D_SumBook_has K (He.ma K (He.ga K "SumBook") "has") fd := by
  obtain ⟨fd, F⟩ := T.F_SumBook_has
  obtain ⟨fd_check_word, G_check_word, D_check_word⟩ := ok_check_word (P := P) (w := w) (base := base) T
  have k_check_word := D_check_word.kp
  obtain ⟨ds_check_word_3, r_check_word_3, b_check_word_3⟩ := bd_check_word_3 D_check_word
  obtain ⟨fd_sum_of, G_sum_of, D_sum_of⟩ := ok_sum_of (P := P) (w := w) (base := base) T
  have k_sum_of := D_sum_of.kp
  have b_sum_of := bd_sum_of D_sum_of
  refine ⟨fd, F.ok sc_SumBook_has (fun vs H Q E h => ?_) (fun cdv A outer s H vs Q E hr h => ?_), F⟩
  · rw [F_SumBook_has_eq] at h
    exact spD_len (np := 2) (fun _ _ _ h => h.1) vs H Q E h
  · rw [F_SumBook_has_eq] at h
    refine ⟨_, (pss_cons (ps_set (i := 1) sc_SumBook_has.nd rfl (by first | exact Or.inl rfl | exact Or.inr rfl) (pe_call G_check_word (hr.mono (by decide)) rfl T.g_check_word k_check_word b_check_word_3 r_check_word_3 (E := E) (passes_call (takes_of rfl rfl rfl rfl) fun _ _ _ _ h => h) (pa_cons pe_int (pa_cons (pv 1) (pa_cons (pe_glob (v := .int (200)) rfl T.c_MOST_HERE.choose_spec ⟨_, rfl⟩) pa_nil)))))
    (pss_one (ps_ret (pe_and (pe_cmpR (op_eqU rfl hr.units) (pe_callB (call_lenU (K := K) rfl) (by rfl) T.z_len (by decide +kernel) (pa_cons (pv 1) pa_nil)) (pe_fldU (K := K) rfl (pv 0) (by rfl)) (by first | exact nomark _ | rfl)) (pe_one (pe_cmpR (op_eqU rfl hr.units) (pe_op op_mod (pe_call G_sum_of (hr.mono (by decide)) rfl T.g__sum_of k_sum_of b_sum_of .nil pass0 (pa_cons (pv 1) pa_nil)) (pe_fldU (K := K) rfl (pv 0) (by rfl))) (pe_fldU (K := K) rfl (pv 0) (by rfl)) (by first | exact nomark _ | rfl))))))), ?_⟩
    exact body_of rfl h fun X hd => (dst_seq (dst_asg (de_call rfl dv_nil (ds_cons (de_int 2) (ds_cons (de_var 1) (ds_cons (de_int (200)) ds_nil)))) (dg_name 1))
    (dst_ret (de_andV (dg_op od_eq (DEg.bor (dg_cb cg_len (db_cons (db_var 1) db_nil))) (DEg.bor (de_fld (fld_ok T) (db_var 0)))) (dg_op od_eq (DEg.bor (dg_op od_mod (DEg.bor (de_call0 dv_nil (ds_cons (de_var 1) ds_nil))) (DEg.bor (de_fld (fld_ok T) (db_var 0))))) (DEg.bor (de_fld (fld_ok T) (db_var 0)))))))
end Mine

namespace Mine
open PySem PySem.Spec PyProof.Rows L2
theorem ok_law_sum {P : Program} {w : World} {K : PySem.W.Frag} {mg : Str → Option Value} {base : Heap} (T : Txt K mg) : ∃ fd, FnOk P w K mg base CX0 1 (He.ga K "_law_sum") fd P_law_sum (spD K F_law_sum) ∧ D_law_sum K (He.ga K "_law_sum") fd := by
  obtain ⟨fd, F⟩ := T.F_law_sum
  refine ⟨fd, F.ok sc_law_sum (fun vs H Q E h => ?_) (fun cdv A outer s H vs Q E hr h => ?_), F⟩
  · rw [F_law_sum_eq] at h
    exact spD_len (np := 1) (fun _ _ _ h => h.1) vs H Q E h
  · rw [F_law_sum_eq] at h
    refine ⟨_, PSs.nox (pss_one (ps_ret (pe_callB (CallR.k (r := rSumA) (K := K) (cr_sumA rfl) rfl) (by rfl) T.z_sum (by decide +kernel) (pa_cons (pe_lc (own := [("_law_k", 1)]) rfl sc_law_sum.nd (pi_range1 (by rfl) T.z_range (pa_cons (pe_callB (call_lenU (K := K) rfl) (by rfl) T.z_len (by decide +kernel) (pa_cons (pv 0) pa_nil)) pa_nil)) (blkOk_by (own := [("_law_k", 1)]) (N := N_law_sum) (sc := defScope s_law_sum) (by decide +kernel)) (fun _ _ _ _ _ => (pg_name (i := 1) sc_law_sum.nd rfl (by first | exact Or.inl rfl | exact Or.inr rfl))) (fun _ _ _ _ _ => pts_nil) (fun _ _ _ _ _ => (pe_op op_mulU (pe_op (op_addU rfl) (pv 1) pe_int) (pe_ix (ix_U (K := K) rfl) (pv 0) (pv 1) (fun _ _ => rfl))))) pa_nil)))), ?_⟩
    exact body_of0 rfl h fun X hd => (dst_ret (dg_cb cg_sum (db_cons (DEg.bor (DEg.cln (df_lc (di_rng1 (db_cons (DEg.bor (dg_cb cg_len (db_cons (db_var 0) db_nil))) db_nil)) (dg_name 1) dt_yes (dg_op od_mul (DEg.bor (dg_op od_add (db_var 1) (DEg.bor (de_int 1)))) (DEg.bor (dg_op od_ix (db_var 0) (db_var 1))))))) db_nil)))
end Mine

namespace Mine
open PySem PySem.Spec PyProof.Rows L2
theorem ok_law_led_right {P : Program} {w : World} {K : PySem.W.Frag} {mg : Str → Option Value} {base : Heap} (T : Txt K mg) : ∃ fd, FnOk P w K mg base CX0 7 (He.ga K "_law_led_right") fd P_law_led_right (spD K F_law_led_right) ∧ D_law_led_right K (He.ga K "_law_led_right") fd := by
  obtain ⟨fd, F⟩ := T.F_law_led_right
  obtain ⟨fd_SumBook_contrary, G_SumBook_contrary, D_SumBook_contrary⟩ := ok_SumBook_contrary (P := P) (w := w) (base := base) T
  have k_SumBook_contrary := D_SumBook_contrary.kp
  have b_SumBook_contrary := bd_SumBook_contrary D_SumBook_contrary
  obtain ⟨fd_Book___eq, G_Book___eq, D_Book___eq⟩ := ok_Book___eq (P := P) (w := w) (base := base) T
  have k_Book___eq := D_Book___eq.kp
  have b_Book___eq := bd_Book___eq D_Book___eq
  obtain ⟨fd_SumBook___eq, G_SumBook___eq, D_SumBook___eq⟩ := ok_SumBook___eq (P := P) (w := w) (base := base) T
  have k_SumBook___eq := D_SumBook___eq.kp
  have b_SumBook___eq := bd_SumBook___eq D_SumBook___eq
  obtain ⟨fd_law_is_book, G_law_is_book, D_law_is_book⟩ := ok_law_is_book (P := P) (w := w) (base := base) T
  have k_law_is_book := D_law_is_book.kp
  have b_law_is_book := bd_law_is_book D_law_is_book
  obtain ⟨fd_law_turned, G_law_turned, D_law_turned⟩ := ok_law_turned (P := P) (w := w) (base := base) T
  have k_law_turned := D_law_turned.kp
  have b_law_turned := bd_law_turned D_law_turned
  obtain ⟨fd_law_runny, G_law_runny, D_law_runny⟩ := ok_law_runny (P := P) (w := w) (base := base) T
  have k_law_runny := D_law_runny.kp
  have b_law_runny := bd_law_runny D_law_runny
  obtain ⟨fd_SumBook_holding, G_SumBook_holding, D_SumBook_holding⟩ := ok_SumBook_holding (P := P) (w := w) (base := base) T
  have k_SumBook_holding := D_SumBook_holding.kp
  have b_SumBook_holding := bd_SumBook_holding D_SumBook_holding
  obtain ⟨fd_SumBook_has, G_SumBook_has, D_SumBook_has⟩ := ok_SumBook_has (P := P) (w := w) (base := base) T
  have k_SumBook_has := D_SumBook_has.kp
  have b_SumBook_has := bd_SumBook_has D_SumBook_has
  obtain ⟨fd_law_sum, G_law_sum, D_law_sum⟩ := ok_law_sum (P := P) (w := w) (base := base) T
  have k_law_sum := D_law_sum.kp
  have b_law_sum := bd_law_sum D_law_sum
  obtain ⟨fd_SumBook_turned, G_SumBook_turned, D_SumBook_turned⟩ := ok_SumBook_turned (P := P) (w := w) (base := base) T
  have k_SumBook_turned := D_SumBook_turned.kp
  have b_SumBook_turned := bd_SumBook_turned D_SumBook_turned
  refine ⟨fd, F.ok sc_law_led_right (fun vs H Q E h => ?_) (fun cdv A outer s H vs Q E hr h => ?_), F⟩
  · rw [F_law_led_right_eq] at h
    exact spD_len (np := 3) (fun _ _ _ h => h.1) vs H Q E h
  · rw [F_law_led_right_eq] at h
    refine ⟨_, PSs.nox (pss_cons (ps_set (i := 3) sc_law_led_right.nd rfl (by first | exact Or.inl rfl | exact Or.inr rfl) (pe_ix (ix_U (K := K) rfl) (pv 2) pe_int (fun _ _ => rfl)))
    (pss_cons (ps_set (i := 4) sc_law_led_right.nd rfl (by first | exact Or.inl rfl | exact Or.inr rfl) (pe_ix (ix_U (K := K) rfl) (pv 2) pe_int (fun _ _ => rfl)))
    (pss_cons (ps_set (i := 5) sc_law_led_right.nd rfl (by first | exact Or.inl rfl | exact Or.inr rfl) (pe_meth0 (pv 1) T.l_SumBook T.b_SumBook_is_contrary G_SumBook_contrary (hr.mono (by decide)) b_SumBook_contrary .nil passL))
    (pss_cons (ps_if (PW.pt (pw_or (pt_not (pt_tru rfl (pe_call G_law_is_book (hr.mono (by decide)) rfl T.g__law_is_book k_law_is_book b_law_is_book .nil pass0 (pa_cons (pv 5) (pa_cons (pv 3) (pa_cons (pv 4) (pa_cons (pe_op op_mod (pe_callTy call_intU (by rfl) T.z_int (by decide +kernel) (pa_cons (pe_op op_sub (pe_op op_fdiv (pe_op op_mulU (pv 3) (pe_op (op_addU rfl) (pv 3) pe_int)) pe_int) (pe_ix (ix_U (K := K) rfl) (pv 2) pe_int (fun _ _ => rfl))) pa_nil)) (pv 4)) pa_nil))))) (by intro _; rfl))) (pw_or1 (pt_not (pt_cmpR ((op_eqR rfl (eqc T) (hr.mono (by decide))).or ((op_eqO rfl (eqc T) (hr.mono (by decide))).or (op_eqU rfl hr.units))) (pe_meth0 (pv 5) T.l_SumBook T.b_SumBook_is_contrary G_SumBook_contrary (hr.mono (by decide)) b_SumBook_contrary .nil passL) (pv 1) (by first | exact nomark _ | rfl))))))
    (pss_one (ps_ret pe_bl))
    pss_nil)
    (pss_cons (ps_set (i := 6) sc_law_led_right.nd rfl (by first | exact Or.inl rfl | exact Or.inr rfl) (pe_call G_law_turned (hr.mono (by decide)) rfl T.g__law_turned k_law_turned b_law_turned .nil pass0 (pa_cons (pv 1) pa_nil)))
    (pss_cons (ps_if (pt_cmpR (op_neU rfl hr.units) (pv 4) (pe_op (op_addU rfl) (pv 3) pe_int) (by first | exact nomark _ | rfl))
    (pss_one (ps_if (pt_cmpR (op_neU rfl hr.units) (pv 6) (pe_tup (pa_cons pe_str (pa_cons pe_bl pa_nil))) (by first | exact nomark _ | rfl))
    (pss_one (ps_ret pe_bl))
    pss_nil))
    (pss_one (ps_if (PW.pt (pw_or (pt_not (pt_tru rfl (pe_call G_law_is_book (hr.mono (by decide)) rfl T.g__law_is_book k_law_is_book b_law_is_book .nil pass0 (pa_cons (pv 6) (pa_cons (pv 3) (pa_cons (pv 4) (pa_cons (pe_op op_mod (pe_callTy call_intU (by rfl) T.z_int (by decide +kernel) (pa_cons (pe_un un_neg (pe_ix (ix_U (K := K) rfl) (pv 2) pe_int (fun _ _ => rfl))) pa_nil)) (pv 4)) pa_nil))))) (by intro _; rfl))) (pw_or1 (pt_not (pt_cmpR ((op_eqR rfl (eqc T) (hr.mono (by decide))).or ((op_eqO rfl (eqc T) (hr.mono (by decide))).or (op_eqU rfl hr.units))) (pe_call G_law_turned (hr.mono (by decide)) rfl T.g__law_turned k_law_turned b_law_turned .nil pass0 (pa_cons (pv 6) pa_nil)) (pv 1) (by first | exact nomark _ | rfl))))))
    (pss_one (ps_ret pe_bl))
    pss_nil)))
    (pss_cons (ps_for PassesOwn.never rfl (pi_range1 (by rfl) T.z_range (pa_cons pe_int pa_nil)) (pg_name (i := 7) sc_law_led_right.nd rfl (by first | exact Or.inl rfl | exact Or.inr rfl))
    (pss_cons (ps_set (i := 8) sc_law_led_right.nd rfl (by first | exact Or.inl rfl | exact Or.inr rfl) (pe_call G_law_runny (hr.mono (by decide)) rfl T.g__law_runny k_law_runny b_law_runny .nil pass0 (pa_cons (pv 0) (pa_cons pe_int (pa_cons (pv 3) pa_nil)))))
    (pss_cons (ps_set (i := 9) sc_law_led_right.nd rfl (by first | exact Or.inl rfl | exact Or.inr rfl) (pe_scall T.y_SumBook_is_holding rfl T.g_SumBook G_SumBook_holding (hr.mono (by decide)) k_SumBook_holding b_SumBook_holding .nil passL (pa_cons (pe_callTy (call_lstU (K := K) rfl) (by rfl) T.z_list (by decide +kernel) (pa_cons (pv 8) pa_nil)) (pa_cons (pv 4) pa_nil))))
    (pss_cons (ps_if (PW.pt (pw_or (pt_not (pt_tru rfl (pe_call G_law_is_book (hr.mono (by decide)) rfl T.g__law_is_book k_law_is_book b_law_is_book .nil pass0 (pa_cons (pv 9) (pa_cons (pv 3) (pa_cons (pv 4) (pa_cons (pe_op op_mod (pe_callTy call_intU (by rfl) T.z_int (by decide +kernel) (pa_cons (pe_call G_law_sum (hr.mono (by decide)) rfl T.g__law_sum k_law_sum b_law_sum .nil pass0 (pa_cons (pv 8) pa_nil)) pa_nil)) (pv 4)) pa_nil))))) (by intro _; rfl))) (pw_or1 (pt_not (pt_tru rfl (pe_meth (pv 9) T.l_SumBook T.b_SumBook_is_has G_SumBook_has (hr.mono (by decide)) b_SumBook_has .nil passL (pa_cons (pv 8) pa_nil)) (by intro _; rfl))))))
    (pss_one (ps_ret pe_bl))
    pss_nil)
    (pss_cons (ps_set (i := 10) sc_law_led_right.nd rfl (by first | exact Or.inl rfl | exact Or.inr rfl) (pe_callTy (call_tupU (K := K) rfl) (by rfl) T.z_tuple (by decide +kernel) (pa_cons (pe_lc (own := [("_law_letter", 12)]) rfl sc_law_led_right.nd (pi_seq (pv 8)) (blkOk_by (own := [("_law_letter", 12)]) (N := N_law_led_right) (sc := defScope s_law_led_right) (by decide +kernel)) (fun _ _ _ _ _ => (pg_name (i := 12) sc_law_led_right.nd rfl (by first | exact Or.inl rfl | exact Or.inr rfl))) (fun _ _ _ _ _ => pts_nil) (fun _ _ _ _ _ => (pe_op op_sub pe_int (pv 12)))) pa_nil)))
    (pss_cons (ps_if (PW.pt (pw_or (pt_not (pt_tru rfl (pe_meth (pe_meth0 (pv 9) T.l_SumBook T.b_SumBook_is_contrary G_SumBook_contrary (hr.mono (by decide)) b_SumBook_contrary .nil passL) T.l_SumBook T.b_SumBook_is_has G_SumBook_has (hr.mono (by decide)) b_SumBook_has .nil passL (pa_cons (pv 10) pa_nil)) (by intro _; rfl))) (pw_or1 (PW.pt (pw_and (pt_cmpR ((op_eqR rfl (eqc T) (hr.mono (by decide))).or ((op_eqO rfl (eqc T) (hr.mono (by decide))).or (op_eqU rfl hr.units))) (pv 4) (pe_op (op_addU rfl) (pv 3) pe_int) (by first | exact nomark _ | rfl)) (pw_and1 (pt_not (pt_tru rfl (pe_meth (pe_meth0 (pv 9) T.l_SumBook T.b_SumBook_is_turned G_SumBook_turned (hr.mono (by decide)) b_SumBook_turned .nil passL) T.l_SumBook T.b_SumBook_is_has G_SumBook_has (hr.mono (by decide)) b_SumBook_has .nil passL (pa_cons (pe_callTy (call_lstU (K := K) rfl) (by rfl) T.z_list (by decide +kernel) (pa_cons (pe_revU (pv 8)) pa_nil)) pa_nil)) (by intro _; rfl)))))))))
    (pss_one (ps_ret pe_bl))
    pss_nil)
    (pss_cons (ps_set (i := 11) sc_law_led_right.nd rfl (by first | exact Or.inl rfl | exact Or.inr rfl) (pe_cmpR ((op_eqR rfl (eqc T) (hr.mono (by decide))).or ((op_eqO rfl (eqc T) (hr.mono (by decide))).or (op_eqU rfl hr.units))) (pe_op op_mod (pe_callTy call_intU (by rfl) T.z_int (by decide +kernel) (pa_cons (pe_call G_law_sum (hr.mono (by decide)) rfl T.g__law_sum k_law_sum b_law_sum .nil pass0 (pa_cons (pv 8) pa_nil)) pa_nil)) (pv 4)) (pe_ix (ix_U (K := K) rfl) (pv 2) pe_int (fun _ _ => rfl)) (by first | exact nomark _ | rfl)))
    (pss_cons (ps_if (PW.pt (pw_or (pt_cmpR (op_neU rfl hr.units) (pe_meth (pv 1) T.l_SumBook T.b_SumBook_is_has G_SumBook_has (hr.mono (by decide)) b_SumBook_has .nil passL (pa_cons (pv 8) pa_nil)) (pv 11) (by first | exact nomark _ | rfl)) (pw_or (pt_cmpR (op_neU rfl hr.units) (pe_meth (pv 5) T.l_SumBook T.b_SumBook_is_has G_SumBook_has (hr.mono (by decide)) b_SumBook_has .nil passL (pa_cons (pv 10) pa_nil)) (pv 11) (by first | exact nomark _ | rfl)) (pw_or1 (pt_cmpR (op_neU rfl hr.units) (pe_cmpR ((op_eqR rfl (eqc T) (hr.mono (by decide))).or ((op_eqO rfl (eqc T) (hr.mono (by decide))).or (op_eqU rfl hr.units))) (pv 9) (pv 1) (by first | exact nomark _ | rfl)) (pv 11) (by first | exact nomark _ | rfl))))))
    (pss_one (ps_ret pe_bl))
    pss_nil)
    (pss_one (ps_if (PW.pt (pw_or (pt_tru rfl (pe_meth (pv 1) T.l_SumBook T.b_SumBook_is_has G_SumBook_has (hr.mono (by decide)) b_SumBook_has .nil passL (pa_cons (pe_ifExp (pt_cmpR (op_ltU rfl hr.units0) (pv 3) pe_int (by first | exact nomark _ | rfl)) (pe_op (op_addU rfl) (pv 8) (pe_tup (pa_cons pe_int pa_nil))) (pe_slice (sl_U rfl) (pv 8) (po_some pe_int) po_none)) pa_nil)) (by intro _; rfl)) (pw_or1 (PW.pt (pw_and (pt_cmpR op_gt (pv 3) pe_int (by first | exact nomark _ | rfl)) (pw_and1 (pt_tru rfl (pe_meth (pv 1) T.l_SumBook T.b_SumBook_is_has G_SumBook_has (hr.mono (by decide)) b_SumBook_has .nil passL (pa_cons (pe_slice (sl_U rfl) (pv 8) (po_some pe_int) po_none) pa_nil)) (by intro _; rfl))))))))
    (pss_one (ps_ret pe_bl))
    pss_nil))))))))))
    (pss_one (ps_ret pe_bl))))))))), ?_⟩
    exact body_of0 rfl h fun X hd => (dst_seq (dst_asg (dg_op od_ix (db_var 2) (DEg.bor (de_int 0))) (dg_name 3))
    (dst_of S_law_led_right_r2_eq
    (dst_seq (dst_asg (dg_op od_ix (db_var 2) (DEg.bor (de_int 1))) (dg_name 4))
    (dst_of S_law_led_right_r3_eq
    (dst_seq (dst_asg (de_meth0 dv_nil (de_var 1) ds_nil) (dg_name 5))
    (dst_of S_law_led_right_r4_eq
    (dst_seq (dst_if (dt_or (dt_not (dt_tru (DEg.bor (de_call0 dv_nil (ds_cons (de_var 5) (ds_cons (de_var 3) (ds_cons (de_var 4) (ds_cons (dg_op od_mod (DEg.bor (dg_cb cg_int (db_cons (DEg.bor (dg_op od_sub (DEg.bor (dg_op od_fdiv (DEg.bor (dg_op od_mul (db_var 3) (DEg.bor (dg_op od_add (db_var 3) (DEg.bor (de_int 1)))))) (DEg.bor (de_int 2)))) (DEg.bor (dg_op od_ix (db_var 2) (DEg.bor (de_int 2)))))) db_nil))) (db_var 4)) ds_nil)))))))) (dt_not (dt_test (de_eqB (eqt T) (de_meth0 dv_nil (de_var 5) ds_nil) (de_var 1)))))
    (dst_ret (de_bl false))
    dst_next)
    (dst_of S_law_led_right_r6_eq
    (dst_seq (dst_asg (de_call0 dv_nil (ds_cons (de_var 1) ds_nil)) (dg_name 6))
    (dst_of S_law_led_right_r7_eq
    (dst_seq (dst_if (dt_test (dg_op od_ne (db_var 4) (DEg.bor (dg_op od_add (db_var 3) (DEg.bor (de_int 1))))))
    (dst_if (dt_test (dg_op od_ne (db_var 6) (DEg.bor (de_tup (da_cons (de_str "not full") (da_cons (de_bl true) da_nil))))))
    (dst_ret (de_bl false))
    dst_next)
    (dst_if (dt_or (dt_not (dt_tru (DEg.bor (de_call0 dv_nil (ds_cons (de_var 6) (ds_cons (de_var 3) (ds_cons (de_var 4) (ds_cons (dg_op od_mod (DEg.bor (dg_cb cg_int (db_cons (DEg.bor (de_un ud_neg (DEg.bor (dg_op od_ix (db_var 2) (DEg.bor (de_int 2)))))) db_nil))) (db_var 4)) ds_nil)))))))) (dt_not (dt_test (de_eqB (eqt T) (de_call0 dv_nil (ds_cons (de_var 6) ds_nil)) (de_var 1)))))
    (dst_ret (de_bl false))
    dst_next))
    (dst_of S_law_led_right_r12_eq
    (dst_seq (dst_for (di_rng1 (db_cons (DEg.bor (de_int 3)) db_nil)) (dg_name 7)
    (dst_of S_law_led_right_b13_eq
    (dst_seq (dst_asg (de_call0 dv_nil (ds_hand (i := 0) (ds_cons (de_int 2) (ds_cons (de_var 3) ds_nil)))) (dg_name 8))
    (dst_of S_law_led_right_r14_eq
    (dst_seq (dst_asg (de_call0 dv_nil (ds_cons (DEg.cln (dg_cb cg_lst (db_cons (db_var 8) db_nil))) (ds_cons (de_var 4) ds_nil))) (dg_name 9))
    (dst_of S_law_led_right_r15_eq
    (dst_seq (dst_if (dt_or (dt_not (dt_tru (DEg.bor (de_call0 dv_nil (ds_cons (de_var 9) (ds_cons (de_var 3) (ds_cons (de_var 4) (ds_cons (dg_op od_mod (DEg.bor (dg_cb cg_int (db_cons (DEg.bor (de_call0 dv_nil (ds_cons (de_var 8) ds_nil))) db_nil))) (db_var 4)) ds_nil)))))))) (dt_not (dt_tru (DEg.bor (de_meth0 dv_nil (de_var 9) (ds_cons (de_var 8) ds_nil))))))
    (dst_ret (de_bl false))
    dst_next)
    (dst_of S_law_led_right_r17_eq
    (dst_seq (dst_asg (dg_cb cg_tup (db_cons (DEg.bor (DEg.cln (df_lc (di_seq (R := Bor) (db_var 8)) (dg_name 12) dt_yes (dg_op od_sub (DEg.bor (de_int 1)) (db_var 12))))) db_nil)) (dg_name 10))
    (dst_of S_law_led_right_r18_eq
    (dst_seq (dst_if (dt_or (dt_not (dt_tru (DEg.bor (de_meth0 dv_nil (de_meth0 dv_nil (de_var 9) ds_nil) (ds_cons (de_var 10) ds_nil))))) (dt_and (dt_test (de_eqB (eqt T) (de_var 4) (dg_op od_add (db_var 3) (DEg.bor (de_int 1))))) (dt_not (dt_tru (DEg.bor (de_meth0 dv_nil (de_meth0 dv_nil (de_var 9) ds_nil) (ds_cons (DEg.cln (dg_cb cg_lst (db_cons (DEg.bor (de_rev (db_var 8))) db_nil))) ds_nil)))))))
    (dst_ret (de_bl false))
    dst_next)
    (dst_of S_law_led_right_r20_eq
    (dst_seq (dst_asg (de_eqB (eqt T) (dg_op od_mod (DEg.bor (dg_cb cg_int (db_cons (DEg.bor (de_call0 dv_nil (ds_cons (de_var 8) ds_nil))) db_nil))) (db_var 4)) (dg_op od_ix (db_var 2) (DEg.bor (de_int 2)))) (dg_name 11))
    (dst_of S_law_led_right_r21_eq
    (dst_seq (dst_if (dt_or (dt_test (dg_op od_ne (DEg.bor (de_meth0 dv_nil (de_var 1) (ds_cons (de_var 8) ds_nil))) (db_var 11))) (dt_or (dt_test (dg_op od_ne (DEg.bor (de_meth0 dv_nil (de_var 5) (ds_cons (de_var 10) ds_nil))) (db_var 11))) (dt_test (dg_op od_ne (DEg.bor (de_eqB (eqt T) (de_var 9) (de_var 1))) (db_var 11)))))
    (dst_ret (de_bl false))
    dst_next)
    (dst_of S_law_led_right_r23_eq
    (dst_if (dt_or (dt_tru (DEg.bor (de_meth0 dv_nil (de_var 1) (ds_cons (dg_if (dt_test (dg_op od_lt (db_var 3) (DEg.bor (de_int 200)))) (dg_op od_add (db_var 8) (DEg.bor (de_tup (da_cons (de_int 0) da_nil)))) (dg_sl sg_U (db_var 8) (do_some (de_int 1)) do_none)) ds_nil)))) (dt_and (dt_test (dg_op od_gt (db_var 3) (DEg.bor (de_int 0)))) (dt_tru (DEg.bor (de_meth0 dv_nil (de_var 1) (ds_cons (dg_sl sg_U (db_var 8) (do_some (de_int 1)) do_none) ds_nil))))))
    (dst_ret (de_bl false))
    dst_next)))))))))))))))))
    (dst_of S_law_led_right_r25_eq
    (dst_ret (de_bl true))))))))))))))))
end Mine

namespace Mine
open PySem PySem.Spec PyProof.Rows L2
local macro_rules | `(tactic| walk_at "rd") => `(tactic| try simp only [tMk1, iEnumA, iSeq, tPar3, tAugS, ipI, rRepA, rIxA, tCallSD, rExtend, tDNewK, iZipS, tXf, tSeq, tAsg, tCB, tCons, tNil, tVar, tOp, tUn, rI, rI0, rU, gName, gNil, gCons, gSub, rSetL, tC, tRet, tRetN, tNext, tIfS, tTest, tB, tAnd, tOr, tNot, tAndV, tOrV, tNotV, tIf,
  tDrop, tCall, tCallS, tPar, tAug, ipI, tBreak, tCont, tTup, tLst, rEq_int, rNe_int, rEq_bl, rNe_bl, rEq_str, rNe_str, HO.lst.injEq, HO.tup.injEq, Bool.not_eq_true', decide_eq_false_iff_not, rIxH, rIxTH, rCat, tSl, tPart, tNoPart, tBM, rAppend, L2.start, tFor_eq, tLc_eq, iList, iTup, iRng1, iRng2, iEnum, iZip, cx_K, cx_prog, cx_w, cx_nK, forall_const, tYes, wipe, List.foldl_cons, List.foldl_nil, and_assoc, List.map_cons, List.map_nil, List.length_cons, List.length_nil, List.replicate, List.append_nil, List.cons_append, List.nil_append,
  List.getElem?_cons_zero, List.getElem?_cons_succ, List.set_cons_zero, List.set_cons_succ, Nat.zero_add, Nat.add_zero, Nat.reduceAdd, Nat.reduceSub, Option.some.injEq, V.int.injEq, V.bl.injEq, V.ref.injEq, V.str.injEq,
  List.cons.injEq, and_true, true_and, exists_eq_left, exists_eq_left', exists_eq_right, exists_const, exists_eq, exists_and_left, exists_and_right, upd_same, upd_upd, atI_0, atI_1, atI_2, atI_3, ixN_4_0, ixN_4_1, ixN_4_2, ixN_4_3, some_lst, some_tup, decide_eq_true_eq, reduceCtorEq,
  V.int.injEq, Bool.true_eq_false, Bool.false_eq_true, if_true, if_false, ite_true, ite_false, eq_self, not_true_eq_false, not_false_eq_true, decide_true, decide_false, Bool.not_true, Bool.not_false, false_and, and_false, exists_false])
local macro_rules | `(tactic| walk_at "mono") => `(tactic| repeat (first | with_reducible exact mon_var _ | with_reducible exact mon_c _ | with_reducible exact mon_rI _ _ | with_reducible exact mon_rI0 _ | with_reducible exact mon_rEq | with_reducible exact mon_rNe | with_reducible refine mon_test ?_ | with_reducible refine mon_op ?_ ?_ ?_ | with_reducible refine mon_and ?_ ?_ | with_reducible refine mon_or ?_ ?_ | with_reducible exact mon_rU _ | with_reducible refine mon_un ?_ ?_))
local macro_rules | `(tactic| walk_at "sd") => `(tactic| first | assumption | omega | (unfold CMul; omega) | (unfold CDiv; omega) | rfl | decide)
local macro_rules | `(tactic| walk_at "go") => `(tactic| repeat (refine And.intro (by first | assumption | omega | exact tyL (by assumption) | (unfold CMul; omega) | (unfold CDiv; omega) | rfl | decide) ?_))
theorem ok_BadBook___init {P : Program} {w : World} {K : PySem.W.Frag} {mg : Str → Option Value} {base : Heap} (T : Txt K mg) : ∃ fd, FnOk P w K mg base CX0 1 (He.ma K (He.ga K "BadBook") "__init__") fd P_BadBook___init (spFld (He.ga K "BadBook") "what") ∧ D_BadBook___init K (He.ma K (He.ga K "BadBook") "__init__") fd := by
  obtain ⟨fd, F⟩ := T.F_BadBook___init
  refine ⟨fd, F.ok sc_BadBook___init (fun vs H Q E h => ?_) (fun cdv A outer s H vs Q E hr h => ?_), F⟩
  · obtain ⟨a, v, rfl, _⟩ := h
    rfl
  ·
    obtain ⟨a, v, rfl, ha, q⟩ := h
    refine ⟨_, PSs.nox (pss_one (ps_ost (pv 0) (pv 1))), ?_⟩
    simp only [tMk1, iEnumA, iSeq, tPar3, tAugS, ipI, rRepA, rIxA, tCallSD, rExtend, tDNewK, iZipS, tXf, tSeq, tAsg, tCB, tCons, tNil, tVar, tOp, tUn, rI, rI0, rU, gName, gNil, gCons, gSub, rSetL, tC, tRet, tRetN, tNext, tIfS, tTest, tB, tAnd, tOr, tNot, tAndV, tOrV, tNotV, tIf,
  tDrop, tCall, tCallS, tPar, tAug, ipI, tBreak, tCont, tTup, tLst, rEq_int, rNe_int, rEq_bl, rNe_bl, rEq_str, rNe_str, HO.lst.injEq, HO.tup.injEq, Bool.not_eq_true', decide_eq_false_iff_not, rIxH, rIxTH, rCat, tSl, tPart, tNoPart, tBM, rAppend, L2.start, tFor_eq, tLc_eq, iList, iTup, iRng1, iRng2, iEnum, iZip, cx_K, cx_prog, cx_w, cx_nK, forall_const, tYes, wipe, List.foldl_cons, List.foldl_nil, and_assoc, List.map_cons, List.map_nil, List.length_cons, List.length_nil, List.replicate, List.append_nil, List.cons_append, List.nil_append,
  List.getElem?_cons_zero, List.getElem?_cons_succ, List.set_cons_zero, List.set_cons_succ, Nat.zero_add, Nat.add_zero, Nat.reduceAdd, Nat.reduceSub, Option.some.injEq, V.int.injEq, V.bl.injEq, V.ref.injEq, V.str.injEq,
  List.cons.injEq, and_true, true_and, exists_eq_left, exists_eq_left', exists_eq_right, exists_const, exists_eq, exists_and_left, exists_and_right, upd_same, upd_upd, atI_0, atI_1, atI_2, atI_3, ixN_4_0, ixN_4_1, ixN_4_2, ixN_4_3, some_lst, some_tup, decide_eq_true_eq, reduceCtorEq,
  V.int.injEq, Bool.true_eq_false, Bool.false_eq_true, if_true, if_false, ite_true, ite_false, eq_self, not_true_eq_false, not_false_eq_true, decide_true, decide_false, Bool.not_true, Bool.not_false, false_and, and_false, exists_false, tOst]
    exact ⟨_, T.x_BadBook.o, T.n_BadBook_is_what, .inl ⟨ha, fun dx h1 h2 => q dx h1 h2⟩⟩
end Mine

namespace Mine
open PySem PySem.Spec PyProof.Rows L2
theorem ok_is_word {P : Program} {w : World} {K : PySem.W.Frag} {mg : Str → Option Value} {base : Heap} (T : Txt K mg) : ∃ fd, FnOk P w K mg base CX0 2 (He.ga K "is_word") fd P_is_word (spD K F_is_word) ∧ D_is_word K (He.ga K "is_word") fd := by
  obtain ⟨fd, F⟩ := T.F_is_word
  obtain ⟨fd_is_whole, G_is_whole, D_is_whole⟩ := ok_is_whole (P := P) (w := w) (base := base) T
  have k_is_whole := D_is_whole.kp
  obtain ⟨ds_is_whole_3, r_is_whole_3, b_is_whole_3⟩ := bd_is_whole_3 D_is_whole
  refine ⟨fd, F.ok sc_is_word (fun vs H Q E h => ?_) (fun cdv A outer s H vs Q E hr h => ?_), F⟩
  · rw [F_is_word_eq] at h
    exact spD_len (np := 3) (fun _ _ _ h => h.1) vs H Q E h
  · rw [F_is_word_eq] at h
    refine ⟨_, PSs.nox (pss_cons (ps_if (PW.pt (pw_or (pt_not (pt_tru rfl (pe_callB (call_isiTU (K := K) rfl) (by rfl) T.z_isinstance (by decide +kernel) (pa_cons (pv 2) (pa_cons (pe_tup (pa_cons (pe_bltn (v := .ty "list") (by rfl) T.z_list (by decide +kernel) rfl) (pa_cons (pe_bltn (v := .ty "tuple") (by rfl) T.z_tuple (by decide +kernel) rfl) pa_nil))) pa_nil))) (by intro _; rfl))) (pw_or1 (pt_cmpR (op_neU rfl hr.units) (pe_callB (call_lenU (K := K) rfl) (by rfl) T.z_len (by decide +kernel) (pa_cons (pv 2) pa_nil)) (pv 1) (by first | exact nomark _ | rfl)))))
    (pss_one (ps_ret pe_bl))
    pss_nil)
    (pss_one (ps_ret (pe_callB (call_allU (K := K) rfl rfl) (by rfl) T.z_all (by decide +kernel) (pa_cons (pe_lc (own := [("letter", 3)]) rfl sc_is_word.nd (pi_seq (pv 2)) (blkOk_by (own := [("letter", 3)]) (N := N_is_word) (sc := defScope s_is_word) (by decide +kernel)) (fun _ _ _ _ _ => (pg_name (i := 3) sc_is_word.nd rfl (by first | exact Or.inl rfl | exact Or.inr rfl))) (fun _ _ _ _ _ => pts_nil) (fun _ _ _ _ _ => (pe_call G_is_whole (hr.mono (by decide)) rfl T.g_is_whole k_is_whole b_is_whole_3 r_is_whole_3 pass0 (pa_cons (pv 3) (pa_cons pe_int (pa_cons (pe_op op_sub (pv 0) pe_int) pa_nil)))))) pa_nil))))), ?_⟩
    exact body_of0 rfl h fun X hd => (dst_seq (dst_if (dt_or (dt_not (dt_tru (DEg.bor (dg_cb (cg_isi2 known_list known_tuple) (db_cons (db_var 2) (db_cons (DEg.bor (de_tup (da_cons (de_raw (.ty "list")) (da_cons (de_raw (.ty "tuple")) da_nil)))) db_nil)))))) (dt_test (dg_op od_ne (DEg.bor (dg_cb cg_len (db_cons (db_var 2) db_nil))) (db_var 1))))
    (dst_ret (de_bl false))
    dst_next)
    (dst_ret (dg_cb cg_all (db_cons (DEg.bor (DEg.cln (df_lc (di_seq (R := Bor) (db_var 2)) (dg_name 3) dt_yes (de_call0 dv_nil (ds_cons (de_var 3) (ds_cons (de_int 0) (ds_cons (dg_op od_sub (db_var 0) (DEg.bor (de_int 1))) ds_nil))))))) db_nil))))
end Mine

namespace Mine
open PySem PySem.Spec PyProof.Rows L2
theorem ok_check_words {P : Program} {w : World} {K : PySem.W.Frag} {mg : Str → Option Value} {base : Heap} (T : Txt K mg) : ∃ fd, FnOk P w K mg base (L2.CX P w) 3 (He.ga K "_check_words") fd P_check_words (spD K F_check_words) ∧ D_check_words K (He.ga K "_check_words") fd := by
  obtain ⟨fd, F⟩ := T.F_check_words
  obtain ⟨fd_BadBook___init, G_BadBook___init, D_BadBook___init⟩ := ok_BadBook___init (P := P) (w := w) (base := base) T
  have k_BadBook___init := D_BadBook___init.kp
  have b_BadBook___init := bd_BadBook___init D_BadBook___init
  obtain ⟨fd_is_word, G_is_word, D_is_word⟩ := ok_is_word (P := P) (w := w) (base := base) T
  have k_is_word := D_is_word.kp
  have b_is_word := bd_is_word D_is_word
  refine ⟨fd, F.ok sc_check_words (fun vs H Q E h => ?_) (fun cdv A outer s H vs Q E hr h => ?_), F⟩
  · rw [F_check_words_eq] at h
    exact spD_len (np := 3) (fun _ _ _ h => h.1) vs H Q E h
  · rw [F_check_words_eq] at h
    refine ⟨_, (pss_cons (ps_if (pt_not (pt_tru rfl (pe_callB (call_isiTU (K := K) rfl) (by rfl) T.z_isinstance (by decide +kernel) (pa_cons (pv 2) (pa_cons (pe_tup (pa_cons (pe_bltn (v := .ty "list") (by rfl) T.z_list (by decide +kernel) rfl) (pa_cons (pe_bltn (v := .ty "tuple") (by rfl) T.z_tuple (by decide +kernel) rfl) pa_nil))) pa_nil))) (by intro _; rfl)))
    (pss_one (ps_raise rfl (takes_of rfl rfl rfl rfl) (mk1 T.x_BadBook T.g_BadBook G_BadBook___init b_BadBook___init (hr.mono (by decide)) (mon_c _) pe_str rfl)))
    pss_nil)
    (pss_cons (ps_for (passes_of rfl) rfl (pi_seq (pv 2)) (pg_name (i := 3) sc_check_words.nd rfl (by first | exact Or.inl rfl | exact Or.inr rfl))
    (pss_one (ps_if (pt_not (pt_tru rfl (pe_call G_is_word (hr.mono (by decide)) rfl T.g_is_word k_is_word b_is_word .nil pass0 (pa_cons (pv 0) (pa_cons (pv 1) (pa_cons (pv 3) pa_nil)))) (by intro _; rfl)))
    (pss_one (ps_raise rfl (takes_of rfl rfl rfl rfl) (mk1 T.x_BadBook T.g_BadBook G_BadBook___init b_BadBook___init (hr.mono (by decide)) (mon_c _) pe_str rfl)))
    pss_nil)))
    (pss_cons (ps_set (i := 4) sc_check_words.nd rfl (by first | exact Or.inl rfl | exact Or.inr rfl) (pe_callTy (call_tupU (K := K) rfl) (by rfl) T.z_tuple (by decide +kernel) (pa_cons (pe_callB (cr_sortedSG rfl hr.units) (by rfl) T.z_sorted (by decide +kernel) (pa_cons (pe_scG (own := [("word", 3)]) rfl hr.units sc_check_words.nd (pi_seq (pv 2)) (blkOk_by (own := [("word", 3)]) (N := N_check_words) (sc := defScope s_check_words) (by decide +kernel)) (fun _ _ _ _ _ => (pg_name (i := 3) sc_check_words.nd rfl (by first | exact Or.inl rfl | exact Or.inr rfl))) (fun _ _ _ _ _ => pts_nil) (fun _ _ _ _ _ => (pe_callTy (call_tupU (K := K) rfl) (by rfl) T.z_tuple (by decide +kernel) (pa_cons (pv 3) pa_nil)))) pa_nil)) pa_nil)))
    (pss_cons (ps_if (pt_cmpR op_gt (pe_callB (call_lenU (K := K) rfl) (by rfl) T.z_len (by decide +kernel) (pa_cons (pv 4) pa_nil)) (pe_glob (v := .int (64)) rfl T.c_MOST_MEMBERS.choose_spec ⟨_, rfl⟩) (by first | exact nomark _ | rfl))
    (pss_one (ps_raise rfl (takes_of rfl rfl rfl rfl) (mk1 T.x_BadBook T.g_BadBook G_BadBook___init b_BadBook___init (hr.mono (by decide)) (mon_c _) pe_str rfl)))
    pss_nil)
    (pss_one (ps_ret (pv 4))))))), ?_⟩
    exact body_of rfl h fun X hd => (dst_seq (dst_if (dt_not (dt_tru (DEg.bor (dg_cb (cg_isi2 known_list known_tuple) (db_cons (db_var 2) (db_cons (DEg.bor (de_tup (da_cons (de_raw (.ty "list")) (da_cons (de_raw (.ty "tuple")) da_nil)))) db_nil))))))
    (dst_raise1 rfl (de_str "words"))
    dst_next)
    (dst_seq (dst_for (di_seq (R := Cln) (de_var 2)) (dg_name 3)
    (dst_if (dt_not (dt_tru (DEg.bor (de_call0 dv_nil (ds_cons (de_var 0) (ds_cons (de_var 1) (ds_cons (de_var 3) ds_nil)))))))
    (dst_raise1 rfl (de_str "words"))
    dst_next))
    (dst_seq (dst_asg (dg_cb cg_tup (db_cons (DEg.bor (DEg.cln (df_sortScG (di_seq (R := Bor) (db_var 2)) (dg_name 3) dt_yes (dg_cb cg_tup (db_cons (db_var 3) db_nil))))) db_nil)) (dg_name 4))
    (dst_seq (dst_if (dt_test (dg_op od_gt (DEg.bor (dg_cb cg_len (db_cons (db_var 4) db_nil))) (DEg.bor (de_int (64)))))
    (dst_raise1 rfl (de_str "many"))
    dst_next)
    (dst_ret (de_var 4))))))
end Mine

namespace Mine
open PySem PySem.Spec PyProof.Rows L2
theorem ok_Book___init {P : Program} {w : World} {K : PySem.W.Frag} {mg : Str → Option Value} {base : Heap} (T : Txt K mg) : ∃ fd, FnOk P w K mg base (L2.CX P w) 4 (He.ma K (He.ga K "Book") "__init__") fd P_Book___init (spI K "Book" F_Book___init) ∧ D_Book___init K (He.ma K (He.ga K "Book") "__init__") fd := by
  obtain ⟨fd, F⟩ := T.F_Book___init
  obtain ⟨fd_is_whole, G_is_whole, D_is_whole⟩ := ok_is_whole (P := P) (w := w) (base := base) T
  have k_is_whole := D_is_whole.kp
  obtain ⟨ds_is_whole_3, r_is_whole_3, b_is_whole_3⟩ := bd_is_whole_3 D_is_whole
  obtain ⟨fd_BadBook___init, G_BadBook___init, D_BadBook___init⟩ := ok_BadBook___init (P := P) (w := w) (base := base) T
  have k_BadBook___init := D_BadBook___init.kp
  have b_BadBook___init := bd_BadBook___init D_BadBook___init
  obtain ⟨fd_check_words, G_check_words, D_check_words⟩ := ok_check_words (P := P) (w := w) (base := base) T
  have k_check_words := D_check_words.kp
  have b_check_words := bd_check_words D_check_words
  refine ⟨fd, F.ok sc_Book___init (fun vs H Q E h => ?_) (fun cdv A outer s H vs Q E hr h => ?_), F⟩
  · rw [F_Book___init_eq] at h
    exact spI_len (np := 4) (fun _ _ _ h => h.1) vs H Q E h
  · rw [F_Book___init_eq] at h
    refine ⟨_, (pss_cons (ps_if (pt_not (pt_tru rfl (pe_call G_is_whole (hr.mono (by decide)) rfl T.g_is_whole k_is_whole b_is_whole_3 r_is_whole_3 pass0 (pa_cons (pv 1) (pa_cons pe_int (pa_cons pe_int pa_nil)))) (by intro _; rfl)))
    (pss_one (ps_raise rfl (takes_of rfl rfl rfl rfl) (mk1 T.x_BadBook T.g_BadBook G_BadBook___init b_BadBook___init (hr.mono (by decide)) (mon_c _) pe_str rfl)))
    pss_nil)
    (pss_cons (ps_if (pt_not (pt_tru rfl (pe_call G_is_whole (hr.mono (by decide)) rfl T.g_is_whole k_is_whole b_is_whole_3 r_is_whole_3 pass0 (pa_cons (pv 2) (pa_cons pe_int (pa_cons (pe_glob (v := .int (24)) rfl T.c_MOST_LETTERS.choose_spec ⟨_, rfl⟩) pa_nil)))) (by intro _; rfl)))
    (pss_one (ps_raise rfl (takes_of rfl rfl rfl rfl) (mk1 T.x_BadBook T.g_BadBook G_BadBook___init b_BadBook___init (hr.mono (by decide)) (mon_c _) pe_str rfl)))
    pss_nil)
    (pss_cons (ps_fld (pv 0) (pv 1) (by rfl))
    (pss_cons (ps_fld (pv 0) (pv 2) (by rfl))
    (pss_cons (ps_fld (pv 0) (pe_call G_check_words (hr.mono (by decide)) rfl T.g__check_words k_check_words b_check_words .nil (E := E) (passes_call (takes_of rfl rfl rfl rfl) fun _ _ _ _ h => h) (pa_cons (pv 1) (pa_cons (pv 2) (pa_cons (pv 3) pa_nil)))) (by rfl))
    (pss_one (ps_fld (pv 0) (pe_callB (call_lenU (K := K) rfl) (by rfl) T.z_len (by decide +kernel) (pa_cons (pe_fldU (K := K) rfl (pv 0) (by rfl)) pa_nil)) (by rfl)))))))), ?_⟩
    exact body_ofI rfl h fun H X hd x => (dst_seq (dst_if (dt_not (dt_tru (DEg.bor (de_call0 dv_nil (ds_cons (de_var 1) (ds_cons (de_int 2) (ds_cons (de_int 4) ds_nil)))))))
    (dst_raise1 rfl (de_str "letters"))
    dst_next)
    (dst_seq (dst_if (dt_not (dt_tru (DEg.bor (de_call0 dv_nil (ds_cons (de_var 2) (ds_cons (de_int 0) (ds_cons (de_int (24)) ds_nil)))))))
    (dst_raise1 rfl (de_str "length"))
    dst_next)
    (dst_seq (dst_setF (fld_ok T) (de_var 1))
    (dst_seq (dst_setF (fld_ok T) (de_var 2))
    (dst_seq (dst_setF (fld_ok T) (de_call rfl dv_nil (ds_cons (de_var 1) (ds_cons (de_var 2) (ds_cons (de_var 3) ds_nil)))))
    (dst_setF (fld_ok T) (dg_cb cg_len (db_cons (DEg.bor (de_fldS (fld_ok T))) db_nil))))))))
end Mine

namespace Mine
open PySem PySem.Spec PyProof.Rows L2
theorem ok_all_words {P : Program} {w : World} {K : PySem.W.Frag} {mg : Str → Option Value} {base : Heap} (T : Txt K mg) : ∃ fd, FnOk P w K mg base CX0 1 (He.ga K "all_words") fd P_all_words (spD K F_all_words) ∧ D_all_words K (He.ga K "all_words") fd := by
  obtain ⟨fd, F⟩ := T.F_all_words
  refine ⟨fd, F.ok sc_all_words (fun vs H Q E h => ?_) (fun cdv A outer s H vs Q E hr h => ?_), F⟩
  · rw [F_all_words_eq] at h
    exact spD_len (np := 2) (fun _ _ _ h => h.1) vs H Q E h
  · rw [F_all_words_eq] at h
    refine ⟨_, PSs.nox (pss_cons (ps_set (i := 2) sc_all_words.nd rfl (by first | exact Or.inl rfl | exact Or.inr rfl) (pe_lst (pa_cons (pe_tup pa_nil) pa_nil)))
    (pss_cons (ps_for PassesOwn.never rfl (pi_range1 (by rfl) T.z_range (pa_cons (pv 1) pa_nil)) (pg_name (i := 3) sc_all_words.nd rfl (by first | exact Or.inl rfl | exact Or.inr rfl))
    (pss_one (ps_setLc2 (i := 2) (own := [("word", 4), ("letter", 5)]) (vs1 := [5]) rfl sc_all_words.nd rfl rfl (sw_true rfl rfl rfl (by decide +kernel)) (pi_seq (pv 2)) (blkOk_by (own := [("word", 4), ("letter", 5)]) (N := N_all_words) (sc := defScope s_all_words) (by decide +kernel)) (by decide) (fun _ _ _ _ _ => (pg_name (i := 4) sc_all_words.nd rfl (by first | exact Or.inl rfl | exact Or.inr rfl))) (fun _ _ _ _ _ => pts_nil) (fun _ _ _ _ _ => (pi_range1 (by rfl) T.z_range (pa_cons (pv 0) pa_nil))) (fun _ _ _ _ _ => (pg_name (i := 5) sc_all_words.nd rfl (by first | exact Or.inl rfl | exact Or.inr rfl))) (fun _ _ _ _ _ => pts_nil) (fun _ _ _ _ _ => (pe_op (op_addU rfl) (pv 4) (pe_tup (pa_cons (pv 5) pa_nil)))))))
    (pss_one (ps_ret (pv 2))))), ?_⟩
    exact body_of0 rfl h fun X hd => (dst_seq (dst_asg (DEg.cln (df_lst (da_cons (de_tup da_nil) da_nil))) (dg_name 2))
    (dst_seq (dst_for (di_rng1 (db_cons (db_var 1) db_nil)) (dg_name 3)
    (dst_asg (DEg.cln (df_lc2 (di_seq (R := Bor) (db_var 2)) (dg_name 4) dt_yes (di_rng1 (db_cons (db_var 0) db_nil)) (dg_name 5) dt_yes (dg_op od_add (db_var 4) (DEg.bor (de_tup (da_cons (de_var 5) da_nil)))) (by decide))) (dg_name 2)))
    (dst_ret (de_var 2))))
end Mine

namespace Mine
open PySem PySem.Spec PyProof.Rows L2
local macro_rules | `(tactic| walk_at "rd") => `(tactic| try simp only [tMk1, iEnumA, iSeq, tPar3, tAugS, ipI, rRepA, rIxA, tCallSD, rExtend, tDNewK, iZipS, tXf, tSeq, tAsg, tCB, tCons, tNil, tVar, tOp, tUn, rI, rI0, rU, gName, gNil, gCons, gSub, rSetL, tC, tRet, tRetN, tNext, tIfS, tTest, tB, tAnd, tOr, tNot, tAndV, tOrV, tNotV, tIf,
  tDrop, tCall, tCallS, tPar, tAug, ipI, tBreak, tCont, tTup, tLst, rEq_int, rNe_int, rEq_bl, rNe_bl, rEq_str, rNe_str, HO.lst.injEq, HO.tup.injEq, Bool.not_eq_true', decide_eq_false_iff_not, rIxH, rIxTH, rCat, tSl, tPart, tNoPart, tBM, rAppend, L2.start, tFor_eq, tLc_eq, iList, iTup, iRng1, iRng2, iEnum, iZip, cx_K, cx_prog, cx_w, cx_nK, forall_const, tYes, wipe, List.foldl_cons, List.foldl_nil, and_assoc, List.map_cons, List.map_nil, List.length_cons, List.length_nil, List.replicate, List.append_nil, List.cons_append, List.nil_append,
  List.getElem?_cons_zero, List.getElem?_cons_succ, List.set_cons_zero, List.set_cons_succ, Nat.zero_add, Nat.add_zero, Nat.reduceAdd, Nat.reduceSub, Option.some.injEq, V.int.injEq, V.bl.injEq, V.ref.injEq, V.str.injEq,
  List.cons.injEq, and_true, true_and, exists_eq_left, exists_eq_left', exists_eq_right, exists_const, exists_eq, exists_and_left, exists_and_right, upd_same, upd_upd, atI_0, atI_1, atI_2, atI_3, ixN_4_0, ixN_4_1, ixN_4_2, ixN_4_3, some_lst, some_tup, decide_eq_true_eq, reduceCtorEq,
  V.int.injEq, Bool.true_eq_false, Bool.false_eq_true, if_true, if_false, ite_true, ite_false, eq_self, not_true_eq_false, not_false_eq_true, decide_true, decide_false, Bool.not_true, Bool.not_false, false_and, and_false, exists_false])
local macro_rules | `(tactic| walk_at "mono") => `(tactic| repeat (first | with_reducible exact mon_var _ | with_reducible exact mon_c _ | with_reducible exact mon_rI _ _ | with_reducible exact mon_rI0 _ | with_reducible exact mon_rEq | with_reducible exact mon_rNe | with_reducible refine mon_test ?_ | with_reducible refine mon_op ?_ ?_ ?_ | with_reducible refine mon_and ?_ ?_ | with_reducible refine mon_or ?_ ?_ | with_reducible exact mon_rU _ | with_reducible refine mon_un ?_ ?_))
local macro_rules | `(tactic| walk_at "sd") => `(tactic| first | assumption | omega | (unfold CMul; omega) | (unfold CDiv; omega) | rfl | decide)
local macro_rules | `(tactic| walk_at "go") => `(tactic| repeat (refine And.intro (by first | assumption | omega | exact tyL (by assumption) | (unfold CMul; omega) | (unfold CDiv; omega) | rfl | decide) ?_))
theorem ok_TooMany___init {P : Program} {w : World} {K : PySem.W.Frag} {mg : Str → Option Value} {base : Heap} (T : Txt K mg) : ∃ fd, FnOk P w K mg base CX0 1 (He.ma K (He.ga K "TooMany") "__init__") fd P_TooMany___init (spFld (He.ga K "TooMany") "count") ∧ D_TooMany___init K (He.ma K (He.ga K "TooMany") "__init__") fd := by
  obtain ⟨fd, F⟩ := T.F_TooMany___init
  refine ⟨fd, F.ok sc_TooMany___init (fun vs H Q E h => ?_) (fun cdv A outer s H vs Q E hr h => ?_), F⟩
  · obtain ⟨a, v, rfl, _⟩ := h
    rfl
  ·
    obtain ⟨a, v, rfl, ha, q⟩ := h
    refine ⟨_, PSs.nox (pss_one (ps_ost (pv 0) (pv 1))), ?_⟩
    simp only [tMk1, iEnumA, iSeq, tPar3, tAugS, ipI, rRepA, rIxA, tCallSD, rExtend, tDNewK, iZipS, tXf, tSeq, tAsg, tCB, tCons, tNil, tVar, tOp, tUn, rI, rI0, rU, gName, gNil, gCons, gSub, rSetL, tC, tRet, tRetN, tNext, tIfS, tTest, tB, tAnd, tOr, tNot, tAndV, tOrV, tNotV, tIf,
  tDrop, tCall, tCallS, tPar, tAug, ipI, tBreak, tCont, tTup, tLst, rEq_int, rNe_int, rEq_bl, rNe_bl, rEq_str, rNe_str, HO.lst.injEq, HO.tup.injEq, Bool.not_eq_true', decide_eq_false_iff_not, rIxH, rIxTH, rCat, tSl, tPart, tNoPart, tBM, rAppend, L2.start, tFor_eq, tLc_eq, iList, iTup, iRng1, iRng2, iEnum, iZip, cx_K, cx_prog, cx_w, cx_nK, forall_const, tYes, wipe, List.foldl_cons, List.foldl_nil, and_assoc, List.map_cons, List.map_nil, List.length_cons, List.length_nil, List.replicate, List.append_nil, List.cons_append, List.nil_append,
  List.getElem?_cons_zero, List.getElem?_cons_succ, List.set_cons_zero, List.set_cons_succ, Nat.zero_add, Nat.add_zero, Nat.reduceAdd, Nat.reduceSub, Option.some.injEq, V.int.injEq, V.bl.injEq, V.ref.injEq, V.str.injEq,
  List.cons.injEq, and_true, true_and, exists_eq_left, exists_eq_left', exists_eq_right, exists_const, exists_eq, exists_and_left, exists_and_right, upd_same, upd_upd, atI_0, atI_1, atI_2, atI_3, ixN_4_0, ixN_4_1, ixN_4_2, ixN_4_3, some_lst, some_tup, decide_eq_true_eq, reduceCtorEq,
  V.int.injEq, Bool.true_eq_false, Bool.false_eq_true, if_true, if_false, ite_true, ite_false, eq_self, not_true_eq_false, not_false_eq_true, decide_true, decide_false, Bool.not_true, Bool.not_false, false_and, and_false, exists_false, tOst]
    exact ⟨_, T.x_TooMany.o, T.n_TooMany_is_count, .inl ⟨ha, fun dx h1 h2 => q dx h1 h2⟩⟩
end Mine

namespace Mine
open PySem PySem.Spec PyProof.Rows L2
theorem ok_power_of {P : Program} {w : World} {K : PySem.W.Frag} {mg : Str → Option Value} {base : Heap} (T : Txt K mg) : ∃ fd, FnOk P w K mg base CX0 1 (He.ga K "power_of") fd P_power_of (spD K F_power_of) ∧ D_power_of K (He.ga K "power_of") fd := by
  obtain ⟨fd, F⟩ := T.F_power_of
  refine ⟨fd, F.ok sc_power_of (fun vs H Q E h => ?_) (fun cdv A outer s H vs Q E hr h => ?_), F⟩
  · rw [F_power_of_eq] at h
    exact spD_len (np := 2) (fun _ _ _ h => h.1) vs H Q E h
  · rw [F_power_of_eq] at h
    refine ⟨_, PSs.nox (pss_cons (ps_set (i := 2) sc_power_of.nd rfl (by first | exact Or.inl rfl | exact Or.inr rfl) pe_int)
    (pss_cons (ps_for PassesOwn.never rfl (pi_range1 (by rfl) T.z_range (pa_cons (pv 1) pa_nil)) (pg_name (i := 3) sc_power_of.nd rfl (by first | exact Or.inl rfl | exact Or.inr rfl))
    (pss_one (ps_set (i := 2) sc_power_of.nd rfl (by first | exact Or.inl rfl | exact Or.inr rfl) (pe_op op_mulU (pv 2) (pv 0)))))
    (pss_one (ps_ret (pv 2))))), ?_⟩
    exact body_of0 rfl h fun X hd => (dst_seq (dst_asg (de_int 1) (dg_name 2))
    (dst_seq (dst_for (di_rng1 (db_cons (db_var 1) db_nil)) (dg_name 3)
    (dst_asg (dg_op od_mul (db_var 2) (db_var 0)) (dg_name 2)))
    (dst_ret (de_var 2))))
end Mine

namespace Mine
open PySem PySem.Spec PyProof.Rows L2
theorem ok_sum_members {P : Program} {w : World} {K : PySem.W.Frag} {mg : Str → Option Value} {base : Heap} (T : Txt K mg) : ∃ fd, GFn P w K mg base 3 (He.ga K "sum_members") fd P_sum_members (spGD K F_sum_members) ∧ D_sum_members K (He.ga K "sum_members") fd := by
  obtain ⟨fd, F⟩ := T.F_sum_members
  obtain ⟨fd_all_words, G_all_words, D_all_words⟩ := ok_all_words (P := P) (w := w) (base := base) T
  have k_all_words := D_all_words.kp
  have b_all_words := bd_all_words D_all_words
  obtain ⟨fd_sum_of, G_sum_of, D_sum_of⟩ := ok_sum_of (P := P) (w := w) (base := base) T
  have k_sum_of := D_sum_of.kp
  have b_sum_of := bd_sum_of D_sum_of
  obtain ⟨fd_TooMany___init, G_TooMany___init, D_TooMany___init⟩ := ok_TooMany___init (P := P) (w := w) (base := base) T
  have k_TooMany___init := D_TooMany___init.kp
  have b_TooMany___init := bd_TooMany___init D_TooMany___init
  obtain ⟨fd_power_of, G_power_of, D_power_of⟩ := ok_power_of (P := P) (w := w) (base := base) T
  have k_power_of := D_power_of.kp
  have b_power_of := bd_power_of D_power_of
  refine ⟨fd, F.gok sc_sum_members (fun vs H Q E h => ?_) (fun cdv A outer s H vs Q E pn hr h => ?_), F⟩
  · rw [F_sum_members_eq] at h
    exact spGD_len (np := 1) (fun _ _ _ h => h.1) vs H Q E h
  · rw [F_sum_members_eq] at h
    refine ⟨_, (gss_cons (gs_ps (ps_if (pt_cmpR op_gt (pe_fldU (K := K) rfl (pv 0) (by rfl)) (pe_glob (v := .int (14)) rfl T.c_MOST_LISTED.choose_spec ⟨_, rfl⟩) (by first | exact nomark _ | rfl))
    (pss_one (ps_raise rfl takes_gcx (mk1 T.x_TooMany T.g_TooMany G_TooMany___init b_TooMany___init (hr.mono (by decide)) (mon_callA (monA_cons (mon_c _) (monA_cons (mon_fld (mon_var _)) monA_nil))) (pe_call G_power_of (hr.mono (by decide)) rfl T.g_power_of k_power_of b_power_of .nil pass0 (pa_cons pe_int (pa_cons (pe_fldU (K := K) rfl (pv 0) (by rfl)) pa_nil))) rfl)))
    pss_nil))
    (gss_cons (gs_for owns_gcx rfl (pi_seq (pe_call G_all_words (hr.mono (by decide)) rfl T.g_all_words k_all_words b_all_words .nil pass0 (pa_cons pe_int (pa_cons (pe_fldU (K := K) rfl (pv 0) (by rfl)) pa_nil)))) (pg_name (i := 1) sc_sum_members.nd rfl (by first | exact Or.inl rfl | exact Or.inr rfl))
    (gss_cons (gs_if (pt_cmpR (op_eqU rfl hr.units) (pe_op op_mod (pe_call G_sum_of (hr.mono (by decide)) rfl T.g__sum_of k_sum_of b_sum_of .nil pass0 (pa_cons (pv 1) pa_nil)) (pe_fldU (K := K) rfl (pv 0) (by rfl))) (pe_fldU (K := K) rfl (pv 0) (by rfl)) (by first | exact nomark _ | rfl))
    (gss_cons (gs_yield (pv 1))
    gss_nil)
    gss_nil)
    gss_nil))
    gss_nil)), ?_⟩
    exact gbody_of rfl h fun X hd => (dgs_seq (dgs_plain (dst_if (dt_test (dg_op od_gt (DEg.bor (de_fld (fld_ok T) (db_var 0))) (DEg.bor (de_int (14)))))
    (dst_raise1 rfl (de_call0 dv_nil (ds_cons (de_int 2) (ds_cons (de_fld (fld_ok T) (db_var 0)) ds_nil))))
    dst_next))
    (dgs_seq (dgs_for (di_seq (R := Cln) (de_call0 dv_nil (ds_cons (de_int 2) (ds_cons (de_fld (fld_ok T) (db_var 0)) ds_nil)))) (dg_name 1)
    (dgs_seq (dgs_if (dt_test (dg_op od_eq (DEg.bor (dg_op od_mod (DEg.bor (de_call0 dv_nil (ds_cons (de_var 1) ds_nil))) (DEg.bor (de_fld (fld_ok T) (db_var 0))))) (DEg.bor (de_fld (fld_ok T) (db_var 0)))))
    (dgs_seq (dgs_yield (de_var 1))
    dgs_next)
    dgs_next)
    dgs_next))
    dgs_next))
end Mine

namespace Mine
open PySem PySem.Spec PyProof.Rows L2
theorem ok_book_of_sums {P : Program} {w : World} {K : PySem.W.Frag} {mg : Str → Option Value} {base : Heap} (T : Txt K mg) : ∃ fd, FnOk P w K mg base (L2.CX P w) 7 (He.ga K "book_of_sums") fd P_book_of_sums (spD K F_book_of_sums) ∧ D_book_of_sums K (He.ga K "book_of_sums") fd := by
  obtain ⟨fd, F⟩ := T.F_book_of_sums
  obtain ⟨fd_Book___init, G_Book___init, D_Book___init⟩ := ok_Book___init (P := P) (w := w) (base := base) T
  have k_Book___init := D_Book___init.kp
  have b_Book___init := bd_Book___init D_Book___init
  obtain ⟨fd_sum_members, G_sum_members, D_sum_members⟩ := ok_sum_members (P := P) (w := w) (base := base) T
  have k_sum_members := D_sum_members.kp
  have b_sum_members := bd_sum_members D_sum_members
  refine ⟨fd, F.ok sc_book_of_sums (fun vs H Q E h => ?_) (fun cdv A outer s H vs Q E hr h => ?_), F⟩
  · rw [F_book_of_sums_eq] at h
    exact spD_len (np := 1) (fun _ _ _ h => h.1) vs H Q E h
  · rw [F_book_of_sums_eq] at h
    refine ⟨_, (pss_one (ps_ret (pe_make T.r_Book G_Book___init (hr.mono (by decide)) rfl T.g_Book b_Book___init .nil (E := E) (passes_call (takes_of rfl rfl rfl rfl) fun _ _ _ _ h => h) (pa_cons pe_int (pa_cons (pe_fldU (K := K) rfl (pv 0) (by rfl)) (pa_cons (pe_listG (E := EG K E) (pgen_call G_sum_members (hr.mono (by decide)) rfl T.g_sum_members k_sum_members b_sum_members .nil (pa_cons (pv 0) pa_nil)) (passes_call (takes_of rfl rfl rfl rfl) fun _ _ _ _ h => h.1) noStopG (hr.mono (by decide)) (by rfl) T.z_list (by decide +kernel)) pa_nil)))))), ?_⟩
    exact body_of rfl h fun X hd => (dst_ret (de_make rfl dv_nil (ds_cons (de_int 2) (ds_cons (de_fld (fld_ok T) (db_var 0)) (ds_cons (DEg.cln (df_listGx (c := "TooMany") rfl T.u_TooMany dv_nil (ds_cons (de_var 0) ds_nil))) ds_nil)))))
end Mine

namespace Mine
open PySem PySem.Spec PyProof.Rows L2
theorem ok_law_all_words {P : Program} {w : World} {K : PySem.W.Frag} {mg : Str → Option Value} {base : Heap} (T : Txt K mg) : ∃ fd, FnOk P w K mg base CX0 1 (He.ga K "_law_all_words") fd P_law_all_words (spD K F_law_all_words) ∧ D_law_all_words K (He.ga K "_law_all_words") fd := by
  obtain ⟨fd, F⟩ := T.F_law_all_words
  refine ⟨fd, F.ok sc_law_all_words (fun vs H Q E h => ?_) (fun cdv A outer s H vs Q E hr h => ?_), F⟩
  · rw [F_law_all_words_eq] at h
    exact spD_len (np := 2) (fun _ _ _ h => h.1) vs H Q E h
  · rw [F_law_all_words_eq] at h
    refine ⟨_, PSs.nox (pss_cons (ps_set (i := 2) sc_law_all_words.nd rfl (by first | exact Or.inl rfl | exact Or.inr rfl) (pe_lst (pa_cons (pe_tup pa_nil) pa_nil)))
    (pss_cons (ps_for PassesOwn.never rfl (pi_range1 (by rfl) T.z_range (pa_cons (pv 1) pa_nil)) (pg_name (i := 3) sc_law_all_words.nd rfl (by first | exact Or.inl rfl | exact Or.inr rfl))
    (pss_cons (ps_set (i := 4) sc_law_all_words.nd rfl (by first | exact Or.inl rfl | exact Or.inr rfl) (pe_lst pa_nil))
    (pss_cons (ps_for PassesOwn.never rfl (pi_seq (pv 2)) (pg_name (i := 5) sc_law_all_words.nd rfl (by first | exact Or.inl rfl | exact Or.inr rfl))
    (pss_one (ps_set (i := 4) sc_law_all_words.nd rfl (by first | exact Or.inl rfl | exact Or.inr rfl) (pe_op (op_addU rfl) (pv 4) (pe_lc (own := [("_law_letter", 6)]) rfl sc_law_all_words.nd (pi_range1 (by rfl) T.z_range (pa_cons (pv 0) pa_nil)) (blkOk_by (own := [("_law_letter", 6)]) (N := N_law_all_words) (sc := defScope s_law_all_words) (by decide +kernel)) (fun _ _ _ _ _ => (pg_name (i := 6) sc_law_all_words.nd rfl (by first | exact Or.inl rfl | exact Or.inr rfl))) (fun _ _ _ _ _ => pts_nil) (fun _ _ _ _ _ => (pe_op (op_addU rfl) (pv 5) (pe_tup (pa_cons (pv 6) pa_nil)))))))))
    (pss_one (ps_set (i := 2) sc_law_all_words.nd rfl (by first | exact Or.inl rfl | exact Or.inr rfl) (pv 4))))))
    (pss_one (ps_ret (pv 2))))), ?_⟩
    exact body_of0 rfl h fun X hd => (dst_seq (dst_asg (DEg.cln (df_lst (da_cons (de_tup da_nil) da_nil))) (dg_name 2))
    (dst_seq (dst_for (di_rng1 (db_cons (db_var 1) db_nil)) (dg_name 3)
    (dst_seq (dst_asg (DEg.cln (df_lst da_nil)) (dg_name 4))
    (dst_seq (dst_for (di_seq (R := Cln) (de_var 2)) (dg_name 5)
    (dst_asg (dg_op od_add (db_var 4) (DEg.bor (DEg.cln (df_lc (di_rng1 (db_cons (db_var 0) db_nil)) (dg_name 6) dt_yes (dg_op od_add (db_var 5) (DEg.bor (de_tup (da_cons (de_var 6) da_nil)))))))) (dg_name 4)))
    (dst_asg (de_var 4) (dg_name 2)))))
    (dst_ret (de_var 2))))
end Mine

namespace Mine
open PySem PySem.Spec PyProof.Rows L2
theorem ok_law_sum_words {P : Program} {w : World} {K : PySem.W.Frag} {mg : Str → Option Value} {base : Heap} (T : Txt K mg) : ∃ fd, FnOk P w K mg base CX0 2 (He.ga K "_law_sum_words") fd P_law_sum_words (spD K F_law_sum_words) ∧ D_law_sum_words K (He.ga K "_law_sum_words") fd := by
  obtain ⟨fd, F⟩ := T.F_law_sum_words
  obtain ⟨fd_law_all_words, G_law_all_words, D_law_all_words⟩ := ok_law_all_words (P := P) (w := w) (base := base) T
  have k_law_all_words := D_law_all_words.kp
  have b_law_all_words := bd_law_all_words D_law_all_words
  obtain ⟨fd_law_sum, G_law_sum, D_law_sum⟩ := ok_law_sum (P := P) (w := w) (base := base) T
  have k_law_sum := D_law_sum.kp
  have b_law_sum := bd_law_sum D_law_sum
  refine ⟨fd, F.ok sc_law_sum_words (fun vs H Q E h => ?_) (fun cdv A outer s H vs Q E hr h => ?_), F⟩
  · rw [F_law_sum_words_eq] at h
    exact spD_len (np := 3) (fun _ _ _ h => h.1) vs H Q E h
  · rw [F_law_sum_words_eq] at h
    refine ⟨_, PSs.nox (pss_one (ps_ret (pe_lc (own := [("_law_word_here", 3)]) rfl sc_law_sum_words.nd (pi_seq (pe_call G_law_all_words (hr.mono (by decide)) rfl T.g__law_all_words k_law_all_words b_law_all_words .nil pass0 (pa_cons pe_int (pa_cons (pv 0) pa_nil)))) (blkOk_by (own := [("_law_word_here", 3)]) (N := N_law_sum_words) (sc := defScope s_law_sum_words) (by decide +kernel)) (fun _ _ _ _ _ => (pg_name (i := 3) sc_law_sum_words.nd rfl (by first | exact Or.inl rfl | exact Or.inr rfl))) (fun _ _ _ _ _ => (pts_one (pt_cmpR (op_eqU rfl hr.units) (pe_op op_mod (pe_callTy call_intU (by rfl) T.z_int (by decide +kernel) (pa_cons (pe_op op_sub (pe_call G_law_sum (hr.mono (by decide)) rfl T.g__law_sum k_law_sum b_law_sum .nil pass0 (pa_cons (pv 3) pa_nil)) (pv 2)) pa_nil)) (pv 1)) pe_int (by first | exact nomark _ | rfl)))) (fun _ _ _ _ _ => (pv 3))))), ?_⟩
    exact body_of0 rfl h fun X hd => (dst_ret (DEg.cln (df_lc (di_seq (R := Bor) (DEg.bor (de_call0 dv_nil (ds_cons (de_int 2) (ds_cons (de_var 0) ds_nil))))) (dg_name 3) (dt_test (dg_op od_eq (DEg.bor (dg_op od_mod (DEg.bor (dg_cb cg_int (db_cons (DEg.bor (dg_op od_sub (DEg.bor (de_call0 dv_nil (ds_cons (de_var 3) ds_nil))) (db_var 2))) db_nil))) (db_var 1))) (DEg.bor (de_int 0)))) (de_var 3))))
end Mine

namespace Mine
open PySem PySem.Spec PyProof.Rows L2
theorem ok_Book_contrary {P : Program} {w : World} {K : PySem.W.Frag} {mg : Str → Option Value} {base : Heap} (T : Txt K mg) : ∃ fd, FnOk P w K mg base (L2.CX P w) 6 (He.ma K (He.ga K "Book") "contrary") fd P_Book_contrary (spD K F_Book_contrary) ∧ D_Book_contrary K (He.ma K (He.ga K "Book") "contrary") fd := by
  obtain ⟨fd, F⟩ := T.F_Book_contrary
  obtain ⟨fd_Book___init, G_Book___init, D_Book___init⟩ := ok_Book___init (P := P) (w := w) (base := base) T
  have k_Book___init := D_Book___init.kp
  have b_Book___init := bd_Book___init D_Book___init
  refine ⟨fd, F.ok sc_Book_contrary (fun vs H Q E h => ?_) (fun cdv A outer s H vs Q E hr h => ?_), F⟩
  · rw [F_Book_contrary_eq] at h
    exact spD_len (np := 1) (fun _ _ _ h => h.1) vs H Q E h
  · rw [F_Book_contrary_eq] at h
    refine ⟨_, (pss_cons (ps_setLc (i := 1) (own := [("member", 2)]) rfl sc_Book_contrary.nd rfl rfl (sw_true rfl rfl rfl (by decide +kernel)) (pi_seq (pe_fldU (K := K) rfl (pv 0) (by rfl))) (blkOk_by (own := [("member", 2)]) (N := N_Book_contrary) (sc := defScope s_Book_contrary) (by decide +kernel)) (fun _ _ _ _ _ => (pg_name (i := 2) sc_Book_contrary.nd rfl (by first | exact Or.inl rfl | exact Or.inr rfl))) (fun _ _ _ _ _ => pts_nil) (fun _ _ _ _ _ => (pe_callTy (call_tupU (K := K) rfl) (by rfl) T.z_tuple (by decide +kernel) (pa_cons (pe_lcIn (own := [("letter", 3)]) (N := N_Book_contrary) (by rfl) (by decide +kernel) (by rfl) sc_Book_contrary.nd (pi_seqU (K := K) rfl (pv 2)) (fun _ _ _ _ _ => (pg_name (i := 3) sc_Book_contrary.nd rfl (by first | exact Or.inl rfl | exact Or.inr rfl))) (fun _ _ _ _ _ => pts_nil) (fun _ _ _ _ _ => (pe_op op_sub (pe_op op_sub (pe_fldU (K := K) rfl (pv 0) (by rfl)) pe_int) (pv 3)))) pa_nil))))
    (pss_one (ps_ret (pe_make T.r_Book G_Book___init (hr.mono (by decide)) rfl T.g_Book b_Book___init .nil (E := E) (passes_call (takes_of rfl rfl rfl rfl) fun _ _ _ _ h => h) (pa_cons (pe_fldU (K := K) rfl (pv 0) (by rfl)) (pa_cons (pe_fldU (K := K) rfl (pv 0) (by rfl)) (pa_cons (pv 1) pa_nil))))))), ?_⟩
    exact body_of rfl h fun X hd => (dst_seq (dst_asg (DEg.cln (df_lc (di_seq (R := Bor) (DEg.bor (de_fld (fld_ok T) (db_var 0)))) (dg_name 2) dt_yes (dg_cb cg_tup (db_cons (DEg.bor (DEg.cln (df_lc (di_seq (R := Bor) (db_var 2)) (dg_name 3) dt_yes (dg_op od_sub (DEg.bor (dg_op od_sub (DEg.bor (de_fld (fld_ok T) (db_var 0))) (DEg.bor (de_int 1)))) (db_var 3))))) db_nil)))) (dg_name 1))
    (dst_ret (de_make rfl dv_nil (ds_cons (de_fld (fld_ok T) (db_var 0)) (ds_cons (de_fld (fld_ok T) (db_var 0)) (ds_cons (de_var 1) ds_nil))))))
end Mine

namespace Mine
open PySem PySem.Spec PyProof.Rows L2
theorem ok_Book_turned {P : Program} {w : World} {K : PySem.W.Frag} {mg : Str → Option Value} {base : Heap} (T : Txt K mg) : ∃ fd, FnOk P w K mg base (L2.CX P w) 6 (He.ma K (He.ga K "Book") "turned") fd P_Book_turned (spD K F_Book_turned) ∧ D_Book_turned K (He.ma K (He.ga K "Book") "turned") fd := by
  obtain ⟨fd, F⟩ := T.F_Book_turned
  obtain ⟨fd_Book___init, G_Book___init, D_Book___init⟩ := ok_Book___init (P := P) (w := w) (base := base) T
  have k_Book___init := D_Book___init.kp
  have b_Book___init := bd_Book___init D_Book___init
  refine ⟨fd, F.ok sc_Book_turned (fun vs H Q E h => ?_) (fun cdv A outer s H vs Q E hr h => ?_), F⟩
  · rw [F_Book_turned_eq] at h
    exact spD_len (np := 1) (fun _ _ _ h => h.1) vs H Q E h
  · rw [F_Book_turned_eq] at h
    refine ⟨_, (pss_one (ps_ret (pe_make T.r_Book G_Book___init (hr.mono (by decide)) rfl T.g_Book b_Book___init .nil (E := E) (passes_call (takes_of rfl rfl rfl rfl) fun _ _ _ _ h => h) (pa_cons (pe_fldU (K := K) rfl (pv 0) (by rfl)) (pa_cons (pe_fldU (K := K) rfl (pv 0) (by rfl)) (pa_cons (pe_lc (own := [("member", 1)]) rfl sc_Book_turned.nd (pi_seq (pe_fldU (K := K) rfl (pv 0) (by rfl))) (blkOk_by (own := [("member", 1)]) (N := N_Book_turned) (sc := defScope s_Book_turned) (by decide +kernel)) (fun _ _ _ _ _ => (pg_name (i := 1) sc_Book_turned.nd rfl (by first | exact Or.inl rfl | exact Or.inr rfl))) (fun _ _ _ _ _ => pts_nil) (fun _ _ _ _ _ => (pe_revU (pv 1)))) pa_nil)))))), ?_⟩
    exact body_of rfl h fun X hd => (dst_ret (de_make rfl dv_nil (ds_cons (de_fld (fld_ok T) (db_var 0)) (ds_cons (de_fld (fld_ok T) (db_var 0)) (ds_cons (DEg.cln (df_lc (di_seq (R := Bor) (DEg.bor (de_fld (fld_ok T) (db_var 0)))) (dg_name 1) dt_yes (de_rev (db_var 1)))) ds_nil)))))
end Mine

namespace Mine
open PySem PySem.Spec PyProof.Rows L2
theorem ok_law_plain_right {P : Program} {w : World} {K : PySem.W.Frag} {mg : Str → Option Value} {base : Heap} (T : Txt K mg) : ∃ fd, FnOk P w K mg base CX0 8 (He.ga K "_law_plain_right") fd P_law_plain_right (spD K F_law_plain_right) ∧ D_law_plain_right K (He.ga K "_law_plain_right") fd := by
  obtain ⟨fd, F⟩ := T.F_law_plain_right
  obtain ⟨fd_book_of_sums, G_book_of_sums, D_book_of_sums⟩ := ok_book_of_sums (P := P) (w := w) (base := base) T
  have k_book_of_sums := D_book_of_sums.kp
  have b_book_of_sums := bd_book_of_sums D_book_of_sums
  obtain ⟨fd_law_sum_words, G_law_sum_words, D_law_sum_words⟩ := ok_law_sum_words (P := P) (w := w) (base := base) T
  have k_law_sum_words := D_law_sum_words.kp
  have b_law_sum_words := bd_law_sum_words D_law_sum_words
  obtain ⟨fd_Book___eq, G_Book___eq, D_Book___eq⟩ := ok_Book___eq (P := P) (w := w) (base := base) T
  have k_Book___eq := D_Book___eq.kp
  have b_Book___eq := bd_Book___eq D_Book___eq
  obtain ⟨fd_SumBook___eq, G_SumBook___eq, D_SumBook___eq⟩ := ok_SumBook___eq (P := P) (w := w) (base := base) T
  have k_SumBook___eq := D_SumBook___eq.kp
  have b_SumBook___eq := bd_SumBook___eq D_SumBook___eq
  obtain ⟨fd_SumBook_contrary, G_SumBook_contrary, D_SumBook_contrary⟩ := ok_SumBook_contrary (P := P) (w := w) (base := base) T
  have k_SumBook_contrary := D_SumBook_contrary.kp
  have b_SumBook_contrary := bd_SumBook_contrary D_SumBook_contrary
  obtain ⟨fd_Book_contrary, G_Book_contrary, D_Book_contrary⟩ := ok_Book_contrary (P := P) (w := w) (base := base) T
  have k_Book_contrary := D_Book_contrary.kp
  have b_Book_contrary := bd_Book_contrary D_Book_contrary
  obtain ⟨fd_Book_turned, G_Book_turned, D_Book_turned⟩ := ok_Book_turned (P := P) (w := w) (base := base) T
  have k_Book_turned := D_Book_turned.kp
  have b_Book_turned := bd_Book_turned D_Book_turned
  obtain ⟨fd_SumBook_turned, G_SumBook_turned, D_SumBook_turned⟩ := ok_SumBook_turned (P := P) (w := w) (base := base) T
  have k_SumBook_turned := D_SumBook_turned.kp
  have b_SumBook_turned := bd_SumBook_turned D_SumBook_turned
  refine ⟨fd, F.ok sc_law_plain_right (fun vs H Q E h => ?_) (fun cdv A outer s H vs Q E hr h => ?_), F⟩
  · rw [F_law_plain_right_eq] at h
    exact spD_len (np := 2) (fun _ _ _ h => h.1) vs H Q E h
  · rw [F_law_plain_right_eq] at h
    refine ⟨_, PSs.nox (pss_cons (ps_set (i := 2) sc_law_plain_right.nd rfl (by first | exact Or.inl rfl | exact Or.inr rfl) (pe_call G_book_of_sums (hr.mono (by decide)) rfl T.g_book_of_sums k_book_of_sums b_book_of_sums .nil passL (pa_cons (pv 0) pa_nil)))
    (pss_cons (ps_set (i := 3) sc_law_plain_right.nd rfl (by first | exact Or.inl rfl | exact Or.inr rfl) (pe_call G_law_sum_words (hr.mono (by decide)) rfl T.g__law_sum_words k_law_sum_words b_law_sum_words .nil pass0 (pa_cons (pe_ix (ix_U (K := K) rfl) (pv 1) pe_int (fun _ _ => rfl)) (pa_cons (pe_ix (ix_U (K := K) rfl) (pv 1) pe_int (fun _ _ => rfl)) (pa_cons (pe_ix (ix_U (K := K) rfl) (pv 1) pe_int (fun _ _ => rfl)) pa_nil)))))
    (pss_cons (ps_if (PW.pt (pw_or (pt_cmpR (op_neU rfl hr.units) (pe_fldU (K := K) rfl (pv 2) (by rfl)) pe_int (by first | exact nomark _ | rfl)) (pw_or (pt_cmpR (op_neU rfl hr.units) (pe_fldU (K := K) rfl (pv 2) (by rfl)) (pe_ix (ix_U (K := K) rfl) (pv 1) pe_int (fun _ _ => rfl)) (by first | exact nomark _ | rfl)) (pw_or1 (pt_cmpR (op_neU rfl hr.units) (pe_fldU (K := K) rfl (pv 2) (by rfl)) (pe_callTy (call_tupU (K := K) rfl) (by rfl) T.z_tuple (by decide +kernel) (pa_cons (pv 3) pa_nil)) (by first | exact nomark _ | rfl))))))
    (pss_one (ps_ret pe_bl))
    pss_nil)
    (pss_cons (ps_if (pt_not (pt_cmpR ((op_eqR rfl (eqc T) (hr.mono (by decide))).or ((op_eqO rfl (eqc T) (hr.mono (by decide))).or (op_eqU rfl hr.units))) (pe_call G_book_of_sums (hr.mono (by decide)) rfl T.g_book_of_sums k_book_of_sums b_book_of_sums .nil passL (pa_cons (pe_meth0 (pv 0) T.l_SumBook T.b_SumBook_is_contrary G_SumBook_contrary (hr.mono (by decide)) b_SumBook_contrary .nil passL) pa_nil)) (pe_meth0 (pv 2) T.l_Book T.b_Book_is_contrary G_Book_contrary (hr.mono (by decide)) b_Book_contrary .nil passL) (by first | exact nomark _ | rfl)))
    (pss_one (ps_ret pe_bl))
    pss_nil)
    (pss_cons (ps_if (pt_cmpR (op_neU rfl hr.units) (pe_fldU (K := K) rfl (pe_meth0 (pv 2) T.l_Book T.b_Book_is_contrary G_Book_contrary (hr.mono (by decide)) b_Book_contrary .nil passL) (by rfl)) (pe_callTy (call_tupU (K := K) rfl) (by rfl) T.z_tuple (by decide +kernel) (pa_cons (pe_callB (call_sortedW (K := K) rfl hr.units) (by rfl) T.z_sorted (by decide +kernel) (pa_cons (pe_lc (own := [("_law_row", 4)]) rfl sc_law_plain_right.nd (pi_seq (pv 3)) (blkOk_by (own := [("_law_row", 4)]) (N := N_law_plain_right) (sc := defScope s_law_plain_right) (by decide +kernel)) (fun _ _ _ _ _ => (pg_name (i := 4) sc_law_plain_right.nd rfl (by first | exact Or.inl rfl | exact Or.inr rfl))) (fun _ _ _ _ _ => pts_nil) (fun _ _ _ _ _ => (pe_callTy (call_tupU (K := K) rfl) (by rfl) T.z_tuple (by decide +kernel) (pa_cons (pe_lcIn (own := [("_law_letter", 5)]) (N := N_law_plain_right) (by rfl) (by decide +kernel) (by rfl) sc_law_plain_right.nd (pi_seqU (K := K) rfl (pv 4)) (fun _ _ _ _ _ => (pg_name (i := 5) sc_law_plain_right.nd rfl (by first | exact Or.inl rfl | exact Or.inr rfl))) (fun _ _ _ _ _ => pts_nil) (fun _ _ _ _ _ => (pe_op op_sub pe_int (pv 5)))) pa_nil)))) pa_nil)) pa_nil)) (by first | exact nomark _ | rfl))
    (pss_one (ps_ret pe_bl))
    pss_nil)
    (pss_cons (ps_if (pt_cmpR (op_neU rfl hr.units) (pe_ix (ix_U (K := K) rfl) (pv 1) pe_int (fun _ _ => rfl)) (pe_op (op_addU rfl) (pe_ix (ix_U (K := K) rfl) (pv 1) pe_int (fun _ _ => rfl)) pe_int) (by first | exact nomark _ | rfl))
    (pss_one (ps_ret pe_bl))
    pss_nil)
    (pss_one (ps_ret (pe_and (pe_cmpR ((op_eqR rfl (eqc T) (hr.mono (by decide))).or ((op_eqO rfl (eqc T) (hr.mono (by decide))).or (op_eqU rfl hr.units))) (pe_call G_book_of_sums (hr.mono (by decide)) rfl T.g_book_of_sums k_book_of_sums b_book_of_sums .nil passL (pa_cons (pe_meth0 (pv 0) T.l_SumBook T.b_SumBook_is_turned G_SumBook_turned (hr.mono (by decide)) b_SumBook_turned .nil passL) pa_nil)) (pe_meth0 (pv 2) T.l_Book T.b_Book_is_turned G_Book_turned (hr.mono (by decide)) b_Book_turned .nil passL) (by first | exact nomark _ | rfl)) (pe_one (pe_cmpR ((op_eqR rfl (eqc T) (hr.mono (by decide))).or ((op_eqO rfl (eqc T) (hr.mono (by decide))).or (op_eqU rfl hr.units))) (pe_fldU (K := K) rfl (pe_meth0 (pv 2) T.l_Book T.b_Book_is_turned G_Book_turned (hr.mono (by decide)) b_Book_turned .nil passL) (by rfl)) (pe_callTy (call_tupU (K := K) rfl) (by rfl) T.z_tuple (by decide +kernel) (pa_cons (pe_callB (call_sortedW (K := K) rfl hr.units) (by rfl) T.z_sorted (by decide +kernel) (pa_cons (pe_lc (own := [("_law_row", 4)]) rfl sc_law_plain_right.nd (pi_seq (pv 3)) (blkOk_by (own := [("_law_row", 4)]) (N := N_law_plain_right) (sc := defScope s_law_plain_right) (by decide +kernel)) (fun _ _ _ _ _ => (pg_name (i := 4) sc_law_plain_right.nd rfl (by first | exact Or.inl rfl | exact Or.inr rfl))) (fun _ _ _ _ _ => pts_nil) (fun _ _ _ _ _ => (pe_revU (pv 4)))) pa_nil)) pa_nil)) (by first | exact nomark _ | rfl)))))))))))), ?_⟩
    exact body_of0 rfl h fun X hd => (dst_seq (dst_asg (de_call0 dv_nil (ds_cons (de_var 0) ds_nil)) (dg_name 2))
    (dst_of S_law_plain_right_r2_eq
    (dst_seq (dst_asg (de_call0 dv_nil (ds_cons (dg_op od_ix (db_var 1) (DEg.bor (de_int 0))) (ds_cons (dg_op od_ix (db_var 1) (DEg.bor (de_int 1))) (ds_cons (dg_op od_ix (db_var 1) (DEg.bor (de_int 2))) ds_nil)))) (dg_name 3))
    (dst_of S_law_plain_right_r3_eq
    (dst_seq (dst_if (dt_or (dt_test (dg_op od_ne (DEg.bor (de_fld (fld_ok T) (db_var 2))) (DEg.bor (de_int 2)))) (dt_or (dt_test (dg_op od_ne (DEg.bor (de_fld (fld_ok T) (db_var 2))) (DEg.bor (dg_op od_ix (db_var 1) (DEg.bor (de_int 0)))))) (dt_test (dg_op od_ne (DEg.bor (de_fld (fld_ok T) (db_var 2))) (DEg.bor (dg_cb cg_tup (db_cons (db_var 3) db_nil)))))))
    (dst_ret (de_bl false))
    dst_next)
    (dst_of S_law_plain_right_r5_eq
    (dst_seq (dst_if (dt_not (dt_test (de_eqB (eqt T) (de_call0 dv_nil (ds_cons (de_meth0 dv_nil (de_var 0) ds_nil) ds_nil)) (de_meth0 dv_nil (de_var 2) ds_nil))))
    (dst_ret (de_bl false))
    dst_next)
    (dst_of S_law_plain_right_r7_eq
    (dst_seq (dst_if (dt_test (dg_op od_ne (DEg.bor (de_fld (fld_ok T) (DEg.bor (de_meth0 dv_nil (de_var 2) ds_nil)))) (DEg.bor (dg_cb cg_tup (db_cons (DEg.bor (DEg.cln (dg_cb cg_sortedW (db_cons (DEg.bor (DEg.cln (df_lc (di_seq (R := Bor) (db_var 3)) (dg_name 4) dt_yes (dg_cb cg_tup (db_cons (DEg.bor (DEg.cln (df_lc (di_seq (R := Bor) (db_var 4)) (dg_name 5) dt_yes (dg_op od_sub (DEg.bor (de_int 1)) (db_var 5))))) db_nil))))) db_nil)))) db_nil)))))
    (dst_ret (de_bl false))
    dst_next)
    (dst_of S_law_plain_right_r9_eq
    (dst_seq (dst_if (dt_test (dg_op od_ne (DEg.bor (dg_op od_ix (db_var 1) (DEg.bor (de_int 1)))) (DEg.bor (dg_op od_add (DEg.bor (dg_op od_ix (db_var 1) (DEg.bor (de_int 0)))) (DEg.bor (de_int 1))))))
    (dst_ret (de_bl true))
    dst_next)
    (dst_of S_law_plain_right_r11_eq
    (dst_ret (de_andV (de_eqB (eqt T) (de_call0 dv_nil (ds_cons (de_meth0 dv_nil (de_var 0) ds_nil) ds_nil)) (de_meth0 dv_nil (de_var 2) ds_nil)) (de_eqB (eqt T) (de_fld (fld_ok T) (DEg.bor (de_meth0 dv_nil (de_var 2) ds_nil))) (dg_cb cg_tup (db_cons (DEg.bor (DEg.cln (dg_cb cg_sortedW (db_cons (DEg.bor (DEg.cln (df_lc (di_seq (R := Bor) (db_var 3)) (dg_name 4) dt_yes (de_rev (db_var 4))))) db_nil)))) db_nil)))))))))))))))))
end Mine

namespace Mine
open PySem PySem.Spec PyProof.Rows L2
theorem ok_law_odd {P : Program} {w : World} {K : PySem.W.Frag} {mg : Str → Option Value} {base : Heap} (T : Txt K mg) : ∃ fd, FnOk P w K mg base CX0 3 (He.ga K "_law_odd") fd P_law_odd (spD K F_law_odd) ∧ D_law_odd K (He.ga K "_law_odd") fd := by
  obtain ⟨fd, F⟩ := T.F_law_odd
  obtain ⟨fd_law_take, G_law_take, D_law_take⟩ := ok_law_take (P := P) (w := w) (base := base) T
  have k_law_take := D_law_take.kp
  have b_law_take := bd_law_take D_law_take
  refine ⟨fd, F.ok sc_law_odd (fun vs H Q E h => ?_) (fun cdv A outer s H vs Q E hr h => ?_), F⟩
  · rw [F_law_odd_eq] at h
    exact spD_len (np := 2) (fun _ _ _ h => h.1) vs H Q E h
  · rw [F_law_odd_eq] at h
    refine ⟨_, PSs.nox (pss_one (ps_ret (pe_ix (ix_U (K := K) rfl) (pe_lst (pa_cons (pe_un un_neg pe_int) (pa_cons (pe_op (op_addU rfl) (pv 1) pe_int) (pa_cons pe_bl (pa_cons pe_non (pa_cons pe_str (pa_cons (pe_tup (pa_cons pe_int pa_nil)) (pa_cons (pe_op op_sub (pe_un un_neg pe_int) (pe_call G_law_take (hr.mono (by decide)) rfl T.g__law_take k_law_take b_law_take .nil pass0 (pa_cons (pv 0) (pa_cons (pe_op op_pow pe_int pe_int) pa_nil)))) (pa_cons (pe_op (op_addU rfl) (pe_op (op_addU rfl) (pv 1) pe_int) (pe_call G_law_take (hr.mono (by decide)) rfl T.g__law_take k_law_take b_law_take .nil pass0 (pa_cons (pv 0) (pa_cons (pe_op op_pow pe_int pe_int) pa_nil)))) pa_nil))))))))) (pe_call G_law_take (hr.mono (by decide)) rfl T.g__law_take k_law_take b_law_take .nil pass0 (pa_cons (pv 0) (pa_cons pe_int pa_nil))) (fun _ _ => rfl)))), ?_⟩
    exact body_of0 rfl h fun X hd => (dst_ret (dg_op od_ix (DEg.bor (DEg.cln (df_lst (da_cons (de_un ud_neg (DEg.bor (de_int 1))) (da_cons (dg_op od_add (db_var 1) (DEg.bor (de_int 1))) (da_cons (de_bl true) (da_cons de_non (da_cons (de_str "1") (da_cons (de_tup (da_cons (de_int 0) da_nil)) (da_cons (dg_op od_sub (DEg.bor (de_un ud_neg (DEg.bor (de_int 1)))) (DEg.bor (de_call0 dv_nil (ds_hand (i := 0) (ds_cons (de_powC (a := 10) (b := 6) (c := 1000000) (cpow_of (by decide +kernel)) (by decide +kernel)) ds_nil))))) (da_cons (dg_op od_add (DEg.bor (dg_op od_add (db_var 1) (DEg.bor (de_int 1)))) (DEg.bor (de_call0 dv_nil (ds_hand (i := 0) (ds_cons (de_powC (a := 10) (b := 6) (c := 1000000) (cpow_of (by decide +kernel)) (by decide +kernel)) ds_nil))))) da_nil))))))))))) (DEg.bor (de_call0 dv_nil (ds_hand (i := 0) (ds_cons (de_int 8) ds_nil))))))
end Mine

namespace Mine
open PySem PySem.Spec PyProof.Rows L2
theorem ok_law_made_refused {P : Program} {w : World} {K : PySem.W.Frag} {mg : Str → Option Value} {base : Heap} (T : Txt K mg) : ∃ fd, FnOk P w K mg base CX0 6 (He.ga K "_law_made_refused") fd P_law_made_refused (spD K F_law_made_refused) ∧ D_law_made_refused K (He.ga K "_law_made_refused") fd := by
  obtain ⟨fd, F⟩ := T.F_law_made_refused
  obtain ⟨fd_law_odd, G_law_odd, D_law_odd⟩ := ok_law_odd (P := P) (w := w) (base := base) T
  have k_law_odd := D_law_odd.kp
  have b_law_odd := bd_law_odd D_law_odd
  obtain ⟨fd_law_take, G_law_take, D_law_take⟩ := ok_law_take (P := P) (w := w) (base := base) T
  have k_law_take := D_law_take.kp
  have b_law_take := bd_law_take D_law_take
  obtain ⟨fd_law_made, G_law_made, D_law_made⟩ := ok_law_made (P := P) (w := w) (base := base) T
  have k_law_made := D_law_made.kp
  have b_law_made := bd_law_made D_law_made
  refine ⟨fd, F.ok sc_law_made_refused (fun vs H Q E h => ?_) (fun cdv A outer s H vs Q E hr h => ?_), F⟩
  · rw [F_law_made_refused_eq] at h
    exact spD_len (np := 2) (fun _ _ _ h => h.1) vs H Q E h
  · rw [F_law_made_refused_eq] at h
    refine ⟨_, PSs.nox (pss_cons (ps_set (i := 2) sc_law_made_refused.nd rfl (by first | exact Or.inl rfl | exact Or.inr rfl) (pe_call G_law_odd (hr.mono (by decide)) rfl T.g__law_odd k_law_odd b_law_odd .nil pass0 (pa_cons (pv 0) (pa_cons pe_int pa_nil))))
    (pss_cons (ps_set (i := 3) sc_law_made_refused.nd rfl (by first | exact Or.inl rfl | exact Or.inr rfl) (pe_ix (ix_U (K := K) rfl) (pe_lst (pa_cons (pe_ix (ix_U (K := K) rfl) (pv 1) pe_int (fun _ _ => rfl)) (pa_cons pe_bl (pa_cons pe_non (pa_cons pe_str (pa_cons (pe_op (op_addU rfl) (pe_op op_pow pe_int pe_int) pe_int) (pa_cons (pe_un un_neg (pe_ix (ix_U (K := K) rfl) (pv 1) pe_int (fun _ _ => rfl))) (pa_cons (pe_op (op_addU rfl) (pe_op (op_addU rfl) (pe_op op_pow pe_int pe_int) pe_int) (pe_call G_law_take (hr.mono (by decide)) rfl T.g__law_take k_law_take b_law_take .nil pass0 (pa_cons (pv 0) (pa_cons (pe_op op_pow pe_int pe_int) pa_nil)))) pa_nil)))))))) (pe_call G_law_take (hr.mono (by decide)) rfl T.g__law_take k_law_take b_law_take .nil pass0 (pa_cons (pv 0) (pa_cons pe_int pa_nil))) (fun _ _ => rfl)))
    (pss_cons (ps_set (i := 4) sc_law_made_refused.nd rfl (by first | exact Or.inl rfl | exact Or.inr rfl) (pe_call G_law_odd (hr.mono (by decide)) rfl T.g__law_odd k_law_odd b_law_odd .nil pass0 (pa_cons (pv 0) (pa_cons (pe_op op_sub (pe_ix (ix_U (K := K) rfl) (pv 1) pe_int (fun _ _ => rfl)) pe_int) pa_nil))))
    (pss_cons (ps_set (i := 5) sc_law_made_refused.nd rfl (by first | exact Or.inl rfl | exact Or.inr rfl) (pe_call G_law_take (hr.mono (by decide)) rfl T.g__law_take k_law_take b_law_take .nil pass0 (pa_cons (pv 0) (pa_cons pe_int pa_nil))))
    (pss_cons (ps_if (pt_cmpR (op_neU rfl hr.units) (pe_call G_law_made (hr.mono (by decide)) rfl T.g__law_made k_law_made b_law_made .nil pass0 (pa_cons (pv 2) (pa_cons (pe_ix (ix_U (K := K) rfl) (pe_lst (pa_cons (pe_ix (ix_U (K := K) rfl) (pv 1) pe_int (fun _ _ => rfl)) (pa_cons (pv 3) pa_nil))) (pv 5) (fun _ _ => rfl)) (pa_cons (pe_ix (ix_U (K := K) rfl) (pe_lst (pa_cons pe_int (pa_cons (pv 4) pa_nil))) (pe_call G_law_take (hr.mono (by decide)) rfl T.g__law_take k_law_take b_law_take .nil pass0 (pa_cons (pv 0) (pa_cons pe_int pa_nil))) (fun _ _ => rfl)) pa_nil)))) (pe_tup (pa_cons pe_str (pa_cons pe_bl pa_nil))) (by first | exact nomark _ | rfl))
    (pss_one (ps_ret pe_bl))
    pss_nil)
    (pss_cons (ps_if (pt_cmpR (op_neU rfl hr.units) (pe_call G_law_made (hr.mono (by decide)) rfl T.g__law_made k_law_made b_law_made .nil pass0 (pa_cons (pe_ix (ix_U (K := K) rfl) (pv 1) pe_int (fun _ _ => rfl)) (pa_cons (pv 3) (pa_cons (pe_ix (ix_U (K := K) rfl) (pe_lst (pa_cons pe_int (pa_cons (pv 4) pa_nil))) (pv 5) (fun _ _ => rfl)) pa_nil)))) (pe_tup (pa_cons pe_str (pa_cons pe_bl pa_nil))) (by first | exact nomark _ | rfl))
    (pss_one (ps_ret pe_bl))
    pss_nil)
    (pss_one (ps_ret (pe_cmpR (op_eqU rfl hr.units) (pe_call G_law_made (hr.mono (by decide)) rfl T.g__law_made k_law_made b_law_made .nil pass0 (pa_cons (pe_ix (ix_U (K := K) rfl) (pv 1) pe_int (fun _ _ => rfl)) (pa_cons (pe_ix (ix_U (K := K) rfl) (pv 1) pe_int (fun _ _ => rfl)) (pa_cons (pv 4) pa_nil)))) (pe_tup (pa_cons pe_str (pa_cons pe_bl pa_nil))) (by first | exact nomark _ | rfl)))))))))), ?_⟩
    exact body_of0 rfl h fun X hd => (dst_seq (dst_asg (de_call0 dv_nil (ds_hand (i := 0) (ds_cons (de_int 200) ds_nil))) (dg_name 2))
    (dst_seq (dst_asg (dg_op od_ix (DEg.bor (DEg.cln (df_lst (da_cons (dg_op od_ix (db_var 1) (DEg.bor (de_int 0))) (da_cons (de_bl true) (da_cons de_non (da_cons (de_str "9") (da_cons (dg_op od_add (DEg.bor (de_powC (a := 10) (b := 6) (c := 1000000) (cpow_of (by decide +kernel)) (by decide +kernel))) (DEg.bor (de_int 1))) (da_cons (de_un ud_neg (DEg.bor (dg_op od_ix (db_var 1) (DEg.bor (de_int 1))))) (da_cons (dg_op od_add (DEg.bor (dg_op od_add (DEg.bor (de_powC (a := 10) (b := 6) (c := 1000000) (cpow_of (by decide +kernel)) (by decide +kernel))) (DEg.bor (de_int 1)))) (DEg.bor (de_call0 dv_nil (ds_hand (i := 0) (ds_cons (de_powC (a := 10) (b := 6) (c := 1000000) (cpow_of (by decide +kernel)) (by decide +kernel)) ds_nil))))) da_nil)))))))))) (DEg.bor (de_call0 dv_nil (ds_hand (i := 0) (ds_cons (de_int 7) ds_nil))))) (dg_name 3))
    (dst_seq (dst_asg (de_call0 dv_nil (ds_hand (i := 0) (ds_cons (dg_op od_sub (DEg.bor (dg_op od_ix (db_var 1) (DEg.bor (de_int 1)))) (DEg.bor (de_int 1))) ds_nil))) (dg_name 4))
    (dst_seq (dst_asg (de_call0 dv_nil (ds_hand (i := 0) (ds_cons (de_int 2) ds_nil))) (dg_name 5))
    (dst_seq (dst_if (dt_test (dg_op od_ne (DEg.bor (de_call0 dv_nil (ds_cons (de_var 2) (ds_cons (dg_op od_ix (DEg.bor (DEg.cln (df_lst (da_cons (dg_op od_ix (db_var 1) (DEg.bor (de_int 1))) (da_cons (de_var 3) da_nil))))) (db_var 5)) (ds_cons (dg_op od_ix (DEg.bor (DEg.cln (df_lst (da_cons (de_int 0) (da_cons (de_var 4) da_nil))))) (DEg.bor (de_call0 dv_nil (ds_hand (i := 0) (ds_cons (de_int 2) ds_nil))))) ds_nil))))) (DEg.bor (de_tup (da_cons (de_str "number") (da_cons (de_bl true) da_nil))))))
    (dst_ret (de_bl false))
    dst_next)
    (dst_seq (dst_if (dt_test (dg_op od_ne (DEg.bor (de_call0 dv_nil (ds_cons (dg_op od_ix (db_var 1) (DEg.bor (de_int 0))) (ds_cons (de_var 3) (ds_cons (dg_op od_ix (DEg.bor (DEg.cln (df_lst (da_cons (de_int 0) (da_cons (de_var 4) da_nil))))) (db_var 5)) ds_nil))))) (DEg.bor (de_tup (da_cons (de_str "modulus") (da_cons (de_bl true) da_nil))))))
    (dst_ret (de_bl false))
    dst_next)
    (dst_ret (dg_op od_eq (DEg.bor (de_call0 dv_nil (ds_cons (dg_op od_ix (db_var 1) (DEg.bor (de_int 0))) (ds_cons (dg_op od_ix (db_var 1) (DEg.bor (de_int 1))) (ds_cons (de_var 4) ds_nil))))) (DEg.bor (de_tup (da_cons (de_str "rest") (da_cons (de_bl true) da_nil))))))))))))
end Mine

namespace Mine
open PySem PySem.Spec PyProof.Rows L2
theorem ok_law_bad_word {P : Program} {w : World} {K : PySem.W.Frag} {mg : Str → Option Value} {base : Heap} (T : Txt K mg) : ∃ fd, FnOk P w K mg base CX0 4 (He.ga K "_law_bad_word") fd P_law_bad_word (spD K F_law_bad_word) ∧ D_law_bad_word K (He.ga K "_law_bad_word") fd := by
  obtain ⟨fd, F⟩ := T.F_law_bad_word
  obtain ⟨fd_law_take, G_law_take, D_law_take⟩ := ok_law_take (P := P) (w := w) (base := base) T
  have k_law_take := D_law_take.kp
  have b_law_take := bd_law_take D_law_take
  obtain ⟨fd_law_odd, G_law_odd, D_law_odd⟩ := ok_law_odd (P := P) (w := w) (base := base) T
  have k_law_odd := D_law_odd.kp
  have b_law_odd := bd_law_odd D_law_odd
  refine ⟨fd, F.ok sc_law_bad_word (fun vs H Q E h => ?_) (fun cdv A outer s H vs Q E hr h => ?_), F⟩
  · rw [F_law_bad_word_eq] at h
    exact spD_len (np := 3) (fun _ _ _ h => h.1) vs H Q E h
  · rw [F_law_bad_word_eq] at h
    refine ⟨_, PSs.nox (pss_cons (ps_set (i := 3) sc_law_bad_word.nd rfl (by first | exact Or.inl rfl | exact Or.inr rfl) (pe_call G_law_take (hr.mono (by decide)) rfl T.g__law_take k_law_take b_law_take .nil pass0 (pa_cons (pv 0) (pa_cons pe_int pa_nil))))
    (pss_cons (ps_if (pt_cmpR (op_eqU rfl hr.units) (pv 3) pe_int (by first | exact nomark _ | rfl))
    (pss_one (ps_ret (pe_lst (pa_cons (pe_ix (ix_U (K := K) rfl) (pe_lst (pa_cons pe_non (pa_cons pe_str (pa_cons pe_int (pa_cons (pe_disp (pps_cons pe_int pe_int pps_nil) (by rfl) (by rfl) (fun z => by cases z) (by decide)) pa_nil))))) (pe_call G_law_take (hr.mono (by decide)) rfl T.g__law_take k_law_take b_law_take .nil pass0 (pa_cons (pv 0) (pa_cons pe_int pa_nil))) (fun _ _ => rfl)) (pa_cons (pe_un un_neg pe_int) pa_nil)))))
    pss_nil)
    (pss_cons (ps_if (pt_cmpR (op_eqU rfl hr.units) (pv 3) pe_int (by first | exact nomark _ | rfl))
    (pss_one (ps_ret (pe_lst (pa_cons (pe_op op_mulU (pe_lst (pa_cons pe_int pa_nil)) (pe_op (op_addU rfl) (pe_op (op_addU rfl) (pv 2) pe_int) (pe_call G_law_take (hr.mono (by decide)) rfl T.g__law_take k_law_take b_law_take .nil pass0 (pa_cons (pv 0) (pa_cons pe_int pa_nil))))) (pa_cons (pe_un un_neg pe_int) pa_nil)))))
    pss_nil)
    (pss_cons (ps_set (i := 4) sc_law_bad_word.nd rfl (by first | exact Or.inl rfl | exact Or.inr rfl) (pe_ifExp (pt_tru rfl (pv 1) (by intro _; rfl)) (pe_callTy (call_lstU (K := K) rfl) (by rfl) T.z_list (by decide +kernel) (pa_cons (pv 1) pa_nil)) (pe_lst (pa_cons pe_int pa_nil))))
    (pss_cons (ps_set (i := 5) sc_law_bad_word.nd rfl (by first | exact Or.inl rfl | exact Or.inr rfl) (pe_call G_law_take (hr.mono (by decide)) rfl T.g__law_take k_law_take b_law_take .nil pass0 (pa_cons (pv 0) (pa_cons (pe_callB (call_lenU (K := K) rfl) (by rfl) T.z_len (by decide +kernel) (pa_cons (pv 4) pa_nil)) pa_nil))))
    (pss_cons (ps_asg (pe_call G_law_odd (hr.mono (by decide)) rfl T.g__law_odd k_law_odd b_law_odd .nil pass0 (pa_cons (pv 0) (pa_cons pe_int pa_nil))) (pg_sub (pv 4) (pv 5) set_list))
    (pss_cons (ps_if (pt_cmpR (op_eqU rfl hr.units) (pe_call G_law_take (hr.mono (by decide)) rfl T.g__law_take k_law_take b_law_take .nil pass0 (pa_cons (pv 0) (pa_cons pe_int pa_nil))) pe_int (by first | exact nomark _ | rfl))
    (pss_one (ps_asg (pe_ifExp (pt_cmpR (op_ltU rfl hr.units0) (pv 5) (pe_op op_sub (pe_callB (call_lenU (K := K) rfl) (by rfl) T.z_len (by decide +kernel) (pa_cons (pv 4) pa_nil)) pe_int) (by first | exact nomark _ | rfl)) pe_int (pe_ix (ix_U (K := K) rfl) (pv 4) (pe_un un_neg pe_int) (fun _ _ => rfl))) (pg_sub (pv 4) (pe_un un_neg pe_int) set_list)))
    pss_nil)
    (pss_one (ps_ret (pe_lst (pa_cons (pe_ifExp (pt_cmpR (op_eqU rfl hr.units) (pe_call G_law_take (hr.mono (by decide)) rfl T.g__law_take k_law_take b_law_take .nil pass0 (pa_cons (pv 0) (pa_cons pe_int pa_nil))) pe_int (by first | exact nomark _ | rfl)) (pv 4) (pe_callTy (call_tupU (K := K) rfl) (by rfl) T.z_tuple (by decide +kernel) (pa_cons (pv 4) pa_nil))) (pa_cons (pv 5) pa_nil)))))))))))), ?_⟩
    exact body_of0 rfl h fun X hd => (dst_seq (dst_asg (de_call0 dv_nil (ds_hand (i := 0) (ds_cons (de_int 4) ds_nil))) (dg_name 3))
    (dst_of S_law_bad_word_r2_eq
    (dst_seq (dst_if (dt_test (dg_op od_eq (db_var 3) (DEg.bor (de_int 0))))
    (dst_ret (DEg.cln (df_lst (da_cons (dg_op od_ix (DEg.bor (DEg.cln (df_lst (da_cons de_non (da_cons (de_str "01") (da_cons (de_int 5) (da_cons (de_dk1 0 1) da_nil))))))) (DEg.bor (de_call0 dv_nil (ds_hand (i := 0) (ds_cons (de_int 4) ds_nil))))) (da_cons (de_un ud_neg (DEg.bor (de_int 1))) da_nil)))))
    dst_next)
    (dst_of S_law_bad_word_r4_eq
    (dst_seq (dst_if (dt_test (dg_op od_eq (db_var 3) (DEg.bor (de_int 1))))
    (dst_ret (DEg.cln (df_lst (da_cons (dg_op od_mul (DEg.bor (DEg.cln (df_lst (da_cons (de_int 0) da_nil)))) (DEg.bor (dg_op od_add (DEg.bor (dg_op od_add (db_var 2) (DEg.bor (de_int 1)))) (DEg.bor (de_call0 dv_nil (ds_hand (i := 0) (ds_cons (de_int 3) ds_nil))))))) (da_cons (de_un ud_neg (DEg.bor (de_int 1))) da_nil)))))
    dst_next)
    (dst_of S_law_bad_word_r6_eq
    (dst_seq (dst_own (dg_if (dt_tru (db_var 1)) (dg_cb cg_lst (db_cons (db_var 1) db_nil)) (df_lst (da_cons (de_int 0) da_nil))))
    (dst_of S_law_bad_word_r7_eq
    (dst_seq (dst_asg (de_call0 dv_nil (ds_hand (i := 0) (ds_cons (dg_cb cg_len (db_cons (db_var 4) db_nil)) ds_nil))) (dg_name 5))
    (dst_of S_law_bad_word_r8_eq
    (dst_seq (dst_put (de_call0 dv_nil (ds_hand (i := 0) (ds_cons (de_int 1) ds_nil))) (de_var 5))
    (dst_of S_law_bad_word_r9_eq
    (dst_seq (dst_if (dt_test (dg_op od_eq (DEg.bor (de_call0 dv_nil (ds_hand (i := 0) (ds_cons (de_int 2) ds_nil)))) (DEg.bor (de_int 0))))
    (dst_put (dg_if (dt_test (dg_op od_lt (db_var 5) (DEg.bor (dg_op od_sub (DEg.bor (dg_cb cg_len (db_cons (db_var 4) db_nil))) (DEg.bor (de_int 1)))))) (de_int 7) (dg_op od_ix (db_var 4) (DEg.bor (de_un ud_neg (DEg.bor (de_int 1)))))) (de_un ud_neg (DEg.bor (de_int 1))))
    dst_next)
    (dst_of S_law_bad_word_r11_eq
    (dst_frz 4 (dst_ret (DEg.cln (df_lst (da_cons (dg_if (dt_test (dg_op od_eq (DEg.bor (de_call0 dv_nil (ds_hand (i := 0) (ds_cons (de_int 2) ds_nil)))) (DEg.bor (de_int 0)))) (de_var 4) (dg_cb cg_tup (db_cons (db_var 4) db_nil))) (da_cons (de_var 5) da_nil))))))))))))))))))))
end Mine

namespace Mine
open PySem PySem.Spec PyProof.Rows L2
theorem ok_law_has_refused {P : Program} {w : World} {K : PySem.W.Frag} {mg : Str → Option Value} {base : Heap} (T : Txt K mg) : ∃ fd, FnOk P w K mg base CX0 5 (He.ga K "_law_has_refused") fd P_law_has_refused (spD K F_law_has_refused) ∧ D_law_has_refused K (He.ga K "_law_has_refused") fd := by
  obtain ⟨fd, F⟩ := T.F_law_has_refused
  obtain ⟨fd_SumBook_has, G_SumBook_has, D_SumBook_has⟩ := ok_SumBook_has (P := P) (w := w) (base := base) T
  have k_SumBook_has := D_SumBook_has.kp
  have b_SumBook_has := bd_SumBook_has D_SumBook_has
  refine ⟨fd, F.ok sc_law_has_refused (fun vs H Q E h => ?_) (fun cdv A outer s H vs Q E hr h => ?_), F⟩
  · rw [F_law_has_refused_eq] at h
    exact spD_len (np := 2) (fun _ _ _ h => h.1) vs H Q E h
  · rw [F_law_has_refused_eq] at h
    refine ⟨_, PSs.nox (pss_cons (ps_try_named rfl rfl sc_law_has_refused.nd takes0 (fun W pn xe tk0 po => (pss_one (ps_expr (pe_methS (pv 0) T.l_SumBook T.b_SumBook_is_has G_SumBook_has (hr.mono (by decide)) b_SumBook_has .nil (fun σ => passAt tk0 σ) (pa_cons (pv 1) pa_nil))))) (HdsN.named (i := 2) rfl rfl ⟨rfl, by decide, .inl T.g_BadWord⟩ (fun a oe cls d pn hz hf => (pss_one (ps_ret (pe_tup (pa_cons pe_str (pa_cons (pe_xf T.x_BadWord.x T.n_BadWord_is_index hz hf (pv 2)) pa_nil)))))) HdsN.nil))
    (pss_one (ps_ret pe_non))), ?_⟩
    exact body_of0 rfl h fun X hd => (dst_seq (dst_try rfl rfl (mt_ok T) (fun W => (dst_drop (de_methS rfl dv_nil (de_var 0) (ds_cons (de_var 1) ds_nil)))) (HsOk.cons (fun a cls d => (dst_ret (de_tup (da_cons (de_str "word") (da_cons (de_xf (i := 2)) da_nil))))) HsOk.nil))
    (dst_ret de_non))
end Mine

namespace Mine
open PySem PySem.Spec PyProof.Rows L2
theorem ok_law_held_refused {P : Program} {w : World} {K : PySem.W.Frag} {mg : Str → Option Value} {base : Heap} (T : Txt K mg) : ∃ fd, FnOk P w K mg base CX0 6 (He.ga K "_law_held_refused") fd P_law_held_refused (spD K F_law_held_refused) ∧ D_law_held_refused K (He.ga K "_law_held_refused") fd := by
  obtain ⟨fd, F⟩ := T.F_law_held_refused
  obtain ⟨fd_SumBook_holding, G_SumBook_holding, D_SumBook_holding⟩ := ok_SumBook_holding (P := P) (w := w) (base := base) T
  have k_SumBook_holding := D_SumBook_holding.kp
  have b_SumBook_holding := bd_SumBook_holding D_SumBook_holding
  refine ⟨fd, F.ok sc_law_held_refused (fun vs H Q E h => ?_) (fun cdv A outer s H vs Q E hr h => ?_), F⟩
  · rw [F_law_held_refused_eq] at h
    exact spD_len (np := 2) (fun _ _ _ h => h.1) vs H Q E h
  · rw [F_law_held_refused_eq] at h
    have hd : ∀ X hd, DS ⟨K, H, X, hd, none, fun _ _ _ _ => False, none⟩ _ S_law_held_refused := fun X hd => (dst_seq (dst_try rfl rfl (mt_ok T) (fun W => (dst_drop (de_callS rfl (ds_cons (de_var 0) (ds_cons (de_var 1) ds_nil))))) (HsOk.cons (fun a cls d => (dst_ret (de_tup (da_cons (de_str "word") (da_cons (de_xf (i := 2)) da_nil))))) (HsOk.cons (fun a cls d => (dst_ret (de_tup (da_cons (de_str "modulus") (da_cons (de_int 0) da_nil))))) HsOk.nil)))
    (dst_ret de_non))
    refine ⟨_, PSs.nox (pss_cons (ps_try_named rfl rfl sc_law_held_refused.nd takes0 (fun W pn xe tk0 po => (pss_one (ps_expr (pe_scallS T.y_SumBook_is_holding rfl T.g_SumBook G_SumBook_holding (hr.mono (by decide)) k_SumBook_holding b_SumBook_holding (fun σ => passAt tk0 σ) (pa_cons (pv 0) (pa_cons (pv 1) pa_nil)))))) (HdsN.named (i := 2) rfl rfl ⟨rfl, by decide, .inl T.g_BadWord⟩ (fun a oe cls d pn hz hf => (pss_one (ps_ret (pe_tup (pa_cons pe_str (pa_cons (pe_xf T.x_BadWord.x T.n_BadWord_is_index hz hf (pv 2)) pa_nil)))))) (HdsN.bare ⟨rfl, by decide, .inl T.g_BadModulus⟩ (fun a oe cls d pn hz hf => (pss_one (ps_ret (pe_tup (pa_cons pe_str (pa_cons pe_int pa_nil)))))) HdsN.nil)))
    (pss_one (ps_ret pe_non))), ?_⟩
    dsimp only [Bc.wE] at hd
    have r := body_of0 (N := N_law_held_refused) rfl h hd
    exact r
end Mine

namespace Mine
open PySem PySem.Spec PyProof.Rows L2
theorem ok_law_power {P : Program} {w : World} {K : PySem.W.Frag} {mg : Str → Option Value} {base : Heap} (T : Txt K mg) : ∃ fd, FnOk P w K mg base CX0 1 (He.ga K "_law_power") fd P_law_power (spD K F_law_power) ∧ D_law_power K (He.ga K "_law_power") fd := by
  obtain ⟨fd, F⟩ := T.F_law_power
  refine ⟨fd, F.ok sc_law_power (fun vs H Q E h => ?_) (fun cdv A outer s H vs Q E hr h => ?_), F⟩
  · rw [F_law_power_eq] at h
    exact spD_len (np := 2) (fun _ _ _ h => h.1) vs H Q E h
  · rw [F_law_power_eq] at h
    refine ⟨_, PSs.nox (pss_cons (ps_set (i := 2) sc_law_power.nd rfl (by first | exact Or.inl rfl | exact Or.inr rfl) pe_int)
    (pss_cons (ps_for PassesOwn.never rfl (pi_range1 (by rfl) T.z_range (pa_cons (pv 1) pa_nil)) (pg_name (i := 3) sc_law_power.nd rfl (by first | exact Or.inl rfl | exact Or.inr rfl))
    (pss_one (ps_set (i := 2) sc_law_power.nd rfl (by first | exact Or.inl rfl | exact Or.inr rfl) (pe_op op_mulU (pv 2) (pv 0)))))
    (pss_one (ps_ret (pv 2))))), ?_⟩
    exact body_of0 rfl h fun X hd => (dst_seq (dst_asg (de_int 1) (dg_name 2))
    (dst_seq (dst_for (di_rng1 (db_cons (db_var 1) db_nil)) (dg_name 3)
    (dst_asg (dg_op od_mul (db_var 2) (db_var 0)) (dg_name 2)))
    (dst_ret (de_var 2))))
end Mine

namespace Mine
open PySem PySem.Spec PyProof.Rows L2
theorem ok_law_great_refused {P : Program} {w : World} {K : PySem.W.Frag} {mg : Str → Option Value} {base : Heap} (T : Txt K mg) : ∃ fd, FnOk P w K mg base CX0 8 (He.ga K "_law_great_refused") fd P_law_great_refused (spD K F_law_great_refused) ∧ D_law_great_refused K (He.ga K "_law_great_refused") fd := by
  obtain ⟨fd, F⟩ := T.F_law_great_refused
  obtain ⟨fd_book_of_sums, G_book_of_sums, D_book_of_sums⟩ := ok_book_of_sums (P := P) (w := w) (base := base) T
  have k_book_of_sums := D_book_of_sums.kp
  have b_book_of_sums := bd_book_of_sums D_book_of_sums
  obtain ⟨fd_SumBook___init, G_SumBook___init, D_SumBook___init⟩ := ok_SumBook___init (P := P) (w := w) (base := base) T
  have k_SumBook___init := D_SumBook___init.kp
  have b_SumBook___init := bd_SumBook___init D_SumBook___init
  refine ⟨fd, F.ok sc_law_great_refused (fun vs H Q E h => ?_) (fun cdv A outer s H vs Q E hr h => ?_), F⟩
  · rw [F_law_great_refused_eq] at h
    exact spD_len (np := 2) (fun _ _ _ h => h.1) vs H Q E h
  · rw [F_law_great_refused_eq] at h
    have hd : ∀ X hd, DS ⟨K, H, X, hd, none, fun _ _ _ _ => False, none⟩ _ S_law_great_refused := fun X hd => (dst_seq (dst_try rfl rfl (mt_ok T) (fun W => (dst_drop (de_callS rfl (ds_cons (de_makeS (cls := "SumBook") rfl dv_nil (ds_cons (de_var 0) (ds_cons (dg_op od_add (db_var 0) (DEg.bor (de_int 1))) (ds_cons (de_var 1) ds_nil)))) ds_nil)))) (HsOk.cons (fun a cls d => (dst_ret (de_xf (i := 2)))) (HsOk.cons (fun a cls d => (dst_ret (de_xf (i := 2)))) HsOk.nil)))
    (dst_ret de_non))
    refine ⟨_, PSs.nox (pss_cons (ps_try_named rfl rfl sc_law_great_refused.nd takes0 (fun W pn xe tk0 po => (pss_one (ps_expr (pe_callS G_book_of_sums (hr.mono (by decide)) rfl T.g_book_of_sums k_book_of_sums b_book_of_sums (fun σ => passAt tk0 σ) (pa_cons (pe_makeS T.r_SumBook G_SumBook___init (hr.mono (by decide)) rfl T.g_SumBook b_SumBook___init .nil (fun σ => passAt tk0 σ) (pa_cons (pv 0) (pa_cons (pe_op (op_addU rfl) (pv 0) pe_int) (pa_cons (pv 1) pa_nil)))) pa_nil))))) (HdsN.named (i := 2) rfl rfl ⟨rfl, by decide, .inl T.g_BadBook⟩ (fun a oe cls d pn hz hf => (pss_one (ps_ret (pe_xf T.x_BadBook.x T.n_BadBook_is_what hz hf (pv 2))))) (HdsN.named (i := 2) rfl rfl ⟨rfl, by decide, .inl T.g_TooMany⟩ (fun a oe cls d pn hz hf => (pss_one (ps_ret (pe_xf T.x_TooMany.x T.n_TooMany_is_count hz hf (pv 2))))) HdsN.nil)))
    (pss_one (ps_ret pe_non))), ?_⟩
    dsimp only [Bc.wE] at hd
    have r := body_of0 (N := N_law_great_refused) rfl h hd
    exact r
end Mine

namespace Mine
open PySem PySem.Spec PyProof.Rows L2
theorem ok_law {P : Program} {w : World} {K : PySem.W.Frag} {mg : Str → Option Value} {base : Heap} (T : Txt K mg) (g : Goal) : ∃ fd, FnOk P w K mg base CX0 9 (He.ga K "law") fd P_law (sp_law K) ∧ D_law K (He.ga K "law") fd := by
  obtain ⟨fd, F⟩ := T.F_law
  obtain ⟨fd_law_hand, G_law_hand, D_law_hand⟩ := ok_law_hand (P := P) (w := w) (base := base) T
  have k_law_hand := D_law_hand.kp
  have b_law_hand := bd_law_hand D_law_hand
  obtain ⟨fd_Book___eq, G_Book___eq, D_Book___eq⟩ := ok_Book___eq (P := P) (w := w) (base := base) T
  have k_Book___eq := D_Book___eq.kp
  have b_Book___eq := bd_Book___eq D_Book___eq
  obtain ⟨fd_SumBook___eq, G_SumBook___eq, D_SumBook___eq⟩ := ok_SumBook___eq (P := P) (w := w) (base := base) T
  have k_SumBook___eq := D_SumBook___eq.kp
  have b_SumBook___eq := bd_SumBook___eq D_SumBook___eq
  obtain ⟨fd_law_take, G_law_take, D_law_take⟩ := ok_law_take (P := P) (w := w) (base := base) T
  have k_law_take := D_law_take.kp
  have b_law_take := bd_law_take D_law_take
  obtain ⟨fd_law_book_of, G_law_book_of, D_law_book_of⟩ := ok_law_book_of (P := P) (w := w) (base := base) T
  have k_law_book_of := D_law_book_of.kp
  have b_law_book_of := bd_law_book_of D_law_book_of
  obtain ⟨fd_law_made, G_law_made, D_law_made⟩ := ok_law_made (P := P) (w := w) (base := base) T
  have k_law_made := D_law_made.kp
  have b_law_made := bd_law_made D_law_made
  obtain ⟨fd_law_led_right, G_law_led_right, D_law_led_right⟩ := ok_law_led_right (P := P) (w := w) (base := base) T
  have k_law_led_right := D_law_led_right.kp
  have b_law_led_right := bd_law_led_right D_law_led_right
  obtain ⟨fd_law_is_book, G_law_is_book, D_law_is_book⟩ := ok_law_is_book (P := P) (w := w) (base := base) T
  have k_law_is_book := D_law_is_book.kp
  have b_law_is_book := bd_law_is_book D_law_is_book
  obtain ⟨fd_SumBook___init, G_SumBook___init, D_SumBook___init⟩ := ok_SumBook___init (P := P) (w := w) (base := base) T
  have k_SumBook___init := D_SumBook___init.kp
  have b_SumBook___init := bd_SumBook___init D_SumBook___init
  obtain ⟨fd_law_plain_right, G_law_plain_right, D_law_plain_right⟩ := ok_law_plain_right (P := P) (w := w) (base := base) T
  have k_law_plain_right := D_law_plain_right.kp
  have b_law_plain_right := bd_law_plain_right D_law_plain_right
  obtain ⟨fd_law_made_refused, G_law_made_refused, D_law_made_refused⟩ := ok_law_made_refused (P := P) (w := w) (base := base) T
  have k_law_made_refused := D_law_made_refused.kp
  have b_law_made_refused := bd_law_made_refused D_law_made_refused
  obtain ⟨fd_law_runny, G_law_runny, D_law_runny⟩ := ok_law_runny (P := P) (w := w) (base := base) T
  have k_law_runny := D_law_runny.kp
  have b_law_runny := bd_law_runny D_law_runny
  obtain ⟨fd_law_bad_word, G_law_bad_word, D_law_bad_word⟩ := ok_law_bad_word (P := P) (w := w) (base := base) T
  have k_law_bad_word := D_law_bad_word.kp
  have b_law_bad_word := bd_law_bad_word D_law_bad_word
  obtain ⟨fd_law_has_refused, G_law_has_refused, D_law_has_refused⟩ := ok_law_has_refused (P := P) (w := w) (base := base) T
  have k_law_has_refused := D_law_has_refused.kp
  have b_law_has_refused := bd_law_has_refused D_law_has_refused
  obtain ⟨fd_law_held_refused, G_law_held_refused, D_law_held_refused⟩ := ok_law_held_refused (P := P) (w := w) (base := base) T
  have k_law_held_refused := D_law_held_refused.kp
  have b_law_held_refused := bd_law_held_refused D_law_held_refused
  obtain ⟨fd_law_power, G_law_power, D_law_power⟩ := ok_law_power (P := P) (w := w) (base := base) T
  have k_law_power := D_law_power.kp
  have b_law_power := bd_law_power D_law_power
  obtain ⟨fd_law_great_refused, G_law_great_refused, D_law_great_refused⟩ := ok_law_great_refused (P := P) (w := w) (base := base) T
  have k_law_great_refused := D_law_great_refused.kp
  have b_law_great_refused := bd_law_great_refused D_law_great_refused
  refine ⟨fd, F.ok sc_law (fun vs H Q E h => ?_) (fun cdv A outer s H vs Q E hr h => ?_), F⟩
  · obtain ⟨a, ns, rfl, _⟩ := h
    rfl
  · refine ⟨_, PSs.nox (pss_cons (ps_set (i := 1) sc_law.nd rfl (by first | exact Or.inl rfl | exact Or.inr rfl) (pe_call G_law_hand (hr.mono (by decide)) rfl T.g__law_hand k_law_hand b_law_hand .nil pass0 (pa_cons (pv 0) pa_nil)))
    (pss_cons (ps_for PassesOwn.never rfl (pi_range1 (by rfl) T.z_range (pa_cons pe_int pa_nil)) (pg_name (i := 2) sc_law.nd rfl (by first | exact Or.inl rfl | exact Or.inr rfl))
    (pss_cons (ps_set (i := 3) sc_law.nd rfl (by first | exact Or.inl rfl | exact Or.inr rfl) (pe_cmpR ((op_eqR rfl (eqc T) (hr.mono (by decide))).or ((op_eqO rfl (eqc T) (hr.mono (by decide))).or (op_eqU rfl hr.units))) (pe_call G_law_take (hr.mono (by decide)) rfl T.g__law_take k_law_take b_law_take .nil pass0 (pa_cons (pv 1) (pa_cons pe_int pa_nil))) pe_int (by first | exact nomark _ | rfl)))
    (pss_cons (ps_set (i := 4) sc_law.nd rfl (by first | exact Or.inl rfl | exact Or.inr rfl) (pe_ifExp (pt_tru rfl (pv 3) (by intro _; rfl)) (pe_op (op_addU rfl) pe_int (pe_call G_law_take (hr.mono (by decide)) rfl T.g__law_take k_law_take b_law_take .nil pass0 (pa_cons (pv 1) (pa_cons pe_int pa_nil)))) (pe_call G_law_take (hr.mono (by decide)) rfl T.g__law_take k_law_take b_law_take .nil pass0 (pa_cons (pv 1) (pa_cons pe_int pa_nil)))))
    (pss_cons (ps_set (i := 5) sc_law.nd rfl (by first | exact Or.inl rfl | exact Or.inr rfl) (pe_call G_law_book_of (hr.mono (by decide)) rfl T.g__law_book_of k_law_book_of b_law_book_of .nil pass0 (pa_cons (pv 1) (pa_cons (pv 4) pa_nil))))
    (pss_cons (ps_set (i := 6) sc_law.nd rfl (by first | exact Or.inl rfl | exact Or.inr rfl) (pe_call G_law_made (hr.mono (by decide)) rfl T.g__law_made k_law_made b_law_made .nil pass0 (pa_cons (pe_ix (ix_U (K := K) rfl) (pv 5) pe_int (fun _ _ => rfl)) (pa_cons (pe_ix (ix_U (K := K) rfl) (pv 5) pe_int (fun _ _ => rfl)) (pa_cons (pe_ix (ix_U (K := K) rfl) (pv 5) pe_int (fun _ _ => rfl)) pa_nil)))))
    (pss_cons (ps_if (PW.pt (pw_or (pt_not (pt_tru rfl (pe_call G_law_is_book (hr.mono (by decide)) rfl T.g__law_is_book k_law_is_book b_law_is_book .nil pass0 (pa_cons (pv 6) (pa_cons (pe_ix (ix_U (K := K) rfl) (pv 5) pe_int (fun _ _ => rfl)) (pa_cons (pe_ix (ix_U (K := K) rfl) (pv 5) pe_int (fun _ _ => rfl)) (pa_cons (pe_ix (ix_U (K := K) rfl) (pv 5) pe_int (fun _ _ => rfl)) pa_nil))))) (by intro _; rfl))) (pw_or1 (pt_not (pt_tru rfl (pe_call G_law_led_right (hr.mono (by decide)) rfl T.g__law_led_right k_law_led_right b_law_led_right .nil pass0 (pa_cons (pv 1) (pa_cons (pv 6) (pa_cons (pv 5) pa_nil)))) (by intro _; rfl))))))
    (pss_one (ps_ret pe_bl))
    pss_nil)
    (pss_cons (ps_if (PW.pt (pw_or (pt_not (pt_cmpR ((op_eqR rfl (eqc T) (hr.mono (by decide))).or ((op_eqO rfl (eqc T) (hr.mono (by decide))).or (op_eqU rfl hr.units))) (pv 6) (pe_make T.r_SumBook G_SumBook___init (hr.mono (by decide)) rfl T.g_SumBook b_SumBook___init .nil passL (pa_cons (pe_ix (ix_U (K := K) rfl) (pv 5) pe_int (fun _ _ => rfl)) (pa_cons (pe_ix (ix_U (K := K) rfl) (pv 5) pe_int (fun _ _ => rfl)) (pa_cons (pe_ix (ix_U (K := K) rfl) (pv 5) pe_int (fun _ _ => rfl)) pa_nil)))) (by first | exact nomark _ | rfl))) (pw_or1 (pt_cmpR ((op_eqR rfl (eqc T) (hr.mono (by decide))).or ((op_eqO rfl (eqc T) (hr.mono (by decide))).or (op_eqU rfl hr.units))) (pv 6) (pe_make T.r_SumBook G_SumBook___init (hr.mono (by decide)) rfl T.g_SumBook b_SumBook___init .nil passL (pa_cons (pe_ix (ix_U (K := K) rfl) (pv 5) pe_int (fun _ _ => rfl)) (pa_cons (pe_op op_sub (pe_op (op_addU rfl) (pe_ix (ix_U (K := K) rfl) (pv 5) pe_int (fun _ _ => rfl)) pe_int) (pe_op op_mulU pe_int (pe_op op_fdiv (pe_ix (ix_U (K := K) rfl) (pv 5) pe_int (fun _ _ => rfl)) (pe_op op_pow pe_int pe_int)))) (pa_cons pe_int pa_nil)))) (by first | exact nomark _ | rfl)))))
    (pss_one (ps_ret pe_bl))
    pss_nil)
    (pss_cons (ps_if (PW.pt (pw_and (pt_cmpR op_gt (pe_ix (ix_U (K := K) rfl) (pv 5) pe_int (fun _ _ => rfl)) pe_int (by first | exact nomark _ | rfl)) (pw_and1 (pt_cmpR ((op_eqR rfl (eqc T) (hr.mono (by decide))).or ((op_eqO rfl (eqc T) (hr.mono (by decide))).or (op_eqU rfl hr.units))) (pv 6) (pe_make T.r_SumBook G_SumBook___init (hr.mono (by decide)) rfl T.g_SumBook b_SumBook___init .nil passL (pa_cons (pe_ix (ix_U (K := K) rfl) (pv 5) pe_int (fun _ _ => rfl)) (pa_cons (pe_ix (ix_U (K := K) rfl) (pv 5) pe_int (fun _ _ => rfl)) (pa_cons (pe_op op_mod (pe_callTy call_intU (by rfl) T.z_int (by decide +kernel) (pa_cons (pe_op (op_addU rfl) (pe_ix (ix_U (K := K) rfl) (pv 5) pe_int (fun _ _ => rfl)) pe_int) pa_nil)) (pe_ix (ix_U (K := K) rfl) (pv 5) pe_int (fun _ _ => rfl))) pa_nil)))) (by first | exact nomark _ | rfl)))))
    (pss_one (ps_ret pe_bl))
    pss_nil)
    (pss_cons (ps_if (PW.pt (pw_and (pt_cmpR op_gt (pe_ix (ix_U (K := K) rfl) (pv 5) pe_int (fun _ _ => rfl)) pe_int (by first | exact nomark _ | rfl)) (pw_and1 (pt_cmpR ((op_eqR rfl (eqc T) (hr.mono (by decide))).or ((op_eqO rfl (eqc T) (hr.mono (by decide))).or (op_eqU rfl hr.units))) (pv 6) (pe_make T.r_SumBook G_SumBook___init (hr.mono (by decide)) rfl T.g_SumBook b_SumBook___init .nil passL (pa_cons (pe_op op_sub (pe_ix (ix_U (K := K) rfl) (pv 5) pe_int (fun _ _ => rfl)) pe_int) (pa_cons (pe_ix (ix_U (K := K) rfl) (pv 5) pe_int (fun _ _ => rfl)) (pa_cons (pe_ix (ix_U (K := K) rfl) (pv 5) pe_int (fun _ _ => rfl)) pa_nil)))) (by first | exact nomark _ | rfl)))))
    (pss_one (ps_ret pe_bl))
    pss_nil)
    (pss_cons (ps_if (PW.pt (pw_and (pt_not (pt_tru rfl (pv 3) (by intro _; rfl))) (pw_and1 (pt_not (pt_tru rfl (pe_call G_law_plain_right (hr.mono (by decide)) rfl T.g__law_plain_right k_law_plain_right b_law_plain_right .nil pass0 (pa_cons (pv 6) (pa_cons (pv 5) pa_nil))) (by intro _; rfl))))))
    (pss_one (ps_ret pe_bl))
    pss_nil)
    (pss_cons (ps_if (pt_not (pt_tru rfl (pe_call G_law_made_refused (hr.mono (by decide)) rfl T.g__law_made_refused k_law_made_refused b_law_made_refused .nil pass0 (pa_cons (pv 1) (pa_cons (pv 5) pa_nil))) (by intro _; rfl)))
    (pss_one (ps_ret pe_bl))
    pss_nil)
    (pss_cons (ps_set (i := 7) sc_law.nd rfl (by first | exact Or.inl rfl | exact Or.inr rfl) (pe_call G_law_runny (hr.mono (by decide)) rfl T.g__law_runny k_law_runny b_law_runny .nil pass0 (pa_cons (pv 1) (pa_cons pe_int (pa_cons (pe_callB (call_min2U rfl) (by rfl) T.z_min (by decide +kernel) (pa_cons (pv 4) (pa_cons pe_int pa_nil))) pa_nil)))))
    (pss_cons (ps_set (i := 8) sc_law.nd rfl (by first | exact Or.inl rfl | exact Or.inr rfl) (pe_call G_law_bad_word (hr.mono (by decide)) rfl T.g__law_bad_word k_law_bad_word b_law_bad_word .nil pass0 (pa_cons (pv 1) (pa_cons (pv 7) (pa_cons pe_int pa_nil)))))
    (pss_cons (ps_if (PW.pt (pw_or (pt_cmpR (op_neU rfl hr.units) (pe_call G_law_held_refused (hr.mono (by decide)) rfl T.g__law_held_refused k_law_held_refused b_law_held_refused .nil pass0 (pa_cons (pe_ix (ix_U (K := K) rfl) (pv 8) pe_int (fun _ _ => rfl)) (pa_cons (pe_ix (ix_U (K := K) rfl) (pe_lst (pa_cons pe_int (pa_cons pe_non pa_nil))) (pe_call G_law_take (hr.mono (by decide)) rfl T.g__law_take k_law_take b_law_take .nil pass0 (pa_cons (pv 1) (pa_cons pe_int pa_nil))) (fun _ _ => rfl)) pa_nil))) (pe_tup (pa_cons pe_str (pa_cons (pe_ix (ix_U (K := K) rfl) (pv 8) pe_int (fun _ _ => rfl)) pa_nil))) (by first | exact nomark _ | rfl)) (pw_or1 (pt_cmpR (op_neU rfl hr.units) (pe_call G_law_has_refused (hr.mono (by decide)) rfl T.g__law_has_refused k_law_has_refused b_law_has_refused .nil pass0 (pa_cons (pv 6) (pa_cons (pe_ix (ix_U (K := K) rfl) (pv 8) pe_int (fun _ _ => rfl)) pa_nil))) (pe_tup (pa_cons pe_str (pa_cons (pe_ix (ix_U (K := K) rfl) (pv 8) pe_int (fun _ _ => rfl)) pa_nil))) (by first | exact nomark _ | rfl)))))
    (pss_one (ps_ret pe_bl))
    pss_nil)
    (pss_one (ps_if (pt_cmpR (op_neU rfl hr.units) (pe_call G_law_held_refused (hr.mono (by decide)) rfl T.g__law_held_refused k_law_held_refused b_law_held_refused .nil pass0 (pa_cons (pv 7) (pa_cons (pe_ix (ix_U (K := K) rfl) (pe_lst (pa_cons (pe_callB (call_lenU (K := K) rfl) (by rfl) T.z_len (by decide +kernel) (pa_cons (pv 7) pa_nil)) (pa_cons pe_bl (pa_cons (pe_op (op_addU rfl) (pe_op op_pow pe_int pe_int) pe_int) (pa_cons pe_non pa_nil))))) (pe_call G_law_take (hr.mono (by decide)) rfl T.g__law_take k_law_take b_law_take .nil pass0 (pa_cons (pv 1) (pa_cons pe_int pa_nil))) (fun _ _ => rfl)) pa_nil))) (pe_tup (pa_cons pe_str (pa_cons pe_int pa_nil))) (by first | exact nomark _ | rfl))
    (pss_one (ps_ret pe_bl))
    pss_nil))))))))))))))))
    (pss_cons (ps_set (i := 9) sc_law.nd rfl (by first | exact Or.inl rfl | exact Or.inr rfl) (pe_ix (ix_U (K := K) rfl) (pe_lst (pa_cons pe_int (pa_cons pe_int (pa_cons pe_int (pa_cons (pe_op (op_addU rfl) pe_int (pe_call G_law_take (hr.mono (by decide)) rfl T.g__law_take k_law_take b_law_take .nil pass0 (pa_cons (pv 1) (pa_cons pe_int pa_nil)))) (pa_cons pe_int pa_nil)))))) (pe_ifExp (pt_cmpR ((op_eqR rfl (eqc T) (hr.mono (by decide))).or ((op_eqO rfl (eqc T) (hr.mono (by decide))).or (op_eqU rfl hr.units))) (pe_call G_law_take (hr.mono (by decide)) rfl T.g__law_take k_law_take b_law_take .nil pass0 (pa_cons (pv 1) (pa_cons pe_int pa_nil))) pe_int (by first | exact nomark _ | rfl)) (pe_op op_mod (pe_call G_law_take (hr.mono (by decide)) rfl T.g__law_take k_law_take b_law_take .nil pass0 (pa_cons (pv 1) (pa_cons pe_int pa_nil))) pe_int) pe_int) (fun _ _ => rfl)))
    (pss_cons (ps_set (i := 10) sc_law.nd rfl (by first | exact Or.inl rfl | exact Or.inr rfl) (pe_ifExp (pt_cmpR (op_ltU rfl hr.units0) (pv 9) pe_int (by first | exact nomark _ | rfl)) pe_str (pe_call G_law_power (hr.mono (by decide)) rfl T.g__law_power k_law_power b_law_power .nil pass0 (pa_cons pe_int (pa_cons (pv 9) pa_nil)))))
    (pss_one (ps_ret (pe_cmpR ((op_eqR rfl (eqc T) (hr.mono (by decide))).or ((op_eqO rfl (eqc T) (hr.mono (by decide))).or (op_eqU rfl hr.units))) (pe_call G_law_great_refused (hr.mono (by decide)) rfl T.g__law_great_refused k_law_great_refused b_law_great_refused .nil pass0 (pa_cons (pv 9) (pa_cons (pe_call G_law_take (hr.mono (by decide)) rfl T.g__law_take k_law_take b_law_take .nil pass0 (pa_cons (pv 1) (pa_cons (pe_op (op_addU rfl) (pv 9) pe_int) pa_nil))) pa_nil))) (pv 10) (by first | exact nomark _ | rfl)))))))), ?_⟩
    exact body_law rfl h g fun H X hd => (dst_seq (dst_for (di_rng1 (db_cons (DEg.bor (de_int 2)) db_nil)) (dg_name 2)
    (dst_of S_law_b3_eq
    (dst_seq (dst_asg (de_eqB (eqt T) (de_call0 dv_nil (ds_hand (i := 1) (ds_cons (de_int 4) ds_nil))) (de_int 0)) (dg_name 3))
    (dst_of S_law_r4_eq
    (dst_seq (dst_asg (dg_if (dt_tru (db_var 3)) (dg_op od_add (DEg.bor (de_int 9)) (DEg.bor (de_call0 dv_nil (ds_hand (i := 1) (ds_cons (de_int 192) ds_nil))))) (de_call0 dv_nil (ds_hand (i := 1) (ds_cons (de_int 9) ds_nil)))) (dg_name 4))
    (dst_of S_law_r5_eq
    (dst_seq (dst_asg (de_call0 dv_nil (ds_hand (i := 1) (ds_cons (de_var 4) ds_nil))) (dg_name 5))
    (dst_of S_law_r6_eq
    (dst_seq (dst_asg (de_call0 dv_nil (ds_cons (dg_op od_ix (db_var 5) (DEg.bor (de_int 0))) (ds_cons (dg_op od_ix (db_var 5) (DEg.bor (de_int 1))) (ds_cons (dg_op od_ix (db_var 5) (DEg.bor (de_int 2))) ds_nil)))) (dg_name 6))
    (dst_of S_law_r7_eq
    (dst_seq (dst_if (dt_or (dt_not (dt_tru (DEg.bor (de_call0 dv_nil (ds_cons (de_var 6) (ds_cons (dg_op od_ix (db_var 5) (DEg.bor (de_int 0))) (ds_cons (dg_op od_ix (db_var 5) (DEg.bor (de_int 1))) (ds_cons (dg_op od_ix (db_var 5) (DEg.bor (de_int 2))) ds_nil)))))))) (dt_not (dt_tru (DEg.bor (de_call0 dv_nil (ds_hand (i := 1) (ds_cons (de_var 6) (ds_cons (de_var 5) ds_nil))))))))
    (dst_ret (de_bl false))
    dst_next)
    (dst_of S_law_r9_eq
    (dst_seq (dst_if (dt_or (dt_not (dt_test (de_eqB (eqt T) (de_var 6) (de_make0 dv_nil (ds_cons (dg_op od_ix (db_var 5) (DEg.bor (de_int 0))) (ds_cons (dg_op od_ix (db_var 5) (DEg.bor (de_int 1))) (ds_cons (dg_op od_ix (db_var 5) (DEg.bor (de_int 2))) ds_nil))))))) (dt_test (de_eqB (eqt T) (de_var 6) (de_make0 dv_nil (ds_cons (dg_op od_ix (db_var 5) (DEg.bor (de_int 0))) (ds_cons (dg_op od_sub (DEg.bor (dg_op od_add (DEg.bor (dg_op od_ix (db_var 5) (DEg.bor (de_int 1)))) (DEg.bor (de_int 1)))) (DEg.bor (dg_op od_mul (DEg.bor (de_int 2)) (DEg.bor (dg_op od_fdiv (DEg.bor (dg_op od_ix (db_var 5) (DEg.bor (de_int 1)))) (DEg.bor (de_powC (a := 10) (b := 6) (c := 1000000) (cpow_of (by decide +kernel)) (by decide +kernel)))))))) (ds_cons (de_int 0) ds_nil)))))))
    (dst_ret (de_bl false))
    dst_next)
    (dst_of S_law_r11_eq
    (dst_seq (dst_if (dt_and (dt_test (dg_op od_gt (DEg.bor (dg_op od_ix (db_var 5) (DEg.bor (de_int 1)))) (DEg.bor (de_int 1)))) (dt_test (de_eqB (eqt T) (de_var 6) (de_make0 dv_nil (ds_cons (dg_op od_ix (db_var 5) (DEg.bor (de_int 0))) (ds_cons (dg_op od_ix (db_var 5) (DEg.bor (de_int 1))) (ds_cons (dg_op od_mod (DEg.bor (dg_cb cg_int (db_cons (DEg.bor (dg_op od_add (DEg.bor (dg_op od_ix (db_var 5) (DEg.bor (de_int 2)))) (DEg.bor (de_int 1)))) db_nil))) (DEg.bor (dg_op od_ix (db_var 5) (DEg.bor (de_int 1))))) ds_nil)))))))
    (dst_ret (de_bl false))
    dst_next)
    (dst_of S_law_r13_eq
    (dst_seq (dst_if (dt_and (dt_test (dg_op od_gt (DEg.bor (dg_op od_ix (db_var 5) (DEg.bor (de_int 0)))) (DEg.bor (de_int 0)))) (dt_test (de_eqB (eqt T) (de_var 6) (de_make0 dv_nil (ds_cons (dg_op od_sub (DEg.bor (dg_op od_ix (db_var 5) (DEg.bor (de_int 0)))) (DEg.bor (de_int 1))) (ds_cons (dg_op od_ix (db_var 5) (DEg.bor (de_int 1))) (ds_cons (dg_op od_ix (db_var 5) (DEg.bor (de_int 2))) ds_nil)))))))
    (dst_ret (de_bl false))
    dst_next)
    (dst_of S_law_r15_eq
    (dst_seq (dst_if (dt_and (dt_not (dt_tru (db_var 3))) (dt_not (dt_tru (DEg.bor (de_call0 dv_nil (ds_cons (de_var 6) (ds_cons (de_var 5) ds_nil)))))))
    (dst_ret (de_bl false))
    dst_next)
    (dst_of S_law_r17_eq
    (dst_seq (dst_if (dt_not (dt_tru (DEg.bor (de_call0 dv_nil (ds_hand (i := 1) (ds_cons (de_var 5) ds_nil))))))
    (dst_ret (de_bl false))
    dst_next)
    (dst_of S_law_r19_eq
    (dst_seq (dst_asg (de_call0 dv_nil (ds_hand (i := 1) (ds_cons (de_int 2) (ds_cons (dg_cb cg_min2 (db_cons (db_var 4) (db_cons (DEg.bor (de_int 20)) db_nil))) ds_nil)))) (dg_name 7))
    (dst_of S_law_r20_eq
    (dst_seq (dst_asg (de_call0 dv_nil (ds_hand (i := 1) (ds_cons (de_var 7) (ds_cons (de_int 200) ds_nil)))) (dg_name 8))
    (dst_of S_law_r21_eq
    (dst_seq (dst_if (dt_or (dt_test (dg_op od_ne (DEg.bor (de_call0 dv_nil (ds_cons (dg_op od_ix (db_var 8) (DEg.bor (de_int 0))) (ds_cons (dg_op od_ix (DEg.bor (DEg.cln (df_lst (da_cons (de_int 300) (da_cons de_non da_nil))))) (DEg.bor (de_call0 dv_nil (ds_hand (i := 1) (ds_cons (de_int 2) ds_nil))))) ds_nil)))) (DEg.bor (de_tup (da_cons (de_str "word") (da_cons (dg_op od_ix (db_var 8) (DEg.bor (de_int 1))) da_nil)))))) (dt_test (dg_op od_ne (DEg.bor (de_call0 dv_nil (ds_cons (de_var 6) (ds_cons (dg_op od_ix (db_var 8) (DEg.bor (de_int 0))) ds_nil)))) (DEg.bor (de_tup (da_cons (de_str "word") (da_cons (dg_op od_ix (db_var 8) (DEg.bor (de_int 1))) da_nil)))))))
    (dst_ret (de_bl false))
    dst_next)
    (dst_of S_law_r23_eq
    (dst_if (dt_test (dg_op od_ne (DEg.bor (de_call0 dv_nil (ds_cons (de_var 7) (ds_cons (dg_op od_ix (DEg.bor (DEg.cln (df_lst (da_cons (dg_cb cg_len (db_cons (db_var 7) db_nil)) (da_cons (de_bl true) (da_cons (dg_op od_add (DEg.bor (de_powC (a := 10) (b := 6) (c := 1000000) (cpow_of (by decide +kernel)) (by decide +kernel))) (DEg.bor (de_int 1))) (da_cons de_non da_nil))))))) (DEg.bor (de_call0 dv_nil (ds_hand (i := 1) (ds_cons (de_int 4) ds_nil))))) ds_nil)))) (DEg.bor (de_tup (da_cons (de_str "modulus") (da_cons (de_int 0) da_nil))))))
    (dst_ret (de_bl false))
    dst_next)))))))))))))))))))))))))))))
    (dst_of S_law_r25_eq
    (dst_seq (dst_asg (dg_op od_ix (DEg.bor (DEg.cln (df_lst (da_cons (de_int 10) (da_cons (de_int 11) (da_cons (de_int 15) (da_cons (dg_op od_add (DEg.bor (de_int 16)) (DEg.bor (de_call0 dv_nil (ds_hand (i := 1) (ds_cons (de_int 185) ds_nil))))) (da_cons (de_int 12) da_nil)))))))) (DEg.bor (dg_if (dt_test (de_eqB (eqt T) (de_call0 dv_nil (ds_hand (i := 1) (ds_cons (de_int 3) ds_nil))) (de_int 0))) (dg_op od_mod (DEg.bor (de_call0 dv_nil (ds_hand (i := 1) (ds_cons (de_int 20) ds_nil)))) (DEg.bor (de_int 5))) (de_int 2)))) (dg_name 9))
    (dst_of S_law_r26_eq
    (dst_seq (dst_asg (dg_if (dt_test (dg_op od_lt (db_var 9) (DEg.bor (de_int 15)))) (de_str "many") (de_call0 dv_nil (ds_cons (de_int 2) (ds_cons (de_var 9) ds_nil)))) (dg_name 10))
    (dst_of S_law_r27_eq
    (dst_ret (de_eqB (eqt T) (de_call0 dv_nil (ds_cons (de_var 9) (ds_cons (de_call0 dv_nil (ds_hand (i := 1) (ds_cons (dg_op od_add (db_var 9) (DEg.bor (de_int 1))) ds_nil))) ds_nil))) (de_var 10)))))))))
end Mine

open PySem PySem.W PySem.Calls PyProof.Rows
set_option maxHeartbeats 0 in
theorem PySem.Challenge.cw_lostplaces_k43_whole_sum_books_made_turn_holds : PySem.Challenge.rw_lostplaces_k43_whole_sum_books_made_turn.Holds := by
  w_on; o_law
  refine HandSHeadRun.head_any (r := OpenLaw.row PySem.Challenge.rw_lostplaces_k43_whole_sum_books_made_turn) (q := view (OpenLaw.row PySem.Challenge.rw_lostplaces_k43_whole_sum_books_made_turn).prog [56]) (H := Mine.hk) (ob := Mine.ob) (M := 20000) (loose := Mine.loose) (d := HandSHeadRun.topDef (OpenLaw.row PySem.Challenge.rw_lostplaces_k43_whole_sum_books_made_turn).prog 56) (kwd := []) Mine.ob_eq
    Mine.h_e Mine.h_f Mine.run Mine.h_def Mine.h_p Mine.h_k Mine.h_wr Mine.h_ws Mine.h_ok Mine.h_b ?hw ?hc
  case hw => w_witness2
  case hc =>
    refine L2.walk_ofE (l := PySem.Challenge.rw_lostplaces_k43_whole_sum_books_made_turn) (n := 63) (k := 9) (x := "_law_script") (CX := L2.CX0) rfl (by decide) (by kernel_rfl) ⟨rfl, by decide, by decide⟩ ?F (fun _ _ _ _ z => z)
    intro w mg fa h Y G hmg0
    obtain ⟨K, KX, c, E⟩ := Y
    have hmg : mg ("law" : PySem.Str) = some (.ref fa) := by
      have e : (HandSHeadRun.topDef (OpenLaw.row PySem.Challenge.rw_lostplaces_k43_whole_sum_books_made_turn).prog 56).name = ("law" : PySem.Str) := by kernel_rfl
      rw [← e]
      exact hmg0
    have T := Mine.txt_of KX G c E
    obtain ⟨fd0, F0⟩ := T.F_law
    have e : fa = He.ga K "law" := by
      have z := hmg.symm.trans (He.glo_ok KX G (c.fact 134 (f := .glo "law") rfl))
      cases z
      rfl
    subst e
    have b0 : ∀ (s : Shared) (v : Value), BindsTo s fd0 ⟨[v], []⟩ [("_law_script", v)] := fun s v => L2.FunD.bindsA (ps := ["_law_script"]) F0 (fun _ _ _ _ _ _ us hl => match us, hl with | [_], _ => rfl) s [v] rfl
    refine ⟨K, fd0, Mine.sp_law K, KX, b0, fun H a ns hl _ hS => ⟨a, ns, rfl, hS, hl, fun _ => rfl⟩, fun base _ _ => ?_⟩
    obtain ⟨fd1, G1, D1⟩ := Mine.ok_law (g := Mine.goal) (P := (PySem.Challenge.rw_lostplaces_k43_whole_sum_books_made_turn).prog) (w := w) (base := base) T
    have ef : fd1 = fd0 := Mine.funD_inj D1 F0
    exact ef ▸ G1
