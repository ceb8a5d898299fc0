import PyProof.Rows.All
import Wide.All
import OpenK.AllK
import Wide.FinOn
import HandS.ForExc
import HandS.Comp
import HandS.Iter
import HandS.Conv
import HandS.Flow
import HandS.Walk
import HandS.TupAny
import HandS.TupSets
import HandS.SortInts
import HandS.TryMany
import HandS.IsInst
import HandS.Defaults
import HandS.Gcd
import HandS.ExcInit
import HandS.Text
import HandS.Head0
import HandS.Head1
import HandS.Head2
import HandS.Head3
import HandS.HeadEnd
import HandS.HeadHook1
import HandS.HeadHook2
import HandS.ExcField
import KE.GoesEnum
import HandS.Deep
import HandS.Strs
import HandS.Style
import HandS.ExcIs
import KE.GoesZip
import HandS.TupMul
import HandS.Zip
import HandS.CallSlots
import HandS.WordsDict
import HandS.Dict
import KE.GoesEnumKw
import HandS.Property
import HandS.HeadNt
import HandS.Small
import KE.KMathGC
import HandS.OwnEq
import HandS.SetBool
import HandS.FStr
import HandS.Star
import HandS.GenList
import PySem.Challenge.RW_lostplaces_k48_whole_greatest_and_least
set_option Elab.async false
set_option linter.all false
set_option maxRecDepth 100000
set_option maxHeartbeats 4000000
namespace Mine
open PySem PySem.Spec PyProof.Rows L2
/-! ### own errors -/
structure OwnExc (K : PySem.W.Frag) (C : Addr) : Prop where
  ex : PySem.W.excIn K C He.veBase "ValueError.__new__" = true
  kp : PySem.W.keepIn K (.ref C) = true
  sb : PySem.W.subIn K (.ref C) (.type "BaseException") = some true
  ty : PySem.W.typeIn K (.ref C) = some (.type "type")
theorem mk0 {X : Cx} {x : Str} {C : Addr} {p pos : Pos} (e : OwnExc X.K C) (g : X.mg x = some (.ref C)) (hg : Gl X x) (hd : (x == ("__debug__" : Str)) = false := by decide) :
    PMk X (.Call (.Name x p) [] [] pos) (fun _ H Q => Q (.ref C) none H) := by
  intro pn st sg Hh Qq J hq
  refine wpAny_Call_Name_kw (ld_glob J hg g ?_ hd)
  refine PySem.W.callWith_K0 J.kIn e.kp ?_
  have J2 := J
  obtain ⟨bm, N, nm, qn, bs, hdct, sn, sub, ab, col, dd, k0, k1, k2, k3, k5, mN, hC, hN, hni, T⟩ := exc_obj J.kIn e.ex
  obtain ⟨hp, g1, d1, tk, os⟩ := st
  exact wpAny_call_exc_subT PySem.F.excBase_ValueError T hC hN hni (fun h' a hm => mk_of J hm (raises_own e.sb e.ty) hq (J.hok.gone hm.new)) (Nat.zero_le _)
/-! ### len(set(xs)), xs whole numbers -/
def tLenD (K : PySem.W.Frag) (ta : TE) : TE := fun σ H Q => ta σ H fun x H1 => ∃ (l : Addr) (ns : List Int), x = V.ref l ∧ SqL K H1 l (ns.map V.int) ∧ ns.length ≤ 4000 ∧
  ∀ m : Nat, m = (firstMet (fun i => ns.getD i 0) ns.length).length → Q (.int m) H1
theorem firstMet_le (f : Nat → Int) : ∀ n, (firstMet f n).length ≤ n
  | 0 => Nat.le_refl _
  | n + 1 => by
    rw [firstMet_succ]
    unfold step_dedup
    have := firstMet_le f n
    split
    · omega
    · rw [List.length_append]; show _ + 1 ≤ _; omega
theorem pe_lenSetD {X : Cx} {a : Expr} {ta : TE} {p p2 q pos : Pos} (hc : X.calm = true) (hg : Gl X "len") (hm : X.mg "len" = none) (hg2 : Gl X "set") (hm2 : X.mg "set" = none) (ha : PE X a ta)
    (na : starEach [a] X.env = (false, eval a X.env) :: starEach [] X.env := by rfl) : PE X (.Call (.Name "len" p) [.Call (.Name "set" p2) [a] [] q] [] pos) (tLenD X.K ta) := by
  refine ⟨fun pn st sg Hh Qq J hq => ?_⟩
  refine Call_ (ld_blt J hg hm PySem.boot_len ?_)
  refine callWith_builtin1 (args_cons ?_ rfl) rfl rfl
  refine Call_ (ld_blt J hg2 hm2 PyProof.Rows.boot_set ?_)
  refine callWith_type1 (args_cons (thn (ha.run pn st sg Hh _ J hq) fun v s1 ⟨x, H1, J1, r1, q1⟩ => args_nil ?_) na) na rfl
  obtain ⟨l, ns, rfl, hs, hl, q1⟩ := q1
  cases r1
  obtain ⟨its, rv, pl, hz⟩ := J1.list hs
  have e1 : its.toArray.size = ns.length := by rw [List.size_toArray, ← rv.length, List.length_map]
  refine call_set_list (J1.ok.hd hc) pl.isList (ns := ns) (by simpa using rv.ints) (by rw [e1]; unfold scanBound; omega) fun h' tk hS hk => ?_
  rw [e1] at hS
  refine args_nil ?_
  obtain ⟨o, es, ep, t, ho, hex, hd, _, _, _, hf, hn⟩ := hS
  have le := firstMet_le (fun i => ns.getD i 0) ns.length
  have J2 : Inv X pn sg H1 { s1 with heap := h', toks := tk } := J1.kept fun b o e => hk b o (Heap.lt_size e) e
  exact call_len_set ho hex hd hf (by rw [hn]; omega) ⟨.int _, H1, J2.tok _, ⟨_, by rw [hn]⟩, q1 _ rfl⟩
/-! ### rules in a form that simp can read -/
section
variable {X : Cx}
theorem OpR.weak {f : Value → Value → Sem Value} {r r' : R2} (h : OpR X f r) (m : ∀ x y H Q, r' x y H Q → r x y H Q) : OpR X f r' :=
  fun pn st sg Hh x y u v Qq J rx ry hq => h pn st sg Hh x y u v Qq J rx ry (m _ _ _ _ hq)
theorem IxR.weak {r r' : R2} (h : IxR X r) (m : ∀ x y H Q, r' x y H Q → r x y H Q) : IxR X r' :=
  fun e1 e2 pn st sg Hh x y u v Qq J rx ry hq => h e1 e2 pn st sg Hh x y u v Qq J rx ry (m _ _ _ _ hq)
theorem CallR.weak {f : Value} {r r' : List V → Hp → VK → Prop} (h : CallR X f r) (m : ∀ xs H Q, r' xs H Q → r xs H Q) : CallR X f r' :=
  fun pn st sg Hh xs us Qq J rx hq => h pn st sg Hh xs us Qq J rx (m _ _ _ hq)
theorem call_intI : CallR X (.type "int") (fun xs H Q => ∃ i, xs = [.int i] ∧ Q (.int i) H) := CallR.weak call_int1 fun _ _ _ => .inl
def rIxH : R2 := fun x y H Q => ∃ p i xs v, x = .ref p ∧ y = .int i ∧ H p = some (.lst xs) ∧ atI xs i = some v ∧ Q v H
theorem ix_H : IxR X rIxH := IxR.weak ix_list fun _ _ _ _ ⟨p, i, xs, z, e1, e2, e3, e4, q⟩ => ⟨p, xs, i, z, e1, e2, .inl (.inl e3), e4, q⟩
def rIxTH : R2 := fun x y H Q => ∃ p i xs v, x = .ref p ∧ y = .int i ∧ H p = some (.tup xs) ∧ atI xs i = some v ∧ Q v H
theorem ix_TH : IxR X rIxTH := IxR.weak ix_tup fun _ _ _ _ ⟨p, i, xs, z, e1, e2, e3, e4, q⟩ => ⟨p, xs, i, z, e1, e2, .inl (.inl e3), e4, q⟩
theorem call_lenL : CallR X (.builtin "len") (fun xs H Q => ∃ p ys, xs = [.ref p] ∧ H p = some (.lst ys) ∧ Q (.int ys.length) H) :=
  CallR.weak call_len_seq fun _ _ _ ⟨p, ys, e1, e2, q⟩ => ⟨p, ys, e1, .inl (.inl (.inl e2)), q⟩
theorem call_lenT : CallR X (.builtin "len") (fun xs H Q => ∃ p ys, xs = [.ref p] ∧ H p = some (.tup ys) ∧ Q (.int ys.length) H) :=
  CallR.weak call_len_seq fun _ _ _ ⟨p, ys, e1, e2, q⟩ => ⟨p, ys, e1, .inr (.inl (.inl e2)), q⟩
end
theorem call_tupL {X : Cx} : CallR X (.type "tuple") (fun xs H Q => ∃ p ys, xs = [.ref p] ∧ H p = some (.lst ys) ∧ ∀ l, H l = none → Q (.ref l) (upd H l (.tup ys))) :=
  CallR.weak call_tuple_of fun _ _ _ ⟨p, ys, e1, e2, q⟩ => ⟨p, ys, e1, .inl ⟨.inl (.inl e2), q⟩⟩
theorem call_tupT {X : Cx} : CallR X (.type "tuple") (fun xs H Q => ∃ p ys, xs = [.ref p] ∧ H p = some (.tup ys) ∧ Q (.ref p) H) :=
  CallR.weak call_tuple_of fun _ _ _ ⟨p, ys, e1, e2, q⟩ => ⟨p, ys, e1, .inr ⟨.inl (.inl e2), q⟩⟩
theorem call_listL {X : Cx} : CallR X (.type "list") (fun xs H Q => ∃ p ys, xs = [.ref p] ∧ H p = some (.lst ys) ∧ ∀ l, H l = none → Q (.ref l) (upd H l (.lst ys))) :=
  CallR.weak call_list_of fun _ _ _ ⟨p, ys, e1, e2, q⟩ => ⟨p, ys, e1, .inl (.inl (.inl e2)), q⟩
theorem call_listT {X : Cx} : CallR X (.type "list") (fun xs H Q => ∃ p ys, xs = [.ref p] ∧ H p = some (.tup ys) ∧ ∀ l, H l = none → Q (.ref l) (upd H l (.lst ys))) :=
  CallR.weak call_list_of fun _ _ _ ⟨p, ys, e1, e2, q⟩ => ⟨p, ys, e1, .inr (.inl (.inl e2)), q⟩
theorem wipe_1 (x : Option V) (a : Option V) : wipe [a, x] [1] = [a, none] := rfl
theorem tyL {K : PySem.W.Frag} {H : Hp} {p : Addr} {xs : List V} (h : H p = some (.lst xs)) : tyV K "list" (.ref p) H := .inl ⟨rfl, xs, .inl (.inl h)⟩
/-! ### isinstance -/
/-- what the layer can tell the kind of -/
def Kd (K : PySem.W.Frag) (H : Hp) : V → Prop
  | .non => True
  | .bl _ => True
  | .int _ => True
  | .str _ => True
  | .ref a => (∃ xs, SqL K H a xs) ∨ ∃ xs, SqT K H a xs
  | _ => False
def isIntV : V → Bool
  | .int _ => true
  | .bl _ => true
  | _ => false
def isBlV : V → Bool
  | .bl _ => true
  | _ => false
def isStrV : V → Bool
  | .str _ => true
  | _ => false
theorem tyx_L {K : PySem.W.Frag} {H : Hp} {a : Addr} {xs : List V} (h : SqL K H a xs) : TyX K H (.ref a) (.type "list") := by
  rcases h with (h | ⟨o, h⟩) | ⟨o, its, n, h, c, _⟩
  · exact .base (.lst h)
  · exact .base (.frz h)
  · exact .kList h c
theorem tyx_T {K : PySem.W.Frag} {H : Hp} {a : Addr} {xs : List V} (h : SqT K H a xs) : TyX K H (.ref a) (.type "tuple") := by
  rcases h with (h | ⟨o, h⟩) | ⟨o, its, n, h, c, _⟩
  · exact .base (.tup h)
  · exact .fTuple h
  · exact .kTuple h c
theorem kb_NoneType_int : kitB "NoneType" "int" = some false := by decide +kernel
theorem kb_NoneType_bool : kitB "NoneType" "bool" = some false := by decide +kernel
theorem kb_NoneType_str : kitB "NoneType" "str" = some false := by decide +kernel
theorem kb_NoneType_tuple : kitB "NoneType" "tuple" = some false := by decide +kernel
theorem kb_NoneType_list : kitB "NoneType" "list" = some false := by decide +kernel
theorem kb_bool_int : kitB "bool" "int" = some true := by decide +kernel
theorem kb_bool_bool : kitB "bool" "bool" = some true := by decide +kernel
theorem kb_bool_str : kitB "bool" "str" = some false := by decide +kernel
theorem kb_bool_tuple : kitB "bool" "tuple" = some false := by decide +kernel
theorem kb_bool_list : kitB "bool" "list" = some false := by decide +kernel
theorem kb_int_int : kitB "int" "int" = some true := by decide +kernel
theorem kb_int_bool : kitB "int" "bool" = some false := by decide +kernel
theorem kb_int_str : kitB "int" "str" = some false := by decide +kernel
theorem kb_int_tuple : kitB "int" "tuple" = some false := by decide +kernel
theorem kb_int_list : kitB "int" "list" = some false := by decide +kernel
theorem kb_str_int : kitB "str" "int" = some false := by decide +kernel
theorem kb_str_bool : kitB "str" "bool" = some false := by decide +kernel
theorem kb_str_str : kitB "str" "str" = some true := by decide +kernel
theorem kb_str_tuple : kitB "str" "tuple" = some false := by decide +kernel
theorem kb_str_list : kitB "str" "list" = some false := by decide +kernel
theorem kb_list_int : kitB "list" "int" = some false := by decide +kernel
theorem kb_list_bool : kitB "list" "bool" = some false := by decide +kernel
theorem kb_list_str : kitB "list" "str" = some false := by decide +kernel
theorem kb_list_tuple : kitB "list" "tuple" = some false := by decide +kernel
theorem kb_list_list : kitB "list" "list" = some true := by decide +kernel
theorem kb_tuple_int : kitB "tuple" "int" = some false := by decide +kernel
theorem kb_tuple_bool : kitB "tuple" "bool" = some false := by decide +kernel
theorem kb_tuple_str : kitB "tuple" "str" = some false := by decide +kernel
theorem kb_tuple_tuple : kitB "tuple" "tuple" = some true := by decide +kernel
theorem kb_tuple_list : kitB "tuple" "list" = some false := by decide +kernel
theorem Kd.ty {K : PySem.W.Frag} {H : Hp} {x : V} (h : Kd K H x) : ∃ t : String, TyX K H x (.type t) ∧ kitB t "int" = some (isIntV x) ∧ kitB t "bool" = some (isBlV x) ∧ kitB t "str" = some (isStrV x) := by
  cases x with
  | non => exact ⟨_, .base .non, kb_NoneType_int, kb_NoneType_bool, kb_NoneType_str⟩
  | bl b => exact ⟨_, .base (.bl b), kb_bool_int, kb_bool_bool, kb_bool_str⟩
  | int i => exact ⟨_, .base (.int i), kb_int_int, kb_int_bool, kb_int_str⟩
  | str z => exact ⟨_, .base (.str z), kb_str_int, kb_str_bool, kb_str_str⟩
  | ref a =>
    rcases h with ⟨xs, h⟩ | ⟨xs, h⟩
    · exact ⟨_, tyx_L h, kb_list_int, kb_list_bool, kb_list_str⟩
    · exact ⟨_, tyx_T h, kb_tuple_int, kb_tuple_bool, kb_tuple_str⟩
  | byt b => cases h
  | flt b => cases h
  | ty n => cases h
section
variable {X : Cx}
theorem call_isInt : CallR X (.builtin "isinstance") (fun xs H Q => ∃ x, xs = [x, .ty "int"] ∧ Kd X.K H x ∧ Q (.bl (isIntV x)) H) :=
  CallR.weak call_isi fun _ _ _ ⟨x, e, k, q⟩ => by
    obtain ⟨t, ty, h, _⟩ := k.ty
    exact ⟨x, _, _, _, _, e, .ty "int", ty, kit_ty h, q⟩
theorem call_isBool : CallR X (.builtin "isinstance") (fun xs H Q => ∃ x, xs = [x, .ty "bool"] ∧ Kd X.K H x ∧ Q (.bl (isBlV x)) H) :=
  CallR.weak call_isi fun _ _ _ ⟨x, e, k, q⟩ => by
    obtain ⟨t, ty, _, h, _⟩ := k.ty
    exact ⟨x, _, _, _, _, e, .ty "bool", ty, kit_ty h, q⟩
theorem call_isStr : CallR X (.builtin "isinstance") (fun xs H Q => ∃ x, xs = [x, .ty "str"] ∧ Kd X.K H x ∧ Q (.bl (isStrV x)) H) :=
  CallR.weak call_isi fun _ _ _ ⟨x, e, k, q⟩ => by
    obtain ⟨t, ty, _, _, h⟩ := k.ty
    exact ⟨x, _, _, _, _, e, .ty "str", ty, kit_ty h, q⟩
/-- b tells whether x is a tuple -/
def IsTupV (K : PySem.W.Frag) (H : Hp) (x : V) (b : Bool) : Prop := match x with
  | .non => b = false
  | .bl _ => b = false
  | .int _ => b = false
  | .str _ => b = false
  | .ref a => (b = false ∧ ∃ xs, SqL K H a xs) ∨ (b = true ∧ ∃ xs, SqT K H a xs)
  | _ => False
theorem call_isTup : CallR X (.builtin "isinstance") (fun xs H Q => ∃ x b, xs = [x, .ty "tuple"] ∧ IsTupV X.K H x b ∧ Q (.bl b) H) :=
  CallR.weak call_isi fun _ H _ ⟨x, b, e, k, q⟩ => by
    have : ∃ t : String, TyX X.K H x (.type t) ∧ kitB t "tuple" = some b := by
      cases x with
      | non => cases k; exact ⟨_, .base .non, kb_NoneType_tuple⟩
      | bl b => cases k; exact ⟨_, .base (.bl b), kb_bool_tuple⟩
      | int i => cases k; exact ⟨_, .base (.int i), kb_int_tuple⟩
      | str z => cases k; exact ⟨_, .base (.str z), kb_str_tuple⟩
      | ref a =>
        rcases k with ⟨rfl, xs, h⟩ | ⟨rfl, xs, h⟩
        · exact ⟨_, tyx_L h, kb_list_tuple⟩
        · exact ⟨_, tyx_T h, kb_tuple_tuple⟩
      | byt b => cases k
      | flt b => cases k
      | ty n => cases k
    obtain ⟨t, ty, h⟩ := this
    exact ⟨x, _, _, _, _, e, .ty "tuple", ty, kit_ty h, q⟩
end
/-! ### loops -/
def Loop (J : It) (g : TG) (tb : TS) (D : Ends) (σ : L2.St) (H1 : Hp) : Prop := ∃ W : Nat → Nat → L2.St → Hp → Prop, (∃ m, W 0 m σ H1) ∧ ∀ i m σ H, W i m σ H →
  (J.stop i H ∧ D.nx σ H) ∨ (J.go i H ∧ ∃ N : L2.St → Hp → Prop, (∀ s' H', N s' H' → ∃ m', m' < m ∧ W (i + 1) m' s' H') ∧ ∀ x H', J.yld i H x H' → g x σ H' fun σ2 H2 => tb { D with nx := N, ct := N, bk := D.nx } σ2 H2)
theorem tFor_eq (wi : TI) (g : TG) (tb : TS) (D : Ends) (σ : L2.St) (H : Hp) : tFor wi g tb D σ H = wi σ H (fun J H1 => Loop J g tb D σ H1) := rfl
def Lc (J : It) (g : TG) (tt : TT) (te : TE) (vs : List Nat) (D : Addr) (σ : L2.St) (H1 : Hp) (Q : VK) : Prop := ∃ W : Nat → Nat → Hp → Prop, (∃ m, W 0 m (upd H1 D (.lst []))) ∧ ∀ i m H, W i m H →
  (J.stop i H ∧ Q (.ref D) H) ∨ (J.go i H ∧ ∃ Nx : Hp → Prop, (∀ H', Nx H' → ∃ m', m' < m ∧ W (i + 1) m' H') ∧ ∀ x H', J.yld i H x H' → g x (wipe σ vs) H' fun s2 H2 => wipe s2 vs = wipe σ vs ∧ tt s2 H2 fun b H3 =>
    if b = true then te s2 H3 fun y H4 => ∃ acc, H4 D = some (.lst acc) ∧ acc.length < sizeLine ∧ Nx (upd H4 D (.lst (acc ++ [y]))) else Nx H3)
theorem tLc_eq (wi : TI) (g : TG) (tt : TT) (te : TE) (vs : List Nat) (σ : L2.St) (H : Hp) (Q : VK) : tLc wi g tt te vs σ H Q = wi σ H (fun J H1 => ∀ D, H1 D = none → Lc J g tt te vs D σ H1 Q) := rfl
section
variable {J : It} {n : Nat} {G : Hp → Prop} {Y : Nat → Hp → V → Hp → Prop}
theorem Loop.by (w : Walk J n G Y) {g : TG} {tb : TS} {D : Ends} {σ : L2.St} {H : Hp} (Pv : Nat → L2.St → Hp → Prop) (h0 : Pv 0 σ H) (hG : ∀ i σ H, i ≤ n → Pv i σ H → G H)
    (hs : ∀ i x σ H H', i < n → Pv i σ H → Y i H x H' → g x σ H' fun s2 H2 => tb { D with nx := Pv (i + 1), ct := Pv (i + 1), bk := D.nx } s2 H2) (hd : ∀ σ H, Pv n σ H → D.nx σ H) : Loop J g tb D σ H := for_it w Pv h0 hG hs hd
theorem Lc.by (w : Walk J n G Y) {g : TG} {tt : TT} {te : TE} {vs : List Nat} {σ : L2.St} {H1 : Hp} {D : Addr} {Q : VK} (Pv : Nat → Hp → Prop) (h0 : Pv 0 (upd H1 D (.lst []))) (hG : ∀ i H, i ≤ n → Pv i H → G H)
    (hs : ∀ i x H H', i < n → Pv i H → Y i H x H' → g x (wipe σ vs) H' fun s2 H2 => wipe s2 vs = wipe σ vs ∧ tt s2 H2 fun b H3 =>
      if b = true then te s2 H3 fun y H4 => ∃ acc, H4 D = some (.lst acc) ∧ acc.length < sizeLine ∧ Pv (i + 1) (upd H4 D (.lst (acc ++ [y]))) else Pv (i + 1) H3) (hd : ∀ H, Pv n H → Q (.ref D) H) : Lc J g tt te vs D σ H1 Q := lc_it w Pv h0 hG hs hd
end
/-! ### while; what only grows with what is wanted -/
def Mon (t : TE) : Prop := ∀ σ H (Q Q' : VK), (∀ v H', Q v H' → Q' v H') → t σ H Q → t σ H Q'
def MonT (t : TT) : Prop := ∀ σ H (Q Q' : Bool → Hp → Prop), (∀ v H', Q v H' → Q' v H') → t σ H Q → t σ H Q'
def MonR (r : R2) : Prop := ∀ x y H (Q Q' : VK), (∀ v H', Q v H' → Q' v H') → r x y H Q → r x y H Q'
theorem mon_var (i : Nat) : Mon (tVar i) := fun _ _ _ _ m ⟨v, e, q⟩ => ⟨v, e, m _ _ q⟩
theorem mon_c (v : V) : Mon (tC v) := fun _ _ _ _ m q => m _ _ q
theorem mon_op {r : R2} {ta tb : TE} (mr : MonR r) (ma : Mon ta) (mb : Mon tb) : Mon (tOp r ta tb) := fun σ H _ _ m q => ma σ H _ _ (fun _ H1 q1 => mb σ H1 _ _ (fun _ _ q2 => mr _ _ _ _ _ m q2) q1) q
theorem mon_rI (C : Int → Int → Prop) (g : Int → Int → V) : MonR (rI C g) := fun _ _ _ _ _ m ⟨i, j, e1, e2, c, q⟩ => ⟨i, j, e1, e2, c, m _ _ q⟩
theorem mon_rI0 (g : Int → Int → V) : MonR (rI0 g) := fun _ _ _ _ _ m ⟨i, j, e1, e2, q⟩ => ⟨i, j, e1, e2, m _ _ q⟩
theorem mon_rEq : MonR rEq := fun _ _ _ _ _ m ⟨e, q⟩ => ⟨e, m _ _ q⟩
theorem mon_rNe : MonR rNe := fun _ _ _ _ _ m ⟨e, q⟩ => ⟨e, m _ _ q⟩
theorem mon_test {t : TE} (h : Mon t) : MonT (tTest t) := fun σ H _ _ m q => h σ H _ _ (fun _ _ ⟨k, e, q1⟩ => ⟨k, e, m _ _ q1⟩) q
theorem mon_and {t u : TT} (h : MonT t) (k : MonT u) : MonT (tAnd t u) := fun σ H Q Q' m q => h σ H _ _ (fun b H1 q1 => by
  cases b
  · exact m _ _ q1
  · exact k σ H1 _ _ m q1) q
theorem mon_or {t u : TT} (h : MonT t) (k : MonT u) : MonT (tOr t u) := fun σ H Q Q' m q => h σ H _ _ (fun b H1 q1 => by
  cases b
  · exact k σ H1 _ _ m q1
  · exact m _ _ q1) q
def Less (W : Nat → L2.St → Hp → Prop) (m : Nat) (σ : L2.St) (H : Hp) : Prop := ∃ m', m' < m ∧ W m' σ H
theorem While.by {c : TT} {tb : TS} {D : Ends} {σ : L2.St} {H : Hp} (mc : MonT c) (W : Nat → L2.St → Hp → Prop) (m0 : Nat) (h0 : W m0 σ H)
    (hs : ∀ m σ H, W m σ H → c σ H fun b H1 => if b = true then tb { D with nx := Less W m, ct := Less W m, bk := D.nx } σ H1 else D.nx σ H1) : tWhile c tb D σ H :=
  ⟨W, ⟨m0, h0⟩, fun m σ H hw => mc σ H _ _ (fun b H1 q => by
    cases b
    · exact q
    · exact ⟨Less W m, fun _ _ h => h, q⟩) (hs m σ H hw)⟩
/-! ### heaps -/
theorem same_upd {H : Hp} {p : Addr} {o : HO} (h : H p = none) : Same H (upd H p o) := fun b x e => by
  rw [upd_ne (ne_of_none e h)]
  exact e
theorem upd_at {H : Hp} {a b : Addr} {o : HO} : upd H a o b = if b = a then some o else H b := rfl
/-- a comprehension that changes nothing but its own list: kept i is what turn i puts into it -/
theorem Lc.gen {J : It} {n j : Nat} {G : Hp → Prop} {Y : Nat → Hp → V → Hp → Prop} {tt : TT} {te : TE} {vs : List Nat} {D : Addr} {σ : L2.St} {H1 : Hp} {Q : VK} (wk : Walk J n G Y) (it : Nat → V) (kept : Nat → Option V)
    (hY : ∀ i H x H', i < n → Y i H x H' → H' = H ∧ x = it i) (hG : ∀ H', Same H1 H' → G H') (hD : H1 D = none) (hn : n ≤ 100000) (hw : ∀ i, wipe ((wipe σ vs).set j (some (it i))) vs = wipe σ vs)
    (step : ∀ i H (Qk : VK) (Qn : Hp → Prop), i < n → Same H1 H → (∀ y H4, Same H H4 → kept i = some y → Qk y H4) → (∀ H3, Same H H3 → kept i = none → Qn H3) →
      tt ((wipe σ vs).set j (some (it i))) H fun b H3 => if b = true then te ((wipe σ vs).set j (some (it i))) H3 Qk else Qn H3)
    (fin : ∀ H', Same H1 H' → H' D = some (.lst ((List.range n).filterMap kept)) → Q (.ref D) H') : Lc J (gName j) tt te vs D σ H1 Q := by
  refine Lc.by wk (fun i H => Same H1 H ∧ H D = some (.lst ((List.range i).filterMap kept))) ⟨same_upd hD, upd_same⟩ (fun i H _ p => hG H p.1) ?_ fun H p => fin H p.1 p.2
  rintro i x H H' hi ⟨sm, hd⟩ hy
  obtain ⟨rfl, rfl⟩ := hY i H x H' hi hy
  refine ⟨hw i, step i _ _ _ hi sm (fun y H4 s4 hk => ⟨_, s4 _ _ hd, ?_, fun b o e => ?_, ?_⟩) fun H3 s3 hk => ⟨sm.trans s3, ?_⟩⟩
  · refine Nat.lt_of_le_of_lt (Nat.le_trans (List.length_filterMap_le _ _) (by rw [List.length_range]; exact Nat.le_trans (Nat.le_of_lt hi) hn)) (by rw [sizeLine_eq]; omega)
  · rw [upd_ne (ne_of_none e hD)]; exact s4 _ _ (sm _ _ e)
  · rw [upd_same, List.range_succ, List.filterMap_append, List.filterMap_cons_some hk]; rfl
  · rw [s3 _ _ hd, List.range_succ, List.filterMap_append, List.filterMap_cons_none hk]; simp
section
variable {CX : CXT} {P : Program} {w : World} {K : PySem.W.Frag} {mg : Str → Option Value} {base : Heap} {N : List Str} {q : Str} {sc : Scope} {f : Addr} {cd : Value} {A : Around} {o : List Env} {s : Shared} {H : Hp} {E : XK}
theorem cx_K : (cxOf CX P w K mg base N q sc f cd A o s H E).K = K := rfl
theorem cx_prog : (cxOf CX P w K mg base N q sc f cd A o s H E).prog = P := rfl
theorem cx_w : (cxOf CX P w K mg base N q sc f cd A o s H E).w = w := rfl
theorem cx_nK : (cxOf CX P w K mg base N q sc f cd A o s H E).nox.K = K := rfl
end
theorem rEq_int (i j : Int) (H : Hp) (Q : VK) : rEq (.int i) (.int j) H Q = Q (.bl (decide (i = j))) H := by simp [rEq, scal]
theorem rNe_int (i j : Int) (H : Hp) (Q : VK) : rNe (.int i) (.int j) H Q = Q (.bl (!decide (i = j))) H := by simp [rNe, scal]
theorem rEq_bl (i j : Bool) (H : Hp) (Q : VK) : rEq (.bl i) (.bl j) H Q = Q (.bl (decide (i = j))) H := by simp [rEq, scal]
theorem rNe_bl (i j : Bool) (H : Hp) (Q : VK) : rNe (.bl i) (.bl j) H Q = Q (.bl (!decide (i = j))) H := by simp [rNe, scal]
theorem rEq_str (i j : Str) (H : Hp) (Q : VK) : rEq (.str i) (.str j) H Q = Q (.bl (decide (i = j))) H := by simp [rEq, scal]
theorem rNe_str (i j : Str) (H : Hp) (Q : VK) : rNe (.str i) (.str j) H Q = Q (.bl (!decide (i = j))) H := by simp [rNe, scal]
theorem atI_0 {α : Type} (a : α) (r : List α) : atI (a :: r) 0 = some a := atI_nat (j := 0) rfl
theorem atI_1 {α : Type} (a b : α) (r : List α) : atI (a :: b :: r) 1 = some b := atI_nat (j := 1) rfl
theorem atI_2 {α : Type} (a b c : α) (r : List α) : atI (a :: b :: c :: r) 2 = some c := atI_nat (j := 2) rfl
theorem atI_3 {α : Type} (a b c d : α) (r : List α) : atI (a :: b :: c :: d :: r) 3 = some d := atI_nat (j := 3) rfl
theorem ixN_4_0 : ixN 4 0 = some 0 := rfl
theorem ixN_4_1 : ixN 4 1 = some 1 := rfl
theorem ixN_4_2 : ixN 4 2 = some 2 := rfl
theorem ixN_4_3 : ixN 4 3 = some 3 := rfl
theorem some_lst {a b : List V} : (some (HO.lst a) = some (HO.lst b)) = (a = b) := by simp
theorem some_tup {a b : List V} : (some (HO.tup a) = some (HO.tup b)) = (a = b) := by simp
/-! ### the head: facts by names, and one more Bool -/
def obsM (n : Nat) (fa : List He.Fa) (fn : List He.DefD) (ex : PySem.W.Frag → Bool) (g : Addr → Option Obj) : He.AlD × Bool := (He.obsDG n fa fn g, ex (He.frG g (He.asD g n)))
def hookM (n : Nat) (fa : List He.Fa) (fn : List He.DefD) (ex : PySem.W.Frag → Bool) : PySem.W.Hook where
  α := He.AlD × Bool
  obs := fun s => obsM n fa fn ex s.heap.get?
  val := fun _ => (He.valD fn, true)
  says := fun _ h => ∃ K : PySem.W.Frag, K.In h ∧ He.SaysD fa fn K ∧ ex K = true
  of := fun _ _ e => ⟨_, He.frG_in, congrArg (fun z : He.AlD × Bool => z.1) e, congrArg (fun z : He.AlD × Bool => z.2) e⟩
  keeps := fun _ _ _ ⟨K, hK, c⟩ k => ⟨K, PySem.W.Frag.In.keeps hK k, c⟩
theorem obsM_eq {n : Nat} {fa : List He.Fa} {fn : List He.DefD} {ex : PySem.W.Frag → Bool} {g : Addr → Option Obj} {s : Shared} (h : ∀ a, g a = s.heap.get? a) : obsM n fa fn ex g = (hookM n fa fn ex).obs s := by
  have e : g = s.heap.get? := funext h
  rw [e] <;> rfl
theorem own_of {K : PySem.W.Frag} {x : Str} (c : (He.Fa.exc x).ok K = true) : OwnExc K (He.ga K x) := by
  obtain ⟨a, b, d, e⟩ := He.exc_ok c
  exact ⟨a, b, d, e⟩
/-- the module's name x stands for this built-in -/
def isB (x : Str) (id : String) (K : PySem.W.Frag) : Bool := He.eqO (PySem.W.nsIn K mainGlobals x) (some (some (.builtin id)))
theorem isB_ok {K : PySem.W.Frag} {h : Heap} {mg : Str → Option Value} (X : K.In h) (G : h.Ns mainGlobals mg) {x : Str} {id : String} (c : isB x id K = true) : mg x = some (.builtin id) := PySem.W.mg_of X G (He.eqO_ok c)
end Mine

namespace Mine
open PySem PySem.Spec PyProof.Rows L2
/-! ### own errors that keep what they are given -/
def oexB (K : PySem.W.Frag) (C : Addr) : Bool := match K.lookup C with
  | some ⟨.type "type", _, .cls cd, sl⟩ => (match cd.mro, sl.toList with
    | .ref C' :: bm, [_, _, _, _, some (.builtin n), _] => C' == C && (n == "ValueError.__new__" && (!cd.hasDel && (cd.hasDict && PySem.HandSPX.refsVE bm)))
    | _, _ => false)
  | _ => false
theorem oexB_cls {K : PySem.W.Frag} {C : Addr} (q : oexB K C = true) : ∃ nm q N bs bm sn sub ab col dd k0 k1 k2 k3 k5, K.lookup C = some (excClassObj nm q C N bs bm true sn sub ab col dd k0 k1 k2 k3 k5 "ValueError.__new__") ∧ PySem.HandSPX.refsVE bm = true := by
  unfold oexB at q
  split at q
  · rename_i dd cd sl ho
    split at q
    · rename_i C' bm k0 k1 k2 k3 n k5 hm hs
      simp only [Bool.and_eq_true, beq_iff_eq, Bool.not_eq_true'] at q
      obtain ⟨rfl, rfl, hdel, hdict, hb⟩ := q
      obtain ⟨nm, bs, mro, ns, qn, hd, sn, sub, ab, col, del⟩ := cd
      dsimp only at hm hdel hdict
      subst hm hdel hdict
      obtain ⟨l⟩ := sl
      simp only at hs
      subst hs
      exact ⟨nm, qn, ns, bs, bm, sn, sub, ab, col, dd, k0, k1, k2, k3, k5, ho, hb⟩
    · cases q
  · cases q
/-- the class at C: its __init__ at fI puts what it is given into f -/
structure FldExc (K : PySem.W.Frag) (C fI : Addr) : Prop where
  o : OexC K C
  ini : PySem.W.findIn K (.ref C) "__init__" = some (some (.ref fI))
  ty : PySem.W.typeIn K (.ref fI) = some (.type "function")
  x : XfC K C
def fexB (K : PySem.W.Frag) (x : Str) : Bool := oexB K (He.ga K x) && (He.eqO (PySem.W.findIn K (.ref (He.ga K x)) "__setattr__") (some (some (.builtin "object.__setattr__"))) && (decide (PySem.W.subIn K (.ref (He.ga K x)) (.type "BaseException") = some true) &&
  (decide (PySem.W.typeIn K (.ref (He.ga K x)) = some (.type "type")) && (PySem.W.keepIn K (.ref (He.ga K x)) && (He.eqO (PySem.W.findIn K (.ref (He.ga K x)) "__init__") (some (some (.ref (He.ma K (He.ga K x) "__init__")))) &&
  (decide (PySem.W.typeIn K (.ref (He.ma K (He.ga K x) "__init__")) = some (.type "function")) && xfB K (He.ga K x)))))))
theorem fexB_ok {K : PySem.W.Frag} {x : Str} (h : fexB K x = true) : FldExc K (He.ga K x) (He.ma K (He.ga K x) "__init__") := by
  obtain ⟨a, h⟩ := He.ba h
  obtain ⟨b, h⟩ := He.ba h
  obtain ⟨c, h⟩ := He.ba h
  obtain ⟨d, h⟩ := He.ba h
  obtain ⟨e, h⟩ := He.ba h
  obtain ⟨f, h⟩ := He.ba h
  obtain ⟨g, i⟩ := He.ba h
  exact ⟨⟨oexB_cls a, He.eqO_ok b, of_decide_eq_true c, of_decide_eq_true d, e⟩, He.eqO_ok f, of_decide_eq_true g, xfB_ok i⟩
theorem PMk.asks {X : Cx} {e : Expr} {t t' : L2.St → Hp → XK → Prop} (h : PMk X e t) (m : ∀ σ H Q, t' σ H Q → t σ H Q) : PMk X e t' := fun pn st sg Hh Qq J hq => h pn st sg Hh Qq J (m _ _ _ hq)
/-- what such an __init__ does -/
def spFld (C : Addr) (f : Str) : Sp := fun vs H Q _ => ∃ (a : Addr) (v : V), vs = [.ref a, v] ∧ H a = some (exo a C none) ∧ ∀ dx, H dx = none → dx ≠ a → Q .non (upd (upd H dx (exd dx [(f, v)])) a (exo a C (some dx)))
/-- X(e): the error's own dict at d -/
def tMk1 (C : Addr) (f : Str) (te : TE) : L2.St → Hp → XK → Prop := fun σ H Q => te σ H fun v H1 => ∀ d H', Same H1 H' → H1 d = none → H' d = some (.xd [(f, v)]) → Q (.ref C) (some d) H'
theorem mk1 {X : Cx} {x f : Str} {C fI : Addr} {k : Nat} {fd : FuncData} {e : Expr} {te : TE} {p pos : Pos} {ps : List Str} (T : FldExc X.K C fI) (g : X.mg x = some (.ref C)) (F1 : FnOk X.prog X.w X.K X.mg X.base CX0 k fI fd ps (spFld C f)) (hb : Binds X.K fd ps []) (hr : Room (k + 1) X.A)
    (mt : Mon te) (he : PE X e te) (hg : Gl X x) (hd : (x == ("__debug__" : Str)) = false := by decide) (hs : starEach (e :: []) X.env = (false, eval e X.env) :: starEach [] X.env := by rfl) (hpl : (backTo pos (starEach [] X.env)).any (·.1) = false := by rfl) :
    PMk X (.Call (.Name x p) [e] [] pos) (tMk1 C f te) := by
  refine PMk.asks (pmk_oex (dvs := []) (ds := []) T.o T.ini T.ty F1 hr hb .nil (fun _ _ _ _ _ _ _ h => h.elim) hg g (pa_cons he pa_nil hs) hd hs hpl) fun σ H Q h => ?_
  refine mt σ H _ _ (fun v H1 q => ?_) h
  show [v].length ≤ 1000 ∧ ∀ a, H1 a = none → spFld C f (.ref a :: ([v] ++ [])) (upd H1 a (exo a C none)) _ _
  refine ⟨by show 1 ≤ 1000; decide, fun a ha => ⟨a, v, rfl, upd_same, fun dx hdx ne => ⟨rfl, dx, [(f, v)], upd_same, ?_, ?_, ?_⟩⟩⟩
  · rw [upd_ne ne, upd_same]
  · rw [upd_ne ne] at hdx; exact hdx
  · have h1 : H1 dx = none := by rw [upd_ne ne] at hdx; exact hdx
    refine q dx _ (fun b o eb => ?_) h1 upd_same
    have nb : b ≠ a := ne_of_none eb ha
    have nd : b ≠ dx := ne_of_none eb h1
    rw [upd_ne nd, del_ne nb, upd_ne nb, upd_ne nd, upd_ne nb]; exact eb
end Mine

namespace PySem
set_option maxHeartbeats 8000000 in
theorem mine_enum_newB {v : Value} {o : Obj} {H : Heap → Prop} (B : Begins v o H) :
    Meets (Builtin.«enumerate.__new__» ⟨[.type "enumerate", v], []⟩) (fun _ R s => H s.heap ∧
      R (.ok (.ret (.ref (s.heap.push o).objs.size))) { s with heap := (s.heap.push o).push { cls := .type "enumerate", data := .fields #[.none, .bool false, .ref s.heap.objs.size, rawInt 0, .none, .none] } }) :=
  .of_wp fun prog w A R s h => by
    obtain ⟨hp, g, d, tk, os⟩ := s; obtain ⟨h1, h⟩ := h
    have hsub := sub_enumerate
    have q1 : ∀ {A' : Around} {E : Value → Shared → Prop} {Q : Value → Shared → Prop}, Q (.ref hp.objs.size) ⟨hp.push o, g, d, tk, os⟩ → wpAny (model prog w) A' (pyIter v) Q E ⟨hp, g, d, tk, os⟩ :=
      fun q => B.iter prog w _ _ ⟨hp, g, d, tk, os⟩ _ h1 q
    wp_walk using q1
    refine wpAny_stack_any fun st => wpAny_pure ?_
    split
    · rename_i c _ _ _ _ _
      cases (c == Value.type "enumerate")
      · wp_walk using q1
        exact ⟨_, rfl, h⟩
      · wp_walk using q1
        exact ⟨_, rfl, h⟩
    · wp_walk using q1
      exact ⟨_, rfl, h⟩
section
variable {prog : Program} {w : World} {A : Around} {E : Value → Shared → Prop} {s : Shared}
theorem mine_enum_call {v : Value} {o : Obj} {H : Heap → Prop} {Q : Value → Shared → Prop} (B : Begins v o H) (h1 : H s.heap)
    (h : ∀ h', IsEnum h' (s.heap.objs.size + 1) s.heap.objs.size 0 .none → h'.get? s.heap.objs.size = some o → h'.objs.size = s.heap.objs.size + 2 →
      (∀ b o, s.heap.get? b = some o → h'.get? b = some o) → Q (.ref (s.heap.objs.size + 1)) { s with heap := h' }) :
    wpAny (model prog w) A (call (.type "enumerate") [v]) Q E s := by
  refine callType_new F.called_enumerate (by decide) (F.typeCall_enumerate_1 _) (F.newCall_enumerate_1 _) (fun obj => F.args_object_init_2 obj _) F.entry_enumerate_new
    (mine_enum_newB B) ⟨h1, ?_⟩
  have hz : (s.heap.push o).objs.size = s.heap.objs.size + 1 := Heap.size_push ..
  show _ ∧ _
  rw [hz]
  have he : IsEnum ((s.heap.push o).push { cls := .type "enumerate", data := .fields #[.none, .bool false, .ref s.heap.objs.size, rawInt 0, .none, .none] }) (s.heap.objs.size + 1) s.heap.objs.size 0 .none := by
    have := Heap.get?_push_size (s.heap.push o) (o := { cls := .type "enumerate", data := .fields #[.none, .bool false, .ref s.heap.objs.size, rawInt 0, .none, .none] }) rfl
    rw [hz] at this; exact this
  refine ⟨⟨_, he, rfl⟩, h _ he (Heap.get?_push_of_some _ (Heap.get?_push_size _ B.free)) (by rw [Heap.size_push, hz]) fun b o x => Heap.get?_push_of_some _ (Heap.get?_push_of_some _ x)⟩
end
end PySem
namespace Mine
open PySem PySem.Spec PyProof.Rows L2
/-! ### enumerate over a tuple -/
def IteT (K : PySem.W.Frag) (a : Addr) : It :=
  ⟨fun i H => ∃ (xs : List V) (x : V), SqT K H a xs ∧ xs[i]? = some x, fun i H v H' => ∃ T x, v = .ref T ∧ H T = none ∧ H' = upd H T (.tup [.int (i : Nat), x]) ∧ ∀ xs, SqT K H a xs → xs[i]? = some x, fun i H => ∃ xs : List V, SqT K H a xs ∧ xs.length ≤ i⟩
theorem turn_enumT {P : Program} {w : World} {K : PySem.W.Frag} {elts : List Expr} {kk : Nat} {tpos : Pos} (a e it : Addr) (ha : a ≠ it) (hae : e ≠ a) :
    Turn P w K (.Tuple elts kk tpos) (IteT K a) [e, it] e (fun i h => (∃ old, IsEnum h e it ((i : Nat) : Int) old) ∧ h.IsTupleIter it a i ∧ e ≠ it) where
  mem := by simp
  obj := fun i h st b hb => by
    obtain ⟨⟨old, he⟩, ⟨o, ho, hc, hd⟩, _⟩ := st
    have e' : b = e ∨ b = it := by simpa using hb
    rcases e' with z | z
    · rw [z]; exact ⟨_, he, fun v q => nomatch q⟩
    · rw [z]; exact ⟨o, ho, fun v q => by rw [hd] at q; cases q⟩
  keep := fun i h h' st k => let ⟨⟨old, he⟩, hi, hne⟩ := st; ⟨⟨old, k e (by simp) _ he⟩, hi.at fun o q => k it (by simp) o q, hne⟩
  item := by
    intro X hP hw hK hc i pins s σ H E I hf st hg
    subst hP hw hK
    obtain ⟨⟨old, he⟩, hit, hne⟩ := st
    obtain ⟨xs, x, hq, hx⟩ := hg
    obtain ⟨its, rv, p, hz⟩ := I.tuple hq
    obtain ⟨u, hu, ru⟩ := rv.get hx
    have hel : e < s.heap.objs.size := Heap.lt_size he
    have hil : it < s.heap.objs.size := by obtain ⟨_, q, _⟩ := hit; exact Heap.lt_size q
    have pt : s.heap.IsTuple a its.toArray := p
    have hlt : i < its.toArray.size := by
      have := List.getElem?_eq_some_iff.mp hu
      obtain ⟨h, _⟩ := this
      simpa using h
    refine wpAny_pyNext_enum_itemD (i := i) (Draws.tuple (A := X.A.in1) (I.ok.hd hc) it a ha its.toArray) he ⟨hit, pt⟩ hlt hne (by simp [hne, hae]) fun x' h' tk hP ho hs' hT hsz hk => ?_
    have ex : x' = u := by
      have z : its.toArray[i]? = some u := by simpa using hu
      rw [hP] at z; exact Option.some.inj z
    subst ex
    refine ⟨_, rfl, wpAny_letOwnedTupleGo_enum (s := { s with heap := h', toks := tk + 1 }) ho fun h'' he' sb => ?_⟩
    have hT2 : h''.get? s.heap.objs.size = some { cls := .type "tuple", data := .seq #[.int i tk, x'] } := (sb.2 _ (Nat.ne_of_gt hel)).trans hT
    have new : ObjOk X.prog X.w (upd H s.heap.objs.size (.tup [.int (i : Nat), x])) h'' s.heap.objs.size (.tup [.int (i : Nat), x]) :=
      ⟨by show 2 ≤ sizeLine; decide, [.int i tk, x'], .cons ⟨_, rfl⟩ (.cons ru .nil), ⟨_, hT2, rfl, _, rfl⟩⟩
    have I1 : Inv X pins σ (upd H s.heap.objs.size (.tup [.int (i : Nat), x])) { s with heap := h'', toks := tk + 1 } :=
      I.turnedNew (ch := [e, it]) (fun b ob hb q => (sb.2 b (fun z => hb (by simp [z]))).trans (hk b ob (fun z => hb (by simp [z])) (fun z => hb (by simp [z])) q)) hf (Nat.le_refl _) new
    refine ⟨.ref s.heap.objs.size, _, I1, rfl, ⟨_, x, rfl, I.hok.fresh (Nat.le_refl _), rfl, fun ys hy => by rw [I.tuple_inj hy hq]; exact hx⟩, ⟨⟨x', ?_⟩, hs'.1.at fun o q => (sb.2 it (Ne.symm hne)).trans q, hne⟩, fun b hb => ?_⟩
    · have e1 : ((i + 1 : Nat) : Int) = (i : Int) + 1 := by omega
      rw [e1]; exact he'
    · have hb' : b < s.heap.objs.size := by
        have e' : b = e ∨ b = it := by simpa using hb
        rcases e' with z | z
        · rw [z]; exact hel
        · rw [z]; exact hil
      rw [upd_ne (Nat.ne_of_lt hb')]
      exact (hf b hb).1
  done := by
    intro X hP hw hK hc i pins s σ H E I hf st hg
    subst hP hw hK
    obtain ⟨⟨old, he⟩, hit, hne⟩ := st
    obtain ⟨xs, hq, hx⟩ := hg
    obtain ⟨its, rv, p, hz⟩ := I.tuple hq
    obtain ⟨f0, f1, f2, f3, f4, f5⟩ := hf it (by simp)
    have hl := rv.length
    have pt : s.heap.IsTuple a its.toArray := p
    have hT : s.TypeIs (.ref e) "enumerate" := ⟨_, he, rfl⟩
    unfold pyNext
    refine wpAny_bind (wpAny_attempt (wpAny_callSpecial?_slot (name := Str.ofString "__next__") hT F.slot_enumerate_next
      (wpAny_call_entry F.slot_enumerate_next hT F.entry_enumerate_next ?_ (F.args_enumerate_next_1 _))))
    show wpAny _ _ (field (.ref e) 2 >>= _) _ _ _
    refine wpAny_bind (wpAny_field he rfl (x := .ref it) rfl ?_)
    refine wpAny_bind (wpAny_nextOf_tuple_end (I.ok.hd hc) hit pt (by simp; omega) fun h' x he' hx' => ?_)
    obtain ⟨o, ho, hc⟩ := hx'
    refine wpAny_bind (wpAny_isInstance (T := "StopIteration") (b := true) ⟨o, ho, hc⟩ isSubtype_stop ?_)
    exact wpAny_pure ⟨rfl, I.turned (t' := s.toks) (fun b o hb q => he' b o hb q) f0 f1 f3 f4 f5⟩
  self := fun A i s Q E st h => let ⟨⟨_, he⟩, _⟩ := st; wpAny_pyIter_enum he h
def iEnumT (K : PySem.W.Frag) (ta : TA) : TI := fun σ H R => ta σ H fun vs H1 => ∃ a xs, vs = [.ref a] ∧ SqT K H1 a xs ∧ R (IteT K a) H1
def iEnumA (K : PySem.W.Frag) (ta : TA) : TI := fun σ H R => ta σ H fun vs H1 => ∃ a xs, vs = [.ref a] ∧ ((SqL K H1 a xs ∧ R (Ite K a) H1) ∨ (SqT K H1 a xs ∧ R (IteT K a) H1))
theorem pi_enumA {X : Cx} {e : Expr} {ta : TA} {p pos tpos : Pos} {elts : List Expr} {kk : Nat} (hg : Gl X "enumerate") (hm : X.mg "enumerate" = none) (ha : PA X [e] ta) (hs : starEach [e] X.env = [(false, eval e X.env)] := by rfl) :
    PI X (.Tuple elts kk tpos) (.Call (.Name "enumerate" p) [e] [] pos) (iEnumA X.K ta) := by
  refine ⟨fun pins s σ H R I h => ?_⟩
  refine Call_ (ld_blt I hg hm boot_enumerate (PyProof.Rows.callWith_type1 (thn (ha.run pos pins s σ H _ I h) fun us s1 ⟨vs, H1, I1, r1, q1⟩ => ?_) hs rfl))
  obtain ⟨a, xs, ex, q1⟩ := q1
  subst ex
  cases r1 with
  | cons r rr =>
    cases rr
    cases r
    have fp2 : ∀ b ∈ [s1.heap.objs.size + 1, s1.heap.objs.size], FpOk X pins H1 b := fun b hb => by
      have e' : b = s1.heap.objs.size + 1 ∨ b = s1.heap.objs.size := by simpa using hb
      have hle : s1.heap.objs.size ≤ b := by
        rcases e' with z | z
        · rw [z]; exact Nat.le_add_right _ _
        · rw [z]; exact Nat.le_refl _
      exact I1.fpOk hle (I1.hok.fresh hle)
    rcases q1 with ⟨hq, q⟩ | ⟨hq, q⟩
    · obtain ⟨its, rv, p', hz⟩ := I1.list hq
      refine call_enumerate_list p'.isList fun h' he hit hsz hk => wpAny_pyIter_enum he ?_
      have I2 : Inv X pins σ H1 { s1 with heap := h' } := I1.kept (t' := s1.toks) hk
      exact ⟨s1.heap.objs.size + 1, [s1.heap.objs.size + 1, s1.heap.objs.size], _, _, H1, rfl, I2, turn_enum a (s1.heap.objs.size + 1) s1.heap.objs.size, ⟨⟨.none, he⟩, hit, Nat.succ_ne_self _⟩, fp2, q⟩
    · obtain ⟨its, rv, p', hz⟩ := I1.tuple hq
      have pt : s1.heap.IsTuple a its.toArray := p'
      have hlt : a < s1.heap.objs.size := by
        obtain ⟨o, ho, _⟩ := id pt
        exact Heap.lt_size ho
      refine mine_enum_call (begins_tuple a its.toArray) pt fun h' he hit hsz hk => wpAny_pyIter_enum he ?_
      have I2 : Inv X pins σ H1 { s1 with heap := h' } := I1.kept (t' := s1.toks) hk
      exact ⟨s1.heap.objs.size + 1, [s1.heap.objs.size + 1, s1.heap.objs.size], _, _, H1, rfl, I2, turn_enumT a (s1.heap.objs.size + 1) s1.heap.objs.size (Nat.ne_of_lt hlt) (Nat.ne_of_gt (Nat.lt_succ_of_lt hlt)), ⟨⟨.none, he⟩, ⟨_, hit, rfl, rfl⟩, Nat.succ_ne_self _⟩, fp2, q⟩
theorem walk_enumT {K : PySem.W.Frag} {a : Addr} {xs : List V} : Walk (IteT K a) xs.length (fun H => SqT K H a xs) (YPair (fun i => some (.int (i : Nat))) (fun i => xs[i]?)) := by
  refine ⟨fun i _ hi q => ⟨xs, xs[i], q, by simp [hi]⟩, fun _ q => ⟨xs, q, Nat.le_refl _⟩, fun i H v H' _ q y => ?_⟩
  obtain ⟨T, x, h1, h2, h3, h4⟩ := y
  exact ⟨T, .int (i : Nat), x, h1, h2, h3, rfl, h4 xs q⟩
/-! ### a list or a tuple -/
def iSeq (K : PySem.W.Frag) (tl : TE) : TI := fun σ H R => tl σ H fun x H1 => ∃ a xs, x = .ref a ∧ ((SqL K H1 a xs ∧ R (Itl K a) H1) ∨ (SqT K H1 a xs ∧ R (Itt K a) H1))
theorem pi_seq {X : Cx} {tg l : Expr} {tl : TE} (hl : PE X l tl) : PI X tg l (iSeq X.K tl) := by
  refine ⟨fun pins s σ H R I h => ?_⟩
  refine thn (hl.run pins s σ H _ I h) fun v s1 ⟨x, H1, I1, r1, q1⟩ => ?_
  obtain ⟨a, xs, e, q1⟩ := q1
  subst e
  cases r1
  have fp1 : ∀ b ∈ [s1.heap.objs.size], FpOk X pins H1 b := fun b hb => by
    have e : b = s1.heap.objs.size := by simpa using hb
    subst e
    exact I1.fpOk (Nat.le_refl _) (I1.hok.fresh (Nat.le_refl _))
  rcases q1 with ⟨hq, q⟩ | ⟨hq, q⟩
  · obtain ⟨its, rv, p, hz⟩ := I1.list hq
    refine wpAny_pyIter_list p.isList ?_
    exact ⟨s1.heap.objs.size, [s1.heap.objs.size], _, _, H1, rfl, I1.kept (t' := s1.toks) fun b o e => Heap.get?_push_of_some _ e, turn_list a _, ⟨_, Heap.get?_push_size _ rfl, rfl, rfl⟩, fp1, q⟩
  · obtain ⟨its, rv, p, hz⟩ := I1.tuple hq
    refine wpAny_pyIter_tuple (show s1.heap.IsTuple a its.toArray from p) ?_
    exact ⟨s1.heap.objs.size, [s1.heap.objs.size], _, _, H1, rfl, I1.kept (t' := s1.toks) fun b o e => Heap.get?_push_of_some _ e, turn_tuple a _, ⟨_, Heap.get?_push_size _ rfl, rfl, rfl⟩, fp1, q⟩
section
variable {X : Cx}
/-- b tells whether x is a list or a tuple -/
def IsSeqV (K : PySem.W.Frag) (H : Hp) (x : V) (b : Bool) : Prop := match x with
  | .non => b = false
  | .bl _ => b = false
  | .int _ => b = false
  | .str _ => b = false
  | .ref a => (b = true ∧ ∃ xs, SqL K H a xs) ∨ (b = true ∧ ∃ xs, SqT K H a xs) ∨ (b = false ∧ ∃ kvs, H a = some (.dK kvs))
  | _ => False
theorem kb_dict_int : kitB "dict" "int" = some false := by decide +kernel
theorem kb_dict_bool : kitB "dict" "bool" = some false := by decide +kernel
theorem kb_dict_str : kitB "dict" "str" = some false := by decide +kernel
theorem kb_dict_tuple : kitB "dict" "tuple" = some false := by decide +kernel
theorem kb_dict_list : kitB "dict" "list" = some false := by decide +kernel
theorem call_isSeq : CallR X (.builtin "isinstance") (fun xs H Q => ∃ x tp b, xs = [x, .ref tp] ∧ H tp = some (.tup [.ty "list", .ty "tuple"]) ∧ IsSeqV X.K H x b ∧ Q (.bl b) H) :=
  CallR.weak call_isiT fun _ H _ ⟨x, tp, b, e, ht, k, q⟩ => by
    have : ∃ t : String, TyX X.K H x (.type t) ∧ PySem.W.kitAny X.K (.type t) [.type "list", .type "tuple"] = some b := by
      have two : ∀ {t : String} {r1 r2 : Bool}, kitB t "list" = some r1 → kitB t "tuple" = some r2 → (r1 || r2) = b → PySem.W.kitAny X.K (.type t) [.type "list", .type "tuple"] = some b := fun {t r1 r2} h1 h2 h3 => by
        refine kitAny_cons (kit_ty h1) (fun e1 => kitAny_cons (kit_ty h2) (fun e2 => ?_) fun e2 => ?_) fun e1 => ?_
        · subst e1 e2; rw [← h3]; rfl
        · subst e1 e2; rw [← h3]; rfl
        · subst e1; rw [← h3]; rfl
      cases x with
      | non => cases k; exact ⟨_, .base .non, two kb_NoneType_list kb_NoneType_tuple rfl⟩
      | bl y => cases k; exact ⟨_, .base (.bl y), two kb_bool_list kb_bool_tuple rfl⟩
      | int i => cases k; exact ⟨_, .base (.int i), two kb_int_list kb_int_tuple rfl⟩
      | str z => cases k; exact ⟨_, .base (.str z), two kb_str_list kb_str_tuple rfl⟩
      | ref a =>
        rcases k with ⟨rfl, xs, h⟩ | ⟨rfl, xs, h⟩ | ⟨rfl, kvs, h⟩
        · exact ⟨_, tyx_L h, two kb_list_list kb_list_tuple rfl⟩
        · exact ⟨_, tyx_T h, two kb_tuple_list kb_tuple_tuple rfl⟩
        · exact ⟨_, .base (.dK h), two kb_dict_list kb_dict_tuple rfl⟩
      | byt b => cases k
      | flt b => cases k
      | ty n => cases k
    obtain ⟨t, ty, h⟩ := this
    exact ⟨x, tp, _, _, [.type "list", .type "tuple"], b, e, ht, .cons (.ty _) (.cons (.ty _) .nil), ty, h, q⟩
theorem call_lenA : CallR X (.builtin "len") (fun xs H Q => ∃ p ys, xs = [.ref p] ∧ (H p = some (.lst ys) ∨ H p = some (.tup ys)) ∧ Q (.int ys.length) H) :=
  CallR.weak call_len_seq fun _ _ _ ⟨p, ys, e1, e2, q⟩ => ⟨p, ys, e1, e2.elim (fun e => .inl (.inl (.inl e))) (fun e => .inr (.inl (.inl e))), q⟩
/-- tuple(x), x a list or a tuple: the tuple stands at l -/
theorem call_tupA : CallR X (.type "tuple") (fun xs H Q => ∃ p ys, xs = [.ref p] ∧ (H p = some (.lst ys) ∨ H p = some (.tup ys)) ∧ ∀ l H', Same H H' → H' l = some (.tup ys) → Q (.ref l) H') :=
  CallR.weak call_tuple_of fun _ H _ ⟨p, ys, e1, e2, q⟩ => ⟨p, ys, e1, by
    rcases e2 with e2 | e2
    · exact .inl ⟨.inl (.inl e2), fun l hl => q l _ (same_upd hl) upd_same⟩
    · exact .inr ⟨.inl (.inl e2), q p H (Same.refl H) e2⟩⟩
end
end Mine

namespace L2
open PySem PySem.Spec PyProof.Rows
section
variable {P : Program} {w : World} {A : Around} {E : Value → Shared → Prop} {s : Shared}
/-- sorted of a set of one tuple or none: nothing is compared -/
theorem mine_sorted_short {a : Addr} {L : List (Addr × List Int)} {es : Array (Int × Value)} {ep : Nat} {t : SetTable} {Q : Value → Shared → Prop} (R : SetTR P w s.heap a L es ep t) (hh : A.handled = none) (h1 : L.length ≤ 1)
    (hQ : ∀ s' p (out : Array Value) (c : Nat), (∀ b o, s.heap.get? b = some o → s'.heap.get? b = some o) → s'.gens = s.gens → s'.os = s.os → s.heap.objs.size ≤ p →
      s'.heap.get? p = some (seqObj "list" out c) → out.toList = L.map (fun q => Value.ref q.1) → Q (.ref p) s') : wpAny (model P w) A (call (.builtin "sorted") [.ref a]) Q E s := by
  obtain ⟨o, ho, hex, hd⟩ := R.ob
  have few := R.few
  have rsz := R.size
  refine Calls.call_function_entry kind_sorted plain_sorted entry_sorted (args_sorted1 _) ?_
  unfold Builtin.«sorted»
  refine wpAny_bind (m := checkCount "sorted" 1 1 _) (wpAny_pure (wpAny_bind (collect_set (A := A.in1) hh ⟨o, ho, hex.1, hd⟩ R.fits (by unfold scanBound; omega) R.tab.ris R.led fun s1 vs k1 hz g1 o1 pm => ?_)))
  rw [show es.toList.map (·.2) = L.map (fun q => Value.ref q.1) by rw [R.rows]; unfold rowsOf; rw [List.map_map]; rfl] at pm
  have short : ∀ {us : List Value}, us.Perm (L.map fun q => Value.ref q.1) → us = L.map fun q => Value.ref q.1 := fun {us} h => by
    match L, h1, h with
    | [], _, h => exact h.eq_nil
    | [x], _, h => exact List.perm_singleton.mp h
    | _ :: _ :: _, h1, _ => exact absurd h1 (by simp)
  have ev := short pm
  have hl : vs.length ≤ 1 := by rw [ev, List.length_map]; exact h1
  refine wpAny_bind (wpAny_newList ?_ (by rw [sizeLine_eq]; omega))
  have hoL : (s1.heap.push (seqObj "list" vs.toArray 0)).get? s1.heap.objs.size = some (seqObj "list" vs.toArray 0) := Heap.get?_push_size _ rfl
  refine wpAny_bind (wpAny_holding (wpAny_call_entry (s := { s1 with heap := s1.heap.push (seqObj "list" vs.toArray 0) }) slot_list_sort ⟨_, hoL, rfl⟩ entry_list_sort
    (SK.plain_sort (r := fun _ => 0) hoL (by omega) (fun h2 => absurd h2 (by omega)) fun ps out e1 pp _ => ⟨_, rfl, ?_⟩) (args_list_sort _)))
  have eo : out.toList = L.map fun q => Value.ref q.1 := by
    refine short (.trans ?_ pm)
    rw [e1]
    have z := pp.map Prod.snd
    rwa [List.map_snd_zip (Nat.le_refl _)] at z
  obtain ⟨c, hc⟩ := sortedHeap_at (vs := vs) (out := out) hoL
  refine wpAny_pure ⟨_, rfl, hQ _ s1.heap.objs.size out c (fun b u e => ?_) g1 o1 hz hc eo⟩
  have q := k1 b u e
  exact (sortedHeap_old (Nat.ne_of_lt (Heap.lt_size q)) (by rw [size_push']; exact Nat.lt_succ_of_lt (Heap.lt_size q))).trans (Heap.get?_push_of_some _ q)
end
end L2

namespace Mine
open PySem PySem.Spec PyProof.Rows L2
/-- words of whole numbers of one length, each within [0, B) -/
def Even (d : Nat) (B : Int) (ws : List (List Int)) : Prop := ∀ x ∈ ws, x.length = d ∧ TS.Bd B x
theorem few_of_nil {ws : List (List Int)} (n : ws.Nodup) (z : ∀ x ∈ ws, x.length = 0) : ws.length ≤ 1 := by
  match ws, n, z with
  | [], _, _ => exact Nat.zero_le _
  | [_], _, _ => exact Nat.le_refl _
  | x :: y :: _, n, z =>
    have a : x = [] := List.length_eq_zero_iff.mp (z x (by simp))
    have b : y = [] := List.length_eq_zero_iff.mp (z y (by simp))
    exact absurd (a.trans b.symm) (fun e => (List.nodup_cons.mp n).1 (e ▸ List.mem_cons_self))
def rSortedA (K : PySem.W.Frag) (P : Program) (w : World) : List V → Hp → VK → Prop := fun vs H Q => ∃ (a : Addr) (L : List (Addr × List Int)) (d : Nat) (B : Int), vs = [V.ref a] ∧ H a = some (SetTO P w a L) ∧ (∀ p ∈ L, SqT K H p.1 (p.2.map V.int)) ∧
  (∀ p ∈ L, p.2.length = d ∧ TS.Bd B p.2) ∧
  ∀ (L' : List (Addr × List Int)) (p : Addr), L'.Perm L → (L'.map (·.2)).Nodup → L'.length < 64 → L'.Pairwise (fun q r => TS.code B q.2 ≤ TS.code B r.2) → H p = none → Q (.ref p) (upd H p (.lst (L'.map fun q => V.ref q.1)))
theorem cr_sortedA {X : Cx} (hc : X.calm = true) : CallR X (.builtin "sorted") (rSortedA X.K X.prog X.w) := by
  intro pins s σ H vs us Q I r h
  obtain ⟨a, L, d, B, e, ha, hk, hB, q⟩ := h
  by_cases hd : 1 ≤ d
  · exact cr_sortedT hc pins s σ H vs us Q I r ⟨a, L, d, B, e, ha, hk, hd, hB, q⟩
  · subst e
    have R0 : SetT0 X.prog X.w s.heap a L := (I.hok a _ ha).1
    obtain ⟨es, ep, t, R⟩ := R0.full fun p hp => I.isT (hk p hp)
    have few : L.length ≤ 1 := by
      have := few_of_nil R.nd (fun x hx => by
        obtain ⟨p, hp, e⟩ := List.mem_map.mp hx
        rw [← e, (hB p hp).1]; omega)
      rwa [List.length_map] at this
    rw [Vals.ref1 r]
    refine mine_sorted_short R (I.ok.hd hc) few fun s' p out c k g o hp hg hout => ?_
    have hn : H p = none := I.hok.fresh hp
    have J : Inv X pins σ (upd H p (.lst (L.map fun q => V.ref q.1))) { s with heap := s'.heap, gens := s'.gens, drawn := s'.drawn, toks := s'.toks } :=
      I.call (ch := []) (Un.laid k hp hn) (I.hok.laid k hp ⟨by rw [List.length_map, sizeLine_eq]; omega, out.toList, c, by rw [hout]; exact vals_of_refs L, hg⟩) (by rw [g]; exact I.bare) (fun _ z => nomatch z)
    have es' : s' = { s with heap := s'.heap, gens := s'.gens, drawn := s'.drawn, toks := s'.toks } := by
      cases s'; cases s; cases o; rfl
    rw [es']
    refine ⟨.ref p, _, J, rfl, q L p (.refl _) R.nd (by omega) ?_ hn⟩
    match L, few with
    | [], _ => exact .nil
    | [x], _ => exact List.pairwise_singleton _ _
    | _ :: _ :: _, f => exact absurd f (by simp)
/-- at p: a list of tuples, the words ws -/
def Rows (H : Hp) (p : Addr) (ws : List (List Int)) : Prop := ∃ ks : List (Addr × List Int), H p = some (.lst (ks.map fun k => V.ref k.1)) ∧ ks.map (·.2) = ws ∧ ∀ k ∈ ks, H k.1 = some (.tup (k.2.map V.int))
theorem Rows.same {H H' : Hp} {p : Addr} {ws : List (List Int)} (r : Rows H p ws) (s : Same H H') : Rows H' p ws := by
  obtain ⟨ks, a, b, c⟩ := r
  exact ⟨ks, s _ _ a, b, fun k hk => s _ _ (c k hk)⟩
/-- the code in base B is one word's alone -/
theorem code_inj {B : Int} : ∀ {x y : List Int}, x.length = y.length → TS.Bd B x → TS.Bd B y → TS.code B x = TS.code B y → x = y
  | [], [], _, _, _, _ => rfl
  | [], _ :: _, h, _, _, _ => by simp at h
  | _ :: _, [], h, _, _, _ => by simp at h
  | p :: x, q :: y, h, hx, hy, e => by
    have hl : x.length = y.length := by simpa using h
    rcases Int.lt_trichotomy p q with c | c | c
    · have := TS.code_lt hl hx.tail hy.tail c
      omega
    · subst c
      have e2 : TS.code B x = TS.code B y := by
        have e' : p * B ^ x.length + TS.code B x = p * B ^ y.length + TS.code B y := e
        rw [hl] at e'
        omega
      rw [code_inj hl hx.tail hy.tail e2]
    · have := TS.code_lt hl.symm hy.tail hx.tail c
      omega
/-- strictly rising by the code -/
def Rising (B : Int) (ws : List (List Int)) : Prop := ws.Pairwise fun x y => TS.code B x < TS.code B y
theorem Rising.nodup {B : Int} {ws : List (List Int)} (r : Rising B ws) : ws.Nodup := List.Pairwise.imp (fun h e => by rw [e] at h; omega) r
theorem Rising.unique {B : Int} : ∀ {xs ys : List (List Int)}, Rising B xs → Rising B ys → (∀ x, x ∈ xs ↔ x ∈ ys) → xs = ys
  | [], [], _, _, _ => rfl
  | [], y :: _, _, _, h => absurd ((h y).mpr List.mem_cons_self) (by simp)
  | x :: _, [], _, _, h => absurd ((h x).mp List.mem_cons_self) (by simp)
  | x :: xs, y :: ys, hx, hy, h => by
    have hx' := List.pairwise_cons.mp hx
    have hy' := List.pairwise_cons.mp hy
    have e : x = y := by
      rcases List.mem_cons.mp ((h x).mp List.mem_cons_self) with e | m
      · exact e
      · rcases List.mem_cons.mp ((h y).mpr List.mem_cons_self) with e | m2
        · exact e.symm
        · have := hy'.1 x m
          have := hx'.1 y m2
          omega
    subst e
    rw [Rising.unique hx'.2 hy'.2 fun z => ?_]
    refine ⟨fun m => ?_, fun m => ?_⟩
    · rcases List.mem_cons.mp ((h z).mp (List.mem_cons_of_mem _ m)) with e | m2
      · have := hx'.1 z m
        rw [e] at this; omega
      · exact m2
    · rcases List.mem_cons.mp ((h z).mpr (List.mem_cons_of_mem _ m)) with e | m2
      · have := hy'.1 z m
        rw [e] at this; omega
      · exact m2
/-- sorted(set(xs)) of a list of words of one length -/
theorem sorted_set {K : PySem.W.Frag} {P : Program} {w : World} {H : Hp} {l : Addr} {ws : List (List Int)} {d : Nat} {B : Int} {Q : VK} (r : Rows H l ws) (hn : ws.length < 64) (ev : Even d B ws)
    (q : ∀ p H' ws', Same H H' → H p = none → Rows H' p ws' → (∀ x, x ∈ ws' ↔ x ∈ ws) → Rising B ws' → Q (.ref p) H') : rSetOfT K P w [V.ref l] H (fun x H1 => rSortedA K P w [x] H1 Q) := by
  obtain ⟨ks, h1, h2, h3⟩ := r
  have hl : ks.length = ws.length := by rw [← h2, List.length_map]
  refine ⟨l, ks, rfl, .inl (.inl h1), fun k hk => .inl (.inl (h3 k hk)), by omega, fun a L ha hsub hall => ?_⟩
  have sa := same_upd (o := SetTO P w a L) ha
  have hev : ∀ p ∈ L, p.2.length = d ∧ TS.Bd B p.2 := fun p hp => ev p.2 (h2 ▸ List.mem_map.mpr ⟨p, hsub p hp, rfl⟩)
  refine ⟨a, L, d, B, rfl, upd_same, fun k hk => .inl (.inl (sa _ _ (h3 k (hsub k hk)))), hev, fun L' p pm nd few pw hp => ?_⟩
  have sp := same_upd (o := HO.lst (L'.map fun q => V.ref q.1)) hp
  refine q p _ (L'.map (·.2)) (sa.trans sp) (sa.free hp) ⟨L', upd_same, rfl, fun k hk => sp _ _ (sa _ _ (h3 k (hsub k (pm.mem_iff.mp hk))))⟩ (fun x => ?_) ?_
  · constructor
    · intro hx
      obtain ⟨k, hk, e⟩ := List.mem_map.mp hx
      rw [← h2]
      exact List.mem_map.mpr ⟨k, hsub k (pm.mem_iff.mp hk), e⟩
    · intro hx
      rw [← h2] at hx
      obtain ⟨k, hk, e⟩ := List.mem_map.mp hx
      obtain ⟨k2, hk2, e2⟩ := List.mem_map.mp (hall k hk)
      exact List.mem_map.mpr ⟨k2, pm.mem_iff.mpr hk2, e2.trans e⟩
  · have pw2 : (L'.map (·.2)).Pairwise fun x y => TS.code B x ≤ TS.code B y := List.pairwise_map.mpr pw
    have mem : ∀ x ∈ L'.map (·.2), x.length = d ∧ TS.Bd B x := fun x hx => by
      obtain ⟨k, hk, e⟩ := List.mem_map.mp hx
      rw [← e]; exact hev k (pm.mem_iff.mp hk)
    refine List.Pairwise.imp_of_mem (fun {x y} hx hy h => ?_) (pw2.and nd)
    obtain ⟨le, ne⟩ := h
    rcases Int.lt_or_eq_of_le le with c | c
    · exact c
    · exact absurd (code_inj ((mem x hx).1.trans (mem y hy).1.symm) (mem x hx).2 (mem y hy).2 c) ne
end Mine

namespace Mine
open PySem PySem.Spec PyProof.Rows L2
def MonU (r : V → Hp → VK → Prop) : Prop := ∀ x H (Q Q' : VK), (∀ v H', Q v H' → Q' v H') → r x H Q → r x H Q'
theorem mon_rU (g : Int → V) : MonU (rU g) := fun _ _ _ _ m ⟨i, e, q⟩ => ⟨i, e, m _ _ q⟩
theorem mon_un {r : V → Hp → VK → Prop} {ta : TE} (mr : MonU r) (ma : Mon ta) : Mon (tUn r ta) := fun σ H _ _ m q => ma σ H _ _ (fun _ _ q2 => mr _ _ _ _ m q2) q
/-- a for over enumerate of a list or a tuple -/
theorem enumA_by {K : PySem.W.Frag} {a : Addr} {xs : List V} {g : TG} {tb : TS} {D : Ends} {σ : L2.St} {H : Hp} (hS : SqL K H a xs ∨ SqT K H a xs) (Pv : Nat → L2.St → Hp → Prop) (h0 : Pv 0 σ H) (hG : ∀ i σ' H', Pv i σ' H' → Same H H')
    (hs : ∀ i x σ' H' T, i < xs.length → Pv i σ' H' → xs[i]? = some x → H' T = none → g (.ref T) σ' (upd H' T (.tup [.int (i : Nat), x])) fun s2 H2 => tb { D with nx := Pv (i + 1), ct := Pv (i + 1), bk := D.nx } s2 H2) (hd : ∀ σ' H', Pv xs.length σ' H' → D.nx σ' H') :
    ∃ ys, (SqL K H a ys ∧ Loop (Ite K a) g tb D σ H) ∨ (SqT K H a ys ∧ Loop (IteT K a) g tb D σ H) := by
  have step : ∀ i x σ' H' H'', i < xs.length → Pv i σ' H' → YPair (fun i => some (.int (i : Nat))) (fun i => xs[i]?) i H' x H'' → g x σ' H'' fun s2 H2 => tb { D with nx := Pv (i + 1), ct := Pv (i + 1), bk := D.nx } s2 H2 := by
    intro i x σ' H' H'' hi p ⟨T, v, y, e, hT, e2, ev, ey⟩
    dsimp only at ev ey
    cases ev
    subst e e2
    exact hs i y σ' H' T hi p ey hT
  refine ⟨xs, ?_⟩
  rcases hS with hS | hS
  · refine .inl ⟨hS, Loop.by (walk_enum (xs := xs)) Pv h0 (fun i σ' H' _ p => (hG i σ' H' p).seq hS) step hd⟩
  · refine .inr ⟨hS, Loop.by (walk_enumT (xs := xs)) Pv h0 (fun i σ' H' _ p => ?_) step hd⟩
    have s := hG i σ' H' p
    rcases hS with (h | ⟨o, h⟩) | h
    · exact .inl (.inl (s _ _ h))
    · exact .inl (.inr ⟨o, s _ _ h⟩)
    · exact .inr h
end Mine

namespace L2
open PySem PySem.Spec PyProof.Rows
abbrev mineSet0 (w : World) : Obj := { cls := .type "set", dict := none, data := .set #[] 0 (.fresh 0 0 (!w.params.followText "set-order")) }
section
variable {P : Program} {w : World} {A : Around} {E : Value → Shared → Prop} {s : Shared}
/-- set(v), by what its __init__ does with the new set -/
theorem mine_call_set {v : Value} {Q : Value → Shared → Prop}
    (h : wpAny (model P w) A.in1.in1 (Builtin.«set.__init__» ⟨[.ref s.heap.objs.size, v], []⟩)
      (fun fin s' => match fin with | .done f => wants (fun r s₂ => r = .none ∧ Q (.ref s.heap.objs.size) s₂) E (.ok f) s' | .again c' => c'.quiet = true ∧ codeAny (model P w) A.in1 c' (wants (fun r s₂ => r = .none ∧ Q (.ref s.heap.objs.size) s₂) E) s')
      (fun e s' => wants (fun r s₂ => r = .none ∧ Q (.ref s.heap.objs.size) s₂) E (.error e) s') { s with heap := s.heap.push (mineSet0 w) }) : wpAny (model P w) A (call (.type "set") [v]) Q E s := by
  have ft := F.called_set
  obtain ⟨k, ks, order⟩ := ft.mro
  have m1 := ft.made
  have m2 := ft.sub
  have m3 := ft.notType
  have m4 := ft.canCreate
  have m5 := F.typeCall_set_1 v
  refine wpAny_call (codeAny_of_tree ?_)
  show wpAny _ _ (callAny (.type "set") _) _ _ _
  refine wpAny_pure ⟨Code.quiet_builtin _ (by decide +kernel), codeAny_builtin F.entry_type_call ?_⟩
  rw [Around.under_plain (weight_type_call_type "set" [v] []) rfl]
  repeat (any_goals (first | assumption | wp_step))
  refine codeAny_mono (code_set_led1 (E := E) (Q₁ := fun obj s₁ => obj = .ref s.heap.objs.size ∧ s₁ = { s with heap := s.heap.push (mineSet0 w) }) v ⟨rfl, rfl⟩) fun r s₁ hr => ?_
  cases r with
  | error e => exact hr
  | ok f =>
    cases f with
    | ret x =>
      obtain ⟨rfl, rfl⟩ := hr
      have ty : Shared.TypeIs { s with heap := s.heap.push (mineSet0 w) } (.ref s.heap.objs.size) "set" := ⟨_, Heap.get?_push_size _ rfl, rfl⟩
      have m6 := ft.init.lookup
      have m7 := ft.init.bind (.ref s.heap.objs.size)
      repeat (any_goals (first | assumption | wp_step))
      refine codeAny_mono (codeAny_call_builtin ft.init.plain F.entry_set_init (check_set_init_1 ty h)) fun r₂ s₂ hr₂ => ?_
      cases r₂ with
      | error e => exact hr₂
      | ok f₂ =>
        cases f₂ with
        | ret y =>
          obtain ⟨rfl, q⟩ := hr₂
          repeat (any_goals (first | assumption | wp_step))
        | _ => exact hr₂.elim
    | _ => exact hr.elim
/-- set(xs) of a list of whole numbers, with its table -/
theorem mine_set_ints {l : Addr} {items : Array Value} (ns : List Int) {Q : Value → Shared → Prop} (hh : A.handled = none) (hl : s.heap.IsList l items) (hit : IntsAre items.toList ns) (hb : ns.length + 1 < scanBound)
    (h : ∀ (h' : Heap) (tk c : Nat), SetR w h' s.heap.objs.size (fun j => decide (j ∈ ns)) c → c ≤ ns.length → (∀ b o, s.heap.get? b = some o → h'.get? b = some o) → Q (.ref s.heap.objs.size) { s with heap := h', toks := tk }) :
    wpAny (model P w) A (call (.type "set") [.ref l]) Q E s := by
  have len : items.size = ns.length := by rw [← hit.length, Array.length_toList]
  have lt : l < s.heap.objs.size := by obtain ⟨_, e, _⟩ := hl; exact Heap.lt_size e
  have old : ∀ b o, s.heap.get? b = some o → (s.heap.push (mineSet0 w)).get? b = some o := fun b o e => Heap.get?_push_of_some _ e
  have new : (s.heap.push (mineSet0 w)).get? s.heap.objs.size = some (mineSet0 w) := Heap.get?_push_size _ rfl
  have size1 : (s.heap.push (mineSet0 w)).objs.size = s.heap.objs.size + 1 := Heap.size_push ..
  refine mine_call_set ?_
  obtain ⟨⟨c0, d0, dt0, sl0⟩, ho, hc, n0, hd⟩ := id hl
  dsimp only at hc hd
  subst hc hd
  have ho1 := old _ _ ho
  have isL : (s.heap.push (mineSet0 w)).IsList l items := ⟨_, ho1, rfl, n0, rfl⟩
  have notS := F.sub_list_set
  have notF := F.sub_list_frozenset
  have notD : (Value.type "list" == Value.type "dict") = false := by decide
  unfold Builtin.«set.__init__» noKeywords Builtin.Frozenset.updateFrom
  generalize hPI : pyIter = PI
  wp_walk
  subst hPI
  refine wpAny_pyIter_list isL (wpAny_bind (wpAny_runValue ?_))
  refine set_update_ints (A := A.in1.in1) ((Walks.list (A := A.in1.in1.in1) (by simpa using hh) (s.heap.push (mineSet0 w)).objs.size l (by rw [size1]; exact Nat.ne_of_lt (Nat.lt_succ_of_lt lt)) items).toS) s.heap.objs.size
    (by rw [size1]; simp only [List.mem_cons, List.not_mem_nil, or_false, not_or]; exact ⟨Nat.ne_of_lt (Nat.lt_succ_self _), Nat.ne_of_gt lt⟩) ns len hb (fun i v hv => ?_) (items.size - 0) 0 _ (by omega) (Nat.zero_le _) ?_ ⟨0, Nat.le_refl 0, ?_⟩ fun s' c' hm hc' hS' => ?_
  · obtain ⟨hi, _⟩ := Array.getElem?_eq_some_iff.mp hv
    obtain ⟨t, e⟩ := hit.int_at i v (by rw [Array.getElem?_toList]; exact hv)
    exact ⟨ns.getD i 0, t, by rw [List.getD_eq_getElem?_getD, List.getElem?_eq_getElem (by omega)]; rfl, e⟩
  · exact ⟨⟨_, Heap.get?_push_size _ rfl, rfl, rfl⟩, isL.push _⟩
  · exact setR_new_at (Heap.get?_push_of_some _ new)
  · obtain ⟨h', g2, d', tk', os'⟩ := s'
    obtain rfl : g2 = s.gens := hm.gens
    obtain rfl : d' = s.drawn := hm.drawn
    obtain rfl : os' = s.os := hm.os
    refine wpAny_pure (wpAny_pure ⟨rfl, h h' tk' c' hS' (by omega) fun b o e => hm.heap b o ?_ (Heap.get?_push_of_some _ (old b o e))⟩)
    have := Heap.lt_size e
    rw [size1]; simp only [List.mem_cons, List.not_mem_nil, or_false, not_or]
    exact ⟨Nat.ne_of_lt this, Nat.ne_of_lt (Nat.lt_succ_of_lt this)⟩
/-- sum(t) of a tuple of whole numbers -/
theorem mine_sum_tup {l : Addr} {items : Array Value} {ns : List Int} {Q : Value → Shared → Prop} (hh : A.handled = none) (hl : s.heap.IsTuple l items) (hit : IntsAre items.toList ns)
    (h : ∀ h' tk t', (∀ b o, s.heap.get? b = some o → h'.get? b = some o) → Q (.int ns.sum t') { s with heap := h', toks := tk }) : wpAny (model P w) A (call (.builtin "sum") [.ref l]) Q E s := by
  have len : items.size = ns.length := by rw [← hit.length, Array.length_toList]
  have lt : l < s.heap.objs.size := by obtain ⟨_, e, _⟩ := id hl; exact Heap.lt_size e
  have pre : ∀ n, n ≤ ns.length → preSum (fun i => ns.getD i 0) n = (ns.take n).sum := by
    intro n
    induction n with
    | zero => intro _; rfl
    | succ n ih =>
      intro hn
      show preSum _ n + ns.getD n 0 = _
      rw [ih (by omega), PySem.sum_take_succ]
  refine call_sum_walkG (wpAny_pyIter_tuple hl ?_)
  refine ⟨s.heap.objs.size, _, _, _, _, _, fun i => ns.getD i 0, rfl, Walks.tuple (A := A.in1) (by simpa using hh) _ l (Nat.ne_of_lt lt) items, ⟨⟨_, Heap.get?_push_size _ rfl, rfl, rfl⟩, hl.push _⟩, fun b hb => ?_, fun i v hv => hit.int_at i v (by rw [Array.getElem?_toList]; exact hv), fun h' tk t' k => ?_⟩
  · have e : b = s.heap.objs.size ∨ b = l := by simpa using hb
    show b < (s.heap.push _).objs.size
    rw [Heap.size_push]
    rcases e with e | e
    · rw [e]; exact Nat.lt_succ_self _
    · rw [e]; exact Nat.lt_succ_of_lt lt
  · rw [len, pre _ (Nat.le_refl _), List.take_of_length_le (Nat.le_refl _)]
    exact h h' tk t' fun b o e => k b o (by simpa using Nat.ne_of_lt (Heap.lt_size e)) (Heap.get?_push_of_some _ e)
end
end L2
namespace Mine
open PySem PySem.Spec PyProof.Rows L2
theorem Room.u65 {k : Nat} {A : Around} (r : Room k A) : A.units + 65 < cLine := by have := r.un; omega
section
variable {X : Cx}
def rSetOfI (K : PySem.W.Frag) (w : World) : List V → Hp → VK → Prop := fun xs H Q => ∃ (l : Addr) (ns : List Int), xs = [V.ref l] ∧ SqL K H l (ns.map V.int) ∧ ns.length < 4000 ∧
  ∀ a c, c ≤ ns.length → H a = none → Q (.ref a) (upd H a (SetO w a (fun j => decide (j ∈ ns)) c))
theorem cr_setOfI (hc : X.calm = true) : CallR X (.type "set") (rSetOfI X.K X.w) := by
  intro pins s σ H xs us Q I r h
  obtain ⟨l, ns, rfl, hl, hb, q⟩ := h
  rw [Vals.ref1 r]
  obtain ⟨its, rv, pl, hz⟩ := I.list hl
  refine mine_set_ints ns (I.ok.hd hc) pl.isList (by simpa using Vals.ints rv) (by unfold scanBound; omega) fun h' tk c R hcn k => ?_
  exact ⟨.ref s.heap.objs.size, _, I.laid (t' := tk) k (Nat.le_refl _) (setO_new R), rfl, q _ c hcn (I.hok.fresh (Nat.le_refl _))⟩
def rSumT (K : PySem.W.Frag) : List V → Hp → VK → Prop := fun vs H Q => ∃ (a : Addr) (ns : List Int), vs = [V.ref a] ∧ SqT K H a (ns.map V.int) ∧ Q (.int ns.sum) H
theorem cr_sumT (hc : X.calm = true) : CallR X (.builtin "sum") (rSumT X.K) := by
  intro pins s σ H vs us Q I r h
  obtain ⟨a, ns, rfl, ha, q⟩ := h
  rw [Vals.ref1 r]
  obtain ⟨its, rv, pl, hz⟩ := I.tuple ha
  refine mine_sum_tup (items := its.toArray) (I.ok.hd hc) pl (by simpa using Vals.ints rv) fun h' tk t' k => ?_
  exact ⟨.int ns.sum, H, I.kept (t' := tk) k, ⟨t', rfl⟩, q⟩
end
/-- sorted(set(xs)) of whole numbers -/
theorem sorted_setI {K : PySem.W.Frag} {w : World} {H : Hp} {l : Addr} {ns : List Int} {Q : VK} (hl : SqL K H l (ns.map V.int)) (hn : ns.length < 64)
    (q : ∀ (p : Addr) (H' : Hp) (ms : List Int), Same H H' → H p = none → H' p = some (.lst (ms.map V.int)) → ms.Pairwise (· < ·) → (∀ x, x ∈ ms ↔ x ∈ ns) → Q (.ref p) H') : rSetOfI K w [V.ref l] H (fun x H1 => rSortedSet w [x] H1 Q) := by
  refine ⟨l, ns, rfl, hl, by omega, fun a c hc ha => ⟨a, _, c, rfl, upd_same, by omega, fun ms p pw mem _ hp => ?_⟩⟩
  have sa := same_upd (o := SetO w a (fun j => decide (j ∈ ns)) c) ha
  exact q p _ ms (sa.trans (same_upd hp)) (sa.free hp) upd_same pw fun x => by rw [mem x]; exact decide_eq_true_iff
end Mine

namespace Mine
open PySem PySem.Spec PyProof.Rows L2
theorem getD_at {w : List Int} {i : Nat} (h : i < w.length) : w[i]? = some (w.getD i 0) := by rw [List.getD_eq_getElem?_getD, List.getElem?_eq_getElem h]; rfl
/-- the i-th letter -/
theorem atI_w {w : List Int} {i : Nat} {z : Int} (e : z = (i : Nat)) (h : i < w.length) : atI (w.map V.int) z = some (V.int (w.getD i 0)) := by
  subst e
  exact atI_nat (by rw [List.getElem?_map, getD_at h]; rfl)
theorem range_mapI {α : Type} (w : List Int) (f : Int → α) : (List.range w.length).map (fun i => f (w.getD i 0)) = w.map f := by
  refine List.ext_getElem (by simp) fun i h1 h2 => ?_
  have hi : i < w.length := by simpa using h2
  simp only [List.getElem_map, List.getElem_range]
  rw [List.getD_eq_getElem?_getD, List.getElem?_eq_getElem hi]; rfl
theorem range_filterI (w : List Int) (p : Int → Bool) : (List.range w.length).filterMap (fun i => if p (w.getD i 0) = true then some (w.getD i 0) else none) = w.filter p := by
  have h := congrArg (List.filterMap fun x => if p x = true then some x else none) (range_mapI w id)
  rw [List.filterMap_map] at h
  have e : (fun x => if p x = true then some x else none) = Option.guard (fun x => p x = true) := by
    funext x; unfold Option.guard; simp
  rw [show (List.filterMap ((fun x => if p x = true then some x else none) ∘ fun i => id (w.getD i 0)) (List.range w.length)) = (List.range w.length).filterMap (fun i => if p (w.getD i 0) = true then some (w.getD i 0) else none) from rfl] at h
  rw [h, List.map_id, e, List.filterMap_eq_filter]
  congr 1
  funext x; simp
theorem some_map {α β : Type} (f : α → β) (l : List α) : l.filterMap (fun i => some (f i)) = l.map f := congrFun List.filterMap_eq_map' _
section
variable {j : Nat} {tt : TT} {te : TE} {vs : List Nat} {D : Addr} {σ : L2.St} {H1 : Hp} {Q : VK}
/-- a comprehension over a range -/
theorem Lc.rng {lo : Int} {n : Nat} (kept : Nat → Option V) (hD : H1 D = none) (hn : n ≤ 100000) (hw : ∀ x : V, wipe ((wipe σ vs).set j (some x)) vs = wipe σ vs)
    (step : ∀ i H (Qk : VK) (Qn : Hp → Prop), i < n → Same H1 H → (∀ y H4, Same H H4 → kept i = some y → Qk y H4) → (∀ H3, Same H H3 → kept i = none → Qn H3) →
      tt ((wipe σ vs).set j (some (.int (lo + (i : Nat))))) H fun b H3 => if b = true then te ((wipe σ vs).set j (some (.int (lo + (i : Nat))))) H3 Qk else Qn H3)
    (fin : ∀ H', Same H1 H' → H' D = some (.lst ((List.range n).filterMap kept)) → Q (.ref D) H') : Lc (Itr lo n) (gName j) tt te vs D σ H1 Q :=
  Lc.gen walk_range (fun i => V.int (lo + (i : Nat))) kept (fun _ _ _ _ _ ⟨a, b⟩ => ⟨a, b⟩) (fun _ _ => trivial) hD hn (fun i => hw _) step fin
/-- .. over a tuple of whole numbers -/
theorem Lc.ints {K : PySem.W.Frag} {a : Addr} {w : List Int} (kept : Nat → Option V) (hs : SqT K H1 a (w.map V.int)) (hD : H1 D = none) (hn : w.length ≤ 100000) (hw : ∀ x : V, wipe ((wipe σ vs).set j (some x)) vs = wipe σ vs)
    (step : ∀ i H (Qk : VK) (Qn : Hp → Prop), i < w.length → Same H1 H → (∀ y H4, Same H H4 → kept i = some y → Qk y H4) → (∀ H3, Same H H3 → kept i = none → Qn H3) →
      tt ((wipe σ vs).set j (some (.int (w.getD i 0)))) H fun b H3 => if b = true then te ((wipe σ vs).set j (some (.int (w.getD i 0)))) H3 Qk else Qn H3)
    (fin : ∀ H', Same H1 H' → H' D = some (.lst ((List.range w.length).filterMap kept)) → Q (.ref D) H') : Lc (Itt K a) (gName j) tt te vs D σ H1 Q := by
  have wk := walk_tup (K := K) (a := a) (xs := w.map V.int)
  rw [List.length_map] at wk
  refine Lc.gen wk (fun i => V.int (w.getD i 0)) kept ?_ (fun H' s => ?_) hD hn (fun i => hw _) step fin
  · rintro i H x H' hi ⟨rfl, hx⟩
    rw [List.getElem?_map, getD_at hi] at hx
    exact ⟨rfl, (Option.some.inj hx).symm⟩
  · rcases hs with (h | ⟨o, h⟩) | h
    · exact .inl (.inl (s _ _ h))
    · exact .inl (.inr ⟨o, s _ _ h⟩)
    · exact .inr h
/-- a comprehension that makes tuples of whole numbers: f i at turn i -/
theorem Lc.rows {J : It} {n : Nat} {G : Hp → Prop} {Y : Nat → Hp → V → Hp → Prop} (wk : Walk J n G Y) (it : Nat → V) (f : Nat → List Int)
    (hY : ∀ i H x H', i < n → Y i H x H' → H' = H ∧ x = it i) (hG : ∀ H', Same H1 H' → G H') (hD : H1 D = none) (hn : n ≤ 100000) (hw : ∀ x : V, wipe ((wipe σ vs).set j (some x)) vs = wipe σ vs)
    (step : ∀ i H (Qk : VK), i < n → Same H1 H → (∀ p H4, Same H H4 → H4 p = some (.tup ((f i).map V.int)) → Qk (.ref p) H4) → te ((wipe σ vs).set j (some (it i))) H Qk)
    (fin : ∀ H', Same H1 H' → Rows H' D ((List.range n).map f) → Q (.ref D) H') : Lc J (gName j) tYes te vs D σ H1 Q := by
  refine Lc.by wk (fun i H => Same H1 H ∧ Rows H D ((List.range i).map f)) ⟨same_upd hD, [], upd_same, rfl, fun k hk => by cases hk⟩ (fun i H _ p => hG H p.1) ?_ fun H p => fin H p.1 p.2
  rintro i x H H' hi ⟨sm, ks, h1, h2, h3⟩ hy
  obtain ⟨rfl, rfl⟩ := hY i H x H' hi hy
  refine ⟨hw _, ?_⟩
  unfold tYes
  dsimp only
  rw [if_pos rfl]
  refine step i H' _ hi sm fun p H4 s4 hp => ⟨_, s4 _ _ h1, ?_, fun b o e => ?_, ks ++ [(p, f i)], ?_, ?_, fun k hk => ?_⟩
  · have : ks.length = i := by have := congrArg List.length h2; simpa using this
    rw [List.length_map, this, sizeLine_eq]; omega
  · rw [upd_ne (ne_of_none e hD)]; exact s4 _ _ (sm _ _ e)
  · rw [upd_same, List.map_append]; rfl
  · rw [List.map_append, h2, List.range_succ, List.map_append]; rfl
  · have kt : H4 k.1 = some (.tup (k.2.map V.int)) := by
      rcases List.mem_append.mp hk with m | m
      · exact s4 _ _ (h3 k m)
      · have : k = (p, f i) := by simpa using m
        rw [this]; exact hp
    have ne : k.1 ≠ D := fun e => by rw [e, s4 _ _ h1] at kt; cases kt
    rw [upd_ne ne]; exact kt
/-- Lc.rows over a range -/
theorem Lc.rowsR {lo : Int} {n : Nat} (f : Nat → List Int) (hD : H1 D = none) (hn : n ≤ 100000) (hw : ∀ x : V, wipe ((wipe σ vs).set j (some x)) vs = wipe σ vs)
    (step : ∀ i H (Qk : VK), i < n → Same H1 H → (∀ p H4, Same H H4 → H4 p = some (.tup ((f i).map V.int)) → Qk (.ref p) H4) → te ((wipe σ vs).set j (some (.int (lo + (i : Nat))))) H Qk)
    (fin : ∀ H', Same H1 H' → Rows H' D ((List.range n).map f) → Q (.ref D) H') : Lc (Itr lo n) (gName j) tYes te vs D σ H1 Q :=
  Lc.rows walk_range (fun i => V.int (lo + (i : Nat))) f (fun _ _ _ _ _ ⟨a, b⟩ => ⟨a, b⟩) (fun _ _ => trivial) hD hn hw step fin
/-- [f(x) for x in rows], f a new tuple -/
theorem Lc.rowsMap {K : PySem.W.Frag} {a : Addr} {ws : List (List Int)} (f : List Int → List Int) (hr : Rows H1 a ws) (hD : H1 D = none) (hn : ws.length ≤ 100000) (hw : ∀ x : V, wipe ((wipe σ vs).set j (some x)) vs = wipe σ vs)
    (step : ∀ x q H (Qk : VK), x ∈ ws → Same H1 H → H q = some (.tup (x.map V.int)) → (∀ p H4, Same H H4 → H4 p = some (.tup ((f x).map V.int)) → Qk (.ref p) H4) → te ((wipe σ vs).set j (some (.ref q))) H Qk)
    (fin : ∀ H', Same H1 H' → Rows H' D (ws.map f) → Q (.ref D) H') : Lc (Itl K a) (gName j) tYes te vs D σ H1 Q := by
  obtain ⟨ks, h1, rfl, h3⟩ := hr
  have wk := walk_list (K := K) (a := a) (xs := ks.map fun k => V.ref k.1)
  rw [List.length_map] at wk hn
  refine Lc.rows wk (fun i => (ks.map fun k => V.ref k.1).getD i .non) (fun i => f ((ks.map (·.2)).getD i [])) ?_ (fun H' s => .inl (.inl (s _ _ h1))) hD hn hw ?_ fun H' s r => fin H' s ?_
  · rintro i H x H' hi ⟨rfl, hx⟩
    exact ⟨rfl, by rw [List.getD_eq_getElem?_getD, hx]; rfl⟩
  · intro i H Qk hi sm q
    have e1 : (ks.map fun k => V.ref k.1).getD i .non = .ref ks[i].1 := by rw [List.getD_eq_getElem?_getD, List.getElem?_map, List.getElem?_eq_getElem hi]; rfl
    have e2 : (ks.map (·.2)).getD i [] = ks[i].2 := by rw [List.getD_eq_getElem?_getD, List.getElem?_map, List.getElem?_eq_getElem hi]; rfl
    rw [e1]
    rw [e2] at q
    exact step ks[i].2 ks[i].1 H Qk (List.mem_map.mpr ⟨_, List.getElem_mem hi, rfl⟩) sm (sm _ _ (h3 _ (List.getElem_mem hi))) q
  · have e : (List.range ks.length).map (fun i => f ((ks.map (·.2)).getD i [])) = (ks.map (·.2)).map f := by
      refine List.ext_getElem (by simp) fun i g1 g2 => ?_
      have hi : i < ks.length := by simpa using g1
      simp only [List.getElem_map, List.getElem_range]
      rw [List.getD_eq_getElem?_getD, List.getElem?_map, List.getElem?_eq_getElem hi]; rfl
    rw [← e]; exact r
/-- [f(x) for x in rows], f a flat value -/
theorem Lc.rowsFlat {K : PySem.W.Frag} {a : Addr} {ws : List (List Int)} (f : List Int → V) (hr : Rows H1 a ws) (hD : H1 D = none) (hn : ws.length ≤ 100000) (hw : ∀ x : V, wipe ((wipe σ vs).set j (some x)) vs = wipe σ vs)
    (step : ∀ x q H (Qk : VK), x ∈ ws → Same H1 H → H q = some (.tup (x.map V.int)) → (∀ H4, Same H H4 → Qk (f x) H4) → te ((wipe σ vs).set j (some (.ref q))) H Qk)
    (fin : ∀ H', Same H1 H' → H' D = some (.lst (ws.map f)) → Q (.ref D) H') : Lc (Itl K a) (gName j) tYes te vs D σ H1 Q := by
  obtain ⟨ks, h1, rfl, h3⟩ := hr
  have wk := walk_list (K := K) (a := a) (xs := ks.map fun k => V.ref k.1)
  rw [List.length_map] at wk hn
  refine Lc.gen wk (fun i => (ks.map fun k => V.ref k.1).getD i .non) (fun i => some (f ((ks.map (·.2)).getD i []))) ?_ (fun H' s => .inl (.inl (s _ _ h1))) hD hn (fun i => hw _) ?_ fun H' s r => fin H' s ?_
  · rintro i H x H' hi ⟨rfl, hx⟩
    exact ⟨rfl, by rw [List.getD_eq_getElem?_getD, hx]; rfl⟩
  · intro i H Qk Qn hi sm q _
    have e1 : (ks.map fun k => V.ref k.1).getD i .non = .ref ks[i].1 := by rw [List.getD_eq_getElem?_getD, List.getElem?_map, List.getElem?_eq_getElem hi]; rfl
    have e2 : (ks.map (·.2)).getD i [] = ks[i].2 := by rw [List.getD_eq_getElem?_getD, List.getElem?_map, List.getElem?_eq_getElem hi]; rfl
    rw [e1]
    rw [e2] at q
    show if true = true then te _ H Qk else Qn H
    rw [if_pos rfl]
    exact step ks[i].2 ks[i].1 H Qk (List.mem_map.mpr ⟨_, List.getElem_mem hi, rfl⟩) sm (sm _ _ (h3 _ (List.getElem_mem hi))) fun H4 s4 => q _ H4 s4 rfl
  · rw [r, some_map]
    have e : (List.range ks.length).map (fun i => f ((ks.map (·.2)).getD i [])) = (ks.map (·.2)).map f := by
      refine List.ext_getElem (by simp) fun i g1 g2 => ?_
      have hi : i < ks.length := by simpa using g1
      simp only [List.getElem_map, List.getElem_range]
      rw [List.getD_eq_getElem?_getD, List.getElem?_map, List.getElem?_eq_getElem hi]; rfl
    rw [e]
end
/-! ### rules that name the fragment, within a comprehension -/
theorem CallR.k {X : Cx} {f : Value} {r : PySem.W.Frag → List V → Hp → VK → Prop} (h : CallR X f (r X.K)) {K : PySem.W.Frag} (e : X.K = K) : CallR X f (r K) := e ▸ h
theorem OpR.k {X : Cx} {f : Value → Value → Sem Value} {r : PySem.W.Frag → R2} (h : OpR X f (r X.K)) {K : PySem.W.Frag} (e : X.K = K) : OpR X f (r K) := e ▸ h
theorem SlR.k {X : Cx} {r : PySem.W.Frag → V → Option Int → Option Int → Hp → VK → Prop} (h : SlR X (r X.K)) {K : PySem.W.Frag} (e : X.K = K) : SlR X (r K) := e ▸ h
/-! ### pieces of tuples, tuples put together -/
theorem cut_take (xs : List V) (k : Nat) : cutV xs none (some (k : Int)) = xs.take k := by
  unfold cutV
  rw [HT.sIx_none, HT.sIx_nat, List.drop_zero, Nat.sub_zero]
  rcases Nat.le_total k xs.length with h | h
  · rw [Nat.min_eq_left h]
  · rw [Nat.min_eq_right h, List.take_of_length_le (Nat.le_refl _), List.take_of_length_le h]
theorem cut_drop (xs : List V) (k : Nat) : cutV xs (some (k : Int)) none = xs.drop k := by
  unfold cutV
  rw [HT.sIx_none, HT.sIx_nat]
  rcases Nat.le_total k xs.length with h | h
  · rw [Nat.min_eq_left h, List.take_of_length_le (by rw [List.length_drop]; omega)]
  · rw [Nat.min_eq_right h, List.drop_eq_nil_of_le (Nat.le_refl _), List.drop_eq_nil_of_le h, List.take_nil]
theorem cut_all {xs : List V} {lo hi : Option Int} (h1 : HT.sIx xs.length 0 lo = 0) (h2 : HT.sIx xs.length xs.length hi = xs.length) : cutV xs lo hi = xs := by
  unfold cutV
  rw [h1, h2, List.drop_zero, Nat.sub_zero, List.take_of_length_le (Nat.le_refl _)]
section
variable {K : PySem.W.Frag} {H : Hp} {Q : VK} {a b : Addr} {xs ys : List V}
theorem sl_use {lo hi : Option Int} (h : H a = some (.tup xs)) (q : ∀ p H', Same H H' → H' p = some (.tup (cutV xs lo hi)) → Q (.ref p) H') : rSlA K (.ref a) lo hi H Q :=
  ⟨a, xs, rfl, .inl (.inl h), fun ⟨h1, h2⟩ => q a H (Same.refl H) (by rw [cut_all h1 h2]; exact h), fun _ p hp => q p _ (same_upd hp) upd_same⟩
theorem sl_take {z : Int} {k : Nat} (e : z = k) (h : H a = some (.tup xs)) (q : ∀ p H', Same H H' → H' p = some (.tup (xs.take k)) → Q (.ref p) H') : rSlA K (.ref a) none (some z) H Q := by
  subst e
  exact sl_use h fun p H' s e => q p H' s (by rw [← cut_take]; exact e)
theorem sl_drop {z : Int} {k : Nat} (e : z = k) (h : H a = some (.tup xs)) (q : ∀ p H', Same H H' → H' p = some (.tup (xs.drop k)) → Q (.ref p) H') : rSlA K (.ref a) (some z) none H Q := by
  subst e
  exact sl_use h fun p H' s e => q p H' s (by rw [← cut_drop]; exact e)
theorem cat_use (h : H a = some (.tup xs)) (h2 : H b = some (.tup ys)) (hl : xs.length + ys.length ≤ 100000) (q : ∀ p H', Same H H' → H' p = some (.tup (xs ++ ys)) → Q (.ref p) H') : rCatA K (.ref a) (.ref b) H Q :=
  ⟨a, b, xs, ys, rfl, rfl, .inl (.inl h), .inl (.inl h2), by rw [sizeLine_eq]; omega, fun e => q b H (Same.refl H) (by rw [e]; exact h2), fun _ e => q a H (Same.refl H) (by rw [e, List.append_nil]; exact h), fun _ _ p hp => q p _ (same_upd hp) upd_same⟩
end
/-! ### equality of words, of rows of words -/
def pdw (w : List Int) : List PyData := w.map PyData.int
def pdr (ws : List (List Int)) : List PyData := ws.map fun w => PyData.tuple (pdw w)
theorem eqvAll_ints : ∀ x y : List Int, PyData.eqvAll (pdw x) (pdw y) = decide (x = y)
  | [], [] => by simp [pdw, PyData.eqvAll]
  | [], y :: ys => by simp [pdw, PyData.eqvAll]
  | x :: xs, [] => by simp [pdw, PyData.eqvAll]
  | x :: xs, y :: ys => by
    have ih := eqvAll_ints xs ys
    unfold pdw at ih ⊢
    rw [List.map_cons, List.map_cons, PyData.eqvAll, ih, PyData.eqv]
    by_cases e : x = y <;> by_cases f : xs = ys <;> simp [e, f]
theorem eqvAll_rows : ∀ x y : List (List Int), PyData.eqvAll (pdr x) (pdr y) = decide (x = y)
  | [], [] => by simp [pdr, PyData.eqvAll]
  | [], y :: ys => by simp [pdr, PyData.eqvAll]
  | x :: xs, [] => by simp [pdr, PyData.eqvAll]
  | x :: xs, y :: ys => by
    have ih := eqvAll_rows xs ys
    unfold pdr at ih ⊢
    rw [List.map_cons, List.map_cons, PyData.eqvAll, ih, PyData.eqv, eqvAll_ints]
    by_cases e : x = y <;> by_cases f : xs = ys <;> simp [e, f]
theorem lay_ints : ∀ w : List Int, PyData.canLayAll0 (pdw w) = true ∧ PyData.depthAll (pdw w) = 0
  | [] => ⟨by simp [pdw, PyData.canLayAll0], by simp [pdw, PyData.depthAll]⟩
  | x :: w => by
    obtain ⟨a, b⟩ := lay_ints w
    unfold pdw at a b ⊢
    rw [List.map_cons, PyData.canLayAll0, PyData.depthAll, a, b, PyData.canLay0, PyData.depth]
    exact ⟨rfl, rfl⟩
theorem lay_rows : ∀ ws : List (List Int), PyData.canLayAll0 (pdr ws) = true ∧ PyData.depthAll (pdr ws) ≤ 1
  | [] => ⟨by simp [pdr, PyData.canLayAll0], by simp [pdr, PyData.depthAll]⟩
  | x :: ws => by
    obtain ⟨a, b⟩ := lay_rows ws
    obtain ⟨c, d⟩ := lay_ints x
    unfold pdr at a b ⊢
    rw [List.map_cons, PyData.canLayAll0, PyData.depthAll, a, PyData.canLay0, PyData.depth, c, d]
    exact ⟨rfl, Nat.max_le.mpr ⟨by omega, b⟩⟩
theorem shaped_tup (w : List Int) : SeqAt.shaped (.tuple (pdw w)) = true := by
  obtain ⟨a, b⟩ := lay_ints w
  unfold SeqAt.shaped
  rw [PyData.canLay0, PyData.depth, a, b]; rfl
theorem shaped_lst (w : List Int) : SeqAt.shaped (.list (pdw w)) = true := by
  obtain ⟨a, b⟩ := lay_ints w
  unfold SeqAt.shaped
  rw [PyData.canLay0, PyData.depth, a, b]; rfl
theorem shaped_rows (ws : List (List Int)) : SeqAt.shaped (.list (pdr ws)) = true := by
  obtain ⟨a, b⟩ := lay_rows ws
  unfold SeqAt.shaped
  rw [PyData.canLay0, PyData.depth, a, Bool.true_and]
  exact decide_eq_true (by omega)
section
variable {K : PySem.W.Frag} {H : Hp} {Q : VK} {a b : Addr} {x y : List Int} {xs ys : List (List Int)}
theorem dp_ints : ∀ w : List Int, DpAll K H (w.map V.int) (pdw w)
  | [] => .nil
  | x :: w => .cons (.int x) (dp_ints w)
theorem dp_tup (h : H a = some (.tup (x.map V.int))) : Dp K H (.ref a) (.tuple (pdw x)) := .tup (.inl (.inl h)) (dp_ints x)
theorem dp_lst (h : H a = some (.lst (x.map V.int))) : Dp K H (.ref a) (.list (pdw x)) := .lst (.inl (.inl h)) (dp_ints x)
theorem dp_rows (h : Rows H a xs) : Dp K H (.ref a) (.list (pdr xs)) := by
  obtain ⟨ks, h1, rfl, h3⟩ := h
  refine .lst (.inl (.inl h1)) ?_
  clear h1
  induction ks with
  | nil => exact .nil
  | cons k ks ih => exact .cons (dp_tup (h3 k List.mem_cons_self)) (ih fun q hq => h3 q (List.mem_cons_of_mem _ hq))
theorem eqT (ha : H a = some (.tup (x.map V.int))) (hb : H b = some (.tup (y.map V.int))) (q : Q (.bl (decide (x = y))) H) : rEqD K (.ref a) (.ref b) H Q :=
  ⟨_, _, dp_tup ha, dp_tup hb, shaped_tup _, shaped_tup _, by rw [PyData.eqv, eqvAll_ints]; exact q⟩
theorem neT (ha : H a = some (.tup (x.map V.int))) (hb : H b = some (.tup (y.map V.int))) (q : Q (.bl (!decide (x = y))) H) : rNeD K (.ref a) (.ref b) H Q :=
  ⟨_, _, dp_tup ha, dp_tup hb, shaped_tup _, shaped_tup _, by rw [PyData.eqv, eqvAll_ints]; exact q⟩
theorem eqL (ha : H a = some (.lst (x.map V.int))) (hb : H b = some (.lst (y.map V.int))) (q : Q (.bl (decide (x = y))) H) : rEqD K (.ref a) (.ref b) H Q :=
  ⟨_, _, dp_lst ha, dp_lst hb, shaped_lst _, shaped_lst _, by rw [PyData.eqv, eqvAll_ints]; exact q⟩
theorem neL (ha : H a = some (.lst (x.map V.int))) (hb : H b = some (.lst (y.map V.int))) (q : Q (.bl (!decide (x = y))) H) : rNeD K (.ref a) (.ref b) H Q :=
  ⟨_, _, dp_lst ha, dp_lst hb, shaped_lst _, shaped_lst _, by rw [PyData.eqv, eqvAll_ints]; exact q⟩
theorem eqR (ha : Rows H a xs) (hb : Rows H b ys) (q : Q (.bl (decide (xs = ys))) H) : rEqD K (.ref a) (.ref b) H Q :=
  ⟨_, _, dp_rows ha, dp_rows hb, shaped_rows _, shaped_rows _, by rw [PyData.eqv, eqvAll_rows]; exact q⟩
theorem neR (ha : Rows H a xs) (hb : Rows H b ys) (q : Q (.bl (!decide (xs = ys))) H) : rNeD K (.ref a) (.ref b) H Q :=
  ⟨_, _, dp_rows ha, dp_rows hb, shaped_rows _, shaped_rows _, by rw [PyData.eqv, eqvAll_rows]; exact q⟩
theorem any_rows : ∀ ws : List (List Int), ((pdr ws).any fun z => PyData.eqv z (.tuple (pdw x))) = decide (x ∈ ws)
  | [] => by simp [pdr]
  | w :: ws => by
    have ih := any_rows ws
    unfold pdr at ih ⊢
    rw [List.map_cons, List.any_cons, ih, PyData.eqv, eqvAll_ints]
    by_cases e : w = x
    · simp [e]
    · have : ¬ x = w := fun z => e z.symm
      simp [e, this]
theorem inR (ha : H a = some (.tup (x.map V.int))) (hb : Rows H b ys) (q : Q (.bl (decide (x ∈ ys))) H) : rInD K (.ref a) (.ref b) H Q :=
  ⟨_, _, dp_tup ha, dp_rows hb, shaped_tup _, shaped_rows _, by rw [any_rows]; exact q⟩
theorem notInR (ha : H a = some (.tup (x.map V.int))) (hb : Rows H b ys) (q : Q (.bl (!decide (x ∈ ys))) H) : rNotInD K (.ref a) (.ref b) H Q :=
  ⟨_, _, dp_tup ha, dp_rows hb, shaped_tup _, shaped_rows _, by rw [any_rows]; exact q⟩
end
end Mine

namespace Mine
open PySem PySem.Spec PyProof.Rows L2
/-! ### several except clauses, with names -/
abbrev Suit := Addr → Value → Option Addr → TS
def endsAs (D : Ends) : Option Nat → Ends
  | none => D
  | some i => { nx := fun σ H => D.nx (σ.set i none) H, rt := D.rt, bk := fun σ H => D.bk (σ.set i none) H, ct := fun σ H => D.ct (σ.set i none) H }
def bindAs (σ : L2.St) (a : Addr) : Option Nat → L2.St
  | none => σ
  | some i => σ.set i (some (.ref a))
/-- what the clauses wish of an exception of the body -/
def wNamed (K : PySem.W.Frag) (Wout : WX) (D : Ends) : List (Value × Option Nat × Suit) → WX
  | [] => Wout
  | (c, o, ts) :: r => fun cls d σ H => ∃ b, PySem.W.exmOne K cls c = some b ∧ (b = true → ∀ a, H a = none → ts a cls d (endsAs D o) (bindAs σ a o) H) ∧ (b = false → wNamed K Wout D r cls d σ H)
def SuitOk (X : Cx) (body : List Stmt) (ts : Suit) : Prop := ∀ (a : Addr) (oe : Obj) (cls : Value) (d : Option Addr) (pn : List (Addr × Obj)), Zc cls d oe → (∃ vs, oe.data = .fields vs) → PSs (X.suite a ((a, oe) :: pn)) body (ts a cls d)
inductive HdsN (X : Cx) : List ExceptHandler → List (Value × Option Nat × Suit) → Prop
  | nil : HdsN X [] []
  | bare {x : Str} {c : Value} {ts : Suit} {b₀ : Stmt} {suite : List Stmt} {np pos' : Pos} {hds : List ExceptHandler} {l : List (Value × Option Nat × Suit)} (hc : Names X x c) (hsu : SuitOk X (b₀ :: suite) ts) (r : HdsN X hds l) :
      HdsN X (.ExceptHandler (some (.Name x np)) none (b₀ :: suite) pos' :: hds) ((c, none, ts) :: l)
  | named {x n : Str} {i : Nat} {c : Value} {ts : Suit} {b₀ : Stmt} {suite : List Stmt} {np pos' : Pos} {hds : List ExceptHandler} {l : List (Value × Option Nat × Suit)} (hi : X.N[i]? = some n) (hln : X.env.kindOf n = some .local)
      (hc : Names X x c) (hsu : SuitOk X (b₀ :: suite) ts) (r : HdsN X hds l) : HdsN X (.ExceptHandler (some (.Name x np)) (some n) (b₀ :: suite) pos' :: hds) ((c, some i, ts) :: l)
section
variable {X : Cx} {pins : List (Addr × Obj)}
/-- an exception in hand, at the clauses -/
structure Hand (X : Cx) (pins : List (Addr × Obj)) (σ : L2.St) (H : Hp) (a : Addr) (cls : Value) (d : Option Addr) (s : Shared) : Prop where
  ob : ∃ oe vs, s.heap.get? a = some oe ∧ Zc cls d oe ∧ oe.data = .fields vs
  inv : Inv X pins σ H s
  nH : H a = none
  nL : a ≠ X.env.locals
  nF : a ∉ X.fs
theorem Hand.suite {σ : L2.St} {H : Hp} {a : Addr} {cls : Value} {d : Option Addr} {s : Shared} (h : Hand X pins σ H a cls d s) : ∃ oe, Zc cls d oe ∧ (∃ vs, oe.data = .fields vs) ∧ Inv (X.suite a ((a, oe) :: (X.pn ++ pins))) [] σ H s := by
  obtain ⟨oe, vs, he, hz, hd⟩ := h.ob
  exact ⟨oe, hz, ⟨vs, hd⟩, h.inv.suite he hd h.nH h.nL h.nF⟩
theorem Hand.asks {σ : L2.St} {H : Hp} {a : Addr} {cls c : Value} {d : Option Addr} {s : Shared} {b : Bool} (h : Hand X pins σ H a cls d s) (e : PySem.W.exmOne X.K cls c = some b) : PySem.W.Looks (model X.prog X.w) s.heap (excMatches (.ref a) c) b := by
  obtain ⟨oe, vs, he, hz, hd⟩ := h.ob
  exact PySem.W.exm_one (M := model X.prog X.w) h.inv.kIn (fun A Q E s k q => wpAny_typeOf_ref (k _ _ he) (by rw [hz.1]; exact q)) e
theorem Hand.names {σ : L2.St} {H : Hp} {a : Addr} {cls c : Value} {d : Option Addr} {s : Shared} {x : Str} {np : Pos} (h : Hand X pins σ H a cls d s) (hc : Names X x c) {Q : Value → Shared → Prop} {E : Value → Shared → Prop} (q : Q c s) :
    wpAny (model X.prog X.w) (X.A.mark (some (.ref a))) (eval (.Name x np) X.env) Q E s := by
  obtain ⟨oe, hz, hd, S⟩ := h.suite
  obtain ⟨hg, hdbg, hm | ⟨hm, hv, hnn⟩⟩ := hc
  · exact ld_glob (X := X.suite a ((a, oe) :: (X.pn ++ pins))) S hg hm q hdbg
  · exact ld_blt (X := X.suite a ((a, oe) :: (X.pn ++ pins))) S hg hm hv q hnn hdbg
/-- the exception on its way, landed in this frame -/
structure Flown (X : Cx) (pins : List (Addr × Obj)) (σ : L2.St) (H : Hp) (a : Addr) (cls : Value) (d : Option Addr) (B : Heap) (sI s : Shared) : Prop where
  inv : Inv X pins σ H sI
  nb : ∀ b o, sI.heap.get? b = some o → b ∉ frs X.stack → B.get? b = some o
  up : sI.heap.UpToSlots s.heap
  fl : HandSPX.FlyingZ B (X.env :: X.outer) a (Zc cls d) s.heap
  na : H a = none
  os : s.os = sI.os
  ag : AllBare s.gens
section
variable {σ : L2.St} {H : Hp} {a : Addr} {cls : Value} {d : Option Addr} {B : Heap} {sI s : Shared}
theorem Flown.move {h : Heap} (f : Flown X pins σ H a cls d B sI s) (fl : HandSPX.FlyingZ B (X.env :: X.outer) a (Zc cls d) h) (up : s.heap.UpToSlots h) : Flown X pins σ H a cls d B sI { s with heap := h } :=
  ⟨f.inv, f.nb, f.up.trans up, fl, f.na, f.os, f.ag⟩
theorem Flown.hand (hf : X.env.frame = some X.env.locals) (f : Flown X pins σ H a cls d B sI s) : Hand X pins σ H a cls d s := by
  obtain ⟨oe, vs, he, hz, hd⟩ := f.fl.there
  have out : a ∉ frs (X.env :: X.outer) := fun hm => by
    obtain ⟨_, o', e', hnf⟩ := f.fl.2.2.1.mem hm
    rw [he] at e'
    cases e'
    exact hnf _ hd
  refine ⟨⟨oe, vs, he, hz, hd⟩, f.inv.landed f.nb f.fl.1 f.up f.os f.ag, f.na, fun z => out (List.mem_filterMap.mpr ⟨X.env, List.mem_cons_self, by rw [hf, z]⟩), fun hm => ?_⟩
  obtain ⟨e, he, q⟩ := List.mem_filterMap.mp hm
  exact out (List.mem_filterMap.mpr ⟨e, List.mem_cons_of_mem _ he, q⟩)
/-- the clauses, one after the other -/
theorem clauses_run {Wout : WX} {D : Ends} (ok : X.Ok) (hs : X.stack = X.env :: X.outer) (hf : X.env.frame = some X.env.locals) (hN : X.N.Nodup) (tk : Takes X Wout) :
    ∀ {hds : List ExceptHandler} {l : List (Value × Option Nat × Suit)}, HdsN X hds l → Flown X pins σ H a cls d B sI s → wNamed X.K Wout D l cls d σ H → wpAny (model X.prog X.w) X.A (handleBy (.ref a) X.env hds) (SP X pins D) X.xe s := by
  intro hds l hk
  induction hk with
  | nil =>
    intro f w
    refine wpAny_handleBy_nil ?_
    have fl := f.fl
    obtain ⟨_, _, _, oe, vs, T, oT, ts', he, hz, hd, h1, hr⟩ := id fl
    unfold PySem.passOn
    refine wpAny_bind (wpAny_field he hd h1 ?_)
    rw [if_neg (show ¬ ((Value.ref T == Value.none) = true) from by simp)]
    have out : wpAny (model X.prog X.w) X.A (setFlight (.ref a) X.env.frame) (fun _ s4 => wpAny (model X.prog X.w) X.A (throw (.ref a) : Sem Flow) (SP X pins D) X.xe s4) X.xe s := by
      rw [hf]
      exact HandSPX.setFlight_upZ fl fun h4 hh4 up4 => wpAny_throw (tk _ _ ⟨a, B, sI, pins, σ, H, cls, d, rfl, f.inv, f.nb, f.up.trans up4, .inr (.inr (by rw [hs]; exact hh4)), f.na, f.os, f.ag, w⟩)
    first
      | exact wpAny_bind (wpAny_pure (wpAny_bind out))
      | exact wpAny_bind out
  | bare hc hsu r ih =>
    intro f ⟨b, e, yes, no⟩
    have hand := f.hand hf
    refine wpAny_handleBy_cons (codeAny_handlers_test (hand.names hc ((hand.asks e).here ?_))) (by intro q; cases q)
    cases b with
    | false => exact ih f (no rfl)
    | true =>
      refine codeAny_handlers_suite (HandSPX.lands_againZ f.fl fun h4 fl4 up4 => ?_)
      obtain ⟨oe, hz, hd, S⟩ := ((f.move fl4 up4).hand hf).suite
      refine wpAny_mono ((hsu a oe cls d (X.pn ++ pins) hz hd).run [] _ _ H _ S (yes rfl a f.na)) (fun g s6 hsp => ?_) (fun _ _ z => False.elim z)
      cases g with
      | next => obtain ⟨σ6, H6, S6, q6⟩ := hsp; exact ⟨_, _, S6.unsuite ok, q6⟩
      | brk => obtain ⟨σ6, H6, S6, q6⟩ := hsp; exact ⟨_, _, S6.unsuite ok, q6⟩
      | cont => obtain ⟨σ6, H6, S6, q6⟩ := hsp; exact ⟨_, _, S6.unsuite ok, q6⟩
      | ret u => obtain ⟨v6, σ6, H6, S6, r6, q6⟩ := hsp; exact ⟨_, _, _, S6.unsuite ok, r6, q6⟩
  | named hi hln hc hsu r ih =>
    intro f ⟨b, e, yes, no⟩
    have hand := f.hand hf
    refine wpAny_handleBy_cons (codeAny_handlers_test (hand.names hc ((hand.asks e).here ?_))) (by intro q; cases q)
    cases b with
    | false => exact ih f (no rfl)
    | true =>
      refine codeAny_handlers_suite_as (HandSPX.lands_againZ f.fl fun h4 fl4 up4 => ?_)
      obtain ⟨oe, hz, hd, S⟩ := ((f.move fl4 up4).hand hf).suite
      refine store_ok (X := X.suite a ((a, oe) :: (X.pn ++ pins))) (v := .ref a) S hN hi (.inl hln) rfl (fun s5 S5 => ?_) (.inr hln)
      refine wpAny_mono ((hsu a oe cls d (X.pn ++ pins) hz hd).run [] s5 _ H _ S5 (yes rfl a f.na)) (fun g s6 hsp => ?_) (fun _ _ z => False.elim z)
      cases g with
      | next => obtain ⟨σ6, H6, S6, q6⟩ := hsp; exact gone_ok (S6.unsuite ok) hN hi hln fun s7 J7 => ⟨_, _, J7, q6⟩
      | brk => obtain ⟨σ6, H6, S6, q6⟩ := hsp; exact gone_ok (S6.unsuite ok) hN hi hln fun s7 J7 => ⟨_, _, J7, q6⟩
      | cont => obtain ⟨σ6, H6, S6, q6⟩ := hsp; exact gone_ok (S6.unsuite ok) hN hi hln fun s7 J7 => ⟨_, _, J7, q6⟩
      | ret u => obtain ⟨v6, σ6, H6, S6, r6, q6⟩ := hsp; exact gone_ok (S6.unsuite ok) hN hi hln fun s7 J7 => ⟨_, _, _, J7, r6, q6⟩
end
/-- try with any number of clauses, each with a name or without -/
theorem ps_try_named {body : List Stmt} {h₀ : ExceptHandler} {hds : List ExceptHandler} {l : List (Value × Option Nat × Suit)} {pos : Pos} {tb : WX → TS} {Wout : WX} (hs : X.stack = X.env :: X.outer) (hf : X.env.frame = some X.env.locals) (hN : X.N.Nodup) (tk : Takes X Wout)
    (hb : ∀ (W : WX) (pn : List (Addr × Obj)) (xe : Value → Shared → Prop), Takes (X.tr pn xe) W → PassesOwn (model X.prog X.w) X.A X.env xe → PSs (X.tr pn xe) body (tb W)) (hh : HdsN X (h₀ :: hds) l) :
    PS X (.Try body (h₀ :: hds) [] [] pos) (fun D σ H => tb (wNamed X.K Wout D l) D σ H) := by
  refine ⟨fun pins s σ H D I h => ?_⟩
  have ok := I.ok
  have hfr : X.A.frames = some (X.env :: X.outer) := by rw [ok.frames, hs]
  refine wpAny_Try_except (wpAny_mono ((hb (wNamed X.K Wout D l) (X.pn ++ pins) (fun e s₁ => wpAny (model X.prog X.w) X.A (noteFrame e X.env) (fun _ s₂ => wpAny (model X.prog X.w) X.A (setFlight e none) (fun _ s₃ =>
    wpAny (model X.prog X.w) X.A (handleBy e X.env (h₀ :: hds)) (SP X pins D) X.xe s₃) X.xe s₂) X.xe s₁) (fun u s' xx => ?_) PassesOwn.looking).run [] s σ H D (I.toTry _) h) (fun f s1 hsp => ?_) (fun e s1 he => he))
  · obtain ⟨a, B, sI, pins', σ', H', cls, d, rfl, J, nb, up, sky, na, os, ag, w⟩ := xx
    rw [show (X.tr (X.pn ++ pins) _).stack = X.env :: X.outer from hs] at sky
    exact Sky.land Zc.steady hfr hf sky fun h3 fl3 up3 => clauses_run ok hs hf hN tk hh ⟨J.ofTry ok, nb, up.trans up3, fl3, na, os, ag⟩ w
  · cases f with
    | next => obtain ⟨σ', H', J, q⟩ := hsp; exact wpAny_execs_nil ⟨σ', H', J.ofTry ok, q⟩
    | brk => obtain ⟨σ', H', J, q⟩ := hsp; exact ⟨σ', H', J.ofTry ok, q⟩
    | cont => obtain ⟨σ', H', J, q⟩ := hsp; exact ⟨σ', H', J.ofTry ok, q⟩
    | ret u => obtain ⟨v, σ', H', J, r, q⟩ := hsp; exact ⟨v, σ', H', J.ofTry ok, r, q⟩
end
end Mine

namespace PySem.W
open PySem PySem.Spec PySem.Calls PyProof.Rows
section
variable {prog : Program} {w : World} {A : Around} {E : Value → Shared → Prop} {s : Shared} {K : Frag} {x D : Addr} {ox : Obj} {od : Option Obj}
/-- where a class gives a name by data, the instance's own dict is never looked at -/
theorem mine_find_data {C : Addr} {name : Str} {a g : Value} (hc : (clsIn K C).isSome = true) (ha : findIn K (.ref C) name = some (some a)) (hg : specialIn K a "__get__" = some (some g)) (ht : takesIn K a = some true) : findObj K C od name = some (.bind g a) := by
  obtain ⟨cd, hc⟩ := Option.isSome_iff_exists.mp hc
  simp [findObj, hc, ha, hg, ht]
/-- e.__class__, e an exception of an own class, with a dict of its own or without -/
theorem mine_exc_class {Q : Option Value → Shared → Prop} (T : L2.ExcC K D) (X : K.In s.heap) (I : InstAt s.heap x ox D od) (h : Q (some (.ref D)) { s with toks := s.toks + 1 }) : wpAny (model prog w) A (getAttr? (.ref x) "__class__") Q E s := by
  obtain ⟨cd, hcd, _⟩ := any_some T.hd
  obtain ⟨hp, g, d, t, os⟩ := s
  have ofX := I.type (M := model prog w)
  have asked := looks_findIn (M := model prog w) X T.hg
  have behind := looks_findIn (M := model prog w) X T.hk
  have found := looks_find (M := model prog w) X I (mine_find_data (od := od) (name := "__class__") (by rw [hcd]; rfl) T.ha T.hn T.ht)
  have under : Looks (model prog w) hp (isInstance (.ref x) (.type "BaseException")) true := ofX.andThen (looks_subIn X T.hs)
  have other : (Value.builtin "BaseException.__getattribute__" == Value.builtin "object.__getattribute__") = false := by decide +kernel
  unfold getAttr? getAttrBy? getAttrBy
  refine wpAny_bind (wpAny_mkText (wpAny_bind (wpAny_attempt (wpAny_holding (wpAny_bind (ofX.at (wpAny_bind (asked.at ?_))))))))
  show wpAny _ _ (if (onTheHeap (Value.ref D) && Value.builtin "BaseException.__getattribute__" == Value.builtin "object.__getattribute__") = true then _ else _) _ _ _
  rw [other, Bool.and_false, if_neg Bool.false_ne_true]
  unfold getAttrByItsOwn hookBefore
  refine wpAny_bind ?_
  rw [if_pos (show onTheHeap (Value.ref D) = true from rfl)]
  refine behind.at (wpAny_bind (wpAny_attempt (wpAny_holding ?_)))
  unfold callGetattribute
  rw [show (false && onTheHeap (Value.builtin "BaseException.__getattribute__")) = false from rfl, if_neg Bool.false_ne_true]
  unfold boundAndCalled
  rw [PySem.F.excAttr_ValueError.ga.bind (.ref x)]
  refine wpAny_bind (wpAny_pure ?_)
  show wpAny _ _ (call (.builtin "BaseException.__getattribute__") [.ref x, .str "__class__" t]) _ _ _
  refine wpAny_call (codeAny_call_builtin PySem.F.excAttr_ValueError.ga.plain PySem.F.entry_bexc_ga (@check_slot (model prog w) _ _ ⟨hp, g, d, t + 1, os⟩ "BaseException.__getattribute__" "BaseException" "__getattribute__" (.ref x) [.str "__class__" t] [] _
    (by decide +kernel) (by decide +kernel) under (PySem.F.args_bexc_ga (.ref x) (.str "__class__" t)) ?_))
  unfold Builtin.«object.__getattribute__»
  refine wpAny_bind (wpAny_of_eq (a := ((Value.ref x : Value), [Value.str "__class__" t])) (by first | rfl | (simp only [slotArgs]; rfl)) ?_)
  refine wpAny_bind (wpAny_pure (wpAny_bind (ofX.at (wpAny_bind (found.at ?_)))))
  show wpAny _ _ (holding [Value.builtin "object.__class__"] (call (.builtin "getset_descriptor.__get__") [.builtin "object.__class__", .ref x, .ref D]) >>= ret) _ _ _
  refine wpAny_bind (wpAny_holding (wpAny_call (class_get (s := ⟨hp, g, d, t + 1, os⟩) (ox := ox) (od := od) X I T.hm (wpAny_pure ?_))))
  show wpAny _ _ (handedOut (.ref D)) _ _ _
  rw [handedOut_of (v := .ref D) rfl]
  first
    | exact wpAny_pure (wpAny_pure h)
    | exact wpAny_pure h
    | exact wpAny_pure (wpAny_bind (wpAny_pure (wpAny_pure h)))
theorem mine_class_head (hdct : hasDictIn K D = true) {h : Heap} (X : K.In h) : ∃ o, h.get? D = some o ∧ ∃ cd, o.data = .cls cd := by
  obtain ⟨cd, hc, _⟩ := any_some hdct
  unfold clsIn at hc
  split at hc
  · rename_i ho
    exact ⟨_, X _ _ ho, _, rfl⟩
  · cases hc
theorem mine_kitx_exc (T : L2.ExcC K D) : KitX K (.ref x) (.ref D) (fun h => InstAt h x ox D od) where
  ty := fun _ _ _ I => I.type
  it := fun _ h X _ => by
    obtain ⟨o, ho, cd, hd⟩ := mine_class_head T.hd X
    obtain ⟨c, dd, dt, sl⟩ := o
    dsimp only at hd
    subst hd
    intro A' Q' E' s' k q
    unfold isType loadHead
    exact wpAny_bind (wpAny_loadPart (k _ _ ho) (wpAny_pure q))
  ne := fun h tp dd its n sl X htp => by
    obtain ⟨o, ho, cd, hd⟩ := mine_class_head T.hd X
    refine Bool.eq_false_iff.mpr fun q => ?_
    have e : D = tp := Value.ref.inj (beq_iff_eq.mp q)
    rw [e, htp] at ho
    cases ho
    cases hd
  ca := fun X I k => mine_exc_class T X I k
end
end PySem.W
namespace Mine
open PySem PySem.Spec PyProof.Rows L2
/-- isinstance(e, c), e the exception in hand -/
def rIsX (K : PySem.W.Frag) (a : Addr) (cls : Value) (d : Option Addr) : List V → Hp → VK → Prop := fun xs H Q => ∃ (D : Addr) (c : V) (cv : Value) (b : Bool), xs = [.ref a, c] ∧ cls = .ref D ∧ ExcC K D ∧ (∀ u, RelV c u → u = cv) ∧ PySem.W.kitOne K (.ref D) cv = some b ∧
  (∀ dd, d = some dd → ∃ fs, H dd = some (.xd fs)) ∧ Q (.bl b) H
theorem call_isX {X : Cx} {K : PySem.W.Frag} (eK : X.K = K) {a : Addr} {cls : Value} {d : Option Addr} {oe : Obj} {pn : List (Addr × Obj)} (hz : Zc cls d oe) (hf : ∃ vs, oe.data = .fields vs) : CallR (X.suite a ((a, oe) :: pn)) (.builtin "isinstance") (rIsX K a cls d) := by
  subst eK
  intro pins s σ H xs us Q I r h
  obtain ⟨D, c, cv, b, rfl, rfl, T, hcv, e, hdd, q⟩ := h
  cases r with
  | cons rx rr =>
    cases rr with
    | cons rt rr =>
      cases rr
      cases rx
      obtain rfl := hcv _ rt
      obtain ⟨hget, _⟩ := I.pin (a, oe) (List.mem_append.mpr (.inl List.mem_cons_self))
      obtain ⟨vs, hv⟩ := hf
      obtain ⟨oc, od, oda, osl⟩ := oe
      obtain ⟨h1, h2⟩ := hz
      dsimp only at h1 h2 hv
      subst h1 h2 hv
      have J : ∃ o, PySem.W.InstAt s.heap a ⟨.ref D, od, .fields vs, osl⟩ D o := by
        cases od with
        | none => exact ⟨none, hget, rfl, rfl, trivial⟩
        | some dd =>
          obtain ⟨fs, ha⟩ := hdd dd rfl
          obtain ⟨mA, hns, hr⟩ := (show ObjOk X.prog X.w H s.heap dd (.xd fs) from I.hok dd _ ha)
          obtain ⟨o, ho, _⟩ := lookIn_ns hns
          exact ⟨some o, hget, rfl, rfl, ho⟩
      obtain ⟨o, J⟩ := J
      exact PySem.W.kia_one (PySem.W.mine_kitx_exc T) I.kIn J e (fun z => nomatch z) fun tk => ⟨.bl b, H, I.kept (t' := tk) fun _ _ z => z, rfl, q⟩
/-- the facts of ExcC by one Bool -/
def isxB (K : PySem.W.Frag) (D : Addr) : Bool := He.eqO (PySem.W.findIn K (.ref D) "__getattribute__") (some (some (.builtin "BaseException.__getattribute__"))) && (He.eqO (PySem.W.findIn K (.ref D) "__getattr__") (some none) && (decide (PySem.W.subIn K (.ref D) (.type "BaseException") = some true) &&
  (PySem.W.hasDictIn K D && (He.eqO (PySem.W.findIn K (.ref D) "__class__") (some (some (.builtin "object.__class__"))) && (He.eqO (PySem.W.specialIn K (.builtin "object.__class__") "__get__") (some (some (.builtin "getset_descriptor.__get__"))) &&
  (decide (PySem.W.takesIn K (.builtin "object.__class__") = some true) && decide (PySem.W.mroIn K D (.type "object") = some true)))))))
theorem isxB_ok {K : PySem.W.Frag} {D : Addr} (h : isxB K D = true) : ExcC K D := by
  obtain ⟨a, h⟩ := He.ba h
  obtain ⟨b, h⟩ := He.ba h
  obtain ⟨c, h⟩ := He.ba h
  obtain ⟨d, h⟩ := He.ba h
  obtain ⟨e, h⟩ := He.ba h
  obtain ⟨f, h⟩ := He.ba h
  obtain ⟨g, i⟩ := He.ba h
  exact ⟨He.eqO_ok a, He.eqO_ok b, of_decide_eq_true c, d, He.eqO_ok e, He.eqO_ok f, of_decide_eq_true g, of_decide_eq_true i⟩
end Mine

namespace L2
open PySem PySem.Spec PyProof.Rows
/-- t * 1 is t itself -/
theorem mine_mul_one (l : Addr) (items : Array Value) (n : Nat) (dd : Option Addr) (sl : Array (Option Value)) (u : Tok) :
    Meets (Builtin.«tuple.__mul__» ⟨[.ref l, .int 1 u], []⟩) (fun _ R s => s.heap.get? l = some { cls := .type "tuple", dict := dd, data := .seq items n, slots := sl } ∧ R (.ok (.ret (Value.ref l))) s) :=
  .of_wp fun prog w A R s h => by
    obtain ⟨hp, g, d, tk, os⟩ := s
    obtain ⟨hl, h⟩ := h
    have f1 := AutoSeq1.idx_int
    wp_walk using wpAny_loadPart' hl
    exact ⟨_, rfl, h⟩
end L2
namespace Mine
open PySem PySem.Spec PyProof.Rows L2
section
variable {X : Cx}
/-- t * k, k from 1 on -/
def rRepA : R2 := fun x y H Q => ∃ l k xs, x = .ref l ∧ y = .int k ∧ H l = some (.tup xs) ∧ xs ≠ [] ∧ 1 ≤ k ∧ k ≤ 1000 ∧ xs.length ≤ 1000 ∧ ∀ p H', Same H H' → H' p = some (.tup (List.replicate k.toNat xs).flatten) → Q (.ref p) H'
theorem op_repA : OpR X (binaryOp .Mult) rRepA := by
  intro pins s σ H x y v u Q I rx ry h
  obtain ⟨l, k, xs, rfl, rfl, hl, hne, h1, h2, hz, q⟩ := h
  by_cases e : 2 ≤ k
  · exact op_repT pins s σ H _ _ v u Q I rx ry ⟨l, k, xs, rfl, rfl, .inl (.inl hl), hne, e, h2, hz, fun p hp => q p _ (same_upd hp) upd_same⟩
  · obtain rfl : k = 1 := by omega
    cases rx
    obtain ⟨t, rfl⟩ := ry
    obtain ⟨its, r, ⟨⟨cls, dd, data, sl⟩, ho, hc, n, hd⟩, hs⟩ := I.tuple (.inl (.inl hl) : SqT X.K H l xs)
    simp only at hc hd
    subst hc hd
    refine wpAny_binaryOp_repeat_ref (T := "tuple") (U := "int") (by decide) ⟨_, ho, rfl⟩ (fun s' => typeIs_int s' 1 t) noFill_tuple_mul F.fills_int_mul F.slot_int_rmul repeat_tuple F.slot_int_index.lookup
      (call_meets F.slot_int_rmul (typeIs_int s 1 t) F.entry_int_rmul (F.args_int_rmul_2 _ _) (int_rmul_tuple 1 t l its.toArray n dd sl)
        ⟨ho, rfl, ⟨_, ho, rfl⟩, call_meets F.slot_tuple_mul ⟨_, ho, rfl⟩ F.entry_tuple_mul (F.args_tuple_mul_2 _ _) (mine_mul_one l its.toArray n dd sl t) ⟨ho, ?_⟩⟩)
    exact ⟨.ref l, H, I, rfl, q l H (Same.refl H) (by rw [hl]; simp)⟩
/-- xs[i], for xs[i] += .. -/
theorem get_list : PGet X rIxH := by
  intro pins s σ H o i ov iv Q I ro ri h
  obtain ⟨p, k, xs, z, rfl, rfl, hp, he, q⟩ := h
  cases ro
  obtain ⟨t, rfl⟩ := ri
  obtain ⟨its, r, pl, hz⟩ := I.list (.inl (.inl hp) : SqL X.K H p xs)
  obtain ⟨j, h1, h2, h3, h4, h5⟩ := atI_get he
  obtain ⟨w, ew, rw'⟩ := r.get h2
  have hl := r.length
  have hn := line63
  have fin : EP X pins σ Q w s := ⟨z, H, I, rw', q⟩
  by_cases h0 : 0 ≤ k
  · have hj : k.toNat = j := Option.some.inj ((seqIndex_of h0 h5).symm.trans h1)
    exact wpAny_getItem_list pl.isList h0 (by omega) (by rw [hj]; simpa using ew) fin
  · have hj : (k + (its.toArray.size : Int)).toNat = j := by
      rw [List.size_toArray, ← hl]
      exact Option.some.inj ((seqIndex_neg (by omega) h4).symm.trans h1)
    exact wpAny_getItem_list_neg pl.isList (by omega) (by rw [List.size_toArray] <;> omega) (by omega) (by rw [hj]; simpa using ew) fin
/-- sum of a list or a tuple of whole numbers -/
def rSumA (K : PySem.W.Frag) : List V → Hp → VK → Prop := fun vs H Q => ∃ (a : Addr) (ns : List Int), vs = [V.ref a] ∧ (SqL K H a (ns.map V.int) ∨ SqT K H a (ns.map V.int)) ∧ Q (.int ns.sum) H
theorem cr_sumA (hc : X.calm = true) : CallR X (.builtin "sum") (rSumA X.K) := by
  intro pins s σ H vs us Q I r ⟨a, ns, e, h, q⟩
  rcases h with h | h
  · exact cr_sum hc pins s σ H vs us Q I r ⟨a, ns, e, h, q⟩
  · exact cr_sumT hc pins s σ H vs us Q I r ⟨a, ns, e, h, q⟩
end
/-! ### zip of a tuple and a list -/
def ItzM (K : PySem.W.Frag) (a b : Addr) : It :=
  ⟨fun i H => ∃ (xs ys : List V) (x y : V), SqT K H a xs ∧ SqL K H b ys ∧ xs[i]? = some x ∧ ys[i]? = some y,
    fun i H v H' => ∃ T x y, v = .ref T ∧ H T = none ∧ H' = upd H T (.tup [x, y]) ∧ (∀ xs, SqT K H a xs → xs[i]? = some x) ∧ ∀ ys, SqL K H b ys → ys[i]? = some y,
    fun i H => ∃ xs ys : List V, SqT K H a xs ∧ SqL K H b ys ∧ (xs.length = i ∨ ys.length = i) ∧ i ≤ xs.length ∧ i ≤ ys.length⟩
/-- the cells of such a walk at turn i -/
def ZipSt (z TI TO i1 i2 a b : Addr) (i : Nat) (h : Heap) : Prop := IsZip h z TI TO .none ∧ IsTupOf2 h TI (.ref i1) (.ref i2) ∧ (∃ x y, IsTupOf2 h TO x y) ∧ h.IsTupleIter i1 a i ∧ h.IsListIter i2 b i
theorem turn_zipM {P : Program} {w : World} {K : PySem.W.Frag} {elts : List Expr} {kk : Nat} {tpos : Pos} {a b z TI TO i1 i2 : Addr} (S : ZipSep2 z TI TO i1 i2 [i1, a] [i2, b]) (ha : a ≠ i1) (hb : b ≠ i2) :
    Turn P w K (.Tuple elts kk tpos) (ItzM K a b) [z, TI, TO, i1, i2] z (ZipSt z TI TO i1 i2 a b) where
  mem := by simp
  obj := fun i h st c hc => by
    obtain ⟨hz, hTI, ⟨x, y, hTO⟩, ⟨o1, e1, _, d1⟩, ⟨o2, e2, _, d2⟩⟩ := st
    have e' : c = z ∨ c = TI ∨ c = TO ∨ c = i1 ∨ c = i2 := by simpa using hc
    rcases e' with rfl | rfl | rfl | rfl | rfl
    · exact ⟨_, hz, fun v q => nomatch q⟩
    · exact ⟨_, hTI, fun v q => nomatch q⟩
    · exact ⟨_, hTO, fun v q => nomatch q⟩
    · exact ⟨o1, e1, fun v q => by rw [d1] at q; cases q⟩
    · exact ⟨o2, e2, fun v q => by rw [d2] at q; cases q⟩
  keep := fun i h h' st k => by
    obtain ⟨hz, hTI, ⟨x, y, hTO⟩, h1, h2⟩ := st
    exact ⟨k z (by simp) _ hz, k TI (by simp) _ hTI, ⟨x, y, k TO (by simp) _ hTO⟩, h1.at fun o q => k i1 (by simp) o q, h2.at fun o q => k i2 (by simp) o q⟩
  item := by
    intro X hP hw hK hc i pins s σ H E I hf st hg
    subst hP hw hK
    obtain ⟨hz, hTI, ⟨x0, y0, hTO⟩, h1, h2⟩ := st
    obtain ⟨xs, ys, x, y, hqx, hqy, hx, hy⟩ := hg
    obtain ⟨its, rv, p1, _⟩ := I.tuple hqx
    obtain ⟨its2, rv2, p2, _⟩ := I.list hqy
    obtain ⟨u, hu, ru⟩ := rv.get hx
    obtain ⟨u2, hu2, ru2⟩ := rv2.get hy
    have below : z < s.heap.objs.size ∧ TI < s.heap.objs.size ∧ TO < s.heap.objs.size ∧ i1 < s.heap.objs.size ∧ i2 < s.heap.objs.size :=
      ⟨Heap.lt_size hz, Heap.lt_size hTI, Heap.lt_size hTO, by obtain ⟨_, e, _⟩ := h1; exact Heap.lt_size e, by obtain ⟨_, e, _⟩ := h2; exact Heap.lt_size e⟩
    have l1 : i < its.toArray.size := by obtain ⟨q, _⟩ := List.getElem?_eq_some_iff.mp hu; simpa using q
    have l2 : i < its2.toArray.size := by obtain ⟨q, _⟩ := List.getElem?_eq_some_iff.mp hu2; simpa using q
    refine wpAny_pyNext_zipD2_item (i := i) S (Draws.tuple (A := X.A.in1) (I.ok.hd hc) i1 a ha its.toArray) (Draws.list (A := X.A.in1) (I.ok.hd hc) i2 b hb its2.toArray) hz hTI hTO ⟨h1, p1⟩ ⟨h2, p2.isList⟩ l1 l2 fun x1 x2 h' tk e1 e2 z' TO' s1' s2' hT hsz hk => ?_
    obtain rfl : x1 = u := Option.some.inj (e1.symm.trans (by simpa using hu))
    obtain rfl : x2 = u2 := Option.some.inj (e2.symm.trans (by simpa using hu2))
    refine ⟨_, rfl, wpAny_letOwnedTupleGo_zip (s := { s with heap := h', toks := tk }) z' fun h'' z'' sb => ?_⟩
    have hT2 : h''.get? s.heap.objs.size = some { cls := .type "tuple", data := .seq #[x1, x2] } := (sb.2 _ (Nat.ne_of_gt below.1)).trans hT
    have I1 : Inv X pins σ (upd H s.heap.objs.size (.tup [x, y])) { s with heap := h'', toks := tk } :=
      I.turnedNew (ch := [z, TI, TO, i1, i2]) (fun c o hb q => (sb.2 c (fun q' => hb (by simp [q']))).trans (hk c o (fun q' => hb (by simp [q'])) (fun q' => hb (by simp [q'])) (fun q' => hb (by simp [q'])) (fun q' => hb (by simp [q'])) q)) hf (Nat.le_refl _)
        ⟨by show 2 ≤ sizeLine; decide, [x1, x2], .cons ru (.cons ru2 .nil), ⟨_, hT2, rfl, _, rfl⟩⟩
    have TI' : IsTupOf2 h' TI (.ref i1) (.ref i2) := hk _ _ S.TIz S.TITO S.TIi1 S.TIi2 hTI
    refine ⟨.ref s.heap.objs.size, _, I1, rfl, ⟨_, x, y, rfl, I.hok.fresh (Nat.le_refl _), rfl, fun l hl => by rw [I.tuple_inj hl hqx]; exact hx, fun l hl => by rw [I.list_inj hl hqy]; exact hy⟩, ⟨z'', (sb.2 _ S.TIz).trans TI', ⟨x1, x2, (sb.2 _ S.TOz).trans TO'⟩, s1'.1.at fun o q => (sb.2 _ (Ne.symm S.zi1)).trans q, s2'.1.at fun o q => (sb.2 _ (Ne.symm S.zi2)).trans q⟩, fun c hcm => ?_⟩
    have lt : c < s.heap.objs.size := by
      have e' : c = z ∨ c = TI ∨ c = TO ∨ c = i1 ∨ c = i2 := by simpa using hcm
      rcases e' with rfl | rfl | rfl | rfl | rfl
      · exact below.1
      · exact below.2.1
      · exact below.2.2.1
      · exact below.2.2.2.1
      · exact below.2.2.2.2
    rw [upd_ne (Nat.ne_of_lt lt)]
    exact (hf c hcm).1
  done := by
    intro X hP hw hK hc i pins s σ H E I hf st hg
    subst hP hw hK
    obtain ⟨hz, hTI, ⟨x0, y0, hTO⟩, h1, h2⟩ := st
    obtain ⟨xs, ys, hqx, hqy, hend, le1, le2⟩ := hg
    obtain ⟨its, rv, p1, _⟩ := I.tuple hqx
    obtain ⟨its2, rv2, p2, _⟩ := I.list hqy
    have l1 := rv.length
    have l2 := rv2.length
    exact wpAny_pyNext_zipD2_end (i := i) S (Draws.tuple (A := X.A.in1) (I.ok.hd hc) i1 a ha its.toArray) (Draws.list (A := X.A.in1) (I.ok.hd hc) i2 b hb its2.toArray) hz hTI hTO ⟨h1, p1⟩ ⟨h2, p2.isList⟩
      (by rw [List.size_toArray]; omega) (by rw [List.size_toArray]; omega) (by rw [List.size_toArray, List.size_toArray]; omega) fun h' tk hk => ⟨rfl, I.turnedL (t' := tk) (ch := [z, TI, TO, i1, i2]) (fun c o hb q =>
        hk c o (fun q' => hb (by simp [q'])) (fun q' => hb (by simp [q'])) (fun q' => hb (by simp [q'])) (fun q' => hb (by simp [q'])) q) hf⟩
  self := fun A i s Q E st h => wpAny_pyIter_zip st.1 h
/-- zip(a, b), a a tuple, b a list or a tuple -/
def iZipS (K : PySem.W.Frag) (ta : TA) : TI := fun σ H R => ta σ H fun vs H1 => ∃ a b xs ys, vs = [.ref a, .ref b] ∧ SqT K H1 a xs ∧ ((SqL K H1 b ys ∧ R (ItzM K a b) H1) ∨ (SqT K H1 b ys ∧ R (RZ.ItzT K a b) H1))
theorem pi_zipS {X : Cx} {e e2 : Expr} {ta : TA} {p pos tpos : Pos} {elts : List Expr} {kk : Nat} (hg : Gl X "zip") (hm : X.mg "zip" = none) (ha : PA X [e, e2] ta)
    (hs : starEach [e, e2] X.env = (false, eval e X.env) :: starEach [e2] X.env := by rfl) (hpl : (backTo pos (starEach [e2] X.env)).any (·.1) = false := by rfl) :
    PI X (.Tuple elts kk tpos) (.Call (.Name "zip" p) [e, e2] [] pos) (iZipS X.K ta) := by
  refine ⟨fun pins s σ H R I h => ?_⟩
  refine Call_ (ld_blt I hg hm PyProof.Rows.boot_zip (PyProof.Rows.callWith_type1 (thn (ha.run pos pins s σ H _ I h) fun us s1 ⟨vs, H1, I1, r1, q1⟩ => ?_) hs hpl))
  obtain ⟨a, b, xs, ys, rfl, hqx, q1⟩ := q1
  cases r1 with
  | cons r rr =>
    cases rr with
    | cons r' rr =>
      cases rr
      cases r
      cases r'
      have fresh : ∀ c, c ∈ [s1.heap.objs.size + 4, s1.heap.objs.size + 2, s1.heap.objs.size + 3, s1.heap.objs.size, s1.heap.objs.size + 1] → FpOk X pins H1 c := fun c hc => by
        have le : s1.heap.objs.size ≤ c := by
          have e' : c = s1.heap.objs.size + 4 ∨ c = s1.heap.objs.size + 2 ∨ c = s1.heap.objs.size + 3 ∨ c = s1.heap.objs.size ∨ c = s1.heap.objs.size + 1 := by simpa using hc
          have : ∀ k : Nat, s1.heap.objs.size ≤ s1.heap.objs.size + k := fun k => Nat.le_add_right _ _
          rcases e' with rfl | rfl | rfl | rfl | rfl
          · exact this 4
          · exact this 2
          · exact this 3
          · exact Nat.le_refl _
          · exact this 1
        exact I1.fpOk le (I1.hok.fresh le)
      obtain ⟨its, rv, p1, _⟩ := I1.tuple hqx
      have lta : a < s1.heap.objs.size := by obtain ⟨o, ho, _⟩ := id p1; exact Heap.lt_size ho
      rcases q1 with ⟨hqy, q⟩ | ⟨hqy, q⟩
      · obtain ⟨its2, rv2, p2, _⟩ := I1.list hqy
        have ltb := p2.lt
        refine zip_begins2 (begins_tuple a its.toArray) (begins_list b its2.toArray) p1 p2.isList fun h' hz hTI hTO g1 g2 hsz hk => wpAny_pyIter_zip hz ?_
        have S := zip_sep2 (N := s1.heap.objs.size) (fp1 := [a]) (fp2 := [b]) (fun c hc => by rw [List.mem_singleton.mp hc]; exact lta) (fun c hc => by rw [List.mem_singleton.mp hc]; exact ltb)
        exact ⟨s1.heap.objs.size + 4, [s1.heap.objs.size + 4, s1.heap.objs.size + 2, s1.heap.objs.size + 3, s1.heap.objs.size, s1.heap.objs.size + 1], _, _, H1, rfl, I1.kept (t' := s1.toks) hk,
          turn_zipM S (Nat.ne_of_lt lta) (Nat.ne_of_lt (Nat.lt_succ_of_lt ltb)), ⟨hz, hTI, ⟨_, _, hTO⟩, ⟨_, g1, rfl, rfl⟩, ⟨_, g2, rfl, rfl⟩⟩, fresh, q⟩
      · obtain ⟨its2, rv2, p2, _⟩ := I1.tuple hqy
        have ltb : b < s1.heap.objs.size := by obtain ⟨o, ho, _⟩ := id p2; exact Heap.lt_size ho
        refine zip_begins2 (begins_tuple a its.toArray) (begins_tuple b its2.toArray) p1 p2 fun h' hz hTI hTO g1 g2 hsz hk => wpAny_pyIter_zip hz ?_
        exact ⟨s1.heap.objs.size + 4, [s1.heap.objs.size + 4, s1.heap.objs.size + 2, s1.heap.objs.size + 3, s1.heap.objs.size, s1.heap.objs.size + 1], _, _, H1, rfl, I1.kept (t' := s1.toks) hk,
          RZ.turn_zipT (PySem.W.ktu_apart s1.heap.objs.size a b lta ltb), ⟨hz, hTI, ⟨_, _, hTO⟩, ⟨_, g1, rfl, rfl⟩, ⟨_, g2, rfl, rfl⟩⟩, fresh, q⟩
theorem walk_zipM {K : PySem.W.Frag} {a b : Addr} {xs ys : List V} (hl : xs.length = ys.length) : Walk (ItzM K a b) xs.length (fun H => SqT K H a xs ∧ SqL K H b ys) (YPair (fun i => xs[i]?) (fun i => ys[i]?)) := by
  refine ⟨fun i _ hi q => ?_, fun _ q => ⟨xs, ys, q.1, q.2, .inl rfl, Nat.le_refl _, by omega⟩, fun i H v H' _ q y => ?_⟩
  · exact ⟨xs, ys, xs[i], ys[i], q.1, q.2, by simp [hi], by simp [hl ▸ hi]⟩
  · obtain ⟨T, x, z, h1, h2, h3, h4, h5⟩ := y
    exact ⟨T, x, z, h1, h2, h3, h4 xs q.1, h5 ys q.2⟩
theorem walk_zipTT {K : PySem.W.Frag} {a b : Addr} {xs ys : List V} (hl : xs.length = ys.length) : Walk (RZ.ItzT K a b) xs.length (fun H => SqT K H a xs ∧ SqT K H b ys) (YPair (fun i => xs[i]?) (fun i => ys[i]?)) := by
  refine ⟨fun i _ hi q => ?_, fun _ q => ⟨xs, ys, q.1, q.2, .inl (Nat.le_refl _)⟩, fun i H v H' _ q y => ?_⟩
  · exact ⟨xs, ys, xs[i], ys[i], q.1, q.2, by simp [hi], by simp [hl ▸ hi]⟩
  · obtain ⟨T, x, z, h1, h2, h3, h4, h5⟩ := y
    exact ⟨T, x, z, h1, h2, h3, h4 xs q.1, h5 ys q.2⟩
theorem pg_tupK {X : Cx} {es : List Expr} {k : Nat} {t : TGs} {n : Nat} {K : PySem.W.Frag} {pos : Pos} (eK : X.K = K) (hc : X.calm = true) (h : PGs X es t)
    (hn : (assignEach es X.env).length = n := by rfl) (hst : (assignEach es X.env).findIdx? (·.1) = none := by rfl) : PG X (.Tuple es k pos) (gTup K n t) := eK ▸ pg_tup hc h hn hst
/-! ### x[i], x[lo:hi], list(x) of a list or a tuple -/
section
variable {X : Cx}
def rIxA : R2 := fun x y H Q => ∃ p i xs v, x = .ref p ∧ y = .int i ∧ (H p = some (.lst xs) ∨ H p = some (.tup xs)) ∧ atI xs i = some v ∧ Q v H
theorem ix_A : IxR X rIxA := by
  intro e1 e2 pn st sg Hh x y u v Qq J rx ry ⟨p, i, xs, z, a, b, h, at_, q⟩
  rcases h with h | h
  · exact ix_H e1 e2 pn st sg Hh x y u v Qq J rx ry ⟨p, i, xs, z, a, b, h, at_, q⟩
  · exact ix_TH e1 e2 pn st sg Hh x y u v Qq J rx ry ⟨p, i, xs, z, a, b, h, at_, q⟩
def rSlS (K : PySem.W.Frag) : V → Option Int → Option Int → Hp → VK → Prop := fun x lo hi H Q => ∃ a xs, x = .ref a ∧ ((H a = some (.lst xs) ∧ ∀ p H', Same H H' → H' p = some (.lst (cutV xs lo hi)) → Q (.ref p) H') ∨ (H a = some (.tup xs) ∧ ∀ p H', Same H H' → H' p = some (.tup (cutV xs lo hi)) → Q (.ref p) H'))
theorem sl_A : SlR X (rSlS X.K) := by
  intro pins s σ H x v vl vu lo hi sl Q I rx hs pl pu ⟨a, xs, e, h⟩
  rcases h with ⟨h, q⟩ | ⟨h, q⟩
  · exact sl_list pins s σ H x v vl vu lo hi sl Q I rx hs pl pu ⟨a, xs, e, .inl (.inl h), fun p hp => q p _ (same_upd hp) upd_same⟩
  · subst e
    exact sl_tupA pins s σ H _ v vl vu lo hi sl Q I rx hs pl pu (sl_use h q)
theorem call_listA : CallR X (.type "list") (fun xs H Q => ∃ p ys, xs = [.ref p] ∧ (H p = some (.lst ys) ∨ H p = some (.tup ys)) ∧ ∀ l, H l = none → Q (.ref l) (upd H l (.lst ys))) :=
  CallR.weak call_list_of fun _ _ _ ⟨p, ys, e1, e2, q⟩ => ⟨p, ys, e1, e2.elim (fun e => .inl (.inl (.inl e))) (fun e => .inr (.inl (.inl e))), q⟩
end
/-- a comprehension over enumerate of a tuple of whole numbers, by two names -/
theorem Lc.enumI {j1 j2 : Nat} {tt : TT} {te : TE} {vs : List Nat} {D : Addr} {σ : L2.St} {H1 : Hp} {Q : VK} {K : PySem.W.Frag} {a : Addr} {w : List Int} (kept : Nat → Option V) (hs : H1 a = some (.tup (w.map V.int))) (hD : H1 D = none) (hn : w.length ≤ 100000)
    (hw : ∀ x y : V, wipe (((wipe σ vs).set j1 (some x)).set j2 (some y)) vs = wipe σ vs)
    (step : ∀ i H (Qk : VK) (Qn : Hp → Prop), i < w.length → Same H1 H → (∀ y H4, Same H H4 → kept i = some y → Qk y H4) → (∀ H3, Same H H3 → kept i = none → Qn H3) →
      tt (((wipe σ vs).set j1 (some (.int (i : Nat)))).set j2 (some (.int (w.getD i 0)))) H fun b H3 => if b = true then te (((wipe σ vs).set j1 (some (.int (i : Nat)))).set j2 (some (.int (w.getD i 0)))) H3 Qk else Qn H3)
    (fin : ∀ H', Same H1 H' → H' D = some (.lst ((List.range w.length).filterMap kept)) → Q (.ref D) H') : Lc (IteT K a) (gTup K 2 (gCons (gName j1) (gCons (gName j2) gNil))) tt te vs D σ H1 Q := by
  have wk := walk_enumT (K := K) (a := a) (xs := w.map V.int)
  rw [List.length_map] at wk
  refine Lc.by wk (fun i H => Same H1 H ∧ H D = some (.lst ((List.range i).filterMap kept))) ⟨same_upd hD, upd_same⟩ (fun i H _ p => .inl (.inl (p.1 _ _ hs))) ?_ fun H p => fin H p.1 p.2
  rintro i x H H' hi ⟨sm, hd⟩ ⟨T, v, y, rfl, hT, rfl, ev, ey⟩
  dsimp only at ev ey
  cases ev
  rw [List.getElem?_map, getD_at hi] at ey
  cases ey
  have sT := same_upd (o := HO.tup [V.int (i : Nat), V.int (w.getD i 0)]) hT
  refine ⟨T, _, rfl, .inl (.inl upd_same), rfl, ?_⟩
  simp only [gCons, gNil, gName, List.cons.injEq, and_true, exists_and_left, exists_eq_left', true_and, and_assoc]
  refine ⟨hw _ _, step i _ _ _ hi (sm.trans sT) (fun y H4 s4 hk => ⟨_, s4 _ _ (sT _ _ hd), ?_, fun b o e => ?_, ?_⟩) fun H3 s3 hk => ⟨(sm.trans sT).trans s3, ?_⟩⟩
  · refine Nat.lt_of_le_of_lt (Nat.le_trans (List.length_filterMap_le _ _) (by rw [List.length_range]; exact Nat.le_trans (Nat.le_of_lt hi) hn)) (by rw [sizeLine_eq]; omega)
  · rw [upd_ne (ne_of_none e hD)]; exact s4 _ _ (sT _ _ (sm _ _ e))
  · rw [upd_same, List.range_succ, List.filterMap_append, List.filterMap_cons_some hk]; rfl
  · rw [s3 _ _ (sT _ _ hd), List.range_succ, List.filterMap_append, List.filterMap_cons_none hk]; simp
theorem ixN_back {n : Nat} (h : 0 < n) : ixN n (-1) = some (n - 1) := by
  unfold ixN
  rw [if_neg (by omega), if_pos (by omega)]
  congr 1
  omega
theorem atI_back {w : List Int} (h : 0 < w.length) : atI (w.map V.int) (-1) = some (V.int (w.getD (w.length - 1) 0)) := by
  unfold atI
  rw [List.length_map, ixN_back h, Option.bind_some, List.getElem?_map, getD_at (by omega)]
  rfl
theorem map_set {w : List Int} {i : Nat} {z : Int} : (w.map V.int).set i (V.int z) = (w.set i z).map V.int := List.map_set.symm
/-- a for over zip of a tuple and a list or a tuple (isT) of one length -/
theorem zipS_by {K : PySem.W.Frag} {a b : Addr} {xs ys : List V} {g : TG} {tb : TS} {D : Ends} {σ : L2.St} {H : Hp} (isT : Bool) (hl : xs.length = ys.length) (Pv : Nat → L2.St → Hp → Prop) (h0 : Pv 0 σ H)
    (hG : ∀ i σ' H', Pv i σ' H' → SqT K H' a xs ∧ (isT = false → SqL K H' b ys) ∧ (isT = true → SqT K H' b ys))
    (hs : ∀ i x y σ' H' T, i < xs.length → Pv i σ' H' → xs[i]? = some x → ys[i]? = some y → H' T = none → g (.ref T) σ' (upd H' T (.tup [x, y])) fun s2 H2 => tb { D with nx := Pv (i + 1), ct := Pv (i + 1), bk := D.nx } s2 H2) (hd : ∀ σ' H', Pv xs.length σ' H' → D.nx σ' H') :
    ∃ zs, (SqL K H b zs ∧ Loop (ItzM K a b) g tb D σ H) ∨ (SqT K H b zs ∧ Loop (RZ.ItzT K a b) g tb D σ H) := by
  have step : ∀ i x σ' H' H'', i < xs.length → Pv i σ' H' → YPair (fun i => xs[i]?) (fun i => ys[i]?) i H' x H'' → g x σ' H'' fun s2 H2 => tb { D with nx := Pv (i + 1), ct := Pv (i + 1), bk := D.nx } s2 H2 := by
    intro i x σ' H' H'' hi p ⟨T, v, y, e, hT, e2, ev, ey⟩
    subst e e2
    exact hs i v y σ' H' T hi p ev ey hT
  obtain ⟨_, hL, hT⟩ := hG 0 σ H h0
  refine ⟨ys, ?_⟩
  cases isT with
  | false => exact .inl ⟨hL rfl, Loop.by (walk_zipM hl) Pv h0 (fun i σ' H' _ p => ⟨(hG i σ' H' p).1, (hG i σ' H' p).2.1 rfl⟩) step hd⟩
  | true => exact .inr ⟨hT rfl, Loop.by (walk_zipTT hl) Pv h0 (fun i σ' H' _ p => ⟨(hG i σ' H' p).1, (hG i σ' H' p).2.2 rfl⟩) step hd⟩
end Mine

namespace Mine
open PySem PySem.Spec PyProof.Rows L2
/-! ### data, without the heap -/
inductive Dt where
  | non | bl (b : Bool) | int (i : Int) | str (x : Str)
  | tup (xs : List Dt) | lst (xs : List Dt)
  | dk (ks : List Key) (vs : List Dt)
  | dt (ks : List (List Key)) (vs : List Dt)
  | ins (C : Str) (ns : List Str) (vs : List Dt)
  | raw (v : V)
mutual
/-- in the heap H the value v is this data -/
inductive Den (K : PySem.W.Frag) (H : Hp) : V → Dt → Prop
  | non : Den K H .non .non
  | bl (b : Bool) : Den K H (.bl b) (.bl b)
  | int (i : Int) : Den K H (.int i) (.int i)
  | str (x : Str) : Den K H (.str x) (.str x)
  | tup {a : Addr} {xs : List V} {ds : List Dt} : H a = some (.tup xs) → DenAll K H xs ds → Den K H (.ref a) (.tup ds)
  | lst {a : Addr} {xs : List V} {ds : List Dt} : H a = some (.lst xs) → DenAll K H xs ds → Den K H (.ref a) (.lst ds)
  | dk {a : Addr} {ks : List Key} {vs : List V} {ds : List Dt} : H a = some (.dK (ks.zip vs)) → ks.length = vs.length → DenAll K H vs ds → Den K H (.ref a) (.dk ks ds)
  | dt {a : Addr} {ks : List (List Key)} {vs : List V} {ds : List Dt} : H a = some (.dT (ks.zip vs)) → ks.length = vs.length → DenAll K H vs ds → Den K H (.ref a) (.dt ks ds)
  | ins {a dx : Addr} {C : Str} {ns : List Str} {vs : List V} {ds : List Dt} : H a = some (.ins (He.ga K C) dx (ns.zip vs)) → ns.length = vs.length → DenAll K H vs ds → Den K H (.ref a) (.ins C ns ds)
  | raw (v : V) : Den K H v (.raw v)
inductive DenAll (K : PySem.W.Frag) (H : Hp) : List V → List Dt → Prop
  | nil : DenAll K H [] []
  | cons {v : V} {vs : List V} {d : Dt} {ds : List Dt} : Den K H v d → DenAll K H vs ds → DenAll K H (v :: vs) (d :: ds)
end
section
variable {K : PySem.W.Frag} {H H' : Hp}
mutual
theorem Den.mono (s : Same H H') : ∀ {v : V} {d : Dt}, Den K H v d → Den K H' v d
  | _, _, .non => .non
  | _, _, .bl b => .bl b
  | _, _, .int i => .int i
  | _, _, .str x => .str x
  | _, _, .tup h a => .tup (s _ _ h) (DenAll.mono s a)
  | _, _, .lst h a => .lst (s _ _ h) (DenAll.mono s a)
  | _, _, .dk h l a => .dk (s _ _ h) l (DenAll.mono s a)
  | _, _, .dt h l a => .dt (s _ _ h) l (DenAll.mono s a)
  | _, _, .ins h l a => .ins (s _ _ h) l (DenAll.mono s a)
  | _, _, .raw v => .raw v
theorem DenAll.mono (s : Same H H') : ∀ {vs : List V} {ds : List Dt}, DenAll K H vs ds → DenAll K H' vs ds
  | _, _, .nil => .nil
  | _, _, .cons a b => .cons (Den.mono s a) (DenAll.mono s b)
end
theorem DenAll.length : ∀ {vs : List V} {ds : List Dt}, DenAll K H vs ds → vs.length = ds.length
  | _, _, .nil => rfl
  | _, _, .cons _ b => by rw [List.length_cons, List.length_cons, b.length]
theorem DenAll.append : ∀ {vs us : List V} {ds es : List Dt}, DenAll K H vs ds → DenAll K H us es → DenAll K H (vs ++ us) (ds ++ es)
  | _, _, _, _, .nil, b => b
  | _, _, _, _, .cons a r, b => .cons a (r.append b)
theorem DenAll.snoc {vs : List V} {ds : List Dt} {v : V} {d : Dt} (a : DenAll K H vs ds) (b : Den K H v d) : DenAll K H (vs ++ [v]) (ds ++ [d]) := a.append (.cons b .nil)
theorem DenAll.get : ∀ {vs : List V} {ds : List Dt} {i : Nat} {d : Dt}, DenAll K H vs ds → ds[i]? = some d → ∃ v, vs[i]? = some v ∧ Den K H v d
  | _, _, _, _, .nil, e => by simp at e
  | _, _, 0, _, .cons a _, e => by
    simp at e; subst e
    exact ⟨_, rfl, a⟩
  | _, _, i + 1, d, .cons _ r, e => by
    obtain ⟨v, h1, h2⟩ := DenAll.get (i := i) (d := d) r (by simpa using e)
    exact ⟨v, by simpa using h1, h2⟩
theorem DenAll.getV : ∀ {vs : List V} {ds : List Dt} {i : Nat} {v : V}, DenAll K H vs ds → vs[i]? = some v → ∃ d, ds[i]? = some d ∧ Den K H v d
  | _, _, _, _, .nil, e => by simp at e
  | _, _, 0, _, .cons a _, e => by
    simp at e; subst e
    exact ⟨_, rfl, a⟩
  | _, _, i + 1, d, .cons _ r, e => by
    obtain ⟨v, h1, h2⟩ := DenAll.getV (i := i) (v := d) r (by simpa using e)
    exact ⟨v, by simpa using h1, h2⟩
theorem DenAll.set : ∀ {vs : List V} {ds : List Dt} {v : V} {d : Dt} (i : Nat), DenAll K H vs ds → Den K H v d → DenAll K H (vs.set i v) (ds.set i d)
  | _, _, _, _, _, .nil, _ => .nil
  | _, _, _, _, 0, .cons _ r, b => .cons b r
  | _, _, _, _, i + 1, .cons a r, b => .cons a (DenAll.set i r b)
theorem DenAll.take : ∀ {vs : List V} {ds : List Dt} (n : Nat), DenAll K H vs ds → DenAll K H (vs.take n) (ds.take n)
  | _, _, 0, _ => by simp; exact .nil
  | _, _, _ + 1, .nil => .nil
  | _, _, n + 1, .cons a r => .cons a (DenAll.take n r)
theorem DenAll.drop : ∀ {vs : List V} {ds : List Dt} (n : Nat), DenAll K H vs ds → DenAll K H (vs.drop n) (ds.drop n)
  | _, _, 0, r => r
  | _, _, _ + 1, .nil => .nil
  | _, _, n + 1, .cons _ r => DenAll.drop n r
theorem DenAll.dropLast : ∀ {vs : List V} {ds : List Dt}, DenAll K H vs ds → DenAll K H vs.dropLast ds.dropLast := by
  intro vs ds h
  rw [List.dropLast_eq_take, List.dropLast_eq_take, h.length]
  exact h.take _
theorem DenAll.reverse : ∀ {vs : List V} {ds : List Dt}, DenAll K H vs ds → DenAll K H vs.reverse ds.reverse
  | _, _, .nil => .nil
  | _, _, .cons a r => by
    rw [List.reverse_cons, List.reverse_cons]
    exact r.reverse.snoc a
theorem DenAll.replicate {vs : List V} {ds : List Dt} (h : DenAll K H vs ds) : ∀ n : Nat, DenAll K H (List.replicate n vs).flatten (List.replicate n ds).flatten
  | 0 => .nil
  | n + 1 => by
    rw [List.replicate_succ, List.replicate_succ, List.flatten_cons, List.flatten_cons]
    exact h.append (DenAll.replicate h n)
theorem DenAll.ints : ∀ w : List Int, DenAll K H (w.map V.int) (w.map Dt.int)
  | [] => .nil
  | x :: w => .cons (.int x) (DenAll.ints w)
end
/-- things whose value says all -/
def Dt.flat : Dt → Option V
  | .non => some .non
  | .bl b => some (.bl b)
  | .int i => some (.int i)
  | .str x => some (.str x)
  | .raw v => some v
  | _ => none
theorem Den.flat {K : PySem.W.Frag} {H : Hp} {v u : V} {d : Dt} (h : Den K H v d) (e : d.flat = some u) : v = u := by
  cases h <;> first
    | (injection e with e; try exact e)
    | cases e
theorem Den.of_flat {K : PySem.W.Frag} {H : Hp} {u : V} {d : Dt} (e : d.flat = some u) : Den K H u d := by
  cases d <;> first
    | (injection e with e; subst e; first | exact .non | exact .bl _ | exact .int _ | exact .str _ | exact .raw _)
    | cases e
/-! ### hidden things -/
open Classical in
/-- the heap without what X hides -/
noncomputable def vis (H : Hp) (X : Addr → Prop) : Hp := fun a => if X a then none else H a
theorem vis_of {H : Hp} {X : Addr → Prop} {a : Addr} {o : HO} (h : vis H X a = some o) : ¬ X a ∧ H a = some o := by
  unfold vis at h
  split at h
  · cases h
  · exact ⟨by assumption, h⟩
theorem vis_mk {H : Hp} {X : Addr → Prop} {a : Addr} {o : HO} (n : ¬ X a) (h : H a = some o) : vis H X a = some o := by
  unfold vis
  rw [if_neg n]; exact h
theorem vis_sub {H : Hp} {X : Addr → Prop} : Same (vis H X) H := fun _ _ h => (vis_of h).2
theorem vis_anti {H : Hp} {X Y : Addr → Prop} (h : ∀ a, X a → Y a) : Same (vis H Y) (vis H X) := fun _ _ e => vis_mk (fun x => (vis_of e).1 (h _ x)) (vis_of e).2
/-- the hand at h, its cells at c -/
def HandC (H : Hp) (h c : Addr) : Prop := ∃ (cells : List Int) (at_ : Nat) (big mix : Int), H h = some (.lst [.ref c, .int at_, .int big, .int mix]) ∧ H c = some (.lst (cells.map V.int)) ∧
  (∀ z ∈ cells, 0 ≤ z) ∧ at_ ≤ cells.length ∧ cells.length ≤ 63 ∧ 0 ≤ big ∧ 0 ≤ mix ∧ mix < 2147483563
abbrev Hnd := Option (Addr × Addr)
/-- all stands but the hand, which is a hand still -/
def Frm (hd : Hnd) (H H' : Hp) : Prop := (∀ a o, H a = some o → (∀ h c, hd = some (h, c) → a ≠ h) → H' a = some o) ∧ ∀ h c, hd = some (h, c) → HandC H h c → HandC H' h c
theorem HandC.same {H H' : Hp} {h c : Addr} (x : HandC H h c) (s : Same H H') : HandC H' h c := by
  obtain ⟨cells, at_, big, mix, a, b, r⟩ := x
  exact ⟨cells, at_, big, mix, s _ _ a, s _ _ b, r⟩
theorem Frm.refl {hd : Hnd} (H : Hp) : Frm hd H H := ⟨fun _ _ e _ => e, fun _ _ _ x => x⟩
theorem Frm.trans {hd : Hnd} {H H1 H2 : Hp} (a : Frm hd H H1) (b : Frm hd H1 H2) : Frm hd H H2 := ⟨fun p o e n => b.1 p o (a.1 p o e n) n, fun h c e x => b.2 h c e (a.2 h c e x)⟩
theorem Frm.same {hd : Hnd} {H H' : Hp} (s : Same H H') : Frm hd H H' := ⟨fun _ _ e _ => s _ _ e, fun _ _ _ x => x.same s⟩
theorem Frm.out {H H' : Hp} (f : Frm Option.none H H') : Same H H' := fun a o e => f.1 a o e fun _ _ z => by cases z
theorem Frm.of_none {hd : Hnd} {H H' : Hp} (f : Frm Option.none H H') : Frm hd H H' := .same f.out
theorem Frm.upd {hd : Hnd} {H : Hp} {p : Addr} {o : HO} (h : H p = Option.none) : Frm hd H (upd H p o) := .same (same_upd h)
/-! ### where one stands -/
/-- fixed through a body: the facts' part, the heap and what is hidden at its entry, the hand, the exception in hand, what is wished of an exception -/
structure Bc where
  K : PySem.W.Frag
  H0 : Hp
  X0 : Addr → Prop
  hd : Hnd
  ex : Option (Addr × Value × Option Addr)
  E : L2.St → XK
  /-- self while it is made -/
  me : Option Addr
/-- a list, a dict of one's own -/
inductive Ow where
  | lst (xs : List Dt) | dk (ks : List Key) (vs : List Dt) | dt (ks : List (List Key)) (vs : List Dt)
def Ow.fz : Ow → Dt
  | .lst xs => .lst xs
  | .dk ks vs => .dk ks vs
  | .dt ks vs => .dt ks vs
inductive DenO (K : PySem.W.Frag) (H : Hp) : HO → Ow → Prop
  | lst {vs : List V} {xs : List Dt} : DenAll K H vs xs → DenO K H (.lst vs) (.lst xs)
  | dk {ks : List Key} {vs : List V} {xs : List Dt} : ks.length = vs.length → DenAll K H vs xs → DenO K H (.dK (ks.zip vs)) (.dk ks xs)
  | dt {ks : List (List Key)} {vs : List V} {xs : List Dt} : ks.length = vs.length → DenAll K H vs xs → DenO K H (.dT (ks.zip vs)) (.dt ks xs)
theorem DenO.mono {K : PySem.W.Frag} {H H' : Hp} (s : Same H H') {u : HO} {o : Ow} (h : DenO K H u o) : DenO K H' u o := by
  cases h with
  | lst a => exact .lst (a.mono s)
  | dk l a => exact .dk l (a.mono s)
  | dt l a => exact .dt l (a.mono s)
theorem DenO.fz {K : PySem.W.Frag} {H : Hp} {u : HO} {o : Ow} {p : Addr} (h : DenO K H u o) (e : H p = some u) : Den K H (.ref p) o.fz := by
  cases h with
  | lst a => exact .lst e a
  | dk l a => exact .dk e l a
  | dt l a => exact .dt e l a
theorem DenO.noins {K : PySem.W.Frag} {H : Hp} {C dx : Addr} {fs : List (Str × V)} {o : Ow} (h : DenO K H (.ins C dx fs) o) : False := by cases h
/-- what a slot holds: nothing that is known, data, a list of one's own, the hand, an exception in hand -/
inductive Sl where
  | no | d (x : Dt) | own (o : Ow) | hand | exc (c : Str) (fs : List (Str × V))
  /-- an instance of one's own: self while it is made -/
  | ins (C : Str) (ns : List Str) (ds : List Dt)
def IsIns (env : List Sl) (i : Nat) : Prop := ∃ C ns ds, env[i]? = some (.ins C ns ds)
/-- only the first slot holds an instance of one's own -/
def One (env : List Sl) : Prop := ∀ i, IsIns env i → i = 0
theorem One.set {env : List Sl} (h : One env) {j : Nat} {s : Sl} (hs : ∀ C ns ds, s ≠ .ins C ns ds) : One (env.set j s) := fun i ⟨C, ns, ds, e⟩ => by
  rw [List.getElem?_set] at e
  split at e
  · split at e
    · injection e with e; exact absurd e (hs C ns ds)
    · cases e
  · exact h i ⟨C, ns, ds, e⟩
theorem One.set0 {env : List Sl} (h : One env) {s : Sl} : One (env.set 0 s) := fun i ⟨C, ns, ds, e⟩ => by
  rw [List.getElem?_set] at e
  split at e
  · rename_i c; exact c.symm
  · exact h i ⟨C, ns, ds, e⟩
theorem One.map {env : List Sl} (h : One env) {f : Sl → Sl} (hf : ∀ s C ns ds, f s = .ins C ns ds → s = .ins C ns ds) : One (env.map f) := fun i ⟨C, ns, ds, e⟩ => by
  rw [List.getElem?_map, Option.map_eq_some_iff] at e
  obtain ⟨s, e1, e2⟩ := e
  exact h i ⟨C, ns, ds, by rw [e1, hf _ _ _ _ e2]⟩
def SlRep (C : Bc) (X : Addr → Prop) (H : Hp) : Sl → Option V → Prop
  | .no, _ => True
  | .d x, o => ∃ v, o = some v ∧ Den C.K (vis H X) v x
  | .own w, o => ∃ p u, o = some (.ref p) ∧ X p ∧ ¬ C.X0 p ∧ H p = some u ∧ DenO C.K (vis H X) u w
  | .hand, o => ∃ h c, o = some (.ref h) ∧ C.hd = some (h, c)
  | .ins C0 ns ds, o => ∃ p dx vs, o = some (.ref p) ∧ X p ∧ ¬ C.X0 p ∧ H p = some (.ins (He.ga C.K C0) dx (ns.zip vs)) ∧ (ns.length = vs.length ∧ C.me = some p) ∧ DenAll C.K (vis H X) vs ds
  | .exc c fs, o => match C.ex with
    | none => True
    | some (a, cls, dx) => o = some (.ref a) ∧ cls = .ref (He.ga C.K c) ∧ ((fs = [] ∧ dx = none) ∨ ∃ dd, dx = some dd ∧ vis H X dd = some (.xd fs))
theorem SlRep.exc {C : Bc} {X Y : Addr → Prop} {H H' : Hp} {c : Str} {fs : List (Str × V)} {o : Option V} (h : SlRep C X H (.exc c fs) o) (s : Same (vis H X) (vis H' Y)) : SlRep C Y H' (.exc c fs) o := by
  unfold SlRep at h ⊢
  dsimp only at h ⊢
  split at h
  · trivial
  · exact ⟨h.1, h.2.1, h.2.2.imp id fun ⟨dd, e, q⟩ => ⟨dd, e, s _ _ q⟩⟩
structure Rep (C : Bc) (X : Addr → Prop) (env : List Sl) (σ : L2.St) (H : Hp) : Prop where
  len : env.length = σ.length
  sup : ∀ a, C.X0 a → X a
  new : ∀ a, X a → C.X0 a ∨ C.H0 a = none
  al : ∀ a, X a → ∃ o, H a = some o
  frm : Frm C.hd C.H0 H
  hands : ∀ h c, C.hd = some (h, c) → C.X0 h ∧ HandC C.H0 h c ∧ HandC H h c
  slot : ∀ (i : Nat) (s : Sl), env[i]? = some s → ∃ o, σ[i]? = some o ∧ SlRep C X H s o
  inj : ∀ (i j : Nat) (xs ys : Ow), i ≠ j → env[i]? = some (.own xs) → env[j]? = some (.own ys) → σ[i]? ≠ σ[j]?
  one : One env
section
variable {C : Bc} {X : Addr → Prop} {env : List Sl} {σ : L2.St} {H H' : Hp}
theorem vis_frm (hX : ∀ h c, C.hd = some (h, c) → X h) (f : Frm C.hd H H') : Same (vis H X) (vis H' X) := fun a o e => by
  obtain ⟨n, h⟩ := vis_of e
  exact vis_mk n (f.1 a o h fun h c z q => n (q ▸ hX h c z))
theorem Rep.hX (r : Rep C X env σ H) : ∀ h c, C.hd = some (h, c) → X h := fun h c e => r.sup h (r.hands h c e).1
theorem Rep.vs (r : Rep C X env σ H) (f : Frm C.hd H H') : Same (vis H X) (vis H' X) := vis_frm r.hX f
theorem Rep.nh (r : Rep C X env σ H) {p : Addr} (n : ¬ C.X0 p) : ∀ h c, C.hd = some (h, c) → p ≠ h := fun h c e z => n (z ▸ (r.hands h c e).1)
theorem Frm.there (f : Frm C.hd H H') (hh : ∀ h c, C.hd = some (h, c) → HandC H h c) {a : Addr} {o : HO} (e : H a = some o) : ∃ o', H' a = some o' := by
  by_cases z : ∃ h c, C.hd = some (h, c) ∧ a = h
  · obtain ⟨h, c, e1, rfl⟩ := z
    obtain ⟨_, _, _, _, q, _⟩ := f.2 a c e1 (hh a c e1)
    exact ⟨_, q⟩
  · exact ⟨o, f.1 a o e fun h c e1 q => z ⟨h, c, e1, q⟩⟩
theorem Frm.free (f : Frm C.hd H H') (hh : ∀ h c, C.hd = some (h, c) → HandC H h c) {a : Addr} (e : H' a = none) : H a = none := by
  cases q : H a with
  | none => rfl
  | some o =>
    obtain ⟨o', e'⟩ := f.there hh q
    rw [e] at e'; cases e'
/-- nothing but the hand has changed -/
theorem Rep.step (r : Rep C X env σ H) (f : Frm C.hd H H') : Rep C X env σ H' where
  len := r.len
  sup := r.sup
  new := r.new
  al := fun a x => let ⟨_, e⟩ := r.al a x; f.there (fun h c e => (r.hands h c e).2.2) e
  frm := r.frm.trans f
  hands := fun h c e => ⟨(r.hands h c e).1, (r.hands h c e).2.1, f.2 h c e (r.hands h c e).2.2⟩
  slot := fun i s e => by
    obtain ⟨o, e1, q⟩ := r.slot i s e
    refine ⟨o, e1, ?_⟩
    cases s with
    | no => trivial
    | d x => obtain ⟨v, e2, h⟩ := q; exact ⟨v, e2, h.mono (r.vs f)⟩
    | own xs =>
      obtain ⟨p, vs, e2, x1, x2, h1, h2⟩ := q
      exact ⟨p, vs, e2, x1, x2, f.1 p _ h1 (r.nh x2), h2.mono (r.vs f)⟩
    | hand => exact q
    | exc c fs => exact q.exc (r.vs f)
    | ins C0 ns ds =>
      obtain ⟨p, dx, vs, e2, x1, x2, h1, l, h2⟩ := q
      exact ⟨p, dx, vs, e2, x1, x2, f.1 p _ h1 (r.nh x2), l, h2.mono (r.vs f)⟩
  inj := r.inj
  one := r.one
theorem Rep.free (r : Rep C X env σ H) {p : Addr} (e : H p = none) : ¬ X p := fun x => by
  obtain ⟨o, q⟩ := r.al p x
  rw [e] at q; cases q
theorem Rep.h0 (r : Rep C X env σ H) {p : Addr} (e : H p = none) : C.H0 p = none := r.frm.free (fun h c e => (r.hands h c e).2.1) e
end
end Mine

namespace Mine
open PySem PySem.Spec PyProof.Rows L2
/-! ### what is wanted of expressions, by data -/
/-- an exception: its class, its attributes -/
structure Xc where
  cls : Str
  fs : List (Str × V)
abbrev DX := List Sl → (Dt → Prop) → (Xc → Prop) → Prop
abbrev DTX := List Sl → (Bool → Prop) → (Xc → Prop) → Prop
abbrev DAX := List Sl → (List Dt → Prop) → (Xc → Prop) → Prop
abbrev DSX := List Sl → (List Sl → Prop) → (Xc → Prop) → Prop
def XRep (K : PySem.W.Frag) (H : Hp) (cls : Value) (d : Option Addr) (x : Xc) : Prop := cls = .ref (He.ga K x.cls) ∧ match x.fs with
  | [] => d = none
  | f :: r => ∃ a, d = some a ∧ H a = some (.xd (f :: r))
theorem XRep.mono {K : PySem.W.Frag} {H H' : Hp} {cls : Value} {d : Option Addr} {x : Xc} (h : XRep K H cls d x) (s : Same H H') : XRep K H' cls d x := by
  obtain ⟨e, q⟩ := h
  refine ⟨e, ?_⟩
  obtain ⟨c, fs⟩ := x
  cases fs with
  | nil => exact q
  | cons f r => obtain ⟨a, e1, e2⟩ := q; exact ⟨a, e1, s _ _ e2⟩
def XOk (C : Bc) (X : Addr → Prop) (σ : L2.St) (H : Hp) (Qx : Xc → Prop) : Prop := ∀ x cls dx H', Frm C.hd H H' → XRep C.K (vis H' X) cls dx x → Qx x → C.E σ cls dx H'
/-- how a value stands for data: with all that is let; a list of one's own that is read; a new list -/
abbrev RR := Bc → (Addr → Prop) → Hp → Hp → V → Dt → Prop
def Cln : RR := fun C X _ H v d => Den C.K (vis H X) v d
def Bor : RR := fun C X _ H v d => Den C.K (vis H X) v d ∨ ∃ p vs ds, v = .ref p ∧ d = .lst ds ∧ (∀ h c, C.hd = some (h, c) → p ≠ h) ∧ H p = some (.lst vs) ∧ DenAll C.K (vis H X) vs ds
def Fsh : RR := fun C X H0 H v d => ∃ p vs ds, v = .ref p ∧ d = .lst ds ∧ H0 p = none ∧ H p = some (.lst vs) ∧ DenAll C.K (vis H fun a => X a ∨ a = p) vs ds
def DEg (R : RR) (C : Bc) (t : TE) (e : DX) : Prop := ∀ X env σ H (Q : VK) (Qd : Dt → Prop) (Qx : Xc → Prop), Rep C X env σ H → e env Qd Qx → (∀ d v H', Frm C.hd H H' → R C X H H' v d → Qd d → Q v H') → XOk C X σ H Qx → t σ H Q
abbrev DE := DEg Cln
abbrev DB := DEg Bor
abbrev DF := DEg Fsh
section
variable {C : Bc} {X : Addr → Prop} {env : List Sl} {σ : L2.St} {H H1 H' : Hp} {v : V} {d : Dt} {t : TE} {e : DX} {Qx : Xc → Prop}
theorem XOk.step (x : XOk C X σ H Qx) (f : Frm C.hd H H') : XOk C X σ H' Qx := fun y cls dx H2 f2 r q => x y cls dx H2 (f.trans f2) r q
theorem Bor.frm (r : Rep C X env σ H) (f : Frm C.hd H H') (h : Bor C X H1 H v d) : Bor C X H1 H' v d := by
  rcases h with h | ⟨p, vs, ds, e1, e2, n, h1, h2⟩
  · exact .inl (h.mono (r.vs f))
  · exact .inr ⟨p, vs, ds, e1, e2, n, f.1 p _ h1 n, h2.mono (r.vs f)⟩
theorem Cln.bor (h : Cln C X H1 H v d) : Bor C X H1 H v d := .inl h
theorem Fsh.cln (r : Rep C X env σ H1) (h : Fsh C X H1 H v d) : Cln C X H1 H v d := by
  obtain ⟨p, vs, ds, rfl, rfl, n, h1, h2⟩ := h
  exact .lst (vis_mk (r.free n) h1) (h2.mono (vis_anti fun _ => .inl))
theorem Fsh.frm (r : Rep C X env σ H) (f : Frm C.hd H H1) (h : Fsh C X H1 H' v d) : Fsh C X H H' v d := by
  obtain ⟨p, vs, ds, e1, e2, n, h1⟩ := h
  exact ⟨p, vs, ds, e1, e2, f.free (fun h c e => (r.hands h c e).2.2) n, h1⟩
theorem DEg.bor (h : DE C t e) : DB C t e := fun X env σ H Q Qd Qx r he q x => h X env σ H Q Qd Qx r he (fun d v H' f h => q d v H' f (.inl h)) x
theorem DEg.cln (h : DF C t e) : DE C t e := fun X env σ H Q Qd Qx r he q x => h X env σ H Q Qd Qx r he (fun d v H' f h => q d v H' f (h.cln r)) x
theorem Bor.flat {u : V} (h : Bor C X H1 H v d) (e : d.flat = some u) : v = u := by
  rcases h with h | ⟨p, vs, ds, e1, rfl, _⟩
  · exact h.flat e
  · cases e
theorem Bor.int {i : Int} (h : Bor C X H1 H v (.int i)) : v = .int i := h.flat rfl
theorem Bor.bl {i : Bool} (h : Bor C X H1 H v (.bl i)) : v = .bl i := h.flat rfl
theorem Bor.str {i : Str} (h : Bor C X H1 H v (.str i)) : v = .str i := h.flat rfl
theorem Bor.non (h : Bor C X H1 H v .non) : v = .non := h.flat rfl
theorem Bor.raw {u : V} (h : Bor C X H1 H v (.raw u)) : v = u := h.flat rfl
theorem Bor.lst {ds : List Dt} (h : Bor C X H1 H v (.lst ds)) : ∃ p vs, v = .ref p ∧ H p = some (.lst vs) ∧ DenAll C.K (vis H X) vs ds := by
  rcases h with h | ⟨p, vs, ds, e1, e2, n, h1, h2⟩
  · cases h with
    | lst h a => exact ⟨_, _, rfl, vis_sub _ _ h, a⟩
  · cases e2; exact ⟨p, vs, e1, h1, h2⟩
theorem Bor.tup {ds : List Dt} (h : Bor C X H1 H v (.tup ds)) : ∃ p vs, v = .ref p ∧ H p = some (.tup vs) ∧ DenAll C.K (vis H X) vs ds := by
  rcases h with h | ⟨p, vs, ds, e1, e2, n, h1, h2⟩
  · cases h with
    | tup h a => exact ⟨_, _, rfl, vis_sub _ _ h, a⟩
  · cases e2
theorem Bor.dk {ks : List Key} {ds : List Dt} (h : Bor C X H1 H v (.dk ks ds)) : ∃ p vs, v = .ref p ∧ H p = some (.dK (ks.zip vs)) ∧ ks.length = vs.length ∧ DenAll C.K (vis H X) vs ds := by
  rcases h with h | ⟨p, vs, ds, e1, e2, n, h1, h2⟩
  · cases h with
    | dk h l a => exact ⟨_, _, rfl, vis_sub _ _ h, l, a⟩
  · cases e2
theorem Bor.dt {ks : List (List Key)} {ds : List Dt} (h : Bor C X H1 H v (.dt ks ds)) : ∃ p vs, v = .ref p ∧ H p = some (.dT (ks.zip vs)) ∧ ks.length = vs.length ∧ DenAll C.K (vis H X) vs ds := by
  rcases h with h | ⟨p, vs, ds, e1, e2, n, h1, h2⟩
  · cases h with
    | dt h l a => exact ⟨_, _, rfl, vis_sub _ _ h, l, a⟩
  · cases e2
theorem Bor.ins {c : Str} {ns : List Str} {ds : List Dt} (h : Bor C X H1 H v (.ins c ns ds)) : ∃ p dx vs, v = .ref p ∧ H p = some (.ins (He.ga C.K c) dx (ns.zip vs)) ∧ ns.length = vs.length ∧ DenAll C.K (vis H X) vs ds := by
  rcases h with h | ⟨p, vs, ds, e1, e2, n, h1, h2⟩
  · cases h with
    | ins h l a => exact ⟨_, _, _, rfl, vis_sub _ _ h, l, a⟩
  · cases e2
/-- a new thing is laid -/
theorem Rep.laid {p : Addr} {o : HO} (r : Rep C X env σ H) (n : H p = none) : Frm C.hd H (upd H p o) := .upd n
theorem cln_new {p : Addr} {vs : List V} {ds : List Dt} (r : Rep C X env σ H) (n : H p = none) (h : DenAll C.K (vis H X) vs ds) : Cln C X H1 (upd H p (.tup vs)) (.ref p) (.tup ds) :=
  .tup (vis_mk (r.free n) upd_same) (h.mono (r.vs (.upd n)))
theorem fsh_new {p : Addr} {vs : List V} {ds : List Dt} (r : Rep C X env σ H) (n : H p = none) (h : DenAll C.K (vis H X) vs ds) : Fsh C X H (upd H p (.lst vs)) (.ref p) (.lst ds) :=
  ⟨p, vs, ds, rfl, rfl, n, upd_same, h.mono fun a o e => by
    obtain ⟨n1, e1⟩ := vis_of e
    have ne : a ≠ p := ne_of_none e1 n
    exact vis_mk (fun z => z.elim n1 ne) (by rw [upd_ne ne]; exact e1)⟩
end
/-! ### names, constants -/
def eVar (i : Nat) : DX := fun env Q _ => match env[i]? with
  | some (.d x) => Q x
  | _ => False
def eVarB (i : Nat) : DX := fun env Q _ => match env[i]? with
  | some (.d x) => Q x
  | some (.own (.lst xs)) => Q (.lst xs)
  | _ => False
def eC (d : Dt) : DX := fun _ Q _ => Q d
section
variable {C : Bc} {X : Addr → Prop} {env : List Sl} {σ : L2.St} {H : Hp}
theorem Rep.at (r : Rep C X env σ H) {i : Nat} {x : Dt} (e : env[i]? = some (.d x)) : ∃ v, σ[i]? = some (some v) ∧ Den C.K (vis H X) v x := by
  obtain ⟨o, e1, v, rfl, h⟩ := r.slot i _ e
  exact ⟨v, e1, h⟩
theorem de_var (i : Nat) : DE C (tVar i) (eVar i) := by
  intro X env σ H Q Qd Qx r he q x
  unfold eVar at he
  split at he
  · rename_i y e
    obtain ⟨v, e1, h⟩ := r.at e
    exact ⟨v, e1, q _ v H (.refl H) h he⟩
  · exact he.elim
theorem db_var (i : Nat) : DB C (tVar i) (eVarB i) := by
  intro X env σ H Q Qd Qx r he q x
  unfold eVarB at he
  split at he
  · rename_i y e
    obtain ⟨v, e1, h⟩ := r.at e
    exact ⟨v, e1, q _ v H (.refl H) (.inl h) he⟩
  · rename_i y e
    obtain ⟨o, e1, p, u, rfl, x1, x2, h1, h2⟩ := r.slot i _ e
    cases h2 with
    | @lst vs _ h2 => exact ⟨.ref p, e1, q _ _ H (.refl H) (.inr ⟨p, vs, _, rfl, rfl, r.nh x2, h1, h2⟩) he⟩
  · exact he.elim
theorem de_c {v : V} {d : Dt} (e : d.flat = some v) : DE C (tC v) (eC d) := fun X env σ H Q Qd Qx r he q x => q d v H (.refl H) (.of_flat e) he
theorem de_int (i : Int) : DE C (tC (.int i)) (eC (.int i)) := de_c rfl
theorem de_str (i : Str) : DE C (tC (.str i)) (eC (.str i)) := de_c rfl
theorem de_bl (i : Bool) : DE C (tC (.bl i)) (eC (.bl i)) := de_c rfl
theorem de_non : DE C (tC .non) (eC .non) := de_c rfl
theorem de_raw (v : V) : DE C (tC v) (eC (.raw v)) := de_c rfl
end
/-! ### operators -/
abbrev D2 := Dt → Dt → (Dt → Prop) → Prop
abbrev D1 := Dt → (Dt → Prop) → Prop
def OpG (R : RR) (C : Bc) (r : R2) (f : D2) : Prop := ∀ X env σ H H1 x y a b (Q : VK) (Qd : Dt → Prop), Rep C X env σ H → Bor C X H1 H x a → Bor C X H1 H y b → f a b Qd → (∀ d v H', Frm C.hd H H' → R C X H H' v d → Qd d → Q v H') → r x y H Q
abbrev OpD := OpG Cln
def eOp (f : D2) (a b : DX) : DX := fun env Q E => a env (fun x => b env (fun y => f x y Q) E) E
/-- what a reading may be weakened by: an earlier start -/
class RRs (R : RR) : Prop where
  st : ∀ {C : Bc} {X : Addr → Prop} {env : List Sl} {σ : L2.St} {H H1 H' : Hp} {v : V} {d : Dt}, Rep C X env σ H → Frm C.hd H H1 → R C X H1 H' v d → R C X H H' v d
instance : RRs Cln := ⟨fun _ _ h => h⟩
instance : RRs Bor := ⟨fun _ _ h => h⟩
instance : RRs Fsh := ⟨fun r f h => h.frm r f⟩
section
variable {C : Bc} {r r' : R2} {f : D2} {ta tb : TE} {a b : DX} {R : RR}
theorem dg_op [RRs R] (ho : OpG R C r f) (ha : DB C ta a) (hb : DB C tb b) : DEg R C (tOp r ta tb) (eOp f a b) := by
  intro X env σ H Q Qd Qx rp he q x
  refine ha X env σ H _ _ Qx rp he (fun d v H1 f1 r1 he1 => ?_) x
  have rp1 := rp.step f1
  refine hb X env σ H1 _ _ Qx rp1 he1 (fun d2 v2 H2 f2 r2 he2 => ?_) (x.step f1)
  exact ho X env σ H2 H1 v v2 d d2 Q Qd (rp1.step f2) (r1.frm rp1 f2) r2 he2 fun d3 v3 H3 f3 r3 => q d3 v3 H3 (f1.trans (f2.trans f3)) (RRs.st rp (f1.trans f2) r3)
end
section
variable {C : Bc} {r r' : R2} {f g : D2}
/-- one rule or the other -/
theorem OpG.left {R : RR} (h : OpG R C r f) : OpG R C (fun x y H Q => r x y H Q ∨ r' x y H Q) f := fun X env σ H H1 x y a b Q Qd rp r1 r2 he q => .inl (h X env σ H H1 x y a b Q Qd rp r1 r2 he q)
theorem OpG.right {R : RR} (h : OpG R C r' f) : OpG R C (fun x y H Q => r x y H Q ∨ r' x y H Q) f := fun X env σ H H1 x y a b Q Qd rp r1 r2 he q => .inr (h X env σ H H1 x y a b Q Qd rp r1 r2 he q)
end
/-- whole numbers -/
def dI (c : Int → Int → Prop) (g : Int → Int → Dt) : D2 := fun a b Q => match a, b with
  | .int i, .int j => c i j ∧ Q (g i j)
  | _, _ => False
def dI0 (g : Int → Int → Dt) : D2 := fun a b Q => match a, b with
  | .int i, .int j => Q (g i j)
  | _, _ => False
section
variable {C : Bc}
theorem od_I {c : Int → Int → Prop} {g : Int → Int → V} {g' : Int → Int → Dt} (e : ∀ i j, (g' i j).flat = some (g i j)) : OpD C (rI c g) (dI c g') := by
  intro X env σ H H1 x y a b Q Qd rp r1 r2 he q
  unfold dI at he
  split at he
  · exact ⟨_, _, r1.int, r2.int, he.1, q _ _ H (.refl H) (.of_flat (e _ _)) he.2⟩
  · exact he.elim
theorem od_I0 {g : Int → Int → V} {g' : Int → Int → Dt} (e : ∀ i j, (g' i j).flat = some (g i j)) : OpD C (rI0 g) (dI0 g') := by
  intro X env σ H H1 x y a b Q Qd rp r1 r2 he q
  unfold dI0 at he
  split at he
  · exact ⟨_, _, r1.int, r2.int, q _ _ H (.refl H) (.of_flat (e _ _)) he⟩
  · exact he.elim
end
abbrev LINE : Nat := 16777216
/-! + -/
def rAddIB : R2 := fun x y H Q => ∃ i k, x = .int i ∧ y = .bl k ∧ Q (.int (i + b2i k)) H
def rAddS : R2 := fun x y H Q => ∃ i j, x = .str i ∧ y = .str j ∧ i.length + j.length ≤ sizeLine ∧ Q (.str (i ++ j)) H
def rAddU (K : PySem.W.Frag) : R2 := fun x y H Q => rI0 (fun i j => .int (i + j)) x y H Q ∨ (rCat x y H Q ∨ (rCatA K x y H Q ∨ (rAddS x y H Q ∨ rAddIB x y H Q)))
theorem op_addU {X : Cx} {K : PySem.W.Frag} (e : X.K = K) : OpR X (binaryOp .Add) (rAddU K) := op_add.or (op_cat.or ((OpR.k (r := rCatA) (K := K) op_catA e).or (OpR.or (r := rAddS) op_add_str op_add_ib)))
def dAdd : D2 := fun a b Q => match a, b with
  | .int i, .int j => Q (.int (i + j))
  | .lst xs, .lst ys => xs.length + ys.length ≤ LINE ∧ Q (.lst (xs ++ ys))
  | .tup xs, .tup ys => xs.length + ys.length ≤ LINE ∧ Q (.tup (xs ++ ys))
  | .str x, .str y => x.length + y.length ≤ LINE ∧ Q (.str (x ++ y))
  | .int i, .bl k => Q (.int (i + b2i k))
  | _, _ => False
def dAddL : D2 := fun a b Q => match a, b with
  | .lst xs, .lst ys => xs.length + ys.length ≤ LINE ∧ Q (.lst (xs ++ ys))
  | _, _ => False
section
variable {C : Bc}
theorem od_addL : OpG Fsh C (rAddU C.K) dAddL := by
  intro X env σ H H1 x y a b Q Qd rp r1 r2 he q
  unfold dAddL at he
  split at he
  · obtain ⟨p, vs, rfl, h1, a1⟩ := r1.lst
    obtain ⟨p2, vs2, rfl, h2, a2⟩ := r2.lst
    refine .inr (.inl ⟨p, p2, vs, vs2, rfl, rfl, h1, h2, by rw [a1.length, a2.length, sizeLine_eq]; exact he.1, fun pn hp => ?_⟩)
    exact q _ _ _ (.upd hp) (fsh_new rp hp (a1.append a2)) he.2
  · exact he.elim
theorem od_add : OpD C (rAddU C.K) dAdd := by
  intro X env σ H H1 x y a b Q Qd rp r1 r2 he q
  unfold dAdd at he
  split at he
  · exact .inl ⟨_, _, r1.int, r2.int, q _ _ H (.refl H) (.int _) he⟩
  · exact od_addL X env σ H H1 x y _ _ Q Qd rp r1 r2 he fun d v H' f h => q d v H' f (h.cln rp)
  · obtain ⟨p, vs, rfl, h1, a1⟩ := r1.tup
    obtain ⟨p2, vs2, rfl, h2, a2⟩ := r2.tup
    have al := a1.append a2
    refine .inr (.inr (.inl ⟨p, p2, vs, vs2, rfl, rfl, .inl (.inl h1), .inl (.inl h2), by rw [a1.length, a2.length, sizeLine_eq]; exact he.1, fun e => ?_, fun _ e => ?_, fun _ _ pn hp => ?_⟩))
    · subst e
      refine q _ _ H (.refl H) ?_ he.2
      rcases r2 with r2 | ⟨_, _, _, _, e2, _⟩
      · cases r2 with
        | @tup _ xs' _ g g2 =>
          have e : xs' = vs2 := by simpa using (vis_sub _ _ g).symm.trans h2
          subst e
          exact .tup g al
      · cases e2
    · subst e
      refine q _ _ H (.refl H) ?_ he.2
      rcases r1 with r1 | ⟨_, _, _, _, e2, _⟩
      · cases r1 with
        | @tup _ xs' _ g g2 =>
          have e : xs' = vs := by simpa using (vis_sub _ _ g).symm.trans h1
          subst e
          rw [List.append_nil] at al
          exact .tup g al
      · cases e2
    · exact q _ _ _ (.upd hp) (cln_new rp hp al) he.2
  · exact .inr (.inr (.inr (.inl ⟨_, _, r1.str, r2.str, by rw [sizeLine_eq]; exact he.1, q _ _ H (.refl H) (.str _) he.2⟩)))
  · exact .inr (.inr (.inr (.inr ⟨_, _, r1.int, r2.bl, q _ _ H (.refl H) (.int _) he⟩)))
  · exact he.elim
end
/-! * -/
/-- t * k, k from 1 on: t itself, or a new tuple -/
def rRepB : R2 := fun x y H Q => ∃ l k xs, x = .ref l ∧ y = .int k ∧ H l = some (.tup xs) ∧ xs ≠ [] ∧ 1 ≤ k ∧ k ≤ 1000 ∧ xs.length ≤ 1000 ∧ (k = 1 → Q (.ref l) H) ∧ ∀ p, H p = none → Q (.ref p) (upd H p (.tup (List.replicate k.toNat xs).flatten))
theorem op_repB {X : Cx} : OpR X (binaryOp .Mult) rRepB := by
  intro pins s σ H x y v u Q I rx ry h
  obtain ⟨l, k, xs, rfl, rfl, hl, hne, h1, h2, hz, q1, q⟩ := h
  by_cases e : 2 ≤ k
  · exact op_repT pins s σ H _ _ v u Q I rx ry ⟨l, k, xs, rfl, rfl, .inl (.inl hl), hne, e, h2, hz, q⟩
  · obtain rfl : k = 1 := by omega
    cases rx
    obtain ⟨t, rfl⟩ := ry
    obtain ⟨its, r, ⟨⟨cls, dd, data, sl⟩, ho, hc, n, hd⟩, hs⟩ := I.tuple (.inl (.inl hl) : SqT X.K H l xs)
    simp only at hc hd
    subst hc hd
    refine wpAny_binaryOp_repeat_ref (T := "tuple") (U := "int") (by decide) ⟨_, ho, rfl⟩ (fun s' => typeIs_int s' 1 t) noFill_tuple_mul F.fills_int_mul F.slot_int_rmul repeat_tuple F.slot_int_index.lookup
      (call_meets F.slot_int_rmul (typeIs_int s 1 t) F.entry_int_rmul (F.args_int_rmul_2 _ _) (int_rmul_tuple 1 t l its.toArray n dd sl)
        ⟨ho, rfl, ⟨_, ho, rfl⟩, call_meets F.slot_tuple_mul ⟨_, ho, rfl⟩ F.entry_tuple_mul (F.args_tuple_mul_2 _ _) (mine_mul_one l its.toArray n dd sl t) ⟨ho, ?_⟩⟩)
    exact ⟨.ref l, H, I, rfl, q1 rfl⟩
theorem mine_mul_zero (l : Addr) (items : Array Value) (n : Nat) (dd : Option Addr) (sl : Array (Option Value)) (x : Int) (u : Tok) (c0 : (decide (x < -(2 ^ 63)) || decide (x ≥ 2 ^ 63)) = false) (c1 : (items.isEmpty || x == 1) = false) (c2 : (decide (x ≤ 0) || items.isEmpty) = true) :
    Meets (Builtin.«tuple.__mul__» ⟨[.ref l, .int x u], []⟩) (fun _ R s => s.heap.get? l = some { cls := .type "tuple", dict := dd, data := .seq items n, slots := sl } ∧
      R (.ok (.ret (Value.ref s.heap.objs.size))) { s with heap := s.heap.push { cls := Value.type "tuple", data := Data.seq #[] }, toks := s.toks }) :=
  .of_wp fun prog w A R s h => by
    obtain ⟨hp, g, d, tk, os⟩ := s
    obtain ⟨hl, h⟩ := h
    have f1 := AutoSeq1.idx_int
    wp_walk using wpAny_loadPart' hl
    repeat (first
      | (refine wpAny_ite_false (decide_eq_false (by rw [c0]; exact Bool.false_ne_true)) ?_; wp_walk using wpAny_loadPart' hl)
      | (refine wpAny_ite_false (decide_eq_false (by rw [c1]; exact Bool.false_ne_true)) ?_; wp_walk using wpAny_loadPart' hl)
      | (refine wpAny_ite_true (decide_eq_true c2) ?_; wp_walk using wpAny_loadPart' hl))
    exact ⟨_, rfl, h⟩
/-- t * k, k up to 0: a new tuple of nothing -/
def rRepZ : R2 := fun x y H Q => ∃ l k xs, x = .ref l ∧ y = .int k ∧ H l = some (.tup xs) ∧ xs ≠ [] ∧ k ≤ 0 ∧ -(2 ^ 62) ≤ k ∧ ∀ p, H p = none → Q (.ref p) (upd H p (.tup []))
theorem op_repZ {X : Cx} : OpR X (binaryOp .Mult) rRepZ := by
  intro pins s σ H x y v u Q I rx ry h
  obtain ⟨l, k, xs, rfl, rfl, hl, hne, h1, h2, q⟩ := h
  cases rx
  obtain ⟨t, rfl⟩ := ry
  obtain ⟨its, r, ⟨⟨cls, dd, data, sl⟩, ho, hc, n, hd⟩, hs⟩ := I.tuple (.inl (.inl hl) : SqT X.K H l xs)
  simp only at hc hd
  subst hc hd
  have hn : its.toArray.isEmpty = false := by
    cases its with
    | nil => cases r; exact absurd rfl hne
    | cons a b => rfl
  have c0 : (decide (k < -(2 ^ 63)) || decide (k ≥ 2 ^ 63)) = false := by
    rw [decide_eq_false (by omega), decide_eq_false (by omega)]; rfl
  have c1 : (its.toArray.isEmpty || k == 1) = false := by
    rw [hn, show (k == 1) = false from beq_eq_false_iff_ne.mpr (by omega)]; rfl
  have c2 : (decide (k ≤ 0) || its.toArray.isEmpty) = true := by rw [decide_eq_true h1]; rfl
  refine wpAny_binaryOp_repeat_ref (T := "tuple") (U := "int") (by decide) ⟨_, ho, rfl⟩ (fun s' => typeIs_int s' k t) noFill_tuple_mul F.fills_int_mul F.slot_int_rmul repeat_tuple F.slot_int_index.lookup
    (call_meets F.slot_int_rmul (typeIs_int s k t) F.entry_int_rmul (F.args_int_rmul_2 _ _) (int_rmul_tuple k t l its.toArray n dd sl)
      ⟨ho, rfl, ⟨_, ho, rfl⟩, call_meets F.slot_tuple_mul ⟨_, ho, rfl⟩ F.entry_tuple_mul (F.args_tuple_mul_2 _ _) (mine_mul_zero l its.toArray n dd sl k t c0 c1 c2) ⟨ho, ?_⟩⟩)
  refine ⟨.ref _, _, I.laid (t' := s.toks) (o := .tup []) (fun b ob q => Heap.get?_push_of_some _ q) (Nat.le_refl _) ?_, rfl, q _ (I.hok.fresh (Nat.le_refl _))⟩
  exact ⟨Nat.zero_le _, _, .nil, IsTup.new _ _⟩
def rMulU : R2 := fun x y H Q => rI CMul (fun i j => .int (i * j)) x y H Q ∨ (rRep x y H Q ∨ (rRepB x y H Q ∨ rRepZ x y H Q))
theorem op_mulU {X : Cx} : OpR X (binaryOp .Mult) rMulU := op_mul.or (op_rep.or (op_repB.or op_repZ))
def dMul : D2 := fun a b Q => match a, b with
  | .int i, .int j => CMul i j ∧ Q (.int (i * j))
  | .lst xs, .int k => (-(2 ^ 63) ≤ k ∧ k < 2 ^ 63 ∧ xs.length * k.toNat ≤ LINE) ∧ Q (.lst (List.replicate k.toNat xs).flatten)
  | .tup xs, .int k => (xs ≠ [] ∧ -(2 ^ 62) ≤ k ∧ k ≤ 1000 ∧ xs.length ≤ 1000) ∧ Q (.tup (List.replicate k.toNat xs).flatten)
  | _, _ => False
def dMulL : D2 := fun a b Q => match a, b with
  | .lst xs, .int k => (-(2 ^ 63) ≤ k ∧ k < 2 ^ 63 ∧ xs.length * k.toNat ≤ LINE) ∧ Q (.lst (List.replicate k.toNat xs).flatten)
  | _, _ => False
section
variable {C : Bc}
theorem od_mulL : OpG Fsh C rMulU dMulL := by
  intro X env σ H H1 x y a b Q Qd rp r1 r2 he q
  unfold dMulL at he
  split at he
  · obtain ⟨p, vs, rfl, h1, a1⟩ := r1.lst
    obtain ⟨⟨c1, c2, c3⟩, he⟩ := he
    refine .inr (.inl ⟨p, _, vs, rfl, r2.int, h1, c1, c2, by rw [a1.length, sizeLine_eq]; exact c3, fun pn hp => ?_⟩)
    exact q _ _ _ (.upd hp) (fsh_new rp hp (a1.replicate _)) he
  · exact he.elim
theorem od_mul : OpD C rMulU dMul := by
  intro X env σ H H1 x y a b Q Qd rp r1 r2 he q
  unfold dMul at he
  split at he
  · exact .inl ⟨_, _, r1.int, r2.int, he.1, q _ _ H (.refl H) (.int _) he.2⟩
  · exact od_mulL X env σ H H1 x y _ _ Q Qd rp r1 r2 he fun d v H' f h => q d v H' f (h.cln rp)
  · obtain ⟨p, vs, rfl, h1, a1⟩ := r1.tup
    rename_i xs0 k0
    obtain ⟨⟨c1, c2, c3, c4⟩, he⟩ := he
    have al := a1.replicate (K := C.K)
    by_cases kz : k0 ≤ 0
    · refine .inr (.inr (.inr ⟨p, _, vs, rfl, r2.int, h1, fun e => c1 ?_, kz, c2, fun pn hp => ?_⟩))
      · subst e; cases a1; rfl
      · rw [show k0.toNat = 0 from Int.toNat_eq_zero.mpr kz] at he
        exact q _ _ _ (.upd hp) (cln_new rp hp .nil) he
    refine .inr (.inr (.inl ⟨p, _, vs, rfl, r2.int, h1, fun e => c1 ?_, by omega, c3, by rw [a1.length]; exact c4, fun e => ?_, fun pn hp => ?_⟩))
    · subst e; cases a1; rfl
    · subst e
      refine q _ _ H (.refl H) ?_ he
      rcases r1 with r1 | ⟨_, _, _, _, e2, _⟩
      · have e : ∀ zs : List Dt, (List.replicate (1 : Int).toNat zs).flatten = zs := fun zs => by simp
        rw [e]; exact r1
      · cases e2
    · exact q _ _ _ (.upd hp) (cln_new rp hp (al _)) he
  · exact he.elim
end
end Mine

namespace HT
open PySem PySem.Spec PyProof.Rows L2
section
variable {prog : Program} {w : World} {A : Around} {E : Value → Shared → Prop} {s : Shared}
theorem mine_adjust_rev (n : Nat) : Builtin.Slice.sliceAdjust none none (-1) (n : Int) = ((n : Int) - 1, -1) := by
  unfold Builtin.Slice.sliceAdjust
  have h1 : ((-1 : Int) < 0) := by omega
  simp [h1]
theorem mine_places_rev (n : Nat) : Builtin.Slice.slicePlaces ((n : Int) - 1) (-1) (-1) = n := by
  unfold Builtin.Slice.slicePlaces
  have h1 : ¬ ((-1 : Int) > 0) := by omega
  simp only [h1, if_false]
  split
  all_goals first | omega | (simp <;> omega)
theorem mine_applied_rev {sl : Addr} {t : Tok} {n : Nat} {Q : Int × Int × Nat → Shared → Prop} {vs : Value} (hs : s.heap.IsSliceOf sl .none .none vs) (ps : IsPart vs (some (-1)))
    (h : Q ((n : Int) - 1, -1, n) s) : wpAny (model prog w) A (Builtin.Slice.sliceApplied (.ref sl) (pure (n : Int))) Q E s := by
  obtain ⟨os, hos, hcs, hds⟩ := id hs
  unfold Builtin.Slice.sliceApplied Builtin.Slice.sliceFields
  refine wpAny_bind (wpAny_bind (wpAny_field hos hds (x := .none) rfl (wpAny_bind (wpAny_field hos hds (x := .none) rfl (wpAny_bind (wpAny_field hos hds (x := vs) rfl (wpAny_pure ?_)))))))
  refine wpAny_bind (slicePart_ ps ?_)
  show wpAny _ _ (if ((-1 : Int) == 0) = true then _ else _) _ _ s
  rw [if_neg (by decide)]
  refine wpAny_bind (slicePart_ .none (wpAny_bind (slicePart_ .none (wpAny_bind (wpAny_pure ?_)))))
  show wpAny _ _ (match Builtin.Slice.sliceAdjust none none (-1) (n : Int) with | (lo, hi) => pure (lo, (-1 : Int), Builtin.Slice.slicePlaces lo hi (-1))) _ _ s
  rw [mine_adjust_rev n]
  show wpAny _ _ (pure ((n : Int) - 1, (-1 : Int), Builtin.Slice.slicePlaces ((n : Int) - 1) (-1) (-1))) _ _ s
  rw [mine_places_rev]
  exact wpAny_pure h
theorem fm_congr {α β : Type} {f g : α → Option β} : ∀ {l : List α}, (∀ x ∈ l, f x = g x) → l.filterMap f = l.filterMap g
  | [], _ => rfl
  | a :: l, h => by
    rw [List.filterMap_cons, List.filterMap_cons, h a List.mem_cons_self, fm_congr fun x hx => h x (List.mem_cons_of_mem _ hx)]
theorem mine_pick_rev (xs : Array Value) : ((List.range xs.size).filterMap fun (m : Nat) => xs[((xs.size : Int) - 1 + (m : Int) * (-1)).toNat]?).toArray = xs.toList.reverse.toArray := by
  congr 1
  have h2 := PySem.W.krv_all xs
  have h3 : ((List.range xs.size).map fun k => xs.size - 1 - k).filterMap (xs[·]?) = xs.toList.reverse := by
    rw [PySem.W.krv_range, List.filterMap_reverse, h2]
  rw [← h3, List.filterMap_map]
  refine fm_congr fun m hm => ?_
  have := List.mem_range.mp hm
  show xs[((xs.size : Int) - 1 + (m : Int) * (-1)).toNat]? = xs[xs.size - 1 - m]?
  congr 1; omega
theorem mine_getItem_tuple_rev {t sl : Addr} {items : Array Value} {vs : Value} {Q : Value → Shared → Prop} (ht : IsTup s.heap t items) (hs : s.heap.IsSliceOf sl .none .none vs) (ps : IsPart vs (some (-1)))
    (h : Q (.ref s.heap.objs.size) { s with heap := s.heap.push { cls := .type "tuple", data := .seq items.toList.reverse.toArray } })
    (hsz : items.size ≤ sizeLine) : wpAny (model prog w) A (getItem (.ref t) (.ref sl)) Q E s := by
  have htake : sizeOk (.seq items.toList.reverse.toArray) := by
    show items.toList.reverse.toArray.size ≤ sizeLine
    rw [List.size_toArray, List.length_reverse, Array.length_toList]
    omega
  obtain ⟨os, hos, hcs, hds⟩ := id hs
  have hTs : s.TypeIs (.ref sl) "slice" := ⟨os, hos, hcs⟩
  unfold getItem
  try with_reducible refine wpAny_holding ?_
  first | refine wpAny_bind (wpAny_pure ?_) | skip
  refine wpAny_bind (wpAny_sequenceKey ht.typeIs (by decide) ?_)
  refine wpAny_bind (wpAny_callSpecial?_slot (name := Str.ofString "__getitem__") ht.typeIs PyProof.Rows.slot_tuple_getitem
    (wpAny_call_entry PyProof.Rows.slot_tuple_getitem ht.typeIs entry_tuple_getitem ?_ (args_tuple_getitem _ _)))
  show wpAny _ _ (Builtin.Tuple.tupleItemsOf (.ref t) >>= _) _ _ s
  refine wpAny_bind (tupleItemsOf_ ht ?_)
  refine wpAny_bind (wpAny_typeOf hTs ?_)
  rw [if_pos (by decide)]
  refine wpAny_bind (mine_applied_rev (t := 0) hs ps ?_)
  have hno : ¬ ((((items.size : Int) - 1) == 0 && (-1 : Int) == 1 && items.size == items.size) = true) := by
    intro q
    rw [Bool.and_eq_true, Bool.and_eq_true] at q
    exact absurd q.1.2 (by decide)
  show wpAny _ _ (if (((items.size : Int) - 1) == 0 && (-1 : Int) == 1 && items.size == items.size) = true then _ else _) _ _ s
  rw [if_neg hno, mine_pick_rev]
  first
    | exact wpAny_bind (m := Builtin.Tuple.tupleExact _) (wpAny_newObj_type (wpAny_pure ⟨_, rfl, wpAny_pure h⟩) htake)
    | exact wpAny_bind (m := Builtin.Tuple.tupleExact _) (wpAny_newObj_type (wpAny_bind (wpAny_pure (wpAny_pure ⟨_, rfl, wpAny_pure h⟩))) htake)
    | exact wpAny_bind (wpAny_bind (m := Builtin.Tuple.tupleExact _) (wpAny_newObj_type (wpAny_pure (wpAny_pure ⟨_, rfl, wpAny_pure h⟩)) htake))
    | exact wpAny_bind (wpAny_bind (m := Builtin.Tuple.tupleExact _) (wpAny_newObj_type (wpAny_pure ⟨_, rfl, wpAny_pure h⟩) htake))
end
end HT
namespace Mine
open PySem PySem.Spec PyProof.Rows L2
section
variable {X : Cx}
/-- x[::-1] of a list or a tuple -/
def tRevU (te : TE) : TE := fun σ H Q => te σ H fun x H1 => ∃ a xs, x = .ref a ∧ ((H1 a = some (.lst xs) ∧ ∀ p, H1 p = none → Q (.ref p) (upd H1 p (.lst xs.reverse))) ∨ (H1 a = some (.tup xs) ∧ ∀ p, H1 p = none → Q (.ref p) (upd H1 p (.tup xs.reverse))))
theorem pe_revU {e : Expr} {te : TE} {k : Nat} {p1 p2 p3 pos : Pos} (he : PE X e te) : PE X (.Subscript e (.Slice none none (some (.UnaryOp .USub (.Constant (.int 1) k p1) p2)) p3) pos) (tRevU te) := by
  refine ⟨fun pins s σ H Q I h => ?_⟩
  refine Subscript_ (thn (he.run pins s σ H _ I h) fun v s1 ⟨x, H1, I1, r1, q1⟩ => ?_)
  obtain ⟨a, xs, ex, q1⟩ := q1
  subst ex
  cases r1
  have hst : PO X (some (.UnaryOp .USub (.Constant (.int 1) k p1) p2)) (tPart (tUn (rU fun i => .int (-i)) (tC (.int 1)))) := po_some (pe_un un_neg pe_int)
  refine wpAny_Slice (thn (po_none.run pins s1 σ H1 (fun o H2 => o = none ∧ H2 = H1) I1 ⟨rfl, rfl⟩) fun vl s2 ⟨l, H2, I2, pl, el, e2⟩ => ?_)
  subst el e2
  refine thn (po_none.run pins s2 σ H2 (fun o H3 => o = none ∧ H3 = H2) I2 ⟨rfl, rfl⟩) fun vu s3 ⟨u, H3, I3, pu, eu, e3⟩ => ?_
  subst eu e3
  refine thn (hst.run pins s3 σ H3 (fun o H4 => o = some (-1) ∧ H4 = H3) I3 ⟨1, rfl, -1, rfl, rfl, rfl⟩) fun vs s4 ⟨o, H4, I4, ps, eo, e4⟩ => ?_
  subst eo e4
  have I5 : Inv X pins σ H4 { s4 with heap := s4.heap.push { cls := .type "slice", data := .fields #[vl, vu, vs] } } := I4.kept (t' := s4.toks) fun b ob q => Heap.get?_push_of_some _ q
  show wpAny (model X.prog X.w) X.A (subscriptTail e (.Slice none none (some (.UnaryOp .USub (.Constant (.int 1) k p1) p2)) p3) (.ref a) (.ref s4.heap.objs.size)) (EP X pins σ Q) X.xe { s4 with heap := s4.heap.push { cls := .type "slice", data := .fields #[vl, vu, vs] } }
  rcases q1 with ⟨hx, q⟩ | ⟨hx, q⟩
  · obtain ⟨its, r, ht, hz⟩ := I5.list (.inl (.inl hx))
    have hlen := r.length
    refine tail_any (ops := [.ref a, .ref s4.heap.objs.size]) ht.isList.typeIs (PySem.slot_list_getitem.lookup) ?_ (by with_unfolding_all rfl)
    refine wpAny_getItem_list_slice ht.isList (Heap.IsSliceOf.new _ vl vu vs) pl pu ps (by decide) ?_ (by rw [List.size_toArray]; omega)
    rw [PySem.W.krv_pick]
    refine ⟨.ref _, _, I5.laid (t' := s4.toks) (o := .lst xs.reverse) (fun b ob q => Heap.get?_push_of_some _ q) (Nat.le_refl _) ?_, rfl, q _ (I5.hok.fresh (Nat.le_refl _))⟩
    exact ⟨by rw [List.length_reverse]; exact hz, _, 0, r.reverse, Heap.get?_push_size _ rfl⟩
  · obtain ⟨its, r, ht, hz⟩ := I5.tuple (.inl (.inl hx))
    have hlen := r.length
    refine tail_any (ops := [.ref a, .ref s4.heap.objs.size]) ht.typeIs (PyProof.Rows.slot_tuple_getitem.lookup) ?_ (by with_unfolding_all rfl)
    cases pl
    cases pu
    refine HT.mine_getItem_tuple_rev ht (Heap.IsSliceOf.new _ .none .none vs) ps ?_ (by rw [List.size_toArray]; omega)
    refine ⟨.ref _, _, I5.laid (t' := s4.toks) (o := .tup xs.reverse) (fun b ob q => Heap.get?_push_of_some _ q) (Nat.le_refl _) ?_, rfl, q _ (I5.hok.fresh (Nat.le_refl _))⟩
    exact ⟨by rw [List.length_reverse]; exact hz, _, r.reverse, IsTup.new _ _⟩
end
end Mine

namespace Mine
open PySem PySem.Spec PyProof.Rows L2
/-! ### data as the library's data -/
mutual
def Dt.py : Dt → Option PyData
  | .non => some .none
  | .bl b => some (.bool b)
  | .int i => some (.int i)
  | .str x => some (.str x)
  | .tup xs => (Dt.pys xs).map .tuple
  | .lst xs => (Dt.pys xs).map .list
  | _ => none
def Dt.pys : List Dt → Option (List PyData)
  | [] => some []
  | x :: xs => match Dt.py x, Dt.pys xs with
    | some p, some ps => some (p :: ps)
    | _, _ => none
end
section
variable {K : PySem.W.Frag} {H : Hp}
mutual
theorem Den.dp : ∀ {v : V} {d : Dt} {p : PyData}, Den K H v d → d.py = some p → Dp K H v p
  | _, _, _, .non, e => by rw [Dt.py] at e; injection e with e; subst e; exact .non
  | _, _, _, .bl b, e => by rw [Dt.py] at e; injection e with e; subst e; exact .bl b
  | _, _, _, .int i, e => by rw [Dt.py] at e; injection e with e; subst e; exact .int i
  | _, _, _, .str x, e => by rw [Dt.py] at e; injection e with e; subst e; exact .str x
  | _, _, _, .tup h a, e => by
    rw [Dt.py, Option.map_eq_some_iff] at e
    obtain ⟨ps, e1, rfl⟩ := e
    exact .tup (.inl (.inl h)) (DenAll.dp a e1)
  | _, _, _, .lst h a, e => by
    rw [Dt.py, Option.map_eq_some_iff] at e
    obtain ⟨ps, e1, rfl⟩ := e
    exact .lst (.inl (.inl h)) (DenAll.dp a e1)
  | _, _, _, .dk _ _ _, e => by rw [Dt.py] at e <;> cases e
  | _, _, _, .ins _ _ _, e => by rw [Dt.py] at e <;> cases e
  | _, _, _, .raw v, e => by rw [Dt.py] at e <;> cases e
theorem DenAll.dp : ∀ {vs : List V} {ds : List Dt} {ps : List PyData}, DenAll K H vs ds → Dt.pys ds = some ps → DpAll K H vs ps
  | _, _, _, .nil, e => by rw [Dt.pys] at e; injection e with e; subst e; exact .nil
  | _, _, _, @DenAll.cons _ _ _ _ d ds a b, e => by
    rw [Dt.pys] at e
    cases h1 : Dt.py d with
    | none => rw [h1] at e; cases e
    | some p =>
      cases h2 : Dt.pys ds with
      | none => rw [h1, h2] at e; cases e
      | some ps =>
        rw [h1, h2] at e
        injection e with e
        subst e
        exact .cons (Den.dp a h1) (DenAll.dp b h2)
end
end
/-- equal, as Python has it; of a shape that may be asked -/
def Dt.eqv (a b : Dt) : Bool := match a.py, b.py with
  | some p, some q => PyData.eqv p q
  | _, _ => false
def Dt.sh (a : Dt) : Prop := ∃ p, a.py = some p ∧ SeqAt.shaped p = true
theorem Dt.eqv_of {a b : Dt} {p q : PyData} (h : a.py = some p) (h' : b.py = some q) : a.eqv b = PyData.eqv p q := by
  unfold Dt.eqv
  rw [h, h']
theorem Bor.dp {C : Bc} {X : Addr → Prop} {H H1 : Hp} {v : V} {d : Dt} {p : PyData} (h : Bor C X H1 H v d) (e : d.py = some p) : Dp C.K H v p := by
  rcases h with h | ⟨a, vs, ds, rfl, rfl, n, h1, h2⟩
  · exact (h.mono vis_sub).dp e
  · rw [Dt.py, Option.map_eq_some_iff] at e
    obtain ⟨ps, e1, rfl⟩ := e
    exact .lst (.inl (.inl h1)) ((h2.mono vis_sub).dp e1)
def dEq : D2 := fun a b Q => a.sh ∧ b.sh ∧ Q (.bl (a.eqv b))
def dNe : D2 := fun a b Q => a.sh ∧ b.sh ∧ Q (.bl (!a.eqv b))
section
variable {C : Bc}
theorem od_eq : OpD C (rEqD C.K) dEq := by
  intro X env σ H H1 x y a b Q Qd rp r1 r2 ⟨⟨p, e1, s1⟩, ⟨q, e2, s2⟩, he⟩ qq
  rw [Dt.eqv_of e1 e2] at he
  exact ⟨p, q, r1.dp e1, r2.dp e2, s1, s2, qq _ _ H (.refl H) (.bl _) he⟩
theorem od_ne : OpD C (rNeD C.K) dNe := by
  intro X env σ H H1 x y a b Q Qd rp r1 r2 ⟨⟨p, e1, s1⟩, ⟨q, e2, s2⟩, he⟩ qq
  rw [Dt.eqv_of e1 e2] at he
  exact ⟨p, q, r1.dp e1, r2.dp e2, s1, s2, qq _ _ H (.refl H) (.bl _) he⟩
end
/-! is None -/
def rIsN (b : Bool) : R2 := fun x y H Q => y = .non ∧ Q (.bl (if b then decide (x = .non) else !decide (x = .non))) H
def Dt.isN : Dt → Bool
  | .non => true
  | .raw .non => true
  | _ => false
def dIsN : D2 := fun a b Q => match b with
  | .non => Q (.bl a.isN)
  | _ => False
def dNotN : D2 := fun a b Q => match b with
  | .non => Q (.bl (!a.isN))
  | _ => False
section
variable {C : Bc} {X : Addr → Prop} {H H1 : Hp} {v : V}
theorem Bor.isN {a : Dt} (h : Bor C X H1 H v a) : decide (v = .non) = a.isN := by
  rcases h with h | ⟨_, _, _, rfl, rfl, _⟩
  · cases h with
    | raw v => cases v <;> rfl
    | _ => rfl
  · rfl
theorem od_isN : OpD C (fun x y H Q => y = .non ∧ Q (.bl (decide (x = .non))) H) dIsN := by
  intro X env σ H H1 x y a b Q Qd rp r1 r2 he q
  unfold dIsN at he
  split at he
  · exact ⟨r2.non, q _ _ H (.refl H) (by rw [r1.isN]; exact .bl _) he⟩
  · exact he.elim
theorem od_notN : OpD C (fun x y H Q => y = .non ∧ Q (.bl (!decide (x = .non))) H) dNotN := by
  intro X env σ H H1 x y a b Q Qd rp r1 r2 he q
  unfold dNotN at he
  split at he
  · exact ⟨r2.non, q _ _ H (.refl H) (by rw [r1.isN]; exact .bl _) he⟩
  · exact he.elim
end
/-! in -/
def rInT (K : PySem.W.Frag) : R2 := fun x y H Q => ∃ d ds, Dp K H x d ∧ Dp K H y (.tuple ds) ∧ SeqAt.shaped d = true ∧ SeqAt.shaped (.tuple ds) = true ∧ Q (.bl (ds.any fun z => PyData.eqv z d)) H
def rNotInT (K : PySem.W.Frag) : R2 := fun x y H Q => ∃ d ds, Dp K H x d ∧ Dp K H y (.tuple ds) ∧ SeqAt.shaped d = true ∧ SeqAt.shaped (.tuple ds) = true ∧ Q (.bl (!ds.any fun z => PyData.eqv z d)) H
section
variable {X : Cx}
theorem op_inT (hu : X.A.units + 65 < cLine) : OpR X (compareOp .In) (rInT X.K) := by
  intro pins s σ H x y v u Q I rx ry h
  obtain ⟨d, ds, hd, he, sd, se, q⟩ := h
  obtain ⟨as, r1⟩ := Dp.reads I d x v hd rx
  obtain ⟨bs, r2⟩ := Dp.reads I (.tuple ds) y u he ry
  exact SeqAt.in_tuple_reads r2 r1 (SeqAt.canLay_of_shaped se) (SeqAt.canLay_of_shaped sd) (room_in_shaped sd hu) ⟨.bl _, H, I, rfl, q⟩
theorem op_notInT (hu : X.A.units + 65 < cLine) : OpR X (compareOp .NotIn) (rNotInT X.K) := by
  intro pins s σ H x y v u Q I rx ry h
  obtain ⟨d, ds, hd, he, sd, se, q⟩ := h
  obtain ⟨as, r1⟩ := Dp.reads I d x v hd rx
  obtain ⟨bs, r2⟩ := Dp.reads I (.tuple ds) y u he ry
  exact SeqAt.notIn_tuple_reads r2 r1 (SeqAt.canLay_of_shaped se) (SeqAt.canLay_of_shaped sd) (room_in_shaped sd hu) ⟨.bl _, H, I, rfl, q⟩
def rInSt : R2 := fun x y H Q => ∃ i j, x = .str i ∧ y = .str j ∧ Q (.bl (!(Builtin.Str.occurrences j i 0 j.length 1).isEmpty)) H
def rNotInSt : R2 := fun x y H Q => ∃ i j, x = .str i ∧ y = .str j ∧ Q (.bl (!(!(Builtin.Str.occurrences j i 0 j.length 1).isEmpty))) H
def rInU (K : PySem.W.Frag) : R2 := fun x y H Q => rInD K x y H Q ∨ (rInT K x y H Q ∨ rInSt x y H Q)
def rNotInU (K : PySem.W.Frag) : R2 := fun x y H Q => rNotInD K x y H Q ∨ (rNotInT K x y H Q ∨ rNotInSt x y H Q)
theorem op_inU {K : PySem.W.Frag} (e : X.K = K) (hu : X.A.units + 65 < cLine) : OpR X (compareOp .In) (rInU K) := e ▸ (op_inD hu).or ((op_inT hu).or (OpR.weak op_in_str fun _ _ _ _ h => h))
theorem op_notInU {K : PySem.W.Frag} (e : X.K = K) (hu : X.A.units + 65 < cLine) : OpR X (compareOp .NotIn) (rNotInU K) := e ▸ (op_notInD hu).or ((op_notInT hu).or (OpR.weak op_notin_str fun _ _ _ _ h => h))
end
def dIn : D2 := fun a b Q => match b with
  | .lst ys => a.sh ∧ Dt.sh (.lst ys) ∧ Q (.bl (ys.any fun y => y.eqv a))
  | .tup ys => a.sh ∧ Dt.sh (.tup ys) ∧ Q (.bl (ys.any fun y => y.eqv a))
  | .str z => match a with
    | .str x => Q (.bl (!(Builtin.Str.occurrences z x 0 z.length 1).isEmpty))
    | _ => False
  | _ => False
def dNotIn : D2 := fun a b Q => match b with
  | .lst ys => a.sh ∧ Dt.sh (.lst ys) ∧ Q (.bl (!ys.any fun y => y.eqv a))
  | .tup ys => a.sh ∧ Dt.sh (.tup ys) ∧ Q (.bl (!ys.any fun y => y.eqv a))
  | .str z => match a with
    | .str x => Q (.bl (!(!(Builtin.Str.occurrences z x 0 z.length 1).isEmpty)))
    | _ => False
  | _ => False
theorem any_eqv {a : Dt} {p : PyData} (e : a.py = some p) : ∀ {ys : List Dt} {ps : List PyData}, Dt.pys ys = some ps → (ps.any fun z => PyData.eqv z p) = ys.any fun y => y.eqv a
  | [], _, h => by rw [Dt.pys] at h; injection h with h; subst h; rfl
  | y :: ys, _, h => by
    rw [Dt.pys] at h
    cases h1 : Dt.py y with
    | none => rw [h1] at h; cases h
    | some q =>
      cases h2 : Dt.pys ys with
      | none => rw [h1, h2] at h; cases h
      | some qs =>
        rw [h1, h2] at h
        injection h with h
        subst h
        rw [List.any_cons, List.any_cons, any_eqv e h2, Dt.eqv_of h1 e]
section
variable {C : Bc}
theorem od_in : OpD C (rInU C.K) dIn := by
  intro X env σ H H1 x y a b Q Qd rp r1 r2 he q
  unfold dIn at he
  split at he
  · obtain ⟨⟨p, e1, s1⟩, ⟨pl, e2, s2⟩, he⟩ := he
    have e2' := e2
    rw [Dt.py, Option.map_eq_some_iff] at e2
    obtain ⟨ps, e3, rfl⟩ := e2
    exact .inl ⟨p, ps, r1.dp e1, r2.dp e2', s1, s2, by rw [any_eqv e1 e3]; exact q _ _ H (.refl H) (.bl _) he⟩
  · obtain ⟨⟨p, e1, s1⟩, ⟨pl, e2, s2⟩, he⟩ := he
    have e2' := e2
    rw [Dt.py, Option.map_eq_some_iff] at e2
    obtain ⟨ps, e3, rfl⟩ := e2
    exact .inr (.inl ⟨p, ps, r1.dp e1, r2.dp e2', s1, s2, by rw [any_eqv e1 e3]; exact q _ _ H (.refl H) (.bl _) he⟩)
  · split at he
    · exact .inr (.inr ⟨_, _, r1.str, r2.str, q _ _ H (.refl H) (.bl _) he⟩)
    · exact he.elim
  · exact he.elim
theorem od_notIn : OpD C (rNotInU C.K) dNotIn := by
  intro X env σ H H1 x y a b Q Qd rp r1 r2 he q
  unfold dNotIn at he
  split at he
  · obtain ⟨⟨p, e1, s1⟩, ⟨pl, e2, s2⟩, he⟩ := he
    have e2' := e2
    rw [Dt.py, Option.map_eq_some_iff] at e2
    obtain ⟨ps, e3, rfl⟩ := e2
    exact .inl ⟨p, ps, r1.dp e1, r2.dp e2', s1, s2, by rw [any_eqv e1 e3]; exact q _ _ H (.refl H) (.bl _) he⟩
  · obtain ⟨⟨p, e1, s1⟩, ⟨pl, e2, s2⟩, he⟩ := he
    have e2' := e2
    rw [Dt.py, Option.map_eq_some_iff] at e2
    obtain ⟨ps, e3, rfl⟩ := e2
    exact .inr (.inl ⟨p, ps, r1.dp e1, r2.dp e2', s1, s2, by rw [any_eqv e1 e3]; exact q _ _ H (.refl H) (.bl _) he⟩)
  · split at he
    · exact .inr (.inr ⟨_, _, r1.str, r2.str, q _ _ H (.refl H) (.bl _) he⟩)
    · exact he.elim
  · exact he.elim
end
/-! the operators of whole numbers -/
abbrev dSub : D2 := dI0 fun i j => .int (i - j)
abbrev dFdiv : D2 := dI CDiv fun i j => .int (i / j)
abbrev dMod : D2 := dI (fun _ j => 0 < j) fun i j => .int (i % j)
abbrev dPow : D2 := dI CPow fun i j => .int (i ^ j.toNat)
abbrev dShl : D2 := dI CPow fun i j => .int (i * 2 ^ j.toNat)
abbrev dShr : D2 := dI (fun _ j => 0 ≤ j) fun i j => .int (i / 2 ^ j.toNat)
abbrev dAnd : D2 := dI0 fun i j => .int (Builtin.bitAnd i j)
abbrev dOr : D2 := dI0 fun i j => .int (Builtin.bitOr i j)
abbrev dXor : D2 := dI0 fun i j => .int (Builtin.bitXor i j)
abbrev dLe : D2 := dI0 fun i j => .bl (decide (i ≤ j))
abbrev dGt : D2 := dI0 fun i j => .bl (decide (j < i))
abbrev dGe : D2 := dI0 fun i j => .bl (decide (j ≤ i))
def rLtSt : R2 := fun x y H Q => ∃ i j, x = .str i ∧ y = .str j ∧ Q (.bl (decide (i.cps.toList < j.cps.toList))) H
def rLtU (K : PySem.W.Frag) : R2 := fun x y H Q => rI0 (fun i j => .bl (decide (i < j))) x y H Q ∨ (rLtT K x y H Q ∨ rLtSt x y H Q)
theorem op_ltU {X : Cx} {K : PySem.W.Frag} (e : X.K = K) (hu : X.A.units < cLine) : OpR X (compareOp .Lt) (rLtU K) := e ▸ op_lt.or ((op_ltT hu).or (OpR.weak op_lt_str fun _ _ _ _ h => h))
def dLt : D2 := fun a b Q => match a, b with
  | .int i, .int j => Q (.bl (decide (i < j)))
  | .tup xs, .tup ys => ∃ ns ms : List Int, xs = ns.map .int ∧ ys = ms.map .int ∧ Q (.bl (HT.lexLt ns ms))
  | .str x, .str y => Q (.bl (decide (x.cps.toList < y.cps.toList)))
  | _, _ => False
theorem DenAll.ints_of {K : PySem.W.Frag} {H : Hp} : ∀ {vs : List V} {ns : List Int}, DenAll K H vs (ns.map .int) → vs = ns.map V.int
  | _, [], .nil => rfl
  | _, n :: ns, .cons a b => by rw [List.map_cons, a.flat rfl, DenAll.ints_of b]
section
variable {C : Bc}
theorem od_sub : OpD C (rI0 fun i j => .int (i - j)) dSub := od_I0 fun _ _ => rfl
theorem od_fdiv : OpD C (rI CDiv fun i j => .int (i / j)) dFdiv := od_I fun _ _ => rfl
theorem od_mod : OpD C (rI (fun _ j => 0 < j) fun i j => .int (i % j)) dMod := od_I fun _ _ => rfl
theorem od_pow : OpD C (rI CPow fun i j => .int (i ^ j.toNat)) dPow := od_I fun _ _ => rfl
theorem od_shl : OpD C (rI CPow fun i j => .int (i * 2 ^ j.toNat)) dShl := od_I fun _ _ => rfl
theorem od_shr : OpD C (rI (fun _ j => 0 ≤ j) fun i j => .int (i / 2 ^ j.toNat)) dShr := od_I fun _ _ => rfl
theorem od_and : OpD C (rI0 fun i j => .int (Builtin.bitAnd i j)) dAnd := od_I0 fun _ _ => rfl
theorem od_or : OpD C (rI0 fun i j => .int (Builtin.bitOr i j)) dOr := od_I0 fun _ _ => rfl
theorem od_xor : OpD C (rI0 fun i j => .int (Builtin.bitXor i j)) dXor := od_I0 fun _ _ => rfl
theorem od_le : OpD C (rI0 fun i j => .bl (decide (i ≤ j))) dLe := od_I0 fun _ _ => rfl
theorem od_gt : OpD C (rI0 fun i j => .bl (decide (j < i))) dGt := od_I0 fun _ _ => rfl
theorem od_ge : OpD C (rI0 fun i j => .bl (decide (j ≤ i))) dGe := od_I0 fun _ _ => rfl
theorem od_lt : OpD C (rLtU C.K) dLt := by
  intro X env σ H H1 x y a b Q Qd rp r1 r2 he q
  unfold dLt at he
  split at he
  · exact .inl ⟨_, _, r1.int, r2.int, q _ _ H (.refl H) (.bl _) he⟩
  · obtain ⟨ns, ms, rfl, rfl, he⟩ := he
    obtain ⟨p, vs, rfl, h1, a1⟩ := r1.tup
    obtain ⟨p2, vs2, rfl, h2, a2⟩ := r2.tup
    rw [a1.ints_of] at h1
    rw [a2.ints_of] at h2
    exact .inr (.inl ⟨p, p2, ns, ms, rfl, rfl, .inl (.inl h1), .inl (.inl h2), q _ _ H (.refl H) (.bl _) he⟩)
  · exact .inr (.inr ⟨_, _, r1.str, r2.str, q _ _ H (.refl H) (.bl _) he⟩)
  · exact he.elim
end
/-! ### one thing -/
def UnD (C : Bc) (r : V → Hp → VK → Prop) (f : D1) : Prop := ∀ X env σ H H1 x a (Q : VK) (Qd : Dt → Prop), Rep C X env σ H → Bor C X H1 H x a → f a Qd → (∀ d v H', Frm C.hd H H' → Cln C X H H' v d → Qd d → Q v H') → r x H Q
def eUn (f : D1) (a : DX) : DX := fun env Q E => a env (fun x => f x Q) E
def dNeg : D1 := fun a Q => match a with
  | .int i => Q (.int (-i))
  | _ => False
section
variable {C : Bc} {r : V → Hp → VK → Prop} {f : D1} {ta : TE} {a : DX}
theorem de_un (ho : UnD C r f) (ha : DB C ta a) : DE C (tUn r ta) (eUn f a) := by
  intro X env σ H Q Qd Qx rp he q x
  refine ha X env σ H _ _ Qx rp he (fun d v H1 f1 r1 he1 => ?_) x
  exact ho X env σ H1 H v d Q Qd (rp.step f1) r1 he1 fun d3 v3 H3 f3 r3 => q d3 v3 H3 (f1.trans f3) r3
theorem ud_neg : UnD C (rU fun i => .int (-i)) dNeg := by
  intro X env σ H H1 x a Q Qd rp r1 he q
  unfold dNeg at he
  split at he
  · exact ⟨_, r1.int, q _ _ H (.refl H) (.int _) he⟩
  · exact he.elim
end
/-! ### tests -/
def DT (C : Bc) (t : TT) (e : DTX) : Prop := ∀ X env σ H (Q : Bool → Hp → Prop) (Qd : Bool → Prop) (Qx : Xc → Prop), Rep C X env σ H → e env Qd Qx → (∀ b H', Frm C.hd H H' → Qd b → Q b H') → XOk C X σ H Qx → t σ H Q
def eTest (e : DX) : DTX := fun env Q E => e env (fun d => match d with
  | .bl b => Q b
  | _ => False) E
def eNotT (t : DTX) : DTX := fun env Q E => t env (fun b => Q (!b)) E
def eAndT (t u : DTX) : DTX := fun env Q E => t env (fun b => if b = true then u env Q E else Q false) E
def eOrT (t u : DTX) : DTX := fun env Q E => t env (fun b => if b = true then Q true else u env Q E) E
def dTru (d : Dt) (Q : Bool → Prop) : Prop := match d with
  | .non => Q false
  | .bl b => Q b
  | .int i => Q (i != 0)
  | .str y => y.length ≤ LINE ∧ Q ((y.length : Int) != 0)
  | .lst xs => Q (!xs.isEmpty)
  | .tup xs => Q (!xs.isEmpty)
  | .dk ks _ => Q (!ks.isEmpty)
  | _ => False
def eTru (e : DX) : DTX := fun env Q E => e env (fun d => dTru d Q) E
/-- a test by truth, the fragment by name -/
def tTru (K : PySem.W.Frag) (ta : TE) : TT := fun σ H Q => ta σ H fun x H' => ∃ k, TruV K x H' k ∧ Q k H'
theorem pt_tru {X : Cx} {K : PySem.W.Frag} {a : Expr} {ta : TE} (e : X.K = K) (ha : PE X a ta) (he : ∀ whole, isTrue a X.env whole = (do let v ← whole; standAt a.pos; holding [v] (truthy v))) : PT X a (tTru K ta) := e ▸ pt_truth ha he
section
variable {C : Bc} {t u : TT} {a b : DTX} {ta tb : TE} {ea eb : DX}
theorem dt_test (h : DE C ta ea) : DT C (tTest ta) (eTest ea) := by
  intro X env σ H Q Qd Qx rp he q x
  refine h X env σ H _ _ Qx rp he (fun d v H1 f1 r1 he1 => ?_) x
  split at he1
  · exact ⟨_, r1.flat rfl, q _ _ f1 he1⟩
  · exact he1.elim
theorem dt_not (h : DT C t a) : DT C (tNot t) (eNotT a) := fun X env σ H Q Qd Qx rp he q x => h X env σ H _ _ Qx rp he (fun b H1 f1 he1 => q _ _ f1 he1) x
theorem dt_and (h : DT C t a) (k : DT C u b) : DT C (tAnd t u) (eAndT a b) := by
  intro X env σ H Q Qd Qx rp he q x
  refine h X env σ H _ _ Qx rp he (fun c H1 f1 he1 => ?_) x
  cases c with
  | true => rw [if_pos rfl] at he1 ⊢; exact k X env σ H1 Q Qd Qx (rp.step f1) he1 (fun b H2 f2 h2 => q b H2 (f1.trans f2) h2) (x.step f1)
  | false => rw [if_neg (by decide)] at he1 ⊢; exact q _ _ f1 he1
theorem dt_or (h : DT C t a) (k : DT C u b) : DT C (tOr t u) (eOrT a b) := by
  intro X env σ H Q Qd Qx rp he q x
  refine h X env σ H _ _ Qx rp he (fun c H1 f1 he1 => ?_) x
  cases c with
  | false => rw [if_neg (by decide)] at he1 ⊢; exact k X env σ H1 Q Qd Qx (rp.step f1) he1 (fun b H2 f2 h2 => q b H2 (f1.trans f2) h2) (x.step f1)
  | true => rw [if_pos rfl] at he1 ⊢; exact q _ _ f1 he1
theorem Bor.tru {X : Addr → Prop} {env : List Sl} {σ : L2.St} {H H1 : Hp} {v : V} {d : Dt} {Qd : Bool → Prop} (rp : Rep C X env σ H) (h : Bor C X H1 H v d) (he : dTru d Qd) : ∃ k, TruV C.K v H k ∧ Qd k := by
  cases d with
  | non => rw [h.non]; exact ⟨_, rfl, he⟩
  | bl b => rw [h.bl]; exact ⟨_, rfl, he⟩
  | int i => rw [h.int]; exact ⟨_, rfl, he⟩
  | str y => rw [h.str]; exact ⟨_, ⟨by rw [sizeLine_eq]; exact he.1, rfl⟩, he.2⟩
  | lst xs =>
    obtain ⟨p, vs, rfl, h1, a1⟩ := h.lst
    refine ⟨_, .inl ⟨vs, .inl (.inl h1), rfl⟩, ?_⟩
    have : vs.isEmpty = xs.isEmpty := by cases a1 <;> rfl
    rw [this]; exact he
  | tup xs =>
    obtain ⟨p, vs, rfl, h1, a1⟩ := h.tup
    refine ⟨_, .inr (.inl ⟨vs, .inl (.inl h1), rfl⟩), ?_⟩
    have : vs.isEmpty = xs.isEmpty := by cases a1 <;> rfl
    rw [this]; exact he
  | dt _ _ => exact he.elim
  | dk ks ds =>
    obtain ⟨p, vs, rfl, h1, l, a1⟩ := h.dk
    refine ⟨_, .inr (.inr ⟨_, h1, rfl⟩), ?_⟩
    have : (ks.zip vs).isEmpty = ks.isEmpty := by
      cases ks with
      | nil => rfl
      | cons k ks =>
        cases vs with
        | nil => cases l
        | cons v vs => rfl
    rw [this]; exact he
  | ins _ _ _ => exact he.elim
  | raw _ => exact he.elim
theorem dt_tru (h : DB C ta ea) : DT C (tTru C.K ta) (eTru ea) := by
  intro X env σ H Q Qd Qx rp he q x
  refine h X env σ H _ _ Qx rp he (fun d v H1 f1 r1 he1 => ?_) x
  obtain ⟨k, h1, h2⟩ := r1.tru (rp.step f1) he1
  exact ⟨k, h1, q _ _ f1 h2⟩
/-! as values -/
def eBool (d : Dt) (Q : Bool → Prop) : Prop := match d with
  | .bl b => Q b
  | _ => False
def eAndV (a b : DX) : DX := fun env Q E => a env (fun d => eBool d fun c => if c = true then b env Q E else Q (.bl false)) E
def eOrV (a b : DX) : DX := fun env Q E => a env (fun d => eBool d fun c => if c = true then Q (.bl true) else b env Q E) E
def eNotV (a : DX) : DX := fun env Q E => a env (fun d => eBool d fun c => Q (.bl (!c))) E
def eIf (t : DTX) (a b : DX) : DX := fun env Q E => t env (fun c => if c = true then a env Q E else b env Q E) E
theorem eBool_of {d : Dt} {Q : Bool → Prop} (h : eBool d Q) : ∃ c, d = .bl c ∧ Q c := by
  cases d <;> first | exact ⟨_, rfl, h⟩ | exact h.elim
theorem de_andV (h : DE C ta ea) (k : DE C tb eb) : DE C (tAndV ta tb) (eAndV ea eb) := by
  intro X env σ H Q Qd Qx rp he q x
  refine h X env σ H _ _ Qx rp he (fun d v H1 f1 r1 he1 => ?_) x
  obtain ⟨c, rfl, he2⟩ := eBool_of he1
  refine ⟨c, r1.flat rfl, ?_⟩
  cases c with
  | true => rw [if_pos rfl] at he2 ⊢; exact k X env σ H1 Q Qd Qx (rp.step f1) he2 (fun d v H2 f2 h2 => q d v H2 (f1.trans f2) h2) (x.step f1)
  | false => rw [if_neg (by decide)] at he2 ⊢; exact q _ _ _ f1 (.bl _) he2
theorem de_orV (h : DE C ta ea) (k : DE C tb eb) : DE C (tOrV ta tb) (eOrV ea eb) := by
  intro X env σ H Q Qd Qx rp he q x
  refine h X env σ H _ _ Qx rp he (fun d v H1 f1 r1 he1 => ?_) x
  obtain ⟨c, rfl, he2⟩ := eBool_of he1
  refine ⟨c, r1.flat rfl, ?_⟩
  cases c with
  | false => rw [if_neg (by decide)] at he2 ⊢; exact k X env σ H1 Q Qd Qx (rp.step f1) he2 (fun d v H2 f2 h2 => q d v H2 (f1.trans f2) h2) (x.step f1)
  | true => rw [if_pos rfl] at he2 ⊢; exact q _ _ _ f1 (.bl _) he2
theorem de_notV (h : DE C ta ea) : DE C (tNotV ta) (eNotV ea) := by
  intro X env σ H Q Qd Qx rp he q x
  refine h X env σ H _ _ Qx rp he (fun d v H1 f1 r1 he1 => ?_) x
  obtain ⟨c, rfl, he2⟩ := eBool_of he1
  exact ⟨c, r1.flat rfl, q _ _ _ f1 (.bl _) he2⟩
theorem dg_if {R : RR} [RRs R] (h : DT C t a) (k : DEg R C ta ea) (l : DEg R C tb eb) : DEg R C (tIf t ta tb) (eIf a ea eb) := by
  intro X env σ H Q Qd Qx rp he q x
  refine h X env σ H _ _ Qx rp he (fun c H1 f1 he1 => ?_) x
  cases c with
  | true => rw [if_pos rfl] at he1 ⊢; exact k X env σ H1 Q Qd Qx (rp.step f1) he1 (fun d v H2 f2 h2 => q d v H2 (f1.trans f2) (RRs.st rp f1 h2)) (x.step f1)
  | false => rw [if_neg (by decide)] at he1 ⊢; exact l X env σ H1 Q Qd Qx (rp.step f1) he1 (fun d v H2 f2 h2 => q d v H2 (f1.trans f2) (RRs.st rp f1 h2)) (x.step f1)
/-- a < b < c -/
def eChain (f g : D2) (a b c : DX) : DX := fun env Q E => a env (fun x => b env (fun y => f x y fun d => eBool d fun k => if k = true then c env (fun z => g y z Q) E else Q (.bl false)) E) E
theorem de_chain {r r' : R2} {f g : D2} {tc : TE} {ec : DX} (ho : OpD C r f) (ho' : OpD C r' g) (ha : DB C ta ea) (hb : DB C tb eb) (hc : DB C tc ec) : DE C (tChain r r' ta tb tc) (eChain f g ea eb ec) := by
  intro X env σ H Q Qd Qx rp he q x
  refine ha X env σ H _ _ Qx rp he (fun d v H1 f1 r1 he1 => ?_) x
  have rp1 := rp.step f1
  refine hb X env σ H1 _ _ Qx rp1 he1 (fun d2 v2 H2 f2 r2 he2 => ?_) (x.step f1)
  have rp2 := rp1.step f2
  refine ho X env σ H2 H1 v v2 d d2 _ _ rp2 (r1.frm rp1 f2) r2 he2 fun d3 v3 H3 f3 r3 he3 => ?_
  obtain ⟨k, rfl, he5⟩ := eBool_of he3
  refine ⟨k, r3.flat rfl, ?_⟩
  have rp3 := rp2.step f3
  cases k with
  | false => rw [if_neg (by decide)] at he5 ⊢; exact q _ _ _ (f1.trans (f2.trans f3)) (.bl _) he5
  | true =>
    rw [if_pos rfl] at he5 ⊢
    refine hc X env σ H3 _ _ Qx rp3 he5 (fun d4 v4 H4 f4 r4 he4 => ?_) ((x.step f1).step (f2.trans f3))
    exact ho' X env σ H4 H3 v2 v4 d2 d4 Q Qd (rp3.step f4) ((r2.frm rp2 f3).frm rp3 f4) r4 he4 fun d5 v5 H5 f5 r5 => q d5 v5 H5 (f1.trans (f2.trans (f3.trans (f4.trans f5)))) r5
end
end Mine

namespace Mine
open PySem PySem.Spec PyProof.Rows L2
/-! ### rows of expressions -/
inductive BorAll (C : Bc) (X : Addr → Prop) (H : Hp) : List V → List Dt → Prop
  | nil : BorAll C X H [] []
  | cons {v : V} {vs : List V} {d : Dt} {ds : List Dt} : Bor C X H H v d → BorAll C X H vs ds → BorAll C X H (v :: vs) (d :: ds)
inductive SlAll (K : PySem.W.Frag) (hd : Hnd) (X : Addr → Prop) (H : Hp) : List V → List Sl → Prop
  | nil : SlAll K hd X H [] []
  | d {v : V} {vs : List V} {x : Dt} {ss : List Sl} : Den K (vis H X) v x → SlAll K hd X H vs ss → SlAll K hd X H (v :: vs) (.d x :: ss)
  | hand {h c : Addr} {vs : List V} {ss : List Sl} : hd = some (h, c) → SlAll K hd X H vs ss → SlAll K hd X H (.ref h :: vs) (.hand :: ss)
theorem Bor.frm1 {C : Bc} {X : Addr → Prop} {env : List Sl} {σ : L2.St} {H H1 H2 H' : Hp} {v : V} {d : Dt} (r : Rep C X env σ H) (f : Frm C.hd H H') (h : Bor C X H1 H v d) : Bor C X H2 H' v d := h.frm r f
theorem SlAll.length {K : PySem.W.Frag} {hd : Hnd} {X : Addr → Prop} {H : Hp} : ∀ {vs : List V} {ss : List Sl}, SlAll K hd X H vs ss → vs.length = ss.length
  | _, _, .nil => rfl
  | _, _, .d _ r => by rw [List.length_cons, List.length_cons, r.length]
  | _, _, .hand _ r => by rw [List.length_cons, List.length_cons, r.length]
theorem SlAll.append {K : PySem.W.Frag} {hd : Hnd} {X : Addr → Prop} {H : Hp} : ∀ {vs us : List V} {ss ts : List Sl}, SlAll K hd X H vs ss → SlAll K hd X H us ts → SlAll K hd X H (vs ++ us) (ss ++ ts)
  | _, _, _, _, .nil, b => b
  | _, _, _, _, .d a r, b => .d a (r.append b)
  | _, _, _, _, .hand a r, b => .hand a (r.append b)
/-- args, by how they stand -/
def DAg {δ : Type} (A : Bc → (Addr → Prop) → Hp → List V → List δ → Prop) (C : Bc) (t : TA) (e : List Sl → (List δ → Prop) → (Xc → Prop) → Prop) : Prop :=
  ∀ X env σ H (Q : List V → Hp → Prop) (Qd : List δ → Prop) (Qx : Xc → Prop), Rep C X env σ H → e env Qd Qx → (∀ ds vs H', Frm C.hd H H' → A C X H' vs ds → Qd ds → Q vs H') → XOk C X σ H Qx → t σ H Q
def AC (C : Bc) (X : Addr → Prop) (H : Hp) (vs : List V) (ds : List Dt) : Prop := DenAll C.K (vis H X) vs ds
def AS (C : Bc) (X : Addr → Prop) (H : Hp) (vs : List V) (ss : List Sl) : Prop := SlAll C.K C.hd X H vs ss
abbrev DA := DAg AC
abbrev DAb := DAg BorAll
abbrev DAs := DAg AS
def eNil {δ : Type} : List Sl → (List δ → Prop) → (Xc → Prop) → Prop := fun _ Q _ => Q []
def eCons (a : DX) (r : DAX) : DAX := fun env Q E => a env (fun d => r env (fun ds => Q (d :: ds)) E) E
def eConsS (a : DX) (r : DSX) : DSX := fun env Q E => a env (fun d => r env (fun ds => Q (.d d :: ds)) E) E
def eConsH (i : Nat) (r : DSX) : DSX := fun env Q E => match env[i]? with
  | some .hand => r env (fun ds => Q (.hand :: ds)) E
  | _ => False
section
variable {C : Bc} {ta : TE} {tr : TA} {a : DX} {r : DAX} {rs : DSX}
theorem da_nil : DA C tNil eNil := fun X env σ H Q Qd Qx rp he q x => q [] [] H (.refl H) .nil he
theorem db_nil : DAb C tNil eNil := fun X env σ H Q Qd Qx rp he q x => q [] [] H (.refl H) .nil he
theorem ds_nil : DAs C tNil eNil := fun X env σ H Q Qd Qx rp he q x => q [] [] H (.refl H) .nil he
theorem da_cons (ha : DE C ta a) (hr : DA C tr r) : DA C (tCons ta tr) (eCons a r) := by
  intro X env σ H Q Qd Qx rp he q x
  refine ha X env σ H _ _ Qx rp he (fun d v H1 f1 r1 he1 => ?_) x
  have rp1 := rp.step f1
  exact hr X env σ H1 _ _ Qx rp1 he1 (fun ds vs H2 f2 r2 he2 => q _ _ H2 (f1.trans f2) (.cons (Den.mono (rp1.vs f2) r1) r2) he2) (x.step f1)
theorem db_cons (ha : DB C ta a) (hr : DAb C tr r) : DAb C (tCons ta tr) (eCons a r) := by
  intro X env σ H Q Qd Qx rp he q x
  refine ha X env σ H _ _ Qx rp he (fun d v H1 f1 r1 he1 => ?_) x
  have rp1 := rp.step f1
  exact hr X env σ H1 _ _ Qx rp1 he1 (fun ds vs H2 f2 r2 he2 => q _ _ H2 (f1.trans f2) (.cons (r1.frm1 rp1 f2) r2) he2) (x.step f1)
theorem ds_cons (ha : DE C ta a) (hr : DAs C tr rs) : DAs C (tCons ta tr) (eConsS a rs) := by
  intro X env σ H Q Qd Qx rp he q x
  refine ha X env σ H _ _ Qx rp he (fun d v H1 f1 r1 he1 => ?_) x
  have rp1 := rp.step f1
  exact hr X env σ H1 _ _ Qx rp1 he1 (fun ds vs H2 f2 r2 he2 => q _ _ H2 (f1.trans f2) (.d (Den.mono (rp1.vs f2) r1) r2) he2) (x.step f1)
theorem ds_hand {i : Nat} (hr : DAs C tr rs) : DAs C (tCons (tVar i) tr) (eConsH i rs) := by
  intro X env σ H Q Qd Qx rp he q x
  unfold eConsH at he
  split at he
  · rename_i e
    obtain ⟨o, e1, h, c, rfl, e2⟩ := rp.slot i _ e
    refine ⟨.ref h, e1, ?_⟩
    exact hr X env σ H _ _ Qx rp he (fun ds vs H2 f2 r2 he2 => q _ _ H2 f2 (.hand e2 r2) he2) x
  · exact he.elim
/-! ### displays -/
def eTup (r : DAX) : DX := fun env Q E => r env (fun ds => ds.length ≤ LINE ∧ Q (.tup ds)) E
def eLst (r : DAX) : DX := fun env Q E => r env (fun ds => ds.length ≤ LINE ∧ Q (.lst ds)) E
theorem de_tup (hr : DA C tr r) : DE C (tTup tr) (eTup r) := by
  intro X env σ H Q Qd Qx rp he q x
  refine hr X env σ H _ _ Qx rp he (fun ds vs H1 f1 r1 he1 => ?_) x
  have r1 : DenAll C.K (vis H1 X) vs ds := r1
  exact ⟨by rw [r1.length, sizeLine_eq]; exact he1.1, fun p hp => q _ _ _ (f1.trans (.upd hp)) (cln_new (H1 := H1) (rp.step f1) hp r1) he1.2⟩
theorem df_lst (hr : DA C tr r) : DF C (tLst tr) (eLst r) := by
  intro X env σ H Q Qd Qx rp he q x
  refine hr X env σ H _ _ Qx rp he (fun ds vs H1 f1 r1 he1 => ?_) x
  have r1 : DenAll C.K (vis H1 X) vs ds := r1
  exact ⟨by rw [r1.length, sizeLine_eq]; exact he1.1, fun p hp => q _ _ _ (f1.trans (.upd hp)) ((fsh_new (rp.step f1) hp r1).frm rp f1) he1.2⟩
theorem df_dict : DF C (tC .non) (fun _ _ _ => False) := fun X env σ H Q Qd Qx rp he q x => he.elim
end
/-! ### the empty dict -/
def eDk0 : DX := fun _ Q _ => Q (.dk [] [])
theorem de_dk0 {C : Bc} {t : TE} (ht : ∀ σ H Q, (∀ d, H d = none → Q (.ref d) (upd H d (.dK []))) → t σ H Q) : DE C t eDk0 := by
  intro X env σ H Q Qd Qx rp he q x
  refine ht σ H Q fun p hp => q _ _ _ (.upd hp) ?_ he
  exact .dk (ks := []) (vs := []) (vis_mk (rp.free hp) upd_same) rfl .nil
/-! ### x[i] -/
theorem IxR.k {X : Cx} {r : PySem.W.Frag → R2} (h : IxR X (r X.K)) {K : PySem.W.Frag} (e : X.K = K) : IxR X (r K) := e ▸ h
def dIx : D2 := fun a b Q => match a, b with
  | .lst xs, .int k => ∃ x, atI xs k = some x ∧ Q x
  | .tup xs, .int k => ∃ x, atI xs k = some x ∧ Q x
  | .str z, .int k => z.length ≤ LINE ∧ ∃ c, atI z.cps.toList k = some c ∧ Q (.str ⟨#[c]⟩)
  | _, _ => False
theorem DenAll.atI {K : PySem.W.Frag} {H : Hp} {vs : List V} {ds : List Dt} {k : Int} {x : Dt} (h : DenAll K H vs ds) (e : L2.atI ds k = some x) : ∃ v, L2.atI vs k = some v ∧ Den K H v x := by
  unfold L2.atI at e ⊢
  rw [h.length]
  cases q : ixN ds.length k with
  | none => rw [q] at e; cases e
  | some j =>
    rw [q] at e
    obtain ⟨v, h1, h2⟩ := h.get (show ds[j]? = some x from e)
    exact ⟨v, h1, h2⟩
section
variable {C : Bc}
theorem od_ix : OpD C (rIx C.K) dIx := by
  intro X env σ H H1 x y a b Q Qd rp r1 r2 he q
  unfold dIx at he
  split at he
  · obtain ⟨d, e, he⟩ := he
    obtain ⟨p, vs, rfl, h1, a1⟩ := r1.lst
    obtain ⟨v, e2, h2⟩ := a1.atI e
    exact .inl ⟨p, vs, _, v, rfl, r2.int, .inl (.inl h1), e2, q _ _ H (.refl H) h2 he⟩
  · obtain ⟨d, e, he⟩ := he
    obtain ⟨p, vs, rfl, h1, a1⟩ := r1.tup
    obtain ⟨v, e2, h2⟩ := a1.atI e
    exact .inr (.inl ⟨p, vs, _, v, rfl, r2.int, .inl (.inl h1), e2, q _ _ H (.refl H) h2 he⟩)
  · obtain ⟨hz, c, e, he⟩ := he
    exact .inr (.inr ⟨_, _, c, r1.str, r2.int, by rw [sizeLine_eq]; exact hz, e, q _ _ H (.refl H) (.str _) he⟩)
  · exact he.elim
end
/-! ### slices -/
def cutG {α : Type} (xs : List α) (lo hi : Option Int) : List α := (xs.drop (HT.sIx xs.length 0 lo)).take (HT.sIx xs.length xs.length hi - HT.sIx xs.length 0 lo)
theorem DenAll.cut {K : PySem.W.Frag} {H : Hp} {vs : List V} {ds : List Dt} (h : DenAll K H vs ds) (lo hi : Option Int) : DenAll K H (cutV vs lo hi) (cutG ds lo hi) := by
  unfold cutV cutG
  rw [h.length]
  exact (h.drop _).take _
theorem SlR.or {X : Cx} {r r' : V → Option Int → Option Int → Hp → VK → Prop} (h : SlR X r) (h' : SlR X r') : SlR X (fun x lo hi H Q => r x lo hi H Q ∨ r' x lo hi H Q) := by
  intro pins s σ H x v vl vu lo hi sl Q I rx hs pl pu q
  rcases q with q | q
  · exact h pins s σ H x v vl vu lo hi sl Q I rx hs pl pu q
  · exact h' pins s σ H x v vl vu lo hi sl Q I rx hs pl pu q
abbrev D3 := Dt → Option Int → Option Int → (Dt → Prop) → Prop
def rSlU (K : PySem.W.Frag) : V → Option Int → Option Int → Hp → VK → Prop := fun x lo hi H Q => rSlL K x lo hi H Q ∨ (rSlA K x lo hi H Q ∨ L2.rSlS x lo hi H Q)
theorem sl_U {X : Cx} {K : PySem.W.Frag} (e : X.K = K) : SlR X (rSlU K) := e ▸ sl_list.or (sl_tupA.or L2.sl_str)
def dSl : D3 := fun a lo hi Q => match a with
  | .lst xs => Q (.lst (cutG xs lo hi))
  | .tup xs => Q (.tup (cutG xs lo hi))
  | .str z => z.length ≤ LINE ∧ Q (.str (cutS z lo hi))
  | _ => False
def dSlL : D3 := fun a lo hi Q => match a with
  | .lst xs => Q (.lst (cutG xs lo hi))
  | _ => False
def DOX := List Sl → (Option Int → Prop) → (Xc → Prop) → Prop
def eNoPart : DOX := fun _ Q _ => Q none
def ePart (e : DX) : DOX := fun env Q E => e env (fun d => match d with
  | .int i => Q (some i)
  | _ => False) E
def DO (C : Bc) (t : TO) (e : DOX) : Prop := ∀ X env σ H (Q : Option Int → Hp → Prop) (Qd : Option Int → Prop) (Qx : Xc → Prop), Rep C X env σ H → e env Qd Qx → (∀ o H', Frm C.hd H H' → Qd o → Q o H') → XOk C X σ H Qx → t σ H Q
def eSl (f : D3) (a : DX) (lo hi : DOX) : DX := fun env Q E => a env (fun d => lo env (fun l => hi env (fun u => f d l u Q) E) E) E
def SlG (R : RR) (C : Bc) (r : V → Option Int → Option Int → Hp → VK → Prop) (f : D3) : Prop := ∀ X env σ H H1 x a lo hi (Q : VK) (Qd : Dt → Prop), Rep C X env σ H → Bor C X H1 H x a → f a lo hi Qd → (∀ d v H', Frm C.hd H H' → R C X H H' v d → Qd d → Q v H') → r x lo hi H Q
section
variable {C : Bc} {te tl : TE} {ea el : DX} {lo hi : DOX} {t1 t2 : TO} {r : V → Option Int → Option Int → Hp → VK → Prop} {f : D3}
theorem do_none : DO C tNoPart eNoPart := fun X env σ H Q Qd Qx rp he q x => q _ H (.refl H) he
theorem do_some (h : DE C te ea) : DO C (tPart te) (ePart ea) := by
  intro X env σ H Q Qd Qx rp he q x
  refine h X env σ H _ _ Qx rp he (fun d v H1 f1 r1 he1 => ?_) x
  split at he1
  · exact ⟨_, r1.flat rfl, q _ _ f1 he1⟩
  · exact he1.elim
theorem dg_sl {R : RR} [RRs R] (hr : SlG R C r f) (he : DB C te ea) (h1 : DO C t1 lo) (h2 : DO C t2 hi) : DEg R C (tSl r te t1 t2) (eSl f ea lo hi) := by
  intro X env σ H Q Qd Qx rp he' q x
  refine he X env σ H _ _ Qx rp he' (fun d v H1 f1 r1 he1 => ?_) x
  have rp1 := rp.step f1
  refine h1 X env σ H1 _ _ Qx rp1 he1 (fun l H2 f2 he2 => ?_) (x.step f1)
  have rp2 := rp1.step f2
  refine h2 X env σ H2 _ _ Qx rp2 he2 (fun u H3 f3 he3 => ?_) ((x.step f1).step f2)
  have rp3 := rp2.step f3
  exact hr X env σ H3 H v d l u Q Qd rp3 ((r1.frm rp1 f2).frm rp2 f3) he3 fun d v H4 f4 r4 => q d v H4 (f1.trans (f2.trans (f3.trans f4))) (RRs.st rp (f1.trans (f2.trans f3)) r4)
theorem sg_L : SlG Fsh C (rSlU C.K) dSlL := by
  intro X env σ H H1 x a lo hi Q Qd rp r1 he q
  unfold dSlL at he
  split at he
  · obtain ⟨p, vs, rfl, h1, a1⟩ := r1.lst
    exact .inl ⟨p, vs, rfl, .inl (.inl h1), fun pn hp => q _ _ _ (.upd hp) (fsh_new rp hp (a1.cut lo hi)) he⟩
  · exact he.elim
theorem sg_U : SlG Cln C (rSlU C.K) dSl := by
  intro X env σ H H1 x a lo hi Q Qd rp r1 he q
  unfold dSl at he
  split at he
  · exact sg_L X env σ H H1 x _ lo hi Q Qd rp r1 he fun d v H' f h => q d v H' f (h.cln rp)
  · obtain ⟨p, vs, rfl, h1, a1⟩ := r1.tup
    refine .inr (.inl ⟨p, vs, rfl, .inl (.inl h1), fun ⟨c1, c2⟩ => ?_, fun _ pn hp => q _ _ _ (.upd hp) (cln_new rp hp (a1.cut lo hi)) he⟩)
    refine q _ _ H (.refl H) ?_ he
    have e := a1.cut lo hi
    rw [cut_all c1 c2] at e
    rcases r1 with r1 | ⟨_, _, _, _, e2, _⟩
    · cases r1 with
      | @tup _ xs' _ g g2 =>
        have e' : xs' = vs := by simpa using (vis_sub _ _ g).symm.trans h1
        subst e'
        exact .tup g e
    · cases e2
  · obtain ⟨hz, he⟩ := he
    exact .inr (.inr ⟨_, r1.str, by rw [sizeLine_eq]; exact hz, q _ _ H (.refl H) (.str _) he⟩)
  · exact he.elim
/-! x[::-1] -/
def eRev (a : DX) : DX := fun env Q E => a env (fun d => match d with
  | .lst xs => Q (.lst xs.reverse)
  | .tup xs => Q (.tup xs.reverse)
  | _ => False) E
def eRevL (a : DX) : DX := fun env Q E => a env (fun d => match d with
  | .lst xs => Q (.lst xs.reverse)
  | _ => False) E
theorem df_rev (he : DB C te ea) : DF C (tRevU te) (eRevL ea) := by
  intro X env σ H Q Qd Qx rp he' q x
  refine he X env σ H _ _ Qx rp he' (fun d v H1 f1 r1 he1 => ?_) x
  split at he1
  · obtain ⟨p, vs, rfl, h1, a1⟩ := r1.lst
    exact ⟨p, vs, rfl, .inl ⟨h1, fun pn hp => q _ _ _ (f1.trans (.upd hp)) ((fsh_new (rp.step f1) hp a1.reverse).frm rp f1) he1⟩⟩
  · exact he1.elim
theorem de_rev (he : DB C te ea) : DE C (tRevU te) (eRev ea) := by
  intro X env σ H Q Qd Qx rp he' q x
  refine he X env σ H _ _ Qx rp he' (fun d v H1 f1 r1 he1 => ?_) x
  split at he1
  · obtain ⟨p, vs, rfl, h1, a1⟩ := r1.lst
    exact ⟨p, vs, rfl, .inl ⟨h1, fun pn hp => q _ _ _ (f1.trans (.upd hp)) (Fsh.cln (H1 := H1) (rp.step f1) (fsh_new (rp.step f1) hp a1.reverse)) he1⟩⟩
  · obtain ⟨p, vs, rfl, h1, a1⟩ := r1.tup
    exact ⟨p, vs, rfl, .inr ⟨h1, fun pn hp => q _ _ _ (f1.trans (.upd hp)) (cln_new (H1 := H) (rp.step f1) hp a1.reverse) he1⟩⟩
  · exact he1.elim
end
/-! ### built-ins -/
abbrev DL := List Dt → (Dt → Prop) → Prop
def CallG (R : RR) (C : Bc) (r : List V → Hp → VK → Prop) (f : DL) : Prop := ∀ X env σ H vs ds (Q : VK) (Qd : Dt → Prop), Rep C X env σ H → BorAll C X H vs ds → f ds Qd → (∀ d v H', Frm C.hd H H' → R C X H H' v d → Qd d → Q v H') → r vs H Q
def eCB (f : DL) (a : DAX) : DX := fun env Q E => a env (fun ds => f ds Q) E
theorem dg_cb {R : RR} [RRs R] {C : Bc} {r : List V → Hp → VK → Prop} {f : DL} {t : TA} {a : DAX} (hr : CallG R C r f) (ha : DAb C t a) : DEg R C (tCB r t) (eCB f a) := by
  intro X env σ H Q Qd Qx rp he q x
  refine ha X env σ H _ _ Qx rp he (fun ds vs H1 f1 r1 he1 => ?_) x
  exact hr X env σ H1 vs ds Q Qd (rp.step f1) r1 he1 fun d v H2 f2 h => q d v H2 (f1.trans f2) (RRs.st rp f1 h)
theorem CallR.or {X : Cx} {f : Value} {r r' : List V → Hp → VK → Prop} (h : CallR X f r) (h' : CallR X f r') : CallR X f (fun xs H Q => r xs H Q ∨ r' xs H Q) := fun pins s σ H xs us Q I rx q =>
  q.elim (h pins s σ H xs us Q I rx) (h' pins s σ H xs us Q I rx)
theorem BorAll.one {C : Bc} {X : Addr → Prop} {H : Hp} {vs : List V} {a : Dt} (h : BorAll C X H vs [a]) : ∃ v, vs = [v] ∧ Bor C X H H v a := by
  cases h with
  | cons a r => cases r; exact ⟨_, rfl, a⟩
theorem BorAll.two {C : Bc} {X : Addr → Prop} {H : Hp} {vs : List V} {a b : Dt} (h : BorAll C X H vs [a, b]) : ∃ v u, vs = [v, u] ∧ Bor C X H H v a ∧ Bor C X H H u b := by
  cases h with
  | cons a r =>
    obtain ⟨u, rfl, b⟩ := r.one
    exact ⟨_, _, rfl, a, b⟩
/-! len -/
def rLenD : List V → Hp → VK → Prop := fun xs H Q => ∃ a kvs, xs = [V.ref a] ∧ H a = some (.dK kvs) ∧ Q (.int kvs.length) H
def rLenSeq (K : PySem.W.Frag) : List V → Hp → VK → Prop := fun xs H Q => ∃ p ys, xs = [.ref p] ∧ (SqL K H p ys ∨ SqT K H p ys) ∧ Q (.int ys.length) H
def rLenStr : List V → Hp → VK → Prop := fun xs H Q => ∃ z, xs = [.str z] ∧ z.length ≤ sizeLine ∧ Q (.int z.length) H
def rLenU (K : PySem.W.Frag) : List V → Hp → VK → Prop := fun xs H Q => rLenSeq K xs H Q ∨ (rLenStr xs H Q ∨ rLenD xs H Q)
theorem call_lenU {X : Cx} {K : PySem.W.Frag} (e : X.K = K) : CallR X (.builtin "len") (rLenU K) := e ▸ CallR.or (r := rLenSeq X.K) call_len_seq (CallR.or (r := rLenStr) call_len_str call_lenD)
def dLen : DL := fun ds Q => match ds with
  | [.lst xs] => Q (.int xs.length)
  | [.tup xs] => Q (.int xs.length)
  | [.str z] => z.length ≤ LINE ∧ Q (.int z.length)
  | [.dk ks _] => Q (.int ks.length)
  | _ => False
section
variable {C : Bc}
theorem cg_len : CallG Cln C (rLenU C.K) dLen := by
  intro X env σ H vs ds Q Qd rp ra he q
  unfold dLen at he
  split at he
  · obtain ⟨v, rfl, r1⟩ := ra.one
    obtain ⟨p, vs, rfl, h1, a1⟩ := r1.lst
    exact .inl ⟨p, vs, rfl, .inl (.inl (.inl h1)), by rw [a1.length]; exact q _ _ H (.refl H) (.int _) he⟩
  · obtain ⟨v, rfl, r1⟩ := ra.one
    obtain ⟨p, vs, rfl, h1, a1⟩ := r1.tup
    exact .inl ⟨p, vs, rfl, .inr (.inl (.inl h1)), by rw [a1.length]; exact q _ _ H (.refl H) (.int _) he⟩
  · obtain ⟨v, rfl, r1⟩ := ra.one
    exact .inr (.inl ⟨_, by rw [r1.str], by rw [sizeLine_eq]; exact he.1, q _ _ H (.refl H) (.int _) he.2⟩)
  · obtain ⟨v, rfl, r1⟩ := ra.one
    obtain ⟨p, vs, rfl, h1, l, a1⟩ := r1.dk
    refine .inr (.inr ⟨p, _, rfl, h1, ?_⟩)
    rw [List.length_zip, l, Nat.min_self, ← l]
    exact q _ _ H (.refl H) (.int _) he
  · exact he.elim
end
/-! int, bool, str, abs -/
def rInt1 : List V → Hp → VK → Prop := fun xs H Q => (∃ i, xs = [.int i] ∧ Q (.int i) H) ∨ ∃ k, xs = [.bl k] ∧ Q (.int (if k then 1 else 0)) H
def rIntS : List V → Hp → VK → Prop := fun xs H Q => ∃ a n, xs = [.str a] ∧ PySem.intText? a = some n ∧ a.length ≤ 640 ∧ Q (.int n) H
def rIntU : List V → Hp → VK → Prop := fun xs H Q => rInt1 xs H Q ∨ rIntS xs H Q
theorem call_intU {X : Cx} : CallR X (.type "int") rIntU := CallR.or (r := rInt1) (r' := rIntS) call_int1 call_int_str
def dInt : DL := fun ds Q => match ds with
  | [.int i] => Q (.int i)
  | [.bl k] => Q (.int (if k then 1 else 0))
  | [.str z] => z.length ≤ 640 ∧ ∃ n, PySem.intText? z = some n ∧ Q (.int n)
  | _ => False
def rStrI : List V → Hp → VK → Prop := fun xs H Q => ∃ i, xs = [.int i] ∧ i.natAbs.log2 < 1920 ∧ Q (.str (toString i)) H
theorem call_strU {X : Cx} : CallR X (.type "str") rStrI := call_str_int
def dStr : DL := fun ds Q => match ds with
  | [.int i] => i.natAbs.log2 < 1920 ∧ Q (.str (toString i))
  | _ => False
def rAbs : List V → Hp → VK → Prop := fun xs H Q => ∃ i, xs = [.int i] ∧ Q (.int (if i < 0 then -i else i)) H
theorem call_absU {X : Cx} : CallR X (.builtin "abs") rAbs := call_abs
def dAbs : DL := fun ds Q => match ds with
  | [.int i] => Q (.int (if i < 0 then -i else i))
  | _ => False
def rMax2 : List V → Hp → VK → Prop := fun xs H Q => ∃ i j, xs = [.int i, .int j] ∧ Q (.int (if j > i then j else i)) H
def rMin2 : List V → Hp → VK → Prop := fun xs H Q => ∃ i j, xs = [.int i, .int j] ∧ Q (.int (if j < i then j else i)) H
def dMax2 : DL := fun ds Q => match ds with
  | [.int i, .int j] => Q (.int (if j > i then j else i))
  | _ => False
def dMin2 : DL := fun ds Q => match ds with
  | [.int i, .int j] => Q (.int (if j < i then j else i))
  | _ => False
theorem call_max2U {X : Cx} (hc : X.calm = true) : CallR X (.builtin "max") rMax2 := call_max2 hc
theorem call_min2U {X : Cx} (hc : X.calm = true) : CallR X (.builtin "min") rMin2 := call_min2 hc
section
variable {C : Bc}
theorem cg_int : CallG Cln C rIntU dInt := by
  intro X env σ H vs ds Q Qd rp ra he q
  unfold dInt at he
  split at he
  · obtain ⟨v, rfl, r1⟩ := ra.one
    exact .inl (.inl ⟨_, by rw [r1.int], q _ _ H (.refl H) (.int _) he⟩)
  · obtain ⟨v, rfl, r1⟩ := ra.one
    exact .inl (.inr ⟨_, by rw [r1.bl], q _ _ H (.refl H) (.int _) he⟩)
  · obtain ⟨v, rfl, r1⟩ := ra.one
    obtain ⟨h1, n, h2, he⟩ := he
    exact .inr ⟨_, n, by rw [r1.str], h2, h1, q _ _ H (.refl H) (.int _) he⟩
  · exact he.elim
theorem cg_str : CallG Cln C rStrI dStr := by
  intro X env σ H vs ds Q Qd rp ra he q
  unfold dStr at he
  split at he
  · obtain ⟨v, rfl, r1⟩ := ra.one
    exact ⟨_, by rw [r1.int], he.1, q _ _ H (.refl H) (.str _) he.2⟩
  · exact he.elim
theorem cg_abs : CallG Cln C rAbs dAbs := by
  intro X env σ H vs ds Q Qd rp ra he q
  unfold dAbs at he
  split at he
  · obtain ⟨v, rfl, r1⟩ := ra.one
    exact ⟨_, by rw [r1.int], q _ _ H (.refl H) (.int _) he⟩
  · exact he.elim
theorem cg_max2 : CallG Cln C rMax2 dMax2 := by
  intro X env σ H vs ds Q Qd rp ra he q
  unfold dMax2 at he
  split at he
  · obtain ⟨v, u, rfl, r1, r2⟩ := ra.two
    exact ⟨_, _, by rw [r1.int, r2.int], q _ _ H (.refl H) (.int _) he⟩
  · exact he.elim
theorem cg_min2 : CallG Cln C rMin2 dMin2 := by
  intro X env σ H vs ds Q Qd rp ra he q
  unfold dMin2 at he
  split at he
  · obtain ⟨v, u, rfl, r1, r2⟩ := ra.two
    exact ⟨_, _, by rw [r1.int, r2.int], q _ _ H (.refl H) (.int _) he⟩
  · exact he.elim
end
/-! tuple, list -/
def rTupOf (K : PySem.W.Frag) : List V → Hp → VK → Prop := fun xs H Q => ∃ p ys, xs = [.ref p] ∧ ((SqL K H p ys ∧ ∀ l, H l = none → Q (.ref l) (upd H l (.tup ys))) ∨ (SqT K H p ys ∧ Q (.ref p) H))
theorem call_tupU {X : Cx} {K : PySem.W.Frag} (e : X.K = K) : CallR X (.type "tuple") (rTupOf K) := e ▸ call_tuple_of
def dTupOf : DL := fun ds Q => match ds with
  | [.lst xs] => Q (.tup xs)
  | [.tup xs] => Q (.tup xs)
  | _ => False
def rLstOf (K : PySem.W.Frag) : List V → Hp → VK → Prop := fun xs H Q => ∃ p ys, xs = [.ref p] ∧ (SqL K H p ys ∨ SqT K H p ys) ∧ ∀ l, H l = none → Q (.ref l) (upd H l (.lst ys))
theorem call_lstU {X : Cx} {K : PySem.W.Frag} (e : X.K = K) : CallR X (.type "list") (rLstOf K) := e ▸ call_list_of
def dLstOf : DL := fun ds Q => match ds with
  | [.lst xs] => Q (.lst xs)
  | [.tup xs] => Q (.lst xs)
  | _ => False
section
variable {C : Bc}
theorem cg_tup : CallG Cln C (rTupOf C.K) dTupOf := by
  intro X env σ H vs ds Q Qd rp ra he q
  unfold dTupOf at he
  split at he
  · obtain ⟨v, rfl, r1⟩ := ra.one
    obtain ⟨p, vs, rfl, h1, a1⟩ := r1.lst
    exact ⟨p, vs, rfl, .inl ⟨.inl (.inl h1), fun l hl => q _ _ _ (.upd hl) (cln_new rp hl a1) he⟩⟩
  · obtain ⟨v, rfl, r1⟩ := ra.one
    obtain ⟨p, vs, rfl, h1, a1⟩ := r1.tup
    refine ⟨p, vs, rfl, .inr ⟨.inl (.inl h1), q _ _ H (.refl H) ?_ he⟩⟩
    rcases r1 with r1 | ⟨_, _, _, _, e2, _⟩
    · exact r1
    · cases e2
  · exact he.elim
theorem cg_lst : CallG Fsh C (rLstOf C.K) dLstOf := by
  intro X env σ H vs ds Q Qd rp ra he q
  unfold dLstOf at he
  split at he
  · obtain ⟨v, rfl, r1⟩ := ra.one
    obtain ⟨p, vs, rfl, h1, a1⟩ := r1.lst
    exact ⟨p, vs, rfl, .inl (.inl (.inl h1)), fun l hl => q _ _ _ (.upd hl) (fsh_new rp hl a1) he⟩
  · obtain ⟨v, rfl, r1⟩ := ra.one
    obtain ⟨p, vs, rfl, h1, a1⟩ := r1.tup
    exact ⟨p, vs, rfl, .inr (.inl (.inl h1)), fun l hl => q _ _ _ (.upd hl) (fsh_new rp hl a1) he⟩
  · exact he.elim
end
/-! sum -/
def dSum : DL := fun ds Q => match ds with
  | [.lst xs] => ∃ ns : List Int, xs = ns.map .int ∧ Q (.int ns.sum)
  | [.tup xs] => ∃ ns : List Int, xs = ns.map .int ∧ Q (.int ns.sum)
  | _ => False
section
variable {C : Bc}
theorem cg_sum : CallG Cln C (rSumA C.K) dSum := by
  intro X env σ H vs ds Q Qd rp ra he q
  unfold dSum at he
  split at he
  · obtain ⟨v, rfl, r1⟩ := ra.one
    obtain ⟨ns, rfl, he⟩ := he
    obtain ⟨p, vs, rfl, h1, a1⟩ := r1.lst
    rw [a1.ints_of] at h1
    exact ⟨p, ns, rfl, .inl (.inl (.inl h1)), q _ _ H (.refl H) (.int _) he⟩
  · obtain ⟨v, rfl, r1⟩ := ra.one
    obtain ⟨ns, rfl, he⟩ := he
    obtain ⟨p, vs, rfl, h1, a1⟩ := r1.tup
    rw [a1.ints_of] at h1
    exact ⟨p, ns, rfl, .inr (.inl (.inl h1)), q _ _ H (.refl H) (.int _) he⟩
  · exact he.elim
end
/-! max, min, sorted of a list of whole numbers -/
def dMaxL : DL := fun ds Q => match ds with
  | [.lst xs] => ∃ ns : List Int, xs = ns.map .int ∧ 0 < ns.length ∧ ∀ m, m ∈ ns → (∀ y, y ∈ ns → y ≤ m) → Q (.int m)
  | _ => False
def dMinL : DL := fun ds Q => match ds with
  | [.lst xs] => ∃ ns : List Int, xs = ns.map .int ∧ 0 < ns.length ∧ ∀ m, m ∈ ns → (∀ y, y ∈ ns → m ≤ y) → Q (.int m)
  | _ => False
def dSorted : DL := fun ds Q => match ds with
  | [.lst xs] => ∃ ns : List Int, xs = ns.map .int ∧ ns.length < 64 ∧ ∀ ns' : List Int, ns'.Perm ns → ns'.Pairwise (· ≤ ·) → Q (.lst (ns'.map .int))
  | _ => False
section
variable {C : Bc}
theorem cg_maxL : CallG Cln C (rMax C.K) dMaxL := by
  intro X env σ H vs ds Q Qd rp ra he q
  unfold dMaxL at he
  split at he
  · obtain ⟨v, rfl, r1⟩ := ra.one
    obtain ⟨ns, rfl, h0, he⟩ := he
    obtain ⟨p, vs, rfl, h1, a1⟩ := r1.lst
    rw [a1.ints_of] at h1
    exact ⟨p, ns, rfl, .inl (.inl h1), h0, fun m h2 h3 => q _ _ H (.refl H) (.int _) (he m h2 h3)⟩
  · exact he.elim
theorem cg_minL : CallG Cln C (rMin C.K) dMinL := by
  intro X env σ H vs ds Q Qd rp ra he q
  unfold dMinL at he
  split at he
  · obtain ⟨v, rfl, r1⟩ := ra.one
    obtain ⟨ns, rfl, h0, he⟩ := he
    obtain ⟨p, vs, rfl, h1, a1⟩ := r1.lst
    rw [a1.ints_of] at h1
    exact ⟨p, ns, rfl, .inl (.inl h1), h0, fun m h2 h3 => q _ _ H (.refl H) (.int _) (he m h2 h3)⟩
  · exact he.elim
theorem cg_sorted : CallG Fsh C (rSorted C.K) dSorted := by
  intro X env σ H vs ds Q Qd rp ra he q
  unfold dSorted at he
  split at he
  · obtain ⟨v, rfl, r1⟩ := ra.one
    obtain ⟨ns, rfl, h0, he⟩ := he
    obtain ⟨p, vs, rfl, h1, a1⟩ := r1.lst
    rw [a1.ints_of] at h1
    exact ⟨p, ns, rfl, .inl (.inl h1), h0, fun ns' l h2 h3 hl => q _ _ _ (.upd hl) (fsh_new rp hl (DenAll.ints ns')) (he ns' h2 h3)⟩
  · exact he.elim
end
/-! isinstance -/
def Dt.kind : Dt → Option String
  | .non => some "NoneType"
  | .bl _ => some "bool"
  | .int _ => some "int"
  | .str _ => some "str"
  | .tup _ => some "tuple"
  | .lst _ => some "list"
  | .dk _ _ => some "dict"
  | .dt _ _ => some "dict"
  | _ => none
theorem Bor.tyx {C : Bc} {X : Addr → Prop} {H H1 : Hp} {v : V} {d : Dt} {n : String} (h : Bor C X H1 H v d) (e : d.kind = some n) : TyX C.K H v (.type n) := by
  cases d with
  | non => cases e; rw [h.non]; exact .base .non
  | bl b => cases e; rw [h.bl]; exact .base (.bl b)
  | int b => cases e; rw [h.int]; exact .base (.int b)
  | str b => cases e; rw [h.str]; exact .base (.str b)
  | tup xs => cases e; obtain ⟨p, vs, rfl, h1, _⟩ := h.tup; exact .base (.tup h1)
  | lst xs => cases e; obtain ⟨p, vs, rfl, h1, _⟩ := h.lst; exact .base (.lst h1)
  | dk ks ds => cases e; obtain ⟨p, vs, rfl, h1, _⟩ := h.dk; exact .base (.dK h1)
  | dt ks ds => cases e; obtain ⟨p, vs, rfl, h1, _⟩ := h.dt; exact .base (.dT h1)
  | ins _ _ _ => cases e
  | raw _ => cases e
/-- is of this built-in kind -/
def Dt.isa (T : String) (d : Dt) : Bool := match d.kind with
  | some n => n == T || (n == "bool" && T == "int")
  | none => false
def Known (T : String) : Prop := ∀ n, n ∈ ["NoneType", "bool", "int", "str", "tuple", "list", "dict"] → kitB n T = some (n == T || (n == "bool" && T == "int"))
theorem Dt.kind_mem {d : Dt} {n : String} (e : d.kind = some n) : n ∈ ["NoneType", "bool", "int", "str", "tuple", "list", "dict"] := by
  cases d <;> first | (cases e; done) | (injection e with e; subst e; decide)
theorem known_int : Known "int" := by unfold Known; decide +kernel
theorem known_bool : Known "bool" := by unfold Known; decide +kernel
theorem known_str : Known "str" := by unfold Known; decide +kernel
theorem known_tuple : Known "tuple" := by unfold Known; decide +kernel
theorem known_list : Known "list" := by unfold Known; decide +kernel
def dIsi (T : String) : DL := fun ds Q => match ds with
  | [x, .raw (.ty T')] => T' = T ∧ x.kind.isSome = true ∧ Q (.bl (x.isa T))
  | _ => False
def dIsi2 (T U : String) : DL := fun ds Q => match ds with
  | [x, .tup [.raw (.ty T'), .raw (.ty U')]] => T' = T ∧ U' = U ∧ x.kind.isSome = true ∧ Q (.bl (x.isa T || x.isa U))
  | _ => False
theorem call_isiU {X : Cx} {K : PySem.W.Frag} (e : X.K = K) : CallR X (.builtin "isinstance") (rIsi K) := e ▸ call_isi
theorem call_isiTU {X : Cx} {K : PySem.W.Frag} (e : X.K = K) : CallR X (.builtin "isinstance") (rIsiT K) := e ▸ call_isiT
section
variable {C : Bc}
theorem cg_isi {T : String} (k : Known T) : CallG Cln C (rIsi C.K) (dIsi T) := by
  intro X env σ H vs ds Q Qd rp ra he q
  unfold dIsi at he
  split at he
  · rename_i x T'
    obtain ⟨rfl, hk, he⟩ := he
    obtain ⟨v, u, rfl, r1, r2⟩ := ra.two
    obtain ⟨n, hn⟩ := Option.isSome_iff_exists.mp hk
    have k1 := k n (Dt.kind_mem hn)
    have e : ∀ T, x.isa T = (n == T || (n == "bool" && T == "int")) := fun T => by unfold Dt.isa; rw [hn]
    rw [e] at he
    refine ⟨v, _, _, _, _, by rw [r2.raw], .ty _, r1.tyx hn, kit_ty k1, q _ _ H (.refl H) (.bl _) he⟩
  · exact he.elim
theorem cg_isi2 {T U : String} (k : Known T) (k2 : Known U) : CallG Cln C (rIsiT C.K) (dIsi2 T U) := by
  intro X env σ H vs ds Q Qd rp ra he q
  unfold dIsi2 at he
  split at he
  · obtain ⟨rfl, rfl, hk, he⟩ := he
    obtain ⟨v, u, rfl, r1, r2⟩ := ra.two
    obtain ⟨n, hn⟩ := Option.isSome_iff_exists.mp hk
    obtain ⟨p, vs, rfl, h1, a1⟩ := r2.tup
    cases a1 with
    | cons d1 a1 =>
      cases a1 with
      | cons d2 a2 =>
        cases a2
        rw [d1.flat rfl, d2.flat rfl] at h1
        have k1 := k n (Dt.kind_mem hn)
        have k3 := k2 n (Dt.kind_mem hn)
        refine ⟨v, p, _, _, _, _, rfl, h1, .cons (.ty _) (.cons (.ty _) .nil), r1.tyx hn, kitAny_cons (b := _) (kit_ty k1) (fun e1 => kitAny_cons (kit_ty k3) (r := _) (fun e2 => ?_) fun e2 => ?_) fun e1 => ?_, q _ _ H (.refl H) (.bl _) he⟩
        · unfold Dt.isa; rw [hn]; dsimp only; rw [e1, e2]; rfl
        · unfold Dt.isa; rw [hn]; dsimp only; rw [e1, e2]; rfl
        · unfold Dt.isa; rw [hn]; dsimp only; rw [e1]; rfl
  · exact he.elim
end
end Mine

namespace Mine
open PySem PySem.Spec PyProof.Rows L2
/-! ### what is walked -/
/-- where what was seen at an iterator's making is seen still: in loops, in comprehensions -/
abbrev SS := Bc → (Addr → Prop) → Hp → (Addr → Prop) → Hp → Prop
def Strong : SS := fun C X H1 Y H => Same (vis H1 X) (vis H Y) ∧ ∀ a, Y a → ∃ o, H a = some o
def Weak : SS := fun C X H1 Y H => Frm C.hd H1 H ∧ (∀ h c, C.hd = some (h, c) → X h) ∧ (∀ a, Y a → X a ∨ H1 a = none) ∧ ∀ a, Y a → ∃ o, H a = some o
theorem Weak.strong {C : Bc} {X Y : Addr → Prop} {H1 H : Hp} (w : Weak C X H1 Y H) : Strong C X H1 Y H := by
  obtain ⟨f, hx, hy, al⟩ := w
  refine ⟨fun a o e => ?_, al⟩
  obtain ⟨n, h⟩ := vis_of e
  refine vis_mk (fun y => (hy a y).elim n fun z => by rw [z] at h; cases h) (f.1 a o h fun h' c e' q => n (q ▸ hx h' c e'))
/-- the iterator J yields the data ds -/
def WalkD (S : SS) (C : Bc) (X : Addr → Prop) (H1 : Hp) (J : It) (ds : List Dt) : Prop := ∀ (Y : Addr → Prop) (i : Nat) (H : Hp), S C X H1 Y H →
  (i < ds.length → J.go i H ∧ ∀ x H', J.yld i H x H' → Same H H' ∧ ∃ d, ds[i]? = some d ∧ Den C.K (vis H' Y) x d) ∧ (i = ds.length → J.stop i H)
theorem WalkD.weak {C : Bc} {X : Addr → Prop} {H1 : Hp} {J : It} {ds : List Dt} (w : WalkD Strong C X H1 J ds) : WalkD Weak C X H1 J ds := fun Y i H s => w Y i H s.strong
def DIg (S : SS) (C : Bc) (wi : TI) (e : DAX) : Prop := ∀ X env σ H (R : It → Hp → Prop) (Qd : List Dt → Prop) (Qx : Xc → Prop), Rep C X env σ H → e env Qd Qx →
  (∀ ds J H1, Frm C.hd H H1 → WalkD S C X H1 J ds → Qd ds → R J H1) → XOk C X σ H Qx → wi σ H R
theorem DIg.weak {C : Bc} {wi : TI} {e : DAX} (h : DIg Strong C wi e) : DIg Weak C wi e := fun X env σ H R Qd Qx rp he q x => h X env σ H R Qd Qx rp he (fun ds J H1 f w h => q ds J H1 f w.weak h) x
def eSeq (a : DX) : DAX := fun env Q E => a env (fun d => match d with
  | .lst xs => Q xs
  | .tup xs => Q xs
  | _ => False) E
def eRng1 (a : DAX) : DAX := fun env Q E => a env (fun ds => match ds with
  | [.int j] => (-(2 ^ 62) ≤ j ∧ j < 2 ^ 62) ∧ Q ((List.range j.toNat).map fun i => .int (i : Nat))
  | _ => False) E
def eRng2 (a : DAX) : DAX := fun env Q E => a env (fun ds => match ds with
  | [.int i, .int j] => (-(2 ^ 62) ≤ i ∧ i < 2 ^ 62 ∧ -(2 ^ 62) ≤ j ∧ j < 2 ^ 62) ∧ Q ((List.range (j - i).toNat).map fun k => .int (i + (k : Nat)))
  | _ => False) E
def eEnum (a : DAX) : DAX := fun env Q E => a env (fun ds => match ds with
  | [.lst xs] => Q (xs.mapIdx fun i x => .tup [.int (i : Nat), x])
  | [.tup xs] => Q (xs.mapIdx fun i x => .tup [.int (i : Nat), x])
  | _ => False) E
def eStrs (a : DX) : DAX := fun env Q E => a env (fun d => match d with
  | .str z => Q (z.cps.toList.map fun c => .str ⟨#[c]⟩)
  | _ => False) E
section
variable {C : Bc} {X : Addr → Prop} {H1 : Hp}
theorem walk_lst {S : SS} {p : Addr} {vs : List V} {ds : List Dt} (h : ∀ Y H, S C X H1 Y H → H p = some (.lst vs) ∧ DenAll C.K (vis H Y) vs ds) : WalkD S C X H1 (Itl C.K p) ds := by
  intro Y i H s
  obtain ⟨h1, a⟩ := h Y H s
  have hl := a.length
  refine ⟨fun hi => ⟨⟨vs, vs[i], .inl (.inl h1), by simp [hl ▸ hi]⟩, fun x H' ⟨e, hx⟩ => ?_⟩, fun hi => ⟨vs, .inl (.inl h1), by omega⟩⟩
  subst e
  exact ⟨Same.refl _, a.getV (hx vs (.inl (.inl h1)))⟩
theorem walk_tpl {S : SS} {p : Addr} {vs : List V} {ds : List Dt} (h : ∀ Y H, S C X H1 Y H → H p = some (.tup vs) ∧ DenAll C.K (vis H Y) vs ds) : WalkD S C X H1 (Itt C.K p) ds := by
  intro Y i H s
  obtain ⟨h1, a⟩ := h Y H s
  have hl := a.length
  refine ⟨fun hi => ⟨⟨vs, vs[i], .inl (.inl h1), by simp [hl ▸ hi]⟩, fun x H' ⟨e, hx⟩ => ?_⟩, fun hi => ⟨vs, .inl (.inl h1), by omega⟩⟩
  subst e
  exact ⟨Same.refl _, a.getV (hx vs (.inl (.inl h1)))⟩
/-- how a seen list, a seen tuple stays -/
theorem cln_lst {v : V} {ds : List Dt} (h : Den C.K (vis H1 X) v (.lst ds)) : ∃ p vs, v = .ref p ∧ H1 p = some (.lst vs) ∧ ∀ Y H, Strong C X H1 Y H → H p = some (.lst vs) ∧ DenAll C.K (vis H Y) vs ds := by
  cases h with
  | lst h a => exact ⟨_, _, rfl, vis_sub _ _ h, fun Y H s => ⟨vis_sub _ _ (s.1 _ _ h), a.mono s.1⟩⟩
theorem cln_tup {v : V} {ds : List Dt} (h : Den C.K (vis H1 X) v (.tup ds)) : ∃ p vs, v = .ref p ∧ H1 p = some (.tup vs) ∧ ∀ Y H, Strong C X H1 Y H → H p = some (.tup vs) ∧ DenAll C.K (vis H Y) vs ds := by
  cases h with
  | tup h a => exact ⟨_, _, rfl, vis_sub _ _ h, fun Y H s => ⟨vis_sub _ _ (s.1 _ _ h), a.mono s.1⟩⟩
theorem bor_lst {H0 : Hp} {v : V} {ds : List Dt} (h : Bor C X H0 H1 v (.lst ds)) : ∃ p vs, v = .ref p ∧ H1 p = some (.lst vs) ∧ ∀ Y H, Weak C X H1 Y H → H p = some (.lst vs) ∧ DenAll C.K (vis H Y) vs ds := by
  rcases h with h | ⟨p, vs, ds, rfl, e2, n, h1, h2⟩
  · obtain ⟨p, vs, e1, h1, k⟩ := cln_lst h
    exact ⟨p, vs, e1, h1, fun Y H s => k Y H s.strong⟩
  · cases e2
    exact ⟨p, vs, rfl, h1, fun Y H s => ⟨s.1.1 p _ h1 n, h2.mono s.strong.1⟩⟩
theorem bor_tup {H0 : Hp} {v : V} {ds : List Dt} (h : Bor C X H0 H1 v (.tup ds)) : ∃ p vs, v = .ref p ∧ H1 p = some (.tup vs) ∧ ∀ Y H, Weak C X H1 Y H → H p = some (.tup vs) ∧ DenAll C.K (vis H Y) vs ds := by
  rcases h with h | ⟨p, vs, ds, rfl, e2, n, h1, h2⟩
  · obtain ⟨p, vs, e1, h1, k⟩ := cln_tup h
    exact ⟨p, vs, e1, h1, fun Y H s => k Y H s.strong⟩
  · cases e2
end
/-- what a source must be: with all that is let, or a list of one's own -/
class Src (R : RR) (S : SS) : Prop where
  lst : ∀ {C : Bc} {X : Addr → Prop} {H0 H1 : Hp} {v : V} {ds : List Dt}, R C X H0 H1 v (.lst ds) → ∃ p vs, v = .ref p ∧ H1 p = some (.lst vs) ∧ ∀ Y H, S C X H1 Y H → H p = some (.lst vs) ∧ DenAll C.K (vis H Y) vs ds
  tup : ∀ {C : Bc} {X : Addr → Prop} {H0 H1 : Hp} {v : V} {ds : List Dt}, R C X H0 H1 v (.tup ds) → ∃ p vs, v = .ref p ∧ H1 p = some (.tup vs) ∧ ∀ Y H, S C X H1 Y H → H p = some (.tup vs) ∧ DenAll C.K (vis H Y) vs ds
  al : ∀ {C : Bc} {X Y : Addr → Prop} {H1 H : Hp}, S C X H1 Y H → ∀ a, Y a → ∃ o, H a = some o
instance : Src Cln Strong := ⟨fun h => cln_lst h, fun h => cln_tup h, fun s => s.2⟩
instance : Src Bor Weak := ⟨fun h => bor_lst h, fun h => bor_tup h, fun s => s.2.2.2⟩
section
variable {C : Bc} {R : RR} {S : SS} {tl : TE} {ta : TA} {el : DX} {ea : DAX}
theorem di_seq [Src R S] (h : DEg R C tl el) : DIg S C (iSeq C.K tl) (eSeq el) := by
  intro X env σ H Rr Qd Qx rp he q x
  refine h X env σ H _ _ Qx rp he (fun d v H1 f1 r1 he1 => ?_) x
  split at he1
  · obtain ⟨p, vs, rfl, h1, k⟩ := Src.lst (S := S) r1
    exact ⟨p, vs, rfl, .inl ⟨.inl (.inl h1), q _ _ H1 f1 (walk_lst k) he1⟩⟩
  · obtain ⟨p, vs, rfl, h1, k⟩ := Src.tup (S := S) r1
    exact ⟨p, vs, rfl, .inr ⟨.inl (.inl h1), q _ _ H1 f1 (walk_tpl k) he1⟩⟩
  · exact he1.elim
theorem walk_rng {X : Addr → Prop} {H1 : Hp} (lo : Int) (n : Nat) : WalkD S C X H1 (Itr lo n) ((List.range n).map fun k => .int (lo + (k : Nat))) := by
  intro Y i H s
  rw [List.length_map, List.length_range]
  refine ⟨fun hi => ⟨hi, fun x H' ⟨e, hx⟩ => ?_⟩, fun hi => Nat.le_of_eq hi.symm⟩
  subst e hx
  exact ⟨Same.refl _, _, by rw [List.getElem?_map, List.getElem?_range hi]; rfl, .int _⟩
theorem di_rng1 (h : DAb C ta ea) : DIg S C (iRng1 ta) (eRng1 ea) := by
  intro X env σ H Rr Qd Qx rp he q x
  refine h X env σ H _ _ Qx rp he (fun ds vs H1 f1 ra he1 => ?_) x
  split at he1
  · obtain ⟨v, rfl, r1⟩ := ra.one
    obtain ⟨⟨c1, c2⟩, he1⟩ := he1
    refine ⟨_, by rw [r1.int], c1, c2, q _ _ H1 f1 ?_ he1⟩
    have e : ∀ n : Nat, WalkD S C X H1 (Itr 0 n) ((List.range n).map fun i => .int (i : Nat)) := fun n => by
      have := walk_rng (S := S) (C := C) (X := X) (H1 := H1) 0 n
      simpa using this
    exact e _
  · exact he1.elim
theorem di_rng2 (h : DAb C ta ea) : DIg S C (iRng2 ta) (eRng2 ea) := by
  intro X env σ H Rr Qd Qx rp he q x
  refine h X env σ H _ _ Qx rp he (fun ds vs H1 f1 ra he1 => ?_) x
  split at he1
  · obtain ⟨v, u, rfl, r1, r2⟩ := ra.two
    obtain ⟨c, he1⟩ := he1
    exact ⟨_, _, by rw [r1.int, r2.int], c, q _ _ H1 f1 (walk_rng _ _) he1⟩
  · exact he1.elim
theorem walk_pair {X : Addr → Prop} {H1 : Hp} {J : It} {n : Nat} {G : Hp → Prop} {xs : List V} {ds : List Dt} (hal : ∀ {Y : Addr → Prop} {H : Hp}, S C X H1 Y H → ∀ a, Y a → ∃ o, H a = some o) (hn : ds.length = n)
    (w : Walk J n G (YPair (fun i => some (.int (i : Nat))) (fun i => xs[i]?))) (hs : ∀ i H, n ≤ i → G H → J.stop i H) (k : ∀ Y H, S C X H1 Y H → G H ∧ DenAll C.K (vis H Y) xs ds) :
    WalkD S C X H1 J (ds.mapIdx fun i x => .tup [.int (i : Nat), x]) := by
  intro Y i H s
  obtain ⟨g, a⟩ := k Y H s
  rw [List.length_mapIdx]
  refine ⟨fun hi => ⟨w.goes i H (hn ▸ hi) g, fun x H' hy => ?_⟩, fun hi => hs i H (by omega) g⟩
  obtain ⟨T, v, y, rfl, hT, rfl, ev, ey⟩ := w.yields i H x H' (hn ▸ hi) g hy
  dsimp only at ev ey
  cases ev
  obtain ⟨d, e, den⟩ := a.getV ey
  have nT : ¬ Y T := fun y => by
    obtain ⟨o, q⟩ := hal s T y
    rw [hT] at q; cases q
  refine ⟨same_upd hT, _, by rw [List.getElem?_mapIdx, e]; rfl, .tup (vis_mk nT upd_same) (.cons (.int _) (.cons (den.mono fun b o e => ?_) .nil))⟩
  obtain ⟨n1, e1⟩ := vis_of e
  exact vis_mk n1 (same_upd hT _ _ e1)
theorem di_enum [Src R S] (h : DEg R C tl el) : DIg S C (iEnumA C.K (tCons tl tNil)) (eEnum (eCons el eNil)) := by
  intro X env σ H Rr Qd Qx rp he q x
  refine h X env σ H _ _ Qx rp he (fun d v H1 f1 r1 he1 => ?_) x
  show ∃ a xs, [v] = [.ref a] ∧ _
  have he1 : (match [d] with
    | [.lst xs] => Qd (xs.mapIdx fun i x => .tup [.int (i : Nat), x])
    | [.tup xs] => Qd (xs.mapIdx fun i x => .tup [.int (i : Nat), x])
    | _ => False) := he1
  split at he1
  · rename_i e
    cases e
    obtain ⟨p, vs, rfl, h1, k⟩ := Src.lst (S := S) r1
    refine ⟨p, vs, rfl, .inl ⟨.inl (.inl h1), q _ _ H1 f1 ?_ he1⟩⟩
    intro Y i H2 s
    exact walk_pair (G := fun H => SqL C.K H p vs) (fun s => Src.al (R := R) s) (k Y H2 s).2.length.symm walk_enum (fun i H hi g => ⟨vs, g, hi⟩) (fun Y H s => ⟨.inl (.inl (k Y H s).1), (k Y H s).2⟩) Y i H2 s
  · rename_i e
    cases e
    obtain ⟨p, vs, rfl, h1, k⟩ := Src.tup (S := S) r1
    refine ⟨p, vs, rfl, .inr ⟨.inl (.inl h1), q _ _ H1 f1 ?_ he1⟩⟩
    intro Y i H2 s
    exact walk_pair (G := fun H => SqT C.K H p vs) (fun s => Src.al (R := R) s) (k Y H2 s).2.length.symm walk_enumT (fun i H hi g => ⟨vs, g, hi⟩) (fun Y H s => ⟨.inl (.inl (k Y H s).1), (k Y H s).2⟩) Y i H2 s
  · exact he1.elim
end
/-! ### targets -/
abbrev DGX := Dt → List Sl → (List Sl → Prop) → Prop
def DG (C : Bc) (g : TG) (js : List Nat) (f : DGX) : Prop := ∀ X env σ H x d (Q : L2.St → Hp → Prop) (Qd : List Sl → Prop), Rep C X env σ H → Den C.K (vis H X) x d → f d env Qd →
  (∀ env' σ', Rep C X env' σ' H → Qd env' → σ'.length = σ.length → (∀ k, k ∉ js → σ'[k]? = σ[k]?) → (∀ (k : Nat) (xs : Ow), env'[k]? = some (Sl.own xs) → env[k]? = some (Sl.own xs) ∧ σ'[k]? = σ[k]?) → Q σ' H) → g x σ H Q
def gD (j : Nat) : DGX := fun d env Q => Q (env.set j (.d d))
def gD2 (i j : Nat) : DGX := fun d env Q => match d with
  | .tup [a, b] => Q ((env.set i (.d a)).set j (.d b))
  | _ => False
def gD3 (i j k : Nat) : DGX := fun d env Q => match d with
  | .tup [a, b, c] => Q (((env.set i (.d a)).set j (.d b)).set k (.d c))
  | _ => False
section
variable {C : Bc} {X : Addr → Prop} {env : List Sl} {σ : L2.St} {H : Hp}
theorem Rep.set (r : Rep C X env σ H) (j : Nat) {x : V} {d : Dt} (h : Den C.K (Mine.vis H X) x d) : Rep C X (env.set j (.d d)) (σ.set j (.some x)) H where
  len := by rw [List.length_set, List.length_set, r.len]
  sup := r.sup
  new := r.new
  al := r.al
  frm := r.frm
  hands := r.hands
  slot := fun i s e => by
    rw [List.getElem?_set] at e ⊢
    by_cases c : j = i
    · subst c
      rw [if_pos rfl] at e ⊢
      by_cases hl : j < env.length
      · rw [if_pos hl] at e
        rw [if_pos (r.len ▸ hl)]
        cases e
        exact ⟨_, rfl, x, rfl, h⟩
      · rw [if_neg hl] at e; cases e
    · rw [if_neg c] at e ⊢
      exact r.slot i s e
  inj := fun i k xs ys n e1 e2 => by
    rw [List.getElem?_set] at e1 e2
    have a : j ≠ i := fun c => by
      subst c
      rw [if_pos rfl] at e1
      split at e1 <;> cases e1
    have b : j ≠ k := fun c => by
      subst c
      rw [if_pos rfl] at e2
      split at e2 <;> cases e2
    rw [if_neg a] at e1
    rw [if_neg b] at e2
    rw [List.getElem?_set, List.getElem?_set, if_neg a, if_neg b]
    exact r.inj i k xs ys n e1 e2
  one := r.one.set fun _ _ _ z => by cases z
theorem own_set {env : List Sl} {σ : L2.St} {j : Nat} {x : Dt} {o : Option V} (k : Nat) (xs : Ow) (e : (env.set j (.d x))[k]? = some (Sl.own xs)) : env[k]? = some (Sl.own xs) ∧ (σ.set j o)[k]? = σ[k]? := by
  rw [List.getElem?_set] at e
  have a : j ≠ k := fun c => by
    subst c
    rw [if_pos rfl] at e
    split at e <;> cases e
  rw [if_neg a] at e
  exact ⟨e, by rw [List.getElem?_set, if_neg a]⟩
theorem dg_name (j : Nat) : DG C (gName j) [j] (gD j) := by
  intro X env σ H x d Q Qd rp hd he q
  refine q _ _ (rp.set j hd) he (by rw [List.length_set]) (fun k hk => ?_) own_set
  have : j ≠ k := fun z => hk (by simp [z])
  rw [List.getElem?_set, if_neg this]
theorem Den.tupI {K : PySem.W.Frag} {H : Hp} {v : V} {ds : List Dt} (h : Den K H v (.tup ds)) : ∃ p vs, v = .ref p ∧ H p = some (.tup vs) ∧ DenAll K H vs ds := by
  cases h with
  | tup h a => exact ⟨_, _, rfl, h, a⟩
theorem dg_two (i j : Nat) : DG C (gTup C.K 2 (gCons (gName i) (gCons (gName j) gNil))) [i, j] (gD2 i j) := by
  intro X env σ H x d Q Qd rp hd he q
  unfold gD2 at he
  split at he
  · obtain ⟨p, vs, rfl, h1, a⟩ := hd.tupI
    cases a with
    | @cons v1 _ _ _ a1 a =>
      cases a with
      | @cons v2 _ _ _ a2 a =>
        cases a
        refine ⟨p, _, rfl, .inl (.inl (vis_sub _ _ h1)), rfl, v1, _, rfl, v2, _, rfl, rfl, ?_⟩
        refine q _ _ ((rp.set i a1).set j a2) he (by rw [List.length_set, List.length_set]) (fun k hk => ?_) (fun k xs e => by
          obtain ⟨a1, b1⟩ := own_set (σ := σ.set i (some v1)) (o := some v2) k xs e
          obtain ⟨a2, b2⟩ := own_set (σ := σ) (o := some v1) k xs a1
          exact ⟨a2, b1.trans b2⟩)
        have e1 : i ≠ k := fun z => hk (by simp [z])
        have e2 : j ≠ k := fun z => hk (by simp [z])
        rw [List.getElem?_set, if_neg e2, List.getElem?_set, if_neg e1]
  · exact he.elim
theorem dg_three (i j l : Nat) : DG C (gTup C.K 3 (gCons (gName i) (gCons (gName j) (gCons (gName l) gNil)))) [i, j, l] (gD3 i j l) := by
  intro X env σ H x d Q Qd rp hd he q
  unfold gD3 at he
  split at he
  · obtain ⟨p, vs, rfl, h1, a⟩ := hd.tupI
    cases a with
    | @cons v1 _ _ _ a1 a =>
      cases a with
      | @cons v2 _ _ _ a2 a =>
        cases a with
        | @cons v3 _ _ _ a3 a =>
          cases a
          refine ⟨p, _, rfl, .inl (.inl (vis_sub _ _ h1)), rfl, v1, _, rfl, v2, _, rfl, v3, _, rfl, rfl, ?_⟩
          refine q _ _ (((rp.set i a1).set j a2).set l a3) he (by rw [List.length_set, List.length_set, List.length_set]) (fun k hk => ?_) (fun k xs e => by
            obtain ⟨a1, b1⟩ := own_set (σ := (σ.set i (some v1)).set j (some v2)) (o := some v3) k xs e
            obtain ⟨a2, b2⟩ := own_set (σ := σ.set i (some v1)) (o := some v2) k xs a1
            obtain ⟨a3, b3⟩ := own_set (σ := σ) (o := some v1) k xs a2
            exact ⟨a3, b1.trans (b2.trans b3)⟩)
          have e1 : i ≠ k := fun z => hk (by simp [z])
          have e2 : j ≠ k := fun z => hk (by simp [z])
          have e3 : l ≠ k := fun z => hk (by simp [z])
          rw [List.getElem?_set, if_neg e3, List.getElem?_set, if_neg e2, List.getElem?_set, if_neg e1]
  · exact he.elim
/-! ### comprehensions -/
def wipeS (env : List Sl) : List Nat → List Sl
  | [] => env
  | v :: vs => (wipeS env vs).set v .no
theorem Rep.unset (r : Rep C X env σ H) (j : Nat) (o : Option V) : Rep C X (env.set j .no) (σ.set j o) H where
  len := by rw [List.length_set, List.length_set, r.len]
  sup := r.sup
  new := r.new
  al := r.al
  frm := r.frm
  hands := r.hands
  slot := fun i s e => by
    rw [List.getElem?_set] at e ⊢
    by_cases c : j = i
    · subst c
      rw [if_pos rfl] at e ⊢
      by_cases hl : j < env.length
      · rw [if_pos hl] at e
        rw [if_pos (r.len ▸ hl)]
        cases e
        exact ⟨_, rfl, trivial⟩
      · rw [if_neg hl] at e; cases e
    · rw [if_neg c] at e ⊢
      exact r.slot i s e
  inj := fun i k xs ys n e1 e2 => by
    rw [List.getElem?_set] at e1 e2
    have a : j ≠ i := fun c => by
      subst c
      rw [if_pos rfl] at e1
      split at e1 <;> cases e1
    have b : j ≠ k := fun c => by
      subst c
      rw [if_pos rfl] at e2
      split at e2 <;> cases e2
    rw [if_neg a] at e1
    rw [if_neg b] at e2
    rw [List.getElem?_set, List.getElem?_set, if_neg a, if_neg b]
    exact r.inj i k xs ys n e1 e2
  one := r.one.set fun _ _ _ z => by cases z
theorem Rep.wiped (r : Rep C X env σ H) : ∀ vs : List Nat, Rep C X (wipeS env vs) (wipe σ vs) H
  | [] => r
  | v :: vs => (r.wiped vs).unset v none
theorem wipe_at (σ : L2.St) : ∀ (vs : List Nat) (k : Nat), (wipe σ vs)[k]? = if k ∈ vs ∧ k < σ.length then some none else σ[k]?
  | [], k => by simp [wipe]
  | v :: vs, k => by
    show ((wipe σ vs).set v none)[k]? = _
    rw [List.getElem?_set, wipe_length, wipe_at σ vs k]
    by_cases c : v = k
    · subst c
      by_cases hl : v < σ.length
      · rw [if_pos rfl, if_pos hl, if_pos ⟨List.mem_cons_self, hl⟩]
      · rw [if_pos rfl, if_neg hl, if_neg fun z => hl z.2]
        exact (List.getElem?_eq_none_iff.mpr (by omega)).symm
    · rw [if_neg c]
      have e : (k ∈ v :: vs ∧ k < σ.length) ↔ (k ∈ vs ∧ k < σ.length) := by
        rw [List.mem_cons]
        constructor
        · rintro ⟨z | z, h⟩
          · exact absurd z.symm c
          · exact ⟨z, h⟩
        · rintro ⟨z, h⟩; exact ⟨.inr z, h⟩
      simp only [e]
theorem wipe_of {σ σ' : L2.St} {vs : List Nat} (hl : σ'.length = (wipe σ vs).length) (hk : ∀ k, k ∉ vs → σ'[k]? = (wipe σ vs)[k]?) : wipe σ' vs = wipe σ vs := by
  refine List.ext_getElem? fun k => ?_
  rw [wipe_length] at hl
  rw [wipe_at, wipe_at]
  by_cases c : k ∈ vs
  · by_cases h : k < σ.length
    · rw [if_pos ⟨c, by omega⟩, if_pos ⟨c, h⟩]
    · rw [if_neg fun z => h (by omega), if_neg fun z => h z.2, List.getElem?_eq_none_iff.mpr (by omega), List.getElem?_eq_none_iff.mpr (by omega)]
  · rw [if_neg fun z => c z.1, if_neg fun z => c z.1, hk k c, wipe_at, if_neg fun z => c z.1]
/-- a new thing is hidden -/
theorem Rep.hide {D : Addr} {H2 : Hp} (r : Rep C X env σ H) (n : H D = none) (f : Frm C.hd H H2) (t : ∃ o, H2 D = some o) : Rep C (fun a => X a ∨ a = D) env σ H2 := by
  have r2 := r.step f
  have nD : ∀ a o, H a = some o → a ≠ D := fun a o e => ne_of_none e n
  have sm : Same (Mine.vis H X) (Mine.vis H2 fun a => X a ∨ a = D) := fun a o e => by
    obtain ⟨n1, e1⟩ := vis_of e
    exact vis_mk (fun z => z.elim n1 (nD a o e1)) (f.1 a o e1 fun h c e' q => n1 (q ▸ r.hX h c e'))
  refine ⟨r.len, fun a z => .inl (r.sup a z), fun a z => ?_, fun a z => ?_, r2.frm, r2.hands, fun i s e => ?_, r.inj, r.one⟩
  · rcases z with z | rfl
    · exact r.new a z
    · exact .inr (r.h0 n)
  · rcases z with z | rfl
    · exact r2.al a z
    · exact t
  · obtain ⟨o, e1, q⟩ := r.slot i s e
    refine ⟨o, e1, ?_⟩
    cases s with
    | no => trivial
    | d x => obtain ⟨v, e2, h⟩ := q; exact ⟨v, e2, h.mono sm⟩
    | own xs =>
      obtain ⟨p, vs, e2, x1, x2, h1, h2⟩ := q
      exact ⟨p, vs, e2, .inl x1, x2, f.1 p _ h1 (r.nh x2), h2.mono sm⟩
    | hand => exact q
    | exc c fs => exact q.exc sm
    | ins C0 ns ds =>
      obtain ⟨p, dx, vs, e2, x1, x2, h1, l, h2⟩ := q
      exact ⟨p, dx, vs, e2, .inl x1, x2, f.1 p _ h1 (r.nh x2), l, h2.mono sm⟩
end
def lcGo (f : DGX) (tt : DTX) (te : DX) (env : List Sl) (Q : Dt → Prop) : List Dt → List Dt → Prop
  | [], acc => Q (.lst acc)
  | x :: xs, acc => f x env fun env' => tt env' (fun b => if b = true then te env' (fun y => acc.length < LINE ∧ lcGo f tt te env Q xs (acc ++ [y])) (fun _ => False) else lcGo f tt te env Q xs acc) fun _ => False
def eLc (src : DAX) (f : DGX) (tt : DTX) (te : DX) (vs : List Nat) : DX := fun env Q E => src env (fun ds => lcGo f tt te (wipeS env vs) Q ds []) E
theorem xok_no {C : Bc} {X : Addr → Prop} {σ : L2.St} {H : Hp} : XOk C X σ H fun _ => False := fun _ _ _ _ _ _ z => z.elim
theorem frm_put {C : Bc} {X : Addr → Prop} {env : List Sl} {σ : L2.St} {H1 H : Hp} {D : Addr} {o : HO} (r : Rep C X env σ H1) (n : H1 D = none) (f : Frm C.hd H1 H) : Frm C.hd H1 (upd H D o) := by
  refine ⟨fun a u e k => ?_, fun h c e x => ?_⟩
  · rw [upd_ne (ne_of_none e n)]; exact f.1 a u e k
  · have x2 := f.2 h c e x
    obtain ⟨_, _, _, _, a1, a2, _⟩ := x
    obtain ⟨cells, at_, big, mix, b1, b2, b3⟩ := x2
    exact ⟨cells, at_, big, mix, by rw [upd_ne (ne_of_none a1 n)]; exact b1, by rw [upd_ne (ne_of_none a2 n)]; exact b2, b3⟩
theorem df_lc {C : Bc} {wi : TI} {g : TG} {tt : TT} {te : TE} {vs : List Nat} {src : DAX} {f : DGX} {et : DTX} {ee : DX} (hi : DIg Weak C wi src) (hg : DG C g vs f) (ht : DT C tt et) (he : DE C te ee) : DF C (tLc wi g tt te vs) (eLc src f et ee vs) := by
  intro X env σ H Q Qd Qx rp h q x
  refine hi X env σ H _ _ Qx rp h (fun ds J H1 f1 w h1 => ?_) x
  show ∀ D, H1 D = none → Lc J g tt te vs D σ H1 Q
  intro D hD
  have rp1 := rp.step f1
  let W : Nat → Nat → Hp → Prop := fun i m H2 => m + i = ds.length ∧ Frm C.hd H1 H2 ∧ ∃ acc us, H2 D = some (.lst us) ∧ DenAll C.K (vis H2 fun a => X a ∨ a = D) us acc ∧ lcGo f et ee (wipeS env vs) Qd (ds.drop i) acc
  refine ⟨W, ⟨ds.length, rfl, .upd hD, [], [], upd_same, .nil, h1⟩, fun i m H2 ⟨hm, f2, acc, us, hD2, a2, go⟩ => ?_⟩
  have rpY : Rep C (fun a => X a ∨ a = D) env σ H2 := rp1.hide hD f2 ⟨_, hD2⟩
  have rpW := rpY.wiped vs
  have sW : Weak C X H1 (fun a => X a ∨ a = D) H2 := ⟨f2, rp1.hX, fun a z => z.imp id fun (e : a = D) => by rw [e]; exact hD, rpY.al⟩
  have hw := w _ i H2 sW
  have nh : ∀ h c, C.hd = some (h, c) → D ≠ h := fun h c e z => by
    obtain ⟨_, _, _, _, q, _⟩ := (rp1.hands h c e).2.2
    rw [z, q] at hD; cases hD
  by_cases c : i < ds.length
  · obtain ⟨g1, g2⟩ := hw.1 c
    refine .inr ⟨g1, W (i + 1) (m - 1), fun H' hW => ⟨m - 1, by omega, hW⟩, fun y H3 hy => ?_⟩
    obtain ⟨s3, d, hd, den⟩ := g2 y H3 hy
    have ed : ds.drop i = d :: ds.drop (i + 1) := by
      rw [List.drop_eq_getElem_cons c]
      congr 1
      rw [List.getElem?_eq_getElem c] at hd
      exact Option.some.inj hd
    rw [ed] at go
    have step : ∀ H5, Frm C.hd H3 H5 → Frm C.hd H1 H5 ∧ H5 D = some (.lst us) ∧ DenAll C.K (vis H5 fun a => X a ∨ a = D) us acc := fun H5 f5 => by
      have f25 : Frm C.hd H2 H5 := (Frm.same s3).trans f5
      exact ⟨f2.trans f25, f25.1 D _ hD2 nh, a2.mono (rpY.vs f25)⟩
    refine hg _ _ _ H3 y d _ _ (rpW.step (.same s3)) den go fun env' σ' rp' he' hl hk _ => ⟨wipe_of hl hk, ?_⟩
    refine ht _ env' σ' H3 _ _ _ rp' he' (fun b H4 f4 hb => ?_) xok_no
    cases b with
    | false =>
      rw [if_neg (by decide)] at hb ⊢
      obtain ⟨k1, k2, k3⟩ := step H4 f4
      exact ⟨by omega, k1, acc, us, k2, k3, hb⟩
    | true =>
      rw [if_pos rfl] at hb ⊢
      refine he _ env' σ' H4 _ _ _ (rp'.step f4) hb (fun y2 v2 H5 f5 den5 hb5 => ?_) xok_no
      obtain ⟨k1, k2, k3⟩ := step H5 (f4.trans f5)
      have sv : Same (vis H5 fun a => X a ∨ a = D) (vis (upd H5 D (.lst (us ++ [v2]))) fun a => X a ∨ a = D) := fun a o e => by
        obtain ⟨n1, e1⟩ := vis_of e
        exact vis_mk n1 (by rw [upd_ne fun z => n1 (.inr z)]; exact e1)
      refine ⟨us, k2, by rw [k3.length, sizeLine_eq]; exact hb5.1, by omega, frm_put rp1 hD k1, acc ++ [y2], us ++ [v2], upd_same, (k3.snoc den5).mono sv, hb5.2⟩
  · have e : ds.drop i = [] := List.drop_eq_nil_of_le (by omega)
    rw [e] at go
    exact .inl ⟨hw.2 (by omega), q _ _ H2 (f1.trans f2) ⟨D, us, acc, rfl, rfl, f1.free (fun h c e => (rp.hands h c e).2.2) hD, hD2, a2⟩ go⟩
def eYes : DTX := fun _ Q _ => Q true
theorem dt_yes {C : Bc} : DT C tYes eYes := fun X env σ H Q Qd Qx rp he q x => q true H (.refl H) he
/-! ### calls of defs of one's own -/
abbrev DFn := List Sl → (Dt → Prop) → (Xc → Prop) → Prop
def spD (K : PySem.W.Frag) (F : DFn) : Sp := fun vs H Q E => ∃ (X : Addr → Prop) (hd : Hnd) (args : List Sl) (Qd : Dt → Prop) (Qx : Xc → Prop), (∀ a, X a → ∃ o, H a = some o) ∧ (∀ h c, hd = some (h, c) → X h ∧ HandC H h c) ∧ SlAll K hd X H vs args ∧ F args Qd Qx ∧
  (∀ d v H', Frm hd H H' → Den K (vis H' X) v d → Qd d → Q v H') ∧ (∀ x cls dx H', Frm hd H H' → XRep K (vis H' X) cls dx x → Qx x → E cls dx H')
def Dvs (dvs : List V) (dd : List Sl) : Prop := ∀ (K : PySem.W.Frag) (hd : Hnd) (X : Addr → Prop) (H : Hp), SlAll K hd X H dvs dd
theorem dv_nil : Dvs [] [] := fun _ _ _ _ => .nil
theorem dv_cons {v : V} {d : Dt} {vs : List V} {dd : List Sl} (e : d.flat = some v) (r : Dvs vs dd) : Dvs (v :: vs) (.d d :: dd) := fun K hd X H => .d (.of_flat e) (r K hd X H)
def eCall (F : DFn) (dd : List Sl) (a : DSX) : DX := fun env Q E => a env (fun ss => F (ss ++ dd) Q E) E
def eCall0 (F : DFn) (dd : List Sl) (a : DSX) : DX := fun env Q E => a env (fun ss => F (ss ++ dd) Q fun _ => False) E
section
variable {C : Bc} {F : DFn} {dvs : List V} {dd : List Sl} {t : TA} {a : DSX}
theorem spD_use {X : Addr → Prop} {env : List Sl} {σ : L2.St} {H : Hp} {vs : List V} {ss : List Sl} {Q : VK} {E : XK} {Qd : Dt → Prop} {Qx : Xc → Prop} (rp : Rep C X env σ H) (r : SlAll C.K C.hd X H vs ss) (h : F ss Qd Qx)
    (q : ∀ d v H', Frm C.hd H H' → Den C.K (vis H' X) v d → Qd d → Q v H') (x : ∀ x cls dx H', Frm C.hd H H' → XRep C.K (vis H' X) cls dx x → Qx x → E cls dx H') : spD C.K F vs H Q E :=
  ⟨X, C.hd, ss, Qd, Qx, rp.al, fun h c e => ⟨rp.hX h c e, (rp.hands h c e).2.2⟩, r, h, q, x⟩
theorem de_call0 (hd : Dvs dvs dd) (ha : DAs C t a) : DE C (tCall (spD C.K F) dvs E0 t) (eCall0 F dd a) := by
  intro X env σ H Q Qd Qx rp he q x
  refine ha X env σ H _ _ Qx rp he (fun ss vs H1 f1 r1 he1 => ?_) x
  exact spD_use (rp.step f1) (SlAll.append r1 (hd C.K C.hd X H1)) he1 (fun d v H' f h => q d v H' (f1.trans f) h) fun _ _ _ _ _ _ z => z.elim
theorem de_call {E : XK} (hE : C.E = fun _ => E) (hd : Dvs dvs dd) (ha : DAs C t a) : DE C (tCall (spD C.K F) dvs E t) (eCall F dd a) := by
  intro X env σ H Q Qd Qx rp he q x
  refine ha X env σ H _ _ Qx rp he (fun ss vs H1 f1 r1 he1 => ?_) x
  exact spD_use (rp.step f1) (SlAll.append r1 (hd C.K C.hd X H1)) he1 (fun d v H' f h => q d v H' (f1.trans f) h) fun y cls dx H' f r z => by
    have := x y cls dx H' (f1.trans f) r z
    rw [hE] at this
    exact this
theorem de_callSD {E : L2.St → XK} (hE : C.E = E) (hd : Dvs dvs dd) (ha : DAs C t a) : DE C (tCallSD (spD C.K F) dvs E t) (eCall F dd a) := by
  intro X env σ H Q Qd Qx rp he q x
  refine ha X env σ H _ _ Qx rp he (fun ss vs H1 f1 r1 he1 => ?_) x
  exact spD_use (rp.step f1) (SlAll.append r1 (hd C.K C.hd X H1)) he1 (fun d v H' f h => q d v H' (f1.trans f) h) fun y cls dx H' f r z => by
    have := x y cls dx H' (f1.trans f) r z
    rw [hE] at this
    exact this
theorem de_callS {E : L2.St → XK} (hE : C.E = E) (ha : DAs C t a) : DE C (tCallS (spD C.K F) E t) (eCall F [] a) := by
  intro X env σ H Q Qd Qx rp he q x
  refine ha X env σ H _ _ Qx rp he (fun ss vs H1 f1 r1 he1 => ?_) x
  rw [List.append_nil] at he1
  exact spD_use (rp.step f1) r1 he1 (fun d v H' f h => q d v H' (f1.trans f) h) fun y cls dx H' f r z => by
    have := x y cls dx H' (f1.trans f) r z
    rw [hE] at this
    exact this
end
end Mine

namespace Mine
open PySem PySem.Spec PyProof.Rows L2
/-! ### statements, by data -/
structure DEn where
  nx : List Sl → Prop
  rt : Dt → Prop
  bk : List Sl → Prop
  ct : List Sl → Prop
  xc : List Sl → Xc → Prop
abbrev DSt := DEn → List Sl → Prop
/-- what is wanted at the ends, from a place on -/
structure Lnk (C : Bc) (X : Addr → Prop) (H : Hp) (D : Ends) (d : DEn) : Prop where
  nx : ∀ X' env σ H', Rep C X' env σ H' → Same (vis H X) (vis H' X') → d.nx env → D.nx σ H'
  rt : ∀ X' env σ H' v x, Rep C X' env σ H' → Same (vis H X) (vis H' X') → Den C.K (vis H' X') v x → d.rt x → D.rt v H'
  bk : ∀ X' env σ H', Rep C X' env σ H' → Same (vis H X) (vis H' X') → d.bk env → D.bk σ H'
  ct : ∀ X' env σ H', Rep C X' env σ H' → Same (vis H X) (vis H' X') → d.ct env → D.ct σ H'
  xc : ∀ X' env σ H' x cls dx, Rep C X' env σ H' → Same (vis H X) (vis H' X') → XRep C.K (vis H' X') cls dx x → d.xc env x → C.E σ cls dx H'
def DS (C : Bc) (t : TS) (s : DSt) : Prop := ∀ X env σ H D d, Rep C X env σ H → Lnk C X H D d → s d env → t D σ H
section
variable {C : Bc} {X X1 : Addr → Prop} {env : List Sl} {σ : L2.St} {H H1 : Hp} {D : Ends} {d : DEn}
theorem Lnk.step (l : Lnk C X H D d) (s : Same (vis H X) (vis H1 X1)) : Lnk C X1 H1 D d where
  nx := fun X' env σ H' r k h => l.nx X' env σ H' r (s.trans k) h
  rt := fun X' env σ H' v x r k a h => l.rt X' env σ H' v x r (s.trans k) a h
  bk := fun X' env σ H' r k h => l.bk X' env σ H' r (s.trans k) h
  ct := fun X' env σ H' r k h => l.ct X' env σ H' r (s.trans k) h
  xc := fun X' env σ H' x cls dx r k a h => l.xc X' env σ H' x cls dx r (s.trans k) a h
theorem Lnk.xok (l : Lnk C X H D d) (r : Rep C X env σ H) : XOk C X σ H (d.xc env) := fun x cls dx H' f a h => l.xc X env σ H' x cls dx (r.step f) (r.vs f) a h
end
def sNext : DSt := fun d env => d.nx env
def sSeq (a b : DSt) : DSt := fun d env => a { d with nx := b d } env
def sDrop (e : DX) : DSt := fun d env => e env (fun _ => d.nx env) (d.xc env)
def sRet (e : DX) : DSt := fun d env => e env d.rt (d.xc env)
def sRetN : DSt := fun d _ => d.rt .non
def sIf (c : DTX) (a b : DSt) : DSt := fun d env => c env (fun k => if k = true then a d env else b d env) (d.xc env)
def sBreak : DSt := fun d env => d.bk env
def sCont : DSt := fun d env => d.ct env
def sAsg (e : DX) (f : DGX) : DSt := fun d env => e env (fun x => f x env d.nx) (d.xc env)
/-- name = a new list, a list of one's own from now on -/
def sOwn (j : Nat) (e : DX) : DSt := fun d env => e env (fun x => match x with
  | .lst xs => d.nx (env.set j (.own (.lst xs)))
  | _ => False) (d.xc env)
def sPar (i j : Nat) (a : DAX) : DSt := fun d env => a env (fun ds => match ds with
  | [x, y] => d.nx ((env.set i (.d x)).set j (.d y))
  | _ => False) (d.xc env)
def sPar3 (i j l : Nat) (a : DAX) : DSt := fun d env => a env (fun ds => match ds with
  | [x, y, z] => d.nx (((env.set i (.d x)).set j (.d y)).set l (.d z))
  | _ => False) (d.xc env)
def frz (env : List Sl) (i : Nat) : List Sl := match env[i]? with
  | some (.own w) => env.set i (.d w.fz)
  | _ => env
def sFrz (i : Nat) (s : DSt) : DSt := fun d env => s d (frz env i)
section
variable {C : Bc} {t u : TS} {a b : DSt} {te : TE} {e : DX} {c : TT} {ec : DTX} {ta : TA} {ea : DAX} {g : TG} {f : DGX} {js : List Nat}
theorem dst_next : DS C tNext sNext := fun X env σ H D d r l h => l.nx X env σ H r (Same.refl _) h
theorem dst_seq (ha : DS C t a) (hb : DS C u b) : DS C (tSeq t u) (sSeq a b) := by
  intro X env σ H D d r l h
  refine ha X env σ H { D with nx := u D } { d with nx := b d } r ⟨fun X' env' σ' H' r' k h' => ?_, l.rt, l.bk, l.ct, l.xc⟩ h
  exact hb X' env' σ' H' D d r' (l.step k) h'
theorem dst_drop (he : DE C te e) : DS C (tDrop te) (sDrop e) := fun X env σ H D d r l h =>
  he X env σ H _ _ _ r h (fun x v H1 f1 _ h1 => l.nx X env σ H1 (r.step f1) (r.vs f1) h1) (l.xok r)
theorem dst_ret (he : DE C te e) : DS C (tRet te) (sRet e) := fun X env σ H D d r l h =>
  he X env σ H _ _ _ r h (fun x v H1 f1 r1 h1 => l.rt X env σ H1 v x (r.step f1) (r.vs f1) r1 h1) (l.xok r)
theorem dst_retN : DS C tRetN sRetN := fun X env σ H D d r l h => l.rt X env σ H .non .non r (Same.refl _) .non h
theorem dst_if (hc : DT C c ec) (ha : DS C t a) (hb : DS C u b) : DS C (tIfS c t u) (sIf ec a b) := by
  intro X env σ H D d r l h
  refine hc X env σ H _ _ _ r h (fun k H1 f1 h1 => ?_) (l.xok r)
  cases k with
  | true => rw [if_pos rfl] at h1 ⊢; exact ha X env σ H1 D d (r.step f1) (l.step (r.vs f1)) h1
  | false => rw [if_neg (by decide)] at h1 ⊢; exact hb X env σ H1 D d (r.step f1) (l.step (r.vs f1)) h1
theorem dst_break : DS C tBreak sBreak := fun X env σ H D d r l h => l.bk X env σ H r (Same.refl _) h
theorem dst_cont : DS C tCont sCont := fun X env σ H D d r l h => l.ct X env σ H r (Same.refl _) h
theorem dst_asg (he : DE C te e) (hg : DG C g js f) : DS C (tAsg te g) (sAsg e f) := by
  intro X env σ H D d r l h
  refine he X env σ H _ _ _ r h (fun x v H1 f1 r1 h1 => ?_) (l.xok r)
  exact hg X env σ H1 v x _ _ (r.step f1) r1 h1 fun env' σ' r' h' _ _ _ => l.nx X env' σ' H1 r' (r.vs f1) h'
theorem dst_par {i j : Nat} (ha : DA C ta ea) : DS C (tPar i j ta) (sPar i j ea) := by
  intro X env σ H D d r l h
  refine ha X env σ H _ _ _ r h (fun ds vs H1 f1 r1 h1 => ?_) (l.xok r)
  split at h1
  · have r1 : DenAll C.K (vis H1 X) vs _ := r1
    cases r1 with
    | cons a1 r1 =>
      cases r1 with
      | cons a2 r1 =>
        cases r1
        exact ⟨_, _, rfl, l.nx X _ _ H1 (((r.step f1).set i a1).set j a2) (r.vs f1) h1⟩
  · exact h1.elim
theorem dst_par3 {i j k : Nat} (ha : DA C ta ea) : DS C (tPar3 i j k ta) (sPar3 i j k ea) := by
  intro X env σ H D d r l h
  refine ha X env σ H _ _ _ r h (fun ds vs H1 f1 r1 h1 => ?_) (l.xok r)
  split at h1
  · have r1 : DenAll C.K (vis H1 X) vs _ := r1
    cases r1 with
    | cons a1 r1 =>
      cases r1 with
      | cons a2 r1 =>
        cases r1 with
        | cons a3 r1 =>
          cases r1
          exact ⟨_, _, _, rfl, l.nx X _ _ H1 ((((r.step f1).set i a1).set j a2).set k a3) (r.vs f1) h1⟩
  · exact h1.elim
end
/-! ### lists of one's own -/
section
variable {C : Bc} {X : Addr → Prop} {env : List Sl} {σ : L2.St} {H : Hp}
/-- slot j holds the new list p -/
theorem Rep.setOwn {H1 : Hp} {p : Addr} {vs : HO} {xs : Ow} (r : Rep C X env σ H) (f : Frm C.hd H H1) (n : H p = none) (j : Nat) (h1 : H1 p = some vs) (h2 : DenO C.K (vis H1 fun a => X a ∨ a = p) vs xs) :
    Rep C (fun a => X a ∨ a = p) (env.set j (.own xs)) (σ.set j (some (.ref p))) H1 := by
  have r0 := r.hide n f ⟨_, h1⟩
  refine ⟨by rw [List.length_set, List.length_set, r.len], r0.sup, r0.new, r0.al, r0.frm, r0.hands, fun i s e => ?_, fun i k xs' ys' ne e1 e2 => ?_, r0.one.set fun _ _ _ z => by cases z⟩
  · rw [List.getElem?_set] at e ⊢
    by_cases c : j = i
    · subst c
      rw [if_pos rfl] at e ⊢
      by_cases hl : j < env.length
      · rw [if_pos hl] at e
        rw [if_pos (r.len ▸ hl)]
        cases e
        refine ⟨_, rfl, p, vs, rfl, .inr rfl, fun z => ?_, h1, h2⟩
        obtain ⟨o, e⟩ := r.al p (r.sup p z)
        rw [n] at e; cases e
      · rw [if_neg hl] at e; cases e
    · rw [if_neg c] at e ⊢
      exact r0.slot i s e
  · rw [List.getElem?_set] at e1 e2 ⊢
    rw [List.getElem?_set]
    have other : ∀ i zs, j ≠ i → env[i]? = some (Sl.own zs) → σ[i]? ≠ some (some (.ref p)) := fun i zs c e z => by
      obtain ⟨o, q, p', vs', rfl, x1, x2, y1, y2⟩ := r.slot i _ e
      rw [q] at z
      have : p' = p := by injection z with z; injection z with z; injection z
      subst this
      rw [n] at y1; cases y1
    by_cases c : j = i
    · subst c
      have c2 : j ≠ k := ne
      rw [if_neg c2] at e2
      rw [if_pos rfl, if_neg c2]
      by_cases hl : j < env.length
      · rw [if_pos (r.len ▸ hl)]
        exact fun z => other k ys' c2 e2 z.symm
      · rw [if_pos rfl, if_neg hl] at e1; cases e1
    · rw [if_neg c] at e1 ⊢
      by_cases c2 : j = k
      · subst c2
        by_cases hl : j < env.length
        · rw [if_pos rfl, if_pos (r.len ▸ hl)]
          exact other i xs' c e1
        · rw [if_pos rfl, if_neg hl] at e2; cases e2
      · rw [if_neg c2] at e2 ⊢
        exact r.inj i k xs' ys' ne e1 e2
/-- the list in slot i is changed -/
theorem Rep.own {i : Nat} {p : Addr} {vs' : HO} {xs xs' : Ow} (r : Rep C X env σ H) (e : env[i]? = some (.own xs)) (es : σ[i]? = some (some (.ref p))) (x1 : X p) (x2 : ¬ C.X0 p) (h2 : DenO C.K (vis H X) vs' xs') :
    Rep C X (env.set i (.own xs')) σ (upd H p vs') ∧ Same (vis H X) (vis (upd H p vs') X) := by
  have sm : Same (vis H X) (vis (upd H p vs') X) := fun a o q => by
    obtain ⟨n1, e1⟩ := vis_of q
    exact vis_mk n1 (by rw [upd_ne (fun (z : a = p) => n1 (by rw [z]; exact x1))]; exact e1)
  have h0 : C.H0 p = none := (r.new p x1).resolve_left x2
  have fm : Frm C.hd C.H0 (upd H p vs') := by
    refine ⟨fun a u q k => ?_, fun h c q x => ?_⟩
    · rw [upd_ne (ne_of_none q h0)]; exact r.frm.1 a u q k
    · have y := r.frm.2 h c q x
      obtain ⟨_, _, _, _, a1, a2, _⟩ := x
      obtain ⟨cells, at_, big, mix, b1, b2, b3⟩ := y
      exact ⟨cells, at_, big, mix, by rw [upd_ne (ne_of_none a1 h0)]; exact b1, by rw [upd_ne (ne_of_none a2 h0)]; exact b2, b3⟩
  refine ⟨⟨by rw [List.length_set, r.len], r.sup, r.new, fun a z => ?_, fm, fun h c q => ⟨(r.hands h c q).1, (r.hands h c q).2.1, fm.2 h c q (r.hands h c q).2.1⟩, fun j s q => ?_, fun j k ys zs ne e1 e2 => ?_, r.one.set fun _ _ _ z => by cases z⟩, sm⟩
  · by_cases c : a = p
    · subst c; exact ⟨_, upd_same⟩
    · obtain ⟨o, q⟩ := r.al a z
      exact ⟨o, by rw [upd_ne c]; exact q⟩
  · rw [List.getElem?_set] at q
    by_cases c : i = j
    · subst c
      have hl : i < env.length := (List.getElem?_eq_some_iff.mp e).1
      rw [if_pos rfl, if_pos hl] at q
      cases q
      exact ⟨_, es, p, vs', rfl, x1, x2, upd_same, h2.mono sm⟩
    · rw [if_neg c] at q
      obtain ⟨o, e1, w⟩ := r.slot j s q
      refine ⟨o, e1, ?_⟩
      cases s with
      | no => trivial
      | d x => obtain ⟨v, e2, h⟩ := w; exact ⟨v, e2, h.mono sm⟩
      | own ys =>
        obtain ⟨p', us, rfl, y1, y2, y3, y4⟩ := w
        have ne : p' ≠ p := fun z => r.inj i j xs ys c e q (by rw [es, e1, z])
        exact ⟨p', us, rfl, y1, y2, by rw [upd_ne ne]; exact y3, y4.mono sm⟩
      | hand => exact w
      | exc c' fs => exact w.exc sm
      | ins C0 ns ds =>
        obtain ⟨p', dx, us, rfl, y1, y2, y3, yl, y4⟩ := w
        have ne : p' ≠ p := fun z => by
          obtain ⟨o2, es2, p2, us2, rfl, _, _, k2, k3⟩ := r.slot i _ e
          rw [es] at es2; cases es2
          rw [z, k2] at y3; cases y3; exact k3.noins
        exact ⟨p', dx, us, rfl, y1, y2, by rw [upd_ne ne]; exact y3, yl, y4.mono sm⟩
  · rw [List.getElem?_set] at e1 e2
    have hl : i < env.length := (List.getElem?_eq_some_iff.mp e).1
    by_cases c : i = j
    · subst c
      rw [if_neg ne] at e2
      exact r.inj i k xs zs ne e e2
    · rw [if_neg c] at e1
      by_cases c2 : i = k
      · subst c2
        exact r.inj j i ys xs ne e1 e
      · rw [if_neg c2] at e2
        exact r.inj j k ys zs ne e1 e2
/-- the list in slot i is no longer one's own -/
theorem Rep.frz (r : Rep C X env σ H) (i : Nat) : ∃ X', Rep C X' (frz env i) σ H ∧ Same (vis H X) (vis H X') := by
  unfold Mine.frz
  split
  · rename_i xs e
    obtain ⟨o, es, p, vs, rfl, x1, x2, h1, h2⟩ := r.slot i _ e
    have hl : i < env.length := (List.getElem?_eq_some_iff.mp e).1
    have sm : Same (vis H X) (vis H fun a => X a ∧ a ≠ p) := vis_anti fun a z => z.1
    refine ⟨fun a => X a ∧ a ≠ p, ⟨by rw [List.length_set, r.len], fun a z => ⟨r.sup a z, fun q => x2 (q ▸ z)⟩, fun a z => r.new a z.1, fun a z => r.al a z.1, r.frm, r.hands, fun j s q => ?_, fun j k ys zs ne e1 e2 => ?_, r.one.set fun _ _ _ z => by cases z⟩, sm⟩
    · rw [List.getElem?_set] at q
      by_cases c : i = j
      · subst c
        rw [if_pos rfl, if_pos hl] at q
        cases q
        exact ⟨_, es, _, rfl, (h2.mono sm).fz (vis_mk (fun z => z.2 rfl) h1)⟩
      · rw [if_neg c] at q
        obtain ⟨o, e1, w⟩ := r.slot j s q
        refine ⟨o, e1, ?_⟩
        cases s with
        | no => trivial
        | d x => obtain ⟨v, e2, h⟩ := w; exact ⟨v, e2, h.mono sm⟩
        | own ys =>
          obtain ⟨p', us, rfl, y1, y2, y3, y4⟩ := w
          have ne : p' ≠ p := fun z => r.inj i j xs ys c e q (by rw [es, e1, z])
          exact ⟨p', us, rfl, ⟨y1, ne⟩, y2, y3, y4.mono sm⟩
        | hand => exact w
        | exc c' fs => exact w.exc sm
        | ins C0 ns ds =>
          obtain ⟨p', dx, us, rfl, y1, y2, y3, yl, y4⟩ := w
          have ne : p' ≠ p := fun z => by rw [z, h1] at y3; cases y3; exact h2.noins
          exact ⟨p', dx, us, rfl, ⟨y1, ne⟩, y2, y3, yl, y4.mono sm⟩
    · rw [List.getElem?_set] at e1 e2
      by_cases c : i = j
      · subst c
        rw [if_pos rfl, if_pos hl] at e1; cases e1
      · rw [if_neg c] at e1
        by_cases c2 : i = k
        · subst c2
          rw [if_pos rfl, if_pos hl] at e2; cases e2
        · rw [if_neg c2] at e2
          exact r.inj j k ys zs ne e1 e2
  · exact ⟨X, r, Same.refl _⟩
theorem Rep.ownAt (r : Rep C X env σ H) {i : Nat} {xs : List Dt} (e : env[i]? = some (.own (.lst xs))) : ∃ p vs, σ[i]? = some (some (.ref p)) ∧ X p ∧ ¬ C.X0 p ∧ H p = some (.lst vs) ∧ DenAll C.K (vis H X) vs xs := by
  obtain ⟨o, es, p, u, rfl, x1, x2, h1, h2⟩ := r.slot i _ e
  cases h2 with
  | @lst vs _ a => exact ⟨p, vs, es, x1, x2, h1, a⟩
theorem Rep.ownAtO (r : Rep C X env σ H) {i : Nat} {w : Ow} (e : env[i]? = some (.own w)) : ∃ p u, σ[i]? = some (some (.ref p)) ∧ X p ∧ ¬ C.X0 p ∧ H p = some u ∧ DenO C.K (vis H X) u w := by
  obtain ⟨o, es, p, u, rfl, x1, x2, h1, h2⟩ := r.slot i _ e
  exact ⟨p, u, es, x1, x2, h1, h2⟩
end
/-- x.append(e) -/
def sApp (i : Nat) (e : DX) : DSt := fun d env => match env[i]? with
  | some (.own (.lst xs)) => e env (fun y => xs.length < LINE ∧ d.nx (env.set i (.own (.lst (xs ++ [y]))))) (d.xc env)
  | _ => False
/-- x.extend(e), e a list -/
def sExt (i : Nat) (e : DX) : DSt := fun d env => match env[i]? with
  | some (.own (.lst xs)) => e env (fun y => match y with
    | .lst ys => xs.length + ys.length ≤ LINE ∧ d.nx (env.set i (.own (.lst (xs ++ ys))))
    | _ => False) (d.xc env)
  | _ => False
/-- x.pop() -/
def sPop (i : Nat) : DSt := fun d env => match env[i]? with
  | some (.own (.lst xs)) => xs ≠ [] ∧ d.nx (env.set i (.own (.lst xs.dropLast)))
  | _ => False
/-- y = x.pop() -/
def sPopTo (i j : Nat) : DSt := fun d env => match env[i]? with
  | some (.own (.lst xs)) => ∃ y, xs[xs.length - 1]? = some y ∧ d.nx ((env.set i (.own (.lst xs.dropLast))).set j (.d y))
  | _ => False
/-- x[k] = e -/
def sPut (i : Nat) (ek e : DX) : DSt := fun d env => match env[i]? with
  | some (.own (.lst xs)) => e env (fun y => ek env (fun k => match k with
    | .int k => ∃ j, ixN xs.length k = some j ∧ d.nx (env.set i (.own (.lst (xs.set j y))))
    | _ => False) (d.xc env)) (d.xc env)
  | _ => False
/-- x[k] += e -/
def sAugP (f : Int → Int → Int) (i : Nat) (ek e : DX) : DSt := fun d env => match env[i]? with
  | some (.own (.lst xs)) => ek env (fun k => match k with
    | .int k => ∃ j z, ixN xs.length k = some j ∧ xs[j]? = some (.int z) ∧ e env (fun y => match y with
      | .int y => d.nx (env.set i (.own (.lst (xs.set j (.int (f z y))))))
      | _ => False) (d.xc env)
    | _ => False) (d.xc env)
  | _ => False
/-- x += e at a name that holds a whole number -/
def sAug (f : Int → Int → Int) (i : Nat) (e : DX) : DSt := fun d env => match env[i]? with
  | some (.d (.int x)) => e env (fun y => match y with
    | .int y => d.nx (env.set i (.d (.int (f x y))))
    | _ => False) (d.xc env)
  | _ => False
section
variable {C : Bc} {te tk : TE} {e ek : DX} {i : Nat}
theorem dst_own {j : Nat} (he : DF C te e) : DS C (tAsg te (gName j)) (sOwn j e) := by
  intro X env σ H D d r l h
  refine he X env σ H _ _ _ r h (fun x v H1 f1 r1 h1 => ?_) (l.xok r)
  obtain ⟨p, vs, ds, rfl, rfl, n, h2, h3⟩ := r1
  refine l.nx _ _ _ H1 (r.setOwn f1 n j h2 (.lst h3)) (fun a o q => ?_) h1
  obtain ⟨n1, e1⟩ := vis_of q
  exact vis_mk (fun z => z.elim n1 (ne_of_none e1 n)) (vis_of (r.vs f1 _ _ q)).2
theorem dst_frz {t : TS} {s : DSt} (i : Nat) (h : DS C t s) : DS C t (sFrz i s) := by
  intro X env σ H D d r l q
  obtain ⟨X', r', sm⟩ := r.frz i
  exact h X' _ σ H D d r' (l.step sm) q
theorem tyv_lst {K : PySem.W.Frag} {H : Hp} {p : Addr} {xs : List V} (h : H p = some (.lst xs)) : tyV K "list" (.ref p) H := .inl ⟨rfl, xs, .inl (.inl h)⟩
theorem dst_app (he : DE C te e) : DS C (tDrop (tBM C.K "list" rAppend (tVar i) (tCons te tNil))) (sApp i e) := by
  intro X env σ H D d r l h
  unfold sApp at h
  split at h
  · rename_i xs e1
    obtain ⟨p, vs, es, x1, x2, h1, h2⟩ := r.ownAt e1
    refine ⟨.ref p, es, tyv_lst h1, ?_⟩
    refine he X env σ H _ _ _ r h (fun y v H1 f1 r1 hy => ?_) (l.xok r)
    have k2 := h2.mono (r.vs f1)
    refine ⟨p, vs, v, rfl, rfl, f1.1 p _ h1 (r.nh x2), by rw [h2.length, sizeLine_eq]; exact hy.1, ?_⟩
    obtain ⟨r3, sm⟩ := (r.step f1).own e1 es x1 x2 (.lst (k2.snoc r1))
    exact l.nx _ _ _ _ r3 ((r.vs f1).trans sm) hy.2
  · exact h.elim
theorem dst_ext (he : DB C te e) : DS C (tDrop (tBM C.K "list" rExtend (tVar i) (tCons te tNil))) (sExt i e) := by
  intro X env σ H D d r l h
  unfold sExt at h
  split at h
  · rename_i xs e1
    obtain ⟨p, vs, es, x1, x2, h1, h2⟩ := r.ownAt e1
    refine ⟨.ref p, es, tyv_lst h1, ?_⟩
    refine he X env σ H _ _ _ r h (fun y v H1 f1 r1 hy => ?_) (l.xok r)
    split at hy
    · obtain ⟨b, us, rfl, h3, a3⟩ := r1.lst
      have k2 := h2.mono (r.vs f1)
      refine ⟨p, b, vs, us, rfl, rfl, f1.1 p _ h1 (r.nh x2), h3, by rw [h2.length, a3.length, sizeLine_eq]; exact hy.1, ?_⟩
      obtain ⟨r3, sm⟩ := (r.step f1).own e1 es x1 x2 (.lst (k2.append a3))
      exact l.nx _ _ _ _ r3 ((r.vs f1).trans sm) hy.2
    · exact hy.elim
  · exact h.elim
theorem dst_pop : DS C (tDrop (tBM0 C.K "list" rPop (tVar i))) (sPop i) := by
  intro X env σ H D d r l h
  unfold sPop at h
  split at h
  · rename_i xs e1
    obtain ⟨p, vs, es, x1, x2, h1, h2⟩ := r.ownAt e1
    have hn : vs ≠ [] := fun z => by subst z; cases h2; exact h.1 rfl
    refine ⟨.ref p, es, tyv_lst h1, p, vs, vs.getLast hn, rfl, rfl, h1, ?_, ?_⟩
    · have := List.length_pos_iff.mpr hn
      rw [List.getLast_eq_getElem, List.getElem?_eq_getElem (by omega)]
    · obtain ⟨r3, sm⟩ := r.own e1 es x1 x2 (.lst h2.dropLast)
      exact l.nx _ _ _ _ r3 sm h.2
  · exact h.elim
theorem dst_popTo {j : Nat} : DS C (tAsg (tBM0 C.K "list" rPop (tVar i)) (gName j)) (sPopTo i j) := by
  intro X env σ H D d r l h
  unfold sPopTo at h
  split at h
  · rename_i xs e1
    obtain ⟨y, hy, h⟩ := h
    obtain ⟨p, vs, es, x1, x2, h1, h2⟩ := r.ownAt e1
    obtain ⟨v, hv, dv⟩ := h2.get hy
    rw [← h2.length] at hv
    refine ⟨.ref p, es, tyv_lst h1, p, vs, v, rfl, rfl, h1, hv, ?_⟩
    obtain ⟨r3, sm⟩ := r.own e1 es x1 x2 (.lst h2.dropLast)
    exact l.nx _ _ _ _ (r3.set j (dv.mono sm)) sm h
  · exact h.elim
theorem dst_put (he : DE C te e) (hk : DE C tk ek) : DS C (tAsg te (gSub (tVar i) tk rSetL)) (sPut i ek e) := by
  intro X env σ H D d r l h
  unfold sPut at h
  split at h
  · rename_i xs e1
    refine he X env σ H _ _ _ r h (fun y v H1 f1 r1 hy => ?_) (l.xok r)
    have rp1 := r.step f1
    obtain ⟨p, vs, es, x1, x2, h1, h2⟩ := rp1.ownAt e1
    refine ⟨.ref p, es, ?_⟩
    refine hk X env σ H1 _ _ _ rp1 hy (fun k u H2 f2 r2 hk2 => ?_) ((l.xok r).step f1)
    split at hk2
    · obtain ⟨j, hj, hk2⟩ := hk2
      have k2 := h2.mono (rp1.vs f2)
      refine ⟨p, vs, _, j, rfl, r2.flat rfl, f2.1 p _ h1 (rp1.nh x2), by rw [h2.length]; exact hj, ?_⟩
      obtain ⟨r3, sm⟩ := (rp1.step f2).own e1 es x1 x2 (.lst (k2.set j (Den.mono (rp1.vs f2) r1)))
      exact l.nx _ _ _ _ r3 ((r.vs f1).trans ((rp1.vs f2).trans sm)) hk2
    · exact hk2.elim
  · exact h.elim
theorem dst_augP {f : Int → Int → Int} (hk : DE C tk ek) (he : DE C te e) : DS C (tAugS (tVar i) tk te rIxH (ipI f) rSetL) (sAugP f i ek e) := by
  intro X env σ H D d r l h
  unfold sAugP at h
  split at h
  · rename_i xs e1
    obtain ⟨p, vs, es, x1, x2, h1, h2⟩ := r.ownAt e1
    refine ⟨.ref p, es, ?_⟩
    refine hk X env σ H _ _ _ r h (fun k u H1 f1 r1 hk2 => ?_) (l.xok r)
    split at hk2
    · rename_i kk
      obtain ⟨j, z, hj, hz, hk2⟩ := hk2
      have rp1 := r.step f1
      have k1 := f1.1 p _ h1 (r.nh x2)
      have k2 := h2.mono (r.vs f1)
      obtain ⟨w, hw, dw⟩ := k2.get hz
      have ew : w = .int z := dw.flat rfl
      subst ew
      have hj' : ixN vs.length kk = some j := by rw [h2.length]; exact hj
      refine ⟨p, kk, vs, .int z, rfl, r1.flat rfl, k1, by unfold atI; rw [hj']; exact hw, ?_⟩
      refine he X env σ H1 _ _ _ rp1 hk2 (fun y v H2 f2 r2 hy => ?_) ((l.xok r).step f1)
      split at hy
      · have k3 := k2.mono (rp1.vs f2)
        refine ⟨z, _, rfl, r2.flat rfl, p, vs, _, j, rfl, r1.flat rfl, f2.1 p _ k1 (rp1.nh x2), hj', ?_⟩
        obtain ⟨r3, sm⟩ := (rp1.step f2).own e1 es x1 x2 (.lst (k3.set j (.int _)))
        exact l.nx _ _ _ _ r3 ((r.vs f1).trans ((rp1.vs f2).trans sm)) hy
      · exact hy.elim
    · exact hk2.elim
  · exact h.elim
theorem dst_aug {f : Int → Int → Int} (he : DE C te e) : DS C (tAug i te (ipI f)) (sAug f i e) := by
  intro X env σ H D d r l h
  unfold sAug at h
  split at h
  · rename_i x e1
    obtain ⟨v, es, dv⟩ := r.at e1
    have ev : v = .int x := dv.flat rfl
    subst ev
    refine ⟨_, es, ?_⟩
    refine he X env σ H _ _ _ r h (fun y v H1 f1 r1 hy => ?_) (l.xok r)
    split at hy
    · exact ⟨x, _, rfl, r1.flat rfl, l.nx _ _ _ _ ((r.step f1).set i (.int _)) (r.vs f1) hy⟩
    · exact hy.elim
  · exact h.elim
end
/-! ### loops -/
def dFor (f : DGX) (b : DSt) (d : DEn) : List Dt → List Sl → Prop
  | [], env => d.nx env
  | x :: xs, env => f x env fun env' => b { d with nx := dFor f b d xs, ct := dFor f b d xs, bk := d.nx } env'
def sFor (src : DAX) (f : DGX) (b : DSt) : DSt := fun d env => src env (fun ds => dFor f b d ds env) (d.xc env)
/-- what a while is asked: an invariant that falls -/
def sWhile (c : DTX) (b : DSt) : DSt := fun d env => ∃ (I : Nat → List Sl → Prop) (m0 : Nat), I m0 env ∧ ∀ m env, I m env → c env (fun k => if k = true then b { d with nx := fun e => ∃ m', m' < m ∧ I m' e, ct := fun e => ∃ m', m' < m ∧ I m' e, bk := d.nx } env else d.nx env) (d.xc env)
section
variable {C : Bc} {wi : TI} {g : TG} {tb : TS} {src : DAX} {f : DGX} {b : DSt} {js : List Nat} {tc : TT} {ec : DTX}
theorem dst_for (hi : DIg Strong C wi src) (hg : DG C g js f) (hb : DS C tb b) : DS C (tFor wi g tb) (sFor src f b) := by
  intro X env σ H D d r l h
  refine hi X env σ H _ _ _ r h (fun ds J H1 f1 w h1 => ?_) (l.xok r)
  have rp1 := r.step f1
  have l1 := l.step (r.vs f1)
  let W : Nat → Nat → L2.St → Hp → Prop := fun i m σ2 H2 => m + i = ds.length ∧ ∃ X2 env2, Rep C X2 env2 σ2 H2 ∧ Same (vis H1 X) (vis H2 X2) ∧ dFor f b d (ds.drop i) env2
  refine ⟨W, ⟨ds.length, rfl, X, env, rp1, Same.refl _, h1⟩, fun i m σ2 H2 ⟨hm, X2, env2, r2, s2, go⟩ => ?_⟩
  have hw := w X2 i H2 ⟨s2, r2.al⟩
  by_cases c : i < ds.length
  · obtain ⟨g1, g2⟩ := hw.1 c
    refine .inr ⟨g1, W (i + 1) (m - 1), fun σ' H' hW => ⟨m - 1, by omega, hW⟩, fun y H3 hy => ?_⟩
    obtain ⟨s3, x, hx, den⟩ := g2 y H3 hy
    have ed : ds.drop i = x :: ds.drop (i + 1) := by
      rw [List.drop_eq_getElem_cons c]
      congr 1
      rw [List.getElem?_eq_getElem c] at hx
      exact Option.some.inj hx
    rw [ed] at go
    have r3 := r2.step (.same s3)
    have s13 : Same (vis H1 X) (vis H3 X2) := s2.trans (r2.vs (.same s3))
    refine hg X2 env2 σ2 H3 y x _ _ r3 den go fun env' σ' r' h' _ _ _ => ?_
    refine hb X2 env' σ' H3 _ { d with nx := dFor f b d (ds.drop (i + 1)), ct := dFor f b d (ds.drop (i + 1)), bk := d.nx } r' ⟨fun X4 env4 σ4 H4 r4 s4 h4 => ⟨by omega, X4, env4, r4, s13.trans s4, h4⟩, fun X4 env4 σ4 H4 v z r4 s4 a h4 => l1.rt X4 env4 σ4 H4 v z r4 (s13.trans s4) a h4,
      fun X4 env4 σ4 H4 r4 s4 h4 => l1.nx X4 env4 σ4 H4 r4 (s13.trans s4) h4, fun X4 env4 σ4 H4 r4 s4 h4 => ⟨by omega, X4, env4, r4, s13.trans s4, h4⟩, fun X4 env4 σ4 H4 z cls dx r4 s4 a h4 => l1.xc X4 env4 σ4 H4 z cls dx r4 (s13.trans s4) a h4⟩ h'
  · have e : ds.drop i = [] := List.drop_eq_nil_of_le (by omega)
    rw [e] at go
    exact .inl ⟨hw.2 (by omega), l1.nx X2 env2 σ2 H2 r2 s2 go⟩
theorem dst_while (hc : DT C tc ec) (hb : DS C tb b) : DS C (tWhile tc tb) (sWhile ec b) := by
  intro X env σ H D d r l ⟨I, m0, i0, turn⟩
  let W : Nat → L2.St → Hp → Prop := fun m σ2 H2 => ∃ X2 env2, Rep C X2 env2 σ2 H2 ∧ Same (vis H X) (vis H2 X2) ∧ I m env2
  refine ⟨W, ⟨m0, X, env, r, Same.refl _, i0⟩, fun m σ2 H2 ⟨X2, env2, r2, s2, i2⟩ => ?_⟩
  have l2 := l.step s2
  refine hc X2 env2 σ2 H2 _ _ _ r2 (turn m env2 i2) (fun k H3 f3 h3 => ?_) (l2.xok r2)
  have r3 := r2.step f3
  have s13 : Same (vis H X) (vis H3 X2) := s2.trans (r2.vs f3)
  cases k with
  | false => rw [if_neg (by decide)] at h3 ⊢; exact l.nx X2 env2 σ2 H3 r3 s13 h3
  | true =>
    rw [if_pos rfl] at h3 ⊢
    refine ⟨fun σ' H' => ∃ m', m' < m ∧ W m' σ' H', fun σ' H' h => h, ?_⟩
    exact hb X2 env2 σ2 H3 _ { d with nx := fun e => ∃ m', m' < m ∧ I m' e, ct := fun e => ∃ m', m' < m ∧ I m' e, bk := d.nx } r3 ⟨fun X4 env4 σ4 H4 r4 s4 ⟨m', a, h4⟩ => ⟨m', a, X4, env4, r4, s13.trans s4, h4⟩, fun X4 env4 σ4 H4 v z r4 s4 a h4 => l.rt X4 env4 σ4 H4 v z r4 (s13.trans s4) a h4,
      fun X4 env4 σ4 H4 r4 s4 h4 => l.nx X4 env4 σ4 H4 r4 (s13.trans s4) h4, fun X4 env4 σ4 H4 r4 s4 ⟨m', a, h4⟩ => ⟨m', a, X4, env4, r4, s13.trans s4, h4⟩, fun X4 env4 σ4 H4 z cls dx r4 s4 a h4 => l.xc X4 env4 σ4 H4 z cls dx r4 (s13.trans s4) a h4⟩ h3
end
end Mine

namespace Mine
open PySem PySem.Spec PyProof.Rows L2
/-! ### raise -/
def sRaise (c : Str) : DSt := fun d env => d.xc env ⟨c, []⟩
def sRaise1 (c f : Str) (e : DX) : DSt := fun d env => e env (fun x => match x.flat with
  | some u => d.xc env ⟨c, [(f, u)]⟩
  | none => False) (d.xc env)
section
variable {C : Bc} {W : WX} {te : TE} {e : DX} {c f : Str}
theorem dst_raise (hW : C.E = WE W) : DS C (fun _ σ H => W (.ref (He.ga C.K c)) none σ H) (sRaise c) := by
  intro X env σ H D d r l h
  have := l.xc X env σ H ⟨c, []⟩ (.ref (He.ga C.K c)) none r (Same.refl _) ⟨rfl, rfl⟩ h
  rw [hW] at this
  exact this
theorem dst_raise1 (hW : C.E = WE W) (he : DE C te e) : DS C (fun _ σ H => tMk1 (He.ga C.K c) f te σ H fun cls d H' => W cls d σ H') (sRaise1 c f e) := by
  intro X env σ H D d r l h
  refine he X env σ H _ _ _ r h (fun x v H1 f1 r1 h1 => ?_) (l.xok r)
  split at h1
  · rename_i u eu
    have ev : v = u := Den.flat r1 eu
    subst ev
    intro dd H' s n hd
    have r2 := r.step f1
    have r3 : Rep C X env σ H' := r2.step (.same s)
    have := l.xc X env σ H' ⟨c, [(f, v)]⟩ (.ref (He.ga C.K c)) (some dd) r3 ((r.vs f1).trans (r2.vs (.same s))) ⟨rfl, dd, rfl, vis_mk (r2.free n) hd⟩ h1
    rw [hW] at this
    exact this
  · exact h1.elim
end
/-! ### try -/
def clr : Sl → Sl
  | .exc _ _ => .no
  | s => s
def bindS (env : List Sl) (o : Option Nat) (x : Xc) : List Sl := match o with
  | none => env.map clr
  | some i => (env.map clr).set i (.exc x.cls x.fs)
def endS (d : DEn) : Option Nat → DEn
  | none => { d with xc := fun _ _ => False }
  | some i => { nx := fun e => d.nx (e.set i .no), rt := d.rt, bk := fun e => d.bk (e.set i .no), ct := fun e => d.ct (e.set i .no), xc := fun _ _ => False }
/-- the clauses; mt: what is an instance of what -/
def dHs (mt : Str → Str → Option Bool) : List (Str × Option Nat × DSt) → DEn → List Sl → Xc → Prop
  | [], d, env, x => d.xc env x
  | (c, o, s) :: r, d, env, x => ∃ b, mt x.cls c = some b ∧ (if b = true then s (endS d o) (bindS env o x) else dHs mt r d env x)
def sTry (mt : Str → Str → Option Bool) (b : DSt) (hs : List (Str × Option Nat × DSt)) : DSt := fun d env => b { d with xc := fun e x => dHs mt hs d e x } env
abbrev Bc.wE (C : Bc) (E : L2.St → XK) : Bc := { C with E := E }
abbrev Bc.wX (C : Bc) (a : Addr) (cls : Value) (d : Option Addr) : Bc := { C with ex := some (a, cls, d) }
inductive HsOk (C : Bc) : List (Value × Option Nat × Suit) → List (Str × Option Nat × DSt) → Prop
  | nil : HsOk C [] []
  | cons {c : Str} {o : Option Nat} {ts : Suit} {s : DSt} {l : List (Value × Option Nat × Suit)} {hs : List (Str × Option Nat × DSt)} (h : ∀ a cls d, DS (C.wX a cls d) (ts a cls d) s) (r : HsOk C l hs) : HsOk C ((.ref (He.ga C.K c), o, ts) :: l) ((c, o, s) :: hs)
section
variable {C : Bc} {X : Addr → Prop} {env : List Sl} {σ : L2.St} {H : Hp}
theorem Rep.inE (r : Rep C X env σ H) (E : L2.St → XK) : Rep (C.wE E) X env σ H := ⟨r.len, r.sup, r.new, r.al, r.frm, r.hands, r.slot, r.inj, r.one⟩
theorem Rep.outE {E : L2.St → XK} (r : Rep (C.wE E) X env σ H) : Rep C X env σ H := ⟨r.len, r.sup, r.new, r.al, r.frm, r.hands, r.slot, r.inj, r.one⟩
theorem Rep.outX {a : Addr} {cls : Value} {d : Option Addr} (hex : C.ex = none) (r : Rep (C.wX a cls d) X env σ H) : Rep C X env σ H := by
  refine ⟨r.len, r.sup, r.new, r.al, r.frm, r.hands, fun i s e => ?_, r.inj, r.one⟩
  obtain ⟨o, e1, q⟩ := r.slot i s e
  refine ⟨o, e1, ?_⟩
  cases s with
  | exc c fs => unfold SlRep; rw [hex]; trivial
  | no => trivial
  | d x => exact q
  | own xs => exact q
  | hand => exact q
  | ins _ _ _ => exact q
theorem Rep.inX (r : Rep C X env σ H) (a : Addr) (cls : Value) (d : Option Addr) : Rep (C.wX a cls d) X (env.map clr) σ H := by
  refine ⟨by rw [List.length_map]; exact r.len, r.sup, r.new, r.al, r.frm, r.hands, fun i s e => ?_, fun i j xs ys n e1 e2 => ?_, r.one.map fun s C ns ds z => by cases s <;> first | exact z | cases z⟩
  · rw [List.getElem?_map, Option.map_eq_some_iff] at e
    obtain ⟨s0, e, rfl⟩ := e
    obtain ⟨o, e1, q⟩ := r.slot i s0 e
    refine ⟨o, e1, ?_⟩
    cases s0 with
    | exc c fs => trivial
    | no => trivial
    | d x => exact q
    | own xs => exact q
    | hand => exact q
    | ins _ _ _ => exact q
  · rw [List.getElem?_map, Option.map_eq_some_iff] at e1 e2
    obtain ⟨s1, e1, q1⟩ := e1
    obtain ⟨s2, e2, q2⟩ := e2
    cases s1 <;> simp [clr] at q1
    cases s2 <;> simp [clr] at q2
    subst q1 q2
    exact r.inj i j _ _ n e1 e2
theorem Rep.excAt {a : Addr} {cls : Value} {d : Option Addr} (r : Rep (C.wX a cls d) X env σ H) (j : Nat) {c : Str} {fs : List (Str × V)} (h : SlRep (C.wX a cls d) X H (.exc c fs) (some (.ref a))) : Rep (C.wX a cls d) X (env.set j (.exc c fs)) (σ.set j (some (.ref a))) H where
  len := by rw [List.length_set, List.length_set, r.len]
  sup := r.sup
  new := r.new
  al := r.al
  frm := r.frm
  hands := r.hands
  slot := fun i s e => by
    rw [List.getElem?_set] at e ⊢
    by_cases c : j = i
    · subst c
      rw [if_pos rfl] at e ⊢
      by_cases hl : j < env.length
      · rw [if_pos hl] at e
        rw [if_pos (r.len ▸ hl)]
        cases e
        exact ⟨_, rfl, h⟩
      · rw [if_neg hl] at e; cases e
    · rw [if_neg c] at e ⊢
      exact r.slot i s e
  inj := fun i k xs ys n e1 e2 => by
    rw [List.getElem?_set] at e1 e2
    have a : j ≠ i := fun c => by
      subst c
      rw [if_pos rfl] at e1
      split at e1 <;> cases e1
    have b : j ≠ k := fun c => by
      subst c
      rw [if_pos rfl] at e2
      split at e2 <;> cases e2
    rw [if_neg a] at e1
    rw [if_neg b] at e2
    rw [List.getElem?_set, List.getElem?_set, if_neg a, if_neg b]
    exact r.inj i k xs ys n e1 e2
  one := r.one.set fun _ _ _ z => by cases z
theorem hs_run {Wout : WX} {D : Ends} {d : DEn} {mt : Str → Str → Option Bool} (hW : C.E = WE Wout) (hex : C.ex = none) (hm : ∀ a b r, mt a b = some r → PySem.W.exmOne C.K (.ref (He.ga C.K a)) (.ref (He.ga C.K b)) = some r) :
    ∀ {l : List (Value × Option Nat × Suit)} {hs : List (Str × Option Nat × DSt)}, HsOk C l hs → ∀ {x : Xc} {cls : Value} {dx : Option Addr}, Rep C X env σ H → Lnk C X H D d → XRep C.K (vis H X) cls dx x → dHs mt hs d env x → wNamed C.K Wout D l cls dx σ H
  | _, _, .nil, x, cls, dx, r, k, xr, h => by
    have := k.xc X env σ H x cls dx r (Same.refl _) xr h
    rw [hW] at this
    exact this
  | _, _, @HsOk.cons _ c o ts s l hs hts rest, x, cls, dx, r, k, xr, ⟨b, hb, h⟩ => by
    obtain ⟨ec, ed⟩ := xr
    refine ⟨b, by rw [ec]; exact hm _ _ _ hb, fun eb a na => ?_, fun eb => ?_⟩
    · rw [if_pos eb] at h
      have rx := r.inX a cls dx
      cases o with
      | none =>
        refine hts a cls dx X _ σ H D (endS d none) rx ⟨fun X' env' σ' H' r' s' h' => k.nx X' env' σ' H' (r'.outX hex) s' h', fun X' env' σ' H' v z r' s' w h' => k.rt X' env' σ' H' v z (r'.outX hex) s' w h',
          fun X' env' σ' H' r' s' h' => k.bk X' env' σ' H' (r'.outX hex) s' h', fun X' env' σ' H' r' s' h' => k.ct X' env' σ' H' (r'.outX hex) s' h', fun _ _ _ _ _ _ _ _ _ _ h' => h'.elim⟩ h
      | some i =>
        have re : Rep (C.wX a cls dx) X (bindS env (some i) x) (σ.set i (some (.ref a))) H := by
          refine rx.excAt i ⟨rfl, ec, ?_⟩
          obtain ⟨xc, xf⟩ := x
          cases xf with
          | nil => exact .inl ⟨rfl, ed⟩
          | cons f fr => obtain ⟨a, e1, e2⟩ := ed; exact .inr ⟨a, e1, e2⟩
        refine hts a cls dx X _ (σ.set i (some (.ref a))) H _ (endS d (some i)) re ⟨fun X' env' σ' H' r' s' h' => k.nx X' _ _ H' ((r'.outX hex).unset i none) s' h', fun X' env' σ' H' v z r' s' w h' => k.rt X' env' σ' H' v z (r'.outX hex) s' w h',
          fun X' env' σ' H' r' s' h' => k.bk X' _ _ H' ((r'.outX hex).unset i none) s' h', fun X' env' σ' H' r' s' h' => k.ct X' _ _ H' ((r'.outX hex).unset i none) s' h', fun _ _ _ _ _ _ _ _ _ _ h' => h'.elim⟩ h
    · rw [if_neg (by rw [eb]; decide)] at h
      exact hs_run hW hex hm rest r k ⟨ec, ed⟩ h
theorem dst_try {Wout : WX} {tb : WX → TS} {l : List (Value × Option Nat × Suit)} {sb : DSt} {hs : List (Str × Option Nat × DSt)} {mt : Str → Str → Option Bool} (hW : C.E = WE Wout) (hex : C.ex = none)
    (hm : ∀ a b r, mt a b = some r → PySem.W.exmOne C.K (.ref (He.ga C.K a)) (.ref (He.ga C.K b)) = some r) (hb : ∀ W, DS (C.wE (WE W)) (tb W) sb) (hh : HsOk C l hs) : DS C (fun D σ H => tb (wNamed C.K Wout D l) D σ H) (sTry mt sb hs) := by
  intro X env σ H D d r k h
  refine hb _ X env σ H D { d with xc := fun e x => dHs mt hs d e x } (r.inE _) ⟨fun X' env' σ' H' r' s' h' => k.nx X' env' σ' H' r'.outE s' h', fun X' env' σ' H' v z r' s' w h' => k.rt X' env' σ' H' v z r'.outE s' w h',
    fun X' env' σ' H' r' s' h' => k.bk X' env' σ' H' r'.outE s' h', fun X' env' σ' H' r' s' h' => k.ct X' env' σ' H' r'.outE s' h', fun X' env' σ' H' x cls dx r' s' w h' => ?_⟩ h
  exact hs_run hW hex hm hh r'.outE (k.step s') w h'
/-! ### the exception in hand -/
def Dt.ofV : V → Dt
  | .non => .non
  | .bl b => .bl b
  | .int i => .int i
  | .str x => .str x
  | v => .raw v
theorem den_ofV {K : PySem.W.Frag} {H : Hp} : ∀ v : V, Den K H v (Dt.ofV v)
  | .non => .non
  | .bl b => .bl b
  | .int i => .int i
  | .str x => .str x
  | .byt b => .raw _
  | .flt b => .raw _
  | .ref b => .raw _
  | .ty b => .raw _
/-- e.f, e of the class c -/
def eXf (i : Nat) (c f : Str) : DX := fun env Q _ => match env[i]? with
  | some (.exc c' fs) => c' = c ∧ ∃ u, fs.lookup f = some u ∧ Q (Dt.ofV u)
  | _ => False
theorem de_xf {i : Nat} {c f : Str} {a : Addr} {cls : Value} {d : Option Addr} : DE (C.wX a cls d) (tXf a cls d (He.ga C.K c) f (tVar i)) (eXf i c f) := by
  intro X env σ H Q Qd Qx r he q x
  unfold eXf at he
  split at he
  · rename_i c' fs e
    obtain ⟨rfl, u, hu, he⟩ := he
    obtain ⟨o, e1, rfl, e2, e3⟩ := r.slot i _ e
    rcases e3 with ⟨rfl, _⟩ | ⟨dd, e4, e5⟩
    · cases hu
    · exact ⟨_, e1, rfl, e2, dd, fs, u, e4, vis_sub _ _ e5, hu, q _ _ H (.refl H) (den_ofV u) he⟩
  · exact he.elim
/-- isinstance(e, C) -/
def eIsX (i : Nat) (tab : Str → Option Bool) : DX := fun env Q _ => match env[i]? with
  | some (.exc c fs) => ∃ b, tab c = some b ∧ Q (.bl b)
  | _ => False
theorem de_isX {i : Nat} {cn : Str} {a : Addr} {cls : Value} {d : Option Addr} {tab : Str → Option Bool} (ht : ∀ c b, tab c = some b → ExcC C.K (He.ga C.K c) ∧ PySem.W.kitOne C.K (.ref (He.ga C.K c)) (.ref (He.ga C.K cn)) = some b) :
    DE (C.wX a cls d) (tCB (rIsX C.K a cls d) (tCons (tVar i) (tCons (tC (.ref (He.ga C.K cn))) tNil))) (eIsX i tab) := by
  intro X env σ H Q Qd Qx r he q x
  unfold eIsX at he
  split at he
  · rename_i c' fs e
    obtain ⟨b, hb, he⟩ := he
    obtain ⟨o, e1, rfl, e2, e3⟩ := r.slot i _ e
    obtain ⟨h1, h2⟩ := ht _ _ hb
    refine ⟨_, e1, He.ga C.K c', _, _, b, rfl, e2, h1, fun u ru => ru, h2, fun dd hd => ?_, q _ _ H (.refl H) (.bl b) he⟩
    rcases e3 with ⟨_, e4⟩ | ⟨d2, e4, e5⟩
    · have e4 : d = none := e4
      rw [e4] at hd; cases hd
    · have e4 : d = some d2 := e4
      rw [e4] at hd; cases hd
      exact ⟨fs, vis_sub _ _ e5⟩
  · exact he.elim
end
/-! ### a def by its data -/
/-- np parameters, N names in all -/
def mkD (np N : Nat) (s : DSt) : DFn := fun args Q E => args.length = np ∧ s ⟨fun _ => Q .non, Q, fun _ => False, fun _ => False, fun _ x => E x⟩ (args ++ List.replicate (N - np) .no)
def mkD0 (np N : Nat) (s : DSt) : DFn := fun args Q E => args.length = np ∧ s ⟨fun _ => Q .non, Q, fun _ => False, fun _ => False, fun _ _ => False⟩ (args ++ List.replicate (N - np) .no)
theorem spD_len {K : PySem.W.Frag} {F : DFn} {np : Nat} (hF : ∀ args Q E, F args Q E → args.length = np) : ∀ vs H Q E, spD K F vs H Q E → vs.length = np := by
  rintro vs H Q E ⟨X, hd, args, Qd, Qx, _, _, sl, h, _⟩
  rw [sl.length]; exact hF _ _ _ h
/-- where a body begins -/
theorem rep_start {K : PySem.W.Frag} {X : Addr → Prop} {hd : Hnd} {H : Hp} {E : L2.St → XK} {vs : List V} {args : List Sl} {N : List Str} (al : ∀ a, X a → ∃ o, H a = some o) (hh : ∀ h c, hd = some (h, c) → X h ∧ HandC H h c) (sl : SlAll K hd X H vs args) :
    Rep ⟨K, H, X, hd, none, E, none⟩ X (args ++ List.replicate (N.length - args.length) .no) (L2.start N vs) H := by
  have hl := sl.length
  have slots : ∀ {vs : List V} {args : List Sl}, SlAll K hd X H vs args → ∀ (i : Nat) (s : Sl), args[i]? = some s → (∃ o, (vs.map some)[i]? = some o ∧ SlRep ⟨K, H, X, hd, none, E, none⟩ X H s o) ∧ ∀ xs, s ≠ .own xs := by
    intro vs args sl
    induction sl with
    | nil => intro i s e; simp at e
    | d a r ih =>
      intro i s e
      cases i with
      | zero => simp at e; subst e; exact ⟨⟨_, rfl, _, rfl, a⟩, fun _ z => by cases z⟩
      | succ i =>
        obtain ⟨⟨o, q⟩, n⟩ := ih i s (by simpa using e)
        exact ⟨⟨o, by simpa using q⟩, n⟩
    | hand a r ih =>
      intro i s e
      cases i with
      | zero => simp at e; subst e; exact ⟨⟨_, rfl, _, _, rfl, a⟩, fun _ z => by cases z⟩
      | succ i =>
        obtain ⟨⟨o, q⟩, n⟩ := ih i s (by simpa using e)
        exact ⟨⟨o, by simpa using q⟩, n⟩
  have slotsI : ∀ {vs : List V} {args : List Sl}, SlAll K hd X H vs args → ∀ (i : Nat) (C0 : Str) (ns : List Str) (ds : List Dt), args[i]? ≠ some (.ins C0 ns ds) := by
    intro vs args sl
    induction sl with
    | nil => intro i C0 ns ds e; simp at e
    | d a r ih =>
      intro i C0 ns ds e
      cases i with
      | zero => simp at e
      | succ i => exact ih i C0 ns ds (by simpa using e)
    | hand a r ih =>
      intro i C0 ns ds e
      cases i with
      | zero => simp at e
      | succ i => exact ih i C0 ns ds (by simpa using e)
  have noins : ∀ (i : Nat) (C0 : Str) (ns : List Str) (ds : List Dt), (args ++ List.replicate (N.length - args.length) Sl.no)[i]? ≠ some (.ins C0 ns ds) := fun i C0 ns ds e => by
    rw [List.getElem?_append] at e
    split at e
    · exact slotsI sl i C0 ns ds e
    · rw [List.getElem?_replicate] at e
      split at e <;> cases e
  have noown : ∀ (i : Nat) (xs : Ow), (args ++ List.replicate (N.length - args.length) Sl.no)[i]? ≠ some (.own xs) := fun i xs e => by
    rw [List.getElem?_append] at e
    split at e
    · exact (slots sl i _ e).2 xs rfl
    · rw [List.getElem?_replicate] at e
      split at e <;> cases e
  refine ⟨?_, fun a z => z, fun a z => .inl z, al, .refl H, fun h c e => ⟨(hh h c e).1, (hh h c e).2, (hh h c e).2⟩, fun i s e => ?_, fun i j xs ys n e1 e2 => absurd e1 (noown i xs), fun i ⟨C0, ns, ds, e⟩ => absurd e (noins i C0 ns ds)⟩
  · unfold L2.start
    rw [List.length_append, List.length_append, List.length_replicate, List.length_replicate, List.length_map, hl]
  · unfold L2.start
    rw [List.getElem?_append] at e ⊢
    rw [List.length_map, hl]
    split at e
    · rename_i c
      rw [if_pos c]
      obtain ⟨⟨o, q⟩, _⟩ := slots sl i s e
      exact ⟨o, q⟩
    · rename_i c
      rw [if_neg c]
      rw [List.getElem?_replicate] at e ⊢
      split at e
      · rename_i c2
        cases e
        rw [if_pos c2]
        exact ⟨_, rfl, trivial⟩
      · cases e
/-- the reading of a whole body -/
theorem body_of {K : PySem.W.Frag} {N : List Str} {np n : Nat} {sb : DSt} {t : TS} {vs : List V} {H : Hp} {Q : VK} {E : XK} (hn : N.length = n) (h : spD K (mkD np n sb) vs H Q E)
    (hb : ∀ X hd, DS ⟨K, H, X, hd, none, fun _ => E, none⟩ t sb) : t { nx := fun _ H' => Q .non H', rt := Q } (L2.start N vs) H := by
  obtain ⟨X, hd, args, Qd, Qx, al, hh, sl, ⟨ha, h⟩, q, x⟩ := h
  have r := rep_start (N := N) (E := fun _ => E) al hh sl
  rw [ha, hn] at r
  refine hb X hd X _ _ H _ _ r ⟨fun X' env σ H' r' s' h' => q _ _ H' r'.frm .non h', fun X' env σ H' v z r' s' w h' => q z v H' r'.frm (w.mono (vis_anti r'.sup)) h', fun _ _ _ _ _ _ (h' : False) => h'.elim, fun _ _ _ _ _ _ (h' : False) => h'.elim, fun X' env σ H' z cls dx r' s' w h' => x z cls dx H' r'.frm (w.mono (vis_anti r'.sup)) h'⟩ h
theorem body_of0 {K : PySem.W.Frag} {N : List Str} {np n : Nat} {sb : DSt} {t : TS} {vs : List V} {H : Hp} {Q : VK} {E : XK} (hn : N.length = n) (h : spD K (mkD0 np n sb) vs H Q E)
    (hb : ∀ X hd, DS ⟨K, H, X, hd, none, fun _ _ _ _ => False, none⟩ t sb) : t { nx := fun _ H' => Q .non H', rt := Q } (L2.start N vs) H := by
  obtain ⟨X, hd, args, Qd, Qx, al, hh, sl, ⟨ha, h⟩, q, x⟩ := h
  have r := rep_start (N := N) (E := fun _ _ _ _ => False) al hh sl
  rw [ha, hn] at r
  refine hb X hd X _ _ H _ _ r ⟨fun X' env σ H' r' s' h' => q _ _ H' r'.frm .non h', fun X' env σ H' v z r' s' w h' => q z v H' r'.frm (w.mono (vis_anti r'.sup)) h', fun _ _ _ _ _ _ (h' : False) => h'.elim, fun _ _ _ _ _ _ (h' : False) => h'.elim, fun _ _ _ _ _ _ _ _ _ _ (h' : False) => h'.elim⟩ h
end Mine

namespace Mine
open PySem PySem.Spec PyProof.Rows L2
/-! ### comprehensions of two clauses -/
def lcIn (f : DGX) (tt : DTX) (te : DX) (env : List Sl) (K : List Dt → Prop) : List Dt → List Dt → Prop
  | [], acc => K acc
  | x :: xs, acc => f x env fun env' => tt env' (fun b => if b = true then te env' (fun y => acc.length < LINE ∧ lcIn f tt te env K xs (acc ++ [y])) (fun _ => False) else lcIn f tt te env K xs acc) fun _ => False
def lcGo2 (f : DGX) (tt : DTX) (src1 : DAX) (f1 : DGX) (tt1 : DTX) (te : DX) (vs1 : List Nat) (env : List Sl) (Q : Dt → Prop) : List Dt → List Dt → Prop
  | [], acc => Q (.lst acc)
  | x :: xs, acc => f x env fun env' => tt env' (fun b => if b = true then src1 env' (fun ds1 => lcIn f1 tt1 te (wipeS env' vs1) (fun acc' => lcGo2 f tt src1 f1 tt1 te vs1 env Q xs acc') ds1 acc) (fun _ => False)
      else lcGo2 f tt src1 f1 tt1 te vs1 env Q xs acc) fun _ => False
def eLc2 (src : DAX) (f : DGX) (tt : DTX) (src1 : DAX) (f1 : DGX) (tt1 : DTX) (te : DX) (vs1 vs : List Nat) : DX := fun env Q E => src env (fun ds => lcGo2 f tt src1 f1 tt1 te vs1 (wipeS env vs) Q ds []) E
section
variable {C : Bc} {X : Addr → Prop} {env : List Sl} {σ : L2.St} {H : Hp}
theorem Rep.updHid {D : Addr} (r : Rep C X env σ H) (xD : X D) (h0 : C.H0 D = none) (no : ∀ (i : Nat) (xs : Ow), env[i]? = some (Sl.own xs) → σ[i]? ≠ some (some (.ref D))) {us0 : List V} (hD : H D = some (.lst us0)) (o : HO) :
    Rep C X env σ (upd H D o) ∧ Same (vis H X) (vis (upd H D o) X) := by
  have sm : Same (vis H X) (vis (upd H D o) X) := fun a u q => by
    obtain ⟨n1, e1⟩ := vis_of q
    exact vis_mk n1 (by rw [upd_ne (fun (z : a = D) => n1 (by rw [z]; exact xD))]; exact e1)
  have fm : Frm C.hd C.H0 (upd H D o) := by
    refine ⟨fun a u q k => ?_, fun h c q x => ?_⟩
    · rw [upd_ne (ne_of_none q h0)]; exact r.frm.1 a u q k
    · have y := r.frm.2 h c q x
      obtain ⟨_, _, _, _, a1, a2, _⟩ := x
      obtain ⟨cells, at_, big, mix, b1, b2, b3⟩ := y
      exact ⟨cells, at_, big, mix, by rw [upd_ne (ne_of_none a1 h0)]; exact b1, by rw [upd_ne (ne_of_none a2 h0)]; exact b2, b3⟩
  refine ⟨⟨r.len, r.sup, r.new, fun a z => ?_, fm, fun h c q => ⟨(r.hands h c q).1, (r.hands h c q).2.1, fm.2 h c q (r.hands h c q).2.1⟩, fun j s q => ?_, r.inj, r.one⟩, sm⟩
  · by_cases c : a = D
    · subst c; exact ⟨_, upd_same⟩
    · obtain ⟨u, q⟩ := r.al a z
      exact ⟨u, by rw [upd_ne c]; exact q⟩
  · obtain ⟨u, e1, w⟩ := r.slot j s q
    refine ⟨u, e1, ?_⟩
    cases s with
    | no => trivial
    | d x => obtain ⟨v, e2, h⟩ := w; exact ⟨v, e2, h.mono sm⟩
    | own ys =>
      obtain ⟨p', us, rfl, y1, y2, y3, y4⟩ := w
      have ne : p' ≠ D := fun z => no j ys q (by rw [e1, z])
      exact ⟨p', us, rfl, y1, y2, by rw [upd_ne ne]; exact y3, y4.mono sm⟩
    | hand => exact w
    | exc c' fs => exact w.exc sm
    | ins C0 ns ds =>
      obtain ⟨p', dx, us, rfl, y1, y2, y3, yl, y4⟩ := w
      have ne : p' ≠ D := fun z => by rw [z, hD] at y3; cases y3
      exact ⟨p', dx, us, rfl, y1, y2, by rw [upd_ne ne]; exact y3, yl, y4.mono sm⟩
theorem own_wiped : ∀ (vs : List Nat) (k : Nat) (xs : Ow), (wipeS env vs)[k]? = some (Sl.own xs) → env[k]? = some (Sl.own xs) ∧ (wipe σ vs)[k]? = σ[k]?
  | [], k, xs, e => ⟨e, rfl⟩
  | v :: vs, k, xs, e => by
    have e : ((wipeS env vs).set v .no)[k]? = some (Sl.own xs) := e
    rw [List.getElem?_set] at e
    have a : v ≠ k := fun c => by
      subst c
      rw [if_pos rfl] at e
      split at e <;> cases e
    rw [if_neg a] at e
    obtain ⟨h1, h2⟩ := own_wiped vs k xs e
    refine ⟨h1, ?_⟩
    show ((wipe σ vs).set v none)[k]? = _
    rw [List.getElem?_set, if_neg a]; exact h2
end
theorem df_lc2 {C : Bc} {wi wi1 : TI} {g g1 : TG} {tt tt1 : TT} {te : TE} {vs vs1 js : List Nat} {src src1 : DAX} {f f1 : DGX} {et et1 : DTX} {ee : DX} (hi : DIg Weak C wi src) (hg : DG C g js f) (ht : DT C tt et)
    (hi1 : DIg Strong C wi1 src1) (hg1 : DG C g1 vs1 f1) (ht1 : DT C tt1 et1) (he : DE C te ee) (hjs : ∀ k ∈ js, k ∈ vs) : DF C (tLc2 wi g tt wi1 g1 tt1 te vs vs1) (eLc2 src f et src1 f1 et1 ee vs1 vs) := by
  intro X env σ H Q Qd Qx rp h q x
  refine hi X env σ H _ _ Qx rp h (fun ds J H1 f1' w h1 => ?_) x
  show ∀ D, H1 D = none → _
  intro D hD
  have rp1 := rp.step f1'
  let go := lcGo2 f et src1 f1 et1 ee vs1 (wipeS env vs) Qd
  let W : Nat → Nat → Hp → Prop := fun i m H2 => m + i = ds.length ∧ Frm C.hd H1 H2 ∧ ∃ acc us, H2 D = some (.lst us) ∧ DenAll C.K (vis H2 fun a => X a ∨ a = D) us acc ∧ go (ds.drop i) acc
  refine ⟨W, ⟨ds.length, rfl, .upd hD, [], [], upd_same, .nil, h1⟩, fun i m H2 ⟨hm, f2, acc, us, hD2, a2, hgo⟩ => ?_⟩
  have rpY : Rep C (fun a => X a ∨ a = D) env σ H2 := rp1.hide hD f2 ⟨_, hD2⟩
  have rpW := rpY.wiped vs
  have sW : Weak C X H1 (fun a => X a ∨ a = D) H2 := ⟨f2, rp1.hX, fun a z => z.imp id fun (e : a = D) => by rw [e]; exact hD, rpY.al⟩
  have hw := w _ i H2 sW
  have nh : ∀ h c, C.hd = some (h, c) → D ≠ h := fun h c e z => by
    obtain ⟨_, _, _, _, q, _⟩ := (rp1.hands h c e).2.2
    rw [z, q] at hD; cases hD
  have h0D : C.H0 D = none := rp1.h0 hD
  have noD : ∀ (i : Nat) (xs : Ow), (wipeS env vs)[i]? = some (Sl.own xs) → (wipe σ vs)[i]? ≠ some (some (.ref D)) := fun i xs e z => by
    obtain ⟨e1, e2⟩ := own_wiped (σ := σ) vs i xs e
    rw [e2] at z
    obtain ⟨p, vs', es, x1, x2, y1, y2⟩ := rp1.ownAtO e1
    rw [es] at z
    injection z with z; injection z with z; injection z with z
    rw [z, hD] at y1; cases y1
  by_cases c : i < ds.length
  · obtain ⟨g1', g2⟩ := hw.1 c
    refine .inr ⟨g1', W (i + 1) (m - 1), fun H' hW => ⟨m - 1, by omega, hW⟩, fun y H3 hy => ?_⟩
    obtain ⟨s3, d, hd, den⟩ := g2 y H3 hy
    have ed : ds.drop i = d :: ds.drop (i + 1) := by
      rw [List.drop_eq_getElem_cons c]
      congr 1
      rw [List.getElem?_eq_getElem c] at hd
      exact Option.some.inj hd
    rw [ed] at hgo
    have step : ∀ H5, Frm C.hd H3 H5 → Frm C.hd H1 H5 ∧ H5 D = some (.lst us) ∧ DenAll C.K (vis H5 fun a => X a ∨ a = D) us acc := fun H5 f5 => by
      have f25 : Frm C.hd H2 H5 := (Frm.same s3).trans f5
      exact ⟨f2.trans f25, f25.1 D _ hD2 nh, a2.mono (rpY.vs f25)⟩
    refine hg _ _ _ H3 y d _ _ (rpW.step (.same s3)) den hgo fun env' σ' rp' he' hl hk ho => ⟨wipe_of hl fun k nk => hk k fun z => nk (hjs k z), ?_⟩
    have noD' : ∀ (i : Nat) (xs : Ow), env'[i]? = some (Sl.own xs) → σ'[i]? ≠ some (some (.ref D)) := fun i xs e => by
      obtain ⟨e1, e2⟩ := ho i xs e
      rw [e2]; exact noD i xs e1
    refine ht _ env' σ' H3 _ _ _ rp' he' (fun b H4 f4 hb => ?_) xok_no
    cases b with
    | false =>
      rw [if_neg (by decide)] at hb ⊢
      obtain ⟨k1, k2, k3⟩ := step H4 f4
      exact ⟨by omega, k1, acc, us, k2, k3, hb⟩
    | true =>
      rw [if_pos rfl] at hb ⊢
      refine hi1 _ env' σ' H4 _ _ _ (rp'.step f4) hb (fun ds1 J1 H5 f5 w1 hb5 => ?_) xok_no
      obtain ⟨k1, k2, k3⟩ := step H5 (f4.trans f5)
      have rp5 := (rp'.step f4).step f5
      let W1 : Nat → Nat → Hp → Prop := fun j k H6 => k + j = ds1.length ∧ Rep C (fun a => X a ∨ a = D) env' σ' H6 ∧ Same (vis H5 fun a => X a ∨ a = D) (vis H6 fun a => X a ∨ a = D) ∧ Frm C.hd H1 H6 ∧
        ∃ acc us, H6 D = some (.lst us) ∧ DenAll C.K (vis H6 fun a => X a ∨ a = D) us acc ∧ lcIn f1 et1 ee (wipeS env' vs1) (fun acc' => go (ds.drop (i + 1)) acc') (ds1.drop j) acc
      refine ⟨W1, ⟨ds1.length, rfl, rp5, Same.refl _, k1, acc, us, k2, k3, hb5⟩, fun j k H6 ⟨hk', rp6, sm6, f6, acc, us, hD6, a6, hin⟩ => ?_⟩
      have hw1 := w1 _ j H6 ⟨sm6, rp6.al⟩
      by_cases c1 : j < ds1.length
      · obtain ⟨q1, q2⟩ := hw1.1 c1
        refine .inr ⟨q1, W1 (j + 1) (k - 1), fun H' hW => ⟨k - 1, by omega, hW⟩, fun y1 H7 hy1 => ?_⟩
        obtain ⟨s7, d1, hd1, den1⟩ := q2 y1 H7 hy1
        have ed1 : ds1.drop j = d1 :: ds1.drop (j + 1) := by
          rw [List.drop_eq_getElem_cons c1]
          congr 1
          rw [List.getElem?_eq_getElem c1] at hd1
          exact Option.some.inj hd1
        rw [ed1] at hin
        have rp7 := rp6.step (.same s7)
        have rpV := rp7.wiped vs1
        refine hg1 _ _ _ H7 y1 d1 _ _ rpV den1 hin fun env2 σ2 rp2 he2 hl2 hk2 ho2 => ⟨wipe_of hl2 hk2, ?_⟩
        have step1 : ∀ H8, Frm C.hd H7 H8 → Frm C.hd H1 H8 ∧ H8 D = some (.lst us) ∧ DenAll C.K (vis H8 fun a => X a ∨ a = D) us acc ∧ Rep C (fun a => X a ∨ a = D) env' σ' H8 ∧ Same (vis H5 fun a => X a ∨ a = D) (vis H8 fun a => X a ∨ a = D) := fun H8 f8 => by
          have f68 : Frm C.hd H6 H8 := (Frm.same s7).trans f8
          exact ⟨f6.trans f68, f68.1 D _ hD6 nh, a6.mono (rp6.vs f68), rp6.step f68, sm6.trans (rp6.vs f68)⟩
        refine ht1 _ env2 σ2 H7 _ _ _ rp2 he2 (fun b1 H8 f8 hb8 => ?_) xok_no
        cases b1 with
        | false =>
          rw [if_neg (by decide)] at hb8 ⊢
          obtain ⟨l1, l2, l3, l4, l5⟩ := step1 H8 f8
          exact ⟨by omega, l4, l5, l1, acc, us, l2, l3, hb8⟩
        | true =>
          rw [if_pos rfl] at hb8 ⊢
          refine he _ env2 σ2 H8 _ _ _ (rp2.step f8) hb8 (fun y2 v2 H9 f9 den9 hb9 => ?_) xok_no
          obtain ⟨l1, l2, l3, l4, l5⟩ := step1 H9 (f8.trans f9)
          obtain ⟨r10, sv⟩ := l4.updHid (D := D) (.inr rfl) h0D noD' l2 (.lst (us ++ [v2]))
          have den9 : Den C.K (vis H9 fun a => X a ∨ a = D) v2 y2 := den9
          refine ⟨us, l2, by rw [l3.length, sizeLine_eq]; exact hb9.1, by omega, r10, l5.trans sv, frm_put rp1 hD l1, acc ++ [y2], us ++ [v2], upd_same, (l3.snoc den9).mono sv, hb9.2⟩
      · have e : ds1.drop j = [] := List.drop_eq_nil_of_le (by omega)
        rw [e] at hin
        exact .inl ⟨hw1.2 (by omega), by omega, f6, acc, us, hD6, a6, hin⟩
  · have e : ds.drop i = [] := List.drop_eq_nil_of_le (by omega)
    rw [e] at hgo
    exact .inl ⟨hw.2 (by omega), q _ _ H2 (f1'.trans f2) ⟨D, us, acc, rfl, rfl, f1'.free (fun h c e => (rp.hands h c e).2.2) hD, hD2, a2⟩ hgo⟩
/-! ### not, by truth -/
def eNotVT (a : DX) : DX := fun env Q E => a env (fun d => dTru d fun c => Q (.bl (!c))) E
def tNotVT (K : PySem.W.Frag) (ta : TE) : TE := L2.tNotT K ta
theorem pe_notVT {X : Cx} {K : PySem.W.Frag} {a : Expr} {ta : TE} {pos : Pos} (e : X.K = K) (ha : PE X a ta) : PE X (.UnaryOp .Not a pos) (tNotVT K ta) := e ▸ pe_notT ha
theorem de_notVT {C : Bc} {ta : TE} {ea : DX} (h : DB C ta ea) : DE C (tNotVT C.K ta) (eNotVT ea) := by
  intro X env σ H Q Qd Qx rp he q x
  refine h X env σ H _ _ Qx rp he (fun d v H1 f1 r1 he1 => ?_) x
  obtain ⟨k, h1, h2⟩ := r1.tru (rp.step f1) he1
  exact ⟨k, h1, q _ _ _ f1 (.bl _) h2⟩
end Mine

namespace Mine
open PySem PySem.Spec PyProof.Rows L2
/-! ### the hand -/
/-- the hand at h: its cells at c -/
def HandAt (H : Hp) (h : Addr) : Prop := ∃ (c : Addr) (cells : List Int) (at_ : Nat) (big mix : Int), H h = some (.lst [.ref c, .int at_, .int big, .int mix]) ∧ H c = some (.lst (cells.map V.int)) ∧
  (∀ z ∈ cells, 0 ≤ z) ∧ at_ ≤ cells.length ∧ cells.length ≤ 63 ∧ 0 ≤ big ∧ 0 ≤ mix ∧ mix < 2147483563
def sp_hand (K : PySem.W.Frag) : Sp := fun vs H Q _ => ∃ (a : Addr) (ns : List Int), vs = [.ref a] ∧ SqL K H a (ns.map V.int) ∧ ns.length ≤ 63 ∧ ∀ H' h, Same H H' → H h = none → HandAt H' h → Q (.ref h) H'
def i_hand (H : Hp) (a c : Addr) (i : Nat) (σ : L2.St) (H' : Hp) : Prop := ∃ (tot : Int) (v3 : Option V) (cells : List Int), σ = [some (.ref a), some (.int tot), some (.ref c), v3] ∧ cells.length = i ∧ H' c = some (.lst (cells.map V.int)) ∧
  (∀ z ∈ cells, 0 ≤ z) ∧ Same H H' ∧ 0 ≤ tot ∧ tot < 2147483563
def mixedN (n t : Int) : Int :=
  ((((n * 39373 + t * 6151 + 50021) % 2147483399 * ((n * 39373 + t * 6151 + 50021) % 2147483399) + t * 81071 + (n * 39373 + t * 6151 + 50021) % 2147483399 / 137) % 2147483629 * 62089 +
    (n * 39373 + t * 6151 + 50021) % 2147483399 / 11) % 2147483587) / 64
theorem mixedN_pos (n t : Int) : 0 ≤ mixedN n t := Int.ediv_nonneg (Int.emod_nonneg _ (by decide)) (by decide)
def sp_mixed : Sp := fun vs H Q _ => ∃ n t : Int, vs = [.int n, .int t] ∧ (-(2 ^ 40) < n ∧ n < 2 ^ 40 ∧ -(2 ^ 40) < t ∧ t < 2 ^ 40) ∧ ∀ r, 0 ≤ r → Q (.int r) H
/-- what a drawing may make of the hand -/
def HandN (H : Hp) (h : Addr) (o : HO) : Prop := HandAt (upd H h o) h ∧ ∃ c r r', H h = some (.lst (V.ref c :: r)) ∧ o = .lst (V.ref c :: r')
def sp_take : Sp := fun vs H Q _ => ∃ (h : Addr) (m : Int), vs = [.ref h, .int m] ∧ HandAt H h ∧ 0 < m ∧ m < 1073741824 ∧ ∀ r o, 0 ≤ r → r < m → HandN H h o → Q (.int r) (upd H h o)
/-- a drawing, by data: any number below m -/
def F_law_take : DFn := fun args Q _ => match args with
  | [.hand, .d (.int m)] => (0 < m ∧ m < 1073741824) ∧ ∀ r : Nat, (r : Int) < m → Q (.int r)
  | _ => False
theorem take_spD {K : PySem.W.Frag} : ∀ vs H Q E, spD K F_law_take vs H Q E → sp_take vs H Q E := by
  rintro vs H Q E ⟨X, hd, args, Qd, Qx, al, hh, sl, hF, q, _⟩
  unfold F_law_take at hF
  split at hF
  · obtain ⟨⟨h1, h2⟩, hr⟩ := hF
    cases sl with
    | @hand h c vs ss e sl =>
      cases sl with
      | d den sl =>
        cases sl
        have ev := den.flat rfl
        subst ev
        obtain ⟨xh, cells, at_, big, mix, hH, hC, r⟩ := hh h c e
        refine ⟨h, _, rfl, ⟨c, cells, at_, big, mix, hH, hC, r⟩, h1, h2, fun z o z1 z2 hn => ?_⟩
        obtain ⟨⟨c2, cells2, at2, big2, mix2, hH2, hC2, rr⟩, c3, r1, r2, e1, rfl⟩ := hn
        rw [hH] at e1
        rw [upd_same] at hH2
        cases e1
        cases hH2
        have := q (.int z) (.int z) (upd H h (.lst [V.ref c, .int at2, .int big2, .int mix2])) ⟨fun b u eb nb => by rw [upd_ne (nb h c e)]; exact eb, fun h' c' e' _ => by
          rw [e] at e'
          cases e'
          exact ⟨cells2, at2, big2, mix2, upd_same, hC2, rr⟩⟩ (.int _) (by have := hr z.toNat (by omega); rwa [Int.toNat_of_nonneg z1] at this)
        exact this
  · exact hF.elim
/-! ### the law itself -/
def sp_law (K : PySem.W.Frag) : Sp := fun vs H Q _ => ∃ (a : Addr) (ns : List Int), vs = [.ref a] ∧ SqL K H a (ns.map V.int) ∧ ns.length ≤ 63 ∧ ∀ H', Q (.bl true) H'
/-- what is left of a law: its text behind the hand's making gives True, whatever is drawn -/
def LawGoal (n : Nat) (s : DSt) : Prop := s ⟨fun _ => False, fun d => d = .bl true, fun _ => False, fun _ => False, fun _ _ => False⟩ (.no :: .hand :: List.replicate n .no)
theorem body_law {K : PySem.W.Frag} {N : List Str} {n : Nat} {sb : DSt} {t : TS} {vs : List V} {H : Hp} {Q : VK} {E : XK} (hn : N.length = n + 2) (h : sp_law K vs H Q E) (g : LawGoal n sb)
    (hb : ∀ H X hd, DS ⟨K, H, X, hd, none, fun _ _ _ _ => False, none⟩ t sb) : tSeq (tAsg (tCall (sp_hand K) [] E0 (tCons (tVar 0) tNil)) (gName 1)) t { nx := fun _ H' => Q .non H', rt := Q } (L2.start N vs) H := by
  obtain ⟨a, ns, rfl, hS, hl, q⟩ := h
  refine ⟨.ref a, rfl, a, ns, rfl, hS, hl, fun H' h s hn' hA => ?_⟩
  obtain ⟨c, cells, at_, big, mix, hH, hC, r⟩ := hA
  have hc : HandC H' h c := ⟨cells, at_, big, mix, hH, hC, r⟩
  have es : (L2.start N [V.ref a]).set 1 (some (.ref h)) = some (.ref a) :: some (.ref h) :: List.replicate n none := by
    unfold L2.start
    have e : N.length - 1 = n + 1 := by omega
    show (some (V.ref a) :: List.replicate (N.length - 1) none).set 1 _ = _
    rw [e]
    rfl
  have rp : Rep ⟨K, H', fun z => z = h, some (h, c), none, fun _ _ _ _ => False, none⟩ (fun z => z = h) (.no :: .hand :: List.replicate n .no) ((L2.start N [V.ref a]).set 1 (some (.ref h))) H' := by
    rw [es]
    refine ⟨by simp, fun z e => e, fun z e => .inl e, fun z e => ⟨.lst [V.ref c, V.int ↑at_, V.int big, V.int mix], by rw [show z = h from e]; exact hH⟩, .refl _, fun h' c' e => ?_, fun i sl e => ?_, fun i j xs ys _ e1 _ => ?_, fun i ⟨C0, ns0, ds0, e1⟩ => ?_⟩
    · cases e; exact ⟨rfl, hc, hc⟩
    · match i, e with
      | 0, e => cases e; exact ⟨_, rfl, trivial⟩
      | 1, e => cases e; exact ⟨_, rfl, h, c, rfl, rfl⟩
      | i + 2, e =>
        have e : (List.replicate n Sl.no)[i]? = some sl := e
        rw [List.getElem?_replicate] at e
        split at e
        · rename_i hi
          cases e
          exact ⟨none, by show (List.replicate n none)[i]? = _; rw [List.getElem?_replicate, if_pos hi], trivial⟩
        · cases e
    · match i, e1 with
      | 0, e1 => cases e1
      | 1, e1 => cases e1
      | i + 2, e1 =>
        have e1 : (List.replicate n Sl.no)[i]? = some (.own xs) := e1
        rw [List.getElem?_replicate] at e1
        split at e1 <;> cases e1
    · match i, e1 with
      | 0, e1 => rfl
      | 1, e1 => cases e1
      | i + 2, e1 =>
        have e1 : (List.replicate n Sl.no)[i]? = some (.ins C0 ns0 ds0) := e1
        rw [List.getElem?_replicate] at e1
        split at e1 <;> cases e1
  refine hb _ _ _ _ _ _ _ { nx := fun _ H' => Q .non H', rt := Q } _ rp ⟨fun _ _ _ _ _ _ (h' : False) => h'.elim, fun X' env σ H2 v z r' s' w h' => ?_, fun _ _ _ _ _ _ (h' : False) => h'.elim, fun _ _ _ _ _ _ (h' : False) => h'.elim, fun _ _ _ _ _ _ _ _ _ _ (h' : False) => h'.elim⟩ g
  have h' : z = .bl true := h'
  subst h'
  have ev := w.flat rfl
  subst ev
  exact q H2
/-! ### monotone, for errors' fields -/
theorem mon_call {K : PySem.W.Frag} {F : DFn} {dvs : List V} {E : XK} {t : TA} (m : ∀ σ H (Q Q' : List V → Hp → Prop), (∀ v H', Q v H' → Q' v H') → t σ H Q → t σ H Q') : Mon (tCall (spD K F) dvs E t) := fun σ H Q Q' h q =>
  m σ H _ _ (fun vs H1 ⟨X, hd, args, Qd, Qx, a, b, c, d, e, f⟩ => ⟨X, hd, args, Qd, Qx, a, b, c, d, fun d v H' fr de qd => h _ _ (e d v H' fr de qd), f⟩) q
end Mine

namespace Mine
open PySem PySem.Spec PyProof.Rows L2
/-! ### zip of two lists, two tuples, a tuple and a list -/
def iZipU (K : PySem.W.Frag) (ta : TA) : TI := fun σ H R => ta σ H fun vs H1 => ∃ a b xs ys, vs = [.ref a, .ref b] ∧ ((SqL K H1 a xs ∧ SqL K H1 b ys ∧ R (Itz K a b) H1) ∨ ((SqT K H1 a xs ∧ SqL K H1 b ys ∧ R (ItzM K a b) H1) ∨ (SqT K H1 a xs ∧ SqT K H1 b ys ∧ R (RZ.ItzT K a b) H1)))
theorem pi_zipU {X : Cx} {e e2 : Expr} {ta : TA} {p pos tpos : Pos} {elts : List Expr} {kk : Nat} (hg : Gl X "zip") (hm : X.mg "zip" = none) (ha : PA X [e, e2] ta)
    (hs : starEach [e, e2] X.env = (false, eval e X.env) :: starEach [e2] X.env := by rfl) (hpl : (backTo pos (starEach [e2] X.env)).any (·.1) = false := by rfl) :
    PI X (.Tuple elts kk tpos) (.Call (.Name "zip" p) [e, e2] [] pos) (iZipU X.K ta) := by
  refine ⟨fun pins s σ H R I h => ?_⟩
  refine Call_ (ld_blt I hg hm PyProof.Rows.boot_zip (PyProof.Rows.callWith_type1 (thn (ha.run pos pins s σ H _ I h) fun us s1 ⟨vs, H1, I1, r1, q1⟩ => ?_) hs hpl))
  obtain ⟨a, b, xs, ys, rfl, q1⟩ := q1
  cases r1 with
  | cons r rr =>
    cases rr with
    | cons r' rr =>
      cases rr
      cases r
      cases r'
      have fresh : ∀ c, c ∈ [s1.heap.objs.size + 4, s1.heap.objs.size + 2, s1.heap.objs.size + 3, s1.heap.objs.size, s1.heap.objs.size + 1] → FpOk X pins H1 c := fun c hc => by
        have le : s1.heap.objs.size ≤ c := by
          have e' : c = s1.heap.objs.size + 4 ∨ c = s1.heap.objs.size + 2 ∨ c = s1.heap.objs.size + 3 ∨ c = s1.heap.objs.size ∨ c = s1.heap.objs.size + 1 := by simpa using hc
          have : ∀ k : Nat, s1.heap.objs.size ≤ s1.heap.objs.size + k := fun k => Nat.le_add_right _ _
          rcases e' with rfl | rfl | rfl | rfl | rfl
          · exact this 4
          · exact this 2
          · exact this 3
          · exact Nat.le_refl _
          · exact this 1
        exact I1.fpOk le (I1.hok.fresh le)
      rcases q1 with ⟨hqx, hqy, q⟩ | ⟨hqx, hqy, q⟩ | ⟨hqx, hqy, q⟩
      · obtain ⟨its, rv, p1, _⟩ := I1.list hqx
        obtain ⟨its2, rv2, p2, _⟩ := I1.list hqy
        have la : a < s1.heap.objs.size := p1.lt
        have lb : b < s1.heap.objs.size := p2.lt
        refine call_zip_2 p1.isList p2.isList fun h' hz hTI hTO h1 h2 hsz hk => wpAny_pyIter_zip hz ?_
        exact ⟨s1.heap.objs.size + 4, [s1.heap.objs.size + 4, s1.heap.objs.size + 2, s1.heap.objs.size + 3, s1.heap.objs.size, s1.heap.objs.size + 1], _, _, H1, rfl, I1.kept (t' := s1.toks) hk, turn_zip (PySem.W.ktu_apart s1.heap.objs.size a b la lb), ⟨hz, hTI, ⟨_, _, hTO⟩, h1, h2⟩, fresh, q⟩
      · obtain ⟨its, rv, p1, _⟩ := I1.tuple hqx
        have lta : a < s1.heap.objs.size := by obtain ⟨o, ho, _⟩ := id p1; exact Heap.lt_size ho
        obtain ⟨its2, rv2, p2, _⟩ := I1.list hqy
        have ltb := p2.lt
        refine zip_begins2 (begins_tuple a its.toArray) (begins_list b its2.toArray) p1 p2.isList fun h' hz hTI hTO g1 g2 hsz hk => wpAny_pyIter_zip hz ?_
        have S := zip_sep2 (N := s1.heap.objs.size) (fp1 := [a]) (fp2 := [b]) (fun c hc => by rw [List.mem_singleton.mp hc]; exact lta) (fun c hc => by rw [List.mem_singleton.mp hc]; exact ltb)
        exact ⟨s1.heap.objs.size + 4, [s1.heap.objs.size + 4, s1.heap.objs.size + 2, s1.heap.objs.size + 3, s1.heap.objs.size, s1.heap.objs.size + 1], _, _, H1, rfl, I1.kept (t' := s1.toks) hk,
          turn_zipM S (Nat.ne_of_lt lta) (Nat.ne_of_lt (Nat.lt_succ_of_lt ltb)), ⟨hz, hTI, ⟨_, _, hTO⟩, ⟨_, g1, rfl, rfl⟩, ⟨_, g2, rfl, rfl⟩⟩, fresh, q⟩
      · obtain ⟨its, rv, p1, _⟩ := I1.tuple hqx
        have lta : a < s1.heap.objs.size := by obtain ⟨o, ho, _⟩ := id p1; exact Heap.lt_size ho
        obtain ⟨its2, rv2, p2, _⟩ := I1.tuple hqy
        have ltb : b < s1.heap.objs.size := by obtain ⟨o, ho, _⟩ := id p2; exact Heap.lt_size ho
        refine zip_begins2 (begins_tuple a its.toArray) (begins_tuple b its2.toArray) p1 p2 fun h' hz hTI hTO g1 g2 hsz hk => wpAny_pyIter_zip hz ?_
        exact ⟨s1.heap.objs.size + 4, [s1.heap.objs.size + 4, s1.heap.objs.size + 2, s1.heap.objs.size + 3, s1.heap.objs.size, s1.heap.objs.size + 1], _, _, H1, rfl, I1.kept (t' := s1.toks) hk,
          RZ.turn_zipT (PySem.W.ktu_apart s1.heap.objs.size a b lta ltb), ⟨hz, hTI, ⟨_, _, hTO⟩, ⟨_, g1, rfl, rfl⟩, ⟨_, g2, rfl, rfl⟩⟩, fresh, q⟩
/-- by data; two lists, two tuples, a tuple and a list -/
def eZip (a b : DX) : DAX := fun env Q E => a env (fun d1 => b env (fun d2 => match d1, d2 with
  | .lst xs, .lst ys => Q (List.zipWith (fun x y => .tup [x, y]) xs ys)
  | .tup xs, .lst ys => xs.length = ys.length ∧ Q (List.zipWith (fun x y => .tup [x, y]) xs ys)
  | .tup xs, .tup ys => xs.length = ys.length ∧ Q (List.zipWith (fun x y => .tup [x, y]) xs ys)
  | _, _ => False) E) E
section
variable {C : Bc}
theorem walk_pair2 {S : SS} {X : Addr → Prop} {H1 : Hp} {J : It} {n : Nat} {G : Hp → Prop} {xs ys : List V} {ds es : List Dt} (hal : ∀ {Y : Addr → Prop} {H : Hp}, S C X H1 Y H → ∀ a, Y a → ∃ o, H a = some o) (hn : (List.zipWith (fun x y => Dt.tup [x, y]) ds es).length = n)
    (w : Walk J n G (YPair (fun i => xs[i]?) (fun i => ys[i]?))) (hs : ∀ i H, i = n → G H → J.stop i H) (k : ∀ Y H, S C X H1 Y H → G H ∧ DenAll C.K (vis H Y) xs ds ∧ DenAll C.K (vis H Y) ys es) :
    WalkD S C X H1 J (List.zipWith (fun x y => Dt.tup [x, y]) ds es) := by
  intro Y i H s
  obtain ⟨g, a, b⟩ := k Y H s
  refine ⟨fun hi => ⟨w.goes i H (hn ▸ hi) g, fun x H' hy => ?_⟩, fun hi => hs i H (by omega) g⟩
  obtain ⟨T, v, y, rfl, hT, rfl, ev, ey⟩ := w.yields i H x H' (hn ▸ hi) g hy
  dsimp only at ev ey
  obtain ⟨d, e, den⟩ := a.getV ev
  obtain ⟨d2, e2, den2⟩ := b.getV ey
  have nT : ¬ Y T := fun y => by
    obtain ⟨o, q⟩ := hal s T y
    rw [hT] at q; cases q
  have mv : Same (vis H Y) (vis (upd H T (.tup [v, y])) Y) := fun c o e => by
    obtain ⟨n1, e1⟩ := vis_of e
    exact vis_mk n1 (same_upd hT _ _ e1)
  refine ⟨same_upd hT, .tup [d, d2], by rw [List.getElem?_zipWith, e, e2], .tup (vis_mk nT upd_same) (.cons (den.mono mv) (.cons (den2.mono mv) .nil))⟩
theorem di_zip {R R2 : RR} {S : SS} [Src R S] [Src R2 S] {t1 t2 : TE} {a b : DX} (h1 : DEg R C t1 a) (h2 : DEg R2 C t2 b) (fr : ∀ {X : Addr → Prop} {env : List Sl} {σ : L2.St} {H0 H H' : Hp} {v : V} {d : Dt}, Rep C X env σ H → Frm C.hd H H' → R C X H0 H v d → R C X H0 H' v d) :
    DIg S C (iZipU C.K (tCons t1 (tCons t2 tNil))) (eZip a b) := by
  intro X env σ H Rr Qd Qx rp he q x
  refine h1 X env σ H _ _ Qx rp he (fun d1 v1 H1 f1 r1 he1 => ?_) x
  refine h2 X env σ H1 _ _ Qx (rp.step f1) he1 (fun d2 v2 H2 f2 r2 he2 => ?_) (x.step f1)
  have r1 := fr (rp.step f1) f2 r1
  have mn : ∀ {α β γ : Type} (f : α → β → γ) (xs : List α) (ys : List β), (List.zipWith f xs ys).length = min xs.length ys.length := fun f xs ys => by simp
  show ∃ a b xs ys, [v1, v2] = [.ref a, .ref b] ∧ _
  split at he2
  · obtain ⟨p, vs, rfl, h3, k⟩ := Src.lst (S := S) r1
    obtain ⟨p2, vs2, rfl, h4, k2⟩ := Src.lst (S := S) r2
    refine ⟨p, p2, vs, vs2, rfl, .inl ⟨.inl (.inl h3), .inl (.inl h4), q _ _ H2 (f1.trans f2) ?_ he2⟩⟩
    intro Y i H3 s
    have l1 := (k Y H3 s).2.length
    have l2 := (k2 Y H3 s).2.length
    exact walk_pair2 (n := min vs.length vs2.length) (G := fun H => SqL C.K H p vs ∧ SqL C.K H p2 vs2) (fun s => Src.al (R := R) s) (by rw [mn, l1, l2]) (walk_zip rfl) (fun i H hi g => ⟨vs, vs2, g.1, g.2, by omega⟩)
      (fun Y H s => ⟨⟨.inl (.inl (k Y H s).1), .inl (.inl (k2 Y H s).1)⟩, (k Y H s).2, (k2 Y H s).2⟩) Y i H3 s
  · obtain ⟨hl, he2⟩ := he2
    obtain ⟨p, vs, rfl, h3, k⟩ := Src.tup (S := S) r1
    obtain ⟨p2, vs2, rfl, h4, k2⟩ := Src.lst (S := S) r2
    refine ⟨p, p2, vs, vs2, rfl, .inr (.inl ⟨.inl (.inl h3), .inl (.inl h4), q _ _ H2 (f1.trans f2) ?_ he2⟩)⟩
    intro Y i H3 s
    have l1 := (k Y H3 s).2.length
    have l2 := (k2 Y H3 s).2.length
    exact walk_pair2 (n := vs.length) (G := fun H => SqT C.K H p vs ∧ SqL C.K H p2 vs2) (fun s => Src.al (R := R) s) (by rw [mn, l1, hl]; omega) (walk_zipM (by omega)) (fun i H hi g => ⟨vs, vs2, g.1, g.2, by first | exact .inl (by omega) | exact ⟨.inl (by omega), by omega, by omega⟩ | omega⟩)
      (fun Y H s => ⟨⟨.inl (.inl (k Y H s).1), .inl (.inl (k2 Y H s).1)⟩, (k Y H s).2, (k2 Y H s).2⟩) Y i H3 s
  · obtain ⟨hl, he2⟩ := he2
    obtain ⟨p, vs, rfl, h3, k⟩ := Src.tup (S := S) r1
    obtain ⟨p2, vs2, rfl, h4, k2⟩ := Src.tup (S := S) r2
    refine ⟨p, p2, vs, vs2, rfl, .inr (.inr ⟨.inl (.inl h3), .inl (.inl h4), q _ _ H2 (f1.trans f2) ?_ he2⟩)⟩
    intro Y i H3 s
    have l1 := (k Y H3 s).2.length
    have l2 := (k2 Y H3 s).2.length
    exact walk_pair2 (n := vs.length) (G := fun H => SqT C.K H p vs ∧ SqT C.K H p2 vs2) (fun s => Src.al (R := R) s) (by rw [mn, l1, hl]; omega) (walk_zipTT (by omega)) (fun i H hi g => ⟨vs, vs2, g.1, g.2, by first | exact .inl (by omega) | exact ⟨.inl (by omega), by omega, by omega⟩ | omega⟩)
      (fun Y H s => ⟨⟨.inl (.inl (k Y H s).1), .inl (.inl (k2 Y H s).1)⟩, (k Y H s).2, (k2 Y H s).2⟩) Y i H3 s
  · exact he2.elim
end
end Mine
namespace Mine
open PySem PySem.Spec PyProof.Rows L2
theorem ix_U {X : Cx} {K : PySem.W.Frag} (e : X.K = K) : IxR X (rIx K) := e ▸ ix_seq
end Mine
namespace Mine
open PySem PySem.Spec PyProof.Rows L2
theorem op_eqU {X : Cx} {K : PySem.W.Frag} (e : X.K = K) (hu : X.A.units + 64 < cLine) : OpR X (compareOp .Eq) (rEqD K) := e ▸ op_eqD hu
theorem op_neU {X : Cx} {K : PySem.W.Frag} (e : X.K = K) (hu : X.A.units + 64 < cLine) : OpR X (compareOp .NotEq) (rNeD K) := e ▸ op_neD hu
end Mine
namespace Mine
open PySem PySem.Spec PyProof.Rows L2
theorem dst_of {C : Bc} {t : TS} {s s' : DSt} (e : s = s') (h : DS C t s') : DS C t s := e ▸ h
end Mine

namespace L2
open PySem PySem.Spec PyProof.Rows
theorem mine_evalArgs_kw {M : Model} {A : Around} {E : Value → Shared → Prop} {s : Shared} {f : Value} {x : Sem Value} {rest : List (Bool × Sem Value)} {keywords : List (Option Str × Sem Value)} {Q : Args → Shared → Prop}
    (hall : keywords.all (·.1.isSome) = true)
    (h : wpAny M A (spliced ((false, x) :: rest)) (fun vs s₁ => wpAny M A (evalAll (keywords.map (·.2))) (fun kvs s₂ => Q ⟨vs, (keywords.filterMap (·.1)).zip kvs⟩ s₂) E s₁) E s) :
    wpAny M A (evalArgs f true ((false, x) :: rest) keywords) Q E s := by
  unfold evalArgs
  show wpAny M A (spliced ((false, x) :: rest) >>= _) Q E s
  refine wpAny_bind (wpAny_mono h (fun vs s' h' => ?_) fun _ _ x => x)
  refine wpAny_holding ?_
  rw [if_pos hall]
  refine wpAny_bind (wpAny_mono h' (fun kvs s₂ h₂ => ?_) fun _ _ x => x)
  exact wpAny_bind (wpAny_pure (wpAny_pure h₂))
theorem mine_callWith_type_kw {M : Model} {A : Around} {E : Value → Shared → Prop} {s : Shared} {env : Env} {pos : Pos} {T : String} {e : Expr} {rest : List Expr} {kws : List Keyword} {Q : Value → Shared → Prop}
    (h : wpAny M A (spliced (backTo pos (starEach (e :: rest) env))) (fun vs s₁ => wpAny M A (evalAll ((backToKw pos (keywordEach kws env)).map (·.2)))
      (fun kvs s₂ => wpAny M A (call (.type T) vs (((backToKw pos (keywordEach kws env)).filterMap (·.1)).zip kvs)) Q E s₂) E s₁) E s)
    (he : backTo pos (starEach (e :: rest) env) = (false, eval e env) :: backTo pos (starEach rest env) := by rfl)
    (hplain : (backTo pos (starEach (e :: rest) env)).any (·.1) = false := by rfl)
    (hall : (backToKw pos (keywordEach kws env)).all (·.1.isSome) = true := by rfl)
    (hkw : (backToKw pos (keywordEach kws env)).any (·.1.isNone) = false := by rfl) :
    wpAny M A (callWith pos (.type T) [] (backTo pos (starEach (e :: rest) env)) (backToKw pos (keywordEach kws env))) Q E s := by
  unfold callWith
  rw [he] at h ⊢
  refine wpAny_bind (wpAny_holding (mine_evalArgs_kw hall (wpAny_mono h (fun vs s₁ h₁ => wpAny_mono h₁ (fun kvs s₂ h₂ => wpAny_bind (wpAny_standAt ?_)) fun _ _ x => x) fun _ _ x => x)))
  rw [← he]
  simp only [hplain, hkw, Bool.or_false]
  refine wpAny_bind (wpAny_pure ?_)
  exact wpAny_bind (wpAny_mono h₂ (fun r s₂ hr => wpAny_bind (wpAny_holding (wpAny_point (wpAny_pure hr)))) fun _ _ x => x)
end L2
namespace Mine
open PySem PySem.Spec PyProof.Rows L2
/-! ### enumerate(t, start=k), t a tuple -/
def IteTk (K : PySem.W.Frag) (k : Int) (a : Addr) : It :=
  ⟨fun i H => ∃ (xs : List V) (x : V), SqT K H a xs ∧ xs[i]? = some x, fun i H v H' => ∃ T x, v = .ref T ∧ H T = none ∧ H' = upd H T (.tup [.int (k + (i : Nat)), x]) ∧ ∀ xs, SqT K H a xs → xs[i]? = some x, fun i H => ∃ xs : List V, SqT K H a xs ∧ xs.length ≤ i⟩
theorem turn_enumTk {P : Program} {w : World} {K : PySem.W.Frag} {elts : List Expr} {kk : Nat} {tpos : Pos} (k : Int) (a e it : Addr) (ha : a ≠ it) (hae : e ≠ a) :
    Turn P w K (.Tuple elts kk tpos) (IteTk K k a) [e, it] e (fun i h => (∃ old, IsEnum h e it (k + ((i : Nat) : Int)) old) ∧ h.IsTupleIter it a i ∧ e ≠ it) where
  mem := by simp
  obj := fun i h st b hb => by
    obtain ⟨⟨old, he⟩, ⟨o, ho, hc, hd⟩, _⟩ := st
    have e' : b = e ∨ b = it := by simpa using hb
    rcases e' with z | z
    · rw [z]; exact ⟨_, he, fun v q => nomatch q⟩
    · rw [z]; exact ⟨o, ho, fun v q => by rw [hd] at q; cases q⟩
  keep := fun i h h' st k => let ⟨⟨old, he⟩, hi, hne⟩ := st; ⟨⟨old, k e (by simp) _ he⟩, hi.at fun o q => k it (by simp) o q, hne⟩
  item := by
    intro X hP hw hK hc i pins s σ H E I hf st hg
    subst hP hw hK
    obtain ⟨⟨old, he⟩, hit, hne⟩ := st
    obtain ⟨xs, x, hq, hx⟩ := hg
    obtain ⟨its, rv, p, hz⟩ := I.tuple hq
    obtain ⟨u, hu, ru⟩ := rv.get hx
    have hel : e < s.heap.objs.size := Heap.lt_size he
    have hil : it < s.heap.objs.size := by obtain ⟨_, q, _⟩ := hit; exact Heap.lt_size q
    have pt : s.heap.IsTuple a its.toArray := p
    have hlt : i < its.toArray.size := by
      have := List.getElem?_eq_some_iff.mp hu
      obtain ⟨h, _⟩ := this
      simpa using h
    refine wpAny_pyNext_enum_itemC (i := i) (c := k + (i : Int)) (Draws.tuple (A := X.A.in1) (I.ok.hd hc) it a ha its.toArray) he ⟨hit, pt⟩ hlt hne (by simp [hne, hae]) fun x' h' tk hP ho hs' hT hsz hk => ?_
    have ex : x' = u := by
      have z : its.toArray[i]? = some u := by simpa using hu
      rw [hP] at z; exact Option.some.inj z
    subst ex
    refine ⟨_, rfl, wpAny_letOwnedTupleGo_enum (s := { s with heap := h', toks := tk + 1 }) ho fun h'' he' sb => ?_⟩
    have hT2 : h''.get? s.heap.objs.size = some { cls := .type "tuple", data := .seq #[.int (k + (i : Int)) tk, x'] } := (sb.2 _ (Nat.ne_of_gt hel)).trans hT
    have new : ObjOk X.prog X.w (upd H s.heap.objs.size (.tup [.int (k + (i : Nat)), x])) h'' s.heap.objs.size (.tup [.int (k + (i : Nat)), x]) :=
      ⟨by show 2 ≤ sizeLine; decide, [.int (k + (i : Int)) tk, x'], .cons ⟨_, rfl⟩ (.cons ru .nil), ⟨_, hT2, rfl, _, rfl⟩⟩
    have I1 : Inv X pins σ (upd H s.heap.objs.size (.tup [.int (k + (i : Nat)), x])) { s with heap := h'', toks := tk + 1 } :=
      I.turnedNew (ch := [e, it]) (fun b ob hb q => (sb.2 b (fun z => hb (by simp [z]))).trans (hk b ob (fun z => hb (by simp [z])) (fun z => hb (by simp [z])) q)) hf (Nat.le_refl _) new
    refine ⟨.ref s.heap.objs.size, _, I1, rfl, ⟨_, x, rfl, I.hok.fresh (Nat.le_refl _), rfl, fun ys hy => by rw [I.tuple_inj hy hq]; exact hx⟩, ⟨⟨x', ?_⟩, hs'.1.at fun o q => (sb.2 it (Ne.symm hne)).trans q, hne⟩, fun b hb => ?_⟩
    · have e1 : k + ((i + 1 : Nat) : Int) = k + (i : Int) + 1 := by omega
      rw [e1]; exact he'
    · have hb' : b < s.heap.objs.size := by
        have e' : b = e ∨ b = it := by simpa using hb
        rcases e' with z | z
        · rw [z]; exact hel
        · rw [z]; exact hil
      rw [upd_ne (Nat.ne_of_lt hb')]
      exact (hf b hb).1
  done := by
    intro X hP hw hK hc i pins s σ H E I hf st hg
    subst hP hw hK
    obtain ⟨⟨old, he⟩, hit, hne⟩ := st
    obtain ⟨xs, hq, hx⟩ := hg
    obtain ⟨its, rv, p, hz⟩ := I.tuple hq
    obtain ⟨f0, f1, f2, f3, f4, f5⟩ := hf it (by simp)
    have hl := rv.length
    have pt : s.heap.IsTuple a its.toArray := p
    have hT : s.TypeIs (.ref e) "enumerate" := ⟨_, he, rfl⟩
    unfold pyNext
    refine wpAny_bind (wpAny_attempt (wpAny_callSpecial?_slot (name := Str.ofString "__next__") hT F.slot_enumerate_next
      (wpAny_call_entry F.slot_enumerate_next hT F.entry_enumerate_next ?_ (F.args_enumerate_next_1 _))))
    show wpAny _ _ (field (.ref e) 2 >>= _) _ _ _
    refine wpAny_bind (wpAny_field he rfl (x := .ref it) rfl ?_)
    refine wpAny_bind (wpAny_nextOf_tuple_end (I.ok.hd hc) hit pt (by simp; omega) fun h' x he' hx' => ?_)
    obtain ⟨o, ho, hc⟩ := hx'
    refine wpAny_bind (wpAny_isInstance (T := "StopIteration") (b := true) ⟨o, ho, hc⟩ isSubtype_stop ?_)
    exact wpAny_pure ⟨rfl, I.turned (t' := s.toks) (fun b o hb q => he' b o hb q) f0 f1 f3 f4 f5⟩
  self := fun A i s Q E st h => let ⟨⟨_, he⟩, _⟩ := st; wpAny_pyIter_enum he h
def iEnumTk (K : PySem.W.Frag) (k : Int) (ta : TA) : TI := fun σ H R => ta σ H fun vs H1 => ∃ a xs, vs = [.ref a] ∧ SqT K H1 a xs ∧ R (IteTk K k a) H1
theorem pi_enumTk {X : Cx} {e : Expr} {ta : TA} {p pos tpos kp kp2 : Pos} {elts : List Expr} {kk kj : Nat} {k : Nat} (hk : k < 1000) (hg : Gl X "enumerate") (hm : X.mg "enumerate" = none) (ha : PA X [e] ta) (hs : starEach [e] X.env = [(false, eval e X.env)] := by rfl)
    (hpl : (backTo pos (starEach [e] X.env)).any (·.1) = false := by rfl) :
    PI X (.Tuple elts kk tpos) (.Call (.Name "enumerate" p) [e] [⟨some "start", .Constant (.int (k : Int)) kj kp, kp2⟩] pos) (iEnumTk X.K k ta) := by
  refine ⟨fun pins s σ H R I h => ?_⟩
  refine wpAny_Call_Name_kw (ld_blt I hg hm boot_enumerate (mine_callWith_type_kw (thn (ha.run pos pins s σ H _ I h) fun us s1 ⟨vs, H1, I1, r1, q1⟩ => ?_) (by rw [hs]; rfl) hpl))
  refine thn ((pk_cons (nm := some "start") (kpos := kp2) (pe_int (X := X) (pos := kp) (j := kj) (i := (k : Int))) pk_nil).run pos pins s1 σ H1 (fun zs H2 => zs = [.int (k : Int)] ∧ H2 = H1) I1 ⟨rfl, rfl⟩) fun kvs s2 ⟨zs, H2, I2, r2, ez, eh⟩ => ?_
  subst ez eh
  obtain ⟨a, xs, ex, hq, q⟩ := q1
  subst ex
  cases r2 with
  | cons rk rr2 =>
  cases rr2
  obtain ⟨tk, rfl⟩ := rk
  cases r1 with
  | cons r rr =>
    cases rr
    cases r
    have fp2 : ∀ b ∈ [s2.heap.objs.size + 1, s2.heap.objs.size], FpOk X pins H2 b := fun b hb => by
      have e' : b = s2.heap.objs.size + 1 ∨ b = s2.heap.objs.size := by simpa using hb
      have hle : s2.heap.objs.size ≤ b := by
        rcases e' with z | z
        · rw [z]; exact Nat.le_add_right _ _
        · rw [z]; exact Nat.le_refl _
      exact I2.fpOk hle (I2.hok.fresh hle)
    obtain ⟨its, rv, p', hz⟩ := I2.tuple hq
    have pt : s2.heap.IsTuple a its.toArray := p'
    have hlt : a < s2.heap.objs.size := by
      obtain ⟨o, ho, _⟩ := id pt
      exact Heap.lt_size ho
    show wpAny _ _ (call (.type "enumerate") [.ref a] [(Str.ofString "start", .int (k : Int) tk)]) _ _ _
    refine enum_begins_start (begins_tuple a its.toArray) pt (by omega) (by omega) fun h' he hit hsz hk => wpAny_pyIter_enum he ?_
    have I3 : Inv X pins σ H2 { s2 with heap := h' } := I2.kept (t' := s2.toks) hk
    exact ⟨s2.heap.objs.size + 1, [s2.heap.objs.size + 1, s2.heap.objs.size], _, _, H2, rfl, I3, turn_enumTk (k : Int) a (s2.heap.objs.size + 1) s2.heap.objs.size (Nat.ne_of_lt hlt) (Nat.ne_of_gt (Nat.lt_succ_of_lt hlt)),
      ⟨⟨.none, by simpa using he⟩, ⟨_, hit, rfl, rfl⟩, Nat.succ_ne_self _⟩, fp2, q⟩
end Mine
namespace Mine
open PySem PySem.Spec PyProof.Rows L2
def eEnumK (k : Nat) (a : DAX) : DAX := fun env Q E => a env (fun ds => match ds with
  | [.tup xs] => Q (xs.mapIdx fun i x => .tup [.int ((k : Int) + (i : Nat)), x])
  | _ => False) E
theorem walk_enumTk {K : PySem.W.Frag} {k : Int} {a : Addr} {xs : List V} : Walk (IteTk K k a) xs.length (fun H => SqT K H a xs) (YPair (fun i => some (.int (k + (i : Nat)))) (fun i => xs[i]?)) := by
  refine ⟨fun i _ hi q => ⟨xs, xs[i], q, by simp [hi]⟩, fun _ q => ⟨xs, q, Nat.le_refl _⟩, fun i H v H' _ q y => ?_⟩
  obtain ⟨T, x, h1, h2, h3, h4⟩ := y
  exact ⟨T, .int (k + (i : Nat)), x, h1, h2, h3, rfl, h4 xs q⟩
section
variable {C : Bc} {R : RR} {S : SS} {tl : TE} {el : DX}
theorem walk_pairk {X : Addr → Prop} {H1 : Hp} {J : It} {n : Nat} {k : Int} {G : Hp → Prop} {xs : List V} {ds : List Dt} (hal : ∀ {Y : Addr → Prop} {H : Hp}, S C X H1 Y H → ∀ a, Y a → ∃ o, H a = some o) (hn : ds.length = n)
    (w : Walk J n G (YPair (fun i => some (.int (k + (i : Nat)))) (fun i => xs[i]?))) (hs : ∀ i H, n ≤ i → G H → J.stop i H) (kk : ∀ Y H, S C X H1 Y H → G H ∧ DenAll C.K (vis H Y) xs ds) :
    WalkD S C X H1 J (ds.mapIdx fun i x => .tup [.int (k + (i : Nat)), x]) := by
  intro Y i H s
  obtain ⟨g, a⟩ := kk Y H s
  rw [List.length_mapIdx]
  refine ⟨fun hi => ⟨w.goes i H (hn ▸ hi) g, fun x H' hy => ?_⟩, fun hi => hs i H (by omega) g⟩
  obtain ⟨T, v, y, rfl, hT, rfl, ev, ey⟩ := w.yields i H x H' (hn ▸ hi) g hy
  dsimp only at ev ey
  cases ev
  obtain ⟨d, e, den⟩ := a.getV ey
  have nT : ¬ Y T := fun y => by
    obtain ⟨o, q⟩ := hal s T y
    rw [hT] at q; cases q
  refine ⟨same_upd hT, _, by rw [List.getElem?_mapIdx, e]; rfl, .tup (vis_mk nT upd_same) (.cons (.int _) (.cons (den.mono fun b o e => ?_) .nil))⟩
  obtain ⟨n1, e1⟩ := vis_of e
  exact vis_mk n1 (same_upd hT _ _ e1)
theorem di_enumK [Src R S] {k : Nat} (h : DEg R C tl el) : DIg S C (iEnumTk C.K (k : Int) (tCons tl tNil)) (eEnumK k (eCons el eNil)) := by
  intro X env σ H Rr Qd Qx rp he q x
  refine h X env σ H _ _ Qx rp he (fun d v H1 f1 r1 he1 => ?_) x
  show ∃ a xs, [v] = [.ref a] ∧ _
  have he1 : (match [d] with
    | [.tup xs] => Qd (xs.mapIdx fun i x => .tup [.int ((k : Int) + (i : Nat)), x])
    | _ => False) := he1
  split at he1
  · rename_i e
    cases e
    obtain ⟨p, vs, rfl, h1, kk⟩ := Src.tup (S := S) r1
    refine ⟨p, vs, rfl, .inl (.inl h1), q _ _ H1 f1 ?_ he1⟩
    intro Y i H2 s
    exact walk_pairk (G := fun H => SqT C.K H p vs) (fun s => Src.al (R := R) s) (kk Y H2 s).2.length.symm walk_enumTk (fun i H hi g => ⟨vs, g, hi⟩) (fun Y H s => ⟨.inl (.inl (kk Y H s).1), (kk Y H s).2⟩) Y i H2 s
  · exact he1.elim
end
/-! ### all, any -/
def rAllU (K : PySem.W.Frag) : List V → Hp → VK → Prop := rAll K
theorem call_allU {X : Cx} {K : PySem.W.Frag} (hc : X.calm = true) (e : X.K = K) : CallR X (.builtin "all") (rAllU K) := e ▸ cr_all hc
def rAnyU (K : PySem.W.Frag) : List V → Hp → VK → Prop := rAny K
theorem call_anyU {X : Cx} {K : PySem.W.Frag} (hc : X.calm = true) (e : X.K = K) : CallR X (.builtin "any") (rAnyU K) := e ▸ cr_any hc
def dAll : DL := fun ds Q => match ds with
  | [.lst xs] => ∃ bs : List Bool, xs = bs.map .bl ∧ Q (.bl (bs.all id))
  | _ => False
def dAny : DL := fun ds Q => match ds with
  | [.lst xs] => ∃ bs : List Bool, xs = bs.map .bl ∧ Q (.bl (bs.any id))
  | _ => False
theorem DenAll.bls_of {K : PySem.W.Frag} {H : Hp} : ∀ {vs : List V} {bs : List Bool}, DenAll K H vs (bs.map .bl) → vs = bs.map V.bl
  | _, [], .nil => rfl
  | _, n :: ns, .cons a b => by rw [List.map_cons, a.flat rfl, DenAll.bls_of b]
section
variable {C : Bc}
theorem cg_all : CallG Cln C (rAllU C.K) dAll := by
  intro X env σ H vs ds Q Qd rp ra he q
  unfold dAll at he
  split at he
  · obtain ⟨v, rfl, r1⟩ := ra.one
    obtain ⟨bs, rfl, he⟩ := he
    obtain ⟨p, vs, rfl, h1, a1⟩ := r1.lst
    rw [a1.bls_of] at h1
    exact ⟨p, bs, rfl, .inl (.inl h1), q _ _ H (.refl H) (.bl _) he⟩
  · exact he.elim
theorem cg_any : CallG Cln C (rAnyU C.K) dAny := by
  intro X env σ H vs ds Q Qd rp ra he q
  unfold dAny at he
  split at he
  · obtain ⟨v, rfl, r1⟩ := ra.one
    obtain ⟨bs, rfl, he⟩ := he
    obtain ⟨p, vs, rfl, h1, a1⟩ := r1.lst
    rw [a1.bls_of] at h1
    exact ⟨p, bs, rfl, .inl (.inl h1), q _ _ H (.refl H) (.bl _) he⟩
  · exact he.elim
end
/-! ### a written dict of one pair of whole numbers -/
def eDk1 (k v : Int) : DX := fun _ Q _ => Q (.dk [.inl k] [.int v])
theorem de_dk1 {C : Bc} (k v : Int) : DE C (tDisp [(tC (.int k), tC (.int v))]) (eDk1 k v) := by
  intro X env σ H Q Qd Qx rp he q x p hp
  refine ⟨upd_same, [(.inl k, .int v)], rfl, by show 1 ≤ 15; decide, ?_⟩
  have e : upd (upd H p (.dK [])) p (.dK (mergeK [] [(Sum.inl k, V.int v)])) = upd H p (.dK [(Sum.inl k, V.int v)]) := by
    funext a
    by_cases c : a = p
    · subst c; rw [upd_same, upd_same]; rfl
    · rw [upd_ne c, upd_ne c, upd_ne c]
  rw [e]
  refine q _ _ _ (.upd hp) ?_ he
  exact .dk (ks := [.inl k]) (vs := [.int v]) (vis_mk (rp.free hp) upd_same) rfl (.cons (.int v) .nil)
/-! ### sorted(set(rows)), sorted(rows): words of one length -/
def rSortedR (K : PySem.W.Frag) : List V → Hp → VK → Prop := fun vs H Q => ∃ (a : Addr) (L : List (Addr × List Int)) (d : Nat) (B : Int), vs = [V.ref a] ∧ SqL K H a (L.map fun q => V.ref q.1) ∧ (∀ p ∈ L, SqT K H p.1 (p.2.map V.int)) ∧ 1 ≤ d ∧
  (∀ p ∈ L, p.2.length = d ∧ TS.Bd B p.2) ∧ L.length < 64 ∧
  ∀ (L' : List (Addr × List Int)) (p : Addr), (∀ q, q ∈ L' → q ∈ L) → (L'.map fun q => V.ref q.1).Perm (L.map fun q => V.ref q.1) → L'.Pairwise (fun q r => TS.code B q.2 ≤ TS.code B r.2) → H p = none → Q (.ref p) (upd H p (.lst (L'.map fun q => V.ref q.1)))
theorem cr_sortedR {X : Cx} : CallR X (.builtin "sorted") (rSortedR X.K) := by
  intro pins s σ H vs us Q I r h
  obtain ⟨a, L, d, B, rfl, ha, hk, hd, hB, few, q⟩ := h
  obtain ⟨its, rv, pl, hz⟩ := I.list ha
  have ei := refs_of_vals rv
  rw [Vals.ref1 r]
  have tk : ∀ q ∈ L, TS.TupInts s.heap (.ref q.1) q.2 := fun q hq => tupInts_of (P := X.prog) (w := X.w) (I.isT (hk q hq))
  have x : TS.TupsOk s.heap d B its := fun v hv => by
    rw [ei] at hv
    obtain ⟨q, hq, e⟩ := List.mem_map.mp hv
    rw [← e]
    exact ⟨q.2, tk q hq, (hB q hq).1, (hB q hq).2⟩
  refine TS.sorted_tups (d := d) (B := B) (by simpa using pl.isList) (by rw [ei, List.length_map]; exact few) hd x fun out a1 a2 => ?_
  have ord : ∀ vs : List Value, (∀ v ∈ vs, ∃ q ∈ L, v = Value.ref q.1) → ∃ L1 : List (Addr × List Int), vs = L1.map (fun q => Value.ref q.1) ∧ ∀ q ∈ L1, q ∈ L := by
    intro vs
    induction vs with
    | nil => intro _; exact ⟨[], rfl, fun q hq => (by cases hq)⟩
    | cons v vs ih =>
      intro hv
      obtain ⟨q, hq, e⟩ := hv v List.mem_cons_self
      obtain ⟨L1, e1, hs⟩ := ih fun u hu => hv u (List.mem_cons_of_mem _ hu)
      refine ⟨q :: L1, by rw [List.map_cons, e, e1], fun r hr => ?_⟩
      rcases List.mem_cons.mp hr with z | z
      · rw [z]; exact hq
      · exact hs r z
  obtain ⟨L', e', hs'⟩ := ord out.toList fun v hv => by
    have := a1.mem_iff.mp hv
    rw [ei] at this
    obtain ⟨q, hq, e⟩ := List.mem_map.mp this
    exact ⟨q, hq, e.symm⟩
  have pw : L'.Pairwise (fun q r => TS.code B q.2 ≤ TS.code B r.2) := by
    rw [e'] at a2
    refine List.Pairwise.imp_of_mem (fun {q r} hq hr hle => ?_) (List.pairwise_map.mp a2)
    have f1 : TS.intsOf s.heap (.ref q.1) = q.2 := (tk q (hs' q hq)).ints
    have f2 : TS.intsOf s.heap (.ref r.1) = r.2 := (tk r (hs' r hr)).ints
    rw [← f1, ← f2]
    exact hle
  have pm : (L'.map fun q => V.ref q.1).Perm (L.map fun q => V.ref q.1) := by
    have : (L'.map fun q => Value.ref q.1).Perm (L.map fun q => Value.ref q.1) := by rw [← e', ← ei]; exact a1
    have := this.map (fun v : Value => match v with | .ref a => V.ref a | _ => V.non)
    rw [List.map_map, List.map_map] at this
    exact this
  obtain ⟨ep, he'⟩ := PyProof.Rows.sortedAll_at s.heap its out
  have hlen : (L'.map fun q => V.ref q.1).length ≤ sizeLine := by rw [pm.length_eq, List.length_map, sizeLine_eq]; omega
  exact ⟨.ref _, upd H (s.heap.objs.size + 1) (.lst (L'.map fun q => V.ref q.1)), I.laid (t' := s.toks) (fun _ _ => PyProof.Rows.sortedAll_old) (Nat.le_succ _) ⟨hlen, out.toList, ep, by rw [e']; exact vals_of_refs L', he'⟩, rfl, q L' _ hs' pm pw (I.hok.fresh (Nat.le_succ _))⟩
end Mine
namespace Mine
open PySem PySem.Spec PyProof.Rows L2
theorem map_int_inj : ∀ {x y : List Int}, x.map V.int = y.map V.int → x = y
  | [], [], _ => rfl
  | [], _ :: _, h => by cases h
  | _ :: _, [], h => by cases h
  | a :: x, b :: y, h => by
    rw [List.map_cons, List.map_cons] at h
    injection h with h1 h2
    injection h1 with h1
    rw [h1, map_int_inj h2]
theorem DenAll.rows {K : PySem.W.Frag} {H : Hp} : ∀ {vs : List V} {ws : List (List Int)}, DenAll K H vs (ws.map fun w => Dt.tup (w.map .int)) → ∃ L : List (Addr × List Int), vs = L.map (fun q => V.ref q.1) ∧ L.map (·.2) = ws ∧ ∀ q ∈ L, H q.1 = some (.tup (q.2.map V.int))
  | _, [], .nil => ⟨[], rfl, rfl, fun _ h => by cases h⟩
  | _, w :: ws, .cons a b => by
    obtain ⟨L, e1, e2, h⟩ := DenAll.rows b
    obtain ⟨p, vs, rfl, hp, av⟩ := a.tupI
    rw [av.ints_of] at hp
    exact ⟨(p, w) :: L, by rw [List.map_cons, e1], by rw [List.map_cons, e2], fun q hq => by
      rcases List.mem_cons.mp hq with e | e
      · rw [e]; exact hp
      · exact h q e⟩
theorem DenAll.of_rows {K : PySem.W.Frag} {H : Hp} : ∀ {L : List (Addr × List Int)}, (∀ q ∈ L, H q.1 = some (.tup (q.2.map V.int))) → DenAll K H (L.map fun q => V.ref q.1) ((L.map (·.2)).map fun w => Dt.tup (w.map .int))
  | [], _ => .nil
  | q :: L, h => .cons (.tup (h q List.mem_cons_self) (DenAll.ints _)) (DenAll.of_rows fun r hr => h r (List.mem_cons_of_mem _ hr))
def intV : V → Int
  | .int i => i
  | _ => 0
noncomputable def rowAt (H : Hp) : V → List Int
  | .ref a => match H a with | some (.tup vs) => vs.map intV | _ => []
  | _ => []
def eSortedSet (a : DX) : DX := fun env Q E => a env (fun d => match d with
  | .lst xs => ∃ (ws : List (List Int)) (d : Nat) (B : Int), xs = ws.map (fun w => Dt.tup (w.map .int)) ∧ ws.length < 64 ∧ Even d B ws ∧ ∀ ws' : List (List Int), (∀ x, x ∈ ws' ↔ x ∈ ws) → Rising B ws' → Q (.lst (ws'.map fun w => Dt.tup (w.map .int)))
  | _ => False) E
def dSortedR : DL := fun ds Q => match ds with
  | [.lst xs] => ∃ (ws : List (List Int)) (d : Nat) (B : Int), xs = ws.map (fun w => Dt.tup (w.map .int)) ∧ ws.length < 64 ∧ 1 ≤ d ∧ Even d B ws ∧ ∀ ws' : List (List Int), ws'.Perm ws → ws'.Pairwise (fun x y => TS.code B x ≤ TS.code B y) → Q (.lst (ws'.map fun w => Dt.tup (w.map .int)))
  | _ => False
section
variable {C : Bc} {X : Addr → Prop} {env : List Sl} {σ : L2.St} {H H1 : Hp}
/-- a new list of tuples that were there -/
theorem fsh_rows {p : Addr} {L L' : List (Addr × List Int)} (rp : Rep C X env σ H) (hp : H1 p = none) (f : Frm C.hd H H1) (hL : ∀ q ∈ L, vis H X q.1 = some (.tup (q.2.map V.int))) (hs : ∀ q ∈ L', q ∈ L) :
    Fsh C X H (upd H1 p (.lst (L'.map fun q => V.ref q.1))) (.ref p) (.lst ((L'.map (·.2)).map fun w => Dt.tup (w.map .int))) := by
  have rp1 := rp.step f
  exact (fsh_new rp1 hp (DenAll.of_rows fun q hq => rp.vs f _ _ (hL q (hs q hq)))).frm rp f
theorem Bor.rows {v : V} {ws : List (List Int)} {H0 : Hp} (h : Bor C X H0 H v (.lst (ws.map fun w => Dt.tup (w.map .int)))) : ∃ (p : Addr) (L : List (Addr × List Int)), v = .ref p ∧ H p = some (.lst (L.map fun q => V.ref q.1)) ∧ L.map (·.2) = ws ∧ ∀ q ∈ L, vis H X q.1 = some (.tup (q.2.map V.int)) := by
  obtain ⟨p, vs, rfl, h1, a⟩ := h.lst
  obtain ⟨L, rfl, e, hL⟩ := a.rows
  exact ⟨p, L, rfl, h1, e, hL⟩
theorem cg_sortedR : CallG Fsh C (rSortedR C.K) dSortedR := by
  intro X env σ H vs ds Q Qd rp ra he q
  unfold dSortedR at he
  split at he
  · obtain ⟨v, rfl, r1⟩ := ra.one
    obtain ⟨ws, d, B, rfl, few, hd, ev, he⟩ := he
    obtain ⟨p, L, rfl, h1, e, hL⟩ := r1.rows
    have hlen : L.length = ws.length := by rw [← e, List.length_map]
    refine ⟨p, L, d, B, rfl, .inl (.inl h1), fun q hq => .inl (.inl (vis_sub _ _ (hL q hq))), hd, fun q hq => ev q.2 (e ▸ List.mem_map.mpr ⟨q, hq, rfl⟩), by omega, fun L' p' hs pm pw hp => ?_⟩
    have dec : ∀ q ∈ L, rowAt (vis H X) (V.ref q.1) = q.2 := fun q hq => by
      show (match vis H X q.1 with | some (.tup vs) => vs.map intV | _ => []) = q.2
      rw [hL q hq]
      show (q.2.map V.int).map intV = q.2
      rw [List.map_map]
      exact List.map_id'' (fun _ => rfl) q.2
    have pw2 : (L'.map (·.2)).Perm ws := by
      have := pm.map (rowAt (vis H X))
      rw [List.map_map, List.map_map] at this
      rw [← e]
      have e1 : L'.map (rowAt (vis H X) ∘ fun q => V.ref q.1) = L'.map (·.2) := List.map_congr_left fun q hq => dec q (hs q hq)
      have e2 : L.map (rowAt (vis H X) ∘ fun q => V.ref q.1) = L.map (·.2) := List.map_congr_left fun q hq => dec q hq
      rw [e1, e2] at this
      exact this
    exact q _ _ _ (.upd hp) (fsh_rows rp hp (.refl H) hL hs) (he _ pw2 (List.pairwise_map.mpr pw))
  · exact he.elim
theorem df_sortedSet {P : Program} {w : World} {t : TE} {e : DX} (h : DB C t e) : DF C (tCB (rSortedA C.K P w) (tCons (tCB (rSetOfT C.K P w) (tCons t tNil)) tNil)) (eSortedSet e) := by
  intro X env σ H Q Qd Qx rp he q x
  refine h X env σ H _ _ Qx rp he (fun d v H1 f1 r1 he1 => ?_) x
  split at he1
  · obtain ⟨ws, d, B, rfl, few, ev, he1⟩ := he1
    obtain ⟨l, L, rfl, h1, e, hL⟩ := r1.rows
    have rp1 := rp.step f1
    have hlen : L.length = ws.length := by rw [← e, List.length_map]
    show rSetOfT C.K P w [V.ref l] H1 (fun x H1 => rSortedA C.K P w [x] H1 Q)
    refine ⟨l, L, rfl, .inl (.inl h1), fun k hk => .inl (.inl (vis_sub _ _ (hL k hk))), by omega, fun a L2 ha hsub hall => ?_⟩
    have sa := same_upd (o := SetTO P w a L2) ha
    have hev : ∀ p ∈ L2, p.2.length = d ∧ TS.Bd B p.2 := fun p hp => ev p.2 (e ▸ List.mem_map.mpr ⟨p, hsub p hp, rfl⟩)
    refine ⟨a, L2, d, B, rfl, upd_same, fun k hk => .inl (.inl (sa _ _ (vis_sub _ _ (hL k (hsub k hk))))), hev, fun L' p pm nd few pw hp => ?_⟩
    have f2 : Frm C.hd H1 (upd H1 a (SetTO P w a L2)) := .upd ha
    have fr := fsh_rows (L := L) (L' := L') rp1 hp f2 hL fun q hq => hsub q (pm.mem_iff.mp hq)
    refine q _ _ _ (f1.trans (f2.trans (.upd hp))) (fr.frm rp f1) (he1 _ (fun x => ?_) ?_)
    · constructor
      · intro hx
        obtain ⟨k, hk, e1⟩ := List.mem_map.mp hx
        rw [← e]
        exact List.mem_map.mpr ⟨k, hsub k (pm.mem_iff.mp hk), e1⟩
      · intro hx
        rw [← e] at hx
        obtain ⟨k, hk, e1⟩ := List.mem_map.mp hx
        obtain ⟨k2, hk2, e2⟩ := List.mem_map.mp (hall k hk)
        exact List.mem_map.mpr ⟨k2, pm.mem_iff.mpr hk2, e2.trans e1⟩
    · have pw2 : (L'.map (·.2)).Pairwise fun x y => TS.code B x ≤ TS.code B y := List.pairwise_map.mpr pw
      have mem : ∀ x ∈ L'.map (·.2), x.length = d ∧ TS.Bd B x := fun x hx => by
        obtain ⟨k, hk, e⟩ := List.mem_map.mp hx
        rw [← e]; exact hev k (pm.mem_iff.mp hk)
      refine List.Pairwise.imp_of_mem (fun {x y} hx hy h => ?_) (pw2.and nd)
      obtain ⟨le, ne⟩ := h
      rcases Int.lt_or_eq_of_le le with c | c
      · exact c
      · exact absurd (code_inj ((mem x hx).1.trans (mem y hy).1.symm) (mem x hx).2 (mem y hy).2 c) ne
  · exact he1.elim
end
end Mine
namespace Mine
open PySem PySem.Spec PyProof.Rows L2
/-! ### sorted(xs): whole numbers (any number of them), words of one length -/
def rSortedU (K : PySem.W.Frag) : List V → Hp → VK → Prop := fun xs H Q => rSortedI K xs H Q ∨ rSortedR K xs H Q
theorem call_sortedU {X : Cx} {K : PySem.W.Frag} (e : X.K = K) : CallR X (.builtin "sorted") (rSortedU K) := e ▸ cr_sortedI.or cr_sortedR
def dSortedI : DL := fun ds Q => match ds with
  | [.lst xs] => ∃ ns : List Int, xs = ns.map .int ∧ ∀ ns' : List Int, ns'.Perm ns → ns'.Pairwise (· ≤ ·) → Q (.lst (ns'.map .int))
  | _ => False
def dSortedU : DL := fun ds Q => dSortedI ds Q ∨ dSortedR ds Q
section
variable {C : Bc}
theorem cg_sortedI : CallG Fsh C (rSortedI C.K) dSortedI := by
  intro X env σ H vs ds Q Qd rp ra he q
  unfold dSortedI at he
  split at he
  · obtain ⟨v, rfl, r1⟩ := ra.one
    obtain ⟨ns, rfl, he⟩ := he
    obtain ⟨p, vs, rfl, h1, a1⟩ := r1.lst
    rw [a1.ints_of] at h1
    exact ⟨p, ns, rfl, .inl (.inl h1), fun ns' l h2 h3 hl => q _ _ _ (.upd hl) (fsh_new rp hl (DenAll.ints ns')) (he ns' h2 h3)⟩
  · exact he.elim
theorem cg_sortedU : CallG Fsh C (rSortedU C.K) dSortedU := by
  intro X env σ H vs ds Q Qd rp ra he q
  rcases he with he | he
  · exact .inl (cg_sortedI X env σ H vs ds Q Qd rp ra he q)
  · exact .inr (cg_sortedR X env σ H vs ds Q Qd rp ra he q)
end
end Mine
namespace Mine
open PySem PySem.Spec PyProof.Rows L2
theorem funD_inj {K : PySem.W.Frag} {name qual : Str} {params : Arguments} {body : List Stmt} {scope : Scope} {dvs dvs' : List V} {kws kws' : List (Str × V)} {f : Addr} {fd fd' : FuncData}
    (D : FunD K name qual params body scope dvs kws f fd) (D' : FunD K name qual params body scope dvs' kws' f fd') : fd = fd' := by
  obtain ⟨_, _, _, _, _, _, _, _, _, _, rfl, l1, _⟩ := D.ex
  obtain ⟨_, _, _, _, _, _, _, _, _, _, rfl, l0, _⟩ := D'.ex
  have z := l1.symm.trans l0
  injection z with z
  injection z with z1 z2 z3
  injection z3
end Mine
namespace Mine
open PySem PySem.Spec PyProof.Rows L2
/-- a written power -/
theorem de_powC {C : Bc} {a b c : Int} (h : CPow a b) (e : a ^ b.toNat = c) : DE C (tOp (rI CPow fun i j => .int (i ^ j.toNat)) (tC (.int a)) (tC (.int b))) (eC (.int c)) := by
  intro X env σ H Q Qd Qx rp he q x
  subst e
  exact ⟨_, _, rfl, rfl, h, q _ _ H (.refl H) (.int _) he⟩
theorem cpow_of {a b : Int} (h : decide (0 ≤ b) && decide (b ≤ 1000000) && decide (a.natAbs < 2 ^ 64) = true) : CPow a b := by
  simp only [Bool.and_eq_true, decide_eq_true_eq] at h
  exact ⟨h.1.1, h.1.2, h.2⟩
end Mine

namespace Mine
open PySem PySem.Spec PyProof.Rows L2
theorem mkD_W (np N : Nat) (s : DSt) {args} {Q} {E} : mkD np N s args Q E = (args.length = np ∧ s ⟨fun _ => Q .non, Q, fun _ => False, fun _ => False, fun _ x => E x⟩ (args ++ List.replicate (N - np) .no)) := rfl
theorem mkD0_W (np N : Nat) (s : DSt) {args} {Q} {E} : mkD0 np N s args Q E = (args.length = np ∧ s ⟨fun _ => Q .non, Q, fun _ => False, fun _ => False, fun _ _ => False⟩ (args ++ List.replicate (N - np) .no)) := rfl
theorem sSeq_W (a b : DSt) {d} {env} : sSeq a b d env = (a { d with nx := b d } env) := rfl
theorem sAsg_W (e : DX) (f : DGX) {d} {env} : sAsg e f d env = (e env (fun x => f x env d.nx) (d.xc env)) := rfl
theorem sRet_W (e : DX) {d} {env} : sRet e d env = (e env d.rt (d.xc env)) := rfl
theorem sRetN_W {d} {u1} : sRetN d u1 = (d.rt .non) := rfl
theorem sIf_W (c : DTX) (a b : DSt) {d} {env} : sIf c a b d env = (c env (fun k => if k = true then a d env else b d env) (d.xc env)) := rfl
theorem sNext_W {d} {env} : sNext d env = (d.nx env) := rfl
theorem sDrop_W (e : DX) {d} {env} : sDrop e d env = (e env (fun _ => d.nx env) (d.xc env)) := rfl
theorem sBreak_W {d} {env} : sBreak d env = (d.bk env) := rfl
theorem sCont_W {d} {env} : sCont d env = (d.ct env) := rfl
theorem sOwn_W (j : Nat) (e : DX) {d} {env} : sOwn j e d env = (e env (fun x => match x with
  | .lst xs => d.nx (env.set j (.own (.lst xs)))
  | _ => False) (d.xc env)) := rfl
theorem sPar_W (i j : Nat) (a : DAX) {d} {env} : sPar i j a d env = (a env (fun ds => match ds with
  | [x, y] => d.nx ((env.set i (.d x)).set j (.d y))
  | _ => False) (d.xc env)) := rfl
theorem sPar3_W (i j l : Nat) (a : DAX) {d} {env} : sPar3 i j l a d env = (a env (fun ds => match ds with
  | [x, y, z] => d.nx (((env.set i (.d x)).set j (.d y)).set l (.d z))
  | _ => False) (d.xc env)) := rfl
theorem sFrz_W (i : Nat) (s : DSt) {d} {env} : sFrz i s d env = (s d (frz env i)) := rfl
theorem sApp_W (i : Nat) (e : DX) {d} {env} : sApp i e d env = (match env[i]? with
  | some (.own (.lst xs)) => e env (fun y => xs.length < LINE ∧ d.nx (env.set i (.own (.lst (xs ++ [y]))))) (d.xc env)
  | _ => False) := rfl
theorem sExt_W (i : Nat) (e : DX) {d} {env} : sExt i e d env = (match env[i]? with
  | some (.own (.lst xs)) => e env (fun y => match y with
    | .lst ys => xs.length + ys.length ≤ LINE ∧ d.nx (env.set i (.own (.lst (xs ++ ys))))
    | _ => False) (d.xc env)
  | _ => False) := rfl
theorem sPop_W (i : Nat) {d} {env} : sPop i d env = (match env[i]? with
  | some (.own (.lst xs)) => xs ≠ [] ∧ d.nx (env.set i (.own (.lst xs.dropLast)))
  | _ => False) := rfl
theorem sPopTo_W (i j : Nat) {d} {env} : sPopTo i j d env = (match env[i]? with
  | some (.own (.lst xs)) => ∃ y, xs[xs.length - 1]? = some y ∧ d.nx ((env.set i (.own (.lst xs.dropLast))).set j (.d y))
  | _ => False) := rfl
theorem sPut_W (i : Nat) (ek e : DX) {d} {env} : sPut i ek e d env = (match env[i]? with
  | some (.own (.lst xs)) => e env (fun y => ek env (fun k => match k with
    | .int k => ∃ j, ixN xs.length k = some j ∧ d.nx (env.set i (.own (.lst (xs.set j y))))
    | _ => False) (d.xc env)) (d.xc env)
  | _ => False) := rfl
theorem sAugP_W (f : Int → Int → Int) (i : Nat) (ek e : DX) {d} {env} : sAugP f i ek e d env = (match env[i]? with
  | some (.own (.lst xs)) => ek env (fun k => match k with
    | .int k => ∃ j z, ixN xs.length k = some j ∧ xs[j]? = some (.int z) ∧ e env (fun y => match y with
      | .int y => d.nx (env.set i (.own (.lst (xs.set j (.int (f z y))))))
      | _ => False) (d.xc env)
    | _ => False) (d.xc env)
  | _ => False) := rfl
theorem sAug_W (f : Int → Int → Int) (i : Nat) (e : DX) {d} {env} : sAug f i e d env = (match env[i]? with
  | some (.d (.int x)) => e env (fun y => match y with
    | .int y => d.nx (env.set i (.d (.int (f x y))))
    | _ => False) (d.xc env)
  | _ => False) := rfl
theorem sFor_W (src : DAX) (f : DGX) (b : DSt) {d} {env} : sFor src f b d env = (src env (fun ds => dFor f b d ds env) (d.xc env)) := rfl
theorem sRaise_W (c : Str) {d} {env} : sRaise c d env = (d.xc env ⟨c, []⟩) := rfl
theorem sRaise1_W (c f : Str) (e : DX) {d} {env} : sRaise1 c f e d env = (e env (fun x => match x.flat with
  | some u => d.xc env ⟨c, [(f, u)]⟩
  | none => False) (d.xc env)) := rfl
theorem gD_W (j : Nat) {d} {env} {Q} : gD j d env Q = (Q (env.set j (.d d))) := rfl
theorem gD2_W (i j : Nat) {d} {env} {Q} : gD2 i j d env Q = (match d with
  | .tup [a, b] => Q ((env.set i (.d a)).set j (.d b))
  | _ => False) := rfl
theorem gD3_W (i j k : Nat) {d} {env} {Q} : gD3 i j k d env Q = (match d with
  | .tup [a, b, c] => Q (((env.set i (.d a)).set j (.d b)).set k (.d c))
  | _ => False) := rfl
theorem eVar_W (i : Nat) {env} {Q} {u2} : eVar i env Q u2 = (match env[i]? with
  | some (.d x) => Q x
  | _ => False) := rfl
theorem eVarB_W (i : Nat) {env} {Q} {u2} : eVarB i env Q u2 = (match env[i]? with
  | some (.d x) => Q x
  | some (.own (.lst xs)) => Q (.lst xs)
  | _ => False) := rfl
theorem eC_W (d : Dt) {u0} {Q} {u2} : eC d u0 Q u2 = (Q d) := rfl
theorem eOp_W (f : D2) (a b : DX) {env} {Q} {E} : eOp f a b env Q E = (a env (fun x => b env (fun y => f x y Q) E) E) := rfl
theorem eUn_W (f : D1) (a : DX) {env} {Q} {E} : eUn f a env Q E = (a env (fun x => f x Q) E) := rfl
theorem eCB_W (f : DL) (a : DAX) {env} {Q} {E} : eCB f a env Q E = (a env (fun ds => f ds Q) E) := rfl
theorem eCons_W (a : DX) (r : DAX) {env} {Q} {E} : eCons a r env Q E = (a env (fun d => r env (fun ds => Q (d :: ds)) E) E) := rfl
theorem eConsS_W (a : DX) (r : DSX) {env} {Q} {E} : eConsS a r env Q E = (a env (fun d => r env (fun ds => Q (.d d :: ds)) E) E) := rfl
theorem eConsH_W (i : Nat) (r : DSX) {env} {Q} {E} : eConsH i r env Q E = (match env[i]? with
  | some .hand => r env (fun ds => Q (.hand :: ds)) E
  | _ => False) := rfl
theorem eTup_W (r : DAX) {env} {Q} {E} : eTup r env Q E = (r env (fun ds => ds.length ≤ LINE ∧ Q (.tup ds)) E) := rfl
theorem eLst_W (r : DAX) {env} {Q} {E} : eLst r env Q E = (r env (fun ds => ds.length ≤ LINE ∧ Q (.lst ds)) E) := rfl
theorem eCall_W (F : DFn) (dd : List Sl) (a : DSX) {env} {Q} {E} : eCall F dd a env Q E = (a env (fun ss => F (ss ++ dd) Q E) E) := rfl
theorem eCall0_W (F : DFn) (dd : List Sl) (a : DSX) {env} {Q} {E} : eCall0 F dd a env Q E = (a env (fun ss => F (ss ++ dd) Q fun _ => False) E) := rfl
theorem eTest_W (e : DX) {env} {Q} {E} : eTest e env Q E = (e env (fun d => match d with
  | .bl b => Q b
  | _ => False) E) := rfl
theorem eNotT_W (t : DTX) {env} {Q} {E} : eNotT t env Q E = (t env (fun b => Q (!b)) E) := rfl
theorem eAndT_W (t u : DTX) {env} {Q} {E} : eAndT t u env Q E = (t env (fun b => if b = true then u env Q E else Q false) E) := rfl
theorem eOrT_W (t u : DTX) {env} {Q} {E} : eOrT t u env Q E = (t env (fun b => if b = true then Q true else u env Q E) E) := rfl
theorem eTru_W (e : DX) {env} {Q} {E} : eTru e env Q E = (e env (fun d => dTru d Q) E) := rfl
theorem eAndV_W (a b : DX) {env} {Q} {E} : eAndV a b env Q E = (a env (fun d => eBool d fun c => if c = true then b env Q E else Q (.bl false)) E) := rfl
theorem eOrV_W (a b : DX) {env} {Q} {E} : eOrV a b env Q E = (a env (fun d => eBool d fun c => if c = true then Q (.bl true) else b env Q E) E) := rfl
theorem eNotV_W (a : DX) {env} {Q} {E} : eNotV a env Q E = (a env (fun d => eBool d fun c => Q (.bl (!c))) E) := rfl
theorem eNotVT_W (a : DX) {env} {Q} {E} : eNotVT a env Q E = (a env (fun d => dTru d fun c => Q (.bl (!c))) E) := rfl
theorem eIf_W (t : DTX) (a b : DX) {env} {Q} {E} : eIf t a b env Q E = (t env (fun c => if c = true then a env Q E else b env Q E) E) := rfl
theorem eChain_W (f g : D2) (a b c : DX) {env} {Q} {E} : eChain f g a b c env Q E = (a env (fun x => b env (fun y => f x y fun d => eBool d fun k => if k = true then c env (fun z => g y z Q) E else Q (.bl false)) E) E) := rfl
theorem eLc_W (src : DAX) (f : DGX) (tt : DTX) (te : DX) (vs : List Nat) {env} {Q} {E} : eLc src f tt te vs env Q E = (src env (fun ds => lcGo f tt te (wipeS env vs) Q ds []) E) := rfl
theorem eLc2_W (src : DAX) (f : DGX) (tt : DTX) (src1 : DAX) (f1 : DGX) (tt1 : DTX) (te : DX) (vs1 vs : List Nat) {env} {Q} {E} : eLc2 src f tt src1 f1 tt1 te vs1 vs env Q E = (src env (fun ds => lcGo2 f tt src1 f1 tt1 te vs1 (wipeS env vs) Q ds []) E) := rfl
theorem eYes_W {u0} {Q} {u2} : eYes u0 Q u2 = (Q true) := rfl
theorem eSeq_W (a : DX) {env} {Q} {E} : eSeq a env Q E = (a env (fun d => match d with
  | .lst xs => Q xs
  | .tup xs => Q xs
  | _ => False) E) := rfl
theorem eRng1_W (a : DAX) {env} {Q} {E} : eRng1 a env Q E = (a env (fun ds => match ds with
  | [.int j] => (-(2 ^ 62) ≤ j ∧ j < 2 ^ 62) ∧ Q ((List.range j.toNat).map fun i => .int (i : Nat))
  | _ => False) E) := rfl
theorem eRng2_W (a : DAX) {env} {Q} {E} : eRng2 a env Q E = (a env (fun ds => match ds with
  | [.int i, .int j] => (-(2 ^ 62) ≤ i ∧ i < 2 ^ 62 ∧ -(2 ^ 62) ≤ j ∧ j < 2 ^ 62) ∧ Q ((List.range (j - i).toNat).map fun k => .int (i + (k : Nat)))
  | _ => False) E) := rfl
theorem eEnum_W (a : DAX) {env} {Q} {E} : eEnum a env Q E = (a env (fun ds => match ds with
  | [.lst xs] => Q (xs.mapIdx fun i x => .tup [.int (i : Nat), x])
  | [.tup xs] => Q (xs.mapIdx fun i x => .tup [.int (i : Nat), x])
  | _ => False) E) := rfl
theorem eEnumK_W (k : Nat) (a : DAX) {env} {Q} {E} : eEnumK k a env Q E = (a env (fun ds => match ds with
  | [.tup xs] => Q (xs.mapIdx fun i x => .tup [.int ((k : Int) + (i : Nat)), x])
  | _ => False) E) := rfl
theorem eZip_W (a b : DX) {env} {Q} {E} : eZip a b env Q E = (a env (fun d1 => b env (fun d2 => match d1, d2 with
  | .lst xs, .lst ys => Q (List.zipWith (fun x y => .tup [x, y]) xs ys)
  | .tup xs, .lst ys => xs.length = ys.length ∧ Q (List.zipWith (fun x y => .tup [x, y]) xs ys)
  | .tup xs, .tup ys => xs.length = ys.length ∧ Q (List.zipWith (fun x y => .tup [x, y]) xs ys)
  | _, _ => False) E) E) := rfl
theorem eSl_W (f : D3) (a : DX) (lo hi : DOX) {env} {Q} {E} : eSl f a lo hi env Q E = (a env (fun d => lo env (fun l => hi env (fun u => f d l u Q) E) E) E) := rfl
theorem ePart_W (e : DX) {env} {Q} {E} : ePart e env Q E = (e env (fun d => match d with
  | .int i => Q (some i)
  | _ => False) E) := rfl
theorem eNoPart_W {u0} {Q} {u2} : eNoPart u0 Q u2 = (Q none) := rfl
theorem eRev_W (a : DX) {env} {Q} {E} : eRev a env Q E = (a env (fun d => match d with
  | .lst xs => Q (.lst xs.reverse)
  | .tup xs => Q (.tup xs.reverse)
  | _ => False) E) := rfl
theorem eRevL_W (a : DX) {env} {Q} {E} : eRevL a env Q E = (a env (fun d => match d with
  | .lst xs => Q (.lst xs.reverse)
  | _ => False) E) := rfl
theorem eDk0_W {u0} {Q} {u2} : eDk0 u0 Q u2 = (Q (.dk [] [])) := rfl
theorem eDk1_W (k v : Int) {u0} {Q} {u2} : eDk1 k v u0 Q u2 = (Q (.dk [.inl k] [.int v])) := rfl
theorem eXf_W (i : Nat) (c f : Str) {env} {Q} {u2} : eXf i c f env Q u2 = (match env[i]? with
  | some (.exc c' fs) => c' = c ∧ ∃ u, fs.lookup f = some u ∧ Q (Dt.ofV u)
  | _ => False) := rfl
theorem eIsX_W (i : Nat) (tab : Str → Option Bool) {env} {Q} {u2} : eIsX i tab env Q u2 = (match env[i]? with
  | some (.exc c fs) => ∃ b, tab c = some b ∧ Q (.bl b)
  | _ => False) := rfl
theorem dIsN_W {a} {b} {Q} : dIsN a b Q = (match b with
  | .non => Q (.bl a.isN)
  | _ => False) := rfl
theorem dNotN_W {a} {b} {Q} : dNotN a b Q = (match b with
  | .non => Q (.bl (!a.isN))
  | _ => False) := rfl
theorem dIx_W {a} {b} {Q} : dIx a b Q = (match a, b with
  | .lst xs, .int k => ∃ x, atI xs k = some x ∧ Q x
  | .tup xs, .int k => ∃ x, atI xs k = some x ∧ Q x
  | .str z, .int k => z.length ≤ LINE ∧ ∃ c, atI z.cps.toList k = some c ∧ Q (.str ⟨#[c]⟩)
  | _, _ => False) := rfl
theorem dSl_W {a} {lo} {hi} {Q} : dSl a lo hi Q = (match a with
  | .lst xs => Q (.lst (cutG xs lo hi))
  | .tup xs => Q (.tup (cutG xs lo hi))
  | .str z => z.length ≤ LINE ∧ Q (.str (cutS z lo hi))
  | _ => False) := rfl
theorem dSlL_W {a} {lo} {hi} {Q} : dSlL a lo hi Q = (match a with
  | .lst xs => Q (.lst (cutG xs lo hi))
  | _ => False) := rfl
theorem dLen_W {ds} {Q} : dLen ds Q = (match ds with
  | [.lst xs] => Q (.int xs.length)
  | [.tup xs] => Q (.int xs.length)
  | [.str z] => z.length ≤ LINE ∧ Q (.int z.length)
  | [.dk ks _] => Q (.int ks.length)
  | _ => False) := rfl
theorem dInt_W {ds} {Q} : dInt ds Q = (match ds with
  | [.int i] => Q (.int i)
  | [.bl k] => Q (.int (if k then 1 else 0))
  | [.str z] => z.length ≤ 640 ∧ ∃ n, PySem.intText? z = some n ∧ Q (.int n)
  | _ => False) := rfl
theorem dStr_W {ds} {Q} : dStr ds Q = (match ds with
  | [.int i] => i.natAbs.log2 < 1920 ∧ Q (.str (toString i))
  | _ => False) := rfl
theorem dAbs_W {ds} {Q} : dAbs ds Q = (match ds with
  | [.int i] => Q (.int (if i < 0 then -i else i))
  | _ => False) := rfl
theorem dMax2_W {ds} {Q} : dMax2 ds Q = (match ds with
  | [.int i, .int j] => Q (.int (if j > i then j else i))
  | _ => False) := rfl
theorem dMin2_W {ds} {Q} : dMin2 ds Q = (match ds with
  | [.int i, .int j] => Q (.int (if j < i then j else i))
  | _ => False) := rfl
theorem dTupOf_W {ds} {Q} : dTupOf ds Q = (match ds with
  | [.lst xs] => Q (.tup xs)
  | [.tup xs] => Q (.tup xs)
  | _ => False) := rfl
theorem dLstOf_W {ds} {Q} : dLstOf ds Q = (match ds with
  | [.lst xs] => Q (.lst xs)
  | [.tup xs] => Q (.lst xs)
  | _ => False) := rfl
theorem dIsi_W (T : String) {ds} {Q} : dIsi T ds Q = (match ds with
  | [x, .raw (.ty T')] => T' = T ∧ x.kind.isSome = true ∧ Q (.bl (x.isa T))
  | _ => False) := rfl
theorem dIsi2_W (T U : String) {ds} {Q} : dIsi2 T U ds Q = (match ds with
  | [x, .tup [.raw (.ty T'), .raw (.ty U')]] => T' = T ∧ U' = U ∧ x.kind.isSome = true ∧ Q (.bl (x.isa T || x.isa U))
  | _ => False) := rfl
theorem sTry_W (mt : Str → Str → Option Bool) (b : DSt) (hs : List (Str × Option Nat × DSt)) {d} {env} : sTry mt b hs d env = (b { d with xc := fun e x => dHs mt hs d e x } env) := rfl
theorem eStrs_W (a : DX) {env} {Q} {E} : eStrs a env Q E = (a env (fun d => match d with
  | .str z => Q (z.cps.toList.map fun c => .str ⟨#[c]⟩)
  | _ => False) E) := rfl
theorem eNil_W {δ : Type} {u0 : List Sl} {Q : List δ → Prop} {u2 : Xc → Prop} : (eNil (δ := δ)) u0 Q u2 = Q [] := rfl
theorem eBool_W {d : Dt} {Q : Bool → Prop} : eBool d Q = (match d with
  | .bl b => Q b
  | _ => False) := rfl
theorem frz_W {env : List Sl} {i : Nat} : frz env i = (match env[i]? with
  | some (.own w) => env.set i (.d w.fz)
  | _ => env) := rfl
theorem fz_lst {xs : List Dt} : (Ow.lst xs).fz = .lst xs := rfl
theorem fz_dk {ks : List Key} {xs : List Dt} : (Ow.dk ks xs).fz = .dk ks xs := rfl
theorem fz_dt {ks : List (List Key)} {xs : List Dt} : (Ow.dt ks xs).fz = .dt ks xs := rfl
theorem LINE_W : LINE = 16777216 := rfl
theorem take_W {m : Int} {Q : Dt → Prop} {E : Xc → Prop} : F_law_take [.hand, .d (.int m)] Q E = ((0 < m ∧ m < 1073741824) ∧ ∀ r : Nat, (r : Int) < m → Q (.int r)) := rfl
end Mine

namespace Mine
open PySem PySem.Spec PyProof.Rows L2
/-! ### instances of one's own classes: fields -/
/-- which attributes of which classes are plain -/
def FldOk (K : PySem.W.Frag) (tab : Str → Str → Bool) : Prop := ∀ C f, tab C f = true → Cls K (He.ga K C) ∧ NoAttr K (He.ga K C) f
theorem DenAll.look {K : PySem.W.Frag} {H : Hp} {f : Str} : ∀ {ns : List Str} {vs : List V} {ds : List Dt} {x : Dt}, DenAll K H vs ds → (ns.zip ds).lookup f = some x → ∃ v, (ns.zip vs).lookup f = some v ∧ Den K H v x
  | [], _, _, _, _, e => by simp at e
  | n :: ns, _, _, _, .nil, e => by simp at e
  | n :: ns, v :: vs, d :: ds, x, .cons a r, e => by
    rw [List.zip_cons_cons, List.lookup_cons] at e ⊢
    cases h : (f == n) with
    | true => rw [h] at e; cases e; exact ⟨v, rfl, a⟩
    | false => rw [h] at e; exact DenAll.look r e
theorem DenAll.lookN {K : PySem.W.Frag} {H : Hp} {f : Str} : ∀ {ns : List Str} {vs : List V} {ds : List Dt}, DenAll K H vs ds → (ns.zip ds).lookup f = none → (ns.zip vs).lookup f = none
  | [], _, _, _, _ => by simp
  | n :: ns, _, _, .nil, e => by simp
  | n :: ns, v :: vs, d :: ds, .cons a r, e => by
    rw [List.zip_cons_cons, List.lookup_cons] at e ⊢
    cases h : (f == n) with
    | true => rw [h] at e; cases e
    | false => rw [h] at e; exact DenAll.lookN r e
def eFld (tab : Str → Str → Bool) (f : Str) (a : DX) : DX := fun env Q E => a env (fun d => match d with
  | .ins C ns ds => tab C f = true ∧ ∃ x, (ns.zip ds).lookup f = some x ∧ Q x
  | _ => False) E
/-- self.f while self is made -/
def eFldS (tab : Str → Str → Bool) (f : Str) (i : Nat) : DX := fun env Q _ => match env[i]? with
  | some (.ins C ns ds) => tab C f = true ∧ ∃ x, (ns.zip ds).lookup f = some x ∧ Q x
  | _ => False
/-- self.f = e: a new field, or an old one anew -/
def putNs (f : Str) : List Str → List Str
  | [] => [f]
  | n :: ns => if n = f then n :: ns else n :: putNs f ns
def putDs (f : Str) (y : Dt) : List Str → List Dt → List Dt
  | n :: ns, d :: ds => if n = f then y :: ds else d :: putDs f y ns ds
  | _, _ => [y]
def sSetF (tab : Str → Str → Bool) (f : Str) (i : Nat) (e : DX) : DSt := fun d env => match env[i]? with
  | some (.ins C ns ds) => e env (fun y => tab C f = true ∧ i = 0 ∧ ns.length < 900 ∧ d.nx (env.set i (.ins C (putNs f ns) (putDs f y ns ds)))) (d.xc env)
  | _ => False
theorem putF_zip {K : PySem.W.Frag} {H : Hp} {f : Str} {v : V} {y : Dt} (hv : Den K H v y) : ∀ {ns : List Str} {vs : List V} {ds : List Dt}, ns.length = vs.length → DenAll K H vs ds →
    ∃ vs', putF f v (ns.zip vs) = (putNs f ns).zip vs' ∧ (putNs f ns).length = vs'.length ∧ DenAll K H vs' (putDs f y ns ds)
  | [], [], _, _, .nil => ⟨[v], rfl, rfl, .cons hv .nil⟩
  | n :: ns, u :: vs, d :: ds, l, .cons a r => by
    by_cases c : n = f
    · subst c
      refine ⟨v :: vs, ?_, ?_, ?_⟩
      · show (if n = n then _ else _) = (if n = n then _ else _ : List Str).zip _
        rw [if_pos rfl, if_pos rfl]; rfl
      · show (if n = n then _ else _ : List Str).length = _
        rw [if_pos rfl]; exact l
      · show DenAll K H _ (if n = n then _ else _)
        rw [if_pos rfl]; exact .cons hv r
    · obtain ⟨vs', h1, h2, h3⟩ := putF_zip (f := f) hv (ns := ns) (by simpa using l) r
      refine ⟨u :: vs', ?_, ?_, ?_⟩
      · show (if n = f then _ else _) = (if n = f then _ else _ : List Str).zip _
        rw [if_neg c, if_neg c]; exact congrArg ((n, u) :: ·) h1
      · show (if n = f then _ else _ : List Str).length = _
        rw [if_neg c, List.length_cons, List.length_cons, h2]
      · show DenAll K H _ (if n = f then _ else _)
        rw [if_neg c]; exact .cons a h3
section
variable {C : Bc} {X : Addr → Prop} {env : List Sl} {σ : L2.St} {H : Hp} {te : TE} {ea e : DX} {f : Str} {tab : Str → Str → Bool}
theorem de_fld (ht : FldOk C.K tab) (he : DB C te ea) : DE C (tFld C.K te f) (eFld tab f ea) := by
  intro X env σ H Q Qd Qx rp h q x
  refine he X env σ H _ _ Qx rp h (fun d v H1 f1 r1 h1 => ?_) x
  split at h1
  · obtain ⟨h2, y, h3, h4⟩ := h1
    obtain ⟨c1, c2⟩ := ht _ _ h2
    obtain ⟨p, dx, vs, rfl, hp, hl, al⟩ := r1.ins
    obtain ⟨u, hu, du⟩ := al.look h3
    exact ⟨p, _, dx, _, u, rfl, hp, c1, c2, hu, q _ _ _ f1 du h4⟩
  · exact h1.elim
theorem de_fldS {i : Nat} (ht : FldOk C.K tab) : DE C (tFld C.K (tVar i) f) (eFldS tab f i) := by
  intro X env σ H Q Qd Qx rp h q x
  unfold eFldS at h
  split at h
  · rename_i C0 ns ds e
    obtain ⟨h2, y, h3, h4⟩ := h
    obtain ⟨c1, c2⟩ := ht _ _ h2
    obtain ⟨o, e1, p, dx, vs, rfl, x1, x2, hp, hl, al⟩ := rp.slot i _ e
    obtain ⟨u, hu, du⟩ := al.look h3
    exact ⟨_, e1, p, _, dx, _, u, rfl, hp, c1, c2, hu, q _ _ _ (.refl H) du h4⟩
  · exact h.elim
/-- self, changed -/
theorem Rep.selfSet {p dx : Addr} {C0 C1 : Str} {ns ns' : List Str} {ds ds' : List Dt} {vs' : List V} (r : Rep C X env σ H) (e : env[0]? = some (.ins C0 ns ds)) (es : σ[0]? = some (some (.ref p))) (x1 : X p) (x2 : ¬ C.X0 p)
    (hl : ns'.length = vs'.length) (hme : C.me = some p) (h2 : DenAll C.K (vis H X) vs' ds') :
    Rep C X (env.set 0 (.ins C1 ns' ds')) σ (upd H p (.ins (He.ga C.K C1) dx (ns'.zip vs'))) ∧ Same (vis H X) (vis (upd H p (.ins (He.ga C.K C1) dx (ns'.zip vs'))) X) := by
  obtain ⟨o0, es0, p0, dx0, vs0, ep0, _, _, hp0, _, _⟩ := r.slot 0 _ e
  rw [es] at es0; cases es0; cases ep0
  have sm : Same (vis H X) (vis (upd H p (.ins (He.ga C.K C1) dx (ns'.zip vs'))) X) := fun a o q => by
    obtain ⟨n1, e1⟩ := vis_of q
    exact vis_mk n1 (by rw [upd_ne (fun (z : a = p) => n1 (by rw [z]; exact x1))]; exact e1)
  have h0 : C.H0 p = none := (r.new p x1).resolve_left x2
  have fm : Frm C.hd C.H0 (upd H p (.ins (He.ga C.K C1) dx (ns'.zip vs'))) := by
    refine ⟨fun a u q k => ?_, fun h c q x => ?_⟩
    · rw [upd_ne (ne_of_none q h0)]; exact r.frm.1 a u q k
    · have y := r.frm.2 h c q x
      obtain ⟨_, _, _, _, a1, a2, _⟩ := x
      obtain ⟨cells, at_, big, mix, b1, b2, b3⟩ := y
      exact ⟨cells, at_, big, mix, by rw [upd_ne (ne_of_none a1 h0)]; exact b1, by rw [upd_ne (ne_of_none a2 h0)]; exact b2, b3⟩
  have hlen : 0 < env.length := (List.getElem?_eq_some_iff.mp e).1
  refine ⟨⟨by rw [List.length_set, r.len], r.sup, r.new, fun a z => ?_, fm, fun h c q => ⟨(r.hands h c q).1, (r.hands h c q).2.1, fm.2 h c q (r.hands h c q).2.1⟩, fun j s q => ?_, fun j k ys zs ne e1 e2 => ?_, r.one.set0⟩, sm⟩
  · by_cases c : a = p
    · subst c; exact ⟨_, upd_same⟩
    · obtain ⟨o, q⟩ := r.al a z
      exact ⟨o, by rw [upd_ne c]; exact q⟩
  · rw [List.getElem?_set] at q
    by_cases c : 0 = j
    · subst c
      rw [if_pos rfl, if_pos hlen] at q
      cases q
      exact ⟨_, es, p, dx, vs', rfl, x1, x2, upd_same, ⟨hl, hme⟩, h2.mono sm⟩
    · rw [if_neg c] at q
      obtain ⟨o, e1, w⟩ := r.slot j s q
      refine ⟨o, e1, ?_⟩
      cases s with
      | no => trivial
      | d x => obtain ⟨v, e2, h⟩ := w; exact ⟨v, e2, h.mono sm⟩
      | own ys =>
        obtain ⟨p', us, rfl, y1, y2, y3, y4⟩ := w
        have ne : p' ≠ p := fun z => by rw [z, hp0] at y3; cases y3; exact y4.noins
        exact ⟨p', us, rfl, y1, y2, by rw [upd_ne ne]; exact y3, y4.mono sm⟩
      | hand => exact w
      | exc c' fs => exact w.exc sm
      | ins C2 ns2 ds2 => exact absurd (r.one j ⟨C2, ns2, ds2, q⟩).symm c
  · rw [List.getElem?_set] at e1 e2
    have a : 0 ≠ j := fun c => by
      subst c
      rw [if_pos rfl, if_pos hlen] at e1; cases e1
    have b : 0 ≠ k := fun c => by
      subst c
      rw [if_pos rfl, if_pos hlen] at e2; cases e2
    rw [if_neg a] at e1
    rw [if_neg b] at e2
    exact r.inj j k ys zs ne e1 e2
theorem dst_setF {i : Nat} (ht : FldOk C.K tab) (he : DE C te e) : DS C (sFld C.K (tVar i) te f) (sSetF tab f i e) := by
  intro X env σ H D d r l h
  unfold sSetF at h
  split at h
  · rename_i C0 ns ds ei
    refine he X env σ H _ _ _ r h (fun y v H1 f1 r1 hy => ?_) (l.xok r)
    obtain ⟨h2, rfl, h3, h4⟩ := hy
    obtain ⟨c1, c2⟩ := ht _ _ h2
    have rp1 := r.step f1
    obtain ⟨o, e1, p, dx, vs, rfl, x1, x2, hp, ⟨hl, hme⟩, al⟩ := rp1.slot 0 _ ei
    obtain ⟨vs', k1, k2, k3⟩ := putF_zip (f := f) r1 hl al
    refine ⟨_, e1, p, _, dx, _, rfl, hp, c1, c2, by rw [List.length_zip]; omega, ?_⟩
    rw [k1]
    obtain ⟨r3, sm⟩ := rp1.selfSet (C1 := C0) (dx := dx) ei e1 x1 x2 k2 hme k3
    exact l.nx _ _ _ _ r3 ((r.vs f1).trans sm) h4
  · exact h.elim
end
end Mine

namespace Mine
open PySem PySem.Spec PyProof.Rows L2
/-! ### C(..): __init__ by data; what it wants is the instance -/
def spI (K : PySem.W.Frag) (cls : Str) (F : DFn) : Sp := fun vs H Q E => ∃ (x dx : Addr) (us : List V) (H1 : Hp) (X : Addr → Prop) (hd : Hnd) (args : List Sl) (Qd : Dt → Prop) (Qx : Xc → Prop),
  vs = .ref x :: us ∧ H1 x = none ∧ H1 dx = none ∧ dx ≠ x ∧ H = upd (upd H1 dx (.own x)) x (.ins (He.ga K cls) dx []) ∧ (∀ a, X a → ∃ o, H1 a = some o) ∧ (∀ h c, hd = some (h, c) → X h ∧ HandC H1 h c) ∧ SlAll K hd X H1 us args ∧ F args Qd Qx ∧
  (∀ d H', Frm hd H1 H' → Den K (vis H' X) (.ref x) d → Qd d → Q .non H') ∧ (∀ y cls' dx' H', Frm hd H1 H' → XRep K (vis H' X) cls' dx' y → Qx y → E cls' dx' H')
/-- np parameters with self, N names in all -/
def mkI (cls : Str) (np N : Nat) (s : DSt) : DFn := fun args Q E => args.length + 1 = np ∧ s ⟨fun (env : List Sl) => match env[0]? with
  | some (Sl.ins C ns ds) => Q (.ins C ns ds)
  | _ => False, fun _ => False, fun _ => False, fun _ => False, fun _ x => E x⟩ (.ins cls [] [] :: (args ++ List.replicate (N - np) .no))
def mkI0 (cls : Str) (np N : Nat) (s : DSt) : DFn := fun args Q E => args.length + 1 = np ∧ s ⟨fun (env : List Sl) => match env[0]? with
  | some (Sl.ins C ns ds) => Q (.ins C ns ds)
  | _ => False, fun _ => False, fun _ => False, fun _ => False, fun _ _ => False⟩ (.ins cls [] [] :: (args ++ List.replicate (N - np) .no))
section
variable {C : Bc} {F : DFn} {cls : Str} {dvs : List V} {dd : List Sl} {t : TA} {a : DSX}
theorem de_make {E : XK} (hE : C.E = fun _ => E) (hd : Dvs dvs dd) (ha : DAs C t a) : DE C (tMake (He.ga C.K cls) (spI C.K cls F) dvs E t) (eCall F dd a) := by
  intro X env σ H Q Qd Qx rp he q x
  refine ha X env σ H _ _ Qx rp he (fun ss vs H1 f1 r1 he1 => ?_) x
  intro p dx np nd ne
  have rp1 := rp.step f1
  refine ⟨p, dx, vs ++ dvs, H1, X, C.hd, ss ++ dd, Qd, Qx, rfl, np, nd, ne, rfl, rp1.al, fun h c e => ⟨rp1.hX h c e, (rp1.hands h c e).2.2⟩, SlAll.append r1 (hd C.K C.hd X H1), he1, fun d H' f den qd => ⟨rfl, q d _ H' (f1.trans f) den qd⟩, fun y cls' dx' H' f r z => ?_⟩
  have := x y cls' dx' H' (f1.trans f) r z
  rw [hE] at this
  exact this
theorem de_make0 (hd : Dvs dvs dd) (ha : DAs C t a) : DE C (tMake (He.ga C.K cls) (spI C.K cls F) dvs E0 t) (eCall0 F dd a) := by
  intro X env σ H Q Qd Qx rp he q x
  refine ha X env σ H _ _ Qx rp he (fun ss vs H1 f1 r1 he1 => ?_) x
  intro p dx np nd ne
  have rp1 := rp.step f1
  exact ⟨p, dx, vs ++ dvs, H1, X, C.hd, ss ++ dd, Qd, fun _ => False, rfl, np, nd, ne, rfl, rp1.al, fun h c e => ⟨rp1.hX h c e, (rp1.hands h c e).2.2⟩, SlAll.append r1 (hd C.K C.hd X H1), he1, fun d H' f den qd => ⟨rfl, q d _ H' (f1.trans f) den qd⟩, fun _ _ _ _ _ _ z => z.elim⟩
end
theorem spI_len {K : PySem.W.Frag} {F : DFn} {cls : Str} {np : Nat} (hF : ∀ args Q E, F args Q E → args.length + 1 = np) : ∀ vs H Q E, spI K cls F vs H Q E → vs.length = np := by
  rintro vs H Q E ⟨x, dx, us, H1, X, hd, args, Qd, Qx, rfl, _, _, _, _, _, _, sl, h, _⟩
  rw [List.length_cons, sl.length]; exact hF _ _ _ h
/-- where the body of __init__ begins -/
theorem rep_startI {K : PySem.W.Frag} {X : Addr → Prop} {hd : Hnd} {H1 : Hp} {E : L2.St → XK} {cls : Str} {x dx : Addr} {us : List V} {args : List Sl} {N : List Str} (np : H1 x = none) (nd : H1 dx = none) (ne : dx ≠ x) (al : ∀ a, X a → ∃ o, H1 a = some o) (hh : ∀ h c, hd = some (h, c) → X h ∧ HandC H1 h c) (sl : SlAll K hd X H1 us args) :
    Rep ⟨K, H1, X, hd, none, E, some x⟩ (fun a => X a ∨ a = x) (.ins cls [] [] :: (args ++ List.replicate (N.length - (args.length + 1)) .no)) (L2.start N (.ref x :: us)) (upd (upd H1 dx (.own x)) x (.ins (He.ga K cls) dx [])) := by
  have hl := sl.length
  have nX : ¬ X x := fun z => by obtain ⟨o, e⟩ := al x z; rw [np] at e; cases e
  have f : Frm hd H1 (upd (upd H1 dx (.own x)) x (.ins (He.ga K cls) dx [])) := (Frm.upd nd).trans (.upd (by rw [upd_ne (Ne.symm ne)]; exact np))
  have sm : Same (vis H1 X) (vis (upd (upd H1 dx (.own x)) x (.ins (He.ga K cls) dx [])) fun a => X a ∨ a = x) := fun a o e => by
    obtain ⟨n1, e1⟩ := vis_of e
    have a1 : a ≠ x := ne_of_none e1 np
    have a2 : a ≠ dx := ne_of_none e1 nd
    exact vis_mk (fun z => z.elim n1 a1) (by rw [upd_ne a1, upd_ne a2]; exact e1)
  have slots : ∀ {us : List V} {args : List Sl}, SlAll K hd X H1 us args → ∀ (i : Nat) (s : Sl), args[i]? = some s → (∃ o, (us.map some)[i]? = some o ∧ SlRep ⟨K, H1, X, hd, none, E, some x⟩ (fun a => X a ∨ a = x) (upd (upd H1 dx (.own x)) x (.ins (He.ga K cls) dx [])) s o) ∧ (∀ xs, s ≠ .own xs) ∧ ∀ C0 ns ds, s ≠ .ins C0 ns ds := by
    intro us args sl
    induction sl with
    | nil => intro i s e; simp at e
    | d a r ih =>
      intro i s e
      cases i with
      | zero => simp at e; subst e; exact ⟨⟨_, rfl, _, rfl, a.mono sm⟩, (fun _ z => by cases z), fun _ _ _ z => by cases z⟩
      | succ i =>
        obtain ⟨⟨o, q⟩, n⟩ := ih i s (by simpa using e)
        exact ⟨⟨o, by simpa using q⟩, n⟩
    | hand a r ih =>
      intro i s e
      cases i with
      | zero => simp at e; subst e; exact ⟨⟨_, rfl, _, _, rfl, a⟩, (fun _ z => by cases z), fun _ _ _ z => by cases z⟩
      | succ i =>
        obtain ⟨⟨o, q⟩, n⟩ := ih i s (by simpa using e)
        exact ⟨⟨o, by simpa using q⟩, n⟩
  have rest : ∀ (i : Nat) (s : Sl), (args ++ List.replicate (N.length - (args.length + 1)) Sl.no)[i]? = some s → (∀ xs, s ≠ .own xs) ∧ ∀ C0 ns ds, s ≠ .ins C0 ns ds := fun i s e => by
    rw [List.getElem?_append] at e
    split at e
    · exact (slots sl i s e).2
    · rw [List.getElem?_replicate] at e
      split at e
      · cases e; exact ⟨(fun _ z => by cases z), fun _ _ _ z => by cases z⟩
      · cases e
  refine ⟨?_, fun a z => .inl z, fun a z => ?_, fun a z => ?_, f, fun h c e => ⟨(hh h c e).1, (hh h c e).2, f.2 h c e (hh h c e).2⟩, fun i s e => ?_, fun i j xs ys n e1 e2 => ?_, fun i ⟨C0, ns, ds, e⟩ => ?_⟩
  · unfold L2.start
    simp [hl]
  · rcases z with z | rfl
    · exact .inl z
    · exact .inr np
  · rcases z with z | rfl
    · obtain ⟨o, e⟩ := al a z
      exact ⟨o, by rw [upd_ne (ne_of_none e np), upd_ne (ne_of_none e nd)]; exact e⟩
    · exact ⟨_, upd_same⟩
  · cases i with
    | zero =>
      simp at e
      subst e
      exact ⟨some (.ref x), rfl, x, dx, [], rfl, .inr rfl, nX, upd_same, ⟨rfl, rfl⟩, .nil⟩
    | succ i =>
      have e : (args ++ List.replicate (N.length - (args.length + 1)) Sl.no)[i]? = some s := e
      unfold L2.start
      rw [List.getElem?_append] at e
      rw [List.map_cons, List.cons_append, List.getElem?_cons_succ, List.getElem?_append, List.length_map, hl]
      split at e
      · rename_i c
        rw [if_pos c]
        exact (slots sl i s e).1
      · rename_i c
        rw [if_neg c]
        rw [List.getElem?_replicate] at e ⊢
        split at e
        · rename_i c2
          cases e
          rw [List.length_cons, hl, if_pos c2]
          exact ⟨_, rfl, trivial⟩
        · cases e
  · cases i with
    | zero => simp at e1
    | succ i => exact absurd rfl ((rest i _ e1).1 xs)
  · cases i with
    | zero => rfl
    | succ i => exact absurd rfl ((rest i _ e).2 C0 ns ds)
theorem body_ofI {K : PySem.W.Frag} {N : List Str} {np n : Nat} {cls : Str} {sb : DSt} {t : TS} {vs : List V} {H : Hp} {Q : VK} {E : XK} (hn : N.length = n) (h : spI K cls (mkI cls np n sb) vs H Q E)
    (hb : ∀ H X hd x, DS ⟨K, H, X, hd, none, fun _ => E, some x⟩ t sb) : t { nx := fun _ H' => Q .non H', rt := Q } (L2.start N vs) H := by
  obtain ⟨x, dx, us, H1, X, hd, args, Qd, Qx, rfl, np', nd, ne, rfl, al, hh, sl, ⟨ha, h⟩, q, xx⟩ := h
  have r := rep_startI (N := N) (cls := cls) (E := fun _ => E) np' nd ne al hh sl
  rw [ha, hn] at r
  refine hb H1 X hd x _ _ _ _ _ _ r ⟨fun X' env σ H' r' s' h' => ?_, fun _ _ _ _ _ _ _ _ _ (h' : False) => h'.elim, fun _ _ _ _ _ _ (h' : False) => h'.elim, fun _ _ _ _ _ _ (h' : False) => h'.elim, fun X' env σ H' z cls dx r' s' w h' => xx z cls dx H' r'.frm (w.mono (vis_anti r'.sup)) h'⟩ h
  have h' : (match env[0]? with
    | some (Sl.ins C ns ds) => Qd (.ins C ns ds)
    | _ => False) := h'
  split at h'
  · rename_i C0 ns ds e
    obtain ⟨o, e1, p, dx2, vs2, rfl, x1, x2, hp, ⟨hl, hm⟩, al2⟩ := r'.slot 0 _ e
    have hm : some x = some p := hm
    obtain rfl : x = p := by injection hm
    refine q _ H' r'.frm ?_ h'
    exact .ins (vis_mk x2 hp) hl (al2.mono (vis_anti r'.sup))
  · exact h'.elim
theorem body_ofI0 {K : PySem.W.Frag} {N : List Str} {np n : Nat} {cls : Str} {sb : DSt} {t : TS} {vs : List V} {H : Hp} {Q : VK} {E : XK} (hn : N.length = n) (h : spI K cls (mkI0 cls np n sb) vs H Q E)
    (hb : ∀ H X hd x, DS ⟨K, H, X, hd, none, fun _ _ _ _ => False, some x⟩ t sb) : t { nx := fun _ H' => Q .non H', rt := Q } (L2.start N vs) H := by
  obtain ⟨x, dx, us, H1, X, hd, args, Qd, Qx, rfl, np', nd, ne, rfl, al, hh, sl, ⟨ha, h⟩, q, xx⟩ := h
  have r := rep_startI (N := N) (cls := cls) (E := fun _ _ _ _ => False) np' nd ne al hh sl
  rw [ha, hn] at r
  refine hb H1 X hd x _ _ _ _ _ _ r ⟨fun X' env σ H' r' s' h' => ?_, fun _ _ _ _ _ _ _ _ _ (h' : False) => h'.elim, fun _ _ _ _ _ _ (h' : False) => h'.elim, fun _ _ _ _ _ _ (h' : False) => h'.elim, fun _ _ _ _ _ _ _ _ _ _ (h' : False) => h'.elim⟩ h
  have h' : (match env[0]? with
    | some (Sl.ins C ns ds) => Qd (.ins C ns ds)
    | _ => False) := h'
  split at h'
  · rename_i C0 ns ds e
    obtain ⟨o, e1, p, dx2, vs2, rfl, x1, x2, hp, ⟨hl, hm⟩, al2⟩ := r'.slot 0 _ e
    have hm : some x = some p := hm
    obtain rfl : x = p := by injection hm
    refine q _ H' r'.frm ?_ h'
    exact .ins (vis_mk x2 hp) hl (al2.mono (vis_anti r'.sup))
  · exact h'.elim
/-! ### o.m(..), o.p -/
def eMeth (c m : Str) (F : DFn) (dd : List Sl) (a : DX) (r : DSX) : DX := fun env Q E => a env (fun d => match d with
  | .ins c' ns ds => c' = c ∧ (ns.zip ds).lookup m = none ∧ r env (fun ss => F (.d (.ins c' ns ds) :: (ss ++ dd)) Q E) E
  | _ => False) E
def eMeth0 (c m : Str) (F : DFn) (dd : List Sl) (a : DX) (r : DSX) : DX := fun env Q E => a env (fun d => match d with
  | .ins c' ns ds => c' = c ∧ (ns.zip ds).lookup m = none ∧ r env (fun ss => F (.d (.ins c' ns ds) :: (ss ++ dd)) Q fun _ => False) E
  | _ => False) E
def eProp (c : Str) (F : DFn) (a : DX) : DX := fun env Q E => a env (fun d => match d with
  | .ins c' ns ds => c' = c ∧ F [.d (.ins c' ns ds)] Q fun _ => False
  | _ => False) E
def eAlt (a b : DX) : DX := fun env Q E => a env Q E ∨ b env Q E
section
variable {C : Bc} {F : DFn} {c m : Str} {dvs : List V} {dd : List Sl} {te : TE} {ea : DX} {t : TA} {a : DSX}
theorem de_meth {E : XK} (hE : C.E = fun _ => E) (hd : Dvs dvs dd) (ho : DE C te ea) (ha : DAs C t a) : DE C (tMeth (He.ga C.K c) m (spD C.K F) dvs E te t) (eMeth c m F dd ea a) := by
  intro X env σ H Q Qd Qx rp he q x
  refine ho X env σ H _ _ Qx rp he (fun d v H1 f1 r1 h1 => ?_) x
  split at h1
  · rename_i c' ns ds
    obtain ⟨rfl, h2, h3⟩ := h1
    have rp1 := rp.step f1
    have r1 : Den C.K (vis H1 X) v (.ins c' ns ds) := r1
    have r1' := r1
    cases r1 with
    | @ins p dx _ _ vs _ hp hl al =>
      refine ⟨p, dx, _, rfl, vis_sub _ _ hp, al.lookN h2, ?_⟩
      refine ha X env σ H1 _ _ Qx rp1 h3 (fun ss us H2 f2 r2 h4 => ?_) (x.step f1)
      exact spD_use (rp1.step f2) (.d (r1'.mono (rp1.vs f2)) (SlAll.append r2 (hd C.K C.hd X H2))) h4 (fun d v H' f h => q d v H' (f1.trans (f2.trans f)) h) fun y cls dx H' f r z => by
        have := x y cls dx H' (f1.trans (f2.trans f)) r z
        rw [hE] at this
        exact this
  · exact h1.elim
theorem de_meth0 (hd : Dvs dvs dd) (ho : DE C te ea) (ha : DAs C t a) : DE C (tMeth (He.ga C.K c) m (spD C.K F) dvs E0 te t) (eMeth0 c m F dd ea a) := by
  intro X env σ H Q Qd Qx rp he q x
  refine ho X env σ H _ _ Qx rp he (fun d v H1 f1 r1 h1 => ?_) x
  split at h1
  · rename_i c' ns ds
    obtain ⟨rfl, h2, h3⟩ := h1
    have rp1 := rp.step f1
    have r1 : Den C.K (vis H1 X) v (.ins c' ns ds) := r1
    have r1' := r1
    cases r1 with
    | @ins p dx _ _ vs _ hp hl al =>
      refine ⟨p, dx, _, rfl, vis_sub _ _ hp, al.lookN h2, ?_⟩
      refine ha X env σ H1 _ _ Qx rp1 h3 (fun ss us H2 f2 r2 h4 => ?_) (x.step f1)
      exact spD_use (rp1.step f2) (.d (r1'.mono (rp1.vs f2)) (SlAll.append r2 (hd C.K C.hd X H2))) h4 (fun d v H' f h => q d v H' (f1.trans (f2.trans f)) h) fun _ _ _ _ _ _ z => z.elim
  · exact h1.elim
theorem de_prop (ho : DE C te ea) : DE C (tProp (He.ga C.K c) (spD C.K F) [] E0 te) (eProp c F ea) := by
  intro X env σ H Q Qd Qx rp he q x
  refine ho X env σ H _ _ Qx rp he (fun d v H1 f1 r1 h1 => ?_) x
  split at h1
  · rename_i c' ns ds
    obtain ⟨rfl, h3⟩ := h1
    have rp1 := rp.step f1
    have r1 : Den C.K (vis H1 X) v (.ins c' ns ds) := r1
    have r1' := r1
    cases r1 with
    | @ins p dx _ _ vs _ hp hl al =>
      refine ⟨p, dx, _, rfl, vis_sub _ _ hp, ?_⟩
      exact spD_use rp1 (.d r1' .nil) h3 (fun d v H' f h => q d v H' (f1.trans f) h) fun _ _ _ _ _ _ z => z.elim
  · exact h1.elim
end
/-! ### isinstance(x, C), C a class of one's own -/
def eIsI (tab : Str → Option Bool) (a : DX) : DX := fun env Q E => a env (fun d => match d with
  | .ins c _ _ => ∃ b, tab c = some b ∧ Q (.bl b)
  | d => d.kind.isSome = true ∧ Q (.bl false)) E
/-- what of the text isinstance asks: instances of the classes in the table, and the built-in kinds -/
structure IsOk (K : PySem.W.Frag) (cn : Str) (tab : Str → Option Bool) : Prop where
  ins : ∀ c b, tab c = some b → PySem.W.kitOne K (.ref (He.ga K c)) (.ref (He.ga K cn)) = some b ∧ ∀ (H : Hp) (a dx : Addr) (fs : List (Str × V)), H a = some (.ins (He.ga K c) dx fs) → TyX K H (.ref a) (.ref (He.ga K c))
  kin : ∀ n, n ∈ ["NoneType", "bool", "int", "str", "tuple", "list", "dict"] → PySem.W.kitOne K (.type n) (.ref (He.ga K cn)) = some false
section
variable {C : Bc} {te : TE} {ea : DX} {cn : Str} {tab : Str → Option Bool}
theorem de_isI (hk : IsOk C.K cn tab) (he : DB C te ea) : DE C (tCB (rIsi C.K) (tCons te (tCons (tC (.ref (He.ga C.K cn))) tNil))) (eIsI tab ea) := by
  intro X env σ H Q Qd Qx rp h q x
  refine he X env σ H _ _ Qx rp h (fun d v H1 f1 r1 h1 => ?_) x
  show ∃ (x c : V) (t u : Value) (b : Bool), [v, .ref (He.ga C.K cn)] = [x, c] ∧ _
  split at h1
  · obtain ⟨b, hb, h2⟩ := h1
    obtain ⟨k1, k2⟩ := hk.ins _ _ hb
    obtain ⟨p, dx, vs, rfl, hp, hl, al⟩ := r1.ins
    exact ⟨_, _, _, _, b, rfl, .own _, k2 _ _ _ _ hp, k1, q _ _ _ f1 (.bl _) h2⟩
  · obtain ⟨hn, h2⟩ := h1
    obtain ⟨n, hn⟩ := Option.isSome_iff_exists.mp hn
    exact ⟨_, _, _, _, false, rfl, .own _, r1.tyx hn, hk.kin n (Dt.kind_mem hn), q _ _ _ f1 (.bl _) h2⟩
end
end Mine

namespace Mine
open PySem PySem.Spec PyProof.Rows L2
/-! ### the head's own hook: defs at any address, facts, one more Bool -/
def obsN (n : Nat) (fa : List He.Fa) (fn : List He5.DefA) (ex : PySem.W.Frag → Bool) (g : Addr → Option Obj) : He.AlD × Bool := (He5.obsAG n fa fn g, ex (He.frG g (He5.asA g n)))
def hookN (n : Nat) (fa : List He.Fa) (fn : List He5.DefA) (ex : PySem.W.Frag → Bool) : PySem.W.Hook where
  α := He.AlD × Bool
  obs := fun s => obsN n fa fn ex s.heap.get?
  val := fun _ => (He5.valA fn, true)
  says := fun _ h => ∃ K : PySem.W.Frag, K.In h ∧ He5.SaysA fa fn K ∧ ex K = true
  of := fun _ _ e => ⟨_, He.frG_in, congrArg (fun z : He.AlD × Bool => z.1) e, congrArg (fun z : He.AlD × Bool => z.2) e⟩
  keeps := fun _ _ _ ⟨K, hK, c⟩ k => ⟨K, PySem.W.Frag.In.keeps hK k, c⟩
theorem obsN_eq {n : Nat} {fa : List He.Fa} {fn : List He5.DefA} {ex : PySem.W.Frag → Bool} {g : Addr → Option Obj} {s : Shared} (h : ∀ a, g a = s.heap.get? a) : obsN n fa fn ex g = (hookN n fa fn ex).obs s := by
  have e : g = s.heap.get? := funext h
  rw [e] <;> rfl
/-! ### a property: its record, its getter -/
def gA (K : PySem.W.Frag) (C m : Str) : Addr := match PySem.W.recIn K (He.ma K (He.ga K C) m) "property" with
  | some (.ref g :: _) => g
  | _ => 0
def propB (C m : Str) (K : PySem.W.Frag) : Bool := He.eqO (PySem.W.findIn K (.ref (He.ga K C)) m) (some (some (.ref (He.ma K (He.ga K C) m)))) &&
  (He.eqO (PySem.W.specialIn K (.ref (He.ma K (He.ga K C) m)) "__get__") (some (some (.builtin "property.__get__"))) && (decide (PySem.W.takesIn K (.ref (He.ma K (He.ga K C) m)) = some true) && (match PySem.W.recIn K (He.ma K (He.ga K C) m) "property" with
    | some (.ref _ :: _) => true
    | _ => false)))
theorem propB_ok {K : PySem.W.Frag} {C m : Str} (h : propB C m K = true) : PropOf K (He.ga K C) m (He.ma K (He.ga K C) m) (gA K C m) := by
  obtain ⟨h1, h⟩ := He.ba h
  obtain ⟨h2, h⟩ := He.ba h
  obtain ⟨h3, h4⟩ := He.ba h
  refine ⟨He.eqO_ok h1, He.eqO_ok h2, of_decide_eq_true h3, ?_⟩
  unfold gA
  split at h4
  · rename_i g r e
    exact ⟨r, by rw [e]⟩
  · cases h4
end Mine

namespace Mine
open PySem PySem.Spec PyProof.Rows L2
/-! ### dicts: keys whole numbers and texts, or tuples of them -/
section
variable {κ : Type} [DecidableEq κ]
def valD : List κ → List Dt → κ → Option Dt
  | k :: ks, d :: ds, j => if k = j then some d else valD ks ds j
  | _, _, _ => none
def putKs : List κ → κ → List κ
  | [], j => [j]
  | k :: ks, j => if k = j then k :: ks else k :: putKs ks j
def putVs : List κ → List Dt → κ → Dt → List Dt
  | k :: ks, d :: ds, j, y => if k = j then y :: ds else d :: putVs ks ds j y
  | _, _, _, y => [y]
theorem DenAll.val {K : PySem.W.Frag} {H : Hp} {j : κ} : ∀ {ks : List κ} {vs : List V} {ds : List Dt}, ks.length = vs.length → DenAll K H vs ds →
    (valD ks ds j = none ∧ valV (ks.zip vs) j = none) ∨ ∃ d v, valD ks ds j = some d ∧ valV (ks.zip vs) j = some v ∧ Den K H v d
  | [], [], _, _, .nil => .inl ⟨rfl, rfl⟩
  | k :: ks, v :: vs, d :: ds, l, .cons a r => by
    rw [List.zip_cons_cons]
    unfold valD
    by_cases c : k = j
    · rw [if_pos c, valV_pos (p := (k, v)) c]
      exact .inr ⟨d, v, rfl, rfl, a⟩
    · rw [if_neg c, valV_neg (p := (k, v)) c]
      exact DenAll.val (by simpa using l) r
theorem putK_nil (j : κ) (v : V) : putK [] j v = [(j, v)] := rfl
theorem putK_pos {k j : κ} {u v : V} {r : List (κ × V)} (c : k = j) (nd : ∀ p ∈ r, p.1 ≠ j) : putK ((k, u) :: r) j v = (k, v) :: r := by
  unfold putK
  rw [if_pos (by simp [c]), List.map_cons]
  simp only [c, if_true]
  congr 1
  refine (List.map_congr_left fun p hp => ?_).trans (List.map_id r)
  rw [if_neg (nd p hp)]; rfl
theorem putK_neg {k j : κ} {u v : V} {r : List (κ × V)} (c : ¬ k = j) : putK ((k, u) :: r) j v = (k, u) :: putK r j v := by
  unfold putK
  rw [List.any_cons]
  simp only [c, decide_false, Bool.false_or, List.map_cons, if_false]
  split <;> rfl
/-- what stands in a dict of one's own: no key twice -/
theorem putF_K {K : PySem.W.Frag} {H : Hp} {j : κ} {v : V} {y : Dt} (hv : Den K H v y) : ∀ {ks : List κ} {vs : List V} {ds : List Dt}, ks.Nodup → ks.length = vs.length → DenAll K H vs ds →
    ∃ vs', putK (ks.zip vs) j v = (putKs ks j).zip vs' ∧ (putKs ks j).length = vs'.length ∧ DenAll K H vs' (putVs ks ds j y)
  | [], [], _, _, _, .nil => ⟨[v], rfl, rfl, .cons hv .nil⟩
  | k :: ks, u :: vs, d :: ds, nd, l, .cons a r => by
    have nd2 := List.nodup_cons.mp nd
    by_cases c : k = j
    · refine ⟨v :: vs, ?_, ?_, ?_⟩
      · unfold putKs
        rw [if_pos c, List.zip_cons_cons, List.zip_cons_cons]
        exact putK_pos c fun p hp z => nd2.1 (by rw [c, ← z]; exact (List.of_mem_zip hp).1)
      · unfold putKs; rw [if_pos c]; exact l
      · unfold putVs; rw [if_pos c]; exact .cons hv r
    · obtain ⟨vs', h1, h2, h3⟩ := putF_K (j := j) hv (ks := ks) nd2.2 (by simpa using l) r
      refine ⟨u :: vs', ?_, ?_, ?_⟩
      · unfold putKs
        rw [if_neg c, List.zip_cons_cons, putK_neg c, h1]; rfl
      · unfold putKs; rw [if_neg c, List.length_cons, List.length_cons, h2]
      · unfold putVs; rw [if_neg c]; exact .cons a h3
end
def keyOf : Dt → Option Key
  | .int i => some (.inl i)
  | .str x => some (.inr x)
  | _ => none
def keysOf : List Dt → Option (List Key)
  | [] => some []
  | d :: ds => match keyOf d, keysOf ds with
    | some k, some ks => some (k :: ks)
    | _, _ => none
theorem Den.key {K : PySem.W.Frag} {H : Hp} {v : V} {d : Dt} {k : Key} (h : Den K H v d) (e : keyOf d = some k) : v = kV k := by
  cases d <;> first
    | (injection e with e; subst e; exact h.flat rfl)
    | cases e
theorem DenAll.keys {K : PySem.W.Frag} {H : Hp} : ∀ {ds : List Dt} {vs : List V} {ks : List Key}, DenAll K H vs ds → keysOf ds = some ks → vs = ks.map kV
  | [], _, _, .nil, e => by cases e; rfl
  | d :: ds, _, ks, .cons a r, e => by
    unfold keysOf at e
    split at e
    · rename_i k ks' e1 e2
      cases e
      rw [List.map_cons, a.key e1, r.keys e2]
    · cases e
/-- a dict's thing at a key; a dict with a thing more -/
def Ow.get : Ow → Dt → Option (Option Dt)
  | .dk ks ds, y => (keyOf y).map fun k => valD ks ds k
  | .dt ks ds, .tup xs => (keysOf xs).map fun k => valD ks ds k
  | _, _ => none
def Ow.put : Ow → Dt → Dt → Option Ow
  | .dk ks ds, y, z => (keyOf y).map fun k => .dk (putKs ks k) (putVs ks ds k z)
  | .dt ks ds, .tup xs, z => (keysOf xs).map fun k => .dt (putKs ks k) (putVs ks ds k z)
  | _, _, _ => none
def Ow.keysN : Ow → Prop
  | .lst _ => True
  | .dk ks _ => ks.Nodup ∧ ks.length < LINE
  | .dt ks _ => ks.Nodup ∧ ks.length < LINE
/-- data that is a dict -/
def Dt.ow : Dt → Option Ow
  | .dk ks ds => some (.dk ks ds)
  | .dt ks ds => some (.dt ks ds)
  | _ => none
theorem DenO.get {K : PySem.W.Frag} {H H' : Hp} {p : Addr} {u : HO} {w : Ow} {v : V} {y : Dt} {r : Option Dt} (h : DenO K H' u w) (s : Same H' H) (e : H p = some u) (hy : Den K H' v y) (g : w.get y = some r) :
    IsD H p ∧ ((r = none ∧ DGet H p v none) ∨ ∃ d x, r = some d ∧ DGet H p v (some x) ∧ Den K H' x d) := by
  cases h with
  | lst a => cases g
  | @dk ks vs ds l a =>
    obtain ⟨k, e1, rfl⟩ := Option.map_eq_some_iff.mp g
    have ev := hy.key e1
    subst ev
    refine ⟨.inl ⟨_, .inl e⟩, ?_⟩
    rcases a.val (j := k) l with ⟨h1, h2⟩ | ⟨d, x, h1, h2, h3⟩
    · exact .inl ⟨h1, by rw [← h2]; exact .k e⟩
    · exact .inr ⟨d, x, h1, by rw [← h2]; exact .k e, h3⟩
  | @dt ks vs ds l a =>
    cases y with
    | tup xs =>
      obtain ⟨k, e1, rfl⟩ := Option.map_eq_some_iff.mp g
      cases hy with
      | tup hb ax =>
        have ev := ax.keys e1
        subst ev
        refine ⟨.inr ⟨_, .inl e⟩, ?_⟩
        rcases a.val (j := k) l with ⟨h1, h2⟩ | ⟨d, x, h1, h2, h3⟩
        · exact .inl ⟨h1, by rw [← h2]; exact .t e (s _ _ hb)⟩
        · exact .inr ⟨d, x, h1, by rw [← h2]; exact .t e (s _ _ hb), h3⟩
    | _ => cases g
theorem DenO.put {K : PySem.W.Frag} {H H' : Hp} {p : Addr} {u : HO} {w w' : Ow} {v x : V} {y z : Dt} (h : DenO K H' u w) (s : Same H' H) (e : H p = some u) (hy : Den K H' v y) (hz : Den K H' x z) (hn : w.keysN) (g : w.put y z = some w') :
    ∃ u', DPut H p v x (upd H p u') ∧ DenO K H' u' w' := by
  cases h with
  | lst a => cases g
  | @dk ks vs ds l a =>
    obtain ⟨k, e1, rfl⟩ := Option.map_eq_some_iff.mp g
    have ev := hy.key e1
    subst ev
    obtain ⟨vs', h1, h2, h3⟩ := putF_K (j := k) hz hn.1 l a
    refine ⟨_, .k e (by rw [List.length_zip, sizeLine_eq]; exact Nat.lt_of_le_of_lt (Nat.min_le_left _ _) hn.2), ?_⟩
    rw [h1]; exact .dk h2 h3
  | @dt ks vs ds l a =>
    cases y with
    | tup xs =>
      obtain ⟨k, e1, rfl⟩ := Option.map_eq_some_iff.mp g
      cases hy with
      | tup hb ax =>
        have ev := ax.keys e1
        subst ev
        obtain ⟨vs', h1, h2, h3⟩ := putF_K (j := k) hz hn.1 l a
        refine ⟨_, .t e (s _ _ hb) (by rw [List.length_zip, sizeLine_eq]; exact Nat.lt_of_le_of_lt (Nat.min_le_left _ _) hn.2), ?_⟩
        rw [h1]; exact .dt h2 h3
    | _ => cases g
end Mine

namespace Mine
open PySem PySem.Spec PyProof.Rows L2
theorem units1 {k : Nat} {A : Around} (hr : Room k A) : A.units + 1 < cLine := by have := hr.units; omega
/-! ### dicts that are read -/
def BorD : RR := fun C X _ H v d => ∃ w p u, d.ow = some w ∧ v = .ref p ∧ (∀ h c, C.hd = some (h, c) → p ≠ h) ∧ H p = some u ∧ DenO C.K (vis H X) u w
theorem Dt.ow_fz {w : Ow} (h : w.fz.ow.isSome = true) : w.fz.ow = some w := by cases w <;> first | rfl | cases h
theorem Ow.isD {K : PySem.W.Frag} {H H' : Hp} {d : Dt} {w : Ow} {u : HO} {p : Addr} (e : d.ow = some w) (h : DenO K H' u w) (h1 : H p = some u) : IsD H p := by
  cases h with
  | lst a => cases d <;> cases e
  | dk l a => exact .inl ⟨_, .inl h1⟩
  | dt l a => exact .inr ⟨_, .inl h1⟩
/-- a dict by its name, one's own or not -/
def eVarD (i : Nat) : DX := fun env Q _ => match env[i]? with
  | some (.d x) => x.ow.isSome = true ∧ Q x
  | some (.own w) => w.fz.ow.isSome = true ∧ Q w.fz
  | _ => False
/-- any dict -/
def eDic (a : DX) : DX := fun env Q E => a env (fun x => x.ow.isSome = true ∧ Q x) E
def eGet1 (ed ek : DX) : DX := fun env Q E => ed env (fun d => ek env (fun k => ∃ w r, d.ow = some w ∧ w.get k = some r ∧ Q (r.getD .non)) E) E
def eGet2 (ed ek ez : DX) : DX := fun env Q E => ed env (fun d => ek env (fun k => ez env (fun z => ∃ w r, d.ow = some w ∧ w.get k = some r ∧ Q (r.getD z)) E) E) E
def eAtD (ed ek : DX) : DX := fun env Q E => ed env (fun d => ek env (fun k => ∃ w r, d.ow = some w ∧ w.get k = some (some r) ∧ Q r) E) E
def eInD (ek ed : DX) : DX := fun env Q E => ek env (fun k => ed env (fun d => ∃ w r, d.ow = some w ∧ w.get k = some r ∧ Q (.bl r.isSome)) E) E
def eNotInD (ek ed : DX) : DX := fun env Q E => ek env (fun k => ed env (fun d => ∃ w r, d.ow = some w ∧ w.get k = some r ∧ Q (.bl (!r.isSome))) E) E
/-- x = {} -/
def sOwnD (j : Nat) (t : Bool) : DSt := fun d env => d.nx (env.set j (.own (if t = true then .dt [] [] else .dk [] [])))
/-- x[k] = e -/
def sPutD (i : Nat) (ek e : DX) : DSt := fun d env => match env[i]? with
  | some (.own w) => e env (fun y => ek env (fun k => w.keysN ∧ ∃ w', w.put k y = some w' ∧ d.nx (env.set i (.own w'))) (d.xc env)) (d.xc env)
  | _ => False
theorem Den.ow {C : Bc} {X : Addr → Prop} {env : List Sl} {σ : L2.St} {H H1 : Hp} {v : V} {x : Dt} (rp : Rep C X env σ H) (h : Den C.K (vis H X) v x) (e : x.ow.isSome = true) : BorD C X H1 H v x := by
  cases h with
  | dk h l a => exact ⟨_, _, _, rfl, rfl, fun y c q z => (vis_of h).1 (z ▸ rp.hX y c q), vis_sub _ _ h, .dk l a⟩
  | dt h l a => exact ⟨_, _, _, rfl, rfl, fun y c q z => (vis_of h).1 (z ▸ rp.hX y c q), vis_sub _ _ h, .dt l a⟩
  | _ => cases e
section
variable {C : Bc} {td ty tx : TE} {ed ek ez : DX}
theorem dd_var (i : Nat) : DEg BorD C (tVar i) (eVarD i) := by
  intro X env σ H Q Qd Qx rp he q x
  unfold eVarD at he
  split at he
  · rename_i y e
    obtain ⟨h0, he⟩ := he
    obtain ⟨v, e1, h⟩ := rp.at e
    exact ⟨v, e1, q _ v H (.refl H) (h.ow rp h0) he⟩
  · rename_i w e
    obtain ⟨h0, he⟩ := he
    obtain ⟨p, u, es, x1, x2, h1, h2⟩ := rp.ownAtO e
    exact ⟨_, es, q _ _ H (.refl H) ⟨w, p, u, Dt.ow_fz h0, rfl, rp.nh x2, h1, h2⟩ he⟩
  · exact he.elim
theorem dd_of {t : TE} {e : DX} (h : DE C t e) : DEg BorD C t (eDic e) := fun X env σ H Q Qd Qx rp he q x =>
  h X env σ H _ _ Qx rp he (fun d v H1 f1 r1 h1 => q d v H1 f1 (Den.ow (rp.step f1) r1 h1.1) h1.2) x
theorem de_get1 (hd : DEg BorD C td ed) (hk : DE C ty ek) : DE C (tDGet1 td ty) (eGet1 ed ek) := by
  intro X env σ H Q Qd Qx rp he q x
  refine hd X env σ H _ _ Qx rp he (fun d v H1 f1 ⟨w, p, u, e1, ev, n, h1, h2⟩ he1 => ?_) x
  refine ⟨p, ev, Ow.isD e1 h2 h1, ?_⟩
  refine hk X env σ H1 _ _ Qx (rp.step f1) he1 (fun k y H2 f2 r2 he2 => ?_) (x.step f1)
  obtain ⟨w', r, e2, g, he2⟩ := he2
  rw [e1] at e2; cases e2
  have h3 := f2.1 p _ h1 n
  have h4 := h2.mono ((rp.step f1).vs f2)
  rcases (h4.get vis_sub h3 r2 g).2 with ⟨rfl, dg⟩ | ⟨d', x', rfl, dg, den⟩
  · exact ⟨none, dg, q _ _ H2 (f1.trans f2) .non he2⟩
  · exact ⟨some x', dg, q _ _ H2 (f1.trans f2) den he2⟩
theorem de_get2 (hd : DEg BorD C td ed) (hk : DE C ty ek) (hz : DE C tx ez) : DE C (tDGet2 td ty tx) (eGet2 ed ek ez) := by
  intro X env σ H Q Qd Qx rp he q x
  refine hd X env σ H _ _ Qx rp he (fun d v H1 f1 ⟨w, p, u, e1, ev, n, h1, h2⟩ he1 => ?_) x
  refine ⟨p, ev, Ow.isD e1 h2 h1, ?_⟩
  refine hk X env σ H1 _ _ Qx (rp.step f1) he1 (fun k y H2 f2 r2 he2 => ?_) (x.step f1)
  refine hz X env σ H2 _ _ Qx ((rp.step f1).step f2) he2 (fun z zv H3 f3 r3 he3 => ?_) ((x.step f1).step f2)
  obtain ⟨w', r, e2, g, he3⟩ := he3
  rw [e1] at e2; cases e2
  have h3 := f3.1 p _ (f2.1 p _ h1 n) n
  have h4 := (h2.mono ((rp.step f1).vs f2)).mono (((rp.step f1).step f2).vs f3)
  have r4 : Den C.K (vis H3 X) y k := Den.mono (((rp.step f1).step f2).vs f3) r2
  rcases (h4.get vis_sub h3 r4 g).2 with ⟨rfl, dg⟩ | ⟨d', x', rfl, dg, den⟩
  · exact ⟨none, dg, q _ _ H3 (f1.trans (f2.trans f3)) r3 he3⟩
  · exact ⟨some x', dg, q _ _ H3 (f1.trans (f2.trans f3)) den he3⟩
theorem de_atD (hd : DEg BorD C td ed) (hk : DE C ty ek) : DE C (tDGet td ty) (eAtD ed ek) := by
  intro X env σ H Q Qd Qx rp he q x
  refine hd X env σ H _ _ Qx rp he (fun d v H1 f1 ⟨w, p, u, e1, ev, n, h1, h2⟩ he1 => ?_) x
  refine hk X env σ H1 _ _ Qx (rp.step f1) he1 (fun k y H2 f2 r2 he2 => ?_) (x.step f1)
  obtain ⟨w', r, e2, g, he2⟩ := he2
  rw [e1] at e2; cases e2
  have h3 := f2.1 p _ h1 n
  have h4 := h2.mono ((rp.step f1).vs f2)
  rcases (h4.get vis_sub h3 r2 g).2 with ⟨c, _⟩ | ⟨d', x', c, dg, den⟩
  · cases c
  · cases c; exact ⟨p, x', ev, dg, q _ _ H2 (f1.trans f2) den he2⟩
theorem de_inD (hk : DE C ty ek) (hd : DEg BorD C td ed) : DE C (tDIn ty td) (eInD ek ed) := by
  intro X env σ H Q Qd Qx rp he q x
  refine hk X env σ H _ _ Qx rp he (fun k y H1 f1 r1 he1 => ?_) x
  refine hd X env σ H1 _ _ Qx (rp.step f1) he1 (fun d v H2 f2 ⟨w, p, u, e1, ev, n, h1, h2⟩ he2 => ?_) (x.step f1)
  obtain ⟨w', r, e2, g, he2⟩ := he2
  rw [e1] at e2; cases e2
  have r2 : Den C.K (vis H2 X) y k := Den.mono ((rp.step f1).vs f2) r1
  rcases (h2.get vis_sub h1 r2 g).2 with ⟨rfl, dg⟩ | ⟨d', x', rfl, dg, den⟩
  · exact ⟨p, none, ev, dg, q _ _ H2 (f1.trans f2) (.bl _) he2⟩
  · exact ⟨p, some x', ev, dg, q _ _ H2 (f1.trans f2) (.bl _) he2⟩
theorem de_notInD (hk : DE C ty ek) (hd : DEg BorD C td ed) : DE C (tDNotIn ty td) (eNotInD ek ed) := by
  intro X env σ H Q Qd Qx rp he q x
  refine hk X env σ H _ _ Qx rp he (fun k y H1 f1 r1 he1 => ?_) x
  refine hd X env σ H1 _ _ Qx (rp.step f1) he1 (fun d v H2 f2 ⟨w, p, u, e1, ev, n, h1, h2⟩ he2 => ?_) (x.step f1)
  obtain ⟨w', r, e2, g, he2⟩ := he2
  rw [e1] at e2; cases e2
  have r2 : Den C.K (vis H2 X) y k := Den.mono ((rp.step f1).vs f2) r1
  rcases (h2.get vis_sub h1 r2 g).2 with ⟨rfl, dg⟩ | ⟨d', x', rfl, dg, den⟩
  · exact ⟨p, none, ev, dg, q _ _ H2 (f1.trans f2) (.bl _) he2⟩
  · exact ⟨p, some x', ev, dg, q _ _ H2 (f1.trans f2) (.bl _) he2⟩
theorem dst_ownK {j : Nat} : DS C (tAsg tDNewK (gName j)) (sOwnD j false) := by
  intro X env σ H D d r l h p n
  refine l.nx _ _ _ _ (r.setOwn (.upd n) n j upd_same (.dk (ks := []) (vs := []) rfl .nil)) (fun a o q => ?_) h
  obtain ⟨n1, e1⟩ := vis_of q
  exact vis_mk (fun z => z.elim n1 (ne_of_none e1 n)) (by rw [upd_ne (ne_of_none e1 n)]; exact e1)
theorem dst_ownT {j : Nat} : DS C (tAsg tDNewT (gName j)) (sOwnD j true) := by
  intro X env σ H D d r l h p n
  refine l.nx _ _ _ _ (r.setOwn (.upd n) n j upd_same (.dt (ks := []) (vs := []) rfl .nil)) (fun a o q => ?_) h
  obtain ⟨n1, e1⟩ := vis_of q
  exact vis_mk (fun z => z.elim n1 (ne_of_none e1 n)) (by rw [upd_ne (ne_of_none e1 n)]; exact e1)
theorem dst_putD {i : Nat} (he : DE C tx ez) (hk : DE C ty ek) : DS C (sDPut (tVar i) ty tx) (sPutD i ek ez) := by
  intro X env σ H D d r l h
  unfold sPutD at h
  split at h
  · rename_i w ei
    refine he X env σ H _ _ _ r h (fun y v H1 f1 r1 hy => ?_) (l.xok r)
    obtain ⟨p, u, es, x1, x2, h1, h2⟩ := (r.step f1).ownAtO ei
    refine ⟨_, es, ?_⟩
    refine hk X env σ H1 _ _ _ (r.step f1) hy (fun k kv H2 f2 r2 hk2 => ?_) ((l.xok r).step f1)
    obtain ⟨kn, w', g, hn⟩ := hk2
    have rp2 := (r.step f1).step f2
    have h3 := f2.1 p _ h1 (r.nh x2)
    have h4 := h2.mono ((r.step f1).vs f2)
    obtain ⟨u', dp, dn⟩ := h4.put vis_sub h3 r2 (Den.mono ((r.step f1).vs f2) r1) kn g
    obtain ⟨r3, sm⟩ := rp2.own ei es x1 x2 dn
    exact ⟨p, _, rfl, dp, l.nx _ _ _ _ r3 ((r.vs f1).trans (((r.step f1).vs f2).trans sm)) hn⟩
  · exact h.elim
end
end Mine

namespace Mine
open PySem PySem.Spec PyProof.Rows L2
theorem mkI_W (cls : Str) (np N : Nat) (s : DSt) {args} {Q} {E} : mkI cls np N s args Q E = (args.length + 1 = np ∧ s ⟨fun (env : List Sl) => match env[0]? with
  | some (Sl.ins C ns ds) => Q (.ins C ns ds)
  | _ => False, fun _ => False, fun _ => False, fun _ => False, fun _ x => E x⟩ (.ins cls [] [] :: (args ++ List.replicate (N - np) .no))) := rfl
theorem mkI0_W (cls : Str) (np N : Nat) (s : DSt) {args} {Q} {E} : mkI0 cls np N s args Q E = (args.length + 1 = np ∧ s ⟨fun (env : List Sl) => match env[0]? with
  | some (Sl.ins C ns ds) => Q (.ins C ns ds)
  | _ => False, fun _ => False, fun _ => False, fun _ => False, fun _ _ => False⟩ (.ins cls [] [] :: (args ++ List.replicate (N - np) .no))) := rfl
theorem eFld_W (tab : Str → Str → Bool) (f : Str) (a : DX) {env} {Q} {E} : eFld tab f a env Q E = (a env (fun d => match d with
  | .ins C ns ds => tab C f = true ∧ ∃ x, (ns.zip ds).lookup f = some x ∧ Q x
  | _ => False) E) := rfl
theorem eFldS_W (tab : Str → Str → Bool) (f : Str) (i : Nat) {env} {Q} {u2} : eFldS tab f i env Q u2 = (match env[i]? with
  | some (.ins C ns ds) => tab C f = true ∧ ∃ x, (ns.zip ds).lookup f = some x ∧ Q x
  | _ => False) := rfl
theorem sSetF_W (tab : Str → Str → Bool) (f : Str) (i : Nat) (e : DX) {d} {env} : sSetF tab f i e d env = (match env[i]? with
  | some (.ins C ns ds) => e env (fun y => tab C f = true ∧ i = 0 ∧ ns.length < 900 ∧ d.nx (env.set i (.ins C (putNs f ns) (putDs f y ns ds)))) (d.xc env)
  | _ => False) := rfl
theorem eMeth_W (c m : Str) (F : DFn) (dd : List Sl) (a : DX) (r : DSX) {env} {Q} {E} : eMeth c m F dd a r env Q E = (a env (fun d => match d with
  | .ins c' ns ds => c' = c ∧ (ns.zip ds).lookup m = none ∧ r env (fun ss => F (.d (.ins c' ns ds) :: (ss ++ dd)) Q E) E
  | _ => False) E) := rfl
theorem eMeth0_W (c m : Str) (F : DFn) (dd : List Sl) (a : DX) (r : DSX) {env} {Q} {E} : eMeth0 c m F dd a r env Q E = (a env (fun d => match d with
  | .ins c' ns ds => c' = c ∧ (ns.zip ds).lookup m = none ∧ r env (fun ss => F (.d (.ins c' ns ds) :: (ss ++ dd)) Q fun _ => False) E
  | _ => False) E) := rfl
theorem eProp_W (c : Str) (F : DFn) (a : DX) {env} {Q} {E} : eProp c F a env Q E = (a env (fun d => match d with
  | .ins c' ns ds => c' = c ∧ F [.d (.ins c' ns ds)] Q fun _ => False
  | _ => False) E) := rfl
theorem eVarD_W (i : Nat) {env} {Q} {u2} : eVarD i env Q u2 = (match env[i]? with
  | some (.d x) => x.ow.isSome = true ∧ Q x
  | some (.own w) => w.fz.ow.isSome = true ∧ Q w.fz
  | _ => False) := rfl
theorem eDic_W (a : DX) {env} {Q} {E} : eDic a env Q E = (a env (fun x => x.ow.isSome = true ∧ Q x) E) := rfl
theorem eGet1_W (ed ek : DX) {env} {Q} {E} : eGet1 ed ek env Q E = (ed env (fun d => ek env (fun k => ∃ w r, d.ow = some w ∧ w.get k = some r ∧ Q (r.getD .non)) E) E) := rfl
theorem eGet2_W (ed ek ez : DX) {env} {Q} {E} : eGet2 ed ek ez env Q E = (ed env (fun d => ek env (fun k => ez env (fun z => ∃ w r, d.ow = some w ∧ w.get k = some r ∧ Q (r.getD z)) E) E) E) := rfl
theorem eAtD_W (ed ek : DX) {env} {Q} {E} : eAtD ed ek env Q E = (ed env (fun d => ek env (fun k => ∃ w r, d.ow = some w ∧ w.get k = some (some r) ∧ Q r) E) E) := rfl
theorem eInD_W (ek ed : DX) {env} {Q} {E} : eInD ek ed env Q E = (ek env (fun k => ed env (fun d => ∃ w r, d.ow = some w ∧ w.get k = some r ∧ Q (.bl r.isSome)) E) E) := rfl
theorem eNotInD_W (ek ed : DX) {env} {Q} {E} : eNotInD ek ed env Q E = (ek env (fun k => ed env (fun d => ∃ w r, d.ow = some w ∧ w.get k = some r ∧ Q (.bl (!r.isSome))) E) E) := rfl
theorem sOwnD_W (j : Nat) (t : Bool) {d} {env} : sOwnD j t d env = (d.nx (env.set j (.own (if t = true then .dt [] [] else .dk [] [])))) := rfl
theorem sPutD_W (i : Nat) (ek e : DX) {d} {env} : sPutD i ek e d env = (match env[i]? with
  | some (.own w) => e env (fun y => ek env (fun k => w.keysN ∧ ∃ w', w.put k y = some w' ∧ d.nx (env.set i (.own w'))) (d.xc env)) (d.xc env)
  | _ => False) := rfl
theorem eIsI_W (tab : Str → Option Bool) (a : DX) {env} {Q} {E} : eIsI tab a env Q E = (a env (fun d => match d with
  | .ins c _ _ => ∃ b, tab c = some b ∧ Q (.bl b)
  | d => d.kind.isSome = true ∧ Q (.bl false)) E) := rfl
end Mine

namespace Mine
open PySem PySem.Spec PyProof.Rows L2
/-! ### C.m(..), m a static method -/
/-- C's attributes are read the usual way; C.m is a static method, its def at g -/
structure StaOf (K : PySem.W.Frag) (C : Addr) (m : Str) (g : Addr) : Prop where
  rd : PySem.W.readsIn K C (.type "type") = true
  ga : PySem.W.specialIn K (.ref C) "__getattribute__" = some (some (.builtin "type.__getattribute__"))
  at_ : ∃ p, PySem.W.findCls K (.ref C) (.type "type") m = some (.get (.builtin "staticmethod.__get__") (.ref p) .none (.ref C)) ∧ ∃ rest, PySem.W.recIn K p "staticmethod" = some (.ref g :: rest)
def staB (C m : Str) (K : PySem.W.Frag) : Bool := PySem.W.readsIn K (He.ga K C) (.type "type") && (He.eqO (PySem.W.specialIn K (.ref (He.ga K C)) "__getattribute__") (some (some (.builtin "type.__getattribute__"))) && He5.wrapB K (He.ga K C) "staticmethod" "staticmethod.__get__" m)
theorem staB_ok {K : PySem.W.Frag} {C m : Str} (h : staB C m K = true) : StaOf K (He.ga K C) m (He5.wf K (He.ga K C) "staticmethod" m) := by
  obtain ⟨h1, h⟩ := He.ba h
  obtain ⟨h2, h3⟩ := He.ba h
  obtain ⟨h4, h5⟩ := He5.wrapB_ok h3
  exact ⟨h1, He.eqO_ok h2, _, h4, h5⟩
section
variable {X : Cx} {CX : CXT} {k : Nat} {C g : Addr} {sp : Sp} {E : XK} {e : Expr} {es : List Expr} {x m : Str} {pos apos p0 : Pos} {t : TA} {pl : Sem Bool} {fd : FuncData} {ps : List Str} {ds : List Value} {dvs : List V}
theorem pe_scall (so : StaOf X.K C m g) (hg : Gl X x) (hm : X.mg x = some (.ref C)) (F : FnOk X.prog X.w X.K X.mg X.base CX k g fd ps sp) (hr : Room k X.A) (hk : PySem.W.keepIn X.K (.ref g) = true) (hb : Binds X.K fd ps ds) (hd : Vals dvs ds) (hx : Passes CX X E) (ha : PA X (e :: es) t)
    (hdb : (x == ("__debug__" : Str)) = false := by decide)
    (hst : starEach (e :: es) X.env = (false, eval e X.env) :: starEach es X.env := by rfl) (hpl : (backTo pos (starEach es X.env)).any (·.1) = false := by rfl)
    (ht : eval (.Call (.Attribute (.Name x p0) m apos) (e :: es) [] pos) X.env = (do
      let ov ← eval (.Name x p0) X.env
      standAt apos.atName
      let (f, first) ← holding [ov] (getMethod ov m pl)
      callWith pos f first (backTo pos (starEach (e :: es) X.env)) (backToKw pos (keywordEach [] X.env))) := by rfl) :
    PE X (.Call (.Attribute (.Name x p0) m apos) (e :: es) [] pos) (tCall sp dvs E t) := by
  refine ⟨fun pins s σ H Q I h => ?_⟩
  refine PySem.W.methodCall_KW (pl := pl) (ld_glob I hg hm ?_ hdb) ht
  obtain ⟨pp, h1, rest, h2⟩ := so.at_
  refine PySem.W.method_cls I.kIn so.ga (PySem.W.cls_bind I.kIn so.rd h1 (wpAny_call (PySem.W.sm_get (s := { s with toks := s.toks + 1 }) I.kIn h2 (PySem.W.handed_on rfl ?_))))
  have I1 : Inv X pins σ H { s with toks := s.toks + 1 } := I.tok _
  refine PySem.W.callWith_K (h₀ := X.base) I.ok.mod.kin hk (thn (ha.run pos pins _ σ H _ I1 h) fun us s1 ⟨vs, H1, I2, r, q⟩ => ⟨I2.kIn, ?_⟩) hst hpl
  exact run_fn F hr hb hd hx I2 r q
end
end Mine

namespace Mine
open PySem PySem.Spec PyProof.Rows L2
/-! ### range(a, b, -1) -/
def eRngD (a : DAX) : DAX := fun env Q E => a env (fun ds => match ds with
  | [.int i, .int j, .int c] => c = -1 ∧ (-(2 ^ 62) ≤ i ∧ i < 2 ^ 62 ∧ -(2 ^ 62) ≤ j ∧ j < 2 ^ 62) ∧ Q ((List.range (i - j).toNat).map fun k => .int (i - (k : Nat)))
  | _ => False) E
theorem eRngD_W (a : DAX) {env} {Q} {E} : eRngD a env Q E = (a env (fun ds => match ds with
  | [.int i, .int j, .int c] => c = -1 ∧ (-(2 ^ 62) ≤ i ∧ i < 2 ^ 62 ∧ -(2 ^ 62) ≤ j ∧ j < 2 ^ 62) ∧ Q ((List.range (i - j).toNat).map fun k => .int (i - (k : Nat)))
  | _ => False) E) := rfl
section
variable {C : Bc} {S : SS} {ta : TA} {ea : DAX}
theorem walk_rngD {X : Addr → Prop} {H1 : Hp} (lo : Int) (n : Nat) : WalkD S C X H1 (Itc lo (-1) n) ((List.range n).map fun k => .int (lo - (k : Nat))) := by
  intro Y i H s
  rw [List.length_map, List.length_range]
  refine ⟨fun hi => ⟨hi, fun x H' ⟨e, hx⟩ => ?_⟩, fun hi => Nat.le_of_eq hi.symm⟩
  subst e hx
  refine ⟨Same.refl _, _, by rw [List.getElem?_map, List.getElem?_range hi]; rfl, ?_⟩
  rw [show lo + (i : Int) * (-1) = lo - (i : Int) by omega]
  exact .int _
theorem di_rngD (h : DAb C ta ea) : DIg S C (iRng3 ta) (eRngD ea) := by
  intro X env σ H Rr Qd Qx rp he q x
  refine h X env σ H _ _ Qx rp he (fun ds vs H1 f1 ra he1 => ?_) x
  split at he1
  · obtain ⟨rfl, ⟨b1, b2, b3, b4⟩, he1⟩ := he1
    cases ra with
    | cons r1 ra =>
      cases ra with
      | cons r2 ra =>
        cases ra with
        | cons r3 ra =>
          cases ra
          exact ⟨_, _, _, _, by rw [r1.int, r2.int, r3.int], RgC.neg b1 b2 b3 b4, q _ _ H1 f1 (walk_rngD _ _) he1⟩
  · exact he1.elim
end
/-! ### isinstance of one's own classes: what of the text it asks -/
structure InsK (K : PySem.W.Frag) (C : Addr) : Prop where
  ha : PySem.W.findIn K (.ref C) "__class__" = some (some (.builtin "object.__class__"))
  hn : PySem.W.specialIn K (.builtin "object.__class__") "__get__" = some (some (.builtin "getset_descriptor.__get__"))
  htk : PySem.W.takesIn K (.builtin "object.__class__") = some true
  hm : PySem.W.mroIn K C (.type "object") = some true
def insB (C : Str) (K : PySem.W.Frag) : Bool := He.eqO (PySem.W.findIn K (.ref (He.ga K C)) "__class__") (some (some (.builtin "object.__class__"))) && (He.eqO (PySem.W.specialIn K (.builtin "object.__class__") "__get__") (some (some (.builtin "getset_descriptor.__get__"))) &&
  (decide (PySem.W.takesIn K (.builtin "object.__class__") = some true) && decide (PySem.W.mroIn K (He.ga K C) (.type "object") = some true)))
theorem insB_ok {C : Str} {K : PySem.W.Frag} (h : insB C K = true) : InsK K (He.ga K C) := by
  obtain ⟨h1, h⟩ := He.ba h
  obtain ⟨h2, h⟩ := He.ba h
  obtain ⟨h3, h4⟩ := He.ba h
  exact ⟨He.eqO_ok h1, He.eqO_ok h2, of_decide_eq_true h3, of_decide_eq_true h4⟩
abbrev kinds7 : List Str := ["NoneType", "bool", "int", "str", "tuple", "list", "dict"]
def kinB (C : Str) (K : PySem.W.Frag) : Bool := decide (PySem.W.kitOne K (.type "NoneType") (.ref (He.ga K C)) = some false) && (decide (PySem.W.kitOne K (.type "bool") (.ref (He.ga K C)) = some false) && (decide (PySem.W.kitOne K (.type "int") (.ref (He.ga K C)) = some false) &&
  (decide (PySem.W.kitOne K (.type "str") (.ref (He.ga K C)) = some false) && (decide (PySem.W.kitOne K (.type "tuple") (.ref (He.ga K C)) = some false) && (decide (PySem.W.kitOne K (.type "list") (.ref (He.ga K C)) = some false) && decide (PySem.W.kitOne K (.type "dict") (.ref (He.ga K C)) = some false))))))
def KinOk (K : PySem.W.Frag) (C : Addr) : Prop := ∀ n, n ∈ ["NoneType", "bool", "int", "str", "tuple", "list", "dict"] → PySem.W.kitOne K (.type n) (.ref C) = some false
theorem kinB_ok {C : Str} {K : PySem.W.Frag} (h : kinB C K = true) : KinOk K (He.ga K C) := by
  obtain ⟨h1, h⟩ := He.ba h
  obtain ⟨h2, h⟩ := He.ba h
  obtain ⟨h3, h⟩ := He.ba h
  obtain ⟨h4, h⟩ := He.ba h
  obtain ⟨h5, h⟩ := He.ba h
  obtain ⟨h6, h7⟩ := He.ba h
  intro n hn
  simp only [List.mem_cons, List.not_mem_nil, or_false] at hn
  rcases hn with rfl | rfl | rfl | rfl | rfl | rfl | rfl
  · exact of_decide_eq_true h1
  · exact of_decide_eq_true h2
  · exact of_decide_eq_true h3
  · exact of_decide_eq_true h4
  · exact of_decide_eq_true h5
  · exact of_decide_eq_true h6
  · exact of_decide_eq_true h7
theorem tyx_ins {K : PySem.W.Frag} {C : Addr} (c : Cls K C) (i : InsK K C) (H : Hp) (a dx : Addr) (fs : List (Str × V)) (e : H a = some (.ins C dx fs)) : TyX K H (.ref a) (.ref C) := .base (.ins e c i.ha i.hn i.htk i.hm)
theorem pe_fldU {X : Cx} {K : PySem.W.Frag} {e : Expr} {f : Str} {pos : Pos} {ta : TE} (eK : X.K = K) (he : PE X e ta) (hb : attributeBase e f X.env (eval e X.env) = eval e X.env) : PE X (.Attribute e f pos) (tFld K ta f) := eK ▸ pe_fld he hb
/-! ### within a try: makings, methods, static methods -/
section
variable {X : Cx} {CX : CXT} {k : Nat} {f C g : Addr} {fd : FuncData} {ps : List Str} {sp : Sp} {dvs : List V} {ds : List Value} {E : L2.St → XK} {x m : Str} {p pos apos p0 : Pos} {e o : Expr} {es : List Expr} {ta : TE} {t : TA} {pl : Sem Bool}
def tMakeS (C : Addr) (sp : Sp) (dvs : List V) (E : L2.St → XK) (t : TA) : TE := fun σ H Q => t σ H fun vs H1 => ∀ x dx, H1 x = none → H1 dx = none → dx ≠ x →
  sp (.ref x :: (vs ++ dvs)) (upd (upd H1 dx (.own x)) x (.ins C dx [])) (fun v H2 => v = .non ∧ Q (.ref x) H2) (E σ)
def tMethS (C : Addr) (m : Str) (sp : Sp) (dvs : List V) (E : L2.St → XK) (ta : TE) (t : TA) : TE := fun σ H Q => ta σ H fun x H1 => ∃ a dx fs, x = .ref a ∧ H1 a = some (.ins C dx fs) ∧ fs.lookup m = none ∧
  t σ H1 fun vs H2 => sp (x :: (vs ++ dvs)) H2 Q (E σ)
theorem run_makeS {pins : List (Addr × Obj)} {σ : L2.St} {H : Hp} {s : Shared} {Q : VK} {us : List Value} {vs : List V} (M : Mk X.K C f) (F : FnOk X.prog X.w X.K X.mg X.base CX k f fd ps sp) (hr : Room (k + 1) X.A) (hb : Binds X.K fd ps ds) (hd : Vals dvs ds)
    (hx : PassesAt CX X σ (E σ)) (I : Inv X pins σ H s) (r : Vals vs us)
    (h : ∀ x dx, H x = none → H dx = none → dx ≠ x → sp (.ref x :: (vs ++ dvs)) (upd (upd H dx (.own x)) x (.ins C dx [])) (fun v H2 => v = .non ∧ Q (.ref x) H2) (E σ)) :
    wpAny (model X.prog X.w) X.A (call (.ref C) us) (EP X pins σ Q) X.xe s := by
  have hq := h (s.heap.objs.size + 1) s.heap.objs.size (I.hok.fresh (Nat.le_succ _)) (I.hok.fresh (Nat.le_refl _)) (Nat.ne_of_lt (Nat.lt_succ_self _))
  have I2 := Inv.made (C := C) I
  have r2 : Vals (V.ref (s.heap.objs.size + 1) :: (vs ++ dvs)) (Value.ref (s.heap.objs.size + 1) :: (us ++ ds)) := .cons rfl (r.append hd)
  have hl : (Value.ref (s.heap.objs.size + 1) :: us ++ ds).length = ps.length := by
    have e := r2.length
    rw [F.len _ _ _ _ hq] at e
    exact e.symm
  refine wpAny_call (make_map (f := f) I.kIn M.makes M.init (beq_iff_eq.mp M.fn) (codeAny_mono (F.run _ X.stack _ _ ⟨Value.ref (s.heap.objs.size + 1) :: us, []⟩ (Value.ref (s.heap.objs.size + 1) :: (us ++ ds)) _ _ (E σ) (hr.make C us [])
    (I2.env0.make C us []) (hb _ (Value.ref (s.heap.objs.size + 1) :: us) I2.kIn hl) r2 hq) fun r s' hq' => ?_))
  cases r with
  | error e => exact hx pins _ _ e s' I2 hq'
  | ok fl =>
    cases fl with
    | ret u =>
      obtain ⟨v, H', I3, rv, ev, q3⟩ := I2.after hq'
      subst ev
      exact ⟨rv, ⟨V.ref (s.heap.objs.size + 1), H', I3, rfl, q3⟩⟩
    | next => exact False.elim hq'
    | brk => exact False.elim hq'
    | cont => exact False.elim hq'
theorem pe_makeS (M : Mk X.K C f) (F : FnOk X.prog X.w X.K X.mg X.base CX k f fd ps sp) (hr : Room (k + 1) X.A) (hg : Gl X x) (hm : X.mg x = some (.ref C)) (hb : Binds X.K fd ps ds) (hd : Vals dvs ds) (hx : ∀ σ, PassesAt CX X σ (E σ))
    (ha : PA X (e :: es) t) (hdb : (x == ("__debug__" : Str)) = false := by decide) (he : starEach (e :: es) X.env = (false, eval e X.env) :: starEach es X.env := by rfl) (hpl : (backTo pos (starEach es X.env)).any (·.1) = false := by rfl) :
    PE X (.Call (.Name x p) (e :: es) [] pos) (tMakeS C sp dvs E t) := by
  refine ⟨fun pins s σ H Q I h => ?_⟩
  refine wpAny_Call_Name_kw (ld_glob I hg hm ?_ hdb)
  refine PySem.W.callWith_K (h₀ := X.base) I.ok.mod.kin M.kp (thn (ha.run pos pins s σ H _ I h) fun us s1 ⟨vs, H1, I1, r, q⟩ => ⟨I1.kIn, ?_⟩) he hpl
  exact run_makeS M F hr hb hd (hx σ) I1 r q
theorem pe_methS (he : PE X o ta) (c : Cls X.K C) (hm : Meth X.K C m f) (F : FnOk X.prog X.w X.K X.mg X.base CX k f fd ps sp) (hr : Room k X.A) (hb : Binds X.K fd ps ds) (hd : Vals dvs ds) (hx : ∀ σ, PassesAt CX X σ (E σ)) (ha : PA X (e :: es) t)
    (hst : starEach (e :: es) X.env = (false, eval e X.env) :: starEach es X.env := by rfl) (hpl : (backTo pos (starEach es X.env)).any (·.1) = false := by rfl)
    (ht : eval (.Call (.Attribute o m apos) (e :: es) [] pos) X.env = (do
      let ov ← eval o X.env
      standAt apos.atName
      let (f, first) ← holding [ov] (getMethod ov m pl)
      callWith pos f first (backTo pos (starEach (e :: es) X.env)) (backToKw pos (keywordEach [] X.env))) := by rfl) :
    PE X (.Call (.Attribute o m apos) (e :: es) [] pos) (tMethS C m sp dvs E ta t) := by
  refine ⟨fun pins s σ H Q I h => ?_⟩
  refine PySem.W.methodCall_KW (pl := pl) (thn (he.run pins s σ H _ I h) fun u s1 ⟨x, H1, I1, rx, a, dx, fs, ex, ea, l, q⟩ => ?_) ht
  subst ex
  obtain rfl : u = Value.ref a := rx
  refine getmeth_ok I1 ea c hm l ?_
  refine PySem.W.callWith_K (first := [.ref a]) (h₀ := X.base) I.ok.mod.kin hm.kp (thn (ha.run pos pins s1 σ H1 _ I1 q) fun us s2 ⟨vs, H2, I2, r, q2⟩ => ⟨I2.kIn, ?_⟩) hst hpl
  exact run_fnSD (us := .ref a :: us) (vs := .ref a :: vs) F hr hb hd (hx σ) I2 (.cons rfl r) q2
theorem pe_scallS (so : StaOf X.K C m g) (hg : Gl X x) (hm : X.mg x = some (.ref C)) (F : FnOk X.prog X.w X.K X.mg X.base CX k g fd ps sp) (hr : Room k X.A) (hk : PySem.W.keepIn X.K (.ref g) = true) (hb : Binds X.K fd ps []) (hx : ∀ σ, PassesAt CX X σ (E σ)) (ha : PA X (e :: es) t)
    (hdb : (x == ("__debug__" : Str)) = false := by decide)
    (hst : starEach (e :: es) X.env = (false, eval e X.env) :: starEach es X.env := by rfl) (hpl : (backTo pos (starEach es X.env)).any (·.1) = false := by rfl)
    (ht : eval (.Call (.Attribute (.Name x p0) m apos) (e :: es) [] pos) X.env = (do
      let ov ← eval (.Name x p0) X.env
      standAt apos.atName
      let (f, first) ← holding [ov] (getMethod ov m pl)
      callWith pos f first (backTo pos (starEach (e :: es) X.env)) (backToKw pos (keywordEach [] X.env))) := by rfl) :
    PE X (.Call (.Attribute (.Name x p0) m apos) (e :: es) [] pos) (tCallS sp E t) := by
  refine ⟨fun pins s σ H Q I h => ?_⟩
  refine PySem.W.methodCall_KW (pl := pl) (ld_glob I hg hm ?_ hdb) ht
  obtain ⟨pp, h1, rest, h2⟩ := so.at_
  refine PySem.W.method_cls I.kIn so.ga (PySem.W.cls_bind I.kIn so.rd h1 (wpAny_call (PySem.W.sm_get (s := { s with toks := s.toks + 1 }) I.kIn h2 (PySem.W.handed_on rfl ?_))))
  have I1 : Inv X pins σ H { s with toks := s.toks + 1 } := I.tok _
  refine PySem.W.callWith_K (h₀ := X.base) I.ok.mod.kin hk (thn (ha.run pos pins _ σ H _ I1 h) fun us s1 ⟨vs, H1, I2, r, q⟩ => ⟨I2.kIn, ?_⟩) hst hpl
  exact run_fnS F hr hb (hx σ) I2 r q
end
section
variable {C : Bc} {F : DFn} {cls c m : Str} {dvs : List V} {dd : List Sl} {t : TA} {a : DSX} {te : TE} {ea : DX}
theorem de_makeS {E : L2.St → XK} (hE : C.E = E) (hd : Dvs dvs dd) (ha : DAs C t a) : DE C (tMakeS (He.ga C.K cls) (spI C.K cls F) dvs E t) (eCall F dd a) := by
  intro X env σ H Q Qd Qx rp he q x
  refine ha X env σ H _ _ Qx rp he (fun ss vs H1 f1 r1 he1 => ?_) x
  intro p dx np nd ne
  have rp1 := rp.step f1
  refine ⟨p, dx, vs ++ dvs, H1, X, C.hd, ss ++ dd, Qd, Qx, rfl, np, nd, ne, rfl, rp1.al, fun h c e => ⟨rp1.hX h c e, (rp1.hands h c e).2.2⟩, SlAll.append r1 (hd C.K C.hd X H1), he1, fun d H' f den qd => ⟨rfl, q d _ H' (f1.trans f) den qd⟩, fun y cls' dx' H' f r z => ?_⟩
  have := x y cls' dx' H' (f1.trans f) r z
  rw [hE] at this
  exact this
theorem de_methS {E : L2.St → XK} (hE : C.E = E) (hd : Dvs dvs dd) (ho : DE C te ea) (ha : DAs C t a) : DE C (tMethS (He.ga C.K c) m (spD C.K F) dvs E te t) (eMeth c m F dd ea a) := by
  intro X env σ H Q Qd Qx rp he q x
  refine ho X env σ H _ _ Qx rp he (fun d v H1 f1 r1 h1 => ?_) x
  split at h1
  · rename_i c' ns ds
    obtain ⟨rfl, h2, h3⟩ := h1
    have rp1 := rp.step f1
    have r1 : Den C.K (vis H1 X) v (.ins c' ns ds) := r1
    have r1' := r1
    cases r1 with
    | @ins p dx _ _ vs _ hp hl al =>
      refine ⟨p, dx, _, rfl, vis_sub _ _ hp, al.lookN h2, ?_⟩
      refine ha X env σ H1 _ _ Qx rp1 h3 (fun ss us H2 f2 r2 h4 => ?_) (x.step f1)
      exact spD_use (rp1.step f2) (.d (r1'.mono (rp1.vs f2)) (SlAll.append r2 (hd C.K C.hd X H2))) h4 (fun d v H' f h => q d v H' (f1.trans (f2.trans f)) h) fun y cls dx H' f r z => by
        have := x y cls dx H' (f1.trans (f2.trans f)) r z
        rw [hE] at this
        exact this
  · exact h1.elim
end
end Mine

namespace Mine
open PySem PySem.Spec PyProof.Rows L2
/-! ### math.gcd, math.comb -/
def rComb : List V → Hp → VK → Prop := fun vs H Q => ∃ a b : Int, vs = [.int a, .int b] ∧ 0 ≤ a ∧ 0 ≤ b ∧ a ≤ 18000 ∧ Q (.int (PySem.W.mcComb a b)) H
theorem cr_comb {X : Cx} : CallR X (.builtin "math.comb") rComb := by
  intro pins s σ H vs us Q I r h
  obtain ⟨a, b, rfl, h1, h2, h3, q⟩ := h
  obtain ⟨t, u, rfl⟩ := Vals.int2 r
  exact PySem.W.mc_comb h1 h2 (by omega) (.inr h3) fun _ => ⟨.int _, H, I.tok _, ⟨_, rfl⟩, q⟩
def dGcd : DL := fun ds Q => match ds with
  | [.int i, .int j] => Q (.int ((Nat.gcd i.natAbs j.natAbs : Nat) : Int))
  | _ => False
def dComb : DL := fun ds Q => match ds with
  | [.int i, .int j] => 0 ≤ i ∧ 0 ≤ j ∧ i ≤ 18000 ∧ Q (.int (PySem.W.mcComb i j))
  | _ => False
theorem dGcd_W {i j : Int} {Q : Dt → Prop} : dGcd [.int i, .int j] Q = Q (.int ((Nat.gcd i.natAbs j.natAbs : Nat) : Int)) := rfl
theorem dComb_W {i j : Int} {Q : Dt → Prop} : dComb [.int i, .int j] Q = (0 ≤ i ∧ 0 ≤ j ∧ i ≤ 18000 ∧ Q (.int (PySem.W.mcComb i j))) := rfl
section
variable {C : Bc}
theorem cg_gcd : CallG Cln C rGcd dGcd := by
  intro X env σ H vs ds Q Qd rp ra he q
  unfold dGcd at he
  split at he
  · obtain ⟨v, u, rfl, r1, r2⟩ := ra.two
    exact ⟨_, _, by rw [r1.int, r2.int], q _ _ H (.refl H) (.int _) he⟩
  · exact he.elim
theorem cg_comb : CallG Cln C rComb dComb := by
  intro X env σ H vs ds Q Qd rp ra he q
  unfold dComb at he
  split at he
  · obtain ⟨v, u, rfl, r1, r2⟩ := ra.two
    obtain ⟨h1, h2, h3, he⟩ := he
    exact ⟨_, _, by rw [r1.int, r2.int], h1, h2, h3, q _ _ H (.refl H) (.int _) he⟩
  · exact he.elim
end
/-! ### sep.join(a list of texts) -/
def rJoinK (K : PySem.W.Frag) : V → List V → Hp → VK → Prop := fun x xs H Q => ∃ a p, ∃ ys : List Str, x = .str a ∧ xs = [.ref p] ∧ (SqL K H p (ys.map V.str) ∨ SqT K H p (ys.map V.str)) ∧
  (ys.map (·.length)).sum + ys.length * a.length ≤ 16777216 ∧ Q (.str (Txt.join a ys)) H
theorem pe_joinU {X : Cx} {K : PySem.W.Frag} {o e : Expr} {to te : TE} {apos pos : Pos} (eK : X.K = K) (ho : PE X o to) (he : PE X e te) (hs : starEach [e] X.env = [(false, eval e X.env)] := by rfl) (hbase : attributeBase o "join" X.env (eval o X.env) = eval o X.env := by rfl) (hline : (apos.endLine == pos.line) = true := by rfl) :
    PE X (.Call (.Attribute o "join" apos) [e] [] pos) (tM1 (rJoinK K) to te) := eK ▸ pe_join ho he hs hbase hline
def eJoin (eo ea : DX) : DX := fun env Q E => eo env (fun d => match d with
  | .str z => ea env (fun y => match y with
    | .lst xs => ∃ ys : List Str, xs = ys.map .str ∧ (ys.map (·.length)).sum + ys.length * z.length ≤ 16777216 ∧ Q (.str (Txt.join z ys))
    | _ => False) E
  | _ => False) E
theorem eJoin_W (eo ea : DX) {env} {Q} {E} : eJoin eo ea env Q E = (eo env (fun d => match d with
  | .str z => ea env (fun y => match y with
    | .lst xs => ∃ ys : List Str, xs = ys.map .str ∧ (ys.map (·.length)).sum + ys.length * z.length ≤ 16777216 ∧ Q (.str (Txt.join z ys))
    | _ => False) E
  | _ => False) E) := rfl
theorem DenAll.strs_of {K : PySem.W.Frag} {H : Hp} : ∀ {vs : List V} {bs : List Str}, DenAll K H vs (bs.map .str) → vs = bs.map V.str
  | _, [], .nil => rfl
  | _, n :: ns, .cons a b => by rw [List.map_cons, a.flat rfl, DenAll.strs_of b]
theorem de_join {C : Bc} {to te : TE} {eo ea : DX} (ho : DE C to eo) (ha : DB C te ea) : DE C (tM1 (rJoinK C.K) to te) (eJoin eo ea) := by
  intro X env σ H Q Qd Qx rp he q x
  refine ho X env σ H _ _ Qx rp he (fun d v H1 f1 r1 h1 => ?_) x
  split at h1
  · rename_i z
    have ev : v = .str z := r1.flat rfl
    refine ⟨⟨_, ev⟩, ha X env σ H1 _ _ Qx (rp.step f1) h1 (fun d2 v2 H2 f2 r2 h2 => ?_) (x.step f1)⟩
    split at h2
    · obtain ⟨ys, rfl, hz, h2⟩ := h2
      obtain ⟨p, vs, rfl, h3, a1⟩ := r2.lst
      rw [a1.strs_of] at h3
      exact ⟨_, p, ys, ev, rfl, .inl (.inl (.inl h3)), hz, q _ _ H2 (f1.trans f2) (.str _) h2⟩
    · exact h2.elim
  · exact h1.elim
/-! ### a text walked through, and numbered -/
def IteS (x : Str) : It :=
  ⟨fun i _ => i < x.cps.size, fun i H v H' => ∃ T c, v = .ref T ∧ H T = none ∧ H' = upd H T (.tup [.int (i : Nat), .str ⟨#[c]⟩]) ∧ x.cps[i]? = some c, fun i _ => x.cps.size ≤ i⟩
theorem turn_enumS {P : Program} {w : World} {K : PySem.W.Frag} {elts : List Expr} {kk : Nat} {tpos : Pos} (x : Str) (t : Tok) (e it : Addr) :
    Turn P w K (.Tuple elts kk tpos) (IteS x) [e, it] e (fun i h => (∃ old, IsEnum h e it ((i : Nat) : Int) old) ∧ h.IsStrIter it (strIterType x) x t i ∧ e ≠ it) where
  mem := by simp
  obj := fun i h st b hb => by
    obtain ⟨⟨old, he⟩, ⟨o, ho, hc, hd⟩, _⟩ := st
    have e' : b = e ∨ b = it := by simpa using hb
    rcases e' with z | z
    · rw [z]; exact ⟨_, he, fun v q => nomatch q⟩
    · rw [z]; exact ⟨o, ho, fun v q => by rw [hd] at q; cases q⟩
  keep := fun i h h' st k => let ⟨⟨old, he⟩, ⟨o, ho, r⟩, hne⟩ := st; ⟨⟨old, k e (by simp) _ he⟩, ⟨o, k it (by simp) o ho, r⟩, hne⟩
  item := by
    intro X hP hw hK hc i pins s σ H E I hf st hg
    subst hP hw hK
    obtain ⟨⟨old, he⟩, hit, hne⟩ := st
    have hel : e < s.heap.objs.size := Heap.lt_size he
    have hil : it < s.heap.objs.size := by obtain ⟨_, q, _⟩ := hit; exact Heap.lt_size q
    refine wpAny_pyNext_enum_itemD (i := i) (Draws.text (A := X.A.in1) (I.ok.hd hc) it x t) he hit hg hne (by simp [hne]) fun x' h' tk hP ho hs' hT hsz hk => ?_
    obtain ⟨c, u, hcx, rfl⟩ := hP
    refine ⟨_, rfl, wpAny_letOwnedTupleGo_enum (s := { s with heap := h', toks := tk + 1 }) ho fun h'' he' sb => ?_⟩
    have hT2 : h''.get? s.heap.objs.size = some { cls := .type "tuple", data := .seq #[.int i tk, .str ⟨#[c]⟩ u] } := (sb.2 _ (Nat.ne_of_gt hel)).trans hT
    have new : ObjOk X.prog X.w (upd H s.heap.objs.size (.tup [.int (i : Nat), .str ⟨#[c]⟩])) h'' s.heap.objs.size (.tup [.int (i : Nat), .str ⟨#[c]⟩]) :=
      ⟨by show 2 ≤ sizeLine; decide, [.int i tk, .str ⟨#[c]⟩ u], .cons ⟨_, rfl⟩ (.cons ⟨_, rfl⟩ .nil), ⟨_, hT2, rfl, _, rfl⟩⟩
    have I1 : Inv X pins σ (upd H s.heap.objs.size (.tup [.int (i : Nat), .str ⟨#[c]⟩])) { s with heap := h'', toks := tk + 1 } :=
      I.turnedNew (ch := [e, it]) (fun b ob hb q => (sb.2 b (fun z => hb (by simp [z]))).trans (hk b ob (fun z => hb (by simp [z])) (fun z => hb (by simp [z])) q)) hf (Nat.le_refl _) new
    refine ⟨.ref s.heap.objs.size, _, I1, rfl, ⟨_, c, rfl, I.hok.fresh (Nat.le_refl _), rfl, hcx⟩, ⟨⟨.str ⟨#[c]⟩ u, ?_⟩, ?_, hne⟩, fun b hb => ?_⟩
    · have e1 : ((i + 1 : Nat) : Int) = (i : Int) + 1 := by omega
      rw [e1]; exact he'
    · obtain ⟨o, ho2, r⟩ := hs'
      exact ⟨o, (sb.2 it (Ne.symm hne)).trans ho2, r⟩
    · have hb' : b < s.heap.objs.size := by
        have e' : b = e ∨ b = it := by simpa using hb
        rcases e' with z | z
        · rw [z]; exact hel
        · rw [z]; exact hil
      rw [upd_ne (Nat.ne_of_lt hb')]
      exact (hf b hb).1
  done := by
    intro X hP hw hK hc i pins s σ H E I hf st hg
    subst hP hw hK
    obtain ⟨⟨old, he⟩, hit, hne⟩ := st
    obtain ⟨f0, f1, f2, f3, f4, f5⟩ := hf it (by simp)
    have hT : s.TypeIs (.ref e) "enumerate" := ⟨_, he, rfl⟩
    have hx : x.cps[i]? = none := Array.getElem?_eq_none hg
    unfold pyNext
    refine wpAny_bind (wpAny_attempt (wpAny_callSpecial?_slot (name := Str.ofString "__next__") hT F.slot_enumerate_next
      (wpAny_call_entry F.slot_enumerate_next hT F.entry_enumerate_next ?_ (F.args_enumerate_next_1 _))))
    show wpAny _ _ (field (.ref e) 2 >>= _) _ _ _
    refine wpAny_bind (wpAny_field he rfl (x := .ref it) rfl ?_)
    cases ha : x.cps.all (· < 128)
    · simp only [strIterType, ha, Bool.false_eq_true, if_false] at hit
      refine wpAny_bind (wpAny_nextOf_wide_end (I.ok.hd hc) hit hx fun h' y he' hx' => ?_)
      obtain ⟨o, ho, hc⟩ := hx'
      refine wpAny_bind (wpAny_isInstance (T := "StopIteration") (b := true) ⟨o, ho, hc⟩ isSubtype_stop ?_)
      exact wpAny_pure ⟨rfl, I.turned (t' := s.toks) (fun b o hb q => he' b o hb q) f0 f1 f3 f4 f5⟩
    · simp only [strIterType, ha, if_true] at hit
      refine wpAny_bind (wpAny_nextOf_ascii_end (I.ok.hd hc) hit hx fun h' y he' hx' => ?_)
      obtain ⟨o, ho, hc⟩ := hx'
      refine wpAny_bind (wpAny_isInstance (T := "StopIteration") (b := true) ⟨o, ho, hc⟩ isSubtype_stop ?_)
      exact wpAny_pure ⟨rfl, I.turned (t' := s.toks) (fun b o hb q => he' b o hb q) f0 f1 f3 f4 f5⟩
  self := fun A i s Q E st h => let ⟨⟨_, he⟩, _⟩ := st; wpAny_pyIter_enum he h
def iEnumS (ta : TA) : TI := fun σ H R => ta σ H fun vs H1 => ∃ x, vs = [.str x] ∧ R (IteS x) H1
theorem pi_enumS {X : Cx} {e : Expr} {ta : TA} {p pos tpos : Pos} {elts : List Expr} {kk : Nat} (hg : Gl X "enumerate") (hm : X.mg "enumerate" = none) (ha : PA X [e] ta) (hs : starEach [e] X.env = [(false, eval e X.env)] := by rfl) :
    PI X (.Tuple elts kk tpos) (.Call (.Name "enumerate" p) [e] [] pos) (iEnumS ta) := by
  refine ⟨fun pins s σ H R I h => ?_⟩
  refine Call_ (ld_blt I hg hm boot_enumerate (PyProof.Rows.callWith_type1 (thn (ha.run pos pins s σ H _ I h) fun us s1 ⟨vs, H1, I1, r1, q1⟩ => ?_) hs rfl))
  obtain ⟨x, ex, q⟩ := q1
  subst ex
  cases r1 with
  | cons r rr =>
    cases rr
    obtain ⟨t, rfl⟩ := r
    have fp2 : ∀ b ∈ [s1.heap.objs.size + 1, s1.heap.objs.size], FpOk X pins H1 b := fun b hb => by
      have e' : b = s1.heap.objs.size + 1 ∨ b = s1.heap.objs.size := by simpa using hb
      have hle : s1.heap.objs.size ≤ b := by
        rcases e' with z | z
        · rw [z]; exact Nat.le_add_right _ _
        · rw [z]; exact Nat.le_refl _
      exact I1.fpOk hle (I1.hok.fresh hle)
    refine mine_enum_call (begins_text x t) trivial fun h' he hit hsz hk => wpAny_pyIter_enum he ?_
    have I2 : Inv X pins σ H1 { s1 with heap := h' } := I1.kept (t' := s1.toks) hk
    exact ⟨s1.heap.objs.size + 1, [s1.heap.objs.size + 1, s1.heap.objs.size], _, _, H1, rfl, I2, turn_enumS x t (s1.heap.objs.size + 1) s1.heap.objs.size, ⟨⟨.none, he⟩, ⟨_, hit, rfl, rfl⟩, Nat.succ_ne_self _⟩, fp2, q⟩
def eEnumS (a : DAX) : DAX := fun env Q E => a env (fun ds => match ds with
  | [.str z] => Q (z.cps.toList.mapIdx fun i c => .tup [.int (i : Nat), .str ⟨#[c]⟩])
  | _ => False) E
theorem eEnumS_W (a : DAX) {env} {Q} {E} : eEnumS a env Q E = (a env (fun ds => match ds with
  | [.str z] => Q (z.cps.toList.mapIdx fun i c => .tup [.int (i : Nat), .str ⟨#[c]⟩])
  | _ => False) E) := rfl
section
variable {C : Bc} {S : SS} {ta : TA} {ea : DAX} {tl : TE} {el : DX}
theorem di_enumS (al : ∀ {C : Bc} {X Y : Addr → Prop} {H1 H : Hp}, S C X H1 Y H → ∀ a, Y a → ∃ o, H a = some o) (h : DAb C ta ea) : DIg S C (iEnumS ta) (eEnumS ea) := by
  intro X env σ H Rr Qd Qx rp he q x
  refine h X env σ H _ _ Qx rp he (fun ds vs H1 f1 ra he1 => ?_) x
  split at he1
  · rename_i z
    obtain ⟨v, rfl, r1⟩ := ra.one
    refine ⟨z, by rw [r1.str], q _ _ H1 f1 ?_ he1⟩
    intro Y i H2 s
    rw [List.length_mapIdx, Array.length_toList]
    refine ⟨fun hi => ⟨hi, fun x H' ⟨T, c, e1, hT, e2, hc⟩ => ?_⟩, fun hi => Nat.le_of_eq hi.symm⟩
    subst e1 e2
    have nT : ¬ Y T := fun y => by
      obtain ⟨o, q⟩ := al s T y
      rw [hT] at q; cases q
    refine ⟨same_upd hT, _, by rw [List.getElem?_mapIdx, Array.getElem?_toList, hc]; rfl, .tup (vis_mk nT upd_same) (.cons (.int _) (.cons (.str _) .nil))⟩
  · exact he1.elim
theorem di_strs (h : DE C tl el) : DIg S C (iStr tl) (eStrs el) := by
  intro X env σ H Rr Qd Qx rp he q x
  refine h X env σ H _ _ Qx rp he (fun d v H1 f1 r1 he1 => ?_) x
  split at he1
  · rename_i z
    refine ⟨z, r1.flat rfl, q _ _ H1 f1 ?_ he1⟩
    intro Y i H2 s
    rw [List.length_map, Array.length_toList]
    refine ⟨fun hi => ⟨hi, fun x H' ⟨e2, c, hc, e1⟩ => ?_⟩, fun hi => Nat.le_of_eq hi.symm⟩
    subst e1 e2
    exact ⟨Same.refl _, _, by rw [List.getElem?_map, Array.getElem?_toList, hc]; rfl, .str _⟩
  · exact he1.elim
end
/-! ### a text times a number -/
def rMulS : R2 := fun x y H Q => ∃ (z : Str) (k : Int), x = .str z ∧ y = .int k ∧ 2 ≤ k ∧ k ≤ 1000 ∧ 1 ≤ z.length ∧ z.length ≤ 1000 ∧ Q (.str ⟨(List.replicate k.toNat z.cps).foldl (· ++ ·) #[]⟩) H
def dMulS : D2 := fun a b Q => match a, b with
  | .str z, .int k => (2 ≤ k ∧ k ≤ 1000 ∧ 1 ≤ z.length ∧ z.length ≤ 1000) ∧ Q (.str ⟨(List.replicate k.toNat z.cps).foldl (· ++ ·) #[]⟩)
  | _, _ => False
theorem fold_cat {a : Array Nat} : ∀ (n : Nat) (b : Array Nat), ((List.replicate n a).foldl (· ++ ·) b).toList = b.toList ++ (List.replicate n a.toList).flatten
  | 0, b => by simp
  | n + 1, b => by
    rw [List.replicate_succ, List.foldl_cons, fold_cat n (b ++ a), List.replicate_succ, List.flatten_cons, Array.toList_append, List.append_assoc]
theorem fold_size {a : Array Nat} (n : Nat) : ((List.replicate n a).foldl (· ++ ·) (#[] : Array Nat)).size = n * a.size := by
  rw [← Array.length_toList, fold_cat n #[]]
  simp
theorem op_mulS {X : Cx} : OpR X (binaryOp .Mult) rMulS := by
  intro pins s σ H x y v u Q I rx ry h
  obtain ⟨z, k, rfl, rfl, h1, h2, h3, h4, q⟩ := h
  obtain ⟨t, rfl⟩ := rx
  obtain ⟨t2, rfl⟩ := ry
  have hk : (k == 1 || z.length == 0) = false := by
    rw [Bool.or_eq_false_iff]
    exact ⟨beq_false_of_ne (by omega), beq_false_of_ne (by omega)⟩
  have hm : z.length * k.toNat ≤ 1000 * 1000 := Nat.mul_le_mul h4 (by omega)
  refine PySem.P.mul_str (by rw [decide_eq_false (by omega), decide_eq_false (by omega)]; rfl) (fun _ _ c => ?_) (fun _ _ => by unfold Builtin.Str.tooLong; exact decide_eq_false (by have := sizeLine_eq; omega)) ?_
  · have : (k : Int) * ((2 ^ 63 - 1) / k) ≥ (2 ^ 63 - 1) - k := by
      have := Int.emod_add_mul_ediv (2 ^ 63 - 1) k
      have := Int.emod_lt_of_pos (2 ^ 63 - 1) (show 0 < k by omega)
      omega
    have h5 : (2 ^ 63 - 1) / k ≥ 9000000 := by
      apply Int.le_ediv_of_mul_le (by omega)
      omega
    omega
  · rw [if_neg (by omega), hk, if_neg (by decide)]
    refine ⟨?_, .str _, H, I.tok _, ⟨_, rfl⟩, q⟩
    show ((List.replicate k.toNat z.cps).foldl (· ++ ·) #[]).size ≤ sizeLine
    rw [fold_size, Nat.mul_comm, sizeLine_eq]
    have : z.cps.size * k.toNat ≤ 1000 * 1000 := hm
    show _ ≤ 16777216
    omega
theorem od_mulS {C : Bc} : OpD C rMulS dMulS := by
  intro X env σ H H1 x y a b Q Qd rp r1 r2 he q
  unfold dMulS at he
  split at he
  · exact ⟨_, _, r1.str, r2.int, he.1.1, he.1.2.1, he.1.2.2.1, he.1.2.2.2, q _ _ H (.refl H) (.str _) he.2⟩
  · exact he.elim
end Mine

namespace Mine
open PySem PySem.Spec PyProof.Rows L2
/-! ### == of instances whose class has its own __eq__ -/
/-- the class at C has an own __eq__ that promises sp -/
def EqC (P : Program) (w : World) (K : PySem.W.Frag) (mg : Str → Option Value) (base : Heap) (n : Nat) (C : Addr) (sp : Sp) : Prop :=
  ∃ f fd ps, FnOk P w K mg base CX0 n f fd ps sp ∧ PySem.W.findIn K (.ref C) "__eq__" = some (some (.ref f)) ∧ PySem.W.isFn K (.ref f) = true ∧ L2.Binds K fd ps []
def rEqO (K : PySem.W.Frag) (ok : Addr → Sp → Prop) : R2 := fun x y H Q => ∃ a C dx fs t sp, x = .ref a ∧ H a = some (.ins C dx fs) ∧ ok C sp ∧ TyX K H y t ∧ PySem.W.notFirst K C t = true ∧ sp [x, y] H (fun v H' => ∃ b, v = .bl b ∧ Q (.bl b) H') E0
theorem op_eqO {X : Cx} {K : PySem.W.Frag} {n : Nat} {ok : Addr → Sp → Prop} (eK : X.K = K) (h : ∀ C sp, ok C sp → EqC X.prog X.w X.K X.mg X.base n C sp) (hr : Room n X.A) : OpR X (compareOp .Eq) (rEqO K ok) := by
  intro pins s σ H x y v u Q I rx ry ⟨a, C, dx, fs, t, sp, ex, ha, hok, ty, nf, hsp⟩
  subst eK ex
  obtain rfl : v = Value.ref a := rx
  obtain ⟨f, fd, ps, F, hs, hf, hb⟩ := h C sp hok
  obtain ⟨Pz, kz, hz, _⟩ := kit_of I ry ty
  obtain ⟨mA, J, _⟩ := ins_get I.hok ha
  obtain ⟨od, J, _⟩ := J.look
  obtain ⟨m, hF⟩ := I.fr
  show wpAny (model X.prog X.w) X.A (richCompare .Eq (.ref a) u) (EP X pins σ Q) X.xe s
  refine PySem.W.cmp_K (op := .Eq) (tb := t) hr.units0 hF I.ok.mod.kin J (kz.ty _ _ I.kIn hz) nf hs hf ?_
  have hl := F.len _ _ _ _ hsp
  have r2 : Vals [V.ref a, y] [Value.ref a, u] := .cons rfl (.cons ry .nil)
  refine wpAny_call (codeAny_mono (F.run X.A X.stack s H ⟨[.ref a, u], []⟩ [.ref a, u] [.ref a, y] _ E0 hr I.env0 (by
    have := hb s [.ref a, u] I.kIn (by simpa using hl)
    simpa using this) r2 hsp) fun r s' hq => ?_)
  cases r with
  | error e => exact pass0 pins σ H s e s' I hq
  | ok fl =>
    cases fl with
    | ret w =>
      obtain ⟨z, H', I', rz, b, ez, q⟩ := I.after hq
      subst ez
      have rz : w = Value.bool b := rz
      subst rz
      exact ⟨.bl b, H', I', rfl, q⟩
    | next => exact False.elim hq
    | brk => exact False.elim hq
    | cont => exact False.elim hq
/-- what of the text == of the classes in the table asks -/
structure EqTab (K : PySem.W.Frag) (tabE : Str → Option DFn) (tabC : Str → Bool) : Prop where
  kin : ∀ c F, tabE c = some F → ∀ n, n ∈ ["NoneType", "bool", "int", "str", "tuple", "list", "dict"] → PySem.W.notFirst K (He.ga K c) (.type n) = true
  own : ∀ c F c', tabE c = some F → tabC c' = true → PySem.W.notFirst K (He.ga K c) (.ref (He.ga K c')) = true
  ins : ∀ c', tabC c' = true → ∀ (H : Hp) (a dx : Addr) (fs : List (Str × V)), H a = some (.ins (He.ga K c') dx fs) → TyX K H (.ref a) (.ref (He.ga K c'))
def dEqO (tabE : Str → Option DFn) (tabC : Str → Bool) : D2 := fun x y Q => match x with
  | .ins c ns ds => ∃ F, tabE c = some F ∧ (match y with
    | .ins c' _ _ => tabC c' = true
    | y => y.kind.isSome = true) ∧ F [.d (.ins c ns ds), .d y] (fun r => ∃ b, r = .bl b ∧ Q (.bl b)) (fun _ => False)
  | x => dEq x y Q
def okE (K : PySem.W.Frag) (tabE : Str → Option DFn) (C : Addr) (sp : Sp) : Prop := ∃ c F, tabE c = some F ∧ C = He.ga K c ∧ sp = spD K F
theorem de_eqO {C : Bc} {ta tb : TE} {a b : DX} {tabE : Str → Option DFn} {tabC : Str → Bool} (T : EqTab C.K tabE tabC) (ha : DE C ta a) (hb : DE C tb b) :
    DE C (tOp (fun x y H Q => rEqO C.K (okE C.K tabE) x y H Q ∨ rEqD C.K x y H Q) ta tb) (eOp (dEqO tabE tabC) a b) := by
  intro X env σ H Q Qd Qx rp he q x
  refine ha X env σ H _ _ Qx rp he (fun d v H1 f1 r1 he1 => ?_) x
  have rp1 := rp.step f1
  refine hb X env σ H1 _ _ Qx rp1 he1 (fun d2 v2 H2 f2 r2 he2 => ?_) (x.step f1)
  have rp2 := rp1.step f2
  have r1 : Den C.K (vis H2 X) v d := Den.mono (rp1.vs f2) r1
  have r2 : Den C.K (vis H2 X) v2 d2 := r2
  have eqs : dEq d d2 Qd → rEqO C.K (okE C.K tabE) v v2 H2 Q ∨ rEqD C.K v v2 H2 Q := fun he2 => .inr (od_eq X env σ H2 H2 v v2 _ _ Q Qd rp2 (.inl r1) (.inl r2) he2 fun d3 v3 H3 f3 r3 => q d3 v3 H3 (f1.trans (f2.trans f3)) r3)
  cases d with
  | ins c ns ds =>
    obtain ⟨F, hF, hy, he3⟩ := he2
    refine .inl ?_
    have r1' := r1
    cases r1 with
    | @ins p dx _ _ vs _ hp hl al =>
      have sp : spD C.K F [.ref p, v2] H2 (fun v H' => ∃ b, v = .bl b ∧ Q (.bl b) H') E0 := by
        refine spD_use rp2 (.d r1' (.d r2 .nil)) he3 (fun d v H' f h hq => ?_) fun _ _ _ _ _ _ z => z.elim
        obtain ⟨b, rfl, hq⟩ := hq
        have ev : v = .bl b := h.flat rfl
        exact ⟨b, ev, q _ _ H' (f1.trans (f2.trans f)) (.bl _) hq⟩
      cases d2 with
      | ins c' ns' ds' =>
        have r2' := r2
        cases r2' with
        | @ins p2 dx2 _ _ vs2 _ hp2 hl2 al2 =>
          exact ⟨p, _, dx, _, _, _, rfl, vis_sub _ _ hp, ⟨c, F, hF, rfl, rfl⟩, T.ins _ hy _ _ _ _ (vis_sub _ _ hp2), T.own _ _ _ hF hy, sp⟩
      | _ =>
        obtain ⟨n, hn⟩ := Option.isSome_iff_exists.mp hy
        exact ⟨p, _, dx, _, _, _, rfl, vis_sub _ _ hp, ⟨c, F, hF, rfl, rfl⟩, (Bor.tyx (H1 := H2) (.inl r2) hn), T.kin _ _ hF n (Dt.kind_mem hn), sp⟩
  | _ => exact eqs he2
end Mine

namespace PySem
open PySem.SeqAt AutoSeq1 MeetsSeq PySem.W
theorem mine_int_eq_ins (b : Int) (u : Tok) (l C dx : Addr) : Meets (Builtin.«int.__eq__» ⟨[.int b u, .ref l], []⟩) (fun _ R s => s.heap.get? l = some (instObj C dx) ∧ R (.ok (.ret .notImplemented)) s) :=
  .of_wp fun prog w A R s h => by
    obtain ⟨hp, g, d, tk, os⟩ := s; obtain ⟨hl, h⟩ := h
    unfold instObj at hl
    wp_walk using wpAny_loadPart' hl, wpAny_load hl; exact ⟨_, rfl, h⟩
theorem mine_bool_eq_ins (b : Bool) (l C dx : Addr) : Meets (Builtin.«int.__eq__» ⟨[.bool b, .ref l], []⟩) (fun _ R s => s.heap.get? l = some (instObj C dx) ∧ R (.ok (.ret .notImplemented)) s) :=
  .of_wp fun prog w A R s h => by
    obtain ⟨hp, g, d, tk, os⟩ := s; obtain ⟨hl, h⟩ := h
    unfold instObj at hl
    wp_walk using wpAny_loadPart' hl, wpAny_load hl; exact ⟨_, rfl, h⟩
theorem mine_str_eq_ins (b : Str) (u : Tok) (l C dx : Addr) : Meets (Builtin.«str.__eq__» ⟨[.str b u, .ref l], []⟩) (fun _ R s => s.heap.get? l = some (instObj C dx) ∧ R (.ok (.ret .notImplemented)) s) :=
  .of_wp fun prog w A R s h => by
    obtain ⟨hp, g, d, tk, os⟩ := s; obtain ⟨hl, h⟩ := h
    unfold instObj at hl
    wp_walk using wpAny_loadPart' hl, wpAny_load hl; exact ⟨_, rfl, h⟩
theorem mine_list_eq_ins (p l C dx : Addr) (items : Array Value) (n : Nat) (dd : Option Addr) (sl : Array (Option Value)) : Meets (Builtin.«list.__eq__» ⟨[.ref p, .ref l], []⟩) (fun _ R s => (s.heap.get? p = some { cls := .type "list", dict := dd, data := .seq items n, slots := sl } ∧ s.heap.get? l = some (instObj C dx) ∧ ∀ M : Model, Looks M s.heap (isSubtype (.ref C) (.type "list")) false) ∧ R (.ok (.ret .notImplemented)) s) :=
  .of_wp fun prog w A R s h => by
    obtain ⟨hp, g, d, tk, os⟩ := s; obtain ⟨⟨hp1, hl, hs⟩, h⟩ := h
    have hs := hs (model prog w)
    unfold instObj at hl
    have q1 : ∀ {A' : Around} {E : Value → Shared → Prop} {Q : Bool → Shared → Prop}, Q false ⟨hp, g, d, tk, os⟩ → wpAny (model prog w) A' (isSubtype (.ref C) (.type "list")) Q E ⟨hp, g, d, tk, os⟩ := fun q => hs.at q
    wp_walk using wpAny_loadPart' hp1, wpAny_loadPart' hl, wpAny_load hl, q1
    exact ⟨_, rfl, h⟩
theorem mine_tuple_eq_ins (p l C dx : Addr) (items : Array Value) (n : Nat) (dd : Option Addr) (sl : Array (Option Value)) : Meets (Builtin.«tuple.__eq__» ⟨[.ref p, .ref l], []⟩) (fun _ R s => (s.heap.get? p = some { cls := .type "tuple", dict := dd, data := .seq items n, slots := sl } ∧ s.heap.get? l = some (instObj C dx) ∧ ∀ M : Model, Looks M s.heap (isSubtype (.ref C) (.type "tuple")) false) ∧ R (.ok (.ret .notImplemented)) s) :=
  .of_wp fun prog w A R s h => by
    obtain ⟨hp, g, d, tk, os⟩ := s; obtain ⟨⟨hp1, hl, hs⟩, h⟩ := h
    have hs := hs (model prog w)
    unfold instObj at hl
    have q1 : ∀ {A' : Around} {E : Value → Shared → Prop} {Q : Bool → Shared → Prop}, Q false ⟨hp, g, d, tk, os⟩ → wpAny (model prog w) A' (isSubtype (.ref C) (.type "tuple")) Q E ⟨hp, g, d, tk, os⟩ := fun q => hs.at q
    wp_walk using wpAny_loadPart' hp1, wpAny_loadPart' hl, wpAny_load hl, q1
    exact ⟨_, rfl, h⟩
section
variable {prog : Program} {w : World} {A : Around} {E : Value → Shared → Prop} {s : Shared} {K : Frag} {x C L f : Addr} {h₀ : Heap} {m : Str → Option Value} {ox : Obj} {od : Option Obj} {a : Value} {Ta ida : String}
theorem mine_rc_refl {Q : Value → Shared → Prop} (hu : A.units < cLine) (X : K.In s.heap) (ha : s.TypeIs a Ta) (I : InstAt s.heap x ox C od) (e : subIn K (.ref C) (.type Ta) = some false) (h1 : Slot Ta (cmpInfo .Eq).2.1 ida)
    (hs : findIn K (.ref C) "__eq__" = some (some (.ref f))) (hf : isFn K (.ref f) = true)
    (hc : ∀ Q' : Value → Shared → Prop, Q' .notImplemented s → wpAny (model prog w) A (call (.builtin ida) [a, .ref x]) Q' E s)
    (h : wpAny (model prog w) A (call (.ref f) [.ref x, a]) (CmpBack Q) E s) : wpAny (model prog w) A (richCompare .Eq a (.ref x)) Q E s := by
  have one : wpAny (model prog w) A (tryCompare (.ref x) "__eq__" a) (fun r s' => ∃ v, r = some v ∧ Q v s') E s := by
    unfold tryCompare
    refine wpAny_bind (ifBound_K X I hs hf (wpAny_mono h (fun v s' hv => ?_) fun _ _ e => e))
    cases v <;> first | exact hv.elim | exact wpAny_pure ⟨_, rfl, hv⟩
  unfold richCompare
  simp only [ha.oneThing_none]
  refine wpAny_holding (wpAny_bind (wpAny_cRoomFor hu ?_))
  refine wpAny_bind (wpAny_typeOf ha (wpAny_bind (I.type.here ?_)))
  have hne : (Value.type Ta != Value.ref C) = true := by simp
  simp only [hne, if_true]
  refine wpAny_bind ((looks_subIn X e).here ?_)
  simp only [Bool.false_eq_true, if_false, Bool.not_false, if_true]
  refine wpAny_bind (m := tryCompare a _ (.ref x)) (wpAny_tryCompare_declines ha h1 (hc _ ⟨rfl, ?_⟩))
  refine wpAny_bind (m := tryCompare (.ref x) _ a) (wpAny_mono one (fun r s' z => ?_) fun _ _ e => e)
  obtain ⟨v, rfl, hq⟩ := z
  exact wpAny_pure hq
end
end PySem

namespace Mine
open PySem PySem.Spec PyProof.Rows L2
/-! ### a built-in value == an instance whose class has its own __eq__ -/
inductive TyP (H : Hp) : V → String → Prop
  | non : TyP H .non "NoneType"
  | bl (b : Bool) : TyP H (.bl b) "bool"
  | int (i : Int) : TyP H (.int i) "int"
  | str (s : Str) : TyP H (.str s) "str"
  | lst {a : Addr} {xs : List V} (e : H a = some (.lst xs)) : TyP H (.ref a) "list"
  | tup {a : Addr} {xs : List V} (e : H a = some (.tup xs)) : TyP H (.ref a) "tuple"
abbrev kinds6 : List String := ["NoneType", "bool", "int", "str", "tuple", "list"]
theorem TyP.mem {H : Hp} {x : V} {n : String} (h : TyP H x n) : n ∈ kinds6 := by cases h <;> decide
def rEqR (K : PySem.W.Frag) (ok : Addr → Sp → Prop) : R2 := fun x y H Q => ∃ a C dx fs n sp, y = .ref a ∧ H a = some (.ins C dx fs) ∧ ok C sp ∧ TyP H x n ∧ PySem.W.subIn K (.ref C) (.type n) = some false ∧ sp [y, x] H (fun v H' => ∃ b, v = .bl b ∧ Q (.bl b) H') E0
theorem op_eqR {X : Cx} {K : PySem.W.Frag} {n : Nat} {ok : Addr → Sp → Prop} (eK : X.K = K) (h : ∀ C sp, ok C sp → EqC X.prog X.w X.K X.mg X.base n C sp) (hr : Room n X.A) : OpR X (compareOp .Eq) (rEqR K ok) := by
  intro pins s σ H x y v u Q I rx ry ⟨a, C, dx, fs, T, sp, ex, ha, hok, ty, nf, hsp⟩
  subst eK ex
  obtain rfl : u = Value.ref a := ry
  obtain ⟨f, fd, ps, FO, hs, hf, hb⟩ := h C sp hok
  obtain ⟨mA, J, _⟩ := ins_get I.hok ha
  have hg : s.heap.get? a = some (PySem.W.instObj C dx) := (show ObjOk X.prog X.w H s.heap a (.ins C dx fs) from I.hok a _ ha).2.2.2.1
  obtain ⟨od, J, _⟩ := J.look
  have hl := FO.len _ _ _ _ hsp
  have fin : ∀ v, RelV x v → wpAny (model X.prog X.w) X.A (call (.ref f) [.ref a, v]) (PySem.W.CmpBack (EP X pins σ Q)) X.xe s := by
    intro v rx
    have r2 : Vals [V.ref a, x] [Value.ref a, v] := .cons rfl (.cons rx .nil)
    refine wpAny_call (codeAny_mono (FO.run X.A X.stack s H ⟨[.ref a, v], []⟩ [.ref a, v] [.ref a, x] _ E0 hr I.env0 (by
      have := hb s [.ref a, v] I.kIn (by simpa using hl)
      simpa using this) r2 hsp) fun r s' hq => ?_)
    cases r with
    | error e => exact pass0 pins σ H s e s' I hq
    | ok fl =>
      cases fl with
      | ret w =>
        obtain ⟨z, H', I', rz, b, ez, q⟩ := I.after hq
        subst ez
        have rz : w = Value.bool b := rz
        subst rz
        exact ⟨.bl b, H', I', rfl, q⟩
      | next => exact False.elim hq
      | brk => exact False.elim hq
      | cont => exact False.elim hq
  show wpAny (model X.prog X.w) X.A (richCompare .Eq v (.ref a)) (EP X pins σ Q) X.xe s
  have lk : ∀ M : Model, PySem.W.Looks M s.heap (isSubtype (.ref C) (.type T)) false := fun M => PySem.W.looks_subIn I.kIn nf
  cases ty with
  | non =>
    obtain rfl : v = Value.none := rx
    exact PySem.mine_rc_refl hr.units0 I.kIn rfl J nf F.slot_NoneType_eq hs hf (fun _ hq => call_gives F.slot_NoneType_eq rfl F.entry_NoneType_eq (F.args_NoneType_eq_2 _ _) (PySem.SeqAt.NoneType___eq___none_ref_0 a) hq) (fin _ rfl)
  | bl b =>
    obtain rfl : v = Value.bool b := rx
    exact PySem.mine_rc_refl hr.units0 I.kIn rfl J nf F.slot_bool_eq hs hf (fun _ hq => call_meets F.slot_bool_eq rfl F.entry_int_eq (F.args_int_eq_2 _ _) (mine_bool_eq_ins b a C dx) ⟨hg, hq⟩) (fin _ rfl)
  | int i =>
    obtain ⟨t, rfl⟩ := (show ∃ t, v = Value.int i t from rx)
    exact PySem.mine_rc_refl hr.units0 I.kIn (typeIs_int s i t) J nf F.slot_int_eq hs hf (fun _ hq => call_meets F.slot_int_eq (typeIs_int s i t) F.entry_int_eq (F.args_int_eq_2 _ _) (mine_int_eq_ins i t a C dx) ⟨hg, hq⟩) (fin _ ⟨t, rfl⟩)
  | str b =>
    obtain ⟨t, rfl⟩ := (show ∃ t, v = Value.str b t from rx)
    exact PySem.mine_rc_refl hr.units0 I.kIn (typeIs_str s b t) J nf F.slot_str_eq hs hf (fun _ hq => call_meets F.slot_str_eq (typeIs_str s b t) F.entry_str_eq (F.args_str_eq_2 _ _) (mine_str_eq_ins b t a C dx) ⟨hg, hq⟩) (fin _ ⟨t, rfl⟩)
  | @lst p xs e =>
    obtain rfl : v = Value.ref p := rx
    obtain ⟨_, its, k, _, ho⟩ := (show ObjOk X.prog X.w H s.heap p (.lst xs) from I.hok p _ e)
    exact PySem.mine_rc_refl hr.units0 I.kIn ⟨_, ho, rfl⟩ J nf F.slot_list_eq hs hf (fun _ hq => call_meets F.slot_list_eq ⟨_, ho, rfl⟩ F.entry_list_eq (F.args_list_eq_2 _ _) (mine_list_eq_ins p a C dx _ _ _ _) ⟨⟨ho, hg, lk⟩, hq⟩) (fin _ rfl)
  | @tup p xs e =>
    obtain rfl : v = Value.ref p := rx
    obtain ⟨_, its, _, ht⟩ := (show ObjOk X.prog X.w H s.heap p (.tup xs) from I.hok p _ e)
    obtain ⟨⟨cls, dd, data, sl⟩, ho, hc, n, hd⟩ := id ht
    simp only at hc hd
    subst hc hd
    exact PySem.mine_rc_refl hr.units0 I.kIn ⟨_, ho, rfl⟩ J nf F.slot_tuple_eq hs hf (fun _ hq => call_meets F.slot_tuple_eq ⟨_, ho, rfl⟩ F.entry_tuple_eq (F.args_tuple_eq_2 _ _) (mine_tuple_eq_ins p a C dx _ _ _ _) ⟨⟨ho, hg, lk⟩, hq⟩) (fin _ rfl)
def Dt.kindR : Dt → Bool
  | .non | .bl _ | .int _ | .str _ | .tup _ | .lst _ => true
  | _ => false
theorem Den.typ {K : PySem.W.Frag} {H : Hp} {X : Addr → Prop} {v : V} {d : Dt} (h : Den K (vis H X) v d) (hk : d.kindR = true) : ∃ n, TyP H v n := by
  cases d with
  | non => rw [h.flat rfl]; exact ⟨_, .non⟩
  | bl b => rw [h.flat rfl]; exact ⟨_, .bl b⟩
  | int b => rw [h.flat rfl]; exact ⟨_, .int b⟩
  | str b => rw [h.flat rfl]; exact ⟨_, .str b⟩
  | tup xs => cases h with
    | tup h1 _ => exact ⟨_, .tup (vis_sub _ _ h1)⟩
  | lst xs => cases h with
    | lst h1 _ => exact ⟨_, .lst (vis_sub _ _ h1)⟩
  | _ => cases hk
/-- of both kinds -/
def dEqB (tabE : Str → Option DFn) (tabC : Str → Bool) : D2 := fun x y Q => match y with
  | .ins c ns ds => (x.kindR = true ∧ ∃ F, tabE c = some F ∧ F [.d (.ins c ns ds), .d x] (fun r => ∃ b, r = .bl b ∧ Q (.bl b)) (fun _ => False)) ∨ (x.kindR = false ∧ dEqO tabE tabC x (.ins c ns ds) Q)
  | y => dEqO tabE tabC x y Q
structure EqTab2 (K : PySem.W.Frag) (tabE : Str → Option DFn) (tabC : Str → Bool) : Prop extends EqTab K tabE tabC where
  sub : ∀ c F, tabE c = some F → ∀ n, n ∈ kinds6 → PySem.W.subIn K (.ref (He.ga K c)) (.type n) = some false
theorem eqO_core {C : Bc} {X : Addr → Prop} {tabE : Str → Option DFn} {tabC : Str → Bool} (T : EqTab C.K tabE tabC) {env σ} {H2 : Hp} {d d2 : Dt} {v v2 : V} {Q : VK} {Qd : Dt → Prop} (rp2 : Rep C X env σ H2) (r1 : Den C.K (vis H2 X) v d) (r2 : Den C.K (vis H2 X) v2 d2) (he2 : dEqO tabE tabC d d2 Qd)
    (q : ∀ d3 v3 H3, Frm C.hd H2 H3 → Den C.K (vis H3 X) v3 d3 → Qd d3 → Q v3 H3) : rEqO C.K (okE C.K tabE) v v2 H2 Q ∨ rEqD C.K v v2 H2 Q := by
  have eqs : dEq d d2 Qd → rEqO C.K (okE C.K tabE) v v2 H2 Q ∨ rEqD C.K v v2 H2 Q := fun he2 => .inr (od_eq X env σ H2 H2 v v2 _ _ Q Qd rp2 (.inl r1) (.inl r2) he2 fun d3 v3 H3 f3 r3 => q d3 v3 H3 f3 r3)
  cases d with
  | ins c ns ds =>
    obtain ⟨F, hF, hy, he3⟩ := he2
    refine .inl ?_
    have r1' := r1
    cases r1 with
    | @ins p dx _ _ vs _ hp hl al =>
      have sp : spD C.K F [.ref p, v2] H2 (fun v H' => ∃ b, v = .bl b ∧ Q (.bl b) H') E0 := by
        refine spD_use rp2 (.d r1' (.d r2 .nil)) he3 (fun d v H' f h hq => ?_) fun _ _ _ _ _ _ z => z.elim
        obtain ⟨b, rfl, hq⟩ := hq
        have ev : v = .bl b := h.flat rfl
        exact ⟨b, ev, q _ _ H' f (.bl _) hq⟩
      cases d2 with
      | ins c' ns' ds' =>
        have r2' := r2
        cases r2' with
        | @ins p2 dx2 _ _ vs2 _ hp2 hl2 al2 =>
          exact ⟨p, _, dx, _, _, _, rfl, vis_sub _ _ hp, ⟨c, F, hF, rfl, rfl⟩, T.ins _ hy _ _ _ _ (vis_sub _ _ hp2), T.own _ _ _ hF hy, sp⟩
      | _ =>
        obtain ⟨n, hn⟩ := Option.isSome_iff_exists.mp hy
        exact ⟨p, _, dx, _, _, _, rfl, vis_sub _ _ hp, ⟨c, F, hF, rfl, rfl⟩, (Bor.tyx (H1 := H2) (.inl r2) hn), T.kin _ _ hF n (Dt.kind_mem hn), sp⟩
  | _ => exact eqs he2
theorem de_eqB {C : Bc} {ta tb : TE} {a b : DX} {tabE : Str → Option DFn} {tabC : Str → Bool} (T : EqTab2 C.K tabE tabC) (ha : DE C ta a) (hb : DE C tb b) :
    DE C (tOp (fun x y H Q => rEqR C.K (okE C.K tabE) x y H Q ∨ (rEqO C.K (okE C.K tabE) x y H Q ∨ rEqD C.K x y H Q)) ta tb) (eOp (dEqB tabE tabC) a b) := by
  intro X env σ H Q Qd Qx rp he q x
  refine ha X env σ H _ _ Qx rp he (fun d v H1 f1 r1 he1 => ?_) x
  have rp1 := rp.step f1
  refine hb X env σ H1 _ _ Qx rp1 he1 (fun d2 v2 H2 f2 r2 he2 => ?_) (x.step f1)
  have rp2 := rp1.step f2
  have r1 : Den C.K (vis H2 X) v d := Den.mono (rp1.vs f2) r1
  have r2 : Den C.K (vis H2 X) v2 d2 := r2
  have old : dEqO tabE tabC d d2 Qd → rEqR C.K (okE C.K tabE) v v2 H2 Q ∨ (rEqO C.K (okE C.K tabE) v v2 H2 Q ∨ rEqD C.K v v2 H2 Q) := fun he2 =>
    .inr (eqO_core T.toEqTab rp2 r1 r2 he2 fun d3 v3 H3 f3 r3 => q d3 v3 H3 (f1.trans (f2.trans f3)) r3)
  cases d2 with
  | ins c' ns' ds' =>
    rcases he2 with ⟨hk, F, hF, he3⟩ | ⟨_, he3⟩
    · refine .inl ?_
      obtain ⟨n, hn⟩ := Den.typ r1 hk
      have r2' := r2
      cases r2' with
      | @ins p dx _ _ vs _ hp hl al =>
        have sp : spD C.K F [.ref p, v] H2 (fun v H' => ∃ b, v = .bl b ∧ Q (.bl b) H') E0 := by
          refine spD_use rp2 (.d r2 (.d r1 .nil)) he3 (fun d v H' f h hq => ?_) fun _ _ _ _ _ _ z => z.elim
          obtain ⟨b, rfl, hq⟩ := hq
          have ev : v = .bl b := h.flat rfl
          exact ⟨b, ev, q _ _ H' (f1.trans (f2.trans f)) (.bl _) hq⟩
        exact ⟨p, _, dx, _, _, _, rfl, vis_sub _ _ hp, ⟨c', F, hF, rfl, rfl⟩, hn, T.sub _ _ hF n hn.mem, sp⟩
    · exact old he3
  | _ => exact old he2
end Mine

namespace Mine
open PySem PySem.Spec PyProof.Rows L2
/-! ### the tables for == of own classes -/
abbrev kindsT : List String := ["NoneType", "bool", "int", "str", "tuple", "list", "dict"]
def eqsB (cs : List Str) (K : PySem.W.Frag) : Bool := cs.all fun c => (kindsT.all fun n => PySem.W.notFirst K (He.ga K c) (.type n)) && ((kinds6.all fun n => decide (PySem.W.subIn K (.ref (He.ga K c)) (.type n) = some false)) && cs.all fun c' => PySem.W.notFirst K (He.ga K c) (.ref (He.ga K c')))
structure EqsOk (K : PySem.W.Frag) (cs : List Str) : Prop where
  kin : ∀ c, c ∈ cs → ∀ n, n ∈ ["NoneType", "bool", "int", "str", "tuple", "list", "dict"] → PySem.W.notFirst K (He.ga K c) (.type n) = true
  sub : ∀ c, c ∈ cs → ∀ n, n ∈ kinds6 → PySem.W.subIn K (.ref (He.ga K c)) (.type n) = some false
  own : ∀ c, c ∈ cs → ∀ c', c' ∈ cs → PySem.W.notFirst K (He.ga K c) (.ref (He.ga K c')) = true
theorem eqsB_ok {cs : List Str} {K : PySem.W.Frag} (h : eqsB cs K = true) : EqsOk K cs := by
  have h1 := fun c hc => (Bool.and_eq_true_iff.mp (List.all_eq_true.mp h c hc))
  refine ⟨fun c hc n hn => List.all_eq_true.mp (h1 c hc).1 n hn, fun c hc n hn => of_decide_eq_true (List.all_eq_true.mp (Bool.and_eq_true_iff.mp (h1 c hc).2).1 n hn), fun c hc c' hc' => List.all_eq_true.mp (Bool.and_eq_true_iff.mp (h1 c hc).2).2 c' hc'⟩
theorem eqt_of {K : PySem.W.Frag} {cs : List Str} {tabE : Str → Option DFn} {tabC : Str → Bool} (e : EqsOk K cs) (hE : ∀ c F, tabE c = some F → c ∈ cs) (hC : ∀ c, tabC c = true → c ∈ cs)
    (hI : ∀ c, c ∈ cs → Cls K (He.ga K c) ∧ InsK K (He.ga K c)) : EqTab2 K tabE tabC where
  kin c F h n hn := e.kin c (hE c F h) n hn
  own c F c' h h' := e.own c (hE c F h) c' (hC c' h')
  ins c' h' := fun H a dx fs q => tyx_ins (hI c' (hC c' h')).1 (hI c' (hC c' h')).2 H a dx fs q
  sub c F h n hn := e.sub c (hE c F h) n hn
/-! what == says in the pure part -/
section
variable {tabE : Str → Option DFn} {tabC : Str → Bool} {Q : Dt → Prop}
theorem eqB_ins {c c' : Str} {ns ns' : List Str} {ds ds' : List Dt} {F : DFn} (hF : tabE c = some F) (hC : tabC c' = true) (h : F [.d (.ins c ns ds), .d (.ins c' ns' ds')] (fun r => ∃ b, r = .bl b ∧ Q (.bl b)) (fun _ => False)) : dEqB tabE tabC (.ins c ns ds) (.ins c' ns' ds') Q := .inr ⟨rfl, F, hF, hC, h⟩
theorem eqB_left {c : Str} {ns : List Str} {ds : List Dt} {y : Dt} {F : DFn} (hF : tabE c = some F) (hy : y.kindR = true) (h : F [.d (.ins c ns ds), .d y] (fun r => ∃ b, r = .bl b ∧ Q (.bl b)) (fun _ => False)) : dEqB tabE tabC (.ins c ns ds) y Q := by
  cases y <;> first | cases hy; done | exact ⟨F, hF, rfl, h⟩
theorem eqB_right {c : Str} {ns : List Str} {ds : List Dt} {x : Dt} {F : DFn} (hF : tabE c = some F) (hx : x.kindR = true) (h : F [.d (.ins c ns ds), .d x] (fun r => ∃ b, r = .bl b ∧ Q (.bl b)) (fun _ => False)) : dEqB tabE tabC x (.ins c ns ds) Q := .inl ⟨hx, F, hF, h⟩
theorem eqB_plain {x y : Dt} (hx : x.kindR = true) (hy : y.kindR = true) (h : dEq x y Q) : dEqB tabE tabC x y Q := by
  cases y <;> first | (cases hy; done) | (cases x <;> first | (cases hx; done) | exact h)
end
end Mine

namespace Mine
open PySem PySem.Spec PyProof.Rows L2
/-! ### len(set(xs)) of whole numbers; targets of four and five names -/
def eLenSet (a : DX) : DX := fun env Q E => a env (fun d => ∃ ns : List Int, d = .lst (ns.map Dt.int) ∧ ns.length ≤ 4000 ∧ Q (.int (firstMet (fun i => ns.getD i 0) ns.length).length)) E
theorem eLenSet_W (a : DX) {env} {Q} {E} : eLenSet a env Q E = a env (fun d => ∃ ns : List Int, d = .lst (ns.map Dt.int) ∧ ns.length ≤ 4000 ∧ Q (.int (firstMet (fun i => ns.getD i 0) ns.length).length)) E := rfl
theorem de_lenSet {C : Bc} {te : TE} {ea : DX} (he : DB C te ea) : DE C (tLenD C.K te) (eLenSet ea) := by
  intro X env σ H Q Qd Qx rp h q x
  refine he X env σ H _ _ Qx rp h (fun d v H1 f1 r1 ⟨ns, e, hl, h1⟩ => ?_) x
  subst e
  obtain ⟨p, vs, rfl, hp, a⟩ := r1.lst
  refine ⟨p, ns, rfl, .inl (.inl (by rw [← a.ints_of]; exact hp)), hl, fun m em => ?_⟩
  subst em
  exact q _ _ _ f1 (.int _) h1
def gD4 (i j k l : Nat) : DGX := fun d env Q => match d with
  | .tup [a, b, c, e] => Q ((((env.set i (.d a)).set j (.d b)).set k (.d c)).set l (.d e))
  | _ => False
theorem gD4_W (i j k l : Nat) {d} {env} {Q} : gD4 i j k l d env Q = (match d with
  | .tup [a, b, c, e] => Q ((((env.set i (.d a)).set j (.d b)).set k (.d c)).set l (.d e))
  | _ => False) := rfl
def gD5 (i j k l m : Nat) : DGX := fun d env Q => match d with
  | .tup [a, b, c, e, f] => Q (((((env.set i (.d a)).set j (.d b)).set k (.d c)).set l (.d e)).set m (.d f))
  | _ => False
theorem gD5_W (i j k l m : Nat) {d} {env} {Q} : gD5 i j k l m d env Q = (match d with
  | .tup [a, b, c, e, f] => Q (((((env.set i (.d a)).set j (.d b)).set k (.d c)).set l (.d e)).set m (.d f))
  | _ => False) := rfl
section
variable {C : Bc}
theorem dg_four (i j l m : Nat) : DG C (gTup C.K 4 (gCons (gName i) (gCons (gName j) (gCons (gName l) (gCons (gName m) gNil))))) [i, j, l, m] (gD4 i j l m) := by
  intro X env σ H x d Q Qd rp hd he q
  unfold gD4 at he
  split at he
  · obtain ⟨p, vs, rfl, h1, a⟩ := hd.tupI
    cases a with
    | @cons v1 _ _ _ a1 a =>
      cases a with
      | @cons v2 _ _ _ a2 a =>
        cases a with
        | @cons v3 _ _ _ a3 a =>
          cases a with
          | @cons v4 _ _ _ a4 a =>
            cases a
            refine ⟨p, _, rfl, .inl (.inl (vis_sub _ _ h1)), rfl, v1, _, rfl, v2, _, rfl, v3, _, rfl, v4, _, rfl, rfl, ?_⟩
            refine q _ _ ((((rp.set i a1).set j a2).set l a3).set m a4) he (by rw [List.length_set, List.length_set, List.length_set, List.length_set]) (fun k hk => ?_) (fun k xs e => by
              obtain ⟨a0, b0⟩ := own_set (σ := ((σ.set i (some v1)).set j (some v2)).set l (some v3)) (o := some v4) k xs e
              obtain ⟨a1, b1⟩ := own_set (σ := (σ.set i (some v1)).set j (some v2)) (o := some v3) k xs a0
              obtain ⟨a2, b2⟩ := own_set (σ := σ.set i (some v1)) (o := some v2) k xs a1
              obtain ⟨a3, b3⟩ := own_set (σ := σ) (o := some v1) k xs a2
              exact ⟨a3, b0.trans (b1.trans (b2.trans b3))⟩)
            have e1 : i ≠ k := fun z => hk (by simp [z])
            have e2 : j ≠ k := fun z => hk (by simp [z])
            have e3 : l ≠ k := fun z => hk (by simp [z])
            have e4 : m ≠ k := fun z => hk (by simp [z])
            rw [List.getElem?_set, if_neg e4, List.getElem?_set, if_neg e3, List.getElem?_set, if_neg e2, List.getElem?_set, if_neg e1]
  · exact he.elim
theorem dg_five (i j l m n : Nat) : DG C (gTup C.K 5 (gCons (gName i) (gCons (gName j) (gCons (gName l) (gCons (gName m) (gCons (gName n) gNil)))))) [i, j, l, m, n] (gD5 i j l m n) := by
  intro X env σ H x d Q Qd rp hd he q
  unfold gD5 at he
  split at he
  · obtain ⟨p, vs, rfl, h1, a⟩ := hd.tupI
    cases a with
    | @cons v1 _ _ _ a1 a =>
      cases a with
      | @cons v2 _ _ _ a2 a =>
        cases a with
        | @cons v3 _ _ _ a3 a =>
          cases a with
          | @cons v4 _ _ _ a4 a =>
            cases a with
            | @cons v5 _ _ _ a5 a =>
              cases a
              refine ⟨p, _, rfl, .inl (.inl (vis_sub _ _ h1)), rfl, v1, _, rfl, v2, _, rfl, v3, _, rfl, v4, _, rfl, v5, _, rfl, rfl, ?_⟩
              refine q _ _ (((((rp.set i a1).set j a2).set l a3).set m a4).set n a5) he (by rw [List.length_set, List.length_set, List.length_set, List.length_set, List.length_set]) (fun k hk => ?_) (fun k xs e => by
                obtain ⟨a9, b9⟩ := own_set (σ := (((σ.set i (some v1)).set j (some v2)).set l (some v3)).set m (some v4)) (o := some v5) k xs e
                obtain ⟨a0, b0⟩ := own_set (σ := ((σ.set i (some v1)).set j (some v2)).set l (some v3)) (o := some v4) k xs a9
                obtain ⟨a1, b1⟩ := own_set (σ := (σ.set i (some v1)).set j (some v2)) (o := some v3) k xs a0
                obtain ⟨a2, b2⟩ := own_set (σ := σ.set i (some v1)) (o := some v2) k xs a1
                obtain ⟨a3, b3⟩ := own_set (σ := σ) (o := some v1) k xs a2
                exact ⟨a3, b9.trans (b0.trans (b1.trans (b2.trans b3)))⟩)
              have e1 : i ≠ k := fun z => hk (by simp [z])
              have e2 : j ≠ k := fun z => hk (by simp [z])
              have e3 : l ≠ k := fun z => hk (by simp [z])
              have e4 : m ≠ k := fun z => hk (by simp [z])
              have e5 : n ≠ k := fun z => hk (by simp [z])
              rw [List.getElem?_set, if_neg e5, List.getElem?_set, if_neg e4, List.getElem?_set, if_neg e3, List.getElem?_set, if_neg e2, List.getElem?_set, if_neg e1]
  · exact he.elim
end
end Mine

namespace Mine
open PySem PySem.Spec PyProof.Rows L2
/-! ### list(range(..)), tuple(range(..)) -/
def eRgL (a b : DX) (k : List Dt → Dt) : DX := fun env Q E => a env (fun x => b env (fun y => match x, y with
  | .int i, .int j => (-(2 ^ 62) ≤ i ∧ i < 2 ^ 62 ∧ -(2 ^ 62) ≤ j ∧ j < 2 ^ 62 ∧ (j - i).toNat ≤ 16777216) ∧ Q (k ((List.range (j - i).toNat).map fun n : Nat => Dt.int (i + (n : Nat))))
  | _, _ => False) E) E
theorem eRgL_W (a b : DX) (k : List Dt → Dt) {env} {Q} {E} : eRgL a b k env Q E = a env (fun x => b env (fun y => match x, y with
  | .int i, .int j => (-(2 ^ 62) ≤ i ∧ i < 2 ^ 62 ∧ -(2 ^ 62) ≤ j ∧ j < 2 ^ 62 ∧ (j - i).toNat ≤ 16777216) ∧ Q (k ((List.range (j - i).toNat).map fun n : Nat => Dt.int (i + (n : Nat))))
  | _, _ => False) E) E := rfl
theorem den_rg {K : PySem.W.Frag} {H : Hp} (i j : Int) : DenAll K H (rgV i j) ((List.range (j - i).toNat).map fun n : Nat => Dt.int (i + (n : Nat))) := by
  unfold rgV
  generalize List.range (j - i).toNat = l
  induction l with
  | nil => exact .nil
  | cons x l ih => exact .cons (.int _) ih
section
variable {C : Bc} {ta tb : TE} {a b : DX}
theorem rg_core (ha : DE C ta a) (hb : DE C tb b) {X env σ H} {Qd : Dt → Prop} {Qx : Xc → Prop} {k : List Dt → Dt} {R : Int → Int → Hp → Prop} (rp : Rep C X env σ H) (h : eRgL a b k env Qd Qx) (x : XOk C X σ H Qx)
    (q : ∀ i j H', Frm C.hd H H' → Rep C X env σ H' → RgOk i j → Qd (k ((List.range (j - i).toNat).map fun n : Nat => Dt.int (i + (n : Nat)))) → R i j H') : tRg2 ta tb σ H R := by
  refine ha X env σ H _ _ Qx rp h (fun d v H1 f1 r1 h1 => ?_) x
  have rp1 := rp.step f1
  refine hb X env σ H1 _ _ Qx rp1 h1 (fun d2 v2 H2 f2 r2 h2 => ?_) (x.step f1)
  have r1 : Den C.K (vis H2 X) v d := Den.mono (rp1.vs f2) r1
  have r2 : Den C.K (vis H2 X) v2 d2 := r2
  split at h2
  · exact ⟨_, _, r1.flat rfl, r2.flat rfl, q _ _ _ (f1.trans f2) (rp1.step f2) h2.1 h2.2⟩
  · exact h2.elim
theorem df_listRg (ha : DE C ta a) (hb : DE C tb b) : DF C (tLstRg (tRg2 ta tb)) (eRgL a b .lst) := by
  intro X env σ H Q Qd Qx rp h q x
  exact rg_core ha hb rp h x fun i j H' f r ok h' => ⟨ok, fun p hp => q _ _ _ (f.trans (.upd hp)) (Fsh.frm rp f (fsh_new r hp (den_rg i j))) h'⟩
theorem de_tupRg (ha : DE C ta a) (hb : DE C tb b) : DE C (tTupRg (tRg2 ta tb)) (eRgL a b .tup) := by
  intro X env σ H Q Qd Qx rp h q x
  exact rg_core ha hb rp h x fun i j H' f r ok h' => ⟨ok, fun p hp => q _ _ _ (f.trans (.upd hp)) (cln_new r hp (den_rg i j)) h'⟩
theorem rg_core1 (hb : DE C tb b) {X env σ H} {Qd : Dt → Prop} {Qx : Xc → Prop} {k : List Dt → Dt} {R : Int → Int → Hp → Prop} (rp : Rep C X env σ H) (h : eRgL (eC (.int 0)) b k env Qd Qx) (x : XOk C X σ H Qx)
    (q : ∀ i j H', Frm C.hd H H' → Rep C X env σ H' → RgOk i j → Qd (k ((List.range (j - i).toNat).map fun n : Nat => Dt.int (i + (n : Nat)))) → R i j H') : tRg1 tb σ H R := by
  refine hb X env σ H _ _ Qx rp h (fun d2 v2 H2 f2 r2 h2 => ?_) x
  have r2 : Den C.K (vis H2 X) v2 d2 := r2
  cases d2 with
  | int j => exact ⟨_, r2.flat rfl, q _ _ _ f2 (rp.step f2) h2.1 h2.2⟩
  | _ => exact h2.elim
theorem df_listRg1 (hb : DE C tb b) : DF C (tLstRg (tRg1 tb)) (eRgL (eC (.int 0)) b .lst) := by
  intro X env σ H Q Qd Qx rp h q x
  exact rg_core1 hb rp h x fun i j H' f r ok h' => ⟨ok, fun p hp => q _ _ _ (f.trans (.upd hp)) (Fsh.frm rp f (fsh_new r hp (den_rg i j))) h'⟩
theorem de_tupRg1 (hb : DE C tb b) : DE C (tTupRg (tRg1 tb)) (eRgL (eC (.int 0)) b .tup) := by
  intro X env σ H Q Qd Qx rp h q x
  exact rg_core1 hb rp h x fun i j H' f r ok h' => ⟨ok, fun p hp => q _ _ _ (f.trans (.upd hp)) (cln_new r hp (den_rg i j)) h'⟩
end
end Mine

namespace Mine
open PySem PySem.Spec PyProof.Rows L2 PpSet
/-! ### a set comprehension whose items are tuples of whole numbers -/
section
variable {P : Program} {w : World} {A : Around} {E : Value → Shared → Prop} {s : Shared} {a : Addr} {L : List (Addr × List Int)} {es : Array (Int × Value)} {ep : Nat} {t : SetTable}
theorem set_add_tup {x : Addr} {k : List Int} {Q : Value → Shared → Prop} (R : SetTR P w s.heap a L es ep t) (hx : IsT P w s.heap k x) (hu : A.units + 3 < cLine) (hfew : L.length + 1 < 64)
    (hQ : ∀ h' tk L' es' ep' t', Heap.SameBut a s.heap h' → SetTR P w h' a L' es' ep' t' → (k ∈ L.map (·.2) → L' = L) → (k ∉ L.map (·.2) → L'.Perm ((x, k) :: L)) → Q .none { s with heap := h', toks := tk }) :
    wpAny (model P w) A (call (.builtin "set.add") [.ref a, .ref x]) Q E s := by
  have hT : s.TypeIs (.ref a) "set" := by
    obtain ⟨o, ho, hex, _⟩ := R.ob
    exact ⟨o, ho, hex.1⟩
  refine wpAny_call_entry F.slot_set_add hT F.entry_set_add ?_ (F.args_set_add_2 _ _)
  unfold Builtin.«set.add» Builtin.Frozenset.oneOther
  simp only [List.isEmpty_nil, bind_assoc]
  unfold Builtin.Frozenset.addrOf setAdd
  refine wpAny_bind (wpAny_pure ?_)
  try dsimp only
  refine wpAny_bind (wpAny_pure ?_)
  try dsimp only
  refine wpAny_bind ?_
  refine wpAny_holding ?_
  refine wpAny_bind (wpAny_pyHash_tuple ?_ hx ?_)
  · rw [Around.in1_units]; omega
  refine add_at (s := { s with toks := s.toks + (k.length + 1) }) R hx ?_ hfew fun b h' L' es' ep' t' hsb hS c1 c2 => ?_
  · rw [Around.in1_units]; omega
  show wpAny _ _ (ret Value.none) _ _ _
  exact wpAny_pure ⟨_, rfl, hQ h' _ L' es' ep' t' hsb hS c1 c2⟩
end
section
variable {X : Cx}
/-- set.add of a tuple, as tracked things -/
theorem addT_ok {pins : List (Addr × Obj)} {σ : L2.St} {H : Hp} {s : Shared} {E : Value → Shared → Prop} {D x : Addr} {k : List Int} {L : List (Addr × List Int)} {Q : Value → Shared → Prop} (I : Inv X pins σ H s) (hD : H D = some (SetTO X.prog X.w D L)) (hu : X.A.units + 3 < cLine)
    (hL : ∀ p ∈ L, SqT X.K H p.1 (p.2.map V.int)) (hx : SqT X.K H x (k.map V.int)) (hfew : L.length + 1 < 64)
    (h : ∀ L' s', (k ∈ L.map (·.2) → L' = L) → (k ∉ L.map (·.2) → L'.Perm ((x, k) :: L)) → Inv X pins σ (upd H D (SetTO X.prog X.w D L')) s' → Q .none s') : wpAny (model X.prog X.w) X.A (call (.builtin "set.add") [.ref D, .ref x]) Q E s := by
  have R0 : SetT0 X.prog X.w s.heap D L := (I.hok D _ hD).1
  obtain ⟨es, ep, t, R⟩ := R0.full fun p hp => I.isT (hL p hp)
  refine set_add_tup R (I.isT hx) hu hfew fun h' tk L' es' ep' t' sb R' c1 c2 => ?_
  have he : ∃ u, h'.get? D = some u := by
    obtain ⟨o, ho, _⟩ := R'.ob
    exact ⟨o, ho⟩
  exact h L' _ c1 c2 (I.write (e := D) (t' := tk) (by rw [hD]; trivial) (.inl rfl) (fun b u hb hu => (sb.2 b hb).trans hu) he (setTO_new R'.t0))
/-- {elt for target in iter if ..}, elt a tuple of whole numbers: D the new set, L what it holds -/
def tScT (K : PySem.W.Frag) (P : Program) (w : World) (wi : TI) (g : TG) (tt : TT) (te : TE) (vs : List Nat) : TE := fun σ H Q => wi σ H fun J H1 => ∀ D, H1 D = none → ∃ W : Nat → Nat → Hp → Prop, (∃ m, W 0 m (upd H1 D (SetTO P w D []))) ∧ ∀ i m H, W i m H →
  (J.stop i H ∧ Q (.ref D) H) ∨ (J.go i H ∧ ∃ Nx : Hp → Prop, (∀ H', Nx H' → ∃ m', m' < m ∧ W (i + 1) m' H') ∧ ∀ x H', J.yld i H x H' → g x (wipe σ vs) H' fun σ2 H2 => wipe σ2 vs = wipe σ vs ∧ tt σ2 H2 fun b H3 =>
    if b = true then te σ2 H3 fun y H4 => ∃ (p : Addr) (k : List Int) (L : List (Addr × List Int)), y = .ref p ∧ SqT K H4 p (k.map V.int) ∧ H4 D = some (SetTO P w D L) ∧ (∀ q ∈ L, SqT K H4 q.1 (q.2.map V.int)) ∧ L.length + 1 < 64 ∧
      ∀ L', (k ∈ L.map (·.2) → L' = L) → (k ∉ L.map (·.2) → L'.Perm ((p, k) :: L)) → Nx (upd H4 D (SetTO P w D L')) else Nx H3)
theorem pe_scT {elt tg iter : Expr} {ifs : List Expr} {scope : Scope} {own : List (PySem.Str × Nat)} {pos : Pos} {wi : TI} {g : TG} {tt : TT} {te : TE} (hc : X.calm = true) (hu : X.A.units + 64 < cLine) (hN : X.N.Nodup) (hi : PI X tg iter wi) (ok : BlkOk X.N X.env.scope scope own)
    (hg : ∀ (s : Shared) (H : Hp) (C : Addr) (cl : List (PySem.Str × Addr)) (fp : List Addr), PG (X.blk s H scope (compEnvC scope cl C X.env) fp) tg g) (ht : ∀ (s : Shared) (H : Hp) (C : Addr) (cl : List (PySem.Str × Addr)) (fp : List Addr), PTs (X.blk s H scope (compEnvC scope cl C X.env) fp) ifs tt)
    (he : ∀ (s : Shared) (H : Hp) (C : Addr) (cl : List (PySem.Str × Addr)) (fp : List Addr), PE (X.blk s H scope (compEnvC scope cl C X.env) fp) elt te) (hs : ∀ x, foldedSetIterable iter X.env x = pure x := by intro _; rfl) :
    PE X (.SetComp elt [⟨tg, iter, ifs, 0⟩] scope pos) (tScT X.K X.prog X.w wi g tt te (own.map (·.2))) := by
  refine ⟨fun pins s σ H Q I h => ?_⟩
  rw [eval_SetComp]
  have cells : ∀ y ∈ scope.names, y.2 = .free → ∃ c, X.env.cells.lookup y.1 = some c := fun y hy e => (ok.free y hy e).elim (fun k => I.ok.has _ (.inl k)) fun k => I.ok.has _ (.inr k)
  refine wpAny_comprehension_free (use := none) rfl hs (closure_ok cells) ok.kind (fun y hy e => by rw [ok.uniq y hy, e]) (thn (hi.run pins s σ H _ I h) fun xv s1 hx => thn hx fun itv s2 h2 => ?_)
  obtain ⟨it, fp, tn, J, H2, rfl, I2, T, st2, f2, q⟩ := h2
  refine newSet_ok (newEnv_comp ?_)
  generalize hD : s2.heap.objs.size = D
  obtain ⟨W, ⟨m0, w0⟩, turn⟩ := q D (I2.hok.fresh (Nat.le_of_eq hD))
  generalize hs3 : ({ s2 with heap := s2.heap.push { cls := .type "set", dict := none, data := .set #[] 0 (.fresh 0 0 (!X.w.params.followText "set-order")) } } : Shared) = s3
  have e3 : s3.heap = s2.heap.push { cls := .type "set", dict := none, data := .set #[] 0 (.fresh 0 0 (!X.w.params.followText "set-order")) } := by rw [← hs3]
  have keep3 : ∀ b o, s2.heap.get? b = some o → s3.heap.get? b = some o := fun b o e => by rw [e3]; exact Heap.get?_push_of_some _ e
  have I3 : Inv X pins σ (upd H2 D (SetTO X.prog X.w D [])) s3 := by
    rw [← hs3]
    refine I2.laid (t' := s2.toks) (fun b o e => Heap.get?_push_of_some _ e) (Nat.le_of_eq hD) (setTO_new (SetTR.t0 (setTR_fresh ?_)))
    rw [← hD]
    exact Heap.get?_push_size _ rfl
  have low : ∀ b ∈ fp, b < s2.heap.objs.size := fun b hb => Heap.lt_size (T.obj _ _ st2 b hb).choose_spec.1
  have f3 : ∀ b ∈ fp, FpOk X pins (upd H2 D (SetTO X.prog X.w D [])) b ∧ b < s3.heap.objs.size := fun b hb =>
    ⟨⟨by rw [upd_ne (by rw [← hD]; exact Nat.ne_of_lt (low b hb))]; exact (f2 b hb).1, (f2 b hb).2⟩, by rw [e3, Heap.size_push]; exact Nat.lt_succ_of_lt (low b hb)⟩
  have I4 := block_start I3 ok hN f3
  generalize hH3 : upd H2 D (SetTO X.prog X.w D []) = H3 at I3 I4 w0 f3
  have pg := hg s3 H3 s3.heap.objs.size (cellsFrom (s3.heap.objs.size + 1) scope.names (cloFrom X.env.cells scope.names [])) fp
  have pt := ht s3 H3 s3.heap.objs.size (cellsFrom (s3.heap.objs.size + 1) scope.names (cloFrom X.env.cells scope.names [])) fp
  have pe := he s3 H3 s3.heap.objs.size (cellsFrom (s3.heap.objs.size + 1) scope.names (cloFrom X.env.cells scope.names [])) fp
  show codeAny _ _ (.compStart (.SetComp elt [⟨tg, iter, ifs, 0⟩] scope pos) 0 (.ref it) (.ref D) (compEnvC scope (cellsFrom (s3.heap.objs.size + 1) scope.names (cloFrom X.env.cells scope.names [])) s3.heap.objs.size X.env)) _ { s3 with heap := pushCells (s3.heap.push { cls := .type "dict", data := .dict #[] }) scope.names }
  generalize hce : compEnvC scope (cellsFrom (s3.heap.objs.size + 1) scope.names (cloFrom X.env.cells scope.names [])) s3.heap.objs.size X.env = ce at I4 pg pt pe ⊢
  have cL : ce.locals = s3.heap.objs.size := by subst hce; rfl
  generalize hs4 : ({ s3 with heap := pushCells (s3.heap.push { cls := .type "dict", data := .dict #[] }) scope.names } : Shared) = s4 at I4 ⊢
  have st4 : tn 0 s4.heap := T.keep _ _ _ st2 fun b _ o e => by rw [← hs4]; exact pushCells_keeps _ _ _ _ (Heap.get?_push_of_some _ (keep3 b o e))
  have stands : ∀ {σ' : L2.St} {H' : Hp} {s' : Shared}, Inv (X.blk s3 H3 scope ce fp) [] σ' H' s' → (∀ b ∈ fp, H' b = none) → ∀ b ∈ fp, FpOk (X.blk s3 H3 scope ce fp) [] H' b := fun {σ' H' s'} I' hn b hb =>
    ⟨hn b hb, (I'.ok.exf b hb).1, I'.ok.exfs b hb, .inl hb, fun x c e => (I'.ok.exf b hb).2 x c e, fun p hp => absurd (show p ∈ ([] : List (Addr × Obj)) ++ [] from hp) (by simp)⟩
  refine (fun loop => codeAny_compStart_set loop (T.self X.A 0 _ _ _ st4 loop)) ?_
  refine compLoopS_any (fun n s' => ∃ i H', Inv (X.blk s3 H3 scope ce fp) [] (wipe σ (own.map (·.2))) H' s' ∧ tn i s'.heap ∧ (∀ b ∈ fp, H' b = none) ∧ W i n H') ?_ m0 ⟨0, H3, I4, st4, fun b hb => (f3 b hb).1.1, w0⟩
  rintro n s5 ⟨i, H5, I5, st5, n5, w5⟩
  rcases turn i n H5 w5 with ⟨stop, qq⟩ | ⟨go, Nx, hNx, step⟩
  · refine thnF (T.done (X.blk s3 H3 scope ce fp) rfl rfl rfl hc i [] s5 _ H5 (fun _ _ => False) I5 (stands I5 n5) st5 stop) fun r s6 ⟨hr, I6⟩ => ?_
    subst hr
    have I7 : Inv X pins σ H5 s6 := I3.call' (ch := fp) I6.os I6.base I6.hok I6.bare fun b hb => ⟨(f3 b hb).1.2.2.2.1, (f3 b hb).1.2.1, (f3 b hb).1.2.2.2.2.1, (f3 b hb).1.2.2.2.2.2⟩
    have nC : H5 s3.heap.objs.size = none := by
      have z : H5 ce.locals = none := I6.free
      rwa [cL] at z
    obtain ⟨m, hn, _⟩ := I6.loc
    have hn : s6.heap.Ns ce.locals m := hn
    rw [cL] at hn
    obtain ⟨g0, g1, g2, g3, g4, g5⟩ := I3.fpOk (Nat.le_refl _) nC
    exact ⟨m, hn, fun h'' sb => ⟨.ref D, H5, I7.turned (t' := s6.toks) (fun b o hb e => (sb.2 b hb).trans e) g0 g1 g3 g4 g5, rfl, qq⟩⟩
  · refine thnF (T.item (X.blk s3 H3 scope ce fp) rfl rfl rfl hc i [] s5 _ H5 (fun _ _ => False) I5 (stands I5 n5) st5 go) fun r s6 ⟨u, hr, h6⟩ => ?_
    subst hr
    refine thnF h6 fun _ s7 ⟨x, H7, I7, r7, y7, st7, n7⟩ => ?_
    refine thnF (pg.run _ s7 _ H7 x u _ (I7.pinned (stands I7 n7) (T.obj _ _ st7)) r7 (step x H7 y7)) fun _ s8 ⟨σ8, H8, I8, hw8, q8⟩ => ?_
    refine thnF (pt.run _ s8 σ8 H8 _ I8 q8) fun b s9 ⟨H9, I9, q9⟩ => ?_
    have fin : ∀ {s' : Shared} {H' : Hp}, Inv (X.blk s3 H3 scope ce fp) ([] ++ pinsAt fp s7.heap) σ8 H' s' → Nx H' → ∃ m, m < n ∧ ∃ i H', Inv (X.blk s3 H3 scope ce fp) [] (wipe σ (own.map (·.2))) H' s' ∧ tn i s'.heap ∧ (∀ b ∈ fp, H' b = none) ∧ W i m H' := fun {s' H'} I' nx => by
      obtain ⟨m', hm, w'⟩ := hNx H' nx
      have held : ∀ b ∈ fp, ∀ o, s7.heap.get? b = some o → s'.heap.get? b = some o ∧ H' b = none := fun b hb o e =>
        ⟨(I'.pin (b, o) (List.mem_append_right _ (List.mem_append_right _ (mem_pinsAt hb e)))).1, (I'.pin (b, o) (List.mem_append_right _ (List.mem_append_right _ (mem_pinsAt hb e)))).2.1⟩
      refine ⟨m', hm, i + 1, H', (I'.unpinned (pins := [])).weak (by rw [← hw8, wipe_length]) (fun j v e => ?_), T.keep _ _ _ st7 fun b hb o e => (held b hb o e).1, fun b hb => ?_, w'⟩
      · rw [← hw8] at e
        exact (wipe_some e).1
      · obtain ⟨o, e, _⟩ := T.obj _ _ st7 b hb
        exact (held b hb o e).2
    cases b with
    | false => exact fin I9 q9
    | true =>
      refine thnF (pe.run _ s9 σ8 H9 _ I9 q9) fun z s10 ⟨yv, H10, I10, r10, p, k, L, ey, hx, hDD, hL, hz, nx⟩ => ?_
      subst ey
      cases (show z = Value.ref p from r10)
      exact addT_ok (X := X.blk s3 H3 scope ce fp) I10 hDD (by show X.A.units + 3 < cLine; omega) hL hx hz fun L' s11 c1 c2 I11 => fin I11 (nx L' c1 c2)
end
end Mine

namespace Mine
open PySem PySem.Spec PyProof.Rows L2 PpSet
/-! ### sorted({e for x in xs}), e tuples of whole numbers -/
/-- fewer than 63 words of their own -/
def FewW (ws : List (List Int)) : Prop := ∀ us : List (List Int), us.Nodup → (∀ x ∈ us, x ∈ ws) → us.length < 63
def scGo (f : DGX) (te : DX) (env : List Sl) (Q : List (List Int) → Prop) : List Dt → List (List Int) → Prop
  | [], acc => Q acc
  | x :: xs, acc => f x env fun env' => te env' (fun y => ∃ w : List Int, y = .tup (w.map .int) ∧ FewW acc ∧ scGo f te env Q xs (acc ++ [w])) (fun _ => False)
def scEnd (Q : Dt → Prop) (ws : List (List Int)) : Prop := ∃ (d : Nat) (B : Int), Even d B ws ∧ ∀ ws' : List (List Int), (∀ x, x ∈ ws' ↔ x ∈ ws) → Rising B ws' → Q (.lst (ws'.map fun w => Dt.tup (w.map .int)))
def eSortSc (src : DAX) (f : DGX) (te : DX) (vs : List Nat) : DX := fun env Q E => src env (fun ds => scGo f te (wipeS env vs) (scEnd Q) ds []) E
theorem eSortSc_W (src : DAX) (f : DGX) (te : DX) (vs : List Nat) {env} {Q} {E} : eSortSc src f te vs env Q E = src env (fun ds => scGo f te (wipeS env vs) (scEnd Q) ds []) E := rfl
theorem df_sortSc {P : Program} {w : World} {C : Bc} {wi : TI} {g : TG} {te : TE} {vs : List Nat} {src : DAX} {f : DGX} {ee : DX} (hi : DIg Weak C wi src) (hg : DG C g vs f) (he : DE C te ee) :
    DF C (tCB (rSortedA C.K P w) (tCons (tScT C.K P w wi g tYes te vs) tNil)) (eSortSc src f ee vs) := by
  intro X env σ H Q Qd Qx rp h q x
  refine hi X env σ H _ _ Qx rp h (fun ds J H1 f1 wk h1 => ?_) x
  intro D hD
  have rp1 := rp.step f1
  have nh : ∀ h c, C.hd = some (h, c) → D ≠ h := fun h c e z => by
    obtain ⟨_, _, _, _, q, _⟩ := (rp1.hands h c e).2.2
    rw [z, q] at hD; cases hD
  let W : Nat → Nat → Hp → Prop := fun i m H2 => m + i = ds.length ∧ Frm C.hd H1 H2 ∧ ∃ (L : List (Addr × List Int)) (acc : List (List Int)), H2 D = some (SetTO P w D L) ∧ (∀ k ∈ L, vis H2 (fun a => X a ∨ a = D) k.1 = some (.tup (k.2.map V.int))) ∧ (L.map (·.2)).Nodup ∧ (∀ z, z ∈ L.map (·.2) ↔ z ∈ acc) ∧ scGo f ee (wipeS env vs) (scEnd Qd) (ds.drop i) acc
  refine ⟨W, ⟨ds.length, rfl, .upd hD, [], [], upd_same, (fun k hk => by cases hk), List.nodup_nil, fun z => Iff.rfl, h1⟩, fun i m H2 ⟨hm, f2, L, acc, hD2, tups, nd, mem, go⟩ => ?_⟩
  have rpY : Rep C (fun a => X a ∨ a = D) env σ H2 := rp1.hide hD f2 ⟨_, hD2⟩
  have rpW := rpY.wiped vs
  have sW : Weak C X H1 (fun a => X a ∨ a = D) H2 := ⟨f2, rp1.hX, fun a z => z.imp id fun (e : a = D) => by rw [e]; exact hD, rpY.al⟩
  have hw := wk _ i H2 sW
  by_cases c : i < ds.length
  · obtain ⟨g1, g2⟩ := hw.1 c
    refine .inr ⟨g1, W (i + 1) (m - 1), fun H' hW => ⟨m - 1, by omega, hW⟩, fun y H3 hy => ?_⟩
    obtain ⟨s3, d, hd, den⟩ := g2 y H3 hy
    have ed : ds.drop i = d :: ds.drop (i + 1) := by
      rw [List.drop_eq_getElem_cons c]
      congr 1
      rw [List.getElem?_eq_getElem c] at hd
      exact Option.some.inj hd
    rw [ed] at go
    refine hg _ _ _ H3 y d _ _ (rpW.step (.same s3)) den go fun env' σ' rp' he' hl hk _ => ⟨wipe_of hl hk, ?_⟩
    unfold tYes
    simp only [if_true]
    refine he _ env' σ' H3 _ _ _ rp' he' (fun y2 v2 H5 f5 den5 hb5 => ?_) xok_no
    obtain ⟨k, rfl, few, go5⟩ := hb5
    obtain ⟨p, us, rfl, hp, al⟩ := Den.tupI den5
    rw [al.ints_of] at hp
    have f25 : Frm C.hd H2 H5 := (Frm.same s3).trans f5
    have hD5 : H5 D = some (SetTO P w D L) := f25.1 D _ hD2 nh
    have t5 : ∀ k ∈ L, vis H5 (fun a => X a ∨ a = D) k.1 = some (.tup (k.2.map V.int)) := fun k hk => rpY.vs f25 _ _ (tups k hk)
    refine ⟨p, k, L, rfl, .inl (.inl (vis_sub _ _ hp)), hD5, fun k hk => .inl (.inl (vis_sub _ _ (t5 k hk))), ?_, fun L' c1 c2 => ?_⟩
    · have := few _ nd fun z hz => (mem z).mp hz
      rw [List.length_map] at this
      omega
    have sv : Same (vis H5 fun a => X a ∨ a = D) (vis (upd H5 D (SetTO P w D L')) fun a => X a ∨ a = D) := fun a o e => by
      obtain ⟨n1, e1⟩ := vis_of e
      exact vis_mk n1 (by rw [upd_ne fun z => n1 (.inr z)]; exact e1)
    refine ⟨by omega, frm_put rp1 hD (f2.trans f25), L', acc ++ [k], upd_same, fun j hj => sv _ _ ?_, ?_, fun z => ?_, go5⟩
    · by_cases cm : k ∈ L.map (·.2)
      · rw [c1 cm] at hj; exact t5 j hj
      · rcases List.mem_cons.mp ((c2 cm).mem_iff.mp hj) with e | e
        · rw [e]; exact hp
        · exact t5 j e
    · by_cases cm : k ∈ L.map (·.2)
      · rw [c1 cm]; exact nd
      · exact ((c2 cm).map (·.2)).nodup_iff.mpr (List.nodup_cons.mpr ⟨cm, nd⟩)
    · rw [List.mem_append, List.mem_singleton]
      by_cases cm : k ∈ L.map (·.2)
      · rw [c1 cm, mem z]
        exact ⟨.inl, fun h => h.elim id fun e => by rw [e]; exact (mem k).mp cm⟩
      · rw [((c2 cm).map (·.2)).mem_iff, List.map_cons, List.mem_cons, mem z]
        exact Or.comm
  · have e : ds.drop i = [] := List.drop_eq_nil_of_le (by omega)
    rw [e] at go
    obtain ⟨d, B, ev, fin⟩ := go
    have rp2 := rp1.step f2
    have hev : ∀ p ∈ L, p.2.length = d ∧ TS.Bd B p.2 := fun p hp => ev p.2 ((mem _).mp (List.mem_map.mpr ⟨p, hp, rfl⟩))
    refine .inl ⟨hw.2 (by omega), ?_⟩
    show rSortedA C.K P w [V.ref D] H2 Q
    refine ⟨D, L, d, B, rfl, hD2, fun k hk => .inl (.inl (vis_sub _ _ (tups k hk))), hev, fun L' p pm nd' few pw hp => ?_⟩
    have tX : ∀ k ∈ L', vis H2 X k.1 = some (.tup (k.2.map V.int)) := fun k hk => by
      obtain ⟨n1, e1⟩ := vis_of (tups k (pm.mem_iff.mp hk))
      exact vis_mk (fun z => n1 (.inl z)) e1
    refine q _ _ _ (f1.trans (f2.trans (.upd hp))) ((fsh_new rp2 hp (DenAll.of_rows tX)).frm rp (f1.trans f2)) (fin _ (fun z => ?_) ?_)
    · rw [(pm.map (·.2)).mem_iff]; exact mem z
    · have pw2 : (L'.map (·.2)).Pairwise fun x y => TS.code B x ≤ TS.code B y := List.pairwise_map.mpr pw
      have mm : ∀ x ∈ L'.map (·.2), x.length = d ∧ TS.Bd B x := fun x hx => by
        obtain ⟨k, hk, e⟩ := List.mem_map.mp hx
        rw [← e]; exact hev k (pm.mem_iff.mp hk)
      refine List.Pairwise.imp_of_mem (fun {x y} hx hy h => ?_) (pw2.and nd')
      obtain ⟨le, ne⟩ := h
      rcases Int.lt_or_eq_of_le le with c | c
      · exact c
      · exact absurd (code_inj ((mm x hx).1.trans (mm y hy).1.symm) (mm x hx).2 (mm y hy).2 c) ne
end Mine

namespace Mine
open PySem PySem.Spec PyProof.Rows L2
/-! ### f'..{e}..' of texts and whole numbers -/
def eFmt (a : DX) : DX := fun env Q E => a env (fun d => match d with
  | .int i => i.natAbs.log2 < 1920 ∧ Q (.str (toString i))
  | .str y => y.length ≤ 16777216 ∧ Q (.str y)
  | _ => False) E
theorem eFmt_W (a : DX) {env} {Q} {E} : eFmt a env Q E = a env (fun d => match d with
  | .int i => i.natAbs.log2 < 1920 ∧ Q (.str (toString i))
  | .str y => y.length ≤ 16777216 ∧ Q (.str y)
  | _ => False) E := rfl
def eJs : List DX → Str → List Sl → (Dt → Prop) → (Xc → Prop) → Prop
  | [], acc, _, Q, _ => Q (.str acc)
  | a :: as, acc, env, Q, E => a env (fun d => match d with
    | .str y => (acc ++ y).length ≤ 16777216 ∧ eJs as (acc ++ y) env Q E
    | _ => False) E
def eFstr (as : List DX) : DX := fun env Q E => eJs as Str.empty env Q E
theorem eFstr_W (as : List DX) {env} {Q} {E} : eFstr as env Q E = eJs as Str.empty env Q E := rfl
theorem eJs_nil {acc : Str} {env} {Q} {E} : eJs [] acc env Q E = Q (.str acc) := rfl
theorem eJs_cons {a : DX} {as : List DX} {acc : Str} {env} {Q} {E} : eJs (a :: as) acc env Q E = a env (fun d => match d with
    | .str y => (acc ++ y).length ≤ 16777216 ∧ eJs as (acc ++ y) env Q E
    | _ => False) E := rfl
/-- the parts one by one -/
inductive DJ (C : Bc) : List TE → List DX → Prop where
  | nil : DJ C [] []
  | cons {t : TE} {a : DX} {ts : List TE} {as : List DX} (h : DE C t a) (r : DJ C ts as) : DJ C (t :: ts) (a :: as)
section
variable {C : Bc}
theorem de_fmt {te : TE} {ea : DX} (he : DE C te ea) : DE C (tFmt te) (eFmt ea) := by
  intro X env σ H Q Qd Qx rp h q x
  refine he X env σ H _ _ Qx rp h (fun d v H1 f1 r1 h1 => ?_) x
  have r1 : Den C.K (vis H1 X) v d := r1
  split at h1
  · exact .inr ⟨_, r1.flat rfl, h1.1, q _ _ _ f1 (.str _) h1.2⟩
  · exact .inl ⟨_, r1.flat rfl, by rw [sizeLine_eq]; exact h1.1, q _ _ _ f1 (.str _) h1.2⟩
  · exact h1.elim
theorem js_core {ts : List TE} {as : List DX} (j : DJ C ts as) : ∀ (X : Addr → Prop) (env : List Sl) (σ : L2.St) (H H0 : Hp) (acc : Str) (Q : Str → Hp → Prop) (Qd : Dt → Prop) (Qx : Xc → Prop), Rep C X env σ H → Frm C.hd H0 H → eJs as acc env Qd Qx → (∀ z H', Frm C.hd H0 H' → Qd (.str z) → Q z H') → XOk C X σ H Qx → tJs ts acc σ H Q := by
  induction j with
  | nil => intro X env σ H H0 acc Q Qd Qx rp f h q x; exact q _ _ f h
  | @cons t a ts as ha j ih =>
    intro X env σ H H0 acc Q Qd Qx rp f h q x
    refine ha X env σ H _ _ Qx rp h (fun d v H1 f1 r1 h1 => ?_) x
    have r1 : Den C.K (vis H1 X) v d := r1
    split at h1
    · exact ⟨_, r1.flat rfl, by rw [sizeLine_eq]; exact h1.1, ih X env σ H1 H0 _ Q Qd Qx (rp.step f1) (f.trans f1) h1.2 q (x.step f1)⟩
    · exact h1.elim
theorem de_fstr {ts : List TE} {as : List DX} (j : DJ C ts as) : DE C (fun σ H Q => tJs ts Str.empty σ H fun out H1 => Q (.str out) H1) (eFstr as) := by
  intro X env σ H Q Qd Qx rp h q x
  exact js_core j X env σ H H Str.empty _ Qd Qx rp (.refl H) h (fun z H' f h' => q _ _ _ f (.str z) h') x
end
/-! ### text.find(sign), text.count(sign), text.startswith(..) -/
def eTm (k : Str → Str → Dt) (a b : DX) : DX := fun env Q E => a env (fun x => match x with
  | .str u => b env (fun y => match y with
    | .str z => Q (k u z)
    | _ => False) E
  | _ => False) E
theorem eTm_W (k : Str → Str → Dt) (a b : DX) {env} {Q} {E} : eTm k a b env Q E = a env (fun x => match x with
  | .str u => b env (fun y => match y with
    | .str z => Q (k u z)
    | _ => False) E
  | _ => False) E := rfl
theorem de_tm {C : Bc} {ta tb : TE} {a b : DX} {k : Str → Str → Dt} {kv : Str → Str → V} (hk : ∀ K H u z, Den K H (kv u z) (k u z)) (ha : DE C ta a) (hb : DE C tb b) :
    DE C (tM1 (fun x xs H Q => ∃ a b, x = .str a ∧ xs = [.str b] ∧ Q (kv a b) H) ta tb) (eTm k a b) := by
  intro X env σ H Q Qd Qx rp h q x
  refine ha X env σ H _ _ Qx rp h (fun d v H1 f1 r1 h1 => ?_) x
  have r1 : Den C.K (vis H1 X) v d := r1
  split at h1
  · refine ⟨⟨_, r1.flat rfl⟩, hb X env σ H1 _ _ Qx (rp.step f1) h1 (fun d2 v2 H2 f2 r2 h2 => ?_) (x.step f1)⟩
    have r2 : Den C.K (vis H2 X) v2 d2 := r2
    split at h2
    · exact ⟨_, _, r1.flat rfl, by rw [r2.flat rfl], q _ _ _ (f1.trans f2) (hk _ _ _ _) h2⟩
    · exact h2.elim
  · exact h1.elim
theorem pe_find {X : Cx} {o e : Expr} {to te : TE} {apos pos : Pos} (ho : PE X o to) (he : PE X e te) (hs : starEach [e] X.env = [(false, eval e X.env)] := by rfl) (hbase : attributeBase o "find" X.env (eval o X.env) = eval o X.env := by rfl) (hline : (apos.endLine == pos.line) = true := by rfl) :
    PE X (.Call (.Attribute o "find" apos) [e] [] pos) (tM1 (fun x xs H Q => ∃ a b, x = .str a ∧ xs = [.str b] ∧ Q (.int (Txt.find a b)) H) to te) :=
  pe_m1 F.slot_str_find F.type_str_find mt_find ho he hs hbase hline
theorem pe_countT {X : Cx} {o e : Expr} {to te : TE} {apos pos : Pos} (ho : PE X o to) (he : PE X e te) (hs : starEach [e] X.env = [(false, eval e X.env)] := by rfl) (hbase : attributeBase o "count" X.env (eval o X.env) = eval o X.env := by rfl) (hline : (apos.endLine == pos.line) = true := by rfl) :
    PE X (.Call (.Attribute o "count" apos) [e] [] pos) (tM1 (fun x xs H Q => ∃ a b, x = .str a ∧ xs = [.str b] ∧ Q (.int (Txt.count a b)) H) to te) :=
  pe_m1 F.slot_str_count F.type_str_count mt_count ho he hs hbase hline
theorem pe_starts {X : Cx} {o e : Expr} {to te : TE} {apos pos : Pos} (ho : PE X o to) (he : PE X e te) (hs : starEach [e] X.env = [(false, eval e X.env)] := by rfl) (hbase : attributeBase o "startswith" X.env (eval o X.env) = eval o X.env := by rfl) (hline : (apos.endLine == pos.line) = true := by rfl) :
    PE X (.Call (.Attribute o "startswith" apos) [e] [] pos) (tM1 (fun x xs H Q => ∃ a b, x = .str a ∧ xs = [.str b] ∧ Q (.bl (Txt.startswith a b)) H) to te) :=
  pe_m1 F.slot_str_startswith F.type_str_startswith mt_startswith ho he hs hbase hline
theorem de_find {C : Bc} {ta tb : TE} {a b : DX} (ha : DE C ta a) (hb : DE C tb b) : DE C (tM1 (fun x xs H Q => ∃ a b, x = .str a ∧ xs = [.str b] ∧ Q (.int (Txt.find a b)) H) ta tb) (eTm (fun u z => .int (Txt.find u z)) a b) := de_tm (kv := fun u z => .int (Txt.find u z)) (fun _ _ _ _ => .int _) ha hb
theorem de_countT {C : Bc} {ta tb : TE} {a b : DX} (ha : DE C ta a) (hb : DE C tb b) : DE C (tM1 (fun x xs H Q => ∃ a b, x = .str a ∧ xs = [.str b] ∧ Q (.int (Txt.count a b)) H) ta tb) (eTm (fun u z => .int (Txt.count u z)) a b) := de_tm (kv := fun u z => .int (Txt.count u z)) (fun _ _ _ _ => .int _) ha hb
theorem de_starts {C : Bc} {ta tb : TE} {a b : DX} (ha : DE C ta a) (hb : DE C tb b) : DE C (tM1 (fun x xs H Q => ∃ a b, x = .str a ∧ xs = [.str b] ∧ Q (.bl (Txt.startswith a b)) H) ta tb) (eTm (fun u z => .bl (Txt.startswith u z)) a b) := de_tm (kv := fun u z => .bl (Txt.startswith u z)) (fun _ _ _ _ => .bl _) ha hb
end Mine

namespace Mine
open PySem PySem.Spec PyProof.Rows L2
/-! ### a comprehension within a comprehension -/
theorem lookup_relabel {env : Env} : ∀ {names : List (PySem.Str × NameKind)} {x : PySem.Str}, (names.lookup x = some .cell ∨ names.lookup x = some .free) →
    ((names.map fun (n, k) => if (k == NameKind.free && env.scope.kind == .function && env.kindOf n == some .cell) then (n, NameKind.cell) else (n, k)).lookup x = some .cell ∨ (names.map fun (n, k) => if (k == NameKind.free && env.scope.kind == .function && env.kindOf n == some .cell) then (n, NameKind.cell) else (n, k)).lookup x = some .free)
  | [], x, h => by simp at h
  | (n, k) :: r, x, h => by
    have ih := @lookup_relabel env r x
    rw [List.map_cons]
    dsimp only
    by_cases e : x == n
    · simp only [List.lookup, e] at h
      rcases h with h | h
      · injection h with h
        subst h
        rw [if_neg (by intro z; simp at z)]
        exact .inl (by simp only [List.lookup, e])
      · injection h with h
        subst h
        by_cases c : (NameKind.free == NameKind.free && env.scope.kind == .function && env.kindOf n == some .cell) = true
        · rw [if_pos c]; exact .inl (by simp only [List.lookup, e])
        · rw [if_neg c]; exact .inr (by simp only [List.lookup, e])
    · have e : (x == n) = false := by simpa using e
      simp only [List.lookup, e] at h
      have := ih h
      split <;> (simp only [List.lookup, e]; exact this)
theorem blkOk_in {N : List PySem.Str} {sc1 scope : Scope} {env : Env} {own : List (PySem.Str × Nat)} (h : blkC N sc1 scope own = true) : BlkOk N (relabel sc1 env) scope own := by
  have b := blkOk_by h
  exact ⟨b.kind, b.uniq, b.ix, fun y hy e => lookup_relabel (b.free y hy e), b.own⟩
theorem pe_lcIn {Y : Cx} {s0 : Shared} {H0 : Hp} {sc1 : Scope} {cl0 : List (PySem.Str × Addr)} {C0 : Addr} {fp0 : List Addr} {N : List PySem.Str} {elt tg iter : Expr} {ifs : List Expr} {scope : Scope} {own : List (PySem.Str × Nat)} {pos : Pos} {wi : TI} {g : TG} {tt : TT} {te : TE}
    (eN : Y.N = N) (hb : blkC N sc1 scope own = true) (hc : (Y.blk s0 H0 sc1 (compEnvC sc1 cl0 C0 Y.env) fp0).calm = true) (hN : N.Nodup) (hi : PI (Y.blk s0 H0 sc1 (compEnvC sc1 cl0 C0 Y.env) fp0) tg iter wi)
    (hg : ∀ (s : Shared) (H : Hp) (C : Addr) (cl : List (PySem.Str × Addr)) (fp : List Addr), PG ((Y.blk s0 H0 sc1 (compEnvC sc1 cl0 C0 Y.env) fp0).blk s H scope (compEnvC scope cl C (compEnvC sc1 cl0 C0 Y.env)) fp) tg g)
    (ht : ∀ (s : Shared) (H : Hp) (C : Addr) (cl : List (PySem.Str × Addr)) (fp : List Addr), PTs ((Y.blk s0 H0 sc1 (compEnvC sc1 cl0 C0 Y.env) fp0).blk s H scope (compEnvC scope cl C (compEnvC sc1 cl0 C0 Y.env)) fp) ifs tt)
    (he : ∀ (s : Shared) (H : Hp) (C : Addr) (cl : List (PySem.Str × Addr)) (fp : List Addr), PE ((Y.blk s0 H0 sc1 (compEnvC sc1 cl0 C0 Y.env) fp0).blk s H scope (compEnvC scope cl C (compEnvC sc1 cl0 C0 Y.env)) fp) elt te)
    (hs : ∀ x, foldedSetIterable iter (compEnvC sc1 cl0 C0 Y.env) x = pure x := by intro _; rfl) :
    PE (Y.blk s0 H0 sc1 (compEnvC sc1 cl0 C0 Y.env) fp0) (.ListComp elt [⟨tg, iter, ifs, 0⟩] scope pos) (tLc wi g tt te (own.map (·.2))) := by
  subst eN
  exact pe_lc (X := Y.blk s0 H0 sc1 (compEnvC sc1 cl0 C0 Y.env) fp0) hc hN hi (blkOk_in hb) hg ht he hs
theorem pi_seqU {X : Cx} {K : PySem.W.Frag} {tg e : Expr} {te : TE} (eK : X.K = K) (he : PE X e te) : PI X tg e (iSeq K te) := eK ▸ pi_seq he
end Mine

namespace Mine
open PySem PySem.Spec PyProof.Rows L2
/-! ### a or b, a a text -/
def tOrT (ta tb : TE) : TE := fun σ H Q => ta σ H fun x H1 => ∃ z : Str, x = .str z ∧ z.length ≤ 16777216 ∧ if ((z.length : Int) != 0) = true then Q (.str z) H1 else tb σ H1 Q
theorem pe_orT {X : Cx} {a b : Expr} {rest : List Expr} {pos : Pos} {ta tb : TE} (ha : PE X a ta) (hb : PE X (.BoolOp .Or (b :: rest) pos) tb) : PE X (.BoolOp .Or (a :: b :: rest) pos) (tOrT ta tb) := by
  refine ⟨fun pins s σ H Q I h => ?_⟩
  refine BoolOp_or (thn (ha.run pins s σ H _ I h) fun v s1 ⟨x, H1, I1, r1, q1⟩ => ?_)
  obtain ⟨z, rfl, hz, q1⟩ := q1
  obtain ⟨t, rfl⟩ := _root_.id r1
  refine P.truthy_str (by omega) ?_
  cases e : ((z.length : Int) != 0) with
  | false => rw [e, if_neg (by decide)] at q1; exact hb.run pins _ σ H1 Q (I1.tok _) q1
  | true => rw [e, if_pos rfl] at q1; exact ⟨.str z, H1, I1.tok _, r1, q1⟩
def eOrTx (a b : DX) : DX := fun env Q E => a env (fun d => match d with
  | .str z => z.length ≤ 16777216 ∧ if ((z.length : Int) != 0) = true then Q (.str z) else b env Q E
  | _ => False) E
theorem eOrTx_W (a b : DX) {env} {Q} {E} : eOrTx a b env Q E = a env (fun d => match d with
  | .str z => z.length ≤ 16777216 ∧ if ((z.length : Int) != 0) = true then Q (.str z) else b env Q E
  | _ => False) E := rfl
theorem de_orT {C : Bc} {ta tb : TE} {ea eb : DX} (h : DE C ta ea) (k : DE C tb eb) : DE C (tOrT ta tb) (eOrTx ea eb) := by
  intro X env σ H Q Qd Qx rp he q x
  refine h X env σ H _ _ Qx rp he (fun d v H1 f1 r1 he1 => ?_) x
  have r1 : Den C.K (vis H1 X) v d := r1
  split at he1
  · refine ⟨_, r1.flat rfl, he1.1, ?_⟩
    have h2 := he1.2
    split
    · rename_i c; rw [if_pos c] at h2; exact q _ _ _ f1 (.str _) h2
    · rename_i c; rw [if_neg c] at h2
      exact k X env σ H1 Q Qd Qx (rp.step f1) h2 (fun d v H' f r q2 => q d v H' (f1.trans f) r q2) (x.step f1)
  · exact he1.elim
end Mine

namespace ZN
open PySem
section
variable {M : Model} {A : Around} {E : Value → Shared → Prop}
theorem forIn_run {α β : Type} {f : α → β → Sem (ForInStep β)} {Q : β → Shared → Prop} (I : List α → β → Shared → Prop)
    (step : ∀ x r b s, I (x :: r) b s → wpAny M A (f x b) (fun y s' => ∃ b', y = .yield b' ∧ I r b' s') E s) (fin : ∀ b s, I [] b s → Q b s) : ∀ (l : List α) (b : β) (s : Shared), I l b s → wpAny M A (forIn l b f) Q E s
  | [], b, s, h => by rw [List.forIn_nil]; exact wpAny_pure (fin b s h)
  | x :: r, b, s, h => by
    rw [List.forIn_cons]
    refine wpAny_bind (wpAny_mono (step x r b s h) (fun y s' h' => ?_) fun _ _ z => z)
    obtain ⟨b', rfl, h'⟩ := h'
    exact forIn_run I step fin r b' s' h'
end
abbrev IsZ (h : Heap) (z TI TO : Addr) (f0 f1 : Value) : Prop :=
  h.get? z = some { cls := .type "zip", dict := none, data := .fields #[f0, f1, .bool false, .ref TI, .ref TO], slots := #[] }
abbrev IsTp (h : Heap) (T : Addr) (xs : List Value) : Prop := h.get? T = some { cls := .type "tuple", data := .seq xs.toArray }
structure Ap (z TI TO : Addr) (p : List (Addr × Addr)) : Prop where
  TIz : TI ≠ z
  TOz : TO ≠ z
  TITO : TI ≠ TO
  nd : (p.map (·.1)).Nodup
  iz : ∀ q ∈ p, q.1 ≠ z
  iTI : ∀ q ∈ p, TI ≠ q.1
  iTO : ∀ q ∈ p, TO ≠ q.1
  lz : ∀ q ∈ p, q.2 ≠ z
  lTO : ∀ q ∈ p, q.2 ≠ TO
  li : ∀ q ∈ p, ∀ r ∈ p, q.2 ≠ r.1
/-- nothing but these has changed -/
def Fr (z TO : Addr) (p : List (Addr × Addr)) (h h' : Heap) : Prop := ∀ c o, c ≠ z → c ≠ TO → (∀ q ∈ p, c ≠ q.1) → h.get? c = some o → h'.get? c = some o
section
variable {prog : Program} {w : World} {A : Around} {E : Value → Shared → Prop} {s : Shared}
theorem upd_tp {T : Addr} {xs : List Value} {k : Nat} {v : Value} {Q : Unit → Shared → Prop} (hT : IsTp s.heap T xs) (hz : xs.length ≤ sizeLine)
    (h : ∀ h', IsTp h' T (xs.set k v) → Heap.SameBut T s.heap h' → Q () { s with heap := h' }) : wpAny (model prog w) A (updateSeq T (·.setIfInBounds k v)) Q E s := by
  refine wpAny_updateSeq hT rfl (h _ ?_ (Heap.SameBut.update ..)) (by simpa using hz) (by simp; omega)
  show (s.heap.update T (Obj.mapSeq (·.setIfInBounds k v))).get? T = some { cls := .type "tuple", data := .seq (xs.set k v).toArray }
  rw [Heap.get?_update_self _ hT rfl]
  simp [Obj.mapSeq]
theorem alive_any {a : Addr} {Q : Option Obj → Shared → Prop} (h : Q (s.heap.get? a) s) : wpAny (model prog w) A (loadIfAlive a) Q E s := fun _ _ _ => h
theorem owned_free {z TI TO : Addr} {f0 f1 : Value} (hz : IsZ s.heap z TI TO f0 f1) (hf : f0 = .none ∨ ∃ a : Addr, f0 = rawInt a) : wpAny (model prog w) A (Builtin.SmallTypes.ownedTupleIsFree (.ref z))
    (fun b s' => (b = true ∧ s' = s) ∨ (b = false ∧ ∃ h' f1', s' = { s with heap := h' } ∧ IsZ h' z TI TO f0 f1' ∧ Heap.SameBut z s.heap h')) E s := by
  unfold Builtin.SmallTypes.ownedTupleIsFree
  refine wpAny_bind (wpAny_field hz rfl (x := f0) rfl ?_)
  rcases hf with rfl | ⟨a, rfl⟩
  · exact wpAny_pure (.inl ⟨rfl, rfl⟩)
  · show wpAny _ _ (loadIfAlive _ >>= _) _ _ _
    refine wpAny_bind (alive_any ?_)
    cases s.heap.get? (Int.toNat (a : Int)) with
    | none => exact wpAny_pure (.inl ⟨rfl, rfl⟩)
    | some o =>
      show wpAny _ _ (field (.ref z) 1 >>= _) _ _ _
      refine wpAny_bind (wpAny_field hz rfl (x := f1) rfl ?_)
      by_cases c : (f1 != Value.bool true) = true
      · simp only [c, if_true]
        refine wpAny_bind (wpAny_setField_rec hz (by simp) fun h' hz' hs' => wpAny_pure (.inr ⟨rfl, h', _, rfl, hz', hs'⟩))
      · simp only [c, if_false]
        exact wpAny_pure (.inr ⟨rfl, _, _, rfl, hz, ⟨rfl, fun _ _ => rfl⟩⟩)
theorem next_item {z TI TO : Addr} {p : List (Addr × Addr)} {k : Nat} {f0 f1 : Value} {ts : List Value} {L : Addr → Array Value} {x : Addr → Value} {Q : Value → Shared → Prop} (D : Ap z TI TO p) (hp : p ≠ []) (hp2 : p.length ≤ 100)
    (hz : IsZ s.heap z TI TO f0 f1) (hf : f0 = .none ∨ ∃ a : Addr, f0 = rawInt a) (hTI : IsTp s.heap TI (p.map fun q => .ref q.1)) (hTO : IsTp s.heap TO ts) (hts : ts.length = p.length)
    (hi : ∀ q ∈ p, s.heap.IsListIter q.1 q.2 k) (hl : ∀ q ∈ p, s.heap.IsList q.2 (L q.2)) (hx : ∀ q ∈ p, (L q.2)[k]? = some (x q.2))
    (hQ : ∀ h' f0' f1' ts', IsZ h' z TI TO f0' f1' → (f0' = .none ∨ ∃ a : Addr, f0' = rawInt a) → IsTp h' TO ts' → ts'.length = p.length → (∀ q ∈ p, h'.IsListIter q.1 q.2 (k + 1)) → IsTp h' s.heap.objs.size (p.map fun q => x q.2) → h'.objs.size = s.heap.objs.size + 1 →
      Fr z TO p s.heap h' → Q (.ref s.heap.objs.size) { s with heap := h' }) :
    wpAny (model prog w) A (Builtin.«zip.__next__» ⟨[.ref z], []⟩) (fun fin s' => ∃ v, fin = .done (.ret v) ∧ Q v s') E s := by
  have hsl : p.length ≤ sizeLine := by rw [sizeLine_eq]; omega
  show wpAny _ _ (field (.ref z) 2 >>= _) _ _ _
  refine wpAny_bind (wpAny_field hz rfl (x := .bool false) rfl ?_)
  show wpAny _ _ (field (.ref z) 3 >>= _) _ _ _
  refine wpAny_bind (wpAny_field hz rfl (x := .ref TI) rfl ?_)
  refine wpAny_bind (wpAny_seqItems hTI rfl ?_)
  have hne : ((p.map fun q => Value.ref q.1).toArray.isEmpty) = false := by
    cases p with
    | nil => exact absurd rfl hp
    | cons a r => rfl
  dsimp only
  rw [hne, if_neg (by decide)]
  refine wpAny_bind (wpAny_mono (owned_free hz hf) (fun b s1 hb => ?_) fun _ _ z => z)
  have split1 : ∀ {p1 p2 : List (Addr × Addr)} {q : Addr × Addr}, p = p1 ++ q :: p2 → q ∈ p ∧ (∀ r ∈ p1, r.1 ≠ q.1) ∧ (∀ r ∈ p2, r.1 ≠ q.1) := fun {p1 p2 q} e => by
    have nd := D.nd
    rw [e, List.map_append, List.map_cons, List.nodup_append] at nd
    obtain ⟨_, n2, n3⟩ := nd
    refine ⟨by rw [e]; simp, fun r hr => n3 r.1 (List.mem_map.mpr ⟨r, hr, rfl⟩) q.1 List.mem_cons_self, fun r hr z => (List.nodup_cons.mp n2).1 (by rw [← z]; exact List.mem_map.mpr ⟨r, hr, rfl⟩)⟩
  have splitL : ∀ {p1 p2 : List (Addr × Addr)} {y : Value × Nat} {r : List (Value × Nat)}, y :: r = (p2.map fun q => Value.ref q.1).zipIdx p1.length → ∃ q p2', p2 = q :: p2' ∧ y = (.ref q.1, p1.length) ∧ r = (p2'.map fun q => Value.ref q.1).zipIdx (p1 ++ [q]).length := fun {p1 p2 y r} e => by
    cases p2 with
    | nil => cases e
    | cons q p2' =>
      rw [List.map_cons, List.zipIdx_cons] at e
      injection e with e1 e2
      exact ⟨q, p2', rfl, e1, by rw [e2, List.length_append]; rfl⟩
  rcases hb with ⟨rfl, e1⟩ | ⟨rfl, h1, f1', rfl, hz1, hs1⟩
  · have e1' := e1.symm
    subst e1'
    rw [if_pos rfl]
    refine wpAny_bind (wpAny_rule ?_)
    refine wpAny_bind (wpAny_field hz rfl (x := .ref TO) rfl ?_)
    refine wpAny_bind (wpAny_setField_rec hz (by simp) fun h1 hz1 hs1 => ?_)
    replace hz1 : IsZ h1 z TI TO .ellipsis f1 := hz1
    refine wpAny_bind (forIn_run (fun l b s' => b = (none, ()) ∧ ∃ (p1 p2 : List (Addr × Addr)) (h' : Heap) (rest : List Value), p = p1 ++ p2 ∧ l = (p2.map fun q => Value.ref q.1).zipIdx p1.length ∧ s' = { s with heap := h' } ∧ IsZ h' z TI TO .ellipsis f1 ∧
        IsTp h' TO ((p1.map fun q => x q.2) ++ rest) ∧ rest.length = p2.length ∧ (∀ q ∈ p1, h'.IsListIter q.1 q.2 (k + 1)) ∧ (∀ q ∈ p2, h'.IsListIter q.1 q.2 k) ∧ h'.objs.size = s.heap.objs.size ∧ Fr z TO p s.heap h') ?_ ?_ _ _ _ ?_)
    · rintro y r b s' ⟨rfl, p1, p2, h', rest, ep, el, rfl, z2, t2, l2, i1, i2, sz, fr⟩
      obtain ⟨q, p2', rfl, rfl, rfl⟩ := splitL el
      obtain ⟨qm, n1, n2⟩ := split1 ep
      refine wpAny_bind (wpAny_onRaise ?_)
      show wpAny _ _ (Builtin.SmallTypes.nextOf (.ref q.1) >>= _) _ _ _
      have lq : h'.IsList q.2 (L q.2) := (hl q qm).at fun o e => fr _ o (D.lz q qm) (D.lTO q qm) (fun r hr => D.li q qm r hr) e
      refine wpAny_bind (wpAny_nextOf_list_item (i2 q List.mem_cons_self) lq (hx q qm) fun h3 j3 s3 => wpAny_pure ?_)
      have t3 := s3.extBut _ _ (D.iTO q qm) t2
      refine wpAny_bind (wpAny_seqItems t3 rfl ?_)
      refine wpAny_bind (upd_tp t3 (by rw [List.length_append, List.length_map, l2]; have := congrArg List.length ep; rw [List.length_append] at this; omega) fun h4 t4 s4 => ?_)
      refine wpAny_bind (wpAny_letGo (wpAny_pure ⟨_, rfl, rfl, p1 ++ [q], p2', h4, rest.tail, by rw [ep]; simp, rfl, rfl, ?_, ?_, ?_, ?_, ?_, ?_, ?_⟩))
      · exact s4.extBut _ _ D.TOz.symm (s3.extBut _ _ (D.iz q qm).symm z2)
      · cases rest with
        | nil => simp at l2
        | cons r0 rest =>
          rw [List.set_append_right _ _ (by rw [List.length_map]; exact Nat.le_refl _), List.length_map, Nat.sub_self] at t4
          simpa using t4
      · rw [List.length_tail, l2]; rfl
      · intro u hu
        rcases List.mem_append.mp hu with hu | hu
        · have um : u ∈ p := by rw [ep]; exact List.mem_append_left _ hu
          exact ((i1 u hu).extBut s3.extBut (n1 u hu)).extBut s4.extBut (D.iTO u um).symm
        · rw [List.mem_singleton.mp hu]; exact j3.extBut s4.extBut (D.iTO q qm).symm
      · intro u hu
        have um : u ∈ p := by rw [ep]; exact List.mem_append_right _ (List.mem_cons_of_mem _ hu)
        exact ((i2 u (List.mem_cons_of_mem _ hu)).extBut s3.extBut (n2 u hu)).extBut s4.extBut (D.iTO u um).symm
      · rw [s4.1, s3.1, sz]
      · exact fun c o c1 c2 c3 e => s4.extBut _ _ c2 (s3.extBut _ _ (c3 q qm) (fr c o c1 c2 c3 e))
    · rintro b s' ⟨rfl, p1, p2, h', rest, ep, el, rfl, z2, t2, l2, i1, i2, sz, fr⟩
      have e2 : p2 = [] := by
        cases p2 with
        | nil => rfl
        | cons q p2 => rw [List.map_cons, List.zipIdx_cons] at el; cases el
      subst e2
      have e3 : rest = [] := List.eq_nil_of_length_eq_zero l2
      subst e3
      rw [List.append_nil] at ep t2
      subst ep
      refine wpAny_bind (wpAny_seqItems t2 rfl ?_)
      refine wpAny_bind (wpAny_newTuple ?_ (by simpa using hsl))
      have hzl : z < h'.objs.size := Heap.lt_size z2
      refine wpAny_bind ?_
      unfold Builtin.SmallTypes.ownedTupleHandOut
      have z3 : IsZ (h'.push { cls := .type "tuple", data := .seq ((p.map fun q => x q.2).toArray.toList.toArray) }) z TI TO .ellipsis f1 := Heap.get?_push_of_some _ z2
      refine wpAny_bind (wpAny_setField_rec z3 (by simp) fun h5 z5 s5 => ?_)
      refine wpAny_setField_rec z5 (by simp) fun h6 z6 s6 => ?_
      have up : ∀ c o, c ≠ z → h'.get? c = some o → h6.get? c = some o := fun c o c1 e => s6.extBut _ _ c1 (s5.extBut _ _ c1 (Heap.get?_push_of_some _ e))
      refine wpAny_pure ⟨_, rfl, ?_⟩
      have t6 : IsTp h6 h'.objs.size (p.map fun q => x q.2) := s6.extBut _ _ (Nat.ne_of_gt hzl) (s5.extBut _ _ (Nat.ne_of_gt hzl) (Heap.get?_push_size _ rfl))
      have sz6 : h6.objs.size = h'.objs.size + 1 := by rw [s6.1, s5.1, Heap.size_push]
      show Q (.ref h'.objs.size) _
      rw [sz] at t6 sz6 ⊢
      exact hQ h6 _ _ _ z6 (.inr ⟨_, rfl⟩) (up _ _ D.TOz t2) (by rw [List.length_map]) (fun q hq => (i1 q hq).at fun o e => up _ o (D.iz q hq) e) t6 sz6 fun c o c1 c2 c3 e => up c o c1 (fr c o c1 c2 c3 e)
    · refine ⟨rfl, [], p, h1, ts, rfl, rfl, rfl, hz1, hs1.extBut _ _ D.TOz hTO, hts, (fun q hq => nomatch hq), fun q hq => (hi q hq).extBut hs1.extBut (D.iz q hq), hs1.1, fun c o c1 _ _ e => hs1.extBut _ _ c1 e⟩
  · rw [if_neg (by decide)]
    simp only [List.forIn_toArray]
    refine wpAny_bind (forIn_run (fun l b s' => ∃ (p1 p2 : List (Addr × Addr)) (h' : Heap), b = (none, (p1.map fun q => x q.2).toArray) ∧ p = p1 ++ p2 ∧ l = (p2.map fun q => Value.ref q.1) ∧ s' = { s with heap := h' } ∧ IsZ h' z TI TO f0 f1' ∧
        IsTp h' TO ts ∧ (∀ q ∈ p1, h'.IsListIter q.1 q.2 (k + 1)) ∧ (∀ q ∈ p2, h'.IsListIter q.1 q.2 k) ∧ h'.objs.size = s.heap.objs.size ∧ Fr z TO p s.heap h') ?_ ?_ _ _ _ ?_)
    · rintro y r b s' ⟨p1, p2, h', rfl, ep, el, rfl, z2, t2, i1, i2, sz, fr⟩
      obtain ⟨q, p2', rfl, rfl, rfl⟩ : ∃ q p2', p2 = q :: p2' ∧ y = .ref q.1 ∧ r = p2'.map fun q => Value.ref q.1 := by
        cases p2 with
        | nil => cases el
        | cons q p2' => injection el with e1 e2; exact ⟨q, p2', rfl, e1, e2⟩
      obtain ⟨qm, n1, n2⟩ := split1 ep
      refine wpAny_bind (wpAny_holding ?_)
      show wpAny _ _ (Builtin.SmallTypes.nextOf (.ref q.1) >>= _) _ _ _
      have lq : h'.IsList q.2 (L q.2) := (hl q qm).at fun o e => fr _ o (D.lz q qm) (D.lTO q qm) (fun r hr => D.li q qm r hr) e
      refine wpAny_bind (wpAny_nextOf_list_item (i2 q List.mem_cons_self) lq (hx q qm) fun h3 j3 s3 => wpAny_pure ?_)
      refine wpAny_pure ⟨_, rfl, p1 ++ [q], p2', h3, by simp, by rw [ep]; simp, rfl, rfl, s3.extBut _ _ (D.iz q qm).symm z2, s3.extBut _ _ (D.iTO q qm) t2, fun u hu => ?_, fun u hu => (i2 u (List.mem_cons_of_mem _ hu)).extBut s3.extBut (n2 u hu), by rw [s3.1, sz], fun c o c1 c2 c3 e => s3.extBut _ _ (c3 q qm) (fr c o c1 c2 c3 e)⟩
      rcases List.mem_append.mp hu with hu | hu
      · exact (i1 u hu).extBut s3.extBut (n1 u hu)
      · rw [List.mem_singleton.mp hu]; exact j3
    · rintro b s' ⟨p1, p2, h', rfl, ep, el, rfl, z2, t2, i1, i2, sz, fr⟩
      have e2 : p2 = [] := by
        cases p2 with
        | nil => rfl
        | cons q p2 => cases el
      subst e2
      rw [List.append_nil] at ep
      subst ep
      refine wpAny_bind (wpAny_newTuple ?_ (by simpa using hsl))
      refine wpAny_pure ⟨_, rfl, ?_⟩
      have up : ∀ c o, h'.get? c = some o → (h'.push { cls := .type "tuple", data := .seq ((p.map fun q => x q.2).toArray.toList.toArray) }).get? c = some o := fun c o e => Heap.get?_push_of_some _ e
      have t6 : IsTp (h'.push { cls := .type "tuple", data := .seq ((p.map fun q => x q.2).toArray.toList.toArray) }) h'.objs.size (p.map fun q => x q.2) := Heap.get?_push_size _ rfl
      have sz6 : (h'.push { cls := .type "tuple", data := .seq ((p.map fun q => x q.2).toArray.toList.toArray) }).objs.size = h'.objs.size + 1 := Heap.size_push _ _
      show Q (.ref h'.objs.size) _
      rw [sz] at t6 sz6 ⊢
      exact hQ _ _ _ _ (up _ _ z2) hf (up _ _ t2) hts (fun q hq => (i1 q hq).at fun o e => up _ o e) t6 sz6 fun c o c1 c2 c3 e => up c o (fr c o c1 c2 c3 e)
    · exact ⟨[], p, h1, rfl, rfl, rfl, rfl, hz1, hs1.extBut _ _ D.TOz hTO, (fun q hq => nomatch hq), fun q hq => (hi q hq).extBut hs1.extBut (D.iz q hq), hs1.1, fun c o c1 _ _ e => hs1.extBut _ _ c1 e⟩
theorem next_end {z TI TO : Addr} {q : Addr × Addr} {p : List (Addr × Addr)} {k : Nat} {f0 f1 : Value} {L : Addr → Array Value} {Q : Fin → Shared → Prop} (hh : A.handled = none) (D : Ap z TI TO (q :: p))
    (hz : IsZ s.heap z TI TO f0 f1) (hf : f0 = .none ∨ ∃ a : Addr, f0 = rawInt a) (hTI : IsTp s.heap TI ((q :: p).map fun q => .ref q.1))
    (hi : s.heap.IsListIter q.1 q.2 k) (hl : s.heap.IsList q.2 (L q.2)) (hx : (L q.2)[k]? = none)
    (hE : ∀ h' e, Fr z TO (q :: p) s.heap h' → (∃ o, h'.get? e = some o ∧ o.cls = .type "StopIteration") → E (.ref e) { s with heap := h' }) :
    wpAny (model prog w) A (Builtin.«zip.__next__» ⟨[.ref z], []⟩) Q E s := by
  show wpAny _ _ (field (.ref z) 2 >>= _) _ _ _
  refine wpAny_bind (wpAny_field hz rfl (x := .bool false) rfl ?_)
  show wpAny _ _ (field (.ref z) 3 >>= _) _ _ _
  refine wpAny_bind (wpAny_field hz rfl (x := .ref TI) rfl ?_)
  refine wpAny_bind (wpAny_seqItems hTI rfl ?_)
  have qm : q ∈ q :: p := List.mem_cons_self
  have hne : (((q :: p).map fun q => Value.ref q.1).toArray.isEmpty) = false := rfl
  dsimp only
  rw [hne, if_neg (by decide)]
  refine wpAny_bind (wpAny_mono (owned_free hz hf) (fun b s1 hb => ?_) fun _ _ z => z)
  rcases hb with ⟨rfl, e1⟩ | ⟨rfl, h1, f1', rfl, hz1, hs1⟩
  · have e1' := e1.symm
    subst e1'
    rw [if_pos rfl]
    refine wpAny_bind (wpAny_rule ?_)
    refine wpAny_bind (wpAny_field hz rfl (x := .ref TO) rfl ?_)
    refine wpAny_bind (wpAny_setField_rec hz (by simp) fun h1 hz1 hs1 => ?_)
    replace hz1 : IsZ h1 z TI TO .ellipsis f1 := hz1
    simp only [List.map_cons, List.zipIdx_cons, List.forIn_cons]
    refine wpAny_bind (wpAny_bind (wpAny_bind (wpAny_onRaise ?_)))
    show wpAny _ _ (Builtin.SmallTypes.nextOf (.ref q.1) >>= _) _ _ _
    refine wpAny_bind (wpAny_nextOf_list_end hh (hi.extBut hs1.extBut (D.iz q qm)) (hl.extBut hs1.extBut (D.lz q qm)) hx fun h2 e hs2 he => ?_)
    obtain ⟨oe, hoe, hce⟩ := he
    have hz2 : IsZ h2 z TI TO .ellipsis f1 := hs2 _ _ (D.iz q qm).symm hz1
    have hez : e ≠ z := fun x => by subst x; rw [hz2] at hoe; cases hoe; simp at hce
    exact wpAny_setField_rec hz2 (by simp) fun h3 _ hs3 => hE h3 e (fun c o c1 c2 c3 x => hs3.extBut _ _ c1 (hs2 _ _ (c3 q qm) (hs1.extBut _ _ c1 x))) ⟨oe, hs3.extBut _ _ hez hoe, hce⟩
  · rw [if_neg (by decide)]
    simp only [List.forIn_toArray, List.map_cons, List.forIn_cons]
    refine wpAny_bind (wpAny_bind (wpAny_bind (wpAny_holding ?_)))
    show wpAny _ _ (Builtin.SmallTypes.nextOf (.ref q.1) >>= _) _ _ _
    refine wpAny_bind (wpAny_nextOf_list_end hh (hi.extBut hs1.extBut (D.iz q qm)) (hl.extBut hs1.extBut (D.lz q qm)) hx fun h2 e hs2 he => ?_)
    exact hE h2 e (fun c o c1 c2 c3 x => hs2 _ _ (c3 q qm) (hs1.extBut _ _ c1 x)) he
theorem py_item {z TI TO : Addr} {p : List (Addr × Addr)} {k : Nat} {f0 f1 : Value} {ts : List Value} {L : Addr → Array Value} {x : Addr → Value} {Q : Option Value → Shared → Prop} (D : Ap z TI TO p) (hp : p ≠ []) (hp2 : p.length ≤ 100)
    (hz : IsZ s.heap z TI TO f0 f1) (hf : f0 = .none ∨ ∃ a : Addr, f0 = rawInt a) (hTI : IsTp s.heap TI (p.map fun q => .ref q.1)) (hTO : IsTp s.heap TO ts) (hts : ts.length = p.length)
    (hi : ∀ q ∈ p, s.heap.IsListIter q.1 q.2 k) (hl : ∀ q ∈ p, s.heap.IsList q.2 (L q.2)) (hx : ∀ q ∈ p, (L q.2)[k]? = some (x q.2))
    (hQ : ∀ h' f0' f1' ts', IsZ h' z TI TO f0' f1' → (f0' = .none ∨ ∃ a : Addr, f0' = rawInt a) → IsTp h' TO ts' → ts'.length = p.length → (∀ q ∈ p, h'.IsListIter q.1 q.2 (k + 1)) → IsTp h' s.heap.objs.size (p.map fun q => x q.2) → h'.objs.size = s.heap.objs.size + 1 →
      Fr z TO p s.heap h' → Q (some (.ref s.heap.objs.size)) { s with heap := h' }) : wpAny (model prog w) A (pyNext (.ref z)) Q E s := by
  have hT : s.TypeIs (.ref z) "zip" := ⟨_, hz, rfl⟩
  unfold pyNext
  exact wpAny_bind (wpAny_attempt (wpAny_callSpecial?_slot (name := Str.ofString "__next__") hT F.slot_zip_next
    (wpAny_call_entry F.slot_zip_next hT F.entry_zip_next
      (next_item D hp hp2 hz hf hTI hTO hts hi hl hx fun h' a0 a00 a1 a2 a3 a4 a5 a6 a7 a8 a9 => wpAny_pure (hQ h' _ _ _ a2 a3 a4 a5 a6 a7 a8 a9)) (F.args_zip_next_1 _))))
theorem py_end {z TI TO : Addr} {q : Addr × Addr} {p : List (Addr × Addr)} {k : Nat} {f0 f1 : Value} {L : Addr → Array Value} {Q : Option Value → Shared → Prop} (hh : A.handled = none) (D : Ap z TI TO (q :: p))
    (hz : IsZ s.heap z TI TO f0 f1) (hf : f0 = .none ∨ ∃ a : Addr, f0 = rawInt a) (hTI : IsTp s.heap TI ((q :: p).map fun q => .ref q.1))
    (hi : s.heap.IsListIter q.1 q.2 k) (hl : s.heap.IsList q.2 (L q.2)) (hx : (L q.2)[k]? = none)
    (hQ : ∀ h', Fr z TO (q :: p) s.heap h' → Q none { s with heap := h' }) : wpAny (model prog w) A (pyNext (.ref z)) Q E s := by
  have hT : s.TypeIs (.ref z) "zip" := ⟨_, hz, rfl⟩
  unfold pyNext
  refine wpAny_bind (wpAny_attempt (wpAny_callSpecial?_slot (name := Str.ofString "__next__") hT F.slot_zip_next
    (wpAny_call_entry F.slot_zip_next hT F.entry_zip_next (next_end hh D hz hf hTI hi hl hx fun h' e hk he => ?_) (F.args_zip_next_1 _))))
  obtain ⟨o, ho, hc⟩ := he
  refine wpAny_bind (wpAny_isInstance (T := "StopIteration") (b := true) ⟨o, ho, hc⟩ isSubtype_stop ?_)
  exact wpAny_pure (hQ _ hk)
theorem py_iter {z TI TO : Addr} {f0 f1 : Value} {Q : Value → Shared → Prop} (hz : IsZ s.heap z TI TO f0 f1) (h : Q (.ref z) s) : wpAny (model prog w) A (pyIter (.ref z)) Q E s := by
  have hT : s.TypeIs (.ref z) "zip" := ⟨_, hz, rfl⟩
  refine wpAny_pyIter_slot hT F.slot_zip_iter (wpAny_call_entry F.slot_zip_iter hT F.entry_zip_iter ?_ (F.args_zip_iter_1 _))
  show wpAny _ _ (ret (.ref z)) _ _ s
  exact wpAny_pure ⟨_, rfl, "zip", _, hT, F.slot_zip_next.lookup, h⟩
/-! made of four lists -/
theorem typeCall4 (a b c d : Value) : checkTypeCall "zip" ⟨[a, b, c, d], []⟩ = pure () := by kernel_rfl
theorem newCall4 (a b c d : Value) : checkBuiltinCall "zip.__new__" ⟨[.type "zip", a, b, c, d], []⟩ = pure () := by kernel_rfl
theorem args5 (a b c d e : Value) : argsOk "object.__init__" ⟨[a, b, c, d, e], []⟩ := by
  unfold argsOk; rw [signature?_of (id := "object.__init__") (n := ['_', '_', 't', 'i', 'n', 'i', '_', '_']) (o := ['t', 'c', 'e', 'j', 'b', 'o']) (by kernel_rfl) F.owner_object]; kernel_rfl
abbrev li (l : Addr) : Obj := { cls := .type "list_iterator", data := .fields #[.ref l, .int 0 0] }
abbrev zH1 (h : Heap) (a : Addr) : Heap := h.push (li a)
abbrev zH2 (h : Heap) (a b : Addr) : Heap := (zH1 h a).push (li b)
abbrev zH3 (h : Heap) (a b c : Addr) : Heap := (zH2 h a b).push (li c)
abbrev zH4 (h : Heap) (a b c d : Addr) : Heap := (zH3 h a b c).push (li d)
abbrev zH5 (h : Heap) (a b c d : Addr) : Heap := (zH4 h a b c d).push { cls := .type "tuple", data := .seq #[.ref h.objs.size, .ref (zH1 h a).objs.size, .ref (zH2 h a b).objs.size, .ref (zH3 h a b c).objs.size] }
abbrev zH6 (h : Heap) (a b c d : Addr) : Heap := (zH5 h a b c d).push { cls := .type "tuple", data := .seq #[.none, .none, .none, .none] }
abbrev zH7 (h : Heap) (a b c d : Addr) : Heap := (zH6 h a b c d).push { cls := .type "zip", data := .fields #[.none, .bool false, .bool false, .ref (zH4 h a b c d).objs.size, .ref (zH5 h a b c d).objs.size] }
theorem meets4 (a b c d : Addr) (xa xb xc xd : Array Value) :
    Meets (Builtin.«zip.__new__» ⟨[.type "zip", .ref a, .ref b, .ref c, .ref d], []⟩) (fun _ R s => s.heap.IsList a xa ∧ s.heap.IsList b xb ∧ s.heap.IsList c xc ∧ s.heap.IsList d xd ∧
      R (.ok (.ret (.ref (zH6 s.heap a b c d).objs.size))) { s with heap := zH7 s.heap a b c d }) :=
  .of_wp fun prog w A R s h => by
    obtain ⟨hp, g, dr, tk, os⟩ := s; obtain ⟨h1, h2, h3, h4, h⟩ := h
    have hsub := sub_zip
    have L1 : Heap.IsList (Shared.heap ⟨hp, g, dr, tk, os⟩) a xa := h1
    have L2 : Heap.IsList (Shared.heap ⟨zH1 hp a, g, dr, tk, os⟩) b xb := Heap.IsList.push h2 _
    have L3 : Heap.IsList (Shared.heap ⟨zH2 hp a b, g, dr, tk, os⟩) c xc := Heap.IsList.push (Heap.IsList.push h3 _) _
    have L4 : Heap.IsList (Shared.heap ⟨zH3 hp a b c, g, dr, tk, os⟩) d xd := Heap.IsList.push (Heap.IsList.push (Heap.IsList.push h4 _) _) _
    wp_walk using wpAny_pyIter_list L1, wpAny_pyIter_list L2, wpAny_pyIter_list L3, wpAny_pyIter_list L4
    exact ⟨_, rfl, h⟩
theorem call4 {a b c d : Addr} {xa xb xc xd : Array Value} {Q : Value → Shared → Prop} (ha : s.heap.IsList a xa) (hb : s.heap.IsList b xb) (hc : s.heap.IsList c xc) (hd : s.heap.IsList d xd)
    (h : ∀ h', IsZ h' (s.heap.objs.size + 6) (s.heap.objs.size + 4) (s.heap.objs.size + 5) .none (.bool false) → IsTp h' (s.heap.objs.size + 4) [.ref s.heap.objs.size, .ref (s.heap.objs.size + 1), .ref (s.heap.objs.size + 2), .ref (s.heap.objs.size + 3)] →
      IsTp h' (s.heap.objs.size + 5) [.none, .none, .none, .none] → h'.IsListIter s.heap.objs.size a 0 → h'.IsListIter (s.heap.objs.size + 1) b 0 → h'.IsListIter (s.heap.objs.size + 2) c 0 → h'.IsListIter (s.heap.objs.size + 3) d 0 →
      (∀ c o, s.heap.get? c = some o → h'.get? c = some o) → Q (.ref (s.heap.objs.size + 6)) { s with heap := h' }) :
    wpAny (model prog w) A (call (.type "zip") [.ref a, .ref b, .ref c, .ref d]) Q E s := by
  refine callType_new F.called_zip (by decide) (typeCall4 _ _ _ _) (newCall4 _ _ _ _) (fun obj => args5 obj _ _ _ _) F.entry_zip_new (meets4 a b c d xa xb xc xd) ⟨ha, hb, hc, hd, ?_⟩
  have z1 : (zH1 s.heap a).objs.size = s.heap.objs.size + 1 := Heap.size_push ..
  have z2 : (zH2 s.heap a b).objs.size = s.heap.objs.size + 2 := by rw [Heap.size_push, z1]
  have z3 : (zH3 s.heap a b c).objs.size = s.heap.objs.size + 3 := by rw [Heap.size_push, z2]
  have z4 : (zH4 s.heap a b c d).objs.size = s.heap.objs.size + 4 := by rw [Heap.size_push, z3]
  have z5 : (zH5 s.heap a b c d).objs.size = s.heap.objs.size + 5 := by rw [Heap.size_push, z4]
  have z6 : (zH6 s.heap a b c d).objs.size = s.heap.objs.size + 6 := by rw [Heap.size_push, z5]
  have g7 : (zH7 s.heap a b c d).get? (zH6 s.heap a b c d).objs.size = some _ := Heap.get?_push_size _ rfl
  have up7 : ∀ {c' o}, (zH6 s.heap a b c d).get? c' = some o → (zH7 s.heap a b c d).get? c' = some o := fun e => Heap.get?_push_of_some _ e
  have up6 : ∀ {c' o}, (zH5 s.heap a b c d).get? c' = some o → (zH7 s.heap a b c d).get? c' = some o := fun e => up7 (Heap.get?_push_of_some _ e)
  have up5 : ∀ {c' o}, (zH4 s.heap a b c d).get? c' = some o → (zH7 s.heap a b c d).get? c' = some o := fun e => up6 (Heap.get?_push_of_some _ e)
  have up4 : ∀ {c' o}, (zH3 s.heap a b c).get? c' = some o → (zH7 s.heap a b c d).get? c' = some o := fun e => up5 (Heap.get?_push_of_some _ e)
  have up3 : ∀ {c' o}, (zH2 s.heap a b).get? c' = some o → (zH7 s.heap a b c d).get? c' = some o := fun e => up4 (Heap.get?_push_of_some _ e)
  have up2 : ∀ {c' o}, (zH1 s.heap a).get? c' = some o → (zH7 s.heap a b c d).get? c' = some o := fun e => up3 (Heap.get?_push_of_some _ e)
  have up1 : ∀ {c' o}, s.heap.get? c' = some o → (zH7 s.heap a b c d).get? c' = some o := fun e => up2 (Heap.get?_push_of_some _ e)
  have g6 : (zH7 s.heap a b c d).get? (zH5 s.heap a b c d).objs.size = some _ := up7 (Heap.get?_push_size _ rfl)
  have g5 : (zH7 s.heap a b c d).get? (zH4 s.heap a b c d).objs.size = some _ := up6 (Heap.get?_push_size _ rfl)
  have g4 : (zH7 s.heap a b c d).get? (zH3 s.heap a b c).objs.size = some _ := up5 (Heap.get?_push_size _ rfl)
  have g3 : (zH7 s.heap a b c d).get? (zH2 s.heap a b).objs.size = some _ := up4 (Heap.get?_push_size _ rfl)
  have g2 : (zH7 s.heap a b c d).get? (zH1 s.heap a).objs.size = some _ := up3 (Heap.get?_push_size _ rfl)
  have g1 : (zH7 s.heap a b c d).get? s.heap.objs.size = some _ := up2 (Heap.get?_push_size _ rfl)
  show _ ∧ _
  rw [z6, z4, z5] at g7
  rw [z5] at g6
  rw [z4, z1, z2, z3] at g5
  rw [z3] at g4
  rw [z2] at g3
  rw [z1] at g2
  rw [z6]
  exact ⟨⟨_, g7, rfl⟩, h _ g7 g5 g6 ⟨_, g1, rfl, rfl⟩ ⟨_, g2, rfl, rfl⟩ ⟨_, g3, rfl, rfl⟩ ⟨_, g4, rfl, rfl⟩ fun _ _ x => up1 x⟩
end
end ZN

namespace Mine
open PySem PySem.Spec PyProof.Rows L2 ZN
/-! ### zip(*xs) of four lists, one name for what it gives -/
def ItN (K : PySem.W.Frag) (as : List Addr) : It :=
  ⟨fun i H => ∃ (xss : Addr → List V) (x : Addr → V), ∀ a ∈ as, SqL K H a (xss a) ∧ (xss a)[i]? = some (x a),
    fun i H v H' => ∃ (T : Addr) (x : Addr → V), v = .ref T ∧ H T = none ∧ H' = upd H T (.tup (as.map x)) ∧ ∀ a ∈ as, ∀ xs, SqL K H a xs → xs[i]? = some (x a),
    fun i H => ∃ (a : Addr) (r : List Addr), as = a :: r ∧ ∃ xs : List V, SqL K H a xs ∧ xs.length ≤ i⟩
theorem turnN {P : Program} {w : World} {K : PySem.W.Frag} {nm : Str} {npos : Pos} {z TI TO : Addr} {p : List (Addr × Addr)} (D : Ap z TI TO p) (hp : p ≠ []) (hp2 : p.length ≤ 100) :
    Turn P w K (.Name nm npos) (ItN K (p.map (·.2))) (z :: TI :: TO :: p.map (·.1)) z (fun i h => ∃ f0 f1 ts, IsZ h z TI TO f0 f1 ∧ (f0 = .none ∨ ∃ a : Addr, f0 = rawInt a) ∧ IsTp h TI (p.map fun q => .ref q.1) ∧ IsTp h TO ts ∧ ts.length = p.length ∧ ∀ q ∈ p, h.IsListIter q.1 q.2 i) where
  mem := List.mem_cons_self
  obj := fun i h st c hc => by
    obtain ⟨f0, f1, ts, hz, _, hTI, hTO, _, hi⟩ := st
    rcases List.mem_cons.mp hc with rfl | hc
    · exact ⟨_, hz, fun v q => nomatch q⟩
    rcases List.mem_cons.mp hc with rfl | hc
    · exact ⟨_, hTI, fun v q => nomatch q⟩
    rcases List.mem_cons.mp hc with rfl | hc
    · exact ⟨_, hTO, fun v q => nomatch q⟩
    obtain ⟨q, hq, rfl⟩ := List.mem_map.mp hc
    obtain ⟨o, e, _, d⟩ := hi q hq
    exact ⟨o, e, fun v q => by rw [d] at q; cases q⟩
  keep := fun i h h' st k => by
    obtain ⟨f0, f1, ts, hz, hf, hTI, hTO, ht, hi⟩ := st
    exact ⟨f0, f1, ts, k z (by simp) _ hz, hf, k TI (by simp) _ hTI, k TO (by simp) _ hTO, ht, fun q hq => (hi q hq).at fun o e => k q.1 (by simp only [List.mem_cons]; exact .inr (.inr (.inr (List.mem_map.mpr ⟨q, hq, rfl⟩)))) o e⟩
  item := by
    intro X hP hw hK hc i pins s σ H E I hf st hg
    subst hP hw hK
    obtain ⟨f0, f1, ts, hz, hf0, hTI, hTO, ht, hi⟩ := st
    obtain ⟨xss, x, hg⟩ := hg
    have mem2 : ∀ q ∈ p, q.2 ∈ p.map (·.2) := fun q hq => List.mem_map.mpr ⟨q, hq, rfl⟩
    have ch : ∀ a : Addr, ∃ u : List Value × Value, a ∈ p.map (·.2) → s.heap.IsList a u.1.toArray ∧ u.1[i]? = some u.2 ∧ RelV (x a) u.2 := fun a => by
      by_cases c : a ∈ p.map (·.2)
      · obtain ⟨h1, h2⟩ := hg a c
        obtain ⟨its, rv, pl, _⟩ := I.list h1
        obtain ⟨u, hu, ru⟩ := rv.get h2
        exact ⟨(its, u), fun _ => ⟨pl.isList, hu, ru⟩⟩
      · exact ⟨([], .none), fun z => absurd z c⟩
    obtain ⟨g, hg2⟩ := Classical.axiomOfChoice ch
    refine py_item (L := fun a => (g a).1.toArray) (x := fun a => (g a).2) D hp hp2 hz hf0 hTI hTO ht hi (fun q hq => (hg2 _ (mem2 q hq)).1) (fun q hq => by simpa using (hg2 _ (mem2 q hq)).2.1) fun h' f0' f1' ts' hz' hf' hTO' ht' hi' hT hsz hk => ?_
    refine ⟨_, rfl, wpAny_pure ?_⟩
    have frm : ∀ c o, c ∉ z :: TI :: TO :: p.map (·.1) → s.heap.get? c = some o → h'.get? c = some o := fun c o hc e => hk c o (fun y => hc (by rw [y]; simp)) (fun y => hc (by rw [y]; simp)) (fun q hq y => hc (by simp only [List.mem_cons]; exact .inr (.inr (.inr (List.mem_map.mpr ⟨q, hq, y.symm⟩))))) e
    have vals : Vals ((p.map (·.2)).map x) (p.map fun q => (g q.2).2) := by
      have : ∀ l : List (Addr × Addr), (∀ q ∈ l, q ∈ p) → Vals ((l.map (·.2)).map x) (l.map fun q => (g q.2).2) := fun l => by
        induction l with
        | nil => intro _; exact .nil
        | cons q l ih => intro h; exact .cons (hg2 _ (mem2 q (h q List.mem_cons_self))).2.2 (ih fun r hr => h r (List.mem_cons_of_mem _ hr))
      exact this p fun q hq => hq
    have new : ObjOk X.prog X.w (upd H s.heap.objs.size (.tup ((p.map (·.2)).map x))) h' s.heap.objs.size (.tup ((p.map (·.2)).map x)) :=
      ⟨by rw [List.length_map, List.length_map, sizeLine_eq]; omega, _, vals, ⟨_, hT, rfl, _, rfl⟩⟩
    have I1 : Inv X pins σ (upd H s.heap.objs.size (.tup ((p.map (·.2)).map x))) { s with heap := h' } :=
      I.turnedNew (t' := s.toks) (ch := z :: TI :: TO :: p.map (·.1)) (fun c o hb q => frm c o hb q) hf (Nat.le_refl _) new
    refine ⟨.ref s.heap.objs.size, _, I1, rfl, ⟨_, x, rfl, I.hok.fresh (Nat.le_refl _), rfl, fun a ha xs hxs => ?_⟩, ⟨f0', f1', ts', hz', hf', hk _ _ D.TIz D.TITO (fun q hq => D.iTI q hq) hTI, hTO', ht', hi'⟩, fun c hcm => ?_⟩
    · obtain ⟨h1, h2⟩ := hg a ha
      rw [I.list_inj hxs h1]; exact h2
    · have hlt : c < s.heap.objs.size := by
        rcases List.mem_cons.mp hcm with rfl | hcm
        · exact Heap.lt_size hz
        rcases List.mem_cons.mp hcm with rfl | hcm
        · exact Heap.lt_size hTI
        rcases List.mem_cons.mp hcm with rfl | hcm
        · exact Heap.lt_size hTO
        obtain ⟨q, hq, rfl⟩ := List.mem_map.mp hcm
        obtain ⟨_, e, _⟩ := hi q hq
        exact Heap.lt_size e
      rw [upd_ne (Nat.ne_of_lt hlt)]
      exact (hf c hcm).1
  done := by
    intro X hP hw hK hc i pins s σ H E I hf st hg
    subst hP hw hK
    obtain ⟨f0, f1, ts, hz, hf0, hTI, hTO, ht, hi⟩ := st
    obtain ⟨a, r, ea, xs, hxs, hl⟩ := hg
    cases p with
    | nil => exact absurd rfl hp
    | cons q p =>
      rw [List.map_cons] at ea
      injection ea with e1 e2
      subst e1
      obtain ⟨its, rv, pl, _⟩ := I.list hxs
      have l1 := rv.length
      refine py_end (L := fun _ => its.toArray) (I.ok.hd hc) D hz hf0 hTI (hi q List.mem_cons_self) pl.isList (by simp; omega) fun h' hk => ⟨rfl, I.turnedL (t' := s.toks) (ch := z :: TI :: TO :: (q :: p).map (·.1)) (fun c o hb e =>
        hk c o (fun y => hb (by rw [y]; simp)) (fun y => hb (by rw [y]; simp)) (fun u hu y => hb (by simp only [List.mem_cons]; exact .inr (.inr (.inr (List.mem_map.mpr ⟨u, hu, y.symm⟩))))) e) hf⟩
  self := fun A i s Q E st h => by
    obtain ⟨f0, f1, ts, hz, _⟩ := st
    exact py_iter hz h
def iZip4 (K : PySem.W.Frag) (te : TE) : TI := fun σ H R => te σ H fun x H1 => ∃ (l a b c d : Addr) (xa xb xc xd : List V), x = .ref l ∧ SqL K H1 l [.ref a, .ref b, .ref c, .ref d] ∧ SqL K H1 a xa ∧ SqL K H1 b xb ∧ SqL K H1 c xc ∧ SqL K H1 d xd ∧ R (ItN K [a, b, c, d]) H1
theorem pi_zip4 {X : Cx} {K : PySem.W.Frag} {e : Expr} {te : TE} {p pos spos npos : Pos} {nm : Str} (eK : X.K = K) (hg : Gl X "zip") (hm : X.mg "zip" = none) (he : PE X e te)
    (hst : starEach [.Starred e spos] X.env = [(true, eval e X.env)] := by rfl) :
    PI X (.Name nm npos) (.Call (.Name "zip" p) [.Starred e spos] [] pos) (iZip4 K te) := by
  subst eK
  refine ⟨fun pins s σ H R I h => ?_⟩
  refine Call_ (ld_blt I hg hm PyProof.Rows.boot_zip ?_)
  rw [hst]
  refine PySem.W.ks_call (P := fun _ => True) rfl (fun h _ => ⟨.machine, .inr (.inl rfl), PySem.W.Looks.of_pure rfl⟩) (PySem.W.ks_lone (thn (he.run pins s σ H _ I h) fun v s1 ⟨y, H1, I1, ry, q1⟩ => ?_))
  obtain ⟨l, a, b, c, d, xa, xb, xc, xd, rfl, hl, ha, hb, hc, hd, q⟩ := q1
  obtain rfl : v = Value.ref l := ry
  refine StX.star_lst I1 hl fun us s2 I2 rv => ⟨trivial, ?_⟩
  cases rv with
  | cons r1 rv =>
  cases rv with
  | cons r2 rv =>
  cases rv with
  | cons r3 rv =>
  cases rv with
  | cons r4 rv =>
  cases rv
  cases r1
  cases r2
  cases r3
  cases r4
  obtain ⟨ia, rva, pa, _⟩ := I2.list ha
  obtain ⟨ib, rvb, pb, _⟩ := I2.list hb
  obtain ⟨ic, rvc, pc, _⟩ := I2.list hc
  obtain ⟨id_, rvd, pd, _⟩ := I2.list hd
  show wpAny _ _ (call (.type "zip") [.ref a, .ref b, .ref c, .ref d]) _ _ s2
  refine call4 pa.isList pb.isList pc.isList pd.isList fun h' hz hTI hTO h1 h2 h3 h4 hk => py_iter hz ?_
  have I3 : Inv X pins σ H1 { s2 with heap := h' } := I2.kept (t' := s2.toks) hk
  have la := pa.lt
  have lb := pb.lt
  have lc := pc.lt
  have ld := pd.lt
  let n := s2.heap.objs.size
  let ps : List (Addr × Addr) := [(n, a), (n + 1, b), (n + 2, c), (n + 3, d)]
  have mem4 : ∀ {P : Addr × Addr → Prop}, P (n, a) → P (n + 1, b) → P (n + 2, c) → P (n + 3, d) → ∀ q ∈ ps, P q := fun {P} p1 p2 p3 p4 q hq => by
    simp only [ps, List.mem_cons, List.not_mem_nil, or_false] at hq
    rcases hq with rfl | rfl | rfl | rfl
    · exact p1
    · exact p2
    · exact p3
    · exact p4
  have nn : ∀ i : Nat, s2.heap.objs.size + i = n + i := fun _ => rfl
  have D : Ap (n + 6) (n + 4) (n + 5) ps := by
    have la : @LT.lt Nat _ a n := la
    have lb : @LT.lt Nat _ b n := lb
    have lc : @LT.lt Nat _ c n := lc
    have ld : @LT.lt Nat _ d n := ld
    refine ⟨?_, ?_, ?_, ?_, mem4 ?_ ?_ ?_ ?_, mem4 ?_ ?_ ?_ ?_, mem4 ?_ ?_ ?_ ?_, mem4 ?_ ?_ ?_ ?_, mem4 ?_ ?_ ?_ ?_, mem4 (mem4 ?_ ?_ ?_ ?_) (mem4 ?_ ?_ ?_ ?_) (mem4 ?_ ?_ ?_ ?_) (mem4 ?_ ?_ ?_ ?_)⟩
    case refine_4 =>
      show ([n, n + 1, n + 2, n + 3] : List Nat).Nodup
      simp
    all_goals (clear_value n; show ¬ (@Eq Nat _ _); omega)
  refine ⟨n + 6, (n + 6) :: (n + 4) :: (n + 5) :: ps.map (·.1), _, _, H1, rfl, I3, turnN D (by simp [ps]) (show 4 ≤ 100 by decide), ⟨.none, .bool false, _, hz, .inl rfl, hTI, hTO, rfl, mem4 h1 h2 h3 h4⟩, fun c' hc' => ?_, q⟩
  have le : s2.heap.objs.size ≤ c' := by
    have e' : c' = n + 6 ∨ c' = n + 4 ∨ c' = n + 5 ∨ c' = n ∨ c' = n + 1 ∨ c' = n + 2 ∨ c' = n + 3 := by simpa [ps] using hc'
    show @LE.le Nat _ n c'
    clear_value n
    rcases e' with e | e | e | e | e | e | e <;> (rw [e]; show @LE.le Nat _ n _; omega)
  exact I2.fpOk le (I2.hok.fresh le)
def eZipS (a : DX) : DAX := fun env Q E => a env (fun d => ∃ (n : Nat) (xs : List (List Dt)), d = .lst (xs.map .lst) ∧ xs.length = 4 ∧ (∀ l ∈ xs, l.length = n) ∧ Q ((List.range n).map fun i => .tup (xs.map fun l => l.getD i .non))) E
theorem eZipS_W (a : DX) {env} {Q} {E} : eZipS a env Q E = a env (fun d => ∃ (n : Nat) (xs : List (List Dt)), d = .lst (xs.map .lst) ∧ xs.length = 4 ∧ (∀ l ∈ xs, l.length = n) ∧ Q ((List.range n).map fun i => .tup (xs.map fun l => l.getD i .non))) E := rfl
theorem Den.lstI {K : PySem.W.Frag} {H : Hp} {v : V} {ds : List Dt} (h : Den K H v (.lst ds)) : ∃ a xs, v = .ref a ∧ H a = some (.lst xs) ∧ DenAll K H xs ds := by
  cases h with
  | lst e a => exact ⟨_, _, rfl, e, a⟩
theorem DenAll.cons_inv {K : PySem.W.Frag} {H : Hp} {vs : List V} {d : Dt} {ds : List Dt} (h : DenAll K H vs (d :: ds)) : ∃ v vs', vs = v :: vs' ∧ Den K H v d ∧ DenAll K H vs' ds := by
  cases h with
  | cons a b => exact ⟨_, _, rfl, a, b⟩
theorem DenAll.nil_inv {K : PySem.W.Frag} {H : Hp} {vs : List V} (h : DenAll K H vs []) : vs = [] := by
  cases h; rfl
theorem len4 {α : Type} {xs : List α} (h : xs.length = 4) : ∃ a b c d, xs = [a, b, c, d] := by
  match xs, h with
  | [a, b, c, d], _ => exact ⟨a, b, c, d, rfl⟩
theorem di_zip4 {C : Bc} {t : TE} {a : DX} (h : DB C t a) : DIg Weak C (iZip4 C.K t) (eZipS a) := by
  intro X env σ H Rr Qd Qx rp he q x
  refine h X env σ H _ _ Qx rp he (fun d v H1 f1 r1 he1 => ?_) x
  obtain ⟨n, xs, rfl, h4, hn, he1⟩ := he1
  obtain ⟨x1, x2, x3, x4, rfl⟩ := len4 h4
  obtain ⟨p, vs, rfl, h3, k⟩ := bor_lst r1
  have rp1 := rp.step f1
  obtain ⟨_, den⟩ := k X H1 ⟨.refl H1, rp1.hX, fun a y => .inl y, rp1.al⟩
  obtain ⟨v1, vs, rfl, d1, den⟩ := den.cons_inv
  obtain ⟨v2, vs, rfl, d2, den⟩ := den.cons_inv
  obtain ⟨v3, vs, rfl, d3, den⟩ := den.cons_inv
  obtain ⟨v4, vs, rfl, d4, den⟩ := den.cons_inv
  obtain rfl := den.nil_inv
  obtain ⟨a1, u1, rfl, g1, e1⟩ := d1.lstI
  obtain ⟨a2, u2, rfl, g2, e2⟩ := d2.lstI
  obtain ⟨a3, u3, rfl, g3, e3⟩ := d3.lstI
  obtain ⟨a4, u4, rfl, g4, e4⟩ := d4.lstI
  have sq : ∀ {a : Addr} {u : List V}, vis H1 X a = some (.lst u) → SqL C.K H1 a u := fun e => .inl (.inl (vis_sub _ _ e))
  refine ⟨p, a1, a2, a3, a4, u1, u2, u3, u4, rfl, .inl (.inl h3), sq g1, sq g2, sq g3, sq g4, q _ _ H1 f1 (fun Y i H2 s => ?_) he1⟩
  have st := s.strong
  have n1 : x1.length = n := hn x1 (by simp)
  have n2 : x2.length = n := hn x2 (by simp)
  have n3 : x3.length = n := hn x3 (by simp)
  have n4 : x4.length = n := hn x4 (by simp)
  have gg : ∀ {a : Addr} {u : List V}, vis H1 X a = some (.lst u) → SqL C.K H2 a u := fun e => .inl (.inl (vis_sub _ _ (st.1 _ _ e)))
  have l1 := e1.length
  have l2 := e2.length
  have l3 := e3.length
  have l4 := e4.length
  have m4 : ∀ {P : Addr → Prop}, P a1 → P a2 → P a3 → P a4 → ∀ a ∈ [a1, a2, a3, a4], P a := fun {P} p1 p2 p3 p4 a ha => by
    simp only [List.mem_cons, List.not_mem_nil, or_false] at ha
    rcases ha with rfl | rfl | rfl | rfl <;> assumption
  have itm : ∀ {a : Addr} {u : List V} {ds : List Dt}, vis H1 X a = some (.lst u) → DenAll C.K (vis H1 X) u ds → ds.length = n → i < n → ∃ y, u[i]? = some y ∧ Den C.K (vis H2 Y) y (ds.getD i .non) := fun {a u ds} g e l hi => by
    have lu := e.length
    have h5 : ds[i]? = some ds[i] := List.getElem?_eq_getElem (by omega)
    obtain ⟨y, ey, dy⟩ := e.get h5
    exact ⟨y, ey, by rw [List.getD_eq_getElem?_getD, h5]; exact dy.mono st.1⟩
  refine ⟨fun hi => ?_, fun hi => ?_⟩
  · rw [List.length_map, List.length_range] at hi
    obtain ⟨y1, ey1, dy1⟩ := itm g1 e1 n1 hi
    obtain ⟨y2, ey2, dy2⟩ := itm g2 e2 n2 hi
    obtain ⟨y3, ey3, dy3⟩ := itm g3 e3 n3 hi
    obtain ⟨y4, ey4, dy4⟩ := itm g4 e4 n4 hi
    refine ⟨?_, fun v H' hy => ?_⟩
    · have ch : ∀ a : Addr, ∃ u : List V × V, a ∈ [a1, a2, a3, a4] → SqL C.K H2 a u.1 ∧ u.1[i]? = some u.2 := fun a => by
        by_cases c : a ∈ [a1, a2, a3, a4]
        · have : ∃ u : List V × V, SqL C.K H2 a u.1 ∧ u.1[i]? = some u.2 := m4 (P := fun a => ∃ u : List V × V, SqL C.K H2 a u.1 ∧ u.1[i]? = some u.2) ⟨(u1, y1), gg g1, ey1⟩ ⟨(u2, y2), gg g2, ey2⟩ ⟨(u3, y3), gg g3, ey3⟩ ⟨(u4, y4), gg g4, ey4⟩ a c
          obtain ⟨u, hu⟩ := this
          exact ⟨u, fun _ => hu⟩
        · exact ⟨([], .non), fun z => absurd z c⟩
      obtain ⟨f, hf⟩ := Classical.axiomOfChoice ch
      exact ⟨fun a => (f a).1, fun a => (f a).2, hf⟩
    · obtain ⟨T, y, rfl, hT, rfl, hy⟩ := hy
      have nT : ¬ Y T := fun z => by
        obtain ⟨o, e⟩ := st.2 T z
        rw [hT] at e; cases e
      have mv : Same (vis H2 Y) (vis (upd H2 T (.tup ([a1, a2, a3, a4].map y))) Y) := fun c o e => by
        obtain ⟨m1, e1⟩ := vis_of e
        exact vis_mk m1 (same_upd hT _ _ e1)
      have q1 : y a1 = y1 := by have := hy a1 (by simp) u1 (gg g1); rw [ey1] at this; exact (Option.some.inj this).symm
      have q2 : y a2 = y2 := by have := hy a2 (by simp) u2 (gg g2); rw [ey2] at this; exact (Option.some.inj this).symm
      have q3 : y a3 = y3 := by have := hy a3 (by simp) u3 (gg g3); rw [ey3] at this; exact (Option.some.inj this).symm
      have q4 : y a4 = y4 := by have := hy a4 (by simp) u4 (gg g4); rw [ey4] at this; exact (Option.some.inj this).symm
      refine ⟨same_upd hT, _, by rw [List.getElem?_map, List.getElem?_range hi]; rfl, .tup (vis_mk nT upd_same) ?_⟩
      show DenAll _ _ [y a1, y a2, y a3, y a4] [_, _, _, _]
      rw [q1, q2, q3, q4]
      exact .cons (dy1.mono mv) (.cons (dy2.mono mv) (.cons (dy3.mono mv) (.cons (dy4.mono mv) .nil)))
  · rw [List.length_map, List.length_range] at hi
    exact ⟨a1, _, rfl, u1, gg g1, by omega⟩
end Mine

namespace Mine
open PySem PySem.Spec PyProof.Rows L2
/-! ### a list of one's own handed to a def that only reads it: it stays one's own -/
section
variable {C : Bc} {X : Addr → Prop} {env : List Sl} {σ : L2.St} {H H1 : Hp}
theorem Rep.frz2 (r : Rep C X env σ H) {i : Nat} {xs : Ow} (e : env[i]? = some (.own xs)) : ∃ p vs, σ[i]? = some (some (.ref p)) ∧ X p ∧ ¬ C.X0 p ∧ H p = some vs ∧ DenO C.K (vis H X) vs xs ∧ Rep C (fun a => X a ∧ a ≠ p) (Mine.frz env i) σ H := by
  unfold Mine.frz
  rw [e]
  obtain ⟨o, es, p, vs, rfl, x1, x2, h1, h2⟩ := r.slot i _ e
  have hl : i < env.length := (List.getElem?_eq_some_iff.mp e).1
  have sm : Same (vis H X) (vis H fun a => X a ∧ a ≠ p) := vis_anti fun a z => z.1
  refine ⟨p, vs, es, x1, x2, h1, h2, ⟨by rw [List.length_set, r.len], fun a z => ⟨r.sup a z, fun q => x2 (q ▸ z)⟩, fun a z => r.new a z.1, fun a z => r.al a z.1, r.frm, r.hands, fun j s q => ?_, fun j k ys zs ne e1 e2 => ?_, r.one.set fun _ _ _ z => by cases z⟩⟩
  · rw [List.getElem?_set] at q
    by_cases c : i = j
    · subst c
      rw [if_pos rfl, if_pos hl] at q
      cases q
      exact ⟨_, es, _, rfl, (h2.mono sm).fz (vis_mk (fun z => z.2 rfl) h1)⟩
    · rw [if_neg c] at q
      obtain ⟨o, e1, w⟩ := r.slot j s q
      refine ⟨o, e1, ?_⟩
      cases s with
      | no => trivial
      | d x => obtain ⟨v, e2, h⟩ := w; exact ⟨v, e2, h.mono sm⟩
      | own ys =>
        obtain ⟨p', us, rfl, y1, y2, y3, y4⟩ := w
        have ne : p' ≠ p := fun z => r.inj i j xs ys c e q (by rw [es, e1, z])
        exact ⟨p', us, rfl, ⟨y1, ne⟩, y2, y3, y4.mono sm⟩
      | hand => exact w
      | exc c' fs => exact w.exc sm
      | ins C0 ns ds =>
        obtain ⟨p', dx, us, rfl, y1, y2, y3, yl, y4⟩ := w
        have ne : p' ≠ p := fun z => by rw [z, h1] at y3; cases y3; exact h2.noins
        exact ⟨p', dx, us, rfl, ⟨y1, ne⟩, y2, y3, yl, y4.mono sm⟩
  · rw [List.getElem?_set] at e1 e2
    by_cases c : i = j
    · subst c
      rw [if_pos rfl, if_pos hl] at e1; cases e1
    · rw [if_neg c] at e1
      by_cases c2 : i = k
      · subst c2
        rw [if_pos rfl, if_pos hl] at e2; cases e2
      · rw [if_neg c2] at e2
        exact r.inj j k ys zs ne e1 e2
end
/-- x = e, the list of one's own in slot i is handed on within e: what comes back is no part of it -/
def sKeep (i j : Nat) (e : DX) : DSt := fun d env => match env[i]? with
  | some (.own w) => e (frz env i) (fun x => ((∃ z, x = .int z) ∨ ∃ (ns : List Int) (xs : List Dt), x = .lst (ns.map .int) ∧ w = .lst xs ∧ ∃ y ∈ xs, y.flat = none) ∧ d.nx (env.set j (.d x))) (d.xc (frz env i))
  | _ => False
theorem sKeep_W (i j : Nat) (e : DX) {d} {env} : sKeep i j e d env = (match env[i]? with
  | some (.own w) => e (frz env i) (fun x => ((∃ z, x = .int z) ∨ ∃ (ns : List Int) (xs : List Dt), x = .lst (ns.map .int) ∧ w = .lst xs ∧ ∃ y ∈ xs, y.flat = none) ∧ d.nx (env.set j (.d x))) (d.xc (frz env i))
  | _ => False) := rfl
theorem DenAll.intsV {K : PySem.W.Frag} {H : Hp} {ns : List Int} : ∀ {vs : List V}, DenAll K H vs (ns.map .int) → vs = ns.map V.int := by
  induction ns with
  | nil => intro vs h; exact h.nil_inv
  | cons n ns ih =>
    intro vs h
    rw [List.map_cons] at h
    obtain ⟨v, vs', rfl, a, b⟩ := h.cons_inv
    rw [ih b, a.flat (u := .int n) rfl]; rfl
theorem dst_keep {C : Bc} {te : TE} {e : DX} {i j : Nat} (he : DE C te e) : DS C (tAsg te (gName j)) (sKeep i j e) := by
  intro X env σ H D d r l h
  unfold sKeep at h
  split at h
  · rename_i w e1
    obtain ⟨p, u, es, x1, x2, h1, h2, r2⟩ := r.frz2 e1
    have sm : Same (vis H X) (vis H fun a => X a ∧ a ≠ p) := vis_anti fun a z => z.1
    refine he _ _ σ H _ _ _ r2 h (fun x v H1 f1 r1 q => ?_) ((l.step sm).xok r2)
    have r1 : Den C.K (vis H1 fun a => X a ∧ a ≠ p) v x := r1
    have h1' : H1 p = some u := f1.1 p _ h1 (r.nh x2)
    have den : Den C.K (vis H1 X) v x := by
      rcases q.1 with ⟨z, rfl⟩ | ⟨ns, xs, rfl, rfl, y, hy, hf⟩
      · rw [r1.flat (u := .int z) rfl]; exact .int z
      · obtain ⟨a, vs, rfl, g, den⟩ := r1.lstI
        obtain ⟨n1, g1⟩ := vis_of g
        have hv := den.intsV
        have nX : ¬ X a := fun xa => by
          by_cases c : a = p
          · subst c
            rw [g1] at h1'
            cases h1'
            cases h2 with
            | lst da =>
              obtain ⟨k, hk⟩ := List.mem_iff_getElem?.mp hy
              obtain ⟨v0, ev, dv⟩ := da.get hk
              rw [hv, List.getElem?_map, Option.map_eq_some_iff] at ev
              obtain ⟨z, _, rfl⟩ := ev
              cases dv <;> first | cases hf
          · exact n1 ⟨xa, c⟩
        rw [hv] at g1
        exact .lst (vis_mk nX g1) (DenAll.ints ns)
    exact l.nx X _ _ H1 ((r.step f1).set j den) (r.vs f1) q.2
  · exact h.elim
end Mine

namespace Mine
open PySem PySem.Spec PyProof.Rows L2 GenW
/-! ### generators: if and for around a yield -/
section
variable {prog : Program} {w : World} {A : Around} {R : GenEnd} {Y : Protocol} {n : Nat} {s₀ : Shared} {fs : List Frame} {s : Shared} {env : Env}
/-- what a loop's code does with an exception on its way out -/
def noteJ (env : Env) (e : Value) : Sem PySem.Fin := (do noteFrame e env; theTreesLotGoes e : Sem Unit).bind fun _ => .raise e
theorem seg_forLoop {target : Expr} {it : Value} {body : List Stmt}
    (h : wpAny (model prog w) (A.over (.forLoop target it body [] env) fs) (pyNext it) (fun r s1 => match r with
      | none => Seg (model prog w) A R Y n s₀ (.block [] env) ((model prog w).den (.block [] env)) fs s1
      | some v => wpAny (model prog w) (A.over (.forLoop target it body [] env) fs) (letOwnedTupleGo target it v) (fun _ s2 =>
          wpAny (model prog w) (A.over (.forLoop target it body [] env) fs) (assign target env v) (fun _ s3 =>
            Seg (model prog w) A R Y n s₀ (.forLoop target it body [] env) ((execs body env).wrap (fun f => match f with
              | .next | .cont => .pure (.again (.forLoop target it body [] env))
              | .brk => .pure (.done .next)
              | .ret v => .pure (.done (.ret v))) (noteJ env) id id) fs s3)
            (fun x s' => Seg (model prog w) A R Y n s₀ (.forLoop target it body [] env) (noteJ env x) fs s') s2)
          (fun x s' => Seg (model prog w) A R Y n s₀ (.forLoop target it body [] env) (noteJ env x) fs s') s1)
      (fun x s' => Seg (model prog w) A R Y n s₀ (.forLoop target it body [] env) (noteJ env x) fs s') s) :
    Seg (model prog w) A R Y n s₀ (.forLoop target it body [] env) ((model prog w).den (.forLoop target it body [] env)) fs s := by
  show Seg _ A R Y n s₀ _ ((forTurn target it body [] env).onRaise (fun x => do noteFrame x env; theTreesLotGoes x)) fs s
  unfold forTurn
  rw [Sem.onRaise_eq_wrap]
  refine seg_bind_wrap (wpAny_standAt ?_)
  refine seg_bind_wrap (wpAny_onRaise (wpAny_mono h (fun r s1 h1 => ?_) fun x s' hx => wpAny_standAt hx))
  cases r with
  | none =>
    exact seg_again rfl h1
  | some v =>
    refine seg_bind_wrap (wpAny_mono h1 (fun _ s2 h2 => ?_) fun _ _ z => z)
    refine seg_bind_wrap (wpAny_mono h2 (fun _ s3 h3 => ?_) fun _ _ z => z)
    rw [Sem.bind_eq_wrap', Sem.wrap_wrap]
    rw [Sem.wrap_congr (execs body env) _ _ (K' := fun f => match f with
            | .next | .cont => .pure (.again (.forLoop target it body [] env))
            | .brk => .pure (.done .next)
            | .ret v => .pure (.done (.ret v))) (H' := noteJ env)
        (fun f => by cases f <;> rfl)
        (fun e => by rfl)]
    exact h3
end
section
variable {X : Cx} {pos : Pos}
def tGIf (c : TT) (a b : TGn) : TGn := fun D ys σ H => c σ H fun k H1 => if k = true then a D ys σ H1 else b D ys σ H1
theorem gs_if {test : Expr} {body orelse : List Stmt} {c : TT} {a b : TGn} (hc : PT X test c) (ha : GSs X body a) (hb : GSs X orelse b) : GS X (.If test body orelse pos) (tGIf c a b) := by
  refine ⟨fun A S ip R n ys s₀ cd fs K J gd lv s σ H D g hn k hI ht => ?_⟩
  obtain ⟨acc, cc, r, I⟩ := hI
  rw [arm_exec_If]
  refine seg_bind_wrap (wpAny_standAt ?_)
  refine seg_bind_wrap ?_
  rw [g.over]
  refine wpAny_mono (hc.run _ s σ H _ I ht) (fun b s' hb' => ?_) fun x s' hx => k.exc n s₀ x s' hx
  obtain ⟨H2, I2, q2⟩ := hb'
  cases b with
  | true =>
    rw [if_pos rfl] at q2
    exact ha.run A S ip R n ys s₀ cd fs K J gd lv s' σ H2 D g hn k ⟨acc, cc, r, I2⟩ q2
  | false =>
    rw [if_neg Bool.false_ne_true] at q2
    exact hb.run A S ip R n ys s₀ cd fs K J gd lv s' σ H2 D g hn k ⟨acc, cc, r, I2⟩ q2
def tGFor (wi : TI) (g : TG) (tb : TGn) : TGn := fun D ys σ H => wi σ H fun J H1 => ∃ W : Nat → Nat → List V → L2.St → Hp → Prop, (∃ m, W 0 m ys σ H1) ∧ ∀ i m ys σ H, W i m ys σ H →
  (J.stop i H ∧ D.nx ys σ H) ∨ (J.go i H ∧ ∃ N : List V → L2.St → Hp → Prop, (∀ ys' σ' H', N ys' σ' H' → ∃ m', m' < m ∧ W (i + 1) m' ys' σ' H') ∧ ∀ x H', J.yld i H x H' → g x σ H' fun σ2 H2 => tb { D with nx := N, ct := N, bk := D.nx } ys σ2 H2)
theorem gs_for {tg iter : Expr} {body : List Stmt} {wi : TI} {g : TG} {tb : TGn} (hp : PassesOwn (model X.prog X.w) X.A X.env X.xe) (hc : X.calm = true) (hi : PI X tg iter wi) (hg : PG X tg g) (hb : GSs X body tb)
    (hs : ∀ x, foldedSetIterable iter X.env x = pure x := by intro _; rfl) : GS X (.For tg iter body [] pos) (tGFor wi g tb) := by
  refine ⟨fun A S ip R n ys s₀ c fs K J gd lv s σ H D gc hn k hI ht => ?_⟩
  obtain ⟨acc, cc, r, I⟩ := hI
  rw [exec_For]
  refine seg_bind_wrap (wpAny_standAt ?_)
  refine seg_bind_wrap ?_
  rw [gc.over]
  refine wpAny_mono (hi.run _ s σ H _ I ht) (fun v s1 h1 => ?_) fun x s' hx => k.exc n s₀ x s' hx
  refine seg_bind_wrap (wpAny_of_eq (hs v) ?_)
  refine seg_bind_wrap (wpAny_standAt ?_)
  refine seg_bind_wrap (wpAny_holding ?_)
  rw [gc.over]
  refine wpAny_mono h1 (fun itv s2 h2 => ?_) fun x s' hx => k.exc n s₀ x s' hx
  obtain ⟨it, fp, tn, Jt, H2, e, I2, T, st2, f2, W, ⟨m0, w0⟩, turn⟩ := h2
  subst e
  have neS : ∀ b ∈ fp, b ≠ S := fun b hb z => (f2 b hb).2.2.2.2.2 (S, lstObj acc cc) (List.mem_append_right _ List.mem_cons_self) z.symm
  have stat : ∀ {H' : Hp} {acc' : Array Value} {cc' : Nat}, (∀ b ∈ fp, H' b = none) → ∀ b ∈ fp, FpOk X ((S, lstObj acc' cc') :: ip) H' b := fun {H' acc' cc'} hn b hb => by
    obtain ⟨_, q1, q2, q3, q4, q5⟩ := f2 b hb
    refine ⟨hn b hb, q1, q2, q3, q4, fun p hp => ?_⟩
    rcases List.mem_append.mp hp with hp | hp
    · exact q5 p (List.mem_append_left _ hp)
    · rcases List.mem_cons.mp hp with hp | hp
      · rw [hp]; exact fun z => neS b hb z.symm
      · exact q5 p (List.mem_append_right _ (List.mem_cons_of_mem _ hp))
  show Seg _ _ _ _ n s₀ c ((runOwn (.forLoop tg (.ref it) body [] X.env) X.env).wrap K J gd lv) fs s2
  refine seg_call fun p => ?_
  have gl := fun (kk : Result → Sem PySem.Fin) => gc_loop (k := kk) (c' := .forLoop tg (.ref it) body [] X.env) (l := lv []) (kp := []) (p := p) gc rfl rfl
  have loop : ∀ (m i n : Nat) (ys : List V) (s₀ s : Shared) (σ : L2.St) (H : Hp), n + ys.length = sizeLine → W i m ys σ H → tn i s.heap → (∀ b ∈ fp, H b = none) → GI X S ip ys σ H s →
      Seg (model X.prog X.w) A R (GY X S) n s₀ (.forLoop tg (.ref it) body [] X.env) ((model X.prog X.w).den (.forLoop tg (.ref it) body [] X.env))
        (.ret (fun r => ((match r with | .ok f => (.pure f : Sem Flow) | .error e => .raise e).onRaise (cameBack X.env)).wrap K J gd lv) none (gd false) (lv []) c p [] :: fs) s := by
    intro m
    induction m using Nat.strongRecOn with
    | ind m ih =>
      intro i n ys s₀ s3 σ3 H3 hn w3 st3 fr3 hI
      have ee : ∀ (n : Nat) (s₀ : Shared) (x : Value) (s' : Shared), X.xe x s' → Seg (model X.prog X.w) A R (GY X S) n s₀ (.forLoop tg (.ref it) body [] X.env) (noteJ X.env x)
          (.ret (fun r => ((match r with | .ok f => (.pure f : Sem Flow) | .error e => .raise e).onRaise (cameBack X.env)).wrap K J gd lv) none (gd false) (lv []) c p [] :: fs) s' := fun n s₀ x s' hx => by
        unfold noteJ
        rw [Sem.bind_eq_wrap]
        refine seg_wrap ?_
        rw [(gl _).over]
        refine wpAny_bind (wpAny_mono (hp x s' hx) (fun _ s'' hcb => wpAny_theTreesLotGoes ?_) fun y s'' hcb => ?_)
        · exact seg_leaf (.error x) (seg_cameBack gc k hcb)
        · exact seg_leaf (.error y) (seg_cameBack gc k hcb)
      refine seg_forLoop ?_
      rw [(gl _).over]
      obtain ⟨acc, cc, r, I3⟩ := hI
      rcases turn i m ys σ3 H3 w3 with ⟨stop, qn⟩ | ⟨go, N, hN, step⟩
      · refine wpAny_mono (T.done X rfl rfl rfl hc i _ s3 σ3 H3 X.xe I3 (stat fr3) st3 stop) (fun r s4 ⟨hr, I4⟩ => ?_) fun x s' hx => ee n s₀ x s' hx
        subst hr
        exact seg_leaf (.ok .next) (k.ok n ys s₀ s4 .next hn ⟨σ3, H3, ⟨acc, cc, ‹_›, I4⟩, qn⟩)
      · refine wpAny_mono (T.item X rfl rfl rfl hc i _ s3 σ3 H3 X.xe I3 (stat fr3) st3 go) (fun r s4 ⟨u, hr, h4⟩ => ?_) fun x s' hx => ee n s₀ x s' hx
        subst hr
        refine wpAny_mono h4 (fun _ s5 ⟨x, H5, I5, r5, y5, st5, fr5⟩ => ?_) fun x s' hx => ee n s₀ x s' hx
        have I5' := I5.pinned (stat fr5) (T.obj _ _ st5)
        refine wpAny_mono (hg.run _ s5 σ3 H5 x u _ I5' r5 (step x H5 y5)) (fun _ s6 ⟨σ6, H6, I6, q6⟩ => ?_) fun x s' hx => ee n s₀ x s' hx
        have gci : ∀ q ∈ ip ++ pinsAt fp s5.heap, q.1 ≠ S := fun q hq => by
          rcases List.mem_append.mp hq with hq | hq
          · exact gc.ip q hq
          · exact neS q.1 (of_pinsAt hq).1
        refine hb.run A S (ip ++ pinsAt fp s5.heap) R n ys s₀ _ _ _ _ id id s6 σ6 H6 { D with nx := N, ct := N, bk := D.nx } { gl _ with ip := gci } hn ⟨fun n' ys' s₀' s7 f hn' hs => ?_, fun n' s₀' x s7 hx => ee n' s₀' x s7 hx⟩ ⟨acc, cc, ‹_›, I6⟩ q6
        have un : ∀ {zs : List V} {σ7 : L2.St} {H7 : Hp}, GI X S (ip ++ pinsAt fp s5.heap) zs σ7 H7 s7 → GI X S ip zs σ7 H7 s7 := fun {zs σ7 H7} hG => by
          obtain ⟨a7, c7, r7, J7⟩ := hG
          exact ⟨a7, c7, r7, J7.unpinned (pins := (S, lstObj a7 c7) :: ip)⟩
        have again : ∀ {σ7 : L2.St} {H7 : Hp}, GI X S (ip ++ pinsAt fp s5.heap) ys' σ7 H7 s7 → N ys' σ7 H7 → Seg (model X.prog X.w) A R (GY X S) n' s₀' (.forLoop tg (.ref it) body [] X.env) (.pure (.again (.forLoop tg (.ref it) body [] X.env)))
            (.ret (fun r => ((match r with | .ok f => (.pure f : Sem Flow) | .error e => .raise e).onRaise (cameBack X.env)).wrap K J gd lv) none (gd false) (lv []) c p [] :: fs) s7 := fun {σ7 H7} hG n7 => by
          obtain ⟨m', hm, w7⟩ := hN ys' σ7 H7 n7
          obtain ⟨a7, c7, r7, J7⟩ := id hG
          have pin7 : ∀ b ∈ fp, ∀ o, s5.heap.get? b = some o → s7.heap.get? b = some o ∧ H7 b = none := fun b hb o e => by
            have := J7.pin (b, o) (List.mem_append_right _ (List.mem_cons_of_mem _ (List.mem_append_right _ (mem_pinsAt hb e))))
            exact ⟨this.1, this.2.1⟩
          refine seg_again rfl (ih m' hm (i + 1) n' ys' s₀' s7 σ7 H7 hn' w7 (T.keep _ _ _ st5 fun b hb o e => (pin7 b hb o e).1) (fun b hb => ?_) (un hG))
          obtain ⟨o, e, d⟩ := T.obj _ _ st5 b hb
          exact (pin7 b hb o e).2
        cases f with
        | next => obtain ⟨σ7, H7, I7, n7⟩ := hs; exact again I7 n7
        | cont => obtain ⟨σ7, H7, I7, n7⟩ := hs; exact again I7 n7
        | brk => obtain ⟨σ7, H7, I7, q7⟩ := hs; exact seg_leaf (.ok .next) (k.ok n' ys' s₀' s7 .next hn' ⟨σ7, H7, un I7, q7⟩)
        | ret v => obtain ⟨x7, σ7, H7, I7, r7, q7⟩ := hs; exact seg_leaf (.ok (.ret v)) (k.ok n' ys' s₀' s7 (.ret v) hn' ⟨x7, σ7, H7, un I7, r7, q7⟩)
  exact loop m0 0 n ys s₀ s2 σ H2 hn w0 st2 (fun b hb => (f2 b hb).1) ⟨acc, cc, r, I2⟩
end
/-! ### generators over data -/
structure GDn where
  nx : List Dt → List Sl → Prop
  xc : List Sl → Xc → Prop
abbrev DGt := GDn → List Dt → List Sl → Prop
structure GLnk (C : Bc) (X : Addr → Prop) (H : Hp) (D : GEnds) (d : GDn) : Prop where
  nx : ∀ X' env σ H' ys ds, Rep C X' env σ H' → Same (vis H X) (vis H' X') → DenAll C.K (vis H' X') ys ds → d.nx ds env → D.nx ys σ H'
  xc : ∀ X' env σ H' x cls dx, Rep C X' env σ H' → Same (vis H X) (vis H' X') → XRep C.K (vis H' X') cls dx x → d.xc env x → C.E σ cls dx H'
section
variable {C : Bc} {X X1 : Addr → Prop} {env : List Sl} {σ : L2.St} {H H1 : Hp} {D : GEnds} {d : GDn}
theorem GLnk.step (l : GLnk C X H D d) (s : Same (vis H X) (vis H1 X1)) : GLnk C X1 H1 D d where
  nx := fun X' env σ H' ys ds r k a h => l.nx X' env σ H' ys ds r (s.trans k) a h
  xc := fun X' env σ H' x cls dx r k a h => l.xc X' env σ H' x cls dx r (s.trans k) a h
theorem GLnk.xok (l : GLnk C X H D d) (r : Rep C X env σ H) : XOk C X σ H (d.xc env) := fun x cls dx H' f a h => l.xc X env σ H' x cls dx (r.step f) (r.vs f) a h
end
def DGS (C : Bc) (t : TGn) (s : DGt) : Prop := ∀ X env σ H ys ds D d, Rep C X env σ H → DenAll C.K (vis H X) ys ds → GLnk C X H D d → s d ds env → t D ys σ H
def gPlain (s : DSt) : DGt := fun d acc env => s ⟨fun e => d.nx acc e, fun _ => False, fun _ => False, fun _ => False, d.xc⟩ env
def gSeq (a b : DGt) : DGt := fun d acc env => a { d with nx := fun acc' e => b d acc' e } acc env
def gNext : DGt := fun d acc env => d.nx acc env
def gIf (c : DTX) (a b : DGt) : DGt := fun d acc env => c env (fun k => if k = true then a d acc env else b d acc env) (d.xc env)
def gYield (e : DX) : DGt := fun d acc env => acc.length < LINE ∧ e env (fun x => d.nx (acc ++ [x]) env) (d.xc env)
def dGFor (f : DGX) (b : DGt) (d : GDn) : List Dt → List Dt → List Sl → Prop
  | [], acc, env => d.nx acc env
  | x :: xs, acc, env => f x env fun env' => b { d with nx := dGFor f b d xs } acc env'
def gFor (src : DAX) (f : DGX) (b : DGt) : DGt := fun d acc env => src env (fun ds => dGFor f b d ds acc env) (d.xc env)
section
variable {C : Bc} {t : TS} {s : DSt} {tc : TT} {ec : DTX} {te : TE} {e : DX} {tu tv : TGn} {a b : DGt} {wi : TI} {g : TG} {src : DAX} {f : DGX} {js : List Nat}
theorem dgs_plain (h : DS C t s) : DGS C (tPlain t) (gPlain s) := fun X env σ H ys ds D d r a l q =>
  h X env σ H (D.at ys) _ r ⟨fun X' e' σ' H' r' s' h' => l.nx X' e' σ' H' ys ds r' s' (a.mono s') h', fun _ _ _ _ _ _ _ _ _ (h' : False) => h'.elim, fun _ _ _ _ _ _ (h' : False) => h'.elim, fun _ _ _ _ _ _ (h' : False) => h'.elim, l.xc⟩ q
theorem dgs_next : DGS C tG0 gNext := fun X env σ H ys ds D d r a l q => l.nx X env σ H ys ds r (Same.refl _) a q
theorem dgs_seq (ha : DGS C tu a) (hb : DGS C tv b) : DGS C (tGThen tu tv) (gSeq a b) := fun X env σ H ys ds D d r w l q =>
  ha X env σ H ys ds _ { d with nx := fun acc' e => b d acc' e } r w ⟨fun X' e' σ' H' ys' ds' r' s' a' h' => hb X' e' σ' H' ys' ds' D d r' a' (l.step s') h', l.xc⟩ q
theorem dgs_if (hc : DT C tc ec) (ha : DGS C tu a) (hb : DGS C tv b) : DGS C (tGIf tc tu tv) (gIf ec a b) := by
  intro X env σ H ys ds D d r w l h
  refine hc X env σ H _ _ _ r h (fun k H1 f1 h1 => ?_) (l.xok r)
  cases k with
  | true => rw [if_pos rfl] at h1 ⊢; exact ha X env σ H1 ys ds D d (r.step f1) (w.mono (r.vs f1)) (l.step (r.vs f1)) h1
  | false => rw [if_neg (by decide)] at h1 ⊢; exact hb X env σ H1 ys ds D d (r.step f1) (w.mono (r.vs f1)) (l.step (r.vs f1)) h1
theorem dgs_yield (he : DE C te e) : DGS C (tGYield te) (gYield e) := by
  intro X env σ H ys ds D d r w l h
  refine ⟨by rw [w.length, sizeLine_eq]; exact h.1, he X env σ H _ _ _ r h.2 (fun x v H1 f1 r1 h1 => ?_) (l.xok r)⟩
  exact l.nx X env σ H1 _ _ (r.step f1) (r.vs f1) ((w.mono (r.vs f1)).snoc r1) h1
theorem dgs_for (hi : DIg Strong C wi src) (hg : DG C g js f) (hb : DGS C tv b) : DGS C (tGFor wi g tv) (gFor src f b) := by
  intro X env σ H ys ds0 D d r w0 l h
  refine hi X env σ H _ _ _ r h (fun ds J H1 f1 w h1 => ?_) (l.xok r)
  have rp1 := r.step f1
  have l1 := l.step (r.vs f1)
  let W : Nat → Nat → List V → L2.St → Hp → Prop := fun i m ys2 σ2 H2 => m + i = ds.length ∧ ∃ X2 env2 acc, Rep C X2 env2 σ2 H2 ∧ Same (vis H1 X) (vis H2 X2) ∧ DenAll C.K (vis H2 X2) ys2 acc ∧ dGFor f b d (ds.drop i) acc env2
  refine ⟨W, ⟨ds.length, rfl, X, env, ds0, rp1, Same.refl _, w0.mono (r.vs f1), h1⟩, fun i m ys2 σ2 H2 ⟨hm, X2, env2, acc, r2, s2, a2, go⟩ => ?_⟩
  have hw := w X2 i H2 ⟨s2, r2.al⟩
  by_cases c : i < ds.length
  · obtain ⟨g1, g2⟩ := hw.1 c
    refine .inr ⟨g1, W (i + 1) (m - 1), fun ys' σ' H' hW => ⟨m - 1, by omega, hW⟩, fun y H3 hy => ?_⟩
    obtain ⟨s3, x, hx, den⟩ := g2 y H3 hy
    have ed : ds.drop i = x :: ds.drop (i + 1) := by
      rw [List.drop_eq_getElem_cons c]
      congr 1
      rw [List.getElem?_eq_getElem c] at hx
      exact Option.some.inj hx
    rw [ed] at go
    have r3 := r2.step (.same s3)
    have v3 : Same (vis H2 X2) (vis H3 X2) := r2.vs (.same s3)
    have s13 : Same (vis H1 X) (vis H3 X2) := s2.trans v3
    refine hg X2 env2 σ2 H3 y x _ _ r3 den go fun env' σ' r' h' _ _ _ => ?_
    exact hb X2 env' σ' H3 ys2 acc _ { d with nx := dGFor f b d (ds.drop (i + 1)) } r' (a2.mono v3)
      ⟨fun X4 env4 σ4 H4 ys4 ds4 r4 s4 a4 h4 => ⟨by omega, X4, env4, ds4, r4, s13.trans s4, a4, h4⟩, fun X4 env4 σ4 H4 z cls dx r4 s4 a h4 => l1.xc X4 env4 σ4 H4 z cls dx r4 (s13.trans s4) a h4⟩ h'
  · have e : ds.drop i = [] := List.drop_eq_nil_of_le (by omega)
    rw [e] at go
    exact .inl ⟨hw.2 (by omega), l1.nx X2 env2 σ2 H2 ys2 acc r2 s2 a2 go⟩
end
def mkG (np N : Nat) (s : DGt) : DFn := fun args Q E => args.length = np ∧ s ⟨fun acc _ => Q (.lst acc), fun _ x => E x⟩ [] (args ++ List.replicate (N - np) .no)
/-- a generator def over data: what it hands out in all -/
def spGD (K : PySem.W.Frag) (F : DFn) : SpG := fun vs H Q E => ∃ (X : Addr → Prop) (hd : Hnd) (args : List Sl) (Qd : Dt → Prop) (Qx : Xc → Prop), (∀ a, X a → ∃ o, H a = some o) ∧ (∀ h c, hd = some (h, c) → X h ∧ HandC H h c) ∧ SlAll K hd X H vs args ∧ F args Qd Qx ∧
  (∀ ds ys H', Frm hd H H' → DenAll K (vis H' X) ys ds → Qd (.lst ds) → Q ys H') ∧ (∀ x cls dx H', Frm hd H H' → XRep K (vis H' X) cls dx x → Qx x → E cls dx H')
theorem spGD_len {K : PySem.W.Frag} {F : DFn} {np : Nat} (hF : ∀ args Q E, F args Q E → args.length = np) : ∀ vs H Q E, spGD K F vs H Q E → vs.length = np := by
  rintro vs H Q E ⟨X, hd, args, Qd, Qx, _, _, sl, h, _⟩
  rw [sl.length]; exact hF _ _ _ h
theorem gbody_of {K : PySem.W.Frag} {N : List Str} {np n : Nat} {sb : DGt} {t : TGn} {vs : List V} {H : Hp} {Q : List V → Hp → Prop} {E : XK} (hn : N.length = n) (h : spGD K (mkG np n sb) vs H Q E)
    (hb : ∀ X hd, DGS ⟨K, H, X, hd, none, fun _ => E, none⟩ t sb) : t { nx := fun ys _ H' => Q ys H', rt := fun ys v H' => v = .non ∧ Q ys H' } [] (L2.start N vs) H := by
  obtain ⟨X, hd, args, Qd, Qx, al, hh, sl, ⟨ha, h⟩, q, x⟩ := h
  have r := rep_start (N := N) (E := fun _ => E) al hh sl
  rw [ha, hn] at r
  exact hb X hd X _ _ H [] [] _ _ r .nil ⟨fun X' env σ H' ys ds r' s' a' h' => q ds ys H' r'.frm (a'.mono (vis_anti r'.sup)) h', fun X' env σ H' z cls dx r' s' w h' => x z cls dx H' r'.frm (w.mono (vis_anti r'.sup)) h'⟩ h
section
variable {P : Program} {w : World} {K : PySem.W.Frag} {mg : Str → Option Value} {base : Heap} {x qual : Str} {params : Arguments} {body : List Stmt} {scope : Scope} {dvs : List V} {kws : List (Str × V)} {f : Addr} {fd : FuncData}
theorem _root_.L2.FunD.gok {N ps : List Str} {k : Nat} {sp : SpG} (F : FunD K x qual params body scope dvs kws f fd) (S : GScope N ps scope) (len : ∀ vs H Q E, sp vs H Q E → vs.length = ps.length)
    (hbody : ∀ (cdv : Value) (A : Around) (outer : List Env) (s : Shared) (H : Hp) (vs : List V) (Q : List V → Hp → Prop) (E : XK) (pn : List (Addr × Obj)), Room k (A.deeper (envOfC qual scope s.heap.objs.size f cdv)) → sp vs H Q E →
      ∃ t, GSs (gcxOf P w K mg base N qual scope f cdv A outer s H E pn) body t ∧ t { nx := fun ys _ H' => Q ys H', rt := fun ys v H' => v = .non ∧ Q ys H' } [] (start N vs) H) : GFn P w K mg base (k + 1) f fd ps sp := by
  obtain ⟨oc, od, dV, kV, doc, pm, an, cdv, ct, osl, rfl, lk, hcd, _, _⟩ := F.ex
  exact gfn_of lk hcd S len fun A outer s H vs Q E pn hr hsp => hbody cdv A outer s H vs Q E pn hr hsp
end
/-- no exception comes out of it: none ends an iterator -/
theorem noStop0 {K : PySem.W.Frag} : NoStop K E0 := fun _ _ _ h => h.elim
theorem passG0 {X : Cx} : Passes (L2.CX X.prog X.w) X E0 := fun _ _ _ _ _ _ _ h => by
  obtain ⟨_, _, _, _, _, _, _, _, _, _, _, _, z⟩ := h
  exact z.elim
section
variable {C : Bc} {F : DFn} {dvs : List V} {dd : List Sl} {t : TA} {a : DSX}
theorem df_listG (hd : Dvs dvs dd) (ha : DAs C t a) : DF C (tListG (tCallG (spGD C.K F) dvs E0 t)) (eCall0 F dd a) := by
  intro X env σ H Q Qd Qx rp he q x
  refine ha X env σ H _ _ Qx rp he (fun ss vs H1 f1 r1 he1 => ?_) x
  have rp1 := rp.step f1
  exact ⟨X, C.hd, ss ++ dd, Qd, fun _ => False, rp1.al, fun h c e => ⟨rp1.hX h c e, (rp1.hands h c e).2.2⟩, SlAll.append r1 (hd C.K C.hd X H1), he1,
    fun ds ys H2 f2 a2 q2 p hp => q _ _ _ ((f1.trans f2).trans (.upd hp)) (Fsh.frm rp (f1.trans f2) (fsh_new (rp1.step f2) hp a2)) q2, fun _ _ _ _ _ _ z => z.elim⟩
end
/-! ### monotone: calls, fields -/
def MonA (t : TA) : Prop := ∀ σ H (Q Q' : List V → Hp → Prop), (∀ v H', Q v H' → Q' v H') → t σ H Q → t σ H Q'
theorem monA_nil : MonA tNil := fun _ _ _ _ m q => m _ _ q
theorem monA_cons {t : TE} {u : TA} (h : Mon t) (k : MonA u) : MonA (tCons t u) := fun σ H _ _ m q => h σ H _ _ (fun _ _ q1 => k _ _ _ _ (fun _ _ q2 => m _ _ q2) q1) q
theorem mon_callA {K : PySem.W.Frag} {F : DFn} {dvs : List V} {E : XK} {t : TA} (m : MonA t) : Mon (tCall (spD K F) dvs E t) := mon_call m
theorem mon_fld {K : PySem.W.Frag} {ta : TE} {f : Str} (h : Mon ta) : Mon (tFld K ta f) := fun σ H _ _ m q => h σ H _ _ (fun _ _ ⟨a, C, dx, fs, v, e1, e2, e3, e4, e5, q1⟩ => ⟨a, C, dx, fs, v, e1, e2, e3, e4, e5, m _ _ q1⟩) q
/-! ### equations -/
theorem mkG_W {np N : Nat} {s : DGt} {args : List Sl} {Q : Dt → Prop} {E : Xc → Prop} : mkG np N s args Q E = (args.length = np ∧ s ⟨fun acc _ => Q (.lst acc), fun _ x => E x⟩ [] (args ++ List.replicate (N - np) .no)) := rfl
theorem gPlain_W {s : DSt} {d : GDn} {acc : List Dt} {env : List Sl} : gPlain s d acc env = s ⟨fun e => d.nx acc e, fun _ => False, fun _ => False, fun _ => False, d.xc⟩ env := rfl
theorem gSeq_W {a b : DGt} {d : GDn} {acc : List Dt} {env : List Sl} : gSeq a b d acc env = a { d with nx := fun acc' e => b d acc' e } acc env := rfl
theorem gNext_W {d : GDn} {acc : List Dt} {env : List Sl} : gNext d acc env = d.nx acc env := rfl
theorem gIf_W {c : DTX} {a b : DGt} {d : GDn} {acc : List Dt} {env : List Sl} : gIf c a b d acc env = c env (fun k => if k = true then a d acc env else b d acc env) (d.xc env) := rfl
theorem gYield_W {e : DX} {d : GDn} {acc : List Dt} {env : List Sl} : gYield e d acc env = (acc.length < LINE ∧ e env (fun x => d.nx (acc ++ [x]) env) (d.xc env)) := rfl
theorem gFor_W {src : DAX} {f : DGX} {b : DGt} {d : GDn} {acc : List Dt} {env : List Sl} : gFor src f b d acc env = src env (fun ds => dGFor f b d ds acc env) (d.xc env) := rfl
end Mine

namespace Mine
open PySem PySem.Spec PyProof.Rows L2
/-! ### the pure part: rules -/
theorem iteQ {c : Prop} [Decidable c] {a b : Prop} (h : c → a) (k : ¬ c → b) : if c then a else b := by
  split
  · exact h (by assumption)
  · exact k (by assumption)
/-- a loop by an invariant over the number of turns; K: what is wanted behind the turn, B: behind a break -/
theorem dFor_inv {f : DGX} {b : DSt} {nx bk ct : List Sl → Prop} {rt : Dt → Prop} {xc : List Sl → Xc → Prop} (I : Nat → List Sl → Prop) : ∀ {xs : List Dt} {env : List Sl}, I 0 env →
    (∀ (i : Nat) (x : Dt) (e : List Sl) (K : List Sl → Prop) (B : { B : List Sl → Prop // ∀ e', nx e' → B e' }), xs[i]? = some x → I i e → (∀ e', I (i + 1) e' → K e') → f x e fun e' => b ⟨K, rt, B.1, K, xc⟩ e') → (∀ e, I xs.length e → nx e) → dFor f b ⟨nx, rt, bk, ct, xc⟩ xs env := by
  intro xs
  induction xs generalizing I with
  | nil => intro env h0 _ fin; exact fin _ h0
  | cons x xs ih =>
    intro env h0 step fin
    refine step 0 x env _ ⟨nx, fun _ h => h⟩ rfl h0 fun e' h1 => ?_
    exact ih (fun i => I (i + 1)) h1 (fun i y e K B e1 => step (i + 1) y e K B (by simpa using e1)) fin
/-- a loop that only looks: what it keeps is the same at each turn -/
theorem dFor_keep {f : DGX} {b : DSt} {nx bk ct : List Sl → Prop} {rt : Dt → Prop} {xc : List Sl → Xc → Prop} (I : List Sl → Prop) {xs : List Dt} {env : List Sl} (h0 : I env)
    (step : ∀ (x : Dt) (e : List Sl) (K : List Sl → Prop) (B : { B : List Sl → Prop // ∀ e', nx e' → B e' }), x ∈ xs → I e → (∀ e', I e' → K e') → f x e fun e' => b ⟨K, rt, B.1, K, xc⟩ e') (fin : ∀ e, I e → nx e) : dFor f b ⟨nx, rt, bk, ct, xc⟩ xs env :=
  dFor_inv (fun _ => I) h0 (fun i x e K B hx => step x e K B (List.mem_of_getElem? hx)) fin
/-- a comprehension: which items stay, what becomes of them -/
theorem lc_ok {α : Type} {f : DGX} {tt : DTX} {te : DX} {env : List Sl} {Q : Dt → Prop} (e : α → Dt) (p : α → Bool) (g : α → Dt) : ∀ {xs : List α} {acc : List Dt},
    (∀ x ∈ xs, ∀ (K1 : Dt → Prop) (K0 : Prop), (p x = true → K1 (g x)) → (p x = false → K0) → f (e x) env fun env' => tt env' (fun b => if b = true then te env' K1 (fun _ => False) else K0) fun _ => False) →
    acc.length + xs.length ≤ 16777216 → Q (.lst (acc ++ (xs.filter p).map g)) → lcGo f tt te env Q (xs.map e) acc := by
  intro xs
  induction xs with
  | nil => intro acc _ _ q; show Q (.lst acc); simpa using q
  | cons x xs ih =>
    intro acc step hl q
    refine step x List.mem_cons_self _ _ (fun hp => ?_) fun hp => ?_
    · rw [List.length_cons] at hl
      refine ⟨by show acc.length < 16777216; omega, ih (fun y hy => step y (List.mem_cons_of_mem _ hy)) (by rw [List.length_append]; show acc.length + 1 + _ ≤ _; omega) ?_⟩
      rw [List.filter_cons, if_pos hp, List.map_cons] at q
      simpa using q
    · rw [List.length_cons] at hl
      refine ih (fun y hy => step y (List.mem_cons_of_mem _ hy)) (by omega) ?_
      rw [List.filter_cons, if_neg (by rw [hp]; decide)] at q
      exact q
/-- without a test -/
theorem lc_map {α : Type} {f : DGX} {te : DX} {env : List Sl} {Q : Dt → Prop} (e : α → Dt) (g : α → Dt) {xs : List α}
    (step : ∀ x ∈ xs, ∀ K1 : Dt → Prop, K1 (g x) → f (e x) env fun env' => te env' K1 (fun _ => False)) (hl : xs.length ≤ 16777216) (q : Q (.lst (xs.map g))) : lcGo f eYes te env Q (xs.map e) [] := by
  refine lc_ok e (fun _ => true) g (fun x hx K1 K0 h1 _ => ?_) (by simpa using hl) (by rw [List.filter_eq_self.mpr fun _ _ => rfl]; exact q)
  exact step x hx K1 (h1 rfl)
/-- a comprehension whose items are any of their kind -/
theorem lc_any {f : DGX} {te : DX} {env : List Sl} {Q : Dt → Prop} (G : Dt → Prop) : ∀ {ds : List Dt} {acc : List Dt}, (∀ x ∈ ds, ∀ K1 : Dt → Prop, (∀ y, G y → K1 y) → f x env fun env' => te env' K1 (fun _ => False)) →
    acc.length + ds.length ≤ 16777216 → (∀ y ∈ acc, G y) → (∀ ys, ys.length = acc.length + ds.length → (∀ y ∈ ys, G y) → Q (.lst ys)) → lcGo f eYes te env Q ds acc := by
  intro ds
  induction ds with
  | nil => intro acc _ _ ha q; exact q acc rfl ha
  | cons x ds ih =>
    intro acc step hl ha q
    rw [List.length_cons] at hl q
    refine step x List.mem_cons_self _ fun y hy => ⟨by show acc.length < 16777216; omega, ih (fun z hz => step z (List.mem_cons_of_mem _ hz)) (by rw [List.length_append]; show acc.length + 1 + _ ≤ _; omega) (fun z hz => ?_) fun ys e h => q ys ?_ h⟩
    · rcases List.mem_append.mp hz with h | h
      · exact ha z h
      · rw [List.mem_singleton.mp h]; exact hy
    · rw [e, List.length_append]; show acc.length + 1 + _ = _; omega
/-! ### data of a type -/
abbrev iT (w : List Int) : Dt := .tup (w.map .int)
abbrev iL (w : List Int) : Dt := .lst (w.map .int)
def Dt.shN (n : Nat) (a : Dt) : Prop := ∃ p, a.py = some p ∧ p.canLay0 = true ∧ p.depth ≤ n
theorem Dt.shN.sh {n : Nat} {a : Dt} (h : a.shN n) (hn : n ≤ 64 := by decide) : a.sh := by
  obtain ⟨p, e, c, d⟩ := h
  exact ⟨p, e, by unfold SeqAt.shaped; rw [c, decide_eq_true (by omega)]; rfl⟩
theorem shN_mono {n m : Nat} {a : Dt} (h : a.shN n) (hn : n ≤ m) : a.shN m := let ⟨p, e, c, d⟩ := h; ⟨p, e, c, Nat.le_trans d hn⟩
theorem shN_non : (Dt.non).shN 0 := ⟨.none, by rw [Dt.py], by rw [PyData.canLay0], by rw [PyData.depth]; exact Nat.le_refl _⟩
theorem shN_bl (b : Bool) : (Dt.bl b).shN 0 := ⟨.bool b, by rw [Dt.py], by rw [PyData.canLay0], by rw [PyData.depth]; exact Nat.le_refl _⟩
theorem shN_int (i : Int) : (Dt.int i).shN 0 := ⟨.int i, by rw [Dt.py], by rw [PyData.canLay0], by rw [PyData.depth]; exact Nat.le_refl _⟩
theorem shN_all {n : Nat} : ∀ {xs : List Dt}, (∀ x ∈ xs, x.shN n) → ∃ ps, Dt.pys xs = some ps ∧ PyData.canLayAll0 ps = true ∧ PyData.depthAll ps ≤ n
  | [], _ => ⟨[], by rw [Dt.pys], by rw [PyData.canLayAll0], by rw [PyData.depthAll]; exact Nat.zero_le _⟩
  | x :: xs, h => by
    obtain ⟨p, e, c, d⟩ := h x List.mem_cons_self
    obtain ⟨ps, e2, c2, d2⟩ := shN_all fun y hy => h y (List.mem_cons_of_mem _ hy)
    exact ⟨p :: ps, by rw [Dt.pys, e, e2], by rw [PyData.canLayAll0, c, c2]; rfl, by rw [PyData.depthAll]; omega⟩
theorem shN_tup {n : Nat} {xs : List Dt} (h : ∀ x ∈ xs, x.shN n) : (Dt.tup xs).shN (n + 1) := by
  obtain ⟨ps, e, c, d⟩ := shN_all h
  exact ⟨.tuple ps, by rw [Dt.py, e]; rfl, by rw [PyData.canLay0]; exact c, by rw [PyData.depth]; omega⟩
theorem shN_lst {n : Nat} {xs : List Dt} (h : ∀ x ∈ xs, x.shN n) : (Dt.lst xs).shN (n + 1) := by
  obtain ⟨ps, e, c, d⟩ := shN_all h
  exact ⟨.list ps, by rw [Dt.py, e]; rfl, by rw [PyData.canLay0]; exact c, by rw [PyData.depth]; omega⟩
theorem shN_str {z : Str} (h : PyData.strOk z = true) : (Dt.str z).shN 0 := ⟨.str z, by rw [Dt.py], by rw [PyData.canLay0]; exact h, by rw [PyData.depth]; exact Nat.le_refl _⟩
/-! equality -/
def eqvL : List Dt → List Dt → Bool
  | [], [] => true
  | x :: xs, y :: ys => x.eqv y && eqvL xs ys
  | _, _ => false
theorem eqvL_of {n m : Nat} : ∀ {xs ys : List Dt} {ps qs : List PyData}, Dt.pys xs = some ps → Dt.pys ys = some qs → PyData.eqvAll ps qs = eqvL xs ys
  | [], [], _, _, e1, e2 => by
    rw [Dt.pys] at e1 e2; cases e1; cases e2; rw [PyData.eqvAll]; rfl
  | [], y :: ys, _, _, e1, e2 => by
    rw [Dt.pys] at e1
    rw [Dt.pys] at e2
    cases e1
    split at e2
    · cases e2; rw [PyData.eqvAll]; rfl
    · cases e2
  | x :: xs, [], _, _, e1, e2 => by
    rw [Dt.pys] at e1
    rw [Dt.pys] at e2
    cases e2
    split at e1
    · cases e1; rw [PyData.eqvAll]; rfl
    · cases e1
  | x :: xs, y :: ys, _, _, e1, e2 => by
    rw [Dt.pys] at e1
    rw [Dt.pys] at e2
    split at e1
    · rename_i p ps h1 h2
      cases e1
      split at e2
      · rename_i q qs h3 h4
        cases e2
        rw [PyData.eqvAll, eqvL_of (n := n) (m := m) h2 h4, ← Dt.eqv_of h1 h3]; rfl
      · cases e2
    · cases e1
theorem eqv_seq {xs ys : List Dt} (h1 : ∃ ps, Dt.pys xs = some ps) (h2 : ∃ ps, Dt.pys ys = some ps) : (Dt.tup xs).eqv (.tup ys) = eqvL xs ys ∧ (Dt.lst xs).eqv (.lst ys) = eqvL xs ys ∧ (Dt.tup xs).eqv (.lst ys) = false ∧ (Dt.lst xs).eqv (.tup ys) = false := by
  obtain ⟨ps, e1⟩ := h1
  obtain ⟨qs, e2⟩ := h2
  have a : (Dt.tup xs).py = some (.tuple ps) := by rw [Dt.py, e1]; rfl
  have b : (Dt.tup ys).py = some (.tuple qs) := by rw [Dt.py, e2]; rfl
  have c : (Dt.lst xs).py = some (.list ps) := by rw [Dt.py, e1]; rfl
  have d : (Dt.lst ys).py = some (.list qs) := by rw [Dt.py, e2]; rfl
  rw [Dt.eqv_of a b, Dt.eqv_of c d, Dt.eqv_of a d, Dt.eqv_of c b]
  refine ⟨?_, ?_, ?_, ?_⟩
  · rw [PyData.eqv]; exact eqvL_of (n := 0) (m := 0) e1 e2
  · rw [PyData.eqv]; exact eqvL_of (n := 0) (m := 0) e1 e2
  · rw [PyData.eqv]
  · rw [PyData.eqv]
theorem eqv_int (i j : Int) : (Dt.int i).eqv (.int j) = decide (i = j) := by
  rw [Dt.eqv_of (a := .int i) (b := .int j) (by rw [Dt.py]) (by rw [Dt.py]), PyData.eqv]; rfl
theorem eqv_bl (i j : Bool) : (Dt.bl i).eqv (.bl j) = decide (i = j) := by
  rw [Dt.eqv_of (a := .bl i) (b := .bl j) (by rw [Dt.py]) (by rw [Dt.py]), PyData.eqv]
  cases i <;> cases j <;> rfl
theorem eqv_str (i j : Str) : (Dt.str i).eqv (.str j) = decide (i = j) := by
  rw [Dt.eqv_of (a := .str i) (b := .str j) (by rw [Dt.py]) (by rw [Dt.py]), PyData.eqv]; rfl
/-- a type whose things are data, equal exactly if they are -/
structure EqE {α : Type} [DecidableEq α] (e : α → Dt) (n : Nat) : Prop where
  sh : ∀ a, (e a).shN n
  eq : ∀ a b, (e a).eqv (e b) = decide (a = b)
theorem eqE_int : EqE Dt.int 0 := ⟨shN_int, eqv_int⟩
theorem eqE_bl : EqE Dt.bl 0 := ⟨shN_bl, eqv_bl⟩
section
variable {α : Type} [DecidableEq α] {e : α → Dt} {n : Nat}
theorem EqE.pys (h : EqE e n) (xs : List α) : ∃ ps, Dt.pys (xs.map e) = some ps := by
  obtain ⟨ps, e1, _⟩ := shN_all (n := n) (xs := xs.map e) fun x hx => by
    obtain ⟨a, _, rfl⟩ := List.mem_map.mp hx
    exact h.sh a
  exact ⟨ps, e1⟩
theorem EqE.eqvL (h : EqE e n) : ∀ xs ys : List α, Mine.eqvL (xs.map e) (ys.map e) = decide (xs = ys)
  | [], [] => by simp [Mine.eqvL]
  | [], y :: ys => by simp [Mine.eqvL]
  | x :: xs, [] => by simp [Mine.eqvL]
  | x :: xs, y :: ys => by
    rw [List.map_cons, List.map_cons, Mine.eqvL, h.eq, EqE.eqvL h xs ys]
    by_cases a : x = y <;> by_cases b : xs = ys <;> simp [a, b]
theorem EqE.tup (h : EqE e n) : EqE (fun xs : List α => Dt.tup (xs.map e)) (n + 1) :=
  ⟨fun xs => shN_tup fun x hx => by obtain ⟨a, _, rfl⟩ := List.mem_map.mp hx; exact h.sh a, fun xs ys => by
    show (Dt.tup (xs.map e)).eqv (.tup (ys.map e)) = _
    rw [(eqv_seq (h.pys xs) (h.pys ys)).1]; exact h.eqvL xs ys⟩
theorem EqE.lst (h : EqE e n) : EqE (fun xs : List α => Dt.lst (xs.map e)) (n + 1) :=
  ⟨fun xs => shN_lst fun x hx => by obtain ⟨a, _, rfl⟩ := List.mem_map.mp hx; exact h.sh a, fun xs ys => by
    show (Dt.lst (xs.map e)).eqv (.lst (ys.map e)) = _
    rw [(eqv_seq (h.pys xs) (h.pys ys)).2.1]; exact h.eqvL xs ys⟩
theorem EqE.dEq (h : EqE e n) {a b : α} {Q : Dt → Prop} (q : Q (.bl (decide (a = b)))) (hn : n ≤ 64 := by decide) : dEq (e a) (e b) Q :=
  ⟨(h.sh a).sh hn, (h.sh b).sh hn, by rw [h.eq]; exact q⟩
theorem EqE.dNe (h : EqE e n) {a b : α} {Q : Dt → Prop} (q : Q (.bl (!decide (a = b)))) (hn : n ≤ 64 := by decide) : dNe (e a) (e b) Q :=
  ⟨(h.sh a).sh hn, (h.sh b).sh hn, by rw [h.eq]; exact q⟩
end
theorem eqE_T : EqE iT 1 := eqE_int.tup
theorem eqE_L : EqE iL 1 := eqE_int.lst
theorem dEq_int {i j : Int} {Q : Dt → Prop} : dEq (.int i) (.int j) Q = Q (.bl (decide (i = j))) := by
  refine propext ⟨fun h => ?_, fun h => eqE_int.dEq h⟩
  have := h.2.2
  rwa [eqv_int] at this
theorem dNe_int {i j : Int} {Q : Dt → Prop} : dNe (.int i) (.int j) Q = Q (.bl (!decide (i = j))) := by
  refine propext ⟨fun h => ?_, fun h => eqE_int.dNe h⟩
  have := h.2.2
  rwa [eqv_int] at this
/-! items -/
theorem ix_at {xs : List Dt} {k : Int} {n : Nat} {Q : Dt → Prop} (e : k = n) (h : n < xs.length) (q : Q xs[n]) : ∃ x, atI xs k = some x ∧ Q x :=
  ⟨xs[n], by rw [e]; exact atI_nat (by rw [List.getElem?_eq_getElem h]), q⟩
theorem ix_map {α : Type} {e : α → Dt} {xs : List α} {k : Int} {n : Nat} {Q : Dt → Prop} (hk : k = n) (h : n < xs.length) (q : Q (e xs[n])) : ∃ x, atI (xs.map e) k = some x ∧ Q x :=
  ix_at hk (by rw [List.length_map]; exact h) (by rw [List.getElem_map]; exact q)
theorem ix_last {xs : List Dt} {Q : Dt → Prop} (h : xs ≠ []) (q : Q (xs.getLast h)) : ∃ x, atI xs (-1) = some x ∧ Q x := by
  have hp := List.length_pos_iff.mpr h
  refine ⟨xs.getLast h, ?_, q⟩
  unfold atI
  rw [ixN_back hp, List.getLast_eq_getElem]
  show xs[xs.length - 1]? = _
  rw [List.getElem?_eq_getElem (by omega)]
end Mine
namespace Mine
open PySem PySem.Spec PyProof.Rows L2
/-- a comprehension by an invariant over what is made so far -/
theorem lc_inv {f : DGX} {tt : DTX} {te : DX} {env : List Sl} {Q : Dt → Prop} (I : Nat → List Dt → Prop) : ∀ {xs : List Dt} {acc : List Dt}, I 0 acc →
    (∀ (i : Nat) (x : Dt) (acc : List Dt) (K : List Dt → Prop), xs[i]? = some x → I i acc → (∀ a, I (i + 1) a → K a) → f x env fun env' => tt env' (fun b => if b = true then te env' (fun y => acc.length < 16777216 ∧ K (acc ++ [y])) (fun _ => False) else K acc) fun _ => False) →
    (∀ a, I xs.length a → Q (.lst a)) → lcGo f tt te env Q xs acc := by
  intro xs
  induction xs generalizing I with
  | nil => intro acc h0 _ fin; exact fin _ h0
  | cons x xs ih =>
    intro acc h0 step fin
    exact step 0 x acc (fun a => lcGo f tt te env Q xs a) rfl h0 fun a h1 => ih (fun i => I (i + 1)) h1 (fun i y acc K e1 => step (i + 1) y acc K (by simpa using e1)) fin
mutual
theorem Dt.eqv_self0 : ∀ {a : Dt} {p : PyData}, a.py = some p → PyData.eqv p p = true
  | .non, _, e => by rw [Dt.py] at e; cases e; rw [PyData.eqv]
  | .bl b, _, e => by rw [Dt.py] at e; cases e; rw [PyData.eqv]; simp
  | .int b, _, e => by rw [Dt.py] at e; cases e; rw [PyData.eqv]; simp
  | .str b, _, e => by rw [Dt.py] at e; cases e; rw [PyData.eqv]; simp
  | .tup xs, _, e => by
    rw [Dt.py, Option.map_eq_some_iff] at e
    obtain ⟨ps, e1, rfl⟩ := e
    rw [PyData.eqv]; exact Dt.eqv_selfs e1
  | .lst xs, _, e => by
    rw [Dt.py, Option.map_eq_some_iff] at e
    obtain ⟨ps, e1, rfl⟩ := e
    rw [PyData.eqv]; exact Dt.eqv_selfs e1
  | .dk _ _, _, e => by rw [Dt.py] at e <;> cases e
  | .ins _ _ _, _, e => by rw [Dt.py] at e <;> cases e
  | .raw _, _, e => by rw [Dt.py] at e <;> cases e
theorem Dt.eqv_selfs : ∀ {xs : List Dt} {ps : List PyData}, Dt.pys xs = some ps → PyData.eqvAll ps ps = true
  | [], _, e => by rw [Dt.pys] at e; cases e; rw [PyData.eqvAll]
  | x :: xs, _, e => by
    rw [Dt.pys] at e
    split at e
    · rename_i p ps h1 h2
      cases e
      rw [PyData.eqvAll, Dt.eqv_self0 h1, Dt.eqv_selfs h2]; rfl
    · cases e
end
theorem Dt.eqv_self {a : Dt} (h : a.sh) : a.eqv a = true := by
  obtain ⟨p, e, _⟩ := h
  rw [Dt.eqv_of e e]; exact Dt.eqv_self0 e
theorem dEq_self {a : Dt} {Q : Dt → Prop} (h : a.sh) (q : Q (.bl true)) : dEq a a Q := ⟨h, h, by rw [Dt.eqv_self h]; exact q⟩
theorem dNe_self {a : Dt} {Q : Dt → Prop} (h : a.sh) (q : Q (.bl false)) : dNe a a Q := ⟨h, h, by rw [Dt.eqv_self h]; exact q⟩
theorem rg_toNat (n : Nat) : ((n : Int)).toNat = n := by omega
theorem take_snoc {α : Type} {xs : List α} {i : Nat} {x : α} (h : xs[i]? = some x) : xs.take (i + 1) = xs.take i ++ [x] := by
  rw [List.take_add_one, h]; rfl
theorem map_get {α : Type} {e : α → Dt} {xs : List α} {i : Nat} {x : Dt} (h : (xs.map e)[i]? = some x) : ∃ a, xs[i]? = some a ∧ x = e a := by
  rw [List.getElem?_map, Option.map_eq_some_iff] at h
  obtain ⟨a, h1, h2⟩ := h
  exact ⟨a, h1, h2.symm⟩
theorem ix_get {xs : List Dt} {k : Int} {n : Nat} {x : Dt} {Q : Dt → Prop} (e : k = n) (h : xs[n]? = some x) (q : Q x) : ∃ x, atI xs k = some x ∧ Q x :=
  ⟨x, by rw [e]; exact atI_nat h, q⟩
theorem ix_mget {α : Type} {f : α → Dt} {xs : List α} {k : Int} {n : Nat} {a : α} {Q : Dt → Prop} (e : k = n) (h : xs[n]? = some a) (q : Q (f a)) : ∃ x, atI (xs.map f) k = some x ∧ Q x :=
  ix_get e (by rw [List.getElem?_map, h]; rfl) q
end Mine
namespace Mine
open PySem PySem.Spec PyProof.Rows L2
theorem cutG_take {α : Type} {xs : List α} {z : Int} {k : Nat} (e : z = k) : cutG xs none (some z) = xs.take k := by
  subst e
  unfold cutG
  rw [HT.sIx_none, HT.sIx_nat, List.drop_zero, Nat.sub_zero]
  by_cases h : k ≤ xs.length
  · rw [Nat.min_eq_left h]
  · rw [Nat.min_eq_right (by omega), List.take_length, List.take_of_length_le (by omega)]
theorem cutG_drop {α : Type} {xs : List α} {z : Int} {k : Nat} (e : z = k) : cutG xs (some z) none = xs.drop k := by
  subst e
  unfold cutG
  rw [HT.sIx_none, HT.sIx_nat]
  by_cases h : k ≤ xs.length
  · rw [Nat.min_eq_left h, List.take_of_length_le (by rw [List.length_drop]; omega)]
  · rw [Nat.min_eq_right (by omega), List.drop_of_length_le (Nat.le_refl _), List.drop_of_length_le (by omega), List.take_nil]
end Mine
namespace Mine
open PySem PySem.Spec PyProof.Rows L2
theorem ix_mem {xs : List Dt} {k : Nat} {Q : Dt → Prop} (h : k < xs.length) (q : ∀ x ∈ xs, Q x) : ∃ x, atI xs (k : Int) = some x ∧ Q x :=
  ix_get rfl (List.getElem?_eq_getElem h) (q _ (List.getElem_mem h))
end Mine

namespace Mine
open PySem PySem.Spec PyProof.Rows L2
/-! ### any thing: its kind -/
/-- a thing whose kind is known -/
def Dt.kn (a : Dt) : Prop := a.kind.isSome = true
theorem kn_int (i : Int) : (Dt.int i).kind.isSome = true := rfl
theorem kn_bl (i : Bool) : (Dt.bl i).kind.isSome = true := rfl
theorem kn_non : (Dt.non).kind.isSome = true := rfl
theorem kn_str (i : Str) : (Dt.str i).kind.isSome = true := rfl
theorem kn_tup (i : List Dt) : (Dt.tup i).kind.isSome = true := rfl
theorem kn_lst (i : List Dt) : (Dt.lst i).kind.isSome = true := rfl
theorem kn_dt (i : List (List Key)) (j : List Dt) : (Dt.dt i j).kind.isSome = true := rfl
theorem isN_dt (i : List (List Key)) (j : List Dt) : Dt.isN (.dt i j) = false := rfl
theorem kn_dk (i : List Key) (j : List Dt) : (Dt.dk i j).kind.isSome = true := rfl
def isW : Dt → Bool
  | .int _ => true
  | _ => false
def isSeq : Dt → Bool
  | .lst _ => true
  | .tup _ => true
  | _ => false
def isTp : Dt → Bool
  | .tup _ => true
  | _ => false
def isSt : Dt → Bool
  | .str _ => true
  | _ => false
def isLs : Dt → Bool
  | .lst _ => true
  | _ => false
def itemsOf : Dt → List Dt
  | .lst xs => xs
  | .tup xs => xs
  | _ => []
/-- a whole number within bounds -/
def inB (lo hi : Int) : Dt → Bool
  | .int i => decide (lo ≤ i) && decide (i ≤ hi)
  | _ => false
theorem isa_int (a : Dt) : a.isa "int" = (isW a || (match a with | .bl _ => true | _ => false)) := by cases a <;> (unfold Dt.isa; rfl)
theorem isa_bool (a : Dt) : a.isa "bool" = (match a with | .bl _ => true | _ => false) := by cases a <;> (unfold Dt.isa; rfl)
theorem isa_tup (a : Dt) : a.isa "tuple" = isTp a := by cases a <;> (unfold Dt.isa; rfl)
theorem isa_str (a : Dt) : a.isa "str" = isSt a := by cases a <;> (unfold Dt.isa; rfl)
theorem isa_lst (a : Dt) : a.isa "list" = isLs a := by cases a <;> (unfold Dt.isa; rfl)
theorem isa_seq (a : Dt) : (a.isa "list" || a.isa "tuple") = isSeq a := by cases a <;> (unfold Dt.isa; rfl)
theorem isa_int_int (i : Int) : (Dt.int i).isa "int" = true := rfl
theorem isa_int_bool (i : Int) : (Dt.int i).isa "bool" = false := rfl
theorem isa_tup_tup (i : List Dt) : (Dt.tup i).isa "tuple" = true := rfl
theorem isa_bl_bool (i : Bool) : (Dt.bl i).isa "bool" = true := rfl
theorem isa_seq_tup (i : List Dt) : ((Dt.tup i).isa "list" || (Dt.tup i).isa "tuple") = true := rfl
theorem isa_seq_lst (i : List Dt) : ((Dt.lst i).isa "list" || (Dt.lst i).isa "tuple") = true := rfl
theorem isa_seq2 (a : Dt) : (isLs a || isTp a) = isSeq a := by cases a <;> rfl
section
variable {i j : Int} {x y : List Dt} {u v : Str} {Q : Dt → Prop}
theorem dAdd_int : dAdd (.int i) (.int j) Q = Q (.int (i + j)) := rfl
theorem dAdd_lst : dAdd (.lst x) (.lst y) Q = (x.length + y.length ≤ 16777216 ∧ Q (.lst (x ++ y))) := rfl
theorem dAdd_tup : dAdd (.tup x) (.tup y) Q = (x.length + y.length ≤ 16777216 ∧ Q (.tup (x ++ y))) := rfl
theorem dAdd_str : dAdd (.str u) (.str v) Q = (u.length + v.length ≤ 16777216 ∧ Q (.str (u ++ v))) := rfl
theorem dAddL_lst : dAddL (.lst x) (.lst y) Q = (x.length + y.length ≤ 16777216 ∧ Q (.lst (x ++ y))) := rfl
theorem dSub_int : dSub (.int i) (.int j) Q = Q (.int (i - j)) := rfl
theorem dMul_int : dMul (.int i) (.int j) Q = (CMul i j ∧ Q (.int (i * j))) := rfl
theorem dMul_lst : dMul (.lst x) (.int j) Q = ((-(2 ^ 63) ≤ j ∧ j < 2 ^ 63 ∧ x.length * j.toNat ≤ 16777216) ∧ Q (.lst (List.replicate j.toNat x).flatten)) := rfl
theorem dMulL_lst : dMulL (.lst x) (.int j) Q = ((-(2 ^ 63) ≤ j ∧ j < 2 ^ 63 ∧ x.length * j.toNat ≤ 16777216) ∧ Q (.lst (List.replicate j.toNat x).flatten)) := rfl
theorem dMul_tup : dMul (.tup x) (.int j) Q = ((x ≠ [] ∧ -(2 ^ 62) ≤ j ∧ j ≤ 1000 ∧ x.length ≤ 1000) ∧ Q (.tup (List.replicate j.toNat x).flatten)) := rfl
theorem dFdiv_int : dFdiv (.int i) (.int j) Q = (CDiv i j ∧ Q (.int (i / j))) := rfl
theorem dMod_int : dMod (.int i) (.int j) Q = (0 < j ∧ Q (.int (i % j))) := rfl
theorem dPow_int : dPow (.int i) (.int j) Q = (CPow i j ∧ Q (.int (i ^ j.toNat))) := rfl
theorem dShl_int : dShl (.int i) (.int j) Q = (CPow i j ∧ Q (.int (i * 2 ^ j.toNat))) := rfl
theorem dShr_int : dShr (.int i) (.int j) Q = (0 ≤ j ∧ Q (.int (i / 2 ^ j.toNat))) := rfl
theorem dLe_int : dLe (.int i) (.int j) Q = Q (.bl (decide (i ≤ j))) := rfl
theorem dLt_int : dLt (.int i) (.int j) Q = Q (.bl (decide (i < j))) := rfl
theorem dGt_int : dGt (.int i) (.int j) Q = Q (.bl (decide (j < i))) := rfl
theorem dGe_int : dGe (.int i) (.int j) Q = Q (.bl (decide (j ≤ i))) := rfl
theorem dNeg_int : dNeg (.int i) Q = Q (.int (-i)) := rfl
end
theorem isSeq_lst (x : List Dt) : isSeq (.lst x) = true := rfl
theorem isSeq_tup (x : List Dt) : isSeq (.tup x) = true := rfl
theorem isTp_tup (x : List Dt) : isTp (.tup x) = true := rfl
theorem isTp_lst (x : List Dt) : isTp (.lst x) = false := rfl
theorem isLs_lst (x : List Dt) : isLs (.lst x) = true := rfl
theorem isLs_tup (x : List Dt) : isLs (.tup x) = false := rfl
theorem isN_non : Dt.isN .non = true := rfl
theorem isN_int (i : Int) : Dt.isN (.int i) = false := rfl
theorem isN_bl (i : Bool) : Dt.isN (.bl i) = false := rfl
theorem isN_str (i : Str) : Dt.isN (.str i) = false := rfl
theorem isN_tup (i : List Dt) : Dt.isN (.tup i) = false := rfl
theorem isN_lst (i : List Dt) : Dt.isN (.lst i) = false := rfl
theorem isN_dk (i : List Key) (j : List Dt) : Dt.isN (.dk i j) = false := rfl
theorem isN_ins (c : Str) (i : List Str) (j : List Dt) : Dt.isN (.ins c i j) = false := rfl
theorem line0 : ((0 : Nat) ≤ 16777216) = True := eq_true (by decide)
theorem line1 : ((1 : Nat) ≤ 16777216) = True := eq_true (by decide)
theorem line2 : ((2 : Nat) ≤ 16777216) = True := eq_true (by decide)
theorem line3 : ((3 : Nat) ≤ 16777216) = True := eq_true (by decide)
theorem line4 : ((4 : Nat) ≤ 16777216) = True := eq_true (by decide)
theorem line5 : ((5 : Nat) ≤ 16777216) = True := eq_true (by decide)
theorem line6 : ((6 : Nat) ≤ 16777216) = True := eq_true (by decide)
theorem line7 : ((7 : Nat) ≤ 16777216) = True := eq_true (by decide)
theorem line8 : ((8 : Nat) ≤ 16777216) = True := eq_true (by decide)
theorem line9 : ((9 : Nat) ≤ 16777216) = True := eq_true (by decide)
theorem line10 : ((10 : Nat) ≤ 16777216) = True := eq_true (by decide)
theorem line11 : ((11 : Nat) ≤ 16777216) = True := eq_true (by decide)
theorem line12 : ((12 : Nat) ≤ 16777216) = True := eq_true (by decide)
theorem dTru_non {Q : Bool → Prop} : dTru .non Q = Q false := rfl
theorem dTru_bl {b : Bool} {Q : Bool → Prop} : dTru (.bl b) Q = Q b := rfl
theorem dTru_int {i : Int} {Q : Bool → Prop} : dTru (.int i) Q = Q (i != 0) := rfl
theorem dTru_lst {x : List Dt} {Q : Bool → Prop} : dTru (.lst x) Q = Q (!x.isEmpty) := rfl
theorem dTru_tup {x : List Dt} {Q : Bool → Prop} : dTru (.tup x) Q = Q (!x.isEmpty) := rfl
theorem dTru_str {x : Str} {Q : Bool → Prop} : dTru (.str x) Q = (x.length ≤ 16777216 ∧ Q ((x.length : Int) != 0)) := rfl
theorem dTru_dk {x : List Key} {y : List Dt} {Q : Bool → Prop} : dTru (.dk x y) Q = Q (!x.isEmpty) := rfl
theorem isTp_non : isTp .non = false := rfl
theorem isTp_int (i : Int) : isTp (.int i) = false := rfl
theorem isTp_str (i : Str) : isTp (.str i) = false := rfl
theorem isW_int (i : Int) : isW (.int i) = true := rfl
/-- a thing that may be asked for its items -/
theorem seq_or {a : Dt} : (∃ xs, a = .lst xs) ∨ (∃ xs, a = .tup xs) ∨ isSeq a = false := by
  cases a <;> first | exact .inl ⟨_, rfl⟩ | exact .inr (.inl ⟨_, rfl⟩) | exact .inr (.inr rfl)
/-- the first place of an item that is not as it should be -/
def badAt (p : Dt → Bool) (xs : List Dt) : Option Nat := xs.findIdx? fun x => !p x
theorem badAt_none {p : Dt → Bool} {xs : List Dt} (h : ∀ (j : Nat) x, xs[j]? = some x → p x = true) : badAt p xs = none := by
  unfold badAt
  rw [List.findIdx?_eq_none_iff]
  intro x hx
  obtain ⟨j, hj⟩ := List.mem_iff_getElem?.mp hx
  rw [h j x hj]; rfl
theorem badAt_some {p : Dt → Bool} {xs : List Dt} {i : Nat} {y : Dt} (h : ∀ (j : Nat) x, j < i → xs[j]? = some x → p x = true) (hy : xs[i]? = some y) (hp : p y = false) : badAt p xs = some i := by
  unfold badAt
  rw [List.findIdx?_eq_some_iff_getElem]
  obtain ⟨hl, he⟩ := List.getElem?_eq_some_iff.mp hy
  refine ⟨hl, by rw [he, hp]; rfl, fun j hj => ?_⟩
  rw [h j _ hj (List.getElem?_eq_getElem (Nat.lt_trans hj hl))]; decide
theorem badAt_spec {p : Dt → Bool} {xs : List Dt} (h : badAt p xs = none) {x : Dt} (hx : x ∈ xs) : p x = true := by
  unfold badAt at h
  rw [List.findIdx?_eq_none_iff] at h
  have := h x hx
  cases e : p x with
  | true => rfl
  | false => rw [e] at this; cases this
theorem badAt_map {p : Dt → Bool} {α : Type} {e : α → Dt} {xs : List α} (h : ∀ a ∈ xs, p (e a) = true) : badAt p (xs.map e) = none :=
  badAt_none fun j x hx => by
    obtain ⟨a, ha, rfl⟩ := List.mem_map.mp (List.mem_of_getElem? hx)
    exact h a ha
/-- the index due of a word that is refused -/
def badWord (q : Int) (m : Nat) (a : Dt) : Option Int := match isSeq a with
  | false => some (-1)
  | true => if m < (itemsOf a).length then some (-1) else (badAt (inB 0 (q - 1)) (itemsOf a)).map fun i : Nat => (i : Int)
/-- an optional index as a value -/
def oD : Option Int → Dt
  | some i => .int i
  | none => .non
theorem oD_eqE : EqE oD 0 := by
  refine ⟨fun a => ?_, fun a b => ?_⟩
  · cases a
    · exact shN_non
    · exact shN_int _
  · cases a <;> cases b
    · rw [show oD none = .non from rfl, Dt.eqv_of (a := .non) (b := .non) (by rw [Dt.py]) (by rw [Dt.py]), PyData.eqv]; rfl
    · rename_i i
      rw [show oD none = .non from rfl, show oD (some i) = .int i from rfl, Dt.eqv_of (a := .non) (b := .int i) (by rw [Dt.py]) (by rw [Dt.py]), PyData.eqv]; simp
    · rename_i i
      rw [show oD none = .non from rfl, show oD (some i) = .int i from rfl, Dt.eqv_of (a := .int i) (b := .non) (by rw [Dt.py]) (by rw [Dt.py]), PyData.eqv]; simp
    · rename_i i j
      rw [show oD (some i) = .int i from rfl, show oD (some j) = .int j from rfl, eqv_int]
      simp
theorem enum_get {xs : List Dt} {i : Nat} {x : Dt} (h : (xs.mapIdx fun i x => Dt.tup [.int (i : Nat), x])[i]? = some x) : ∃ y, xs[i]? = some y ∧ x = .tup [.int (i : Nat), y] := by
  rw [List.getElem?_mapIdx, Option.map_eq_some_iff] at h
  obtain ⟨y, h1, h2⟩ := h
  exact ⟨y, h1, h2.symm⟩
theorem rng_get {n i : Nat} {x : Dt} (h : ((List.range n).map fun i => Dt.int (i : Nat))[i]? = some x) : i < n ∧ x = .int (i : Nat) := by
  rw [List.getElem?_map, Option.map_eq_some_iff] at h
  obtain ⟨y, h1, h2⟩ := h
  obtain ⟨hl, e⟩ := List.getElem?_eq_some_iff.mp h1
  rw [List.length_range] at hl
  rw [List.getElem_range] at e
  exact ⟨hl, by rw [← h2, e]⟩
end Mine

namespace Mine
open PySem PySem.Spec PyProof.Rows L2
/-! ### dicts as tables -/
section
variable {κ : Type} [DecidableEq κ]
theorem putKs_mem {j k : κ} : ∀ {ks : List κ}, k ∈ putKs ks j ↔ k ∈ ks ∨ k = j
  | [] => by simp [putKs]
  | a :: ks => by
    unfold putKs
    by_cases c : a = j
    · rw [if_pos c]
      refine ⟨.inl, fun h => h.elim id fun e => ?_⟩
      rw [e, ← c]; exact List.mem_cons_self
    · rw [if_neg c, List.mem_cons, List.mem_cons, putKs_mem (ks := ks), or_assoc]
theorem putKs_nodup {j : κ} : ∀ {ks : List κ}, ks.Nodup → (putKs ks j).Nodup
  | [], _ => by simp [putKs]
  | a :: ks, h => by
    have h2 := List.nodup_cons.mp h
    unfold putKs
    by_cases c : a = j
    · rw [if_pos c]; exact h
    · rw [if_neg c]
      refine List.nodup_cons.mpr ⟨fun m => ?_, putKs_nodup h2.2⟩
      rcases putKs_mem.mp m with m | m
      · exact h2.1 m
      · exact c m
theorem putKs_len {j : κ} : ∀ {ks : List κ}, (putKs ks j).length ≤ ks.length + 1
  | [] => Nat.le_refl _
  | a :: ks => by
    unfold putKs
    split
    · exact Nat.le_succ _
    · rw [List.length_cons, List.length_cons]; exact Nat.succ_le_succ putKs_len
theorem put_len {j : κ} {y : Dt} : ∀ {ks : List κ} {ds : List Dt}, ks.length = ds.length → (putKs ks j).length = (putVs ks ds j y).length
  | [], [], _ => rfl
  | a :: ks, d :: ds, h => by
    unfold putKs putVs
    split
    · simpa using h
    · rw [List.length_cons, List.length_cons, put_len (by simpa using h)]
theorem valD_put {j k : κ} {y : Dt} : ∀ {ks : List κ} {ds : List Dt}, ks.length = ds.length → valD (putKs ks j) (putVs ks ds j y) k = if k = j then some y else valD ks ds k
  | [], [], _ => by
    show (if j = k then some y else none) = if k = j then some y else none
    by_cases c : k = j
    · rw [if_pos c, if_pos c.symm]
    · rw [if_neg c, if_neg fun e => c e.symm]
  | a :: ks, d :: ds, h => by
    unfold putKs putVs
    by_cases c : a = j
    · rw [if_pos c, if_pos c]
      unfold valD
      by_cases c2 : a = k
      · rw [if_pos c2, if_pos (c2 ▸ c)]
      · rw [if_neg c2, if_neg fun e => c2 (c.trans e.symm), if_neg c2]
    · rw [if_neg c, if_neg c]
      show (if a = k then some d else valD (putKs ks j) (putVs ks ds j y) k) = _
      rw [valD_put (by simpa using h)]
      show _ = if k = j then some y else if a = k then some d else valD ks ds k
      by_cases c2 : a = k
      · rw [if_pos c2, if_pos c2, if_neg fun e => c (c2.trans e)]
      · rw [if_neg c2, if_neg c2]
/-- the dict ks, ds is this table, with at most n keys -/
structure Tb (ks : List κ) (ds : List Dt) (f : κ → Option Dt) (n : Nat) : Prop where
  nd : ks.Nodup
  len : ks.length = ds.length
  few : ks.length ≤ n
  val : ∀ k, valD ks ds k = f k
theorem Tb.nil : Tb ([] : List κ) [] (fun _ => none) 0 := ⟨List.nodup_nil, rfl, Nat.le_refl _, fun _ => rfl⟩
theorem Tb.put {ks : List κ} {ds : List Dt} {f : κ → Option Dt} {n : Nat} (h : Tb ks ds f n) (j : κ) (y : Dt) : Tb (putKs ks j) (putVs ks ds j y) (fun k => if k = j then some y else f k) (n + 1) :=
  ⟨putKs_nodup h.nd, put_len h.len, Nat.le_trans putKs_len (Nat.succ_le_succ h.few), fun k => by rw [valD_put h.len, h.val]⟩
theorem Tb.congr {ks : List κ} {ds : List Dt} {f g : κ → Option Dt} {n m : Nat} (h : Tb ks ds f n) (e : ∀ k, f k = g k) (l : n ≤ m) : Tb ks ds g m := ⟨h.nd, h.len, Nat.le_trans h.few l, fun k => (h.val k).trans (e k)⟩
end
theorem keysOf_ints : ∀ w : List Int, keysOf (w.map .int) = some (w.map .inl)
  | [] => rfl
  | x :: w => by
    rw [List.map_cons, List.map_cons]
    unfold keysOf
    rw [keysOf_ints w]; rfl
theorem get_dt {ks : List (List Key)} {ds : List Dt} {w : List Int} : (Ow.dt ks ds).get (.tup (w.map .int)) = some (valD ks ds (w.map .inl)) := by
  show (keysOf (w.map .int)).map _ = _
  rw [keysOf_ints]; rfl
theorem put_dt {ks : List (List Key)} {ds : List Dt} {w : List Int} {y : Dt} : (Ow.dt ks ds).put (.tup (w.map .int)) y = some (.dt (putKs ks (w.map .inl)) (putVs ks ds (w.map .inl) y)) := by
  show (keysOf (w.map .int)).map _ = _
  rw [keysOf_ints]; rfl
theorem get_dk {ks : List Key} {ds : List Dt} {i : Int} : (Ow.dk ks ds).get (.int i) = some (valD ks ds (.inl i)) := rfl
theorem put_dk {ks : List Key} {ds : List Dt} {i : Int} {y : Dt} : (Ow.dk ks ds).put (.int i) y = some (.dk (putKs ks (.inl i)) (putVs ks ds (.inl i) y)) := rfl
theorem ow_dk {ks : List Key} {ds : List Dt} : (Dt.dk ks ds).ow = some (.dk ks ds) := rfl
theorem ow_dt {ks : List (List Key)} {ds : List Dt} : (Dt.dt ks ds).ow = some (.dt ks ds) := rfl
theorem keysN_dk {ks : List Key} {ds : List Dt} : (Ow.dk ks ds).keysN = (ks.Nodup ∧ ks.length < 16777216) := rfl
theorem keysN_dt {ks : List (List Key)} {ds : List Dt} : (Ow.dt ks ds).keysN = (ks.Nodup ∧ ks.length < 16777216) := rfl
/-- words told apart by their keys -/
theorem inl_inj : ∀ {w v : List Int}, (w.map (Sum.inl : Int → Key) = v.map Sum.inl) ↔ w = v
  | [], [] => by simp
  | [], b :: v => by simp
  | a :: w, [] => by simp
  | a :: w, b :: v => by
    rw [List.map_cons, List.map_cons, List.cons.injEq, List.cons.injEq, inl_inj (w := w) (v := v), Sum.inl.injEq]
end Mine

namespace Mine
open PySem PySem.Spec PyProof.Rows L2
def mt (a b : Str) : Option Bool :=
  none
def ftab (a f : Str) : Bool :=
  if a = "SumBook" ∧ f = "length" then true else
  if a = "SumBook" ∧ f = "modulus" then true else
  if a = "SumBook" ∧ f = "rest" then true else
  false
theorem ftab_SumBook_length : ftab "SumBook" "length" = true := by decide +kernel
theorem ftab_SumBook_modulus : ftab "SumBook" "modulus" = true := by decide +kernel
theorem ftab_SumBook_rest : ftab "SumBook" "rest" = true := by decide +kernel
theorem look_SumBook_length {x0 x1 x2 : Dt} : (List.zip (["length", "modulus", "rest"] : List Str) [x0, x1, x2]).lookup ("length" : Str) = some x0 := rfl
theorem putN_SumBook_length : putNs "length" ([] : List Str) = (["length"] : List Str) := by decide +kernel
theorem putD_SumBook_length { y : Dt} : putDs "length" y ([] : List Str) [] = [y] := rfl
theorem look_SumBook_modulus {x0 x1 x2 : Dt} : (List.zip (["length", "modulus", "rest"] : List Str) [x0, x1, x2]).lookup ("modulus" : Str) = some x1 := rfl
theorem putN_SumBook_modulus : putNs "modulus" (["length"] : List Str) = (["length", "modulus"] : List Str) := by decide +kernel
theorem putD_SumBook_modulus {x0 y : Dt} : putDs "modulus" y (["length"] : List Str) [x0] = [x0, y] := rfl
theorem look_SumBook_rest {x0 x1 x2 : Dt} : (List.zip (["length", "modulus", "rest"] : List Str) [x0, x1, x2]).lookup ("rest" : Str) = some x2 := rfl
theorem putN_SumBook_rest : putNs "rest" (["length", "modulus"] : List Str) = (["length", "modulus", "rest"] : List Str) := by decide +kernel
theorem putD_SumBook_rest {x0 x1 y : Dt} : putDs "rest" y (["length", "modulus"] : List Str) [x0, x1] = [x0, x1, y] := rfl
theorem look_SumBook_has {x0 x1 x2 : Dt} : (List.zip (["length", "modulus", "rest"] : List Str) [x0, x1, x2]).lookup ("has" : Str) = none := rfl
theorem look_SumBook_contrary {x0 x1 x2 : Dt} : (List.zip (["length", "modulus", "rest"] : List Str) [x0, x1, x2]).lookup ("contrary" : Str) = none := rfl
theorem look_SumBook_turned {x0 x1 x2 : Dt} : (List.zip (["length", "modulus", "rest"] : List Str) [x0, x1, x2]).lookup ("turned" : Str) = none := rfl
def tabI_SumBook (a : Str) : Option Bool :=
  if a = "SumBook" then some true else
  none
theorem tabI_SumBook_SumBook : tabI_SumBook "SumBook" = some true := by decide +kernel
def S_law_divided : DSt := (sSeq (sPar 1 2 (eCons (eLst eNil) (eCons (eLst eNil) eNil)))
    (sSeq (sFor (eRng2 (eCons (eC (.int 1)) (eCons (eOp dAdd (eVarB 0) (eC (.int 1))) eNil))) (gD 3)
    (sSeq (sIf (eTest (eOp dGt (eOp dMul (eVarB 3) (eVarB 3)) (eVarB 0)))
    sBreak
    sNext)
    (sIf (eTest (eOp dEq (eOp dMod (eCB dInt (eCons (eVarB 0) eNil)) (eVarB 3)) (eC (.int 0))))
    (sSeq (sAsg (eOp dAdd (eVarB 1) (eLst (eCons (eVar 3) eNil))) (gD 1))
    (sIf (eTest (eOp dLt (eOp dMul (eVarB 3) (eVarB 3)) (eVarB 0)))
    (sAsg (eOp dAdd (eLst (eCons (eOp dFdiv (eVarB 0) (eVarB 3)) eNil)) (eVarB 2)) (gD 2))
    sNext))
    sNext)))
    (sRet (eOp dAdd (eVarB 1) (eVarB 2)))))
theorem F_law_divided_ex : ∃ x : DFn, x = mkD0 1 4 S_law_divided := ⟨_, rfl⟩
noncomputable def F_law_divided : DFn := F_law_divided_ex.choose
theorem F_law_divided_eq : F_law_divided = mkD0 1 4 S_law_divided := F_law_divided_ex.choose_spec
def S_law_multiple : DSt := (sSeq (sIf (eTest (eOp dEq (eCall0 F_law_take [] (eConsH 0 (eConsS (eC (.int 2)) eNil))) (eC (.int 0))))
    (sRet (eCall0 F_law_take [] (eConsH 0 (eConsS (eOp dAdd (eVarB 1) (eC (.int 1))) eNil))))
    sNext)
    (sSeq (sAsg (eCall0 F_law_divided [] (eConsS (eOp dAdd (eVarB 1) (eC (.int 1))) eNil)) (gD 2))
    (sSeq (sAsg (eOp dIx (eVarB 2) (eCall0 F_law_take [] (eConsH 0 (eConsS (eCB dLen (eCons (eVarB 2) eNil)) eNil)))) (gD 3))
    (sRet (eOp dMul (eVarB 3) (eCall0 F_law_take [] (eConsH 0 (eConsS (eOp dFdiv (eOp dAdd (eVarB 1) (eC (.int 1))) (eVarB 3)) eNil))))))))
theorem F_law_multiple_ex : ∃ x : DFn, x = mkD0 2 4 S_law_multiple := ⟨_, rfl⟩
noncomputable def F_law_multiple : DFn := F_law_multiple_ex.choose
theorem F_law_multiple_eq : F_law_multiple = mkD0 2 4 S_law_multiple := F_law_multiple_ex.choose_spec
def S_law_counts : DSt := (sSeq (sAsg (eOp dAdd (eLst (eCons (eC (.int 1)) eNil)) (eOp dMul (eLst (eCons (eC (.int 0)) eNil)) (eOp dSub (eVarB 1) (eC (.int 1))))) (gD 2))
    (sSeq (sFor (eRng2 (eCons (eC (.int 1)) (eCons (eOp dAdd (eVarB 0) (eC (.int 1))) eNil))) (gD 3)
    (sAsg (eLc (eRng1 (eCons (eVarB 1) eNil)) (gD 4) eYes (eOp dAdd (eOp dIx (eVarB 2) (eVarB 4)) (eOp dIx (eVarB 2) (eOp dMod (eCB dInt (eCons (eOp dSub (eVarB 4) (eVarB 3)) eNil)) (eVarB 1)))) [4]) (gD 2)))
    (sRet (eVar 2))))
theorem F_law_counts_ex : ∃ x : DFn, x = mkD0 2 5 S_law_counts := ⟨_, rfl⟩
noncomputable def F_law_counts : DFn := F_law_counts_ex.choose
theorem F_law_counts_eq : F_law_counts = mkD0 2 5 S_law_counts := F_law_counts_ex.choose_spec
def S_law_is_number : DSt := (sRet (eAndV (eCB (dIsi "int") (eCons (eVarB 0) (eCons (eC (.raw (.ty "int"))) eNil))) (eAndV (eNotVT (eCB (dIsi "bool") (eCons (eVarB 0) (eCons (eC (.raw (.ty "bool"))) eNil)))) (eOp dEq (eVarB 0) (eVarB 1)))))
theorem F_law_is_number_ex : ∃ x : DFn, x = mkD0 2 2 S_law_is_number := ⟨_, rfl⟩
noncomputable def F_law_is_number : DFn := F_law_is_number_ex.choose
theorem F_law_is_number_eq : F_law_is_number = mkD0 2 2 S_law_is_number := F_law_is_number_ex.choose_spec
def S_is_whole : DSt := (sSeq (sIf (eOrT (eNotT (eTru (eCB (dIsi "int") (eCons (eVarB 0) (eCons (eC (.raw (.ty "int"))) eNil))))) (eTru (eCB (dIsi "bool") (eCons (eVarB 0) (eCons (eC (.raw (.ty "bool"))) eNil)))))
    (sRet (eC (.bl false)))
    sNext)
    (sRet (eAndV (eOrV (eOp dIsN (eVarB 1) (eC .non)) (eOp dGe (eVarB 0) (eVarB 1))) (eOrV (eOp dIsN (eVarB 2) (eC .non)) (eOp dLe (eVarB 0) (eVarB 2))))))
theorem F_is_whole_ex : ∃ x : DFn, x = mkD0 3 3 S_is_whole := ⟨_, rfl⟩
noncomputable def F_is_whole : DFn := F_is_whole_ex.choose
theorem F_is_whole_eq : F_is_whole = mkD0 3 3 S_is_whole := F_is_whole_ex.choose_spec
def S_check_number : DSt := (sSeq (sIf (eNotT (eTru (eCall0 F_is_whole [] (eConsS (eVar 0) (eConsS (eVar 1) (eConsS (eVar 2) eNil))))))
    (sRaise "BadNumber")
    sNext)
    (sRet (eVar 0)))
theorem F_check_number_ex : ∃ x : DFn, x = mkD 3 3 S_check_number := ⟨_, rfl⟩
noncomputable def F_check_number : DFn := F_check_number_ex.choose
theorem F_check_number_eq : F_check_number = mkD 3 3 S_check_number := F_check_number_ex.choose_spec
def S_check_rest_sizes : DSt := (sIf (eNotT (eTru (eCall0 F_is_whole [] (eConsS (eVar 0) (eConsS (eC (.int 0)) (eConsS (eVar 1) eNil))))))
    (sRaise "BadRest")
    sNext)
theorem F_check_rest_sizes_ex : ∃ x : DFn, x = mkD 2 2 S_check_rest_sizes := ⟨_, rfl⟩
noncomputable def F_check_rest_sizes : DFn := F_check_rest_sizes_ex.choose
theorem F_check_rest_sizes_eq : F_check_rest_sizes = mkD 2 2 S_check_rest_sizes := F_check_rest_sizes_ex.choose_spec
def S_divisors_of : DSt := (sSeq (sDrop (eCall F_check_number [] (eConsS (eVar 0) (eConsS (eC (.int 1)) (eConsS (eC (.int (2000))) eNil)))))
    (sRet (eCB dTupOf (eCons (eLc (eRng2 (eCons (eC (.int 1)) (eCons (eOp dAdd (eVarB 0) (eC (.int 1))) eNil))) (gD 1) (eTest (eOp dEq (eOp dMod (eVarB 0) (eVarB 1)) (eC (.int 0)))) (eVar 1) [1]) eNil))))
theorem F_divisors_of_ex : ∃ x : DFn, x = mkD 1 2 S_divisors_of := ⟨_, rfl⟩
noncomputable def F_divisors_of : DFn := F_divisors_of_ex.choose
theorem F_divisors_of_eq : F_divisors_of = mkD 1 2 S_divisors_of := F_divisors_of_ex.choose_spec
def S_primes_of : DSt := (sSeq (sOwn 1 (eLst eNil))
    (sSeq (sAsg (eC (.int 2)) (gD 2))
    (sSeq (sWhile (eTest (eOp dGt (eVarB 0) (eC (.int 1))))
    (sIf (eTest (eOp dEq (eOp dMod (eVarB 0) (eVarB 2)) (eC (.int 0))))
    (sSeq (sApp 1 (eVar 2))
    (sAsg (eOp dFdiv (eVarB 0) (eVarB 2)) (gD 0)))
    (sAug (· + ·) 2 (eC (.int 1)))))
    (sFrz 1 (sRet (eVar 1))))))
theorem F_primes_of_ex : ∃ x : DFn, x = mkD0 1 3 S_primes_of := ⟨_, rfl⟩
noncomputable def F_primes_of : DFn := F_primes_of_ex.choose
theorem F_primes_of_eq : F_primes_of = mkD0 1 3 S_primes_of := F_primes_of_ex.choose_spec
def S_phi_of : DSt := (sSeq (sDrop (eCall F_check_number [] (eConsS (eVar 0) (eConsS (eC (.int 1)) (eConsS (eC (.int (2000))) eNil)))))
    (sSeq (sAsg (eC (.int 1)) (gD 1))
    (sSeq (sAsg (eC (.int 1)) (gD 2))
    (sSeq (sFor (eSeq (eCall0 F_primes_of [] (eConsS (eVar 0) eNil))) (gD 3)
    (sSeq (sAsg (eOp dMul (eVarB 1) (eIf (eTest (eOp dEq (eVarB 3) (eVarB 2))) (eVar 3) (eOp dSub (eVarB 3) (eC (.int 1))))) (gD 1))
    (sAsg (eVar 3) (gD 2))))
    (sRet (eVar 1))))))
theorem F_phi_of_ex : ∃ x : DFn, x = mkD 1 4 S_phi_of := ⟨_, rfl⟩
noncomputable def F_phi_of : DFn := F_phi_of_ex.choose
theorem F_phi_of_eq : F_phi_of = mkD 1 4 S_phi_of := F_phi_of_ex.choose_spec
def S_mu_of : DSt := (sSeq (sDrop (eCall F_check_number [] (eConsS (eVar 0) (eConsS (eC (.int 1)) (eConsS (eC (.int (2000))) eNil)))))
    (sSeq (sAsg (eCall0 F_primes_of [] (eConsS (eVar 0) eNil)) (gD 1))
    (sSeq (sIf (eTest (eOp dLt (eLenSet (eVarB 1)) (eCB dLen (eCons (eVarB 1) eNil))))
    (sRet (eC (.int 0)))
    sNext)
    (sRet (eIf (eTest (eOp dEq (eOp dMod (eCB dLen (eCons (eVarB 1) eNil)) (eC (.int 2))) (eC (.int 0)))) (eC (.int 1)) (eUn dNeg (eC (.int 1))))))))
theorem F_mu_of_ex : ∃ x : DFn, x = mkD 1 2 S_mu_of := ⟨_, rfl⟩
noncomputable def F_mu_of : DFn := F_mu_of_ex.choose
theorem F_mu_of_eq : F_mu_of = mkD 1 2 S_mu_of := F_mu_of_ex.choose_spec
def S_ram_of : DSt := (sSeq (sDrop (eCall F_check_number [] (eConsS (eVar 0) (eConsS (eC (.int 1)) (eConsS (eC (.int (2000))) eNil)))))
    (sSeq (sDrop (eCall F_check_number [] (eConsS (eVar 1) (eConsS (eC (.int 0)) (eConsS (eC (.int (2000))) eNil)))))
    (sSeq (sAsg (eOp dFdiv (eVarB 0) (eCB dGcd (eCons (eVarB 0) (eCons (eVarB 1) eNil)))) (gD 2))
    (sRet (eOp dFdiv (eOp dMul (eCall F_phi_of [] (eConsS (eVar 0) eNil)) (eCall F_mu_of [] (eConsS (eVar 2) eNil))) (eCall F_phi_of [] (eConsS (eVar 2) eNil)))))))
theorem F_ram_of_ex : ∃ x : DFn, x = mkD 2 3 S_ram_of := ⟨_, rfl⟩
noncomputable def F_ram_of : DFn := F_ram_of_ex.choose
theorem F_ram_of_eq : F_ram_of = mkD 2 3 S_ram_of := F_ram_of_ex.choose_spec
def S_size_of : DSt := (sSeq (sDrop (eCall F_check_number [] (eConsS (eVar 0) (eConsS (eC (.int 0)) (eConsS (eC (.int (200))) eNil)))))
    (sSeq (sDrop (eCall F_check_rest_sizes [] (eConsS (eVar 1) (eConsS (eVar 0) eNil))))
    (sSeq (sAsg (eOp dAdd (eVarB 0) (eC (.int 1))) (gD 2))
    (sSeq (sAsg (eCB dSum (eCons (eLc (eSeq (eCall F_divisors_of [] (eConsS (eVar 2) eNil))) (gD 4) (eTest (eOp dEq (eOp dMod (eVarB 4) (eC (.int 2))) (eC (.int 1)))) (eOp dMul (eCall0 F_ram_of [] (eConsS (eVar 4) (eConsS (eVar 1) eNil))) (eOp dShl (eC (.int 1)) (eOp dFdiv (eVarB 2) (eVarB 4)))) [4]) eNil)) (gD 3))
    (sRet (eOp dFdiv (eVarB 3) (eOp dMul (eC (.int 2)) (eVarB 2))))))))
theorem F_size_of_ex : ∃ x : DFn, x = mkD 2 5 S_size_of := ⟨_, rfl⟩
noncomputable def F_size_of : DFn := F_size_of_ex.choose
theorem F_size_of_eq : F_size_of = mkD 2 5 S_size_of := F_size_of_ex.choose_spec
def S_extremes_of : DSt := (sSeq (sDrop (eCall F_check_number [] (eConsS (eVar 0) (eConsS (eC (.int 0)) (eConsS (eC (.int (200))) eNil)))))
    (sRet (eTup (eCons (eCall F_size_of [] (eConsS (eVar 0) (eConsS (eC (.int 0)) eNil))) (eCons (eCall F_size_of [] (eConsS (eVar 0) (eConsS (eCB dMin2 (eCons (eVarB 0) (eCons (eC (.int 1)) eNil))) eNil))) eNil)))))
theorem F_extremes_of_ex : ∃ x : DFn, x = mkD 1 1 S_extremes_of := ⟨_, rfl⟩
noncomputable def F_extremes_of : DFn := F_extremes_of_ex.choose
theorem F_extremes_of_eq : F_extremes_of = mkD 1 1 S_extremes_of := F_extremes_of_ex.choose_spec
def S_odd_part : DSt := (sSeq (sDrop (eCall F_check_number [] (eConsS (eVar 0) (eConsS (eC (.int 1)) (eConsS (eC (.int (2000))) eNil)))))
    (sSeq (sWhile (eTest (eOp dEq (eOp dMod (eVarB 0) (eC (.int 2))) (eC (.int 0))))
    (sAsg (eOp dFdiv (eVarB 0) (eC (.int 2))) (gD 0)))
    (sRet (eVar 0))))
theorem F_odd_part_ex : ∃ x : DFn, x = mkD 1 1 S_odd_part := ⟨_, rfl⟩
noncomputable def F_odd_part : DFn := F_odd_part_ex.choose
theorem F_odd_part_eq : F_odd_part = mkD 1 1 S_odd_part := F_odd_part_ex.choose_spec
def S_common_divisor : DSt := (sSeq (sDrop (eCall F_check_number [] (eConsS (eVar 0) (eConsS (eC (.int 0)) (eConsS (eC (.int (2000))) eNil)))))
    (sSeq (sDrop (eCall F_check_number [] (eConsS (eVar 1) (eConsS (eC (.int 0)) (eConsS (eC (.int (2000))) eNil)))))
    (sRet (eCB dGcd (eCons (eVarB 0) (eCons (eVarB 1) eNil))))))
theorem F_common_divisor_ex : ∃ x : DFn, x = mkD 2 2 S_common_divisor := ⟨_, rfl⟩
noncomputable def F_common_divisor : DFn := F_common_divisor_ex.choose
theorem F_common_divisor_eq : F_common_divisor = mkD 2 2 S_common_divisor := F_common_divisor_ex.choose_spec
def S_law_odd : DSt := (sSeq (sAsg (eVar 0) (gD 1))
    (sSeq (sFor (eRng1 (eCons (eC (.int 20)) eNil)) (gD 2)
    (sSeq (sIf (eTest (eOp dEq (eOp dMod (eCB dInt (eCons (eVarB 1) eNil)) (eC (.int 2))) (eC (.int 1))))
    sBreak
    sNext)
    (sAsg (eOp dFdiv (eVarB 1) (eC (.int 2))) (gD 1))))
    (sRet (eVar 1))))
theorem F_law_odd_ex : ∃ x : DFn, x = mkD0 1 3 S_law_odd := ⟨_, rfl⟩
noncomputable def F_law_odd : DFn := F_law_odd_ex.choose
theorem F_law_odd_eq : F_law_odd = mkD0 1 3 S_law_odd := F_law_odd_ex.choose_spec
def S_law_gcd : DSt := (sSeq (sPar 2 3 (eCons (eVar 0) (eCons (eVar 1) eNil)))
    (sSeq (sFor (eRng1 (eCons (eC (.int 60)) eNil)) (gD 4)
    (sSeq (sIf (eTest (eOp dEq (eVarB 2) (eC (.int 0))))
    sBreak
    sNext)
    (sPar 2 3 (eCons (eOp dMod (eCB dInt (eCons (eVarB 3) eNil)) (eVarB 2)) (eCons (eVar 2) eNil)))))
    (sRet (eVar 3))))
theorem F_law_gcd_ex : ∃ x : DFn, x = mkD0 2 5 S_law_gcd := ⟨_, rfl⟩
noncomputable def F_law_gcd : DFn := F_law_gcd_ex.choose
theorem F_law_gcd_eq : F_law_gcd = mkD0 2 5 S_law_gcd := F_law_gcd_ex.choose_spec
def S_law_compared : DSt := (sSeq (sPar 5 6 (eCons (eCall0 F_odd_part [] (eConsS (eCall0 F_common_divisor [] (eConsS (eOp dAdd (eVarB 0) (eC (.int 1))) (eConsS (eVar 1) eNil))) eNil)) (eCons (eCall0 F_odd_part [] (eConsS (eCall0 F_common_divisor [] (eConsS (eOp dAdd (eVarB 0) (eC (.int 1))) (eConsS (eVar 2) eNil))) eNil)) eNil)))
    (sSeq (sIf (eOrT (eTest (eOp dNe (eVarB 5) (eCall0 F_law_odd [] (eConsS (eCall0 F_law_gcd [] (eConsS (eOp dAdd (eVarB 0) (eC (.int 1))) (eConsS (eVar 1) eNil))) eNil)))) (eTest (eOp dNe (eVarB 6) (eCall0 F_law_odd [] (eConsS (eCall0 F_law_gcd [] (eConsS (eOp dAdd (eVarB 0) (eC (.int 1))) (eConsS (eVar 2) eNil))) eNil)))))
    (sRet (eC (.bl false)))
    sNext)
    (sSeq (sIf (eTest (eOp dEq (eVarB 5) (eVarB 6)))
    (sRet (eOp dEq (eVarB 3) (eVarB 4)))
    sNext)
    (sSeq (sIf (eTest (eOp dEq (eOp dMod (eCB dInt (eCons (eVarB 6) eNil)) (eVarB 5)) (eC (.int 0))))
    (sRet (eOp dLt (eVarB 3) (eVarB 4)))
    sNext)
    (sRet (eOrV (eOp dNe (eOp dMod (eCB dInt (eCons (eVarB 5) eNil)) (eVarB 6)) (eC (.int 0))) (eOp dLt (eVarB 4) (eVarB 3))))))))
theorem F_law_compared_ex : ∃ x : DFn, x = mkD0 5 7 S_law_compared := ⟨_, rfl⟩
noncomputable def F_law_compared : DFn := F_law_compared_ex.choose
theorem F_law_compared_eq : F_law_compared = mkD0 5 7 S_law_compared := F_law_compared_ex.choose_spec
theorem S_law_long_r13_ex : ∃ x : DSt, x = (sRet (eAndV (eCall0 F_law_compared [] (eConsS (eVar 1) (eConsS (eVar 2) (eConsS (eVar 3) (eConsS (eVar 5) (eConsS (eVar 6) eNil)))))) (eCall0 F_law_compared [] (eConsS (eVar 1) (eConsS (eVar 3) (eConsS (eC (.int 0)) (eConsS (eVar 6) (eConsS (eVar 7) eNil)))))))) := ⟨_, rfl⟩
noncomputable def S_law_long_r13 : DSt := S_law_long_r13_ex.choose
theorem S_law_long_r13_eq : S_law_long_r13 = (sRet (eAndV (eCall0 F_law_compared [] (eConsS (eVar 1) (eConsS (eVar 2) (eConsS (eVar 3) (eConsS (eVar 5) (eConsS (eVar 6) eNil)))))) (eCall0 F_law_compared [] (eConsS (eVar 1) (eConsS (eVar 3) (eConsS (eC (.int 0)) (eConsS (eVar 6) (eConsS (eVar 7) eNil)))))))) := S_law_long_r13_ex.choose_spec
theorem S_law_long_r11_ex : ∃ x : DSt, x = (sSeq (sIf (eOrT (eNotT (eTru (eCall0 F_law_is_number [] (eConsS (eVar 7) (eConsS (eCB dMaxL (eCons (eVarB 4) eNil)) eNil))))) (eNotT (eTru (eCall0 F_law_is_number [] (eConsS (eVar 8) (eConsS (eCB dMinL (eCons (eVarB 4) eNil)) eNil))))))
    (sRet (eC (.bl false)))
    sNext)
    S_law_long_r13) := ⟨_, rfl⟩
noncomputable def S_law_long_r11 : DSt := S_law_long_r11_ex.choose
theorem S_law_long_r11_eq : S_law_long_r11 = (sSeq (sIf (eOrT (eNotT (eTru (eCall0 F_law_is_number [] (eConsS (eVar 7) (eConsS (eCB dMaxL (eCons (eVarB 4) eNil)) eNil))))) (eNotT (eTru (eCall0 F_law_is_number [] (eConsS (eVar 8) (eConsS (eCB dMinL (eCons (eVarB 4) eNil)) eNil))))))
    (sRet (eC (.bl false)))
    sNext)
    S_law_long_r13) := S_law_long_r11_ex.choose_spec
theorem S_law_long_r10_ex : ∃ x : DSt, x = (sSeq (sAsg (eCall0 F_extremes_of [] (eConsS (eVar 1) eNil)) (gD2 7 8))
    S_law_long_r11) := ⟨_, rfl⟩
noncomputable def S_law_long_r10 : DSt := S_law_long_r10_ex.choose
theorem S_law_long_r10_eq : S_law_long_r10 = (sSeq (sAsg (eCall0 F_extremes_of [] (eConsS (eVar 1) eNil)) (gD2 7 8))
    S_law_long_r11) := S_law_long_r10_ex.choose_spec
theorem S_law_long_r8_ex : ∃ x : DSt, x = (sSeq (sIf (eOrT (eNotT (eTru (eCall0 F_law_is_number [] (eConsS (eCall0 F_size_of [] (eConsS (eVar 1) (eConsS (eVar 2) eNil))) (eConsS (eVar 5) eNil))))) (eNotT (eTru (eCall0 F_law_is_number [] (eConsS (eCall0 F_size_of [] (eConsS (eVar 1) (eConsS (eVar 3) eNil))) (eConsS (eVar 6) eNil))))))
    (sRet (eC (.bl false)))
    sNext)
    S_law_long_r10) := ⟨_, rfl⟩
noncomputable def S_law_long_r8 : DSt := S_law_long_r8_ex.choose
theorem S_law_long_r8_eq : S_law_long_r8 = (sSeq (sIf (eOrT (eNotT (eTru (eCall0 F_law_is_number [] (eConsS (eCall0 F_size_of [] (eConsS (eVar 1) (eConsS (eVar 2) eNil))) (eConsS (eVar 5) eNil))))) (eNotT (eTru (eCall0 F_law_is_number [] (eConsS (eCall0 F_size_of [] (eConsS (eVar 1) (eConsS (eVar 3) eNil))) (eConsS (eVar 6) eNil))))))
    (sRet (eC (.bl false)))
    sNext)
    S_law_long_r10) := S_law_long_r8_ex.choose_spec
theorem S_law_long_r7_ex : ∃ x : DSt, x = (sSeq (sPar 5 6 (eCons (eOp dIx (eVarB 4) (eVarB 2)) (eCons (eOp dIx (eVarB 4) (eVarB 3)) eNil)))
    S_law_long_r8) := ⟨_, rfl⟩
noncomputable def S_law_long_r7 : DSt := S_law_long_r7_ex.choose
theorem S_law_long_r7_eq : S_law_long_r7 = (sSeq (sPar 5 6 (eCons (eOp dIx (eVarB 4) (eVarB 2)) (eCons (eOp dIx (eVarB 4) (eVarB 3)) eNil)))
    S_law_long_r8) := S_law_long_r7_ex.choose_spec
theorem S_law_long_r6_ex : ∃ x : DSt, x = (sSeq (sAsg (eCall0 F_law_counts [] (eConsS (eVar 1) (eConsS (eOp dAdd (eVarB 1) (eC (.int 1))) eNil))) (gD 4))
    S_law_long_r7) := ⟨_, rfl⟩
noncomputable def S_law_long_r6 : DSt := S_law_long_r6_ex.choose
theorem S_law_long_r6_eq : S_law_long_r6 = (sSeq (sAsg (eCall0 F_law_counts [] (eConsS (eVar 1) (eConsS (eOp dAdd (eVarB 1) (eC (.int 1))) eNil))) (gD 4))
    S_law_long_r7) := S_law_long_r6_ex.choose_spec
theorem S_law_long_r5_ex : ∃ x : DSt, x = (sSeq (sAsg (eCall0 F_law_multiple [] (eConsH 0 (eConsS (eVar 1) eNil))) (gD 3))
    S_law_long_r6) := ⟨_, rfl⟩
noncomputable def S_law_long_r5 : DSt := S_law_long_r5_ex.choose
theorem S_law_long_r5_eq : S_law_long_r5 = (sSeq (sAsg (eCall0 F_law_multiple [] (eConsH 0 (eConsS (eVar 1) eNil))) (gD 3))
    S_law_long_r6) := S_law_long_r5_ex.choose_spec
theorem S_law_long_r4_ex : ∃ x : DSt, x = (sSeq (sAsg (eCall0 F_law_multiple [] (eConsH 0 (eConsS (eVar 1) eNil))) (gD 2))
    S_law_long_r5) := ⟨_, rfl⟩
noncomputable def S_law_long_r4 : DSt := S_law_long_r4_ex.choose
theorem S_law_long_r4_eq : S_law_long_r4 = (sSeq (sAsg (eCall0 F_law_multiple [] (eConsH 0 (eConsS (eVar 1) eNil))) (gD 2))
    S_law_long_r5) := S_law_long_r4_ex.choose_spec
theorem S_law_long_r2_ex : ∃ x : DSt, x = (sSeq (sIf (eTest (eOp dEq (eCall0 F_law_take [] (eConsH 0 (eConsS (eC (.int 2)) eNil))) (eC (.int 0))))
    (sAsg (eOp dIx (eLst (eCons (eC (.int 200)) (eCons (eC (.int 194)) (eCons (eC (.int 188)) (eCons (eC (.int 179)) (eCons (eC (.int 164)) (eCons (eC (.int 149)) (eCons (eC (.int 134)) (eCons (eC (.int 104)) (eCons (eC (.int 89)) (eCons (eC (.int 80)) (eCons (eC (.int 62)) (eCons (eC (.int 59)) (eCons (eC (.int 44)) (eCons (eC (.int 26)) (eCons (eC (.int 14)) (eCons (eC (.int 8)) eNil))))))))))))))))) (eCall0 F_law_take [] (eConsH 0 (eConsS (eC (.int 16)) eNil)))) (gD 1))
    sNext)
    S_law_long_r4) := ⟨_, rfl⟩
noncomputable def S_law_long_r2 : DSt := S_law_long_r2_ex.choose
theorem S_law_long_r2_eq : S_law_long_r2 = (sSeq (sIf (eTest (eOp dEq (eCall0 F_law_take [] (eConsH 0 (eConsS (eC (.int 2)) eNil))) (eC (.int 0))))
    (sAsg (eOp dIx (eLst (eCons (eC (.int 200)) (eCons (eC (.int 194)) (eCons (eC (.int 188)) (eCons (eC (.int 179)) (eCons (eC (.int 164)) (eCons (eC (.int 149)) (eCons (eC (.int 134)) (eCons (eC (.int 104)) (eCons (eC (.int 89)) (eCons (eC (.int 80)) (eCons (eC (.int 62)) (eCons (eC (.int 59)) (eCons (eC (.int 44)) (eCons (eC (.int 26)) (eCons (eC (.int 14)) (eCons (eC (.int 8)) eNil))))))))))))))))) (eCall0 F_law_take [] (eConsH 0 (eConsS (eC (.int 16)) eNil)))) (gD 1))
    sNext)
    S_law_long_r4) := S_law_long_r2_ex.choose_spec
def S_law_long : DSt := (sSeq (sAsg (eCall0 F_law_take [] (eConsH 0 (eConsS (eC (.int 201)) eNil))) (gD 1))
    S_law_long_r2)
theorem F_law_long_ex : ∃ x : DFn, x = mkD0 1 9 S_law_long := ⟨_, rfl⟩
noncomputable def F_law_long : DFn := F_law_long_ex.choose
theorem F_law_long_eq : F_law_long = mkD0 1 9 S_law_long := F_law_long_ex.choose_spec
def S_all_words : DSt := (sSeq (sAsg (eLst (eCons (eTup eNil) eNil)) (gD 2))
    (sSeq (sFor (eRng1 (eCons (eVarB 1) eNil)) (gD 3)
    (sAsg (eLc2 (eSeq (eVarB 2)) (gD 4) eYes (eRng1 (eCons (eVarB 0) eNil)) (gD 5) eYes (eOp dAdd (eVarB 4) (eTup (eCons (eVar 5) eNil))) [5] [4, 5]) (gD 2)))
    (sRet (eVar 2))))
theorem F_all_words_ex : ∃ x : DFn, x = mkD0 2 6 S_all_words := ⟨_, rfl⟩
noncomputable def F_all_words : DFn := F_all_words_ex.choose
theorem F_all_words_eq : F_all_words = mkD0 2 6 S_all_words := F_all_words_ex.choose_spec
def S_sum_of : DSt := (sRet (eCB dSum (eCons (eLc (eEnumK 1 (eCons (eVarB 0) eNil)) (gD2 1 2) (eTest (eOp dEq (eVarB 2) (eC (.int 1)))) (eVar 1) [1, 2]) eNil)))
theorem F_sum_of_ex : ∃ x : DFn, x = mkD0 1 3 S_sum_of := ⟨_, rfl⟩
noncomputable def F_sum_of : DFn := F_sum_of_ex.choose
theorem F_sum_of_eq : F_sum_of = mkD0 1 3 S_sum_of := F_sum_of_ex.choose_spec
def S_power_of : DSt := (sSeq (sAsg (eC (.int 1)) (gD 2))
    (sSeq (sFor (eRng1 (eCons (eVarB 1) eNil)) (gD 3)
    (sAsg (eOp dMul (eVarB 2) (eVarB 0)) (gD 2)))
    (sRet (eVar 2))))
theorem F_power_of_ex : ∃ x : DFn, x = mkD0 2 4 S_power_of := ⟨_, rfl⟩
noncomputable def F_power_of : DFn := F_power_of_ex.choose
theorem F_power_of_eq : F_power_of = mkD0 2 4 S_power_of := F_power_of_ex.choose_spec
def S_sum_members : DGt := (gSeq (gPlain (sIf (eTest (eOp dGt (eFld ftab "length" (eVarB 0)) (eC (.int (14)))))
    (sRaise1 "TooMany" "count" (eCall0 F_power_of [] (eConsS (eC (.int 2)) (eConsS (eFld ftab "length" (eVarB 0)) eNil))))
    sNext))
    (gSeq (gFor (eSeq (eCall0 F_all_words [] (eConsS (eC (.int 2)) (eConsS (eFld ftab "length" (eVarB 0)) eNil)))) (gD 1)
    (gSeq (gIf (eTest (eOp dEq (eOp dMod (eCall0 F_sum_of [] (eConsS (eVar 1) eNil)) (eFld ftab "modulus" (eVarB 0))) (eFld ftab "rest" (eVarB 0))))
    (gSeq (gYield (eVar 1))
    gNext)
    gNext)
    gNext))
    gNext))
theorem F_sum_members_ex : ∃ x : DFn, x = mkG 1 2 S_sum_members := ⟨_, rfl⟩
noncomputable def F_sum_members : DFn := F_sum_members_ex.choose
theorem F_sum_members_eq : F_sum_members = mkG 1 2 S_sum_members := F_sum_members_ex.choose_spec
def S_check_modulus : DSt := (sIf (eNotT (eTru (eCall0 F_is_whole [] (eConsS (eVar 0) (eConsS (eVar 1) (eConsS (eC (.int (1000000))) eNil))))))
    (sRaise "BadModulus")
    sNext)
theorem F_check_modulus_ex : ∃ x : DFn, x = mkD 2 2 S_check_modulus := ⟨_, rfl⟩
noncomputable def F_check_modulus : DFn := F_check_modulus_ex.choose
theorem F_check_modulus_eq : F_check_modulus = mkD 2 2 S_check_modulus := F_check_modulus_ex.choose_spec
def S_check_rest_sums : DSt := (sIf (eNotT (eTru (eCall0 F_is_whole [] (eConsS (eVar 0) (eConsS (eC (.int 0)) (eConsS (eOp dSub (eVarB 1) (eC (.int 1))) eNil))))))
    (sRaise "BadRest")
    sNext)
theorem F_check_rest_sums_ex : ∃ x : DFn, x = mkD 2 2 S_check_rest_sums := ⟨_, rfl⟩
noncomputable def F_check_rest_sums : DFn := F_check_rest_sums_ex.choose
theorem F_check_rest_sums_eq : F_check_rest_sums = mkD 2 2 S_check_rest_sums := F_check_rest_sums_ex.choose_spec
def S_SumBook___init : DSt := (sSeq (sDrop (eCall F_check_number [] (eConsS (eVar 1) (eConsS (eC (.int 0)) (eConsS (eC (.int (200))) eNil)))))
    (sSeq (sDrop (eCall F_check_modulus [] (eConsS (eVar 2) (eConsS (eOp dAdd (eVarB 1) (eC (.int 1))) eNil))))
    (sSeq (sDrop (eCall F_check_rest_sums [] (eConsS (eVar 3) (eConsS (eVar 2) eNil))))
    (sSeq (sSetF ftab "length" 0 (eVar 1))
    (sSeq (sSetF ftab "modulus" 0 (eVar 2))
    (sSetF ftab "rest" 0 (eVar 3)))))))
theorem F_SumBook___init_ex : ∃ x : DFn, x = mkI "SumBook" 4 4 S_SumBook___init := ⟨_, rfl⟩
noncomputable def F_SumBook___init : DFn := F_SumBook___init_ex.choose
theorem F_SumBook___init_eq : F_SumBook___init = mkI "SumBook" 4 4 S_SumBook___init := F_SumBook___init_ex.choose_spec
def S_law_is_word : DSt := (sSeq (sIf (eOrT (eNotT (eTru (eCB (dIsi "tuple") (eCons (eVarB 0) (eCons (eC (.raw (.ty "tuple"))) eNil))))) (eTest (eOp dNe (eCB dLen (eCons (eVarB 0) eNil)) (eCB dLen (eCons (eVarB 1) eNil)))))
    (sRet (eC (.bl false)))
    sNext)
    (sRet (eOp dEq (eLc (eRng1 (eCons (eCB dLen (eCons (eVarB 1) eNil)) eNil)) (gD 2) (eNotT (eTru (eCall0 F_law_is_number [] (eConsS (eOp dIx (eVarB 0) (eVarB 2)) (eConsS (eOp dIx (eVarB 1) (eVarB 2)) eNil))))) (eVar 2) [2]) (eLst eNil))))
theorem F_law_is_word_ex : ∃ x : DFn, x = mkD0 2 3 S_law_is_word := ⟨_, rfl⟩
noncomputable def F_law_is_word : DFn := F_law_is_word_ex.choose
theorem F_law_is_word_eq : F_law_is_word = mkD0 2 3 S_law_is_word := F_law_is_word_ex.choose_spec
def S_book_sizes : DSt := (sSeq (sDrop (eCall F_check_number [] (eConsS (eVar 0) (eConsS (eC (.int 0)) (eConsS (eC (.int (60))) eNil)))))
    (sRet (eCB dTupOf (eCons (eLc (eRng1 (eCons (eOp dAdd (eVarB 0) (eC (.int 1))) eNil)) (gD 1) eYes (eCall0 F_size_of [] (eConsS (eVar 0) (eConsS (eVar 1) eNil))) [1]) eNil))))
theorem F_book_sizes_ex : ∃ x : DFn, x = mkD 1 2 S_book_sizes := ⟨_, rfl⟩
noncomputable def F_book_sizes : DFn := F_book_sizes_ex.choose
theorem F_book_sizes_eq : F_book_sizes = mkD 1 2 S_book_sizes := F_book_sizes_ex.choose_spec
def S_law_power : DSt := (sSeq (sAsg (eC (.int 1)) (gD 2))
    (sSeq (sFor (eRng1 (eCons (eVarB 1) eNil)) (gD 3)
    (sAsg (eOp dMul (eVarB 2) (eVarB 0)) (gD 2)))
    (sRet (eVar 2))))
theorem F_law_power_ex : ∃ x : DFn, x = mkD0 2 4 S_law_power := ⟨_, rfl⟩
noncomputable def F_law_power : DFn := F_law_power_ex.choose
theorem F_law_power_eq : F_law_power = mkD0 2 4 S_law_power := F_law_power_ex.choose_spec
theorem S_law_walked_b4_ex : ∃ x : DSt, x = (sAsg (eOp dAdd (eVarB 2) (eLst (eCons (eCB dLen (eCons (eCall0 F_sum_members [] (eConsS (eCall0 F_SumBook___init [] (eConsS (eVar 1) (eConsS (eOp dAdd (eVarB 1) (eC (.int 1))) (eConsS (eVar 3) eNil)))) eNil)) eNil)) eNil))) (gD 2)) := ⟨_, rfl⟩
noncomputable def S_law_walked_b4 : DSt := S_law_walked_b4_ex.choose
theorem S_law_walked_b4_eq : S_law_walked_b4 = (sAsg (eOp dAdd (eVarB 2) (eLst (eCons (eCB dLen (eCons (eCall0 F_sum_members [] (eConsS (eCall0 F_SumBook___init [] (eConsS (eVar 1) (eConsS (eOp dAdd (eVarB 1) (eC (.int 1))) (eConsS (eVar 3) eNil)))) eNil)) eNil)) eNil))) (gD 2)) := S_law_walked_b4_ex.choose_spec
theorem S_law_walked_r13_ex : ∃ x : DSt, x = (sIf (eNotT (eTru (eCall0 F_law_compared [] (eConsS (eVar 1) (eConsS (eVar 4) (eConsS (eVar 5) (eConsS (eOp dIx (eVarB 2) (eVarB 4)) (eConsS (eOp dIx (eVarB 2) (eVarB 5)) eNil))))))))
    (sRet (eC (.bl false)))
    sNext) := ⟨_, rfl⟩
noncomputable def S_law_walked_r13 : DSt := S_law_walked_r13_ex.choose
theorem S_law_walked_r13_eq : S_law_walked_r13 = (sIf (eNotT (eTru (eCall0 F_law_compared [] (eConsS (eVar 1) (eConsS (eVar 4) (eConsS (eVar 5) (eConsS (eOp dIx (eVarB 2) (eVarB 4)) (eConsS (eOp dIx (eVarB 2) (eVarB 5)) eNil))))))))
    (sRet (eC (.bl false)))
    sNext) := S_law_walked_r13_ex.choose_spec
theorem S_law_walked_b12_ex : ∃ x : DSt, x = (sSeq (sAsg (eCall0 F_law_take [] (eConsH 0 (eConsS (eOp dAdd (eVarB 1) (eC (.int 1))) eNil))) (gD 5))
    S_law_walked_r13) := ⟨_, rfl⟩
noncomputable def S_law_walked_b12 : DSt := S_law_walked_b12_ex.choose
theorem S_law_walked_b12_eq : S_law_walked_b12 = (sSeq (sAsg (eCall0 F_law_take [] (eConsH 0 (eConsS (eOp dAdd (eVarB 1) (eC (.int 1))) eNil))) (gD 5))
    S_law_walked_r13) := S_law_walked_b12_ex.choose_spec
theorem S_law_walked_r15_ex : ∃ x : DSt, x = (sRet (eC (.bl true))) := ⟨_, rfl⟩
noncomputable def S_law_walked_r15 : DSt := S_law_walked_r15_ex.choose
theorem S_law_walked_r15_eq : S_law_walked_r15 = (sRet (eC (.bl true))) := S_law_walked_r15_ex.choose_spec
theorem S_law_walked_r11_ex : ∃ x : DSt, x = (sSeq (sFor (eRng1 (eCons (eOp dAdd (eVarB 1) (eC (.int 1))) eNil)) (gD 4)
    S_law_walked_b12)
    S_law_walked_r15) := ⟨_, rfl⟩
noncomputable def S_law_walked_r11 : DSt := S_law_walked_r11_ex.choose
theorem S_law_walked_r11_eq : S_law_walked_r11 = (sSeq (sFor (eRng1 (eCons (eOp dAdd (eVarB 1) (eC (.int 1))) eNil)) (gD 4)
    S_law_walked_b12)
    S_law_walked_r15) := S_law_walked_r11_ex.choose_spec
theorem S_law_walked_r9_ex : ∃ x : DSt, x = (sSeq (sIf (eOrT (eTest (eOp dNe (eCB dMaxL (eCons (eVarB 2) eNil)) (eOp dIx (eVarB 2) (eC (.int 0))))) (eTest (eOp dNe (eCB dMinL (eCons (eVarB 2) eNil)) (eOp dIx (eVarB 2) (eCB dMin2 (eCons (eC (.int 1)) (eCons (eVarB 1) eNil)))))))
    (sRet (eC (.bl false)))
    sNext)
    S_law_walked_r11) := ⟨_, rfl⟩
noncomputable def S_law_walked_r9 : DSt := S_law_walked_r9_ex.choose
theorem S_law_walked_r9_eq : S_law_walked_r9 = (sSeq (sIf (eOrT (eTest (eOp dNe (eCB dMaxL (eCons (eVarB 2) eNil)) (eOp dIx (eVarB 2) (eC (.int 0))))) (eTest (eOp dNe (eCB dMinL (eCons (eVarB 2) eNil)) (eOp dIx (eVarB 2) (eCB dMin2 (eCons (eC (.int 1)) (eCons (eVarB 1) eNil)))))))
    (sRet (eC (.bl false)))
    sNext)
    S_law_walked_r11) := S_law_walked_r9_ex.choose_spec
theorem S_law_walked_r7_ex : ∃ x : DSt, x = (sSeq (sIf (eNotT (eTru (eCall0 F_law_is_word [] (eConsS (eCall0 F_extremes_of [] (eConsS (eVar 1) eNil)) (eConsS (eLst (eCons (eOp dIx (eVarB 2) (eC (.int 0))) (eCons (eOp dIx (eVarB 2) (eCB dMin2 (eCons (eC (.int 1)) (eCons (eVarB 1) eNil)))) eNil))) eNil)))))
    (sRet (eC (.bl false)))
    sNext)
    S_law_walked_r9) := ⟨_, rfl⟩
noncomputable def S_law_walked_r7 : DSt := S_law_walked_r7_ex.choose
theorem S_law_walked_r7_eq : S_law_walked_r7 = (sSeq (sIf (eNotT (eTru (eCall0 F_law_is_word [] (eConsS (eCall0 F_extremes_of [] (eConsS (eVar 1) eNil)) (eConsS (eLst (eCons (eOp dIx (eVarB 2) (eC (.int 0))) (eCons (eOp dIx (eVarB 2) (eCB dMin2 (eCons (eC (.int 1)) (eCons (eVarB 1) eNil)))) eNil))) eNil)))))
    (sRet (eC (.bl false)))
    sNext)
    S_law_walked_r9) := S_law_walked_r7_ex.choose_spec
theorem S_law_walked_r5_ex : ∃ x : DSt, x = (sSeq (sIf (eOrT (eTest (eOp dNe (eVarB 2) (eCall0 F_law_counts [] (eConsS (eVar 1) (eConsS (eOp dAdd (eVarB 1) (eC (.int 1))) eNil))))) (eOrT (eTest (eOp dNe (eCB dSum (eCons (eVarB 2) eNil)) (eCall0 F_law_power [] (eConsS (eC (.int 2)) (eConsS (eVar 1) eNil))))) (eNotT (eTru (eCall0 F_law_is_word [] (eConsS (eCall0 F_book_sizes [] (eConsS (eVar 1) eNil)) (eConsS (eVar 2) eNil)))))))
    (sRet (eC (.bl false)))
    sNext)
    S_law_walked_r7) := ⟨_, rfl⟩
noncomputable def S_law_walked_r5 : DSt := S_law_walked_r5_ex.choose
theorem S_law_walked_r5_eq : S_law_walked_r5 = (sSeq (sIf (eOrT (eTest (eOp dNe (eVarB 2) (eCall0 F_law_counts [] (eConsS (eVar 1) (eConsS (eOp dAdd (eVarB 1) (eC (.int 1))) eNil))))) (eOrT (eTest (eOp dNe (eCB dSum (eCons (eVarB 2) eNil)) (eCall0 F_law_power [] (eConsS (eC (.int 2)) (eConsS (eVar 1) eNil))))) (eNotT (eTru (eCall0 F_law_is_word [] (eConsS (eCall0 F_book_sizes [] (eConsS (eVar 1) eNil)) (eConsS (eVar 2) eNil)))))))
    (sRet (eC (.bl false)))
    sNext)
    S_law_walked_r7) := S_law_walked_r5_ex.choose_spec
theorem S_law_walked_r3_ex : ∃ x : DSt, x = (sSeq (sFor (eRng1 (eCons (eOp dAdd (eVarB 1) (eC (.int 1))) eNil)) (gD 3)
    S_law_walked_b4)
    S_law_walked_r5) := ⟨_, rfl⟩
noncomputable def S_law_walked_r3 : DSt := S_law_walked_r3_ex.choose
theorem S_law_walked_r3_eq : S_law_walked_r3 = (sSeq (sFor (eRng1 (eCons (eOp dAdd (eVarB 1) (eC (.int 1))) eNil)) (gD 3)
    S_law_walked_b4)
    S_law_walked_r5) := S_law_walked_r3_ex.choose_spec
theorem S_law_walked_r2_ex : ∃ x : DSt, x = (sSeq (sAsg (eLst eNil) (gD 2))
    S_law_walked_r3) := ⟨_, rfl⟩
noncomputable def S_law_walked_r2 : DSt := S_law_walked_r2_ex.choose
theorem S_law_walked_r2_eq : S_law_walked_r2 = (sSeq (sAsg (eLst eNil) (gD 2))
    S_law_walked_r3) := S_law_walked_r2_ex.choose_spec
def S_law_walked : DSt := (sSeq (sAsg (eIf (eTest (eOp dGt (eCall0 F_law_take [] (eConsH 0 (eConsS (eC (.int 16)) eNil))) (eC (.int 0)))) (eCall0 F_law_take [] (eConsH 0 (eConsS (eC (.int 8)) eNil))) (eOp dAdd (eC (.int 8)) (eCall0 F_law_take [] (eConsH 0 (eConsS (eC (.int 3)) eNil))))) (gD 1))
    S_law_walked_r2)
theorem F_law_walked_ex : ∃ x : DFn, x = mkD0 1 6 S_law_walked := ⟨_, rfl⟩
noncomputable def F_law_walked : DFn := F_law_walked_ex.choose
theorem F_law_walked_eq : F_law_walked = mkD0 1 6 S_law_walked := F_law_walked_ex.choose_spec
def S_law : DSt := (sRet (eAndV (eCall0 F_law_walked [] (eConsH 1 eNil)) (eCall0 F_law_long [] (eConsH 1 eNil))))
abbrev Goal : Prop := LawGoal 0 S_law
end Mine

namespace Mine
open PySem PySem.Spec PyProof.Rows L2
local macro_rules | `(tactic| walk_at "wp") => `(tactic| try simp -implicitDefEqProofs only [eFld_W, eFldS_W, sSetF_W, eMeth_W, eMeth0_W, eProp_W, mkI_W, mkI0_W, eVarD_W, eDic_W, eGet1_W, eGet2_W, eAtD_W, eInD_W, eNotInD_W, sOwnD_W, sPutD_W, Bool.false_eq_true, LINE_W, line0, line1, line2, line3, line4, line5, line6, line7, line8, line9, line10, line11, line12, take_W, Int.reduceLT, Int.reduceLE, Int.reduceNeg, mkD_W, mkD0_W, sSeq_W, sAsg_W, sRet_W, sRetN_W, sIf_W, sNext_W, sDrop_W, sBreak_W, sCont_W, sOwn_W, sPar_W, sPar3_W, sFrz_W, frz_W, fz_lst, fz_dk, fz_dt, sApp_W, sExt_W, sPop_W, sPopTo_W, sPut_W, sAugP_W, sAug_W, sFor_W, sRaise_W, sRaise1_W, gD_W, gD2_W, gD3_W, eVar_W, eVarB_W, eC_W, eOp_W, eUn_W, eCB_W, eNil_W, eCons_W, eConsS_W, eConsH_W, eTup_W, eLst_W, eCall_W, eCall0_W, eTest_W, eNotT_W, eAndT_W, eOrT_W, eTru_W, dTru_non, dTru_bl, dTru_int, dTru_lst, dTru_tup, dTru_str, dTru_dk, eBool_W, eAndV_W, eOrV_W, eNotV_W, eNotVT_W, eIf_W, eChain_W, eLc_W, eLc2_W, eYes_W, eSeq_W, eRng1_W, eRng2_W, eEnum_W, eZip_W, eSl_W, ePart_W, eNoPart_W, eRev_W, eRevL_W, eDk0_W, dAdd_int, dAdd_lst, dAdd_tup, dAdd_str, dAddL_lst, dSub_int, dMul_int, dMul_lst, dMulL_lst, dMul_tup, dFdiv_int, dMod_int, dPow_int, dShl_int, dShr_int, dLe_int, dLt_int, dGt_int, dGe_int, dNeg_int, isa_seq2, isLs_lst, isLs_tup, Bool.or_false, Bool.or_true, Bool.true_or, Bool.false_or, Bool.and_true, Bool.true_and, Bool.and_false, Bool.false_and, isSeq_lst, isSeq_tup, isTp_tup, isTp_lst, isTp_non, isTp_int, isTp_str, isW_int, dIsN_W, dNotN_W, isN_non, isN_int, isN_bl, isN_str, isN_tup, isN_lst, isN_dk, isN_dt, isN_ins, dIx_W, dSl_W, dSlL_W, dLen_W, dInt_W, dStr_W, dAbs_W, dMax2_W, dMin2_W, dTupOf_W, dLstOf_W, dIsi_W, dIsi2_W, kn_int, kn_bl, kn_non, kn_str, kn_tup, kn_lst, kn_dk, kn_dt, isa_int_int, isa_int_bool, isa_tup_tup, isa_bl_bool, isa_seq_tup, isa_seq_lst, isa_int, isa_bool, isa_seq, isa_tup, isa_str, isa_lst, dEq_int, dNe_int, Dt.flat, wipeS, List.getElem?_cons_zero, List.getElem?_cons_succ, List.set_cons_zero, List.set_cons_succ, List.replicate, List.append_nil, List.cons_append, List.nil_append, List.length_cons, List.length_nil, Nat.reduceAdd, Nat.reduceSub, Nat.zero_add, Option.isSome_some, Bool.true_eq_false, Bool.false_eq_true, if_true, if_false, ite_true, ite_false, eq_self, not_true_eq_false, not_false_eq_true, true_and, and_true, decide_eq_true_eq, Bool.not_true, Bool.not_false, Bool.not_eq_true', decide_eq_false_iff_not, decide_true, decide_false, List.length_map, List.map_cons, List.map_nil, Option.some.injEq, reduceCtorEq, Bool.not_eq_eq_eq_not, eEnumK_W, eDk1_W, eXf_W, eIsX_W, sTry_W, sKeep_W, eZipS_W, eRgL_W, mkG_W, gPlain_W, gSeq_W, gNext_W, gIf_W, gYield_W, gFor_W])
theorem is_whole_ok {x : Dt} {lo hi : Int} {Q : Dt → Prop} {E : Xc → Prop} (hk : x.kind.isSome = true) (q : Q (.bl (inB lo hi x))) : F_is_whole [.d x, .d (.int lo), .d (.int hi)] Q E := by
  rw [F_is_whole_eq]; unfold S_is_whole
  cases x with
  | int i =>
    walk_at "wp"
    by_cases a : lo ≤ i <;> simpa [inB, a, isW] using q
  | raw v => cases hk
  | ins c ns vs => cases hk
  | _ => walk_at "wp"; simpa [isW, inB] using q
end Mine

namespace Mine
open PySem PySem.Spec PyProof.Rows L2
local macro_rules | `(tactic| walk_at "wp") => `(tactic| try simp -implicitDefEqProofs only [eFld_W, eFldS_W, sSetF_W, eMeth_W, eMeth0_W, eProp_W, mkI_W, mkI0_W, eVarD_W, eDic_W, eGet1_W, eGet2_W, eAtD_W, eInD_W, eNotInD_W, sOwnD_W, sPutD_W, Bool.false_eq_true, LINE_W, line0, line1, line2, line3, line4, line5, line6, line7, line8, line9, line10, line11, line12, take_W, Int.reduceLT, Int.reduceLE, Int.reduceNeg, mkD_W, mkD0_W, sSeq_W, sAsg_W, sRet_W, sRetN_W, sIf_W, sNext_W, sDrop_W, sBreak_W, sCont_W, sOwn_W, sPar_W, sPar3_W, sFrz_W, frz_W, fz_lst, fz_dk, fz_dt, sApp_W, sExt_W, sPop_W, sPopTo_W, sPut_W, sAugP_W, sAug_W, sFor_W, sRaise_W, sRaise1_W, gD_W, gD2_W, gD3_W, eVar_W, eVarB_W, eC_W, eOp_W, eUn_W, eCB_W, eNil_W, eCons_W, eConsS_W, eConsH_W, eTup_W, eLst_W, eCall_W, eCall0_W, eTest_W, eNotT_W, eAndT_W, eOrT_W, eTru_W, dTru_non, dTru_bl, dTru_int, dTru_lst, dTru_tup, dTru_str, dTru_dk, eBool_W, eAndV_W, eOrV_W, eNotV_W, eNotVT_W, eIf_W, eChain_W, eLc_W, eLc2_W, eYes_W, eSeq_W, eRng1_W, eRng2_W, eEnum_W, eZip_W, eSl_W, ePart_W, eNoPart_W, eRev_W, eRevL_W, eDk0_W, dAdd_int, dAdd_lst, dAdd_tup, dAdd_str, dAddL_lst, dSub_int, dMul_int, dMul_lst, dMulL_lst, dMul_tup, dFdiv_int, dMod_int, dPow_int, dShl_int, dShr_int, dLe_int, dLt_int, dGt_int, dGe_int, dNeg_int, isa_seq2, isLs_lst, isLs_tup, Bool.or_false, Bool.or_true, Bool.true_or, Bool.false_or, Bool.and_true, Bool.true_and, Bool.and_false, Bool.false_and, isSeq_lst, isSeq_tup, isTp_tup, isTp_lst, isTp_non, isTp_int, isTp_str, isW_int, dIsN_W, dNotN_W, isN_non, isN_int, isN_bl, isN_str, isN_tup, isN_lst, isN_dk, isN_dt, isN_ins, dIx_W, dSl_W, dSlL_W, dLen_W, dInt_W, dStr_W, dAbs_W, dMax2_W, dMin2_W, dTupOf_W, dLstOf_W, dIsi_W, dIsi2_W, kn_int, kn_bl, kn_non, kn_str, kn_tup, kn_lst, kn_dk, kn_dt, isa_int_int, isa_int_bool, isa_tup_tup, isa_bl_bool, isa_seq_tup, isa_seq_lst, isa_int, isa_bool, isa_seq, isa_tup, isa_str, isa_lst, dEq_int, dNe_int, Dt.flat, wipeS, List.getElem?_cons_zero, List.getElem?_cons_succ, List.set_cons_zero, List.set_cons_succ, List.replicate, List.append_nil, List.cons_append, List.nil_append, List.length_cons, List.length_nil, Nat.reduceAdd, Nat.reduceSub, Nat.zero_add, Option.isSome_some, Bool.true_eq_false, Bool.false_eq_true, if_true, if_false, ite_true, ite_false, eq_self, not_true_eq_false, not_false_eq_true, true_and, and_true, decide_eq_true_eq, Bool.not_true, Bool.not_false, Bool.not_eq_true', decide_eq_false_iff_not, decide_true, decide_false, List.length_map, List.map_cons, List.map_nil, Option.some.injEq, reduceCtorEq, Bool.not_eq_eq_eq_not, eEnumK_W, eDk1_W, eXf_W, eIsX_W, sTry_W, sKeep_W, eZipS_W, eRgL_W, mkG_W, gPlain_W, gSeq_W, gNext_W, gIf_W, gYield_W, gFor_W])

end Mine

namespace Mine
open PySem PySem.Spec PyProof.Rows L2
local macro_rules | `(tactic| walk_at "wp") => `(tactic| try simp -implicitDefEqProofs only [eFld_W, eFldS_W, sSetF_W, eMeth_W, eMeth0_W, eProp_W, mkI_W, mkI0_W, eVarD_W, eDic_W, eGet1_W, eGet2_W, eAtD_W, eInD_W, eNotInD_W, sOwnD_W, sPutD_W, Bool.false_eq_true, LINE_W, line0, line1, line2, line3, line4, line5, line6, line7, line8, line9, line10, line11, line12, take_W, Int.reduceLT, Int.reduceLE, Int.reduceNeg, mkD_W, mkD0_W, sSeq_W, sAsg_W, sRet_W, sRetN_W, sIf_W, sNext_W, sDrop_W, sBreak_W, sCont_W, sOwn_W, sPar_W, sPar3_W, sFrz_W, frz_W, fz_lst, fz_dk, fz_dt, sApp_W, sExt_W, sPop_W, sPopTo_W, sPut_W, sAugP_W, sAug_W, sFor_W, sRaise_W, sRaise1_W, gD_W, gD2_W, gD3_W, eVar_W, eVarB_W, eC_W, eOp_W, eUn_W, eCB_W, eNil_W, eCons_W, eConsS_W, eConsH_W, eTup_W, eLst_W, eCall_W, eCall0_W, eTest_W, eNotT_W, eAndT_W, eOrT_W, eTru_W, dTru_non, dTru_bl, dTru_int, dTru_lst, dTru_tup, dTru_str, dTru_dk, eBool_W, eAndV_W, eOrV_W, eNotV_W, eNotVT_W, eIf_W, eChain_W, eLc_W, eLc2_W, eYes_W, eSeq_W, eRng1_W, eRng2_W, eEnum_W, eZip_W, eSl_W, ePart_W, eNoPart_W, eRev_W, eRevL_W, eDk0_W, dAdd_int, dAdd_lst, dAdd_tup, dAdd_str, dAddL_lst, dSub_int, dMul_int, dMul_lst, dMulL_lst, dMul_tup, dFdiv_int, dMod_int, dPow_int, dShl_int, dShr_int, dLe_int, dLt_int, dGt_int, dGe_int, dNeg_int, isa_seq2, isLs_lst, isLs_tup, Bool.or_false, Bool.or_true, Bool.true_or, Bool.false_or, Bool.and_true, Bool.true_and, Bool.and_false, Bool.false_and, isSeq_lst, isSeq_tup, isTp_tup, isTp_lst, isTp_non, isTp_int, isTp_str, isW_int, dIsN_W, dNotN_W, isN_non, isN_int, isN_bl, isN_str, isN_tup, isN_lst, isN_dk, isN_dt, isN_ins, dIx_W, dSl_W, dSlL_W, dLen_W, dInt_W, dStr_W, dAbs_W, dMax2_W, dMin2_W, dTupOf_W, dLstOf_W, dIsi_W, dIsi2_W, kn_int, kn_bl, kn_non, kn_str, kn_tup, kn_lst, kn_dk, kn_dt, isa_int_int, isa_int_bool, isa_tup_tup, isa_bl_bool, isa_seq_tup, isa_seq_lst, isa_int, isa_bool, isa_seq, isa_tup, isa_str, isa_lst, dEq_int, dNe_int, Dt.flat, wipeS, List.getElem?_cons_zero, List.getElem?_cons_succ, List.set_cons_zero, List.set_cons_succ, List.replicate, List.append_nil, List.cons_append, List.nil_append, List.length_cons, List.length_nil, Nat.reduceAdd, Nat.reduceSub, Nat.zero_add, Option.isSome_some, Bool.true_eq_false, Bool.false_eq_true, if_true, if_false, ite_true, ite_false, eq_self, not_true_eq_false, not_false_eq_true, true_and, and_true, decide_eq_true_eq, Bool.not_true, Bool.not_false, Bool.not_eq_true', decide_eq_false_iff_not, decide_true, decide_false, List.length_map, List.map_cons, List.map_nil, Option.some.injEq, reduceCtorEq, Bool.not_eq_eq_eq_not, eEnumK_W, eDk1_W, eXf_W, eIsX_W, sTry_W, sKeep_W, eZipS_W, eRgL_W, mkG_W, gPlain_W, gSeq_W, gNext_W, gIf_W, gYield_W, gFor_W])
/-- a word of letters below q -/
def Wd (q n : Nat) (w : List Int) : Prop := w.length = n ∧ ∀ x ∈ w, 0 ≤ x ∧ x < q
theorem ints_of_dts {P : Int → Prop} : ∀ {ys : List Dt}, (∀ y ∈ ys, ∃ i : Int, y = .int i ∧ P i) → ∃ w : List Int, ys = w.map .int ∧ ∀ x ∈ w, P x
  | [], _ => ⟨[], rfl, by simp⟩
  | y :: ys, h => by
    obtain ⟨i, e, p⟩ := h y List.mem_cons_self
    obtain ⟨w, e2, p2⟩ := ints_of_dts fun z hz => h z (List.mem_cons_of_mem _ hz)
    exact ⟨i :: w, by rw [e, e2]; rfl, fun x hx => by
      rcases List.mem_cons.mp hx with r | r
      · rw [r]; exact p
      · exact p2 x r⟩
theorem dts_inj2 : ∀ {x y : List Int}, x.map Dt.int = y.map Dt.int → x = y
  | [], [], _ => rfl
  | [], _ :: _, h => by cases h
  | _ :: _, [], h => by cases h
  | a :: x, b :: y, h => by
    rw [List.map_cons, List.map_cons] at h
    injection h with h1 h2
    injection h1 with h1
    rw [h1, dts_inj2 h2]
end Mine

namespace Mine
open PySem PySem.Spec PyProof.Rows L2
local macro_rules | `(tactic| walk_at "wp") => `(tactic| try simp -implicitDefEqProofs only [eFld_W, eFldS_W, sSetF_W, eMeth_W, eMeth0_W, eProp_W, mkI_W, mkI0_W, eVarD_W, eDic_W, eGet1_W, eGet2_W, eAtD_W, eInD_W, eNotInD_W, sOwnD_W, sPutD_W, Bool.false_eq_true, LINE_W, line0, line1, line2, line3, line4, line5, line6, line7, line8, line9, line10, line11, line12, take_W, Int.reduceLT, Int.reduceLE, Int.reduceNeg, mkD_W, mkD0_W, sSeq_W, sAsg_W, sRet_W, sRetN_W, sIf_W, sNext_W, sDrop_W, sBreak_W, sCont_W, sOwn_W, sPar_W, sPar3_W, sFrz_W, frz_W, fz_lst, fz_dk, fz_dt, sApp_W, sExt_W, sPop_W, sPopTo_W, sPut_W, sAugP_W, sAug_W, sFor_W, sRaise_W, sRaise1_W, gD_W, gD2_W, gD3_W, eVar_W, eVarB_W, eC_W, eOp_W, eUn_W, eCB_W, eNil_W, eCons_W, eConsS_W, eConsH_W, eTup_W, eLst_W, eCall_W, eCall0_W, eTest_W, eNotT_W, eAndT_W, eOrT_W, eTru_W, dTru_non, dTru_bl, dTru_int, dTru_lst, dTru_tup, dTru_str, dTru_dk, eBool_W, eAndV_W, eOrV_W, eNotV_W, eNotVT_W, eIf_W, eChain_W, eLc_W, eLc2_W, eYes_W, eSeq_W, eRng1_W, eRng2_W, eEnum_W, eZip_W, eSl_W, ePart_W, eNoPart_W, eRev_W, eRevL_W, eDk0_W, dAdd_int, dAdd_lst, dAdd_tup, dAdd_str, dAddL_lst, dSub_int, dMul_int, dMul_lst, dMulL_lst, dMul_tup, dFdiv_int, dMod_int, dPow_int, dShl_int, dShr_int, dLe_int, dLt_int, dGt_int, dGe_int, dNeg_int, isa_seq2, isLs_lst, isLs_tup, Bool.or_false, Bool.or_true, Bool.true_or, Bool.false_or, Bool.and_true, Bool.true_and, Bool.and_false, Bool.false_and, isSeq_lst, isSeq_tup, isTp_tup, isTp_lst, isTp_non, isTp_int, isTp_str, isW_int, dIsN_W, dNotN_W, isN_non, isN_int, isN_bl, isN_str, isN_tup, isN_lst, isN_dk, isN_dt, isN_ins, dIx_W, dSl_W, dSlL_W, dLen_W, dInt_W, dStr_W, dAbs_W, dMax2_W, dMin2_W, dTupOf_W, dLstOf_W, dIsi_W, dIsi2_W, kn_int, kn_bl, kn_non, kn_str, kn_tup, kn_lst, kn_dk, kn_dt, isa_int_int, isa_int_bool, isa_tup_tup, isa_bl_bool, isa_seq_tup, isa_seq_lst, isa_int, isa_bool, isa_seq, isa_tup, isa_str, isa_lst, dEq_int, dNe_int, Dt.flat, wipeS, List.getElem?_cons_zero, List.getElem?_cons_succ, List.set_cons_zero, List.set_cons_succ, List.replicate, List.append_nil, List.cons_append, List.nil_append, List.length_cons, List.length_nil, Nat.reduceAdd, Nat.reduceSub, Nat.zero_add, Option.isSome_some, Bool.true_eq_false, Bool.false_eq_true, if_true, if_false, ite_true, ite_false, eq_self, not_true_eq_false, not_false_eq_true, true_and, and_true, decide_eq_true_eq, Bool.not_true, Bool.not_false, Bool.not_eq_true', decide_eq_false_iff_not, decide_true, decide_false, List.length_map, List.map_cons, List.map_nil, Option.some.injEq, reduceCtorEq, Bool.not_eq_eq_eq_not, eEnumK_W, eDk1_W, eXf_W, eIsX_W, sTry_W, sKeep_W, eZipS_W, eRgL_W, mkG_W, gPlain_W, gSeq_W, gNext_W, gIf_W, gYield_W, gFor_W])
theorem badWord_lst {xs : List Dt} {q : Int} {m : Nat} : badWord q m (.lst xs) = if m < xs.length then some (-1) else (badAt (inB 0 (q - 1)) xs).map fun i : Nat => (i : Int) := rfl
theorem badWord_tup {xs : List Dt} {q : Int} {m : Nat} : badWord q m (.tup xs) = if m < xs.length then some (-1) else (badAt (inB 0 (q - 1)) xs).map fun i : Nat => (i : Int) := rfl
end Mine

namespace Mine
open PySem PySem.Spec PyProof.Rows L2
local macro_rules | `(tactic| walk_at "wp") => `(tactic| try simp -implicitDefEqProofs only [eFld_W, eFldS_W, sSetF_W, eMeth_W, eMeth0_W, eProp_W, mkI_W, mkI0_W, eVarD_W, eDic_W, eGet1_W, eGet2_W, eAtD_W, eInD_W, eNotInD_W, sOwnD_W, sPutD_W, Bool.false_eq_true, LINE_W, line0, line1, line2, line3, line4, line5, line6, line7, line8, line9, line10, line11, line12, take_W, Int.reduceLT, Int.reduceLE, Int.reduceNeg, mkD_W, mkD0_W, sSeq_W, sAsg_W, sRet_W, sRetN_W, sIf_W, sNext_W, sDrop_W, sBreak_W, sCont_W, sOwn_W, sPar_W, sPar3_W, sFrz_W, frz_W, fz_lst, fz_dk, fz_dt, sApp_W, sExt_W, sPop_W, sPopTo_W, sPut_W, sAugP_W, sAug_W, sFor_W, sRaise_W, sRaise1_W, gD_W, gD2_W, gD3_W, eVar_W, eVarB_W, eC_W, eOp_W, eUn_W, eCB_W, eNil_W, eCons_W, eConsS_W, eConsH_W, eTup_W, eLst_W, eCall_W, eCall0_W, eTest_W, eNotT_W, eAndT_W, eOrT_W, eTru_W, dTru_non, dTru_bl, dTru_int, dTru_lst, dTru_tup, dTru_str, dTru_dk, eBool_W, eAndV_W, eOrV_W, eNotV_W, eNotVT_W, eIf_W, eChain_W, eLc_W, eLc2_W, eYes_W, eSeq_W, eRng1_W, eRng2_W, eEnum_W, eZip_W, eSl_W, ePart_W, eNoPart_W, eRev_W, eRevL_W, eDk0_W, dAdd_int, dAdd_lst, dAdd_tup, dAdd_str, dAddL_lst, dSub_int, dMul_int, dMul_lst, dMulL_lst, dMul_tup, dFdiv_int, dMod_int, dPow_int, dShl_int, dShr_int, dLe_int, dLt_int, dGt_int, dGe_int, dNeg_int, isa_seq2, isLs_lst, isLs_tup, Bool.or_false, Bool.or_true, Bool.true_or, Bool.false_or, Bool.and_true, Bool.true_and, Bool.and_false, Bool.false_and, isSeq_lst, isSeq_tup, isTp_tup, isTp_lst, isTp_non, isTp_int, isTp_str, isW_int, dIsN_W, dNotN_W, isN_non, isN_int, isN_bl, isN_str, isN_tup, isN_lst, isN_dk, isN_dt, isN_ins, dIx_W, dSl_W, dSlL_W, dLen_W, dInt_W, dStr_W, dAbs_W, dMax2_W, dMin2_W, dTupOf_W, dLstOf_W, dIsi_W, dIsi2_W, kn_int, kn_bl, kn_non, kn_str, kn_tup, kn_lst, kn_dk, kn_dt, isa_int_int, isa_int_bool, isa_tup_tup, isa_bl_bool, isa_seq_tup, isa_seq_lst, isa_int, isa_bool, isa_seq, isa_tup, isa_str, isa_lst, dEq_int, dNe_int, Dt.flat, wipeS, List.getElem?_cons_zero, List.getElem?_cons_succ, List.set_cons_zero, List.set_cons_succ, List.replicate, List.append_nil, List.cons_append, List.nil_append, List.length_cons, List.length_nil, Nat.reduceAdd, Nat.reduceSub, Nat.zero_add, Option.isSome_some, Bool.true_eq_false, Bool.false_eq_true, if_true, if_false, ite_true, ite_false, eq_self, not_true_eq_false, not_false_eq_true, true_and, and_true, decide_eq_true_eq, Bool.not_true, Bool.not_false, Bool.not_eq_true', decide_eq_false_iff_not, decide_true, decide_false, List.length_map, List.map_cons, List.map_nil, Option.some.injEq, reduceCtorEq, Bool.not_eq_eq_eq_not, eEnumK_W, eDk1_W, eXf_W, eIsX_W, sTry_W, sKeep_W, eZipS_W, eRgL_W, mkG_W, gPlain_W, gSeq_W, gNext_W, gIf_W, gYield_W, gFor_W])
/-- all words of n letters below q, in their order -/
def longer (q : Nat) (u : List Int) : List (List Int) := (List.range q).map fun k : Nat => u ++ [(k : Int)]
def allW (q : Nat) : Nat → List (List Int)
  | 0 => [[]]
  | n + 1 => (allW q n).flatMap (longer q)
theorem flat_len (q : Nat) : ∀ ws : List (List Int), (ws.flatMap (longer q)).length = ws.length * q
  | [] => by simp
  | w :: ws => by
    rw [List.flatMap_cons, List.length_append, flat_len q ws, List.length_cons, Nat.add_mul]
    unfold longer
    rw [List.length_map, List.length_range]; omega
theorem allW_len (q : Nat) : ∀ n, (allW q n).length = q ^ n
  | 0 => rfl
  | n + 1 => by
    show ((allW q n).flatMap (longer q)).length = _
    rw [flat_len, allW_len q n, Nat.pow_succ]
theorem mem_allW {q : Nat} : ∀ {n : Nat} {u : List Int}, u ∈ allW q n ↔ u.length = n ∧ ∀ x ∈ u, 0 ≤ x ∧ x < q
  | 0, u => by
    show u ∈ [[]] ↔ _
    rw [List.mem_singleton]
    constructor
    · rintro rfl; exact ⟨rfl, by simp⟩
    · rintro ⟨h, _⟩; exact List.length_eq_zero_iff.mp h
  | n + 1, u => by
    show u ∈ (allW q n).flatMap (longer q) ↔ _
    rw [List.mem_flatMap]
    constructor
    · rintro ⟨w, hw, hu⟩
      obtain ⟨k, hk, rfl⟩ := List.mem_map.mp hu
      obtain ⟨h1, h2⟩ := mem_allW.mp hw
      refine ⟨by rw [List.length_append, h1]; rfl, fun x hx => ?_⟩
      rcases List.mem_append.mp hx with hx | hx
      · exact h2 x hx
      · rw [List.mem_singleton.mp hx]
        have := List.mem_range.mp hk
        omega
    · rintro ⟨h1, h2⟩
      have ne : u ≠ [] := fun e => by rw [e] at h1; cases h1
      have hl := h2 _ (List.getLast_mem ne)
      refine ⟨u.dropLast, mem_allW.mpr ⟨by rw [List.length_dropLast]; omega, fun x hx => h2 x (List.dropLast_subset u hx)⟩, List.mem_map.mpr ⟨(u.getLast ne).toNat, List.mem_range.mpr (by omega), ?_⟩⟩
      rw [Int.toNat_of_nonneg hl.1]
      exact List.dropLast_concat_getLast ne
end Mine

namespace Mine
open PySem PySem.Spec PyProof.Rows L2
local macro_rules | `(tactic| walk_at "wp") => `(tactic| try simp -implicitDefEqProofs only [eFld_W, eFldS_W, sSetF_W, eMeth_W, eMeth0_W, eProp_W, mkI_W, mkI0_W, eVarD_W, eDic_W, eGet1_W, eGet2_W, eAtD_W, eInD_W, eNotInD_W, sOwnD_W, sPutD_W, Bool.false_eq_true, LINE_W, line0, line1, line2, line3, line4, line5, line6, line7, line8, line9, line10, line11, line12, take_W, Int.reduceLT, Int.reduceLE, Int.reduceNeg, mkD_W, mkD0_W, sSeq_W, sAsg_W, sRet_W, sRetN_W, sIf_W, sNext_W, sDrop_W, sBreak_W, sCont_W, sOwn_W, sPar_W, sPar3_W, sFrz_W, frz_W, fz_lst, fz_dk, fz_dt, sApp_W, sExt_W, sPop_W, sPopTo_W, sPut_W, sAugP_W, sAug_W, sFor_W, sRaise_W, sRaise1_W, gD_W, gD2_W, gD3_W, eVar_W, eVarB_W, eC_W, eOp_W, eUn_W, eCB_W, eNil_W, eCons_W, eConsS_W, eConsH_W, eTup_W, eLst_W, eCall_W, eCall0_W, eTest_W, eNotT_W, eAndT_W, eOrT_W, eTru_W, dTru_non, dTru_bl, dTru_int, dTru_lst, dTru_tup, dTru_str, dTru_dk, eBool_W, eAndV_W, eOrV_W, eNotV_W, eNotVT_W, eIf_W, eChain_W, eLc_W, eLc2_W, eYes_W, eSeq_W, eRng1_W, eRng2_W, eEnum_W, eZip_W, eSl_W, ePart_W, eNoPart_W, eRev_W, eRevL_W, eDk0_W, dAdd_int, dAdd_lst, dAdd_tup, dAdd_str, dAddL_lst, dSub_int, dMul_int, dMul_lst, dMulL_lst, dMul_tup, dFdiv_int, dMod_int, dPow_int, dShl_int, dShr_int, dLe_int, dLt_int, dGt_int, dGe_int, dNeg_int, isa_seq2, isLs_lst, isLs_tup, Bool.or_false, Bool.or_true, Bool.true_or, Bool.false_or, Bool.and_true, Bool.true_and, Bool.and_false, Bool.false_and, isSeq_lst, isSeq_tup, isTp_tup, isTp_lst, isTp_non, isTp_int, isTp_str, isW_int, dIsN_W, dNotN_W, isN_non, isN_int, isN_bl, isN_str, isN_tup, isN_lst, isN_dk, isN_dt, isN_ins, dIx_W, dSl_W, dSlL_W, dLen_W, dInt_W, dStr_W, dAbs_W, dMax2_W, dMin2_W, dTupOf_W, dLstOf_W, dIsi_W, dIsi2_W, kn_int, kn_bl, kn_non, kn_str, kn_tup, kn_lst, kn_dk, kn_dt, isa_int_int, isa_int_bool, isa_tup_tup, isa_bl_bool, isa_seq_tup, isa_seq_lst, isa_int, isa_bool, isa_seq, isa_tup, isa_str, isa_lst, dEq_int, dNe_int, Dt.flat, wipeS, List.getElem?_cons_zero, List.getElem?_cons_succ, List.set_cons_zero, List.set_cons_succ, List.replicate, List.append_nil, List.cons_append, List.nil_append, List.length_cons, List.length_nil, Nat.reduceAdd, Nat.reduceSub, Nat.zero_add, Option.isSome_some, Bool.true_eq_false, Bool.false_eq_true, if_true, if_false, ite_true, ite_false, eq_self, not_true_eq_false, not_false_eq_true, true_and, and_true, decide_eq_true_eq, Bool.not_true, Bool.not_false, Bool.not_eq_true', decide_eq_false_iff_not, decide_true, decide_false, List.length_map, List.map_cons, List.map_nil, Option.some.injEq, reduceCtorEq, Bool.not_eq_eq_eq_not, eEnumK_W, eDk1_W, eXf_W, eIsX_W, sTry_W, sKeep_W, eZipS_W, eRgL_W, mkG_W, gPlain_W, gSeq_W, gNext_W, gIf_W, gYield_W, gFor_W])
/-! ### letters put in and taken out, place sums -/
def ins (a : Int) : Nat → List Int → List Int
  | 0, w => a :: w
  | _ + 1, [] => [a]
  | k + 1, c :: w => c :: ins a k w
theorem ins_eq (a : Int) : ∀ (k : Nat) (w : List Int), k ≤ w.length → ins a k w = w.take k ++ a :: w.drop k
  | 0, w, _ => rfl
  | k + 1, [], h => absurd h (by simp)
  | k + 1, c :: w, h => by
    show c :: ins a k w = _
    rw [ins_eq a k w (by simpa using h)]; rfl
theorem ins_len (a : Int) : ∀ (k : Nat) (w : List Int), (ins a k w).length = w.length + 1
  | 0, w => rfl
  | k + 1, [] => rfl
  | k + 1, c :: w => by
    show (ins a k w).length + 1 = _
    rw [ins_len a k w]; rfl
theorem ins_ne (a : Int) (k : Nat) (w : List Int) : ins a k w ≠ [] := fun h => by
  have := ins_len a k w
  rw [h] at this; simp at this
def del : Nat → List Int → List Int
  | _, [] => []
  | 0, _ :: w => w
  | k + 1, c :: w => c :: del k w
theorem del_eq : ∀ (k : Nat) (w : List Int), del k w = w.take k ++ w.drop (k + 1)
  | 0, [] => rfl
  | k + 1, [] => rfl
  | 0, c :: w => rfl
  | k + 1, c :: w => by
    show c :: del k w = _
    rw [del_eq k w]; rfl
theorem del_len : ∀ (k : Nat) (w : List Int), k < w.length → (del k w).length = w.length - 1
  | _, [], h => absurd h (by simp)
  | 0, c :: w, _ => rfl
  | k + 1, c :: w, h => by
    have hk : k < w.length := by simpa using h
    show (del k w).length + 1 = w.length + 1 - 1
    rw [del_len k w hk]; omega
theorem del_ins (a : Int) : ∀ (k : Nat) (w : List Int), k ≤ w.length → del k (ins a k w) = w
  | 0, w, _ => rfl
  | k + 1, [], h => absurd h (by simp)
  | k + 1, c :: w, h => by
    show c :: del k (ins a k w) = c :: w
    rw [del_ins a k w (by simpa using h)]
theorem ins_del : ∀ (k : Nat) (w : List Int), k < w.length → ∃ a, ins a k (del k w) = w
  | _, [], h => absurd h (by simp)
  | 0, c :: w, _ => ⟨c, rfl⟩
  | k + 1, c :: w, h => by
    obtain ⟨a, e⟩ := ins_del k w (by simpa using h)
    exact ⟨a, by show c :: ins a k (del k w) = c :: w; rw [e]⟩
def Bits (y : List Int) : Prop := ∀ x ∈ y, x = 0 ∨ x = 1
theorem Bits.tail {c : Int} {y : List Int} (h : Bits (c :: y)) : Bits y := fun x hx => h x (List.mem_cons_of_mem _ hx)
theorem Bits.head {c : Int} {y : List Int} (h : Bits (c :: y)) : c = 0 ∨ c = 1 := h c List.mem_cons_self
/-- the sum of the places (the first is o + 1) -/
def wsum : Nat → List Int → Int
  | _, [] => 0
  | o, x :: r => ((o : Int) + 1) * x + wsum (o + 1) r
theorem wsum_shift : ∀ (o : Nat) (y : List Int), wsum (o + 1) y = wsum o y + y.sum
  | _, [] => rfl
  | o, x :: r => by
    show (((o + 1 : Nat) : Int) + 1) * x + wsum (o + 1 + 1) r = ((o : Int) + 1) * x + wsum (o + 1) r + (x :: r).sum
    rw [wsum_shift (o + 1) r, List.sum_cons]
    have e : (((o + 1 : Nat) : Int) + 1) * x = ((o : Int) + 1) * x + x := by
      have : ((o + 1 : Nat) : Int) = (o : Int) + 1 := by omega
      rw [this, Int.add_mul ((o : Int) + 1) 1 x, Int.one_mul]
    omega
theorem wsum_ins (b : Int) : ∀ (i o : Nat) (y : List Int), i ≤ y.length → wsum o (ins b i y) = wsum o y + ((o : Int) + i + 1) * b + (y.drop i).sum
  | 0, o, y, _ => by
    show ((o : Int) + 1) * b + wsum (o + 1) y = _
    rw [wsum_shift]
    simp only [Int.natCast_zero, Int.add_zero, List.drop_zero]
    omega
  | i + 1, o, [], h => absurd h (by simp)
  | i + 1, o, c :: y, h => by
    show ((o : Int) + 1) * c + wsum (o + 1) (ins b i y) = ((o : Int) + 1) * c + wsum (o + 1) y + _ + _
    rw [wsum_ins b i (o + 1) y (by simpa using h)]
    have e : (((o + 1 : Nat) : Int) + (i : Int) + 1) * b = ((o : Int) + ((i + 1 : Nat) : Int) + 1) * b := by
      congr 1
      omega
    rw [e, List.drop_succ_cons]
    omega
theorem bits_sum {y : List Int} (h : Bits y) : 0 ≤ y.sum ∧ y.sum ≤ y.length := by
  induction y with
  | nil => simp
  | cons c y ih =>
    have := ih h.tail
    have := h.head
    rw [List.sum_cons, List.length_cons]
    omega
theorem bits_drop {y : List Int} (h : Bits y) : ∀ i : Nat, Bits (y.drop i) := fun i x hx => h x (List.mem_of_mem_drop hx)
theorem sum_drop {y : List Int} (h : Bits y) (i : Nat) (hi : i ≤ y.length) : (y.drop i).sum ≤ y.sum ∧ y.sum ≤ i + (y.drop i).sum := by
  induction y generalizing i with
  | nil => simp
  | cons c y ih =>
    cases i with
    | zero => simp
    | succ i =>
      have := ih h.tail i (by simpa using hi)
      have := h.head
      rw [List.drop_succ_cons, List.sum_cons]
      omega
theorem ins_zero : ∀ (y : List Int) (i j : Nat), Bits y → i ≤ y.length → j ≤ y.length → (y.drop i).sum = (y.drop j).sum → ins 0 i y = ins 0 j y
  | [], i, j, _, hi, hj, _ => by
    have : i = 0 := by simpa using hi
    have : j = 0 := by simpa using hj
    subst i j; rfl
  | c :: y, 0, 0, _, _, _, _ => rfl
  | c :: y, 0, j + 1, h, _, hj, e => by
    have hj' : j ≤ y.length := by simpa using hj
    have e2 : c + y.sum = (y.drop j).sum := by simpa using e
    have := sum_drop h.tail j hj'
    have := h.head
    have c0 : c = 0 := by omega
    subst c0
    show 0 :: 0 :: y = 0 :: ins 0 j y
    rw [← ins_zero y 0 j h.tail (Nat.zero_le _) hj' (by rw [List.drop_zero]; omega)]; rfl
  | c :: y, i + 1, 0, h, hi, _, e => by
    have hi' : i ≤ y.length := by simpa using hi
    have e2 : (y.drop i).sum = c + y.sum := by simpa using e
    have := sum_drop h.tail i hi'
    have := h.head
    have c0 : c = 0 := by omega
    subst c0
    show 0 :: ins 0 i y = 0 :: 0 :: y
    rw [← ins_zero y 0 i h.tail (Nat.zero_le _) hi' (by rw [List.drop_zero]; omega)]; rfl
  | c :: y, i + 1, j + 1, h, hi, hj, e => by
    show c :: ins 0 i y = c :: ins 0 j y
    rw [ins_zero y i j h.tail (by simpa using hi) (by simpa using hj) (by simpa using e)]
theorem ins_one : ∀ (y : List Int) (i j : Nat), Bits y → i ≤ y.length → j ≤ y.length → (i : Int) + (y.drop i).sum = (j : Int) + (y.drop j).sum → ins 1 i y = ins 1 j y
  | [], i, j, _, hi, hj, _ => by
    have : i = 0 := by simpa using hi
    have : j = 0 := by simpa using hj
    subst i j; rfl
  | c :: y, 0, 0, _, _, _, _ => rfl
  | c :: y, 0, j + 1, h, _, hj, e => by
    have hj' : j ≤ y.length := by simpa using hj
    have e2 : 0 + (c + y.sum) = ((j + 1 : Nat) : Int) + (y.drop j).sum := by simpa using e
    have := sum_drop h.tail j hj'
    have := h.head
    have c0 : c = 1 := by omega
    subst c0
    show 1 :: 1 :: y = 1 :: ins 1 j y
    rw [← ins_one y 0 j h.tail (Nat.zero_le _) hj' (by rw [List.drop_zero]; omega)]; rfl
  | c :: y, i + 1, 0, h, hi, _, e => by
    have hi' : i ≤ y.length := by simpa using hi
    have e2 : ((i + 1 : Nat) : Int) + (y.drop i).sum = 0 + (c + y.sum) := by simpa using e
    have := sum_drop h.tail i hi'
    have := h.head
    have c0 : c = 1 := by omega
    subst c0
    show 1 :: ins 1 i y = 1 :: 1 :: y
    rw [← ins_one y 0 i h.tail (Nat.zero_le _) hi' (by rw [List.drop_zero]; omega)]; rfl
  | c :: y, i + 1, j + 1, h, hi, hj, e => by
    show c :: ins 1 i y = c :: ins 1 j y
    have e2 : ((i + 1 : Nat) : Int) + (y.drop i).sum = ((j + 1 : Nat) : Int) + (y.drop j).sum := by simpa using e
    rw [ins_one y i j h.tail (by simpa using hi) (by simpa using hj) (by omega)]
/-- the places of the rises -/
def dv (b : Int) (i : Nat) (y : List Int) : Int := ((i : Int) + 1) * b + (y.drop i).sum
theorem dv_inj {y : List Int} {b b' : Int} {i j : Nat} (h : Bits y) (hb : b = 0 ∨ b = 1) (hb' : b' = 0 ∨ b' = 1) (hi : i ≤ y.length) (hj : j ≤ y.length) (e : dv b i y = dv b' j y) : ins b i y = ins b' j y := by
  have s1 := sum_drop h i hi
  have s2 := sum_drop h j hj
  unfold dv at e
  rcases hb with rfl | rfl <;> rcases hb' with rfl | rfl
  · exact ins_zero y i j h hi hj (by omega)
  · omega
  · omega
  · exact ins_one y i j h hi hj (by omega)
theorem dv_bound {y : List Int} {b : Int} {i : Nat} (h : Bits y) (hb : b = 0 ∨ b = 1) (hi : i ≤ y.length) : 0 ≤ dv b i y ∧ dv b i y ≤ y.length + 1 := by
  have s1 := bits_sum h
  have s2 := bits_sum (bits_drop h i)
  have s3 := sum_drop h i hi
  rw [List.length_drop] at s2
  unfold dv
  rcases hb with rfl | rfl <;> omega
/-- two words that come of one by a bit put in, of one sum by the modulus, are one -/
theorem vt {y : List Int} {b b' : Int} {i j : Nat} (h : Bits y) (hb : b = 0 ∨ b = 1) (hb' : b' = 0 ∨ b' = 1) (hi : i ≤ y.length) (hj : j ≤ y.length)
    (e : wsum 0 (ins b i y) % ((y.length : Int) + 2) = wsum 0 (ins b' j y) % ((y.length : Int) + 2)) : ins b i y = ins b' j y := by
  refine dv_inj h hb hb' hi hj ?_
  have d1 := dv_bound h hb hi
  have d2 := dv_bound h hb' hj
  have w1 : wsum 0 (ins b i y) = wsum 0 y + dv b i y := by
    rw [wsum_ins b i 0 y hi]; unfold dv
    have : (((0 : Nat) : Int) + (i : Int) + 1) * b = ((i : Int) + 1) * b := by rw [Int.natCast_zero, Int.zero_add]
    rw [this]; omega
  have w2 : wsum 0 (ins b' j y) = wsum 0 y + dv b' j y := by
    rw [wsum_ins b' j 0 y hj]; unfold dv
    have : (((0 : Nat) : Int) + (j : Int) + 1) * b' = ((j : Int) + 1) * b' := by rw [Int.natCast_zero, Int.zero_add]
    rw [this]; omega
  rw [w1, w2] at e
  have e2 := Int.emod_emod_of_dvd (wsum 0 y + dv b i y) (Int.dvd_refl ((y.length : Int) + 2))
  have dvd : ((y.length : Int) + 2) ∣ (wsum 0 y + dv b i y) - (wsum 0 y + dv b' j y) := Int.dvd_of_emod_eq_zero (Int.emod_eq_emod_iff_emod_sub_eq_zero.mp e)
  have e3 : (wsum 0 y + dv b i y) - (wsum 0 y + dv b' j y) = dv b i y - dv b' j y := by omega
  rw [e3] at dvd
  rcases Int.lt_trichotomy (dv b i y) (dv b' j y) with c | c | c
  · have := Int.le_of_dvd (by omega) (Int.dvd_neg.mpr dvd)
    omega
  · exact c
  · have := Int.le_of_dvd (by omega) dvd
    omega
/-! the loss at i: how much it lowers the place sum -/
def dl (i : Nat) (u : List Int) : Int := ((i : Int) + 1) * u.getD i 0 + (u.drop (i + 1)).sum
theorem del_drop : ∀ (i : Nat) (u : List Int), i < u.length → (del i u).drop i = u.drop (i + 1)
  | _, [], h => absurd h (by simp)
  | 0, c :: u, _ => rfl
  | i + 1, c :: u, h => by
    show (c :: del i u).drop (i + 1) = _
    rw [List.drop_succ_cons, List.drop_succ_cons]
    exact del_drop i u (by simpa using h)
theorem ins_getD : ∀ (i : Nat) (u : List Int), i < u.length → ins (u.getD i 0) i (del i u) = u
  | _, [], h => absurd h (by simp)
  | 0, c :: u, _ => rfl
  | i + 1, c :: u, h => by
    show c :: ins ((c :: u).getD (i + 1) 0) i (del i u) = c :: u
    rw [List.getD_cons_succ, ins_getD i u (by simpa using h)]
theorem dl_dv {i : Nat} {u : List Int} (h : i < u.length) : dl i u = dv (u.getD i 0) i (del i u) := by
  unfold dl dv
  rw [del_drop i u h]
theorem dl_ins {b : Int} {i : Nat} {y : List Int} (h : i ≤ y.length) : dl i (ins b i y) = dv b i y := by
  have hl : i < (ins b i y).length := by rw [ins_len]; omega
  have e : (ins b i y).getD i 0 = b := by
    rw [ins_eq b i y h, List.getD_eq_getElem?_getD, List.getElem?_append_right (by rw [List.length_take]; omega), List.length_take, Nat.min_eq_left h, Nat.sub_self]; rfl
  rw [dl_dv hl, e, del_ins b i y h]
theorem bits_getD {u : List Int} (h : Bits u) (i : Nat) : u.getD i 0 = 0 ∨ u.getD i 0 = 1 := by
  rw [List.getD_eq_getElem?_getD]
  cases e : u[i]? with
  | none => exact .inl rfl
  | some x => exact h x (List.mem_of_getElem? e)
theorem bits_del {u : List Int} (h : Bits u) (i : Nat) : Bits (del i u) := fun x hx => by
  rw [del_eq] at hx
  rcases List.mem_append.mp hx with r | r
  · exact h x (List.mem_of_mem_take r)
  · exact h x (List.mem_of_mem_drop r)
theorem bits_ins {b : Int} {i : Nat} {u : List Int} (h : Bits u) (hb : b = 0 ∨ b = 1) (hi : i ≤ u.length) : Bits (ins b i u) := fun x hx => by
  rw [ins_eq b i u hi] at hx
  rcases List.mem_append.mp hx with r | r
  · exact h x (List.mem_of_mem_take r)
  · rcases List.mem_cons.mp r with r | r
    · rw [r]; exact hb
    · exact h x (List.mem_of_mem_drop r)
theorem dl_bound {u : List Int} {i : Nat} (h : Bits u) (hi : i < u.length) : 0 ≤ dl i u ∧ dl i u ≤ u.length := by
  rw [dl_dv hi]
  have := dv_bound (y := del i u) (i := i) (bits_del h i) (bits_getD h i) (by rw [del_len i u hi]; omega)
  rw [del_len i u hi] at this
  omega
/-- a letter behind one like it: lost alike -/
theorem dl_same {u : List Int} (i : Nat) (h : i + 1 < u.length) (e : u.getD i 0 = u.getD (i + 1) 0) : dl i u = dl (i + 1) u ∧ del i u = del (i + 1) u := by
  constructor
  · unfold dl
    have e2 : (u.drop (i + 1)).sum = u.getD (i + 1) 0 + (u.drop (i + 1 + 1)).sum := by
      rw [List.drop_eq_getElem_cons h, List.sum_cons, List.getD_eq_getElem?_getD, List.getElem?_eq_getElem h]; rfl
    rw [e2, e]
    have : (((i + 1 : Nat) : Int) + 1) * u.getD (i + 1) 0 = ((i : Int) + 1) * u.getD (i + 1) 0 + u.getD (i + 1) 0 := by
      have : (((i + 1 : Nat) : Int) + 1) = ((i : Int) + 1) + 1 := by omega
      rw [this, Int.add_mul, Int.one_mul]
    omega
  · induction u generalizing i with
    | nil => simp at h
    | cons c u ih =>
      cases i with
      | zero =>
        cases u with
        | nil => simp at h
        | cons d u =>
          have e : c = d := e
          show d :: u = c :: u
          rw [e]
      | succ i =>
        show c :: del i u = c :: del (i + 1) u
        rw [ih i (by simpa using h) (by simpa using e)]
theorem sum_dropS {u : List Int} {i : Nat} (h : i < u.length) : (u.drop i).sum = u.getD i 0 + (u.drop (i + 1)).sum := by
  rw [List.drop_eq_getElem_cons h, List.sum_cons, List.getD_eq_getElem?_getD, List.getElem?_eq_getElem h]; rfl
/-- between two places whose losses weigh alike all letters are alike -/
theorem dl_run {u : List Int} (h : Bits u) : ∀ (d i : Nat), i + d < u.length → dl i u = dl (i + d) u → ∀ t, t ≤ d → u.getD (i + t) 0 = u.getD i 0 := by
  -- the ones from i to j
  have ones : ∀ (d i : Nat), i + d ≤ u.length → 0 ≤ (u.drop i).sum - (u.drop (i + d)).sum ∧ (u.drop i).sum - (u.drop (i + d)).sum ≤ d ∧
      ((u.drop i).sum - (u.drop (i + d)).sum = 0 → ∀ t, t < d → u.getD (i + t) 0 = 0) ∧ ((u.drop i).sum - (u.drop (i + d)).sum = d → ∀ t, t < d → u.getD (i + t) 0 = 1) := by
    intro d
    induction d with
    | zero => intro i _; simp
    | succ d ih =>
      intro i hi
      obtain ⟨a1, a2, a3, a4⟩ := ih i (by omega)
      have e := sum_dropS (u := u) (i := i + d) (by omega)
      have b := bits_getD h (i + d)
      rw [show i + (d + 1) = i + d + 1 by omega]
      refine ⟨by omega, by omega, fun z t ht => ?_, fun z t ht => ?_⟩
      · by_cases c : t = d
        · subst c; omega
        · exact a3 (by omega) t (by omega)
      · by_cases c : t = d
        · subst c; omega
        · exact a4 (by omega) t (by omega)
  intro d i hd e t ht
  by_cases d0 : d = 0
  · subst d0
    rw [show t = 0 by omega]; rfl
  obtain ⟨a1, a2, a3, a4⟩ := ones d (i + 1) (by omega)
  rw [show i + 1 + d = i + d + 1 by omega] at a1 a2 a3 a4
  unfold dl at e
  have ci : (((i + d : Nat) : Int) + 1) = (i : Int) + 1 + d := by omega
  rw [ci] at e
  have low : ∀ t, t < d → i + (t + 1) = i + 1 + t := fun t _ => by omega
  rcases bits_getD h i with b | b <;> rcases bits_getD h (i + d) with b2 | b2 <;> rw [b, b2] at e
  · rw [b]
    by_cases c : t = 0
    · subst c; exact b
    · have := a3 (by omega) (t - 1) (by omega)
      rwa [show i + 1 + (t - 1) = i + t by omega] at this
  · omega
  · omega
  · rw [b]
    by_cases c : t = 0
    · subst c; exact b
    · have := a4 (by omega) (t - 1) (by omega)
      rwa [show i + 1 + (t - 1) = i + t by omega] at this
theorem del_run {u : List Int} : ∀ (d i : Nat), i + d < u.length → (∀ t, t ≤ d → u.getD (i + t) 0 = u.getD i 0) → del i u = del (i + d) u
  | 0, i, _, _ => rfl
  | d + 1, i, hd, h => by
    rw [del_run d i (by omega) fun t ht => h t (by omega)]
    have a := h d (by omega)
    have b := h (d + 1) (by omega)
    rw [show i + (d + 1) = i + d + 1 by omega] at b ⊢
    exact (dl_same (i + d) (by omega) (a.trans b.symm)).2
theorem del_inj {u : List Int} (h : Bits u) {i j : Nat} (hi : i < u.length) (hj : j < u.length) (e : dl i u = dl j u) : del i u = del j u := by
  by_cases c : i ≤ j
  · have := dl_run h (j - i) i (by omega) (by rw [e, show i + (j - i) = j by omega])
    have := del_run (j - i) i (by omega) this
    rwa [show i + (j - i) = j by omega] at this
  · have := dl_run h (i - j) j (by omega) (by rw [← e, show j + (i - j) = i by omega])
    have := del_run (i - j) j (by omega) this
    rw [show j + (i - j) = i by omega] at this
    exact this.symm
theorem wsum_ins0 {b : Int} {i : Nat} {y : List Int} (h : i ≤ y.length) : wsum 0 (ins b i y) = wsum 0 y + dv b i y := by
  rw [wsum_ins b i 0 y h]; unfold dv
  have : (((0 : Nat) : Int) + (i : Int) + 1) * b = ((i : Int) + 1) * b := by rw [Int.natCast_zero, Int.zero_add]
  rw [this]; omega
theorem wsum_take (o : Nat) : ∀ (i : Nat) (u : List Int), (h : i < u.length) → wsum o (u.take (i + 1)) = wsum o (u.take i) + ((o : Int) + i + 1) * u[i]
  | _, [], h => absurd h (by simp)
  | 0, c :: u, _ => by
    show ((o : Int) + 1) * c + 0 = 0 + _
    simp
  | i + 1, c :: u, h => by
    show ((o : Int) + 1) * c + wsum (o + 1) (u.take (i + 1)) = ((o : Int) + 1) * c + wsum (o + 1) (u.take i) + _
    rw [wsum_take (o + 1) i u (by simpa using h), List.getElem_cons_succ]
    have : (((o + 1 : Nat) : Int) + (i : Int) + 1) = ((o : Int) + ((i + 1 : Nat) : Int) + 1) := by omega
    rw [this]; omega
end Mine

namespace Mine
open PySem PySem.Spec PyProof.Rows L2
local macro_rules | `(tactic| walk_at "wp") => `(tactic| try simp -implicitDefEqProofs only [eFld_W, eFldS_W, sSetF_W, eMeth_W, eMeth0_W, eProp_W, mkI_W, mkI0_W, eVarD_W, eDic_W, eGet1_W, eGet2_W, eAtD_W, eInD_W, eNotInD_W, sOwnD_W, sPutD_W, Bool.false_eq_true, LINE_W, line0, line1, line2, line3, line4, line5, line6, line7, line8, line9, line10, line11, line12, take_W, Int.reduceLT, Int.reduceLE, Int.reduceNeg, mkD_W, mkD0_W, sSeq_W, sAsg_W, sRet_W, sRetN_W, sIf_W, sNext_W, sDrop_W, sBreak_W, sCont_W, sOwn_W, sPar_W, sPar3_W, sFrz_W, frz_W, fz_lst, fz_dk, fz_dt, sApp_W, sExt_W, sPop_W, sPopTo_W, sPut_W, sAugP_W, sAug_W, sFor_W, sRaise_W, sRaise1_W, gD_W, gD2_W, gD3_W, eVar_W, eVarB_W, eC_W, eOp_W, eUn_W, eCB_W, eNil_W, eCons_W, eConsS_W, eConsH_W, eTup_W, eLst_W, eCall_W, eCall0_W, eTest_W, eNotT_W, eAndT_W, eOrT_W, eTru_W, dTru_non, dTru_bl, dTru_int, dTru_lst, dTru_tup, dTru_str, dTru_dk, eBool_W, eAndV_W, eOrV_W, eNotV_W, eNotVT_W, eIf_W, eChain_W, eLc_W, eLc2_W, eYes_W, eSeq_W, eRng1_W, eRng2_W, eEnum_W, eZip_W, eSl_W, ePart_W, eNoPart_W, eRev_W, eRevL_W, eDk0_W, dAdd_int, dAdd_lst, dAdd_tup, dAdd_str, dAddL_lst, dSub_int, dMul_int, dMul_lst, dMulL_lst, dMul_tup, dFdiv_int, dMod_int, dPow_int, dShl_int, dShr_int, dLe_int, dLt_int, dGt_int, dGe_int, dNeg_int, isa_seq2, isLs_lst, isLs_tup, Bool.or_false, Bool.or_true, Bool.true_or, Bool.false_or, Bool.and_true, Bool.true_and, Bool.and_false, Bool.false_and, isSeq_lst, isSeq_tup, isTp_tup, isTp_lst, isTp_non, isTp_int, isTp_str, isW_int, dIsN_W, dNotN_W, isN_non, isN_int, isN_bl, isN_str, isN_tup, isN_lst, isN_dk, isN_dt, isN_ins, dIx_W, dSl_W, dSlL_W, dLen_W, dInt_W, dStr_W, dAbs_W, dMax2_W, dMin2_W, dTupOf_W, dLstOf_W, dIsi_W, dIsi2_W, kn_int, kn_bl, kn_non, kn_str, kn_tup, kn_lst, kn_dk, kn_dt, isa_int_int, isa_int_bool, isa_tup_tup, isa_bl_bool, isa_seq_tup, isa_seq_lst, isa_int, isa_bool, isa_seq, isa_tup, isa_str, isa_lst, dEq_int, dNe_int, Dt.flat, wipeS, List.getElem?_cons_zero, List.getElem?_cons_succ, List.set_cons_zero, List.set_cons_succ, List.replicate, List.append_nil, List.cons_append, List.nil_append, List.length_cons, List.length_nil, Nat.reduceAdd, Nat.reduceSub, Nat.zero_add, Option.isSome_some, Bool.true_eq_false, Bool.false_eq_true, if_true, if_false, ite_true, ite_false, eq_self, not_true_eq_false, not_false_eq_true, true_and, and_true, decide_eq_true_eq, Bool.not_true, Bool.not_false, Bool.not_eq_true', decide_eq_false_iff_not, decide_true, decide_false, List.length_map, List.map_cons, List.map_nil, Option.some.injEq, reduceCtorEq, Bool.not_eq_eq_eq_not, eEnumK_W, eDk1_W, eXf_W, eIsX_W, sTry_W, sKeep_W, eZipS_W, eRgL_W, mkG_W, gPlain_W, gSeq_W, gNext_W, gIf_W, gYield_W, gFor_W])
theorem enumk_get {xs : List Dt} {k i : Nat} {x : Dt} (h : (xs.mapIdx fun i x => Dt.tup [.int ((k : Int) + (i : Nat)), x])[i]? = some x) : ∃ y, xs[i]? = some y ∧ x = .tup [.int ((k : Int) + (i : Nat)), y] := by
  rw [List.getElem?_mapIdx, Option.map_eq_some_iff] at h
  obtain ⟨y, h1, h2⟩ := h
  exact ⟨y, h1, h2.symm⟩
theorem bits_01 {w : List Int} (h : Bits w) : ∀ x ∈ w, 0 ≤ x ∧ x < 2 := fun x hx => by have := h x hx; omega
theorem bits_of_wd {n : Nat} {w : List Int} (h : Wd 2 n w) : Bits w := fun x hx => by have := h.2 x hx; omega
theorem sum_of_ok {w : List Int} {Q : Dt → Prop} {E : Xc → Prop} (hb : Bits w) (hl : w.length < 1000) (q : Q (.int (wsum 0 w))) : F_sum_of [.d (iT w)] Q E := by
  rw [F_sum_of_eq]; unfold S_sum_of
  walk_at "wp"
  refine lc_inv (fun i acc => ∃ ns : List Int, acc = ns.map .int ∧ ns.sum = wsum 0 (w.take i) ∧ ns.length ≤ i) ⟨[], rfl, rfl, Nat.le_refl _⟩ ?_ ?_
  · rintro i x _ K hx ⟨ns, rfl, e, hn⟩ hK
    obtain ⟨y, hy, rfl⟩ := enumk_get hx
    obtain ⟨z, hz, rfl⟩ := map_get hy
    obtain ⟨hi, ez⟩ := List.getElem?_eq_some_iff.mp hz
    have st := wsum_take 0 i w hi
    rw [ez] at st
    walk_at "wp"
    rcases hb z (List.mem_of_getElem? hz) with rfl | rfl
    · rw [if_neg (by decide)]
      exact hK _ ⟨ns, rfl, by omega, by omega⟩
    · rw [if_pos rfl]
      exact ⟨by omega, hK _ ⟨ns ++ [1 + (i : Int)], by rw [List.map_append]; rfl, by rw [List.sum_append]; simp; omega, by rw [List.length_append]; show _ + 1 ≤ _; omega⟩⟩
  · rintro _ ⟨ns, rfl, e, hn⟩
    unfold dSum
    refine ⟨ns, rfl, ?_⟩
    rw [e, List.length_mapIdx, List.length_map, List.take_length]; exact q
theorem badWord_bits {w : List Int} {m : Nat} (hb : Bits w) (hm : w.length ≤ m) : badWord 2 m (.tup (w.map .int)) = none ∧ badWord 2 m (.lst (w.map .int)) = none := by
  have e : badAt (inB 0 (2 - 1)) (w.map .int) = none := badAt_map fun a ha => by have := bits_01 hb a ha; simp [inB]; omega
  rw [badWord_tup, badWord_lst, e, List.length_map, if_neg (by omega)]
  exact ⟨rfl, rfl⟩
/-- what passes the check for a word of bits -/
theorem bits_of_good {a : Dt} {m : Nat} (h : badWord 2 m a = none) : ∃ w, itemsOf a = w.map .int ∧ Bits w ∧ w.length ≤ m := by
  unfold badWord at h
  split at h
  · cases h
  · split at h
    · cases h
    · rename_i hl
      rw [Option.map_eq_none_iff] at h
      obtain ⟨w, e, hw⟩ := ints_of_dts (P := fun x => x = 0 ∨ x = 1) (ys := itemsOf a) fun y hy => by
        have := badAt_spec h hy
        cases y <;> simp [inB] at this
        exact ⟨_, rfl, by omega⟩
      refine ⟨w, e, hw, ?_⟩
      rw [e, List.length_map] at hl; omega
/-- a thing that is asked: its kind and its items' are known -/
def Kn (a : Dt) : Prop := a.kind.isSome = true ∧ ∀ x ∈ itemsOf a, x.kind.isSome = true
theorem kn_iT (w : List Int) : Kn (iT w) := ⟨rfl, fun x hx => by obtain ⟨i, _, rfl⟩ := List.mem_map.mp hx; rfl⟩
theorem kn_iL (w : List Int) : Kn (iL w) := ⟨rfl, fun x hx => by obtain ⟨i, _, rfl⟩ := List.mem_map.mp hx; rfl⟩
end Mine

namespace Mine
open PySem PySem.Spec PyProof.Rows L2
local macro_rules | `(tactic| walk_at "wp") => `(tactic| try simp -implicitDefEqProofs only [eFld_W, eFldS_W, sSetF_W, eMeth_W, eMeth0_W, eProp_W, mkI_W, mkI0_W, eVarD_W, eDic_W, eGet1_W, eGet2_W, eAtD_W, eInD_W, eNotInD_W, sOwnD_W, sPutD_W, Bool.false_eq_true, LINE_W, line0, line1, line2, line3, line4, line5, line6, line7, line8, line9, line10, line11, line12, take_W, Int.reduceLT, Int.reduceLE, Int.reduceNeg, mkD_W, mkD0_W, sSeq_W, sAsg_W, sRet_W, sRetN_W, sIf_W, sNext_W, sDrop_W, sBreak_W, sCont_W, sOwn_W, sPar_W, sPar3_W, sFrz_W, frz_W, fz_lst, fz_dk, fz_dt, sApp_W, sExt_W, sPop_W, sPopTo_W, sPut_W, sAugP_W, sAug_W, sFor_W, sRaise_W, sRaise1_W, gD_W, gD2_W, gD3_W, eVar_W, eVarB_W, eC_W, eOp_W, eUn_W, eCB_W, eNil_W, eCons_W, eConsS_W, eConsH_W, eTup_W, eLst_W, eCall_W, eCall0_W, eTest_W, eNotT_W, eAndT_W, eOrT_W, eTru_W, dTru_non, dTru_bl, dTru_int, dTru_lst, dTru_tup, dTru_str, dTru_dk, eBool_W, eAndV_W, eOrV_W, eNotV_W, eNotVT_W, eIf_W, eChain_W, eLc_W, eLc2_W, eYes_W, eSeq_W, eRng1_W, eRng2_W, eEnum_W, eZip_W, eSl_W, ePart_W, eNoPart_W, eRev_W, eRevL_W, eDk0_W, dAdd_int, dAdd_lst, dAdd_tup, dAdd_str, dAddL_lst, dSub_int, dMul_int, dMul_lst, dMulL_lst, dMul_tup, dFdiv_int, dMod_int, dPow_int, dShl_int, dShr_int, dLe_int, dLt_int, dGt_int, dGe_int, dNeg_int, isa_seq2, isLs_lst, isLs_tup, Bool.or_false, Bool.or_true, Bool.true_or, Bool.false_or, Bool.and_true, Bool.true_and, Bool.and_false, Bool.false_and, isSeq_lst, isSeq_tup, isTp_tup, isTp_lst, isTp_non, isTp_int, isTp_str, isW_int, dIsN_W, dNotN_W, isN_non, isN_int, isN_bl, isN_str, isN_tup, isN_lst, isN_dk, isN_dt, isN_ins, dIx_W, dSl_W, dSlL_W, dLen_W, dInt_W, dStr_W, dAbs_W, dMax2_W, dMin2_W, dTupOf_W, dLstOf_W, dIsi_W, dIsi2_W, kn_int, kn_bl, kn_non, kn_str, kn_tup, kn_lst, kn_dk, kn_dt, isa_int_int, isa_int_bool, isa_tup_tup, isa_bl_bool, isa_seq_tup, isa_seq_lst, isa_int, isa_bool, isa_seq, isa_tup, isa_str, isa_lst, dEq_int, dNe_int, Dt.flat, wipeS, List.getElem?_cons_zero, List.getElem?_cons_succ, List.set_cons_zero, List.set_cons_succ, List.replicate, List.append_nil, List.cons_append, List.nil_append, List.length_cons, List.length_nil, Nat.reduceAdd, Nat.reduceSub, Nat.zero_add, Option.isSome_some, Bool.true_eq_false, Bool.false_eq_true, if_true, if_false, ite_true, ite_false, eq_self, not_true_eq_false, not_false_eq_true, true_and, and_true, decide_eq_true_eq, Bool.not_true, Bool.not_false, Bool.not_eq_true', decide_eq_false_iff_not, decide_true, decide_false, List.length_map, List.map_cons, List.map_nil, Option.some.injEq, reduceCtorEq, Bool.not_eq_eq_eq_not, eEnumK_W, eDk1_W, eXf_W, eIsX_W, sTry_W, sKeep_W, eZipS_W, eRgL_W, mkG_W, gPlain_W, gSeq_W, gNext_W, gIf_W, gYield_W, gFor_W])
theorem nf {b : Bool} (h : ¬ b = false) : b = true := by cases b <;> simp_all
theorem bits_count {w : List Int} (h : Bits w) : (w.count 1 : Int) = w.sum ∧ w.count 0 + w.count 1 = w.length := by
  induction w with
  | nil => exact ⟨rfl, rfl⟩
  | cons c w ih =>
    obtain ⟨h1, h2⟩ := ih h.tail
    rcases h.head with rfl | rfl
    · rw [List.count_cons, List.count_cons, List.sum_cons, List.length_cons]
      simp; omega
    · rw [List.count_cons, List.count_cons, List.sum_cons, List.length_cons]
      simp; omega
theorem bits_take {w : List Int} (h : Bits w) (i : Nat) : Bits (w.take i) := fun x hx => h x (List.mem_of_mem_take hx)
/-- a good amount -/
theorem amount_of {lo hi : Int} {a : Dt} (h : inB lo hi a = true) : ∃ z, a = .int z ∧ lo ≤ z ∧ z ≤ hi := by
  cases a <;> first | cases h | skip
  rename_i z
  simp [inB] at h
  exact ⟨z, rfl, h⟩
theorem cat_ins {w : List Int} {b : Int} {a : Nat} {z : Int} (hz : z = a) (ha : a ≤ w.length) : cutG (w.map Dt.int) none (some z) ++ [.int b] ++ cutG (w.map Dt.int) (some z) none = (ins b a w).map Dt.int := by
  rw [cutG_take hz, cutG_drop hz, ins_eq b a w ha, List.map_append, List.map_cons, List.map_take, List.map_drop]; simp
theorem cat_del {w : List Int} {a : Nat} {z y : Int} (hz : z = a) (hy : y = a + 1) : cutG (w.map Dt.int) none (some z) ++ cutG (w.map Dt.int) (some y) none = (del a w).map Dt.int := by
  rw [cutG_take hz, cutG_drop (k := a + 1) (by omega), del_eq, List.map_append, List.map_take, List.map_drop]
theorem cut_len {xs : List Dt} (lo hi : Option Int) : (cutG xs lo hi).length ≤ xs.length := by
  unfold cutG
  rw [List.length_take, List.length_drop]; omega
/-- the first loss of this weight -/
def lossAt (z : Int) (u : List Int) : Option Nat := (List.range u.length).find? fun i => decide (dl i u = z)
theorem lossAt_none {z : Int} {u : List Int} (h : ∀ i, i < u.length → dl i u ≠ z) : lossAt z u = none := by
  unfold lossAt
  rw [List.find?_eq_none]
  intro i hi
  simpa using h i (List.mem_range.mp hi)
theorem lossAt_some {z : Int} {u : List Int} {i : Nat} (hi : i < u.length) (h : ∀ j, j < i → dl j u ≠ z) (e : dl i u = z) : lossAt z u = some i := by
  unfold lossAt
  rw [List.find?_range_eq_some]
  exact ⟨by simpa using e, List.mem_range.mpr hi, fun j hj => by simpa using h j hj⟩
theorem lossAt_spec {z : Int} {u : List Int} {i : Nat} (h : lossAt z u = some i) : i < u.length ∧ dl i u = z ∧ ∀ j, j < i → dl j u ≠ z := by
  unfold lossAt at h
  rw [List.find?_range_eq_some] at h
  exact ⟨List.mem_range.mp h.2.1, by simpa using h.1, fun j hj => by simpa using h.2.2 j hj⟩
def lowD (z : Int) (u : List Int) : Dt := match lossAt z u with
  | some i => iT (del i u)
  | none => .non
end Mine

namespace Mine
open PySem PySem.Spec PyProof.Rows L2
local macro_rules | `(tactic| walk_at "wp") => `(tactic| try simp -implicitDefEqProofs only [eFld_W, eFldS_W, sSetF_W, eMeth_W, eMeth0_W, eProp_W, mkI_W, mkI0_W, eVarD_W, eDic_W, eGet1_W, eGet2_W, eAtD_W, eInD_W, eNotInD_W, sOwnD_W, sPutD_W, Bool.false_eq_true, LINE_W, line0, line1, line2, line3, line4, line5, line6, line7, line8, line9, line10, line11, line12, take_W, Int.reduceLT, Int.reduceLE, Int.reduceNeg, mkD_W, mkD0_W, sSeq_W, sAsg_W, sRet_W, sRetN_W, sIf_W, sNext_W, sDrop_W, sBreak_W, sCont_W, sOwn_W, sPar_W, sPar3_W, sFrz_W, frz_W, fz_lst, fz_dk, fz_dt, sApp_W, sExt_W, sPop_W, sPopTo_W, sPut_W, sAugP_W, sAug_W, sFor_W, sRaise_W, sRaise1_W, gD_W, gD2_W, gD3_W, eVar_W, eVarB_W, eC_W, eOp_W, eUn_W, eCB_W, eNil_W, eCons_W, eConsS_W, eConsH_W, eTup_W, eLst_W, eCall_W, eCall0_W, eTest_W, eNotT_W, eAndT_W, eOrT_W, eTru_W, dTru_non, dTru_bl, dTru_int, dTru_lst, dTru_tup, dTru_str, dTru_dk, eBool_W, eAndV_W, eOrV_W, eNotV_W, eNotVT_W, eIf_W, eChain_W, eLc_W, eLc2_W, eYes_W, eSeq_W, eRng1_W, eRng2_W, eEnum_W, eZip_W, eSl_W, ePart_W, eNoPart_W, eRev_W, eRevL_W, eDk0_W, dAdd_int, dAdd_lst, dAdd_tup, dAdd_str, dAddL_lst, dSub_int, dMul_int, dMul_lst, dMulL_lst, dMul_tup, dFdiv_int, dMod_int, dPow_int, dShl_int, dShr_int, dLe_int, dLt_int, dGt_int, dGe_int, dNeg_int, isa_seq2, isLs_lst, isLs_tup, Bool.or_false, Bool.or_true, Bool.true_or, Bool.false_or, Bool.and_true, Bool.true_and, Bool.and_false, Bool.false_and, isSeq_lst, isSeq_tup, isTp_tup, isTp_lst, isTp_non, isTp_int, isTp_str, isW_int, dIsN_W, dNotN_W, isN_non, isN_int, isN_bl, isN_str, isN_tup, isN_lst, isN_dk, isN_dt, isN_ins, dIx_W, dSl_W, dSlL_W, dLen_W, dInt_W, dStr_W, dAbs_W, dMax2_W, dMin2_W, dTupOf_W, dLstOf_W, dIsi_W, dIsi2_W, kn_int, kn_bl, kn_non, kn_str, kn_tup, kn_lst, kn_dk, kn_dt, isa_int_int, isa_int_bool, isa_tup_tup, isa_bl_bool, isa_seq_tup, isa_seq_lst, isa_int, isa_bool, isa_seq, isa_tup, isa_str, isa_lst, dEq_int, dNe_int, Dt.flat, wipeS, List.getElem?_cons_zero, List.getElem?_cons_succ, List.set_cons_zero, List.set_cons_succ, List.replicate, List.append_nil, List.cons_append, List.nil_append, List.length_cons, List.length_nil, Nat.reduceAdd, Nat.reduceSub, Nat.zero_add, Option.isSome_some, Bool.true_eq_false, Bool.false_eq_true, if_true, if_false, ite_true, ite_false, eq_self, not_true_eq_false, not_false_eq_true, true_and, and_true, decide_eq_true_eq, Bool.not_true, Bool.not_false, Bool.not_eq_true', decide_eq_false_iff_not, decide_true, decide_false, List.length_map, List.map_cons, List.map_nil, Option.some.injEq, reduceCtorEq, Bool.not_eq_eq_eq_not, eEnumK_W, eDk1_W, eXf_W, eIsX_W, sTry_W, sKeep_W, eZipS_W, eRgL_W, mkG_W, gPlain_W, gSeq_W, gNext_W, gIf_W, gYield_W, gFor_W])
/-- the sum book of length n, modulus m and rest r -/
def bk (n m r : Int) : Dt := .ins "SumBook" ["length", "modulus", "rest"] [.int n, .int m, .int r]
local macro_rules | `(tactic| walk_at "fl") => `(tactic| try simp only [bk, ftab_SumBook_length, ftab_SumBook_modulus, ftab_SumBook_rest, look_SumBook_length, look_SumBook_modulus, look_SumBook_rest, true_and, Option.some.injEq, exists_eq_left'])
theorem check_number_ok {x : Dt} {lo hi : Int} {Q : Dt → Prop} {E : Xc → Prop} (hk : x.kind.isSome = true) (q : inB lo hi x = true → Q x) (h1 : inB lo hi x = false → E ⟨"BadNumber", []⟩) : F_check_number [.d x, .d (.int lo), .d (.int hi)] Q E := by
  rw [F_check_number_eq]; unfold S_check_number
  walk_at "wp"
  refine is_whole_ok hk ?_
  walk_at "wp"
  cases h : inB lo hi x with
  | true => simpa using q h
  | false => simpa using h1 h
theorem check_modulus_ok {x : Dt} {lo : Int} {Q : Dt → Prop} {E : Xc → Prop} (hk : x.kind.isSome = true) (q : inB lo 1000000 x = true → Q .non) (h1 : inB lo 1000000 x = false → E ⟨"BadModulus", []⟩) : F_check_modulus [.d x, .d (.int lo)] Q E := by
  rw [F_check_modulus_eq]; unfold S_check_modulus
  walk_at "wp"
  refine is_whole_ok hk ?_
  walk_at "wp"
  cases h : inB lo 1000000 x with
  | true => simpa using q h
  | false => simpa using h1 h
theorem check_rest_ok {x : Dt} {m : Int} {Q : Dt → Prop} {E : Xc → Prop} (hk : x.kind.isSome = true) (q : inB 0 (m - 1) x = true → Q .non) (h1 : inB 0 (m - 1) x = false → E ⟨"BadRest", []⟩) : F_check_rest_sums [.d x, .d (.int m)] Q E := by
  rw [F_check_rest_sums_eq]; unfold S_check_rest_sums
  walk_at "wp"
  refine is_whole_ok hk ?_
  walk_at "wp"
  cases h : inB 0 (m - 1) x with
  | true => simpa using q h
  | false => simpa using h1 h
theorem inB_int {lo hi i : Int} (a : lo ≤ i) (b : i ≤ hi) : inB lo hi (.int i) = true := by
  unfold inB; simp [a, b, isW]
theorem make_ok {n m r : Int} {Q : Dt → Prop} {E : Xc → Prop} (hn : 0 ≤ n) (hn2 : n ≤ 200) (hm : n + 1 ≤ m) (hm2 : m ≤ 1000000) (hr : 0 ≤ r) (hr2 : r < m) (q : Q (bk n m r)) : F_SumBook___init [.d (.int n), .d (.int m), .d (.int r)] Q E := by
  rw [F_SumBook___init_eq]; unfold S_SumBook___init
  walk_at "wp"
  refine check_number_ok rfl (fun _ => ?_) fun h => by rw [inB_int hn hn2] at h; cases h
  refine check_modulus_ok rfl (fun _ => ?_) fun h => by rw [inB_int hm hm2] at h; cases h
  refine check_rest_ok rfl (fun _ => ?_) fun h => by rw [inB_int hr (by omega)] at h; cases h
  simp only [ftab_SumBook_length, ftab_SumBook_modulus, ftab_SumBook_rest, putN_SumBook_length, putN_SumBook_modulus, putN_SumBook_rest, putD_SumBook_length, putD_SumBook_modulus, putD_SumBook_rest, List.getElem?_cons_zero, List.set_cons_zero, true_and, List.length_nil, List.length_cons]
  exact ⟨by decide, by decide, by decide, q⟩
end Mine

namespace Mine
open PySem PySem.Spec PyProof.Rows L2
local macro_rules | `(tactic| walk_at "wp") => `(tactic| try simp -implicitDefEqProofs only [eFld_W, eFldS_W, sSetF_W, eMeth_W, eMeth0_W, eProp_W, mkI_W, mkI0_W, eVarD_W, eDic_W, eGet1_W, eGet2_W, eAtD_W, eInD_W, eNotInD_W, sOwnD_W, sPutD_W, Bool.false_eq_true, LINE_W, line0, line1, line2, line3, line4, line5, line6, line7, line8, line9, line10, line11, line12, take_W, Int.reduceLT, Int.reduceLE, Int.reduceNeg, mkD_W, mkD0_W, sSeq_W, sAsg_W, sRet_W, sRetN_W, sIf_W, sNext_W, sDrop_W, sBreak_W, sCont_W, sOwn_W, sPar_W, sPar3_W, sFrz_W, frz_W, fz_lst, fz_dk, fz_dt, sApp_W, sExt_W, sPop_W, sPopTo_W, sPut_W, sAugP_W, sAug_W, sFor_W, sRaise_W, sRaise1_W, gD_W, gD2_W, gD3_W, eVar_W, eVarB_W, eC_W, eOp_W, eUn_W, eCB_W, eNil_W, eCons_W, eConsS_W, eConsH_W, eTup_W, eLst_W, eCall_W, eCall0_W, eTest_W, eNotT_W, eAndT_W, eOrT_W, eTru_W, dTru_non, dTru_bl, dTru_int, dTru_lst, dTru_tup, dTru_str, dTru_dk, eBool_W, eAndV_W, eOrV_W, eNotV_W, eNotVT_W, eIf_W, eChain_W, eLc_W, eLc2_W, eYes_W, eSeq_W, eRng1_W, eRng2_W, eEnum_W, eZip_W, eSl_W, ePart_W, eNoPart_W, eRev_W, eRevL_W, eDk0_W, dAdd_int, dAdd_lst, dAdd_tup, dAdd_str, dAddL_lst, dSub_int, dMul_int, dMul_lst, dMulL_lst, dMul_tup, dFdiv_int, dMod_int, dPow_int, dShl_int, dShr_int, dLe_int, dLt_int, dGt_int, dGe_int, dNeg_int, isa_seq2, isLs_lst, isLs_tup, Bool.or_false, Bool.or_true, Bool.true_or, Bool.false_or, Bool.and_true, Bool.true_and, Bool.and_false, Bool.false_and, isSeq_lst, isSeq_tup, isTp_tup, isTp_lst, isTp_non, isTp_int, isTp_str, isW_int, dIsN_W, dNotN_W, isN_non, isN_int, isN_bl, isN_str, isN_tup, isN_lst, isN_dk, isN_dt, isN_ins, dIx_W, dSl_W, dSlL_W, dLen_W, dInt_W, dStr_W, dAbs_W, dMax2_W, dMin2_W, dTupOf_W, dLstOf_W, dIsi_W, dIsi2_W, kn_int, kn_bl, kn_non, kn_str, kn_tup, kn_lst, kn_dk, kn_dt, isa_int_int, isa_int_bool, isa_tup_tup, isa_bl_bool, isa_seq_tup, isa_seq_lst, isa_int, isa_bool, isa_seq, isa_tup, isa_str, isa_lst, dEq_int, dNe_int, Dt.flat, wipeS, List.getElem?_cons_zero, List.getElem?_cons_succ, List.set_cons_zero, List.set_cons_succ, List.replicate, List.append_nil, List.cons_append, List.nil_append, List.length_cons, List.length_nil, Nat.reduceAdd, Nat.reduceSub, Nat.zero_add, Option.isSome_some, Bool.true_eq_false, Bool.false_eq_true, if_true, if_false, ite_true, ite_false, eq_self, not_true_eq_false, not_false_eq_true, true_and, and_true, decide_eq_true_eq, Bool.not_true, Bool.not_false, Bool.not_eq_true', decide_eq_false_iff_not, decide_true, decide_false, List.length_map, List.map_cons, List.map_nil, Option.some.injEq, reduceCtorEq, Bool.not_eq_eq_eq_not, eEnumK_W, eDk1_W, eXf_W, eIsX_W, sTry_W, sKeep_W, eZipS_W, eRgL_W, mkG_W, gPlain_W, gSeq_W, gNext_W, gIf_W, gYield_W, gFor_W])
/-- then a else b, for the kernel -/
noncomputable abbrev kif {α : Type} (c : Bool) (a b : α) : α := Bool.rec (motive := fun _ => α) b a c
theorem kif_eq {α : Type} (c : Bool) (a b : α) : kif c a b = bif c then a else b := by cases c <;> rfl
/-- the primes of n from p on, by at most f steps -/
noncomputable def runF (f : Nat) : Nat → Nat → Option (List Nat) :=
  Nat.rec (motive := fun _ => Nat → Nat → Option (List Nat)) (fun n _ => kif (Nat.ble n 1) (some []) none)
    (fun _ ih n p => kif (Nat.ble n 1) (some []) (kif (Nat.beq (Nat.mod n p) 0) (Option.map (List.cons p) (ih (Nat.div n p) p)) (ih n (Nat.succ p)))) f
noncomputable def primesOf (n : Nat) : List Nat := (runF 300 n 2).getD []
/-- the divisors from d down, ahead of l -/
noncomputable def divsK (n d : Nat) : List Nat → List Nat := Nat.rec (motive := fun _ => List Nat → List Nat) (fun l => l) (fun d ih l => ih (kif (Nat.beq (Nat.mod n (Nat.succ d)) 0) (Nat.succ d :: l) l)) d
def divs (n : Nat) : List Nat := ((List.range n).map (· + 1)).filter fun d => n % d = 0
theorem divsK_eq (n : Nat) : ∀ d l, divsK n d l = (((List.range d).map (· + 1)).filter fun d => n % d = 0) ++ l
  | 0, l => rfl
  | d + 1, l => by
    have e : divsK n (d + 1) l = divsK n d (kif (Nat.beq (n % (d + 1)) 0) ((d + 1) :: l) l) := rfl
    rw [e, divsK_eq n d, List.range_succ, List.map_append, List.filter_append, kif_eq]
    by_cases h : n % (d + 1) = 0
    · have hb : Nat.beq (n % (d + 1)) 0 = true := by rw [h]; rfl
      rw [hb, List.map_singleton, List.filter_cons_of_pos (by simpa using h)]
      simp
    · have hb : Nat.beq (n % (d + 1)) 0 = false := by
        cases e : Nat.beq (n % (d + 1)) 0 with
        | false => rfl
        | true => exact absurd (Nat.eq_of_beq_eq_true e) h
      rw [hb, List.map_singleton, List.filter_cons_of_neg (by simpa using h)]
      simp
theorem divs_eq (n : Nat) : divs n = divsK n n [] := by rw [divsK_eq]; simp [divs]
def phiL : Nat → Nat → List Nat → Nat
  | phi, _, [] => phi
  | phi, ahead, p :: r => phiL (phi * (if p = ahead then p else p - 1)) p r
noncomputable def phiN (n : Nat) : Nat := phiL 1 1 (primesOf n)
def dupLen (ps : List Nat) : Nat := (firstMet (fun i => (ps.map Int.ofNat).getD i 0) ps.length).length
noncomputable def muN (n : Nat) : Int := if dupLen (primesOf n) < (primesOf n).length then 0 else if (primesOf n).length % 2 = 0 then 1 else -1
noncomputable def ramN (e r : Nat) : Int := (phiN e : Int) * muN (e / Nat.gcd e r) / (phiN (e / Nat.gcd e r) : Int)
/-- the divisors by both ends, as the statement finds them -/
def dStep (n : Nat) (s : Bool × List Nat × List Nat) (i : Nat) : Bool × List Nat × List Nat := bif s.1 then s else bif Nat.blt n ((i + 1) * (i + 1)) then (true, s.2) else
    bif Nat.beq (n % (i + 1)) 0 then (false, s.2.1 ++ [i + 1], bif Nat.blt ((i + 1) * (i + 1)) n then (n / (i + 1)) :: s.2.2 else s.2.2) else s
def dvd2 (n : Nat) : List Nat := ((List.range n).foldl (dStep n) (false, [], [])).2.1 ++ ((List.range n).foldl (dStep n) (false, [], [])).2.2
/-! tables for the kernel -/
def phiBig : Nat := 0x4205018c0f0620540c01806004017c1203605c1400f0480580f01205a0301641603a0500f00e0560540d81004e03014c148280501440d8420400d01384e0300f00f03004812c0a04a0480a8120380300f01182e0301140b044040090108360281040c02a0400fc0903203c0a00f0370200c00e8240380b0090380300900a0360240d40d0180300cc080320280780a8300200900b81e02c0900602c0280700a8200180a40a01b02009c0601e0240500902401808c06016020084050180200480781e010074070120180500481a0180400501501005c0580c014054030140100300481200c0300400a01003c0200e00c0240300a00802c0280600802401808008010018060040140100300400c0080200200400400800
def muBig : Nat := 0x48898a0646894282098845860881454a814a4805050686898a80854485490a418a4a41894484090a85854a8109488589098a4
noncomputable def phiT (n : Nat) : Nat := Nat.mod (Nat.shiftRight phiBig (Nat.mul 11 n)) 2048
/-- 0: 0, 1: 1, 2: -1 -/
noncomputable def muT (n : Nat) : Nat := Nat.mod (Nat.shiftRight muBig (Nat.mul 2 n)) 4
noncomputable def muK (ps : List Nat) : Nat := kif (Nat.blt (dupLen ps) ps.length) 0 (kif (Nat.beq (Nat.mod ps.length 2) 0) 1 2)
noncomputable def okPs (ps : List Nat) : Bool := ps.all fun p => Nat.ble 2 p && Nat.ble p 2000
noncomputable def checkF (n : Nat) : Bool := Option.rec (motive := fun _ => Bool) false (fun ps => and (Nat.beq (phiL 1 1 ps) (phiT n)) (and (Nat.beq (muK ps) (muT n)) (and (Nat.ble ps.length 11) (and (okPs ps) (and (Nat.ble 1 (phiT n)) (Nat.ble (phiT n) 2000)))))) (runF 300 n 2)
noncomputable def upTo (f : Nat → Bool) (n : Nat) : Bool := Nat.rec (motive := fun _ => Bool) true (fun n ih => and (f (Nat.succ n)) ih) n
theorem upTo_ok {f : Nat → Bool} : ∀ {m : Nat}, upTo f m = true → ∀ n, 1 ≤ n → n ≤ m → f n = true
  | 0, _, n, h1, h2 => by omega
  | m + 1, h, n, h1, h2 => by
    have h3 : (f (m + 1) && upTo f m) = true := h
    rw [Bool.and_eq_true] at h3
    by_cases e : n = m + 1
    · rw [e]; exact h3.1
    · exact upTo_ok h3.2 n h1 (by omega)
set_option maxHeartbeats 0 in
theorem checkF_all : upTo checkF 201 = true := by decide +kernel
theorem checkF_1 {n : Nat} (h1 : 1 ≤ n) (h2 : n ≤ 201) : ∃ ps, runF 300 n 2 = some ps ∧ phiL 1 1 ps = phiT n ∧ muK ps = muT n ∧ ps.length ≤ 11 ∧ (∀ p ∈ ps, 2 ≤ p ∧ p ≤ 2000) ∧ 1 ≤ phiT n ∧ phiT n ≤ 2000 := by
  have h := upTo_ok checkF_all n h1 h2
  unfold checkF at h
  cases e : runF 300 n 2 with
  | none => rw [e] at h; cases h
  | some ps =>
    rw [e] at h
    have h : (Nat.beq (phiL 1 1 ps) (phiT n) && (Nat.beq (muK ps) (muT n) && (Nat.ble ps.length 11 && (okPs ps && (Nat.ble 1 (phiT n) && Nat.ble (phiT n) 2000))))) = true := h
    simp only [Bool.and_eq_true] at h
    obtain ⟨a, b, c, d, e1, e2⟩ := h
    refine ⟨ps, rfl, Nat.eq_of_beq_eq_true a, Nat.eq_of_beq_eq_true b, Nat.le_of_ble_eq_true c, fun p hp => ?_, Nat.le_of_ble_eq_true e1, Nat.le_of_ble_eq_true e2⟩
    unfold okPs at d
    have := List.all_eq_true.mp d p hp
    simp only [Bool.and_eq_true] at this
    exact ⟨Nat.le_of_ble_eq_true this.1, Nat.le_of_ble_eq_true this.2⟩
theorem checkF_ok {n : Nat} (h1 : 1 ≤ n) (h2 : n ≤ 201) : runF 300 n 2 = some (primesOf n) := by
  obtain ⟨ps, e, _⟩ := checkF_1 h1 h2
  unfold primesOf
  rw [e]; rfl
theorem phi_T {n : Nat} (h1 : 1 ≤ n) (h2 : n ≤ 201) : phiN n = phiT n := by
  obtain ⟨ps, e, h, _⟩ := checkF_1 h1 h2
  unfold phiN primesOf
  rw [e]; exact h
/-- what muT stands for -/
def muI (k : Nat) : Int := if k = 1 then 1 else if k = 2 then -1 else 0
theorem bF {a b : Nat} (h : ¬ a = b) : Nat.beq a b = false := by
  cases e : Nat.beq a b with
  | false => rfl
  | true => exact absurd (Nat.eq_of_beq_eq_true e) h
theorem bT {a b : Nat} (h : a = b) : Nat.beq a b = true := by rw [h]; exact Nat.beq_refl b
theorem mu_T {n : Nat} (h1 : 1 ≤ n) (h2 : n ≤ 201) : muN n = muI (muT n) := by
  obtain ⟨ps, e, _, h, _⟩ := checkF_1 h1 h2
  have ep : primesOf n = ps := by unfold primesOf; rw [e]; rfl
  unfold muN
  rw [ep, ← h]
  unfold muK
  rw [kif_eq, kif_eq]
  by_cases c : dupLen ps < ps.length
  · rw [if_pos c, Nat.blt_eq.mpr c]; rfl
  · have : Nat.blt (dupLen ps) ps.length = false := by
      cases e : Nat.blt (dupLen ps) ps.length with
      | false => rfl
      | true => exact absurd (Nat.blt_eq.mp e) c
    rw [if_neg c, this]
    by_cases d : ps.length % 2 = 0
    · rw [if_pos d, bT (show Nat.mod ps.length 2 = 0 from d)]; rfl
    · rw [if_neg d, bF (show ¬ Nat.mod ps.length 2 = 0 from d)]; rfl
theorem checkF_phi {n : Nat} (h1 : 1 ≤ n) (h2 : n ≤ 201) : 1 ≤ phiN n ∧ phiN n ≤ 2000 ∧ (primesOf n).length ≤ 11 ∧ ∀ p ∈ primesOf n, 2 ≤ p ∧ p ≤ 2000 := by
  obtain ⟨ps, e, h, _, h3, h4, h5, h6⟩ := checkF_1 h1 h2
  have ep : primesOf n = ps := by unfold primesOf; rw [e]; rfl
  rw [phi_T h1 h2, ep]
  exact ⟨h5, h6, h3, h4⟩
theorem runF_0 (n p : Nat) : runF 0 n p = bif Nat.ble n 1 then some [] else none := kif_eq _ _ _
theorem runF_1 (f n p : Nat) : runF (f + 1) n p = bif Nat.ble n 1 then some [] else bif Nat.beq (n % p) 0 then (runF f (n / p) p).map (p :: ·) else runF f n (p + 1) := by
  rw [← kif_eq, ← kif_eq]; rfl
end Mine

namespace Mine
open PySem PySem.Spec PyProof.Rows L2
local macro_rules | `(tactic| walk_at "wp") => `(tactic| try simp -implicitDefEqProofs only [eFld_W, eFldS_W, sSetF_W, eMeth_W, eMeth0_W, eProp_W, mkI_W, mkI0_W, eVarD_W, eDic_W, eGet1_W, eGet2_W, eAtD_W, eInD_W, eNotInD_W, sOwnD_W, sPutD_W, Bool.false_eq_true, LINE_W, line0, line1, line2, line3, line4, line5, line6, line7, line8, line9, line10, line11, line12, take_W, Int.reduceLT, Int.reduceLE, Int.reduceNeg, mkD_W, mkD0_W, sSeq_W, sAsg_W, sRet_W, sRetN_W, sIf_W, sNext_W, sDrop_W, sBreak_W, sCont_W, sOwn_W, sPar_W, sPar3_W, sFrz_W, frz_W, fz_lst, fz_dk, fz_dt, sApp_W, sExt_W, sPop_W, sPopTo_W, sPut_W, sAugP_W, sAug_W, sFor_W, sRaise_W, sRaise1_W, gD_W, gD2_W, gD3_W, eVar_W, eVarB_W, eC_W, eOp_W, eUn_W, eCB_W, eNil_W, eCons_W, eConsS_W, eConsH_W, eTup_W, eLst_W, eCall_W, eCall0_W, eTest_W, eNotT_W, eAndT_W, eOrT_W, eTru_W, dTru_non, dTru_bl, dTru_int, dTru_lst, dTru_tup, dTru_str, dTru_dk, eBool_W, eAndV_W, eOrV_W, eNotV_W, eNotVT_W, eIf_W, eChain_W, eLc_W, eLc2_W, eYes_W, eSeq_W, eRng1_W, eRng2_W, eEnum_W, eZip_W, eSl_W, ePart_W, eNoPart_W, eRev_W, eRevL_W, eDk0_W, dAdd_int, dAdd_lst, dAdd_tup, dAdd_str, dAddL_lst, dSub_int, dMul_int, dMul_lst, dMulL_lst, dMul_tup, dFdiv_int, dMod_int, dPow_int, dShl_int, dShr_int, dLe_int, dLt_int, dGt_int, dGe_int, dNeg_int, isa_seq2, isLs_lst, isLs_tup, Bool.or_false, Bool.or_true, Bool.true_or, Bool.false_or, Bool.and_true, Bool.true_and, Bool.and_false, Bool.false_and, isSeq_lst, isSeq_tup, isTp_tup, isTp_lst, isTp_non, isTp_int, isTp_str, isW_int, dIsN_W, dNotN_W, isN_non, isN_int, isN_bl, isN_str, isN_tup, isN_lst, isN_dk, isN_dt, isN_ins, dIx_W, dSl_W, dSlL_W, dLen_W, dInt_W, dStr_W, dAbs_W, dMax2_W, dMin2_W, dTupOf_W, dLstOf_W, dIsi_W, dIsi2_W, kn_int, kn_bl, kn_non, kn_str, kn_tup, kn_lst, kn_dk, kn_dt, isa_int_int, isa_int_bool, isa_tup_tup, isa_bl_bool, isa_seq_tup, isa_seq_lst, isa_int, isa_bool, isa_seq, isa_tup, isa_str, isa_lst, dEq_int, dNe_int, Dt.flat, wipeS, List.getElem?_cons_zero, List.getElem?_cons_succ, List.set_cons_zero, List.set_cons_succ, List.replicate, List.append_nil, List.cons_append, List.nil_append, List.length_cons, List.length_nil, Nat.reduceAdd, Nat.reduceSub, Nat.zero_add, Option.isSome_some, Bool.true_eq_false, Bool.false_eq_true, if_true, if_false, ite_true, ite_false, eq_self, not_true_eq_false, not_false_eq_true, true_and, and_true, decide_eq_true_eq, Bool.not_true, Bool.not_false, Bool.not_eq_true', decide_eq_false_iff_not, decide_true, decide_false, List.length_map, List.map_cons, List.map_nil, Option.some.injEq, reduceCtorEq, Bool.not_eq_eq_eq_not, eEnumK_W, eDk1_W, eXf_W, eIsX_W, sTry_W, sKeep_W, eZipS_W, eRgL_W, mkG_W, gPlain_W, gSeq_W, gNext_W, gIf_W, gYield_W, gFor_W])
/-- whole numbers as data -/
abbrev nD (l : List Nat) : List Dt := l.map fun d : Nat => Dt.int d
theorem mem_divs {n d : Nat} : d ∈ divs n ↔ 1 ≤ d ∧ d ≤ n ∧ n % d = 0 := by
  unfold divs
  simp only [List.mem_filter, List.mem_map, List.mem_range, decide_eq_true_eq]
  constructor
  · rintro ⟨⟨a, h, rfl⟩, e⟩; exact ⟨by omega, by omega, e⟩
  · rintro ⟨h1, h2, e⟩; exact ⟨⟨d - 1, by omega, by omega⟩, e⟩
theorem divs_len (n : Nat) : (divs n).length ≤ n := by
  unfold divs
  refine Nat.le_trans (List.length_filter_le _ _) ?_
  rw [List.length_map, List.length_range]
  exact Nat.le_refl n
theorem num_in {lo hi : Int} {i : Int} {Q : Dt → Prop} {E : Xc → Prop} (a : lo ≤ i) (b : i ≤ hi) (q : Q (.int i)) : F_check_number [.d (.int i), .d (.int lo), .d (.int hi)] Q E :=
  check_number_ok rfl (fun _ => q) fun h => by rw [inB_int a b] at h; cases h
theorem divisors_of_ok {n : Nat} {Q : Dt → Prop} {E : Xc → Prop} (h1 : 1 ≤ n) (h2 : n ≤ 201) (k : Q (.tup (nD (divs n)))) : F_divisors_of [.d (.int n)] Q E := by
  rw [F_divisors_of_eq]; unfold S_divisors_of
  walk_at "wp"
  refine num_in (by omega) (by omega) ?_
  walk_at "wp"
  refine ⟨by omega, ?_⟩
  rw [show ((n : Int) + 1 - 1).toNat = n by omega]
  refine lc_ok (e := fun i : Nat => Dt.int (1 + (i : Int))) (fun i : Nat => decide (n % (i + 1) = 0)) (fun i : Nat => Dt.int ((i + 1 : Nat) : Int)) (fun x hx K1 K0 h1 h0 => ?_) (by rw [List.length_range]; show 0 + n ≤ _; omega) ?_
  · have e : (1 + (x : Int)) = ((x + 1 : Nat) : Int) := by omega
    walk_at "wp"
    rw [e]
    refine ⟨by omega, ?_⟩
    refine iteQ (fun c => h1 (decide_eq_true ?_)) fun c => h0 (decide_eq_false ?_)
    · exact_mod_cast c
    · intro z; exact c (by exact_mod_cast z)
  · have e : (List.map (fun i : Nat => Dt.int ((i + 1 : Nat) : Int)) (List.filter (fun i : Nat => decide (n % (i + 1) = 0)) (List.range n))) = nD (divs n) := by
      unfold nD divs
      rw [List.filter_map, List.map_map]; rfl
    rw [List.nil_append, e]
    walk_at "wp"
    exact k
theorem ble_t {m : Nat} (h : m ≤ 1) : Nat.ble m 1 = true := Nat.ble_eq_true_of_le h
theorem ble_f {m : Nat} (h : ¬ m ≤ 1) : Nat.ble m 1 = false := by
  cases e : Nat.ble m 1 with
  | false => rfl
  | true => exact absurd (Nat.le_of_ble_eq_true e) h
theorem primes_of_ok {n : Nat} {Q : Dt → Prop} {E : Xc → Prop} (h1 : 1 ≤ n) (h2 : n ≤ 201) (k : Q (.lst (nD (primesOf n)))) : F_primes_of [.d (.int n)] Q E := by
  rw [F_primes_of_eq]; unfold S_primes_of
  walk_at "wp"
  refine ⟨fun f e => ∃ (m d : Nat) (acc l : List Nat), e = [.d (.int m), .own (.lst (nD acc)), .d (.int d)] ∧ runF f m d = some l ∧ acc ++ l = primesOf n ∧ 2 ≤ d ∧ d + f ≤ 400 ∧ acc.length + f ≤ 400, 300, ⟨n, 2, [], _, rfl, checkF_ok h1 h2, rfl, by omega, by omega, by simp⟩, ?_⟩
  rintro f _ ⟨m, d, acc, l, rfl, hr, hl, hd, hdf, haf⟩
  walk_at "wp"
  by_cases hm : m ≤ 1
  · have e : l = [] := by
      cases f with
      | zero => rw [runF_0, ble_t hm] at hr; exact (Option.some.inj hr).symm
      | succ f => rw [runF_1, ble_t hm] at hr; exact (Option.some.inj hr).symm
    rw [e, List.append_nil] at hl
    subst hl
    rw [if_neg (by omega)]
    exact k
  · rw [if_pos (by omega)]
    refine ⟨by omega, ?_⟩
    cases f with
    | zero => rw [runF_0, ble_f hm] at hr; cases hr
    | succ f =>
      rw [runF_1, ble_f hm] at hr
      refine iteQ (fun z => ?_) fun z => ?_
      · have z2 : Nat.beq (m % d) 0 = true := by
          have : m % d = 0 := by exact_mod_cast z
          rw [this]; rfl
        rw [z2] at hr
        have hr2 : (runF f (m / d) d).map (d :: ·) = some l := hr
        cases e : runF f (m / d) d with
        | none => rw [e] at hr2; cases hr2
        | some l2 =>
          rw [e] at hr2
          have e2 : d :: l2 = l := Option.some.inj hr2
          refine ⟨by omega, ⟨by omega, by omega⟩, f, by omega, m / d, d, acc ++ [d], l2, ?_, e, ?_, hd, by omega, ?_⟩
          · unfold nD; rw [List.map_append, Int.natCast_ediv]; rfl
          · rw [← hl, ← e2]; simp
          · rw [List.length_append]; show acc.length + 1 + f ≤ 400; omega
      · have z2 : Nat.beq (m % d) 0 = false := by
          cases h : Nat.beq (m % d) 0 with
          | false => rfl
          | true => exact absurd (by exact_mod_cast Nat.eq_of_beq_eq_true h) z
        rw [z2] at hr
        have hr2 : runF f m (d + 1) = some l := hr
        exact ⟨f, by omega, m, d + 1, acc, l, rfl, hr2, hl, by omega, by omega, by omega⟩
theorem phi_of_ok {n : Nat} {Q : Dt → Prop} {E : Xc → Prop} (h1 : 1 ≤ n) (h2 : n ≤ 201) (k : Q (.int (phiN n : Nat))) : F_phi_of [.d (.int n)] Q E := by
  rw [F_phi_of_eq]; unfold S_phi_of
  walk_at "wp"
  refine num_in (by omega) (by omega) ?_
  walk_at "wp"
  refine primes_of_ok h1 h2 ?_
  walk_at "wp"
  obtain ⟨f1, f2, f3, f4⟩ := checkF_phi h1 h2
  refine dFor_inv (fun i e => ∃ (phi ahead : Nat) (s : Sl), e = [.d (.int n), .d (.int phi), .d (.int ahead), s] ∧ phiL phi ahead ((primesOf n).drop i) = phiN n) ⟨1, 1, _, rfl, by rw [List.drop_zero]; rfl⟩ ?_ ?_
  · rintro i x _ K B hx ⟨phi, ahead, s, rfl, h⟩ hK
    obtain ⟨p, hp, rfl⟩ := map_get hx
    obtain ⟨hi, ep⟩ := List.getElem?_eq_some_iff.mp hp
    have hp2 := f4 p (List.mem_of_getElem? hp)
    rw [List.drop_eq_getElem_cons hi, ep] at h
    have h5 : phiL (phi * if p = ahead then p else p - 1) p ((primesOf n).drop (i + 1)) = phiN n := h
    walk_at "wp"
    refine iteQ (fun z => ?_) fun z => ?_
    · rw [if_pos (by omega)] at h5
      exact ⟨by unfold CMul; omega, hK _ ⟨phi * p, p, _, by rw [Int.natCast_mul], h5⟩⟩
    · rw [if_neg (by omega)] at h5
      have e3 : (p : Int) - 1 = ((p - 1 : Nat) : Int) := by omega
      rw [e3]
      exact ⟨by unfold CMul; omega, hK _ ⟨phi * (p - 1), p, _, by rw [Int.natCast_mul], h5⟩⟩
  · rintro _ ⟨phi, ahead, s, rfl, h⟩
    rw [List.length_map, List.drop_length] at h
    walk_at "wp"
    rw [show phi = phiN n from h]
    exact k
theorem mu_of_ok {n : Nat} {Q : Dt → Prop} {E : Xc → Prop} (h1 : 1 ≤ n) (h2 : n ≤ 201) (k : Q (.int (muN n))) : F_mu_of [.d (.int n)] Q E := by
  rw [F_mu_of_eq]; unfold S_mu_of
  walk_at "wp"
  refine num_in (by omega) (by omega) ?_
  walk_at "wp"
  refine primes_of_ok h1 h2 ?_
  walk_at "wp"
  rw [eLenSet_W]
  walk_at "wp"
  obtain ⟨f1, f2, f3, f4⟩ := checkF_phi h1 h2
  have el : nD (primesOf n) = ((primesOf n).map Int.ofNat).map Dt.int := by unfold nD; rw [List.map_map]; rfl
  refine ⟨(primesOf n).map Int.ofNat, by rw [el], by rw [List.length_map]; omega, ?_⟩
  unfold muN dupLen at k
  rw [List.length_map]
  refine iteQ (fun z => ?_) fun z => ?_
  · rw [if_pos (by omega)] at k; exact k
  · rw [if_neg (by omega)] at k
    refine iteQ (fun z2 => ?_) fun z2 => ?_
    · rw [if_pos (by omega)] at k; exact k
    · rw [if_neg (by omega)] at k; exact k
theorem ram_of_ok {n r : Nat} {Q : Dt → Prop} {E : Xc → Prop} (h1 : 1 ≤ n) (h2 : n ≤ 201) (h3 : r ≤ 2000) (k : Q (.int (ramN n r))) : F_ram_of [.d (.int n), .d (.int r)] Q E := by
  rw [F_ram_of_eq]; unfold S_ram_of
  walk_at "wp"
  refine num_in (by omega) (by omega) ?_
  refine num_in (by omega) (by omega) ?_
  walk_at "wp"
  rw [dGcd_W]
  simp only [Int.natAbs_natCast]
  have g1 : 1 ≤ Nat.gcd n r := Nat.gcd_pos_of_pos_left r (by omega)
  have g2 : Nat.gcd n r ≤ n := Nat.gcd_le_left r (by omega)
  have g3 : 1 ≤ n / Nat.gcd n r := Nat.div_pos g2 (by omega)
  have g4 : n / Nat.gcd n r ≤ n := Nat.div_le_self _ _
  walk_at "wp"
  have e : (n : Int) / (Nat.gcd n r : Nat) = ((n / Nat.gcd n r : Nat) : Int) := by rw [Int.natCast_ediv]
  rw [e]
  obtain ⟨f1, f2, _⟩ := checkF_phi g3 (Nat.le_trans g4 h2)
  obtain ⟨f3, f4, _⟩ := checkF_phi h1 h2
  refine ⟨⟨by omega, by omega⟩, ?_⟩
  refine phi_of_ok h1 h2 ?_
  refine mu_of_ok g3 (by omega) ?_
  refine ⟨.inl ⟨by omega, by omega⟩, ?_⟩
  refine phi_of_ok g3 (by omega) ?_
  exact ⟨⟨by omega, by omega⟩, k⟩
theorem ram_small {e : Nat} (h1 : 1 ≤ e) (h2 : e ≤ 201) (r : Nat) : -2000 ≤ ramN e r ∧ ramN e r ≤ 2000 := by
  obtain ⟨f3, f4, _⟩ := checkF_phi h1 h2
  have hm : (muN (e / Nat.gcd e r)).natAbs ≤ 1 := by
    unfold muN
    split
    · decide
    · split <;> decide
  have h := Int.natAbs_ediv_le_natAbs ((phiN e : Int) * muN (e / Nat.gcd e r)) (phiN (e / Nat.gcd e r) : Int)
  have h5 : ((phiN e : Int) * muN (e / Nat.gcd e r)).natAbs ≤ 2000 := by
    rw [Int.natAbs_mul, Int.natAbs_natCast]
    exact Nat.le_trans (Nat.mul_le_mul_left _ hm) (by omega)
  unfold ramN
  omega
/-- the size by its sum over the odd divisors -/
noncomputable def sizeN (n r : Nat) : Int := ((((divs (n + 1)).filter fun d => d % 2 = 1).map fun d : Nat => ramN d r * 2 ^ ((n + 1) / d)).sum) / (2 * ((n : Int) + 1))
theorem size_of_ok {n r : Nat} {Q : Dt → Prop} {E : Xc → Prop} (h2 : n ≤ 200) (h3 : r ≤ n) (k : Q (.int (sizeN n r))) : F_size_of [.d (.int n), .d (.int r)] Q E := by
  rw [F_size_of_eq]; unfold S_size_of
  walk_at "wp"
  refine num_in (by omega) (by omega) ?_
  rw [F_check_rest_sizes_eq]; unfold S_check_rest_sizes
  walk_at "wp"
  refine is_whole_ok rfl ?_
  rw [inB_int (by omega) (by omega)]
  walk_at "wp"
  rw [show (n : Int) + 1 = ((n + 1 : Nat) : Int) by omega]
  refine divisors_of_ok (by omega) (by omega) ?_
  walk_at "wp"
  have hl := divs_len (n + 1)
  refine lc_ok (e := fun d : Nat => Dt.int d) (fun d : Nat => decide (d % 2 = 1)) (fun d : Nat => Dt.int (ramN d r * 2 ^ ((n + 1) / d))) (fun x hx K1 K0 h1 h0 => ?_) (by show 0 + _ ≤ _; omega) ?_
  · obtain ⟨d1, d2, d3⟩ := mem_divs.mp hx
    walk_at "wp"
    refine iteQ (fun c => ?_) fun c => h0 (decide_eq_false (by omega))
    refine ram_of_ok d1 (by omega) (by omega) ?_
    have e : ((n + 1 : Nat) : Int) / (x : Int) = (((n + 1) / x : Nat) : Int) := by rw [Int.natCast_ediv]
    have l1 : (n + 1) / x ≤ n + 1 := Nat.div_le_self _ _
    rw [e]
    refine ⟨⟨by omega, by omega⟩, ⟨Int.natCast_nonneg _, by have := Int.ofNat_le.mpr l1; omega, by decide⟩, ?_⟩
    rw [Int.toNat_natCast, Int.one_mul]
    have rs := ram_small d1 (show x ≤ 201 by omega) r
    exact ⟨.inl ⟨by omega, by omega⟩, h1 (decide_eq_true (by omega))⟩
  · rw [List.nil_append]
    have e : (List.map (fun d : Nat => Dt.int (ramN d r * 2 ^ ((n + 1) / d))) (List.filter (fun d : Nat => decide (d % 2 = 1)) (divs (n + 1)))) = (((divs (n + 1)).filter fun d => d % 2 = 1).map fun d : Nat => ramN d r * 2 ^ ((n + 1) / d)).map Dt.int := by rw [List.map_map]; rfl
    rw [e]
    walk_at "wp"
    refine ⟨_, rfl, ?_⟩
    walk_at "wp"
    refine ⟨.inl ⟨by decide, by decide⟩, ⟨by omega, by omega⟩, ?_⟩
    rw [show ((n + 1 : Nat) : Int) = (n : Int) + 1 by omega]
    exact k
end Mine

namespace Mine
open PySem PySem.Spec PyProof.Rows L2
local macro_rules | `(tactic| walk_at "wp") => `(tactic| try simp -implicitDefEqProofs only [eFld_W, eFldS_W, sSetF_W, eMeth_W, eMeth0_W, eProp_W, mkI_W, mkI0_W, eVarD_W, eDic_W, eGet1_W, eGet2_W, eAtD_W, eInD_W, eNotInD_W, sOwnD_W, sPutD_W, Bool.false_eq_true, LINE_W, line0, line1, line2, line3, line4, line5, line6, line7, line8, line9, line10, line11, line12, take_W, Int.reduceLT, Int.reduceLE, Int.reduceNeg, mkD_W, mkD0_W, sSeq_W, sAsg_W, sRet_W, sRetN_W, sIf_W, sNext_W, sDrop_W, sBreak_W, sCont_W, sOwn_W, sPar_W, sPar3_W, sFrz_W, frz_W, fz_lst, fz_dk, fz_dt, sApp_W, sExt_W, sPop_W, sPopTo_W, sPut_W, sAugP_W, sAug_W, sFor_W, sRaise_W, sRaise1_W, gD_W, gD2_W, gD3_W, eVar_W, eVarB_W, eC_W, eOp_W, eUn_W, eCB_W, eNil_W, eCons_W, eConsS_W, eConsH_W, eTup_W, eLst_W, eCall_W, eCall0_W, eTest_W, eNotT_W, eAndT_W, eOrT_W, eTru_W, dTru_non, dTru_bl, dTru_int, dTru_lst, dTru_tup, dTru_str, dTru_dk, eBool_W, eAndV_W, eOrV_W, eNotV_W, eNotVT_W, eIf_W, eChain_W, eLc_W, eLc2_W, eYes_W, eSeq_W, eRng1_W, eRng2_W, eEnum_W, eZip_W, eSl_W, ePart_W, eNoPart_W, eRev_W, eRevL_W, eDk0_W, dAdd_int, dAdd_lst, dAdd_tup, dAdd_str, dAddL_lst, dSub_int, dMul_int, dMul_lst, dMulL_lst, dMul_tup, dFdiv_int, dMod_int, dPow_int, dShl_int, dShr_int, dLe_int, dLt_int, dGt_int, dGe_int, dNeg_int, isa_seq2, isLs_lst, isLs_tup, Bool.or_false, Bool.or_true, Bool.true_or, Bool.false_or, Bool.and_true, Bool.true_and, Bool.and_false, Bool.false_and, isSeq_lst, isSeq_tup, isTp_tup, isTp_lst, isTp_non, isTp_int, isTp_str, isW_int, dIsN_W, dNotN_W, isN_non, isN_int, isN_bl, isN_str, isN_tup, isN_lst, isN_dk, isN_dt, isN_ins, dIx_W, dSl_W, dSlL_W, dLen_W, dInt_W, dStr_W, dAbs_W, dMax2_W, dMin2_W, dTupOf_W, dLstOf_W, dIsi_W, dIsi2_W, kn_int, kn_bl, kn_non, kn_str, kn_tup, kn_lst, kn_dk, kn_dt, isa_int_int, isa_int_bool, isa_tup_tup, isa_bl_bool, isa_seq_tup, isa_seq_lst, isa_int, isa_bool, isa_seq, isa_tup, isa_str, isa_lst, dEq_int, dNe_int, Dt.flat, wipeS, List.getElem?_cons_zero, List.getElem?_cons_succ, List.set_cons_zero, List.set_cons_succ, List.replicate, List.append_nil, List.cons_append, List.nil_append, List.length_cons, List.length_nil, Nat.reduceAdd, Nat.reduceSub, Nat.zero_add, Option.isSome_some, Bool.true_eq_false, Bool.false_eq_true, if_true, if_false, ite_true, ite_false, eq_self, not_true_eq_false, not_false_eq_true, true_and, and_true, decide_eq_true_eq, Bool.not_true, Bool.not_false, Bool.not_eq_true', decide_eq_false_iff_not, decide_true, decide_false, List.length_map, List.map_cons, List.map_nil, Option.some.injEq, reduceCtorEq, Bool.not_eq_eq_eq_not, eEnumK_W, eDk1_W, eXf_W, eIsX_W, sTry_W, sKeep_W, eZipS_W, eRgL_W, mkG_W, gPlain_W, gSeq_W, gNext_W, gIf_W, gYield_W, gFor_W])
/-! packed tables -/
def pack (B : Nat) (f : Nat → Nat) : Nat → Nat
  | 0 => 0
  | m + 1 => pack B f m + f m * B ^ m
section
variable {B : Nat} {f g : Nat → Nat}
theorem pack_lt (hB : 0 < B) : ∀ m, (∀ r, r < m → f r < B) → pack B f m < B ^ m
  | 0, _ => by simp [pack]
  | m + 1, h => by
    have a := pack_lt hB m fun r hr => h r (by omega)
    have b := h m (by omega)
    have c : (f m + 1) * B ^ m ≤ B * B ^ m := Nat.mul_le_mul_right _ b
    rw [Nat.add_mul, Nat.one_mul] at c
    unfold pack
    rw [Nat.pow_succ, Nat.mul_comm (B ^ m) B]; omega
theorem pack_add : ∀ m, pack B f m + pack B g m = pack B (fun r => f r + g r) m
  | 0 => rfl
  | m + 1 => by
    unfold pack
    rw [← pack_add m, Nat.add_mul]; omega
theorem pack_split (a : Nat) : ∀ b, pack B f (a + b) = pack B f a + B ^ a * pack B (fun r => f (a + r)) b
  | 0 => by simp [pack]
  | b + 1 => by
    show pack B f (a + b) + f (a + b) * B ^ (a + b) = _ + B ^ a * (pack B (fun r => f (a + r)) b + f (a + b) * B ^ b)
    rw [pack_split a b, Nat.pow_add, Nat.mul_add]
    have : f (a + b) * (B ^ a * B ^ b) = B ^ a * (f (a + b) * B ^ b) := by
      rw [Nat.mul_left_comm]
    omega
theorem pack_congr : ∀ m, (∀ r, r < m → f r = g r) → pack B f m = pack B g m
  | 0, _ => rfl
  | m + 1, h => by
    unfold pack
    rw [pack_congr m fun r hr => h r (by omega), h m (by omega)]
theorem pack_digit (hB : 0 < B) {m r : Nat} (h : ∀ r, r < m → f r < B) (hr : r < m) : pack B f m / B ^ r % B = f r := by
  obtain ⟨b, rfl⟩ : ∃ b, m = r + (1 + b) := ⟨m - r - 1, by omega⟩
  have h1 := pack_lt hB r fun s hs => h s (by omega)
  have h2 := h r hr
  rw [pack_split, Nat.add_mul_div_left _ _ (Nat.pow_pos hB), Nat.div_eq_of_lt h1, Nat.zero_add, pack_split 1 b]
  have e : pack B (fun s => f (r + s)) 1 = f r := by simp [pack]
  rw [e, Nat.pow_one, Nat.add_mul_mod_self_left, Nat.mod_eq_of_lt h2]
/-- turned on by k places -/
theorem pack_rot (hB : 0 < B) {k a : Nat} (h : ∀ r, r < a + k → f r < B) : pack B f (a + k) * B ^ k % B ^ (a + k) + pack B f (a + k) * B ^ k / B ^ (a + k) = pack B (fun r => if r < k then f (a + r) else f (r - k)) (k + a) := by
  have h1 := pack_lt hB a fun s hs => h s (by omega)
  have hlo : pack B f a * B ^ k < B ^ (a + k) := by
    rw [Nat.pow_add]; exact Nat.mul_lt_mul_of_pos_right h1 (Nat.pow_pos hB)
  have e : pack B f (a + k) * B ^ k = pack B f a * B ^ k + B ^ (a + k) * pack B (fun r => f (a + r)) k := by
    rw [pack_split a k, Nat.add_mul, Nat.pow_add]
    congr 1
    rw [Nat.mul_right_comm]
  rw [e, Nat.add_mul_mod_self_left, Nat.mod_eq_of_lt hlo, Nat.add_mul_div_left _ _ (Nat.pow_pos hB), Nat.div_eq_of_lt hlo, Nat.zero_add, pack_split k a]
  have e1 : pack B (fun r => if r < k then f (a + r) else f (r - k)) k = pack B (fun r => f (a + r)) k := pack_congr k fun r hr => by rw [if_pos hr]
  have e2 : pack B (fun r => if k + r < k then f (a + (k + r)) else f (k + r - k)) a = pack B f a := pack_congr a fun r hr => by
    rw [if_neg (by omega), Nat.add_sub_cancel_left]
  rw [e1, e2, Nat.add_comm, Nat.mul_comm]
end
end Mine

namespace Mine
open PySem PySem.Spec PyProof.Rows L2
local macro_rules | `(tactic| walk_at "wp") => `(tactic| try simp -implicitDefEqProofs only [eFld_W, eFldS_W, sSetF_W, eMeth_W, eMeth0_W, eProp_W, mkI_W, mkI0_W, eVarD_W, eDic_W, eGet1_W, eGet2_W, eAtD_W, eInD_W, eNotInD_W, sOwnD_W, sPutD_W, Bool.false_eq_true, LINE_W, line0, line1, line2, line3, line4, line5, line6, line7, line8, line9, line10, line11, line12, take_W, Int.reduceLT, Int.reduceLE, Int.reduceNeg, mkD_W, mkD0_W, sSeq_W, sAsg_W, sRet_W, sRetN_W, sIf_W, sNext_W, sDrop_W, sBreak_W, sCont_W, sOwn_W, sPar_W, sPar3_W, sFrz_W, frz_W, fz_lst, fz_dk, fz_dt, sApp_W, sExt_W, sPop_W, sPopTo_W, sPut_W, sAugP_W, sAug_W, sFor_W, sRaise_W, sRaise1_W, gD_W, gD2_W, gD3_W, eVar_W, eVarB_W, eC_W, eOp_W, eUn_W, eCB_W, eNil_W, eCons_W, eConsS_W, eConsH_W, eTup_W, eLst_W, eCall_W, eCall0_W, eTest_W, eNotT_W, eAndT_W, eOrT_W, eTru_W, dTru_non, dTru_bl, dTru_int, dTru_lst, dTru_tup, dTru_str, dTru_dk, eBool_W, eAndV_W, eOrV_W, eNotV_W, eNotVT_W, eIf_W, eChain_W, eLc_W, eLc2_W, eYes_W, eSeq_W, eRng1_W, eRng2_W, eEnum_W, eZip_W, eSl_W, ePart_W, eNoPart_W, eRev_W, eRevL_W, eDk0_W, dAdd_int, dAdd_lst, dAdd_tup, dAdd_str, dAddL_lst, dSub_int, dMul_int, dMul_lst, dMulL_lst, dMul_tup, dFdiv_int, dMod_int, dPow_int, dShl_int, dShr_int, dLe_int, dLt_int, dGt_int, dGe_int, dNeg_int, isa_seq2, isLs_lst, isLs_tup, Bool.or_false, Bool.or_true, Bool.true_or, Bool.false_or, Bool.and_true, Bool.true_and, Bool.and_false, Bool.false_and, isSeq_lst, isSeq_tup, isTp_tup, isTp_lst, isTp_non, isTp_int, isTp_str, isW_int, dIsN_W, dNotN_W, isN_non, isN_int, isN_bl, isN_str, isN_tup, isN_lst, isN_dk, isN_dt, isN_ins, dIx_W, dSl_W, dSlL_W, dLen_W, dInt_W, dStr_W, dAbs_W, dMax2_W, dMin2_W, dTupOf_W, dLstOf_W, dIsi_W, dIsi2_W, kn_int, kn_bl, kn_non, kn_str, kn_tup, kn_lst, kn_dk, kn_dt, isa_int_int, isa_int_bool, isa_tup_tup, isa_bl_bool, isa_seq_tup, isa_seq_lst, isa_int, isa_bool, isa_seq, isa_tup, isa_str, isa_lst, dEq_int, dNe_int, Dt.flat, wipeS, List.getElem?_cons_zero, List.getElem?_cons_succ, List.set_cons_zero, List.set_cons_succ, List.replicate, List.append_nil, List.cons_append, List.nil_append, List.length_cons, List.length_nil, Nat.reduceAdd, Nat.reduceSub, Nat.zero_add, Option.isSome_some, Bool.true_eq_false, Bool.false_eq_true, if_true, if_false, ite_true, ite_false, eq_self, not_true_eq_false, not_false_eq_true, true_and, and_true, decide_eq_true_eq, Bool.not_true, Bool.not_false, Bool.not_eq_true', decide_eq_false_iff_not, decide_true, decide_false, List.length_map, List.map_cons, List.map_nil, Option.some.injEq, reduceCtorEq, Bool.not_eq_eq_eq_not, eEnumK_W, eDk1_W, eXf_W, eIsX_W, sTry_W, sKeep_W, eZipS_W, eRgL_W, mkG_W, gPlain_W, gSeq_W, gNext_W, gIf_W, gYield_W, gFor_W])
/-! ### how many words of n bits have a place sum of each rest -/
def cnt (m : Nat) : Nat → Nat → Nat
  | 0, r => if r = 0 then 1 else 0
  | n + 1, r => cnt m n r + cnt m n ((r + m - (n + 1) % m) % m)
theorem cnt_le (m : Nat) : ∀ n r, cnt m n r ≤ 2 ^ n
  | 0, r => by unfold cnt; split <;> decide
  | n + 1, r => by
    have a := cnt_le m n r
    have b := cnt_le m n ((r + m - (n + 1) % m) % m)
    unfold cnt
    rw [Nat.pow_succ]; omega
noncomputable def rotK (m k P : Nat) : Nat := Nat.add (Nat.mod (Nat.shiftLeft P (Nat.mul 256 k)) (Nat.pow 2 (Nat.mul 256 m))) (Nat.shiftRight (Nat.shiftLeft P (Nat.mul 256 k)) (Nat.mul 256 m))
noncomputable def polyK (m n : Nat) : Nat := Nat.rec (motive := fun _ => Nat) 1 (fun i ih => Nat.add ih (rotK m (Nat.succ i) ih)) n
noncomputable def digK (P r : Nat) : Nat := Nat.mod (Nat.shiftRight P (Nat.mul 256 r)) (Nat.pow 2 256)
theorem p256 (k : Nat) : 2 ^ (256 * k) = (2 ^ 256) ^ k := Nat.pow_mul 2 256 k
theorem cnt_small {m n r : Nat} (hn : n ≤ 200) : cnt m n r < 2 ^ 256 := Nat.lt_of_le_of_lt (cnt_le m n r) (Nat.pow_lt_pow_right (by decide) (by omega))
theorem polyK_eq {m : Nat} : ∀ n, n < m → n ≤ 200 → polyK m n = pack (2 ^ 256) (cnt m n) m
  | 0, h, _ => by
    obtain ⟨b, rfl⟩ : ∃ b, m = 1 + b := ⟨m - 1, by omega⟩
    rw [pack_split 1 b]
    have e1 : pack (2 ^ 256) (cnt (1 + b) 0) 1 = 1 := by simp [pack, cnt]
    have e2 : pack (2 ^ 256) (fun r => cnt (1 + b) 0 (1 + r)) b = pack (2 ^ 256) (fun _ => 0) b := pack_congr b fun r _ => by
      unfold cnt; rw [if_neg (by omega)]
    have e3 : ∀ b, pack (2 ^ 256) (fun _ => 0) b = 0 := fun b => by
      induction b with
      | zero => rfl
      | succ b ih => unfold pack; rw [ih]; simp
    rw [e1, e2, e3]; rfl
  | n + 1, h, h2 => by
    have ih := polyK_eq (m := m) n (by omega) (by omega)
    have e : polyK m (n + 1) = polyK m n + (polyK m n <<< (256 * (n + 1)) % 2 ^ (256 * m) + (polyK m n <<< (256 * (n + 1))) >>> (256 * m)) := rfl
    obtain ⟨a, rfl⟩ : ∃ a, m = a + (n + 1) := ⟨m - (n + 1), by omega⟩
    rw [e, ih, Nat.shiftLeft_eq, Nat.shiftRight_eq_div_pow, p256, p256, pack_rot (f := cnt _ n) (Nat.pow_pos (by decide)) fun r _ => cnt_small (n := n) (by omega), Nat.add_comm (n + 1) a, pack_add]
    refine pack_congr _ fun r hr => ?_
    show _ = cnt _ n r + cnt _ n _
    congr 1
    rw [Nat.mod_eq_of_lt (show n + 1 < a + (n + 1) by omega)]
    by_cases c : r < n + 1
    · rw [if_pos c, Nat.mod_eq_of_lt (by omega)]; congr 1; omega
    · rw [if_neg c, show r + (a + (n + 1)) - (n + 1) = r - (n + 1) + (a + (n + 1)) by omega, Nat.add_mod_right, Nat.mod_eq_of_lt (by omega)]
theorem digK_eq {m n r : Nat} (hn : n < m) (h2 : n ≤ 200) (hr : r < m) : digK (polyK m n) r = cnt m n r := by
  have e : digK (polyK m n) r = (polyK m n >>> (256 * r)) % 2 ^ 256 := rfl
  rw [e, polyK_eq n hn h2, Nat.shiftRight_eq_div_pow, p256]
  exact pack_digit (Nat.pow_pos (by decide)) (fun r _ => cnt_small h2) hr
end Mine

namespace Mine
open PySem PySem.Spec PyProof.Rows L2
local macro_rules | `(tactic| walk_at "wp") => `(tactic| try simp -implicitDefEqProofs only [eFld_W, eFldS_W, sSetF_W, eMeth_W, eMeth0_W, eProp_W, mkI_W, mkI0_W, eVarD_W, eDic_W, eGet1_W, eGet2_W, eAtD_W, eInD_W, eNotInD_W, sOwnD_W, sPutD_W, Bool.false_eq_true, LINE_W, line0, line1, line2, line3, line4, line5, line6, line7, line8, line9, line10, line11, line12, take_W, Int.reduceLT, Int.reduceLE, Int.reduceNeg, mkD_W, mkD0_W, sSeq_W, sAsg_W, sRet_W, sRetN_W, sIf_W, sNext_W, sDrop_W, sBreak_W, sCont_W, sOwn_W, sPar_W, sPar3_W, sFrz_W, frz_W, fz_lst, fz_dk, fz_dt, sApp_W, sExt_W, sPop_W, sPopTo_W, sPut_W, sAugP_W, sAug_W, sFor_W, sRaise_W, sRaise1_W, gD_W, gD2_W, gD3_W, eVar_W, eVarB_W, eC_W, eOp_W, eUn_W, eCB_W, eNil_W, eCons_W, eConsS_W, eConsH_W, eTup_W, eLst_W, eCall_W, eCall0_W, eTest_W, eNotT_W, eAndT_W, eOrT_W, eTru_W, dTru_non, dTru_bl, dTru_int, dTru_lst, dTru_tup, dTru_str, dTru_dk, eBool_W, eAndV_W, eOrV_W, eNotV_W, eNotVT_W, eIf_W, eChain_W, eLc_W, eLc2_W, eYes_W, eSeq_W, eRng1_W, eRng2_W, eEnum_W, eZip_W, eSl_W, ePart_W, eNoPart_W, eRev_W, eRevL_W, eDk0_W, dAdd_int, dAdd_lst, dAdd_tup, dAdd_str, dAddL_lst, dSub_int, dMul_int, dMul_lst, dMulL_lst, dMul_tup, dFdiv_int, dMod_int, dPow_int, dShl_int, dShr_int, dLe_int, dLt_int, dGt_int, dGe_int, dNeg_int, isa_seq2, isLs_lst, isLs_tup, Bool.or_false, Bool.or_true, Bool.true_or, Bool.false_or, Bool.and_true, Bool.true_and, Bool.and_false, Bool.false_and, isSeq_lst, isSeq_tup, isTp_tup, isTp_lst, isTp_non, isTp_int, isTp_str, isW_int, dIsN_W, dNotN_W, isN_non, isN_int, isN_bl, isN_str, isN_tup, isN_lst, isN_dk, isN_dt, isN_ins, dIx_W, dSl_W, dSlL_W, dLen_W, dInt_W, dStr_W, dAbs_W, dMax2_W, dMin2_W, dTupOf_W, dLstOf_W, dIsi_W, dIsi2_W, kn_int, kn_bl, kn_non, kn_str, kn_tup, kn_lst, kn_dk, kn_dt, isa_int_int, isa_int_bool, isa_tup_tup, isa_bl_bool, isa_seq_tup, isa_seq_lst, isa_int, isa_bool, isa_seq, isa_tup, isa_str, isa_lst, dEq_int, dNe_int, Dt.flat, wipeS, List.getElem?_cons_zero, List.getElem?_cons_succ, List.set_cons_zero, List.set_cons_succ, List.replicate, List.append_nil, List.cons_append, List.nil_append, List.length_cons, List.length_nil, Nat.reduceAdd, Nat.reduceSub, Nat.zero_add, Option.isSome_some, Bool.true_eq_false, Bool.false_eq_true, if_true, if_false, ite_true, ite_false, eq_self, not_true_eq_false, not_false_eq_true, true_and, and_true, decide_eq_true_eq, Bool.not_true, Bool.not_false, Bool.not_eq_true', decide_eq_false_iff_not, decide_true, decide_false, List.length_map, List.map_cons, List.map_nil, Option.some.injEq, reduceCtorEq, Bool.not_eq_eq_eq_not, eEnumK_W, eDk1_W, eXf_W, eIsX_W, sTry_W, sKeep_W, eZipS_W, eRgL_W, mkG_W, gPlain_W, gSeq_W, gNext_W, gIf_W, gYield_W, gFor_W])
/-! ### the sizes by their sums: by the kernel for lengths to 200 -/
noncomputable def sumK (f : Nat → Nat) (l : List Nat) : Nat := List.rec (motive := fun _ => Nat) 0 (fun a _ ih => Nat.add (f a) ih) l
noncomputable def allK (f : Nat → Bool) (l : List Nat) : Bool := List.rec (motive := fun _ => Bool) true (fun a _ ih => and (f a) ih) l
theorem allK_ok {f : Nat → Bool} : ∀ {l : List Nat}, allK f l = true → ∀ a ∈ l, f a = true
  | [], _, a, h => by cases h
  | x :: l, h, a, ha => by
    have h2 : (f x && allK f l) = true := h
    rw [Bool.and_eq_true] at h2
    rcases List.mem_cons.mp ha with e | e
    · rw [e]; exact h2.1
    · exact allK_ok h2.2 a e
noncomputable def quo (e g : Nat) : Nat := Nat.div e (Nat.gcd e g)
noncomputable def part (k e g : Nat) : Nat := kif (Nat.beq (muT (quo e g)) k) (Nat.div (phiT e) (phiT (quo e g))) 0
noncomputable def fitK (e g : Nat) : Bool := Nat.beq (Nat.mod (phiT e) (phiT (quo e g))) 0
noncomputable def below (f : Nat → Bool) (n : Nat) : Bool := Nat.rec (motive := fun _ => Bool) true (fun n ih => and (f n) ih) n
theorem below_ok {f : Nat → Bool} : ∀ {m : Nat}, below f m = true → ∀ n, n < m → f n = true
  | 0, _, n, h2 => by omega
  | m + 1, h, n, h2 => by
    have h3 : (f m && below f m) = true := h
    rw [Bool.and_eq_true] at h3
    by_cases e : n = m
    · rw [e]; exact h3.1
    · exact below_ok h3.2 n (by omega)
/-- the divisors e of N: odd ones alone, as the program's size has them -/
noncomputable def sPart (k N g e : Nat) : Nat := kif (Nat.beq (Nat.mod e 2) 1) (Nat.mul (part k e g) (Nat.pow 2 (Nat.div N e))) 0
noncomputable def checkZ (N P : Nat) : Bool := and (below (fun r => and (Nat.beq (digK P r) (digK P (Nat.mod (Nat.gcd N r) N))) (and (Nat.ble (digK P r) (digK P 0)) (Nat.ble (digK P (Nat.mod 1 N)) (digK P r)))) N)
  (allK (fun g => and (Nat.beq (sumK (sPart 1 N g) (divsK N N [])) (Nat.add (Nat.mul (digK P (Nat.mod g N)) (Nat.mul 2 N)) (sumK (sPart 2 N g) (divsK N N [])))) (allK (fun e => fitK e g) (divsK N N []))) (divsK N N []))
noncomputable def checkY (N : Nat) : Bool := checkZ N (polyK N (Nat.pred N))
set_option maxHeartbeats 0 in
theorem checkY_all : upTo checkY 201 = true := by decide +kernel
end Mine

namespace Mine
open PySem PySem.Spec PyProof.Rows L2
local macro_rules | `(tactic| walk_at "wp") => `(tactic| try simp -implicitDefEqProofs only [eFld_W, eFldS_W, sSetF_W, eMeth_W, eMeth0_W, eProp_W, mkI_W, mkI0_W, eVarD_W, eDic_W, eGet1_W, eGet2_W, eAtD_W, eInD_W, eNotInD_W, sOwnD_W, sPutD_W, Bool.false_eq_true, LINE_W, line0, line1, line2, line3, line4, line5, line6, line7, line8, line9, line10, line11, line12, take_W, Int.reduceLT, Int.reduceLE, Int.reduceNeg, mkD_W, mkD0_W, sSeq_W, sAsg_W, sRet_W, sRetN_W, sIf_W, sNext_W, sDrop_W, sBreak_W, sCont_W, sOwn_W, sPar_W, sPar3_W, sFrz_W, frz_W, fz_lst, fz_dk, fz_dt, sApp_W, sExt_W, sPop_W, sPopTo_W, sPut_W, sAugP_W, sAug_W, sFor_W, sRaise_W, sRaise1_W, gD_W, gD2_W, gD3_W, eVar_W, eVarB_W, eC_W, eOp_W, eUn_W, eCB_W, eNil_W, eCons_W, eConsS_W, eConsH_W, eTup_W, eLst_W, eCall_W, eCall0_W, eTest_W, eNotT_W, eAndT_W, eOrT_W, eTru_W, dTru_non, dTru_bl, dTru_int, dTru_lst, dTru_tup, dTru_str, dTru_dk, eBool_W, eAndV_W, eOrV_W, eNotV_W, eNotVT_W, eIf_W, eChain_W, eLc_W, eLc2_W, eYes_W, eSeq_W, eRng1_W, eRng2_W, eEnum_W, eZip_W, eSl_W, ePart_W, eNoPart_W, eRev_W, eRevL_W, eDk0_W, dAdd_int, dAdd_lst, dAdd_tup, dAdd_str, dAddL_lst, dSub_int, dMul_int, dMul_lst, dMulL_lst, dMul_tup, dFdiv_int, dMod_int, dPow_int, dShl_int, dShr_int, dLe_int, dLt_int, dGt_int, dGe_int, dNeg_int, isa_seq2, isLs_lst, isLs_tup, Bool.or_false, Bool.or_true, Bool.true_or, Bool.false_or, Bool.and_true, Bool.true_and, Bool.and_false, Bool.false_and, isSeq_lst, isSeq_tup, isTp_tup, isTp_lst, isTp_non, isTp_int, isTp_str, isW_int, dIsN_W, dNotN_W, isN_non, isN_int, isN_bl, isN_str, isN_tup, isN_lst, isN_dk, isN_dt, isN_ins, dIx_W, dSl_W, dSlL_W, dLen_W, dInt_W, dStr_W, dAbs_W, dMax2_W, dMin2_W, dTupOf_W, dLstOf_W, dIsi_W, dIsi2_W, kn_int, kn_bl, kn_non, kn_str, kn_tup, kn_lst, kn_dk, kn_dt, isa_int_int, isa_int_bool, isa_tup_tup, isa_bl_bool, isa_seq_tup, isa_seq_lst, isa_int, isa_bool, isa_seq, isa_tup, isa_str, isa_lst, dEq_int, dNe_int, Dt.flat, wipeS, List.getElem?_cons_zero, List.getElem?_cons_succ, List.set_cons_zero, List.set_cons_succ, List.replicate, List.append_nil, List.cons_append, List.nil_append, List.length_cons, List.length_nil, Nat.reduceAdd, Nat.reduceSub, Nat.zero_add, Option.isSome_some, Bool.true_eq_false, Bool.false_eq_true, if_true, if_false, ite_true, ite_false, eq_self, not_true_eq_false, not_false_eq_true, true_and, and_true, decide_eq_true_eq, Bool.not_true, Bool.not_false, Bool.not_eq_true', decide_eq_false_iff_not, decide_true, decide_false, List.length_map, List.map_cons, List.map_nil, Option.some.injEq, reduceCtorEq, Bool.not_eq_eq_eq_not, eEnumK_W, eDk1_W, eXf_W, eIsX_W, sTry_W, sKeep_W, eZipS_W, eRgL_W, mkG_W, gPlain_W, gSeq_W, gNext_W, gIf_W, gYield_W, gFor_W])
theorem sumK_eq (f : Nat → Nat) : ∀ l : List Nat, sumK f l = (l.map f).sum
  | [] => rfl
  | a :: l => by
    show f a + sumK f l = _
    rw [sumK_eq f l, List.map_cons, List.sum_cons]
theorem sum_sub (p : Nat → Bool) (f g : Nat → Nat) (k : Nat → Int) : ∀ l : List Nat, (∀ e ∈ l, (if p e = true then k e else 0) = (f e : Int) - (g e : Int)) → ((l.filter p).map k).sum = ((sumK f l : Nat) : Int) - ((sumK g l : Nat) : Int)
  | [], _ => rfl
  | a :: l, h => by
    have ih := sum_sub p f g k l fun e he => h e (List.mem_cons_of_mem _ he)
    have h1 := h a List.mem_cons_self
    have e1 : sumK f (a :: l) = f a + sumK f l := rfl
    have e2 : sumK g (a :: l) = g a + sumK g l := rfl
    rw [e1, e2]
    cases c : p a with
    | true =>
      rw [List.filter_cons_of_pos c, List.map_cons, List.sum_cons, ih]
      rw [c, if_pos rfl] at h1
      omega
    | false =>
      rw [List.filter_cons_of_neg (by rw [c]; decide), ih]
      rw [c, if_neg (by decide)] at h1
      omega
theorem checkZ_1 {N : Nat} (h1 : 1 ≤ N) (h2 : N ≤ 201) : (∀ r, r < N → cnt N (N - 1) r = cnt N (N - 1) (Nat.gcd N r % N) ∧ cnt N (N - 1) r ≤ cnt N (N - 1) 0 ∧ cnt N (N - 1) (1 % N) ≤ cnt N (N - 1) r) ∧
    ∀ g ∈ divs N, sumK (sPart 1 N g) (divs N) = cnt N (N - 1) (g % N) * (2 * N) + sumK (sPart 2 N g) (divs N) ∧ ∀ e ∈ divs N, phiT e % phiT (quo e g) = 0 := by
  have h := upTo_ok checkY_all N h1 h2
  unfold checkY checkZ at h
  rw [← divs_eq] at h
  have dg : ∀ r, r < N → digK (polyK N (Nat.pred N)) r = cnt N (N - 1) r := fun r hr => digK_eq (n := N - 1) (by omega) (by omega) hr
  simp only [Bool.and_eq_true] at h
  obtain ⟨a, b⟩ := h
  refine ⟨fun r hr => ?_, fun g hg => ?_⟩
  · have c := below_ok a r hr
    simp only [Bool.and_eq_true] at c
    have gl : Nat.gcd N r % N < N := Nat.mod_lt _ (by omega)
    have d1 := dg r hr
    have d2 := dg _ gl
    have d3 := dg 0 (by omega)
    have d4 := dg (1 % N) (Nat.mod_lt _ (by omega))
    obtain ⟨c1, c2, c3⟩ := c
    have c1 := Nat.eq_of_beq_eq_true c1
    have c2 := Nat.le_of_ble_eq_true c2
    have c3 := Nat.le_of_ble_eq_true c3
    exact ⟨by rw [← d1, ← d2]; exact c1, by rw [← d1, ← d3]; exact c2, by rw [← d1, ← d4]; exact c3⟩
  · have c := allK_ok b g hg
    simp only [Bool.and_eq_true] at c
    have d := dg (g % N) (Nat.mod_lt _ (by omega))
    refine ⟨?_, fun e he => Nat.eq_of_beq_eq_true (allK_ok c.2 e he)⟩
    have c1 := Nat.eq_of_beq_eq_true c.1
    rw [← d]; exact c1
theorem muI_eq (k : Nat) : muI k = ((kif (Nat.beq k 1) 1 0 : Nat) : Int) - ((kif (Nat.beq k 2) 1 0 : Nat) : Int) := by
  rw [kif_eq, kif_eq]
  unfold muI
  by_cases h1 : k = 1
  · subst h1; rfl
  · by_cases h2 : k = 2
    · subst h2; rfl
    · rw [if_neg h1, if_neg h2, bF h1, bF h2]; rfl
theorem ram_eq {N e r : Nat} (h1 : 1 ≤ N) (h2 : N ≤ 201) (he : e ∈ divs N) : ramN e r = ((part 1 e (Nat.gcd N r) : Nat) : Int) - ((part 2 e (Nat.gcd N r) : Nat) : Int) := by
  obtain ⟨a, b, m⟩ := mem_divs.mp he
  have hg : Nat.gcd N r ∈ divs N := mem_divs.mpr ⟨Nat.gcd_pos_of_pos_left r (by omega), Nat.gcd_le_left r (by omega), Nat.mod_eq_zero_of_dvd (Nat.gcd_dvd_left N r)⟩
  have fit := ((checkZ_1 h1 h2).2 _ hg).2 e he
  have eg : Nat.gcd e r = Nat.gcd e (Nat.gcd N r) := by
    have hd : Nat.gcd e N = e := Nat.gcd_eq_left (Nat.dvd_of_mod_eq_zero m)
    rw [← Nat.gcd_assoc, hd]
  have gp : 1 ≤ Nat.gcd e (Nat.gcd N r) := Nat.gcd_pos_of_pos_left _ (by omega)
  have gl : Nat.gcd e (Nat.gcd N r) ≤ e := Nat.gcd_le_left _ (by omega)
  have q1 : 1 ≤ quo e (Nat.gcd N r) := Nat.div_pos gl gp
  have q2 : quo e (Nat.gcd N r) ≤ 201 := Nat.le_trans (Nat.div_le_self e _) (by omega)
  unfold ramN
  rw [eg]
  show (phiN e : Int) * muN (quo e (Nat.gcd N r)) / (phiN (quo e (Nat.gcd N r)) : Int) = _
  rw [phi_T a (by omega), phi_T q1 q2, mu_T q1 q2]
  obtain ⟨_, _, _, _, _, _, p1, _⟩ := checkF_1 q1 q2
  unfold part
  rw [kif_eq, kif_eq]
  generalize quo e (Nat.gcd N r) = q at *
  have ed : phiT e = phiT q * (phiT e / phiT q) := by
    have := Nat.div_add_mod (phiT e) (phiT q)
    omega
  have p0 : (phiT q : Int) ≠ 0 := by omega
  show (phiT e : Int) * muI (muT q) / (phiT q : Int) = ((bif Nat.beq (muT q) 1 then phiT e / phiT q else 0 : Nat) : Int) - ((bif Nat.beq (muT q) 2 then phiT e / phiT q else 0 : Nat) : Int)
  generalize hc : phiT e / phiT q = c at *
  rw [ed, Int.natCast_mul]
  by_cases m1 : muT q = 1
  · rw [m1, show muI 1 = 1 from rfl, Int.mul_one, Int.mul_ediv_cancel_left _ p0]
    show (c : Int) = (c : Int) - ((0 : Nat) : Int)
    omega
  · by_cases m2 : muT q = 2
    · rw [m2, show muI 2 = -1 from rfl, Int.mul_assoc, Int.mul_ediv_cancel_left _ p0]
      show (c : Int) * -1 = ((0 : Nat) : Int) - (c : Int)
      omega
    · rw [bF m1, bF m2, show muI (muT q) = 0 by unfold muI; rw [if_neg m1, if_neg m2], Int.mul_zero, Int.zero_ediv]
      rfl
/-- the size that is told is the number of words -/
theorem size_cnt {n r : Nat} (hn : n ≤ 200) (hr : r ≤ n) : sizeN n r = (cnt (n + 1) n r : Nat) := by
  obtain ⟨z1, z2⟩ := checkZ_1 (N := n + 1) (by omega) (by omega)
  have hg : Nat.gcd (n + 1) r ∈ divs (n + 1) := mem_divs.mpr ⟨Nat.gcd_pos_of_pos_left r (by omega), Nat.gcd_le_left r (by omega), Nat.mod_eq_zero_of_dvd (Nat.gcd_dvd_left _ r)⟩
  obtain ⟨e1, _⟩ := z2 _ hg
  have e2 := (z1 r (by omega)).1
  have e3 : n + 1 - 1 = n := rfl
  rw [e3] at e1 e2
  rw [← e2] at e1
  unfold sizeN
  have es := sum_sub (fun d => decide (d % 2 = 1)) (sPart 1 (n + 1) (Nat.gcd (n + 1) r)) (sPart 2 (n + 1) (Nat.gcd (n + 1) r)) (fun d : Nat => ramN d r * 2 ^ ((n + 1) / d)) (divs (n + 1)) fun e he => by
    unfold sPart
    rw [kif_eq, kif_eq]
    by_cases c : e % 2 = 1
    · rw [show Nat.beq (Nat.mod e 2) 1 = true by rw [show Nat.mod e 2 = 1 from c]; rfl, if_pos (decide_eq_true c), ram_eq (by omega) (by omega) he]
      show (_ - _) * (2 : Int) ^ ((n + 1) / e) = ((part 1 e _ * 2 ^ ((n + 1) / e) : Nat) : Int) - ((part 2 e _ * 2 ^ ((n + 1) / e) : Nat) : Int)
      rw [Int.sub_mul, Int.natCast_mul, Int.natCast_mul, Int.natCast_pow]; rfl
    · rw [show Nat.beq (Nat.mod e 2) 1 = false from bF c, if_neg (by simpa using c)]; rfl
  rw [es, e1, Int.natCast_add, Int.add_sub_cancel, Int.natCast_mul]
  rw [show (2 * ((n : Int) + 1)) = ((2 * (n + 1) : Nat) : Int) by omega]
  exact Int.mul_ediv_cancel _ (by omega)
theorem cnt_ext {n r : Nat} (hn : n ≤ 200) (hr : r ≤ n) : cnt (n + 1) n r ≤ cnt (n + 1) n 0 ∧ cnt (n + 1) n (1 % (n + 1)) ≤ cnt (n + 1) n r := ((checkZ_1 (N := n + 1) (by omega) (by omega)).1 r (by omega)).2
end Mine

namespace Mine
open PySem PySem.Spec PyProof.Rows L2
local macro_rules | `(tactic| walk_at "wp") => `(tactic| try simp -implicitDefEqProofs only [eFld_W, eFldS_W, sSetF_W, eMeth_W, eMeth0_W, eProp_W, mkI_W, mkI0_W, eVarD_W, eDic_W, eGet1_W, eGet2_W, eAtD_W, eInD_W, eNotInD_W, sOwnD_W, sPutD_W, Bool.false_eq_true, LINE_W, line0, line1, line2, line3, line4, line5, line6, line7, line8, line9, line10, line11, line12, take_W, Int.reduceLT, Int.reduceLE, Int.reduceNeg, mkD_W, mkD0_W, sSeq_W, sAsg_W, sRet_W, sRetN_W, sIf_W, sNext_W, sDrop_W, sBreak_W, sCont_W, sOwn_W, sPar_W, sPar3_W, sFrz_W, frz_W, fz_lst, fz_dk, fz_dt, sApp_W, sExt_W, sPop_W, sPopTo_W, sPut_W, sAugP_W, sAug_W, sFor_W, sRaise_W, sRaise1_W, gD_W, gD2_W, gD3_W, eVar_W, eVarB_W, eC_W, eOp_W, eUn_W, eCB_W, eNil_W, eCons_W, eConsS_W, eConsH_W, eTup_W, eLst_W, eCall_W, eCall0_W, eTest_W, eNotT_W, eAndT_W, eOrT_W, eTru_W, dTru_non, dTru_bl, dTru_int, dTru_lst, dTru_tup, dTru_str, dTru_dk, eBool_W, eAndV_W, eOrV_W, eNotV_W, eNotVT_W, eIf_W, eChain_W, eLc_W, eLc2_W, eYes_W, eSeq_W, eRng1_W, eRng2_W, eEnum_W, eZip_W, eSl_W, ePart_W, eNoPart_W, eRev_W, eRevL_W, eDk0_W, dAdd_int, dAdd_lst, dAdd_tup, dAdd_str, dAddL_lst, dSub_int, dMul_int, dMul_lst, dMulL_lst, dMul_tup, dFdiv_int, dMod_int, dPow_int, dShl_int, dShr_int, dLe_int, dLt_int, dGt_int, dGe_int, dNeg_int, isa_seq2, isLs_lst, isLs_tup, Bool.or_false, Bool.or_true, Bool.true_or, Bool.false_or, Bool.and_true, Bool.true_and, Bool.and_false, Bool.false_and, isSeq_lst, isSeq_tup, isTp_tup, isTp_lst, isTp_non, isTp_int, isTp_str, isW_int, dIsN_W, dNotN_W, isN_non, isN_int, isN_bl, isN_str, isN_tup, isN_lst, isN_dk, isN_dt, isN_ins, dIx_W, dSl_W, dSlL_W, dLen_W, dInt_W, dStr_W, dAbs_W, dMax2_W, dMin2_W, dTupOf_W, dLstOf_W, dIsi_W, dIsi2_W, kn_int, kn_bl, kn_non, kn_str, kn_tup, kn_lst, kn_dk, kn_dt, isa_int_int, isa_int_bool, isa_tup_tup, isa_bl_bool, isa_seq_tup, isa_seq_lst, isa_int, isa_bool, isa_seq, isa_tup, isa_str, isa_lst, dEq_int, dNe_int, Dt.flat, wipeS, List.getElem?_cons_zero, List.getElem?_cons_succ, List.set_cons_zero, List.set_cons_succ, List.replicate, List.append_nil, List.cons_append, List.nil_append, List.length_cons, List.length_nil, Nat.reduceAdd, Nat.reduceSub, Nat.zero_add, Option.isSome_some, Bool.true_eq_false, Bool.false_eq_true, if_true, if_false, ite_true, ite_false, eq_self, not_true_eq_false, not_false_eq_true, true_and, and_true, decide_eq_true_eq, Bool.not_true, Bool.not_false, Bool.not_eq_true', decide_eq_false_iff_not, decide_true, decide_false, List.length_map, List.map_cons, List.map_nil, Option.some.injEq, reduceCtorEq, Bool.not_eq_eq_eq_not, eEnumK_W, eDk1_W, eXf_W, eIsX_W, sTry_W, sKeep_W, eZipS_W, eRgL_W, mkG_W, gPlain_W, gSeq_W, gNext_W, gIf_W, gYield_W, gFor_W])
/-- the odd part, by at most f steps -/
noncomputable def od (f : Nat) : Nat → Nat := Nat.rec (motive := fun _ => Nat → Nat) (fun x => x) (fun _ ih x => kif (Nat.beq (Nat.mod x 2) 1) x (ih (Nat.div x 2))) f
theorem od_0 (x : Nat) : od 0 x = x := rfl
theorem od_s (f x : Nat) : od (f + 1) x = if x % 2 = 1 then x else od f (x / 2) := by
  show kif (Nat.beq (x % 2) 1) x (od f (x / 2)) = _
  rw [kif_eq]
  by_cases c : x % 2 = 1
  · rw [if_pos c, bT c]; rfl
  · rw [if_neg c, bF c]; rfl
noncomputable def cmpK (N P g h : Nat) : Bool := kif (Nat.beq (od 20 g) (od 20 h)) (Nat.beq (digK P (Nat.mod g N)) (digK P (Nat.mod h N))) (kif (Nat.beq (Nat.mod (od 20 h) (od 20 g)) 0) (Nat.blt (digK P (Nat.mod g N)) (digK P (Nat.mod h N))) true)
noncomputable def checkV (N P : Nat) : Bool := allK (fun g => allK (fun h => cmpK N P g h) (divsK N N [])) (divsK N N [])
noncomputable def checkC (N : Nat) : Bool := checkV N (polyK N (Nat.pred N))
set_option maxHeartbeats 0 in
theorem checkC_all : upTo checkC 201 = true := by decide +kernel
theorem cmp_ok {N a b : Nat} (h1 : 1 ≤ N) (h2 : N ≤ 201) (ha : a < N) (hb : b < N) : (od 20 (Nat.gcd N a) = od 20 (Nat.gcd N b) → cnt N (N - 1) a = cnt N (N - 1) b) ∧
    (od 20 (Nat.gcd N a) ≠ od 20 (Nat.gcd N b) → od 20 (Nat.gcd N b) % od 20 (Nat.gcd N a) = 0 → cnt N (N - 1) a < cnt N (N - 1) b) := by
  have h := upTo_ok checkC_all N h1 h2
  unfold checkC checkV at h
  rw [← divs_eq] at h
  have gm : ∀ r, Nat.gcd N r ∈ divs N := fun r => mem_divs.mpr ⟨Nat.gcd_pos_of_pos_left r (by omega), Nat.gcd_le_left r (by omega), Nat.mod_eq_zero_of_dvd (Nat.gcd_dvd_left N r)⟩
  have c := allK_ok (allK_ok h _ (gm a)) _ (gm b)
  have dg : ∀ r, digK (polyK N (Nat.pred N)) (r % N) = cnt N (N - 1) (r % N) := fun r => digK_eq (n := N - 1) (by omega) (by omega) (Nat.mod_lt _ (by omega))
  have ea := ((checkZ_1 h1 h2).1 a ha).1
  have eb := ((checkZ_1 h1 h2).1 b hb).1
  unfold cmpK at c
  rw [kif_eq, kif_eq] at c
  rw [ea, eb, ← dg, ← dg]
  constructor
  · intro e
    rw [bT e] at c
    exact Nat.eq_of_beq_eq_true c
  · intro e e2
    rw [bF e, bT (show Nat.mod _ _ = 0 from e2)] at c
    exact Nat.blt_eq.mp c
/-! ### how many words there are of each sum -/
theorem wsum_snoc (x : Int) : ∀ (o : Nat) (w : List Int), wsum o (w ++ [x]) = wsum o w + ((o : Int) + w.length + 1) * x
  | o, [] => by
    show ((o : Int) + 1) * x + 0 = 0 + _
    rw [Int.add_zero, Int.zero_add]
    show _ = ((o : Int) + 0 + 1) * x
    rw [Int.add_zero]
  | o, y :: w => by
    show ((o : Int) + 1) * y + wsum (o + 1) (w ++ [x]) = ((o : Int) + 1) * y + wsum (o + 1) w + _
    have e : (((o + 1 : Nat) : Int)) + (w.length : Int) + 1 = (o : Int) + ((w.length + 1 : Nat) : Int) + 1 := by omega
    rw [wsum_snoc x (o + 1) w, List.length_cons, e]
    omega
theorem mod_back {s : Int} {m k r : Nat} (hm : 0 < m) (hr : r < m) : ((s + k) % (m : Int) = r) ↔ (s % (m : Int) = ((r + m - k % m) % m : Nat)) := by
  have hk := Nat.div_add_mod k m
  have hl := Nat.mod_lt k hm
  have er : (r : Int) = (r : Int) % m := (Int.emod_eq_of_lt (by omega) (by omega)).symm
  have e3 : (k : Int) = (m : Int) * ((k / m : Nat) : Int) + ((k % m : Nat) : Int) := by
    have : (k : Int) = ((m * (k / m) + k % m : Nat) : Int) := by rw [hk]
    rw [this, Int.natCast_add, Int.natCast_mul]
  have e4 : (((r + m - k % m) % m : Nat) : Int) = ((r : Int) + m - ((k % m : Nat) : Int)) % m := by
    rw [Int.natCast_emod]; congr 1; omega
  rw [e4, Int.emod_eq_emod_iff_emod_sub_eq_zero]
  conv => lhs; rhs; rw [er]
  rw [Int.emod_eq_emod_iff_emod_sub_eq_zero]
  have e5 : s - ((r : Int) + m - ((k % m : Nat) : Int)) = (s + k - r) + (m : Int) * (-(((k / m : Nat) : Int)) - 1) := by
    rw [Int.mul_sub, Int.mul_neg, Int.mul_one, e3]
    omega
  rw [e5, Int.add_mul_emod_self_left]
def hasR (m r : Nat) (w : List Int) : Bool := decide (wsum 0 w % (m : Int) = r)
theorem count_longer {m n r : Nat} (hm : 0 < m) (hr : r < m) : ∀ ws : List (List Int), (∀ w ∈ ws, w.length = n) → (ws.flatMap (longer 2)).countP (hasR m r) = ws.countP (hasR m r) + ws.countP (hasR m ((r + m - (n + 1) % m) % m))
  | [], _ => rfl
  | w :: ws, h => by
    have ih := count_longer hm hr ws fun w hw => h w (List.mem_cons_of_mem _ hw)
    have hw := h w List.mem_cons_self
    have e0 : hasR m r (w ++ [0]) = hasR m r w := by
      unfold hasR; rw [wsum_snoc, Int.mul_zero, Int.add_zero]
    have e1 : hasR m r (w ++ [1]) = hasR m ((r + m - (n + 1) % m) % m) w := by
      unfold hasR
      rw [wsum_snoc, Int.mul_one, hw]
      have := mod_back (s := wsum 0 w) (k := n + 1) hm hr
      rw [show ((0 : Nat) : Int) + (n : Int) + 1 = ((n + 1 : Nat) : Int) by omega]
      exact decide_eq_decide.mpr this
    have el : longer 2 w = [w ++ [0], w ++ [1]] := rfl
    rw [List.flatMap_cons, List.countP_append, ih, el, List.countP_cons, List.countP_cons, List.countP_nil, List.countP_cons, List.countP_cons, e0, e1]
    omega
theorem count_words {m : Nat} (hm : 0 < m) : ∀ (n r : Nat), r < m → (allW 2 n).countP (hasR m r) = cnt m n r
  | 0, r, hr => by
    show [[]].countP (hasR m r) = cnt m 0 r
    rw [List.countP_cons, List.countP_nil]
    unfold hasR cnt
    show 0 + (if decide ((0 : Int) % m = r) = true then 1 else 0) = _
    rw [Int.zero_emod]
    by_cases c : r = 0
    · subst c; rfl
    · rw [if_neg c, if_neg (by rw [decide_eq_true_eq]; omega)]
  | n + 1, r, hr => by
    show ((allW 2 n).flatMap (longer 2)).countP (hasR m r) = _
    rw [count_longer hm hr _ fun w hw => (mem_allW.mp hw).1, count_words hm n r hr, count_words hm n _ (Nat.mod_lt _ hm)]
    rfl
theorem sum_all : below (fun n => Nat.beq ((List.range (n + 1)).map (cnt (n + 1) n)).sum (2 ^ n)) 11 = true := by decide +kernel
theorem sum_cnt {n : Nat} (h : n ≤ 10) : ((List.range (n + 1)).map (cnt (n + 1) n)).sum = 2 ^ n := Nat.eq_of_beq_eq_true (below_ok sum_all n (by omega))
end Mine

namespace Mine
open PySem PySem.Spec PyProof.Rows L2
local macro_rules | `(tactic| walk_at "wp") => `(tactic| try simp -implicitDefEqProofs only [eFld_W, eFldS_W, sSetF_W, eMeth_W, eMeth0_W, eProp_W, mkI_W, mkI0_W, eVarD_W, eDic_W, eGet1_W, eGet2_W, eAtD_W, eInD_W, eNotInD_W, sOwnD_W, sPutD_W, Bool.false_eq_true, LINE_W, line0, line1, line2, line3, line4, line5, line6, line7, line8, line9, line10, line11, line12, take_W, Int.reduceLT, Int.reduceLE, Int.reduceNeg, mkD_W, mkD0_W, sSeq_W, sAsg_W, sRet_W, sRetN_W, sIf_W, sNext_W, sDrop_W, sBreak_W, sCont_W, sOwn_W, sPar_W, sPar3_W, sFrz_W, frz_W, fz_lst, fz_dk, fz_dt, sApp_W, sExt_W, sPop_W, sPopTo_W, sPut_W, sAugP_W, sAug_W, sFor_W, sRaise_W, sRaise1_W, gD_W, gD2_W, gD3_W, eVar_W, eVarB_W, eC_W, eOp_W, eUn_W, eCB_W, eNil_W, eCons_W, eConsS_W, eConsH_W, eTup_W, eLst_W, eCall_W, eCall0_W, eTest_W, eNotT_W, eAndT_W, eOrT_W, eTru_W, dTru_non, dTru_bl, dTru_int, dTru_lst, dTru_tup, dTru_str, dTru_dk, eBool_W, eAndV_W, eOrV_W, eNotV_W, eNotVT_W, eIf_W, eChain_W, eLc_W, eLc2_W, eYes_W, eSeq_W, eRng1_W, eRng2_W, eEnum_W, eZip_W, eSl_W, ePart_W, eNoPart_W, eRev_W, eRevL_W, eDk0_W, dAdd_int, dAdd_lst, dAdd_tup, dAdd_str, dAddL_lst, dSub_int, dMul_int, dMul_lst, dMulL_lst, dMul_tup, dFdiv_int, dMod_int, dPow_int, dShl_int, dShr_int, dLe_int, dLt_int, dGt_int, dGe_int, dNeg_int, isa_seq2, isLs_lst, isLs_tup, Bool.or_false, Bool.or_true, Bool.true_or, Bool.false_or, Bool.and_true, Bool.true_and, Bool.and_false, Bool.false_and, isSeq_lst, isSeq_tup, isTp_tup, isTp_lst, isTp_non, isTp_int, isTp_str, isW_int, dIsN_W, dNotN_W, isN_non, isN_int, isN_bl, isN_str, isN_tup, isN_lst, isN_dk, isN_dt, isN_ins, dIx_W, dSl_W, dSlL_W, dLen_W, dInt_W, dStr_W, dAbs_W, dMax2_W, dMin2_W, dTupOf_W, dLstOf_W, dIsi_W, dIsi2_W, kn_int, kn_bl, kn_non, kn_str, kn_tup, kn_lst, kn_dk, kn_dt, isa_int_int, isa_int_bool, isa_tup_tup, isa_bl_bool, isa_seq_tup, isa_seq_lst, isa_int, isa_bool, isa_seq, isa_tup, isa_str, isa_lst, dEq_int, dNe_int, Dt.flat, wipeS, List.getElem?_cons_zero, List.getElem?_cons_succ, List.set_cons_zero, List.set_cons_succ, List.replicate, List.append_nil, List.cons_append, List.nil_append, List.length_cons, List.length_nil, Nat.reduceAdd, Nat.reduceSub, Nat.zero_add, Option.isSome_some, Bool.true_eq_false, Bool.false_eq_true, if_true, if_false, ite_true, ite_false, eq_self, not_true_eq_false, not_false_eq_true, true_and, and_true, decide_eq_true_eq, Bool.not_true, Bool.not_false, Bool.not_eq_true', decide_eq_false_iff_not, decide_true, decide_false, List.length_map, List.map_cons, List.map_nil, Option.some.injEq, reduceCtorEq, Bool.not_eq_eq_eq_not, eEnumK_W, eDk1_W, eXf_W, eIsX_W, sTry_W, sKeep_W, eZipS_W, eRgL_W, mkG_W, gPlain_W, gSeq_W, gNext_W, gIf_W, gYield_W, gFor_W])
theorem law_is_number_ok {i j : Int} {Q : Dt → Prop} {E : Xc → Prop} (k : Q (.bl (decide (i = j)))) : F_law_is_number [.d (.int i), .d (.int j)] Q E := by
  rw [F_law_is_number_eq]; unfold S_law_is_number
  walk_at "wp"
  exact k
theorem od_pos : ∀ f x : Nat, 1 ≤ x → 1 ≤ od f x
  | 0, x, h => h
  | f + 1, x, h => by
    rw [od_s]
    split
    · exact h
    · exact od_pos f _ (by omega)
theorem law_odd_ok {x : Nat} {Q : Dt → Prop} {E : Xc → Prop} (k : Q (.int (od 20 x : Nat))) : F_law_odd [.d (.int x)] Q E := by
  rw [F_law_odd_eq]; unfold S_law_odd
  walk_at "wp"
  refine ⟨by decide, ?_⟩
  refine dFor_inv (fun i e => ∃ (y : Nat) (s : Sl), e = [.d (.int x), .d (.int y), s] ∧ i ≤ 20 ∧ od (20 - i) y = od 20 x) ⟨x, _, rfl, by omega, rfl⟩ ?_ ?_
  · rintro i z _ K B hx ⟨y, s, rfl, hi, h⟩ hK
    obtain ⟨hi2, rfl⟩ := rng_get hx
    have hi2 : i < 20 := by simpa using hi2
    rw [show 20 - i = (19 - i) + 1 by omega, od_s] at h
    walk_at "wp"
    refine iteQ (fun c => ?_) fun c => ?_
    · refine B.2 _ ?_
      walk_at "wp"
      rw [if_pos (by omega)] at h
      rw [h]; exact k
    · rw [if_neg (by omega)] at h
      refine ⟨by unfold CDiv; omega, hK _ ⟨y / 2, _, by rw [show ((y / 2 : Nat) : Int) = (y : Int) / 2 by omega], by omega, by rw [show 20 - (i + 1) = 19 - i by omega]; exact h⟩⟩
  · rintro _ ⟨y, s, rfl, hi, h⟩
    rw [List.length_map, List.length_range] at h
    have h : y = od 20 x := h
    walk_at "wp"
    rw [h]; exact k
theorem odd_part_ok {x : Nat} {Q : Dt → Prop} {E : Xc → Prop} (h1 : 1 ≤ x) (h2 : x ≤ 2000) (k : Q (.int (od 20 x : Nat))) : F_odd_part [.d (.int x)] Q E := by
  rw [F_odd_part_eq]; unfold S_odd_part
  walk_at "wp"
  refine num_in (by omega) (by omega) ?_
  walk_at "wp"
  refine ⟨fun f e => ∃ (y : Nat), e = [.d (.int y)] ∧ f ≤ 20 ∧ 1 ≤ y ∧ y < 2 ^ f ∧ od f y = od 20 x, 20, ⟨x, rfl, by omega, h1, Nat.lt_of_le_of_lt h2 (by decide), rfl⟩, ?_⟩
  rintro f _ ⟨y, rfl, hf, hy, hyf, h⟩
  walk_at "wp"
  cases f with
  | zero => omega
  | succ f =>
    rw [od_s] at h
    refine iteQ (fun c => ?_) fun c => ?_
    · rw [if_neg (by omega)] at h
      rw [Nat.pow_succ] at hyf
      exact ⟨by unfold CDiv; omega, f, by omega, y / 2, by rw [show ((y / 2 : Nat) : Int) = (y : Int) / 2 by omega], by omega, by omega, by omega, h⟩
    · rw [if_pos (by omega)] at h
      rw [h]; exact k
/-! ### the greatest common divisor, by steps -/
def eu : Nat → Nat → Nat → Nat
  | 0, _, high => high
  | f + 1, low, high => if low = 0 then high else eu f (high % low) low
theorem eu_z (f high : Nat) : eu f 0 high = high := by cases f <;> rfl
theorem eu_ok : ∀ (j f low high : Nat), low < 2 ^ j → 2 * j ≤ f → eu f low high = Nat.gcd low high
  | 0, f, low, high, h, _ => by
    have : low = 0 := by rw [Nat.pow_zero] at h; omega
    rw [this, eu_z, Nat.gcd_zero_left]
  | j + 1, f, low, high, h, hf => by
    obtain ⟨g, rfl⟩ : ∃ g, f = g + 2 := ⟨f - 2, by omega⟩
    by_cases c : low = 0
    · rw [c, eu_z, Nat.gcd_zero_left]
    · have e : eu (g + 2) low high = eu (g + 1) (high % low) low := by show (if low = 0 then high else _) = _; rw [if_neg c]
      rw [e, Nat.gcd_rec low high]
      by_cases c2 : high % low = 0
      · rw [c2, eu_z, Nat.gcd_zero_left]
      · have e2 : eu (g + 1) (high % low) low = eu g (low % (high % low)) (high % low) := by show (if high % low = 0 then low else _) = _; rw [if_neg c2]
        have l1 : high % low < low := Nat.mod_lt _ (by omega)
        have l2 : low % (high % low) < high % low := Nat.mod_lt _ (by omega)
        have l3 := Nat.div_add_mod low (high % low)
        have l4 : 1 ≤ low / (high % low) := Nat.div_pos (by omega) (by omega)
        have l5 : (high % low) * 1 ≤ (high % low) * (low / (high % low)) := Nat.mul_le_mul_left _ l4
        rw [Nat.pow_succ] at h
        rw [e2, eu_ok j g _ _ (by omega) (by omega), ← Nat.gcd_rec]
theorem law_gcd_ok {a b : Nat} {Q : Dt → Prop} {E : Xc → Prop} (ha : a ≤ 2000) (k : Q (.int (Nat.gcd a b : Nat))) : F_law_gcd [.d (.int a), .d (.int b)] Q E := by
  rw [F_law_gcd_eq]; unfold S_law_gcd
  walk_at "wp"
  refine ⟨by decide, ?_⟩
  refine dFor_inv (fun i e => ∃ (low high : Nat) (s : Sl), e = [.d (.int a), .d (.int b), .d (.int low), .d (.int high), s] ∧ eu (60 - i) low high = Nat.gcd a b) ⟨a, b, _, rfl, eu_ok 11 60 a b (Nat.lt_of_le_of_lt ha (by decide)) (by omega)⟩ ?_ ?_
  · rintro i z _ K B hx ⟨low, high, s, rfl, h⟩ hK
    obtain ⟨hi2, rfl⟩ := rng_get hx
    have hi2 : i < 60 := by simpa using hi2
    rw [show 60 - i = (59 - i) + 1 by omega] at h
    have h : (if low = 0 then high else eu (59 - i) (high % low) low) = Nat.gcd a b := h
    walk_at "wp"
    refine iteQ (fun c => ?_) fun c => ?_
    · refine B.2 _ ?_
      walk_at "wp"
      rw [if_pos (by omega)] at h
      rw [h]; exact k
    · rw [if_neg (by omega)] at h
      refine ⟨by omega, hK _ ⟨high % low, low, _, by rw [Int.natCast_emod], by rw [show 60 - (i + 1) = 59 - i by omega]; exact h⟩⟩
  · rintro _ ⟨low, high, s, rfl, h⟩
    rw [List.length_map, List.length_range] at h
    have h : high = Nat.gcd a b := h
    walk_at "wp"
    rw [h]; exact k
theorem common_divisor_ok {a b : Nat} {Q : Dt → Prop} {E : Xc → Prop} (ha : a ≤ 2000) (hb : b ≤ 2000) (k : Q (.int (Nat.gcd a b : Nat))) : F_common_divisor [.d (.int a), .d (.int b)] Q E := by
  rw [F_common_divisor_eq]; unfold S_common_divisor
  walk_at "wp"
  refine num_in (by omega) (by omega) ?_
  walk_at "wp"
  refine num_in (by omega) (by omega) ?_
  walk_at "wp"
  rw [dGcd_W]
  exact k
theorem law_compared_ok {n a b : Nat} {Q : Dt → Prop} {E : Xc → Prop} (hn : n ≤ 200) (ha : a ≤ n) (hb : b ≤ n) (k : Q (.bl true)) : F_law_compared [.d (.int n), .d (.int a), .d (.int b), .d (.int (cnt (n + 1) n a : Nat)), .d (.int (cnt (n + 1) n b : Nat))] Q E := by
  obtain ⟨k1, k2⟩ := cmp_ok (N := n + 1) (a := a) (b := b) (by omega) (by omega) (by omega) (by omega)
  obtain ⟨_, k3⟩ := cmp_ok (N := n + 1) (a := b) (b := a) (by omega) (by omega) (by omega) (by omega)
  rw [show n + 1 - 1 = n from rfl] at k1 k2 k3
  have en : ((n : Int) + 1) = ((n + 1 : Nat) : Int) := by omega
  have ga : ∀ r, 1 ≤ Nat.gcd (n + 1) r ∧ Nat.gcd (n + 1) r ≤ 2000 := fun r => ⟨Nat.gcd_pos_of_pos_left r (by omega), Nat.le_trans (Nat.gcd_le_left r (by omega)) (by omega)⟩
  rw [F_law_compared_eq]; unfold S_law_compared
  walk_at "wp"
  rw [en]
  refine common_divisor_ok (by omega) (by omega) ?_
  refine odd_part_ok (ga a).1 (ga a).2 ?_
  refine common_divisor_ok (by omega) (by omega) ?_
  refine odd_part_ok (ga b).1 (ga b).2 ?_
  walk_at "wp"
  refine law_gcd_ok (by omega) ?_
  refine law_odd_ok ?_
  have pa := od_pos 20 _ (ga a).1
  have pb := od_pos 20 _ (ga b).1
  have tail : (if (od 20 (Nat.gcd (n + 1) a) : Int) = (od 20 (Nat.gcd (n + 1) b) : Int) then Q (.bl (decide ((cnt (n + 1) n a : Int) = (cnt (n + 1) n b : Int)))) else
      0 < (od 20 (Nat.gcd (n + 1) a) : Int) ∧ if (od 20 (Nat.gcd (n + 1) b) : Int) % (od 20 (Nat.gcd (n + 1) a) : Int) = 0 then Q (.bl (decide ((cnt (n + 1) n a : Int) < (cnt (n + 1) n b : Int)))) else
        0 < (od 20 (Nat.gcd (n + 1) b) : Int) ∧ if ¬ (od 20 (Nat.gcd (n + 1) a) : Int) % (od 20 (Nat.gcd (n + 1) b) : Int) = 0 then Q (.bl true) else Q (.bl (decide ((cnt (n + 1) n b : Int) < (cnt (n + 1) n a : Int))))) := by
    generalize od 20 (Nat.gcd (n + 1) a) = l at *
    generalize od 20 (Nat.gcd (n + 1) b) = r at *
    refine iteQ (fun c => ?_) fun c => ⟨by omega, iteQ (fun c2 => ?_) fun c2 => ⟨by omega, iteQ (fun c3 => k) fun c3 => ?_⟩⟩
    · rw [k1 (by omega), decide_eq_true rfl]; exact k
    · have := k2 (by omega) (by exact_mod_cast c2)
      rw [decide_eq_true (by omega)]; exact k
    · have := k3 (by omega) (by exact_mod_cast Classical.not_not.mp c3)
      rw [decide_eq_true (by omega)]; exact k
  walk_at "wp"
  refine law_gcd_ok (by omega) ?_
  refine law_odd_ok ?_
  walk_at "wp"
  exact tail
end Mine

namespace Mine
open PySem PySem.Spec PyProof.Rows L2
local macro_rules | `(tactic| walk_at "wp") => `(tactic| try simp -implicitDefEqProofs only [eFld_W, eFldS_W, sSetF_W, eMeth_W, eMeth0_W, eProp_W, mkI_W, mkI0_W, eVarD_W, eDic_W, eGet1_W, eGet2_W, eAtD_W, eInD_W, eNotInD_W, sOwnD_W, sPutD_W, Bool.false_eq_true, LINE_W, line0, line1, line2, line3, line4, line5, line6, line7, line8, line9, line10, line11, line12, take_W, Int.reduceLT, Int.reduceLE, Int.reduceNeg, mkD_W, mkD0_W, sSeq_W, sAsg_W, sRet_W, sRetN_W, sIf_W, sNext_W, sDrop_W, sBreak_W, sCont_W, sOwn_W, sPar_W, sPar3_W, sFrz_W, frz_W, fz_lst, fz_dk, fz_dt, sApp_W, sExt_W, sPop_W, sPopTo_W, sPut_W, sAugP_W, sAug_W, sFor_W, sRaise_W, sRaise1_W, gD_W, gD2_W, gD3_W, eVar_W, eVarB_W, eC_W, eOp_W, eUn_W, eCB_W, eNil_W, eCons_W, eConsS_W, eConsH_W, eTup_W, eLst_W, eCall_W, eCall0_W, eTest_W, eNotT_W, eAndT_W, eOrT_W, eTru_W, dTru_non, dTru_bl, dTru_int, dTru_lst, dTru_tup, dTru_str, dTru_dk, eBool_W, eAndV_W, eOrV_W, eNotV_W, eNotVT_W, eIf_W, eChain_W, eLc_W, eLc2_W, eYes_W, eSeq_W, eRng1_W, eRng2_W, eEnum_W, eZip_W, eSl_W, ePart_W, eNoPart_W, eRev_W, eRevL_W, eDk0_W, dAdd_int, dAdd_lst, dAdd_tup, dAdd_str, dAddL_lst, dSub_int, dMul_int, dMul_lst, dMulL_lst, dMul_tup, dFdiv_int, dMod_int, dPow_int, dShl_int, dShr_int, dLe_int, dLt_int, dGt_int, dGe_int, dNeg_int, isa_seq2, isLs_lst, isLs_tup, Bool.or_false, Bool.or_true, Bool.true_or, Bool.false_or, Bool.and_true, Bool.true_and, Bool.and_false, Bool.false_and, isSeq_lst, isSeq_tup, isTp_tup, isTp_lst, isTp_non, isTp_int, isTp_str, isW_int, dIsN_W, dNotN_W, isN_non, isN_int, isN_bl, isN_str, isN_tup, isN_lst, isN_dk, isN_dt, isN_ins, dIx_W, dSl_W, dSlL_W, dLen_W, dInt_W, dStr_W, dAbs_W, dMax2_W, dMin2_W, dTupOf_W, dLstOf_W, dIsi_W, dIsi2_W, kn_int, kn_bl, kn_non, kn_str, kn_tup, kn_lst, kn_dk, kn_dt, isa_int_int, isa_int_bool, isa_tup_tup, isa_bl_bool, isa_seq_tup, isa_seq_lst, isa_int, isa_bool, isa_seq, isa_tup, isa_str, isa_lst, dEq_int, dNe_int, Dt.flat, wipeS, List.getElem?_cons_zero, List.getElem?_cons_succ, List.set_cons_zero, List.set_cons_succ, List.replicate, List.append_nil, List.cons_append, List.nil_append, List.length_cons, List.length_nil, Nat.reduceAdd, Nat.reduceSub, Nat.zero_add, Option.isSome_some, Bool.true_eq_false, Bool.false_eq_true, if_true, if_false, ite_true, ite_false, eq_self, not_true_eq_false, not_false_eq_true, true_and, and_true, decide_eq_true_eq, Bool.not_true, Bool.not_false, Bool.not_eq_true', decide_eq_false_iff_not, decide_true, decide_false, List.length_map, List.map_cons, List.map_nil, Option.some.injEq, reduceCtorEq, Bool.not_eq_eq_eq_not, eEnumK_W, eDk1_W, eXf_W, eIsX_W, sTry_W, sKeep_W, eZipS_W, eRgL_W, mkG_W, gPlain_W, gSeq_W, gNext_W, gIf_W, gYield_W, gFor_W])
/-! ### all words by a comprehension of two clauses -/
theorem lcIn_map {α : Type} {f : DGX} {te : DX} {env : List Sl} {K : List Dt → Prop} (e g : α → Dt) : ∀ {xs : List α} {acc : List Dt}, (∀ x ∈ xs, ∀ K1 : Dt → Prop, K1 (g x) → f (e x) env fun env' => te env' K1 (fun _ => False)) →
    acc.length + xs.length ≤ 16777216 → K (acc ++ xs.map g) → lcIn f eYes te env K (xs.map e) acc := by
  intro xs
  induction xs with
  | nil => intro acc _ _ q; rw [List.map_nil, List.append_nil] at q; exact q
  | cons x xs ih =>
    intro acc step hl q
    rw [List.length_cons] at hl
    refine step x List.mem_cons_self (fun y => acc.length < LINE ∧ lcIn f eYes te env K (xs.map e) (acc ++ [y])) ⟨by show acc.length < 16777216; omega, ih (fun y hy => step y (List.mem_cons_of_mem _ hy)) (by rw [List.length_append]; show acc.length + 1 + _ ≤ _; omega) ?_⟩
    rw [List.append_assoc]; exact q
theorem lc2_map {α : Type} {f : DGX} {src1 : DAX} {f1 : DGX} {te : DX} {vs1 : List Nat} {env : List Sl} {Q : Dt → Prop} (e : α → Dt) (h : α → List Dt) : ∀ {xs : List α} {acc : List Dt},
    (∀ x ∈ xs, ∀ (acc : List Dt) (K1 : List Dt → Prop), acc.length ≤ 8000000 → K1 (acc ++ h x) → f (e x) env fun env' => src1 env' (fun ds1 => lcIn f1 eYes te (wipeS env' vs1) K1 ds1 acc) (fun _ => False)) →
    (acc ++ xs.flatMap h).length ≤ 8000000 → Q (.lst (acc ++ xs.flatMap h)) → lcGo2 f eYes src1 f1 eYes te vs1 env Q (xs.map e) acc := by
  intro xs
  induction xs with
  | nil => intro acc _ _ q; rw [List.flatMap_nil, List.append_nil] at q; exact q
  | cons x xs ih =>
    intro acc step hl q
    rw [List.flatMap_cons, ← List.append_assoc] at hl q
    have hl2 := hl
    rw [List.length_append, List.length_append] at hl2
    exact step x List.mem_cons_self acc _ (by omega) (ih (fun y hy => step y (List.mem_cons_of_mem _ hy)) hl q)
theorem all_words_ok {q n : Nat} {Q : Dt → Prop} {E : Xc → Prop} (hq : 0 < q) (hq2 : q < 1000) (hn : n < 1000) (hp : q ^ n ≤ 1000000) (k : Q (.lst ((allW q n).map iT))) : F_all_words [.d (.int q), .d (.int n)] Q E := by
  rw [F_all_words_eq]; unfold S_all_words
  walk_at "wp"
  refine ⟨by omega, ?_⟩
  refine dFor_inv (fun i e => ∃ s3 s4 s5, e = [.d (.int q), .d (.int n), .d (.lst ((allW q i).map iT)), s3, s4, s5]) ⟨_, _, _, rfl⟩ ?_ ?_
  · rintro i x _ K B hx ⟨s3, s4, s5, rfl⟩ hK
    obtain ⟨hi, rfl⟩ := rng_get hx
    have hi : i < n := by simpa using hi
    have hpow : q ^ (i + 1) ≤ q ^ n := Nat.pow_le_pow_right hq (by omega)
    walk_at "wp"
    refine lc2_map iT (fun u => (longer q u).map iT) (fun u hu acc K1 ha h => ?_) ?_ ?_
    · have hl := (mem_allW.mp hu).1
      walk_at "wp"
      refine ⟨by omega, ?_⟩
      refine lcIn_map (e := fun i : Nat => Dt.int (i : Nat)) (fun i : Nat => iT (u ++ [(i : Int)])) (fun x hx K2 h2 => ?_) (by rw [List.length_range]; omega) ?_
      · walk_at "wp"
        refine ⟨by rw [hl]; omega, ?_⟩
        have e2 : iT (u ++ [(x : Int)]) = Dt.tup (u.map Dt.int ++ [Dt.int x]) := by
          show Dt.tup _ = _
          rw [List.map_append]; rfl
        rw [e2] at h2
        exact h2
      · have e : (longer q u).map iT = (List.range q).map fun i : Nat => iT (u ++ [(i : Int)]) := by unfold longer; rw [List.map_map]; rfl
        rw [e] at h
        exact h
    · have e : (allW q i).flatMap (fun u => (longer q u).map iT) = (allW q (i + 1)).map iT := by
        show _ = ((allW q i).flatMap (longer q)).map iT
        rw [List.map_flatMap]
      rw [List.nil_append, e, List.length_map, allW_len]; omega
    · have e : (allW q i).flatMap (fun u => (longer q u).map iT) = (allW q (i + 1)).map iT := by
        show _ = ((allW q i).flatMap (longer q)).map iT
        rw [List.map_flatMap]
      rw [List.nil_append, e]
      walk_at "wp"
      exact hK _ ⟨_, _, _, rfl⟩
  · rintro _ ⟨s3, s4, s5, rfl⟩
    rw [List.length_map, List.length_range]
    walk_at "wp"
    exact k
/-! ### a generator's loop -/
theorem dGFor_inv {f : DGX} {b : DGt} {nx : List Dt → List Sl → Prop} {xc : List Sl → Xc → Prop} (I : Nat → List Dt → List Sl → Prop) : ∀ {xs acc : List Dt} {env : List Sl}, I 0 acc env →
    (∀ (i : Nat) (x : Dt) (acc : List Dt) (e : List Sl) (K : List Dt → List Sl → Prop), xs[i]? = some x → I i acc e → (∀ a' e', I (i + 1) a' e' → K a' e') → f x e fun e' => b ⟨K, xc⟩ acc e') → (∀ acc e, I xs.length acc e → nx acc e) → dGFor f b ⟨nx, xc⟩ xs acc env := by
  intro xs
  induction xs generalizing I with
  | nil => intro acc env h0 _ fin; exact fin _ _ h0
  | cons x xs ih =>
    intro acc env h0 step fin
    refine step 0 x acc env _ rfl h0 fun a' e' h1 => ?_
    exact ih (fun i => I (i + 1)) h1 (fun i y acc e K e1 => step (i + 1) y acc e K (by simpa using e1)) fin
local macro_rules | `(tactic| walk_at "fl") => `(tactic| try simp only [bk, ftab_SumBook_length, ftab_SumBook_modulus, ftab_SumBook_rest, look_SumBook_length, look_SumBook_modulus, look_SumBook_rest, true_and, Option.some.injEq, exists_eq_left'])
theorem sum_members_ok {n m r : Nat} {Q : Dt → Prop} {E : Xc → Prop} (hn : n ≤ 14) (hm : 0 < m) (k : Q (.lst (((allW 2 n).filter (hasR m r)).map iT))) : F_sum_members [.d (bk n m r)] Q E := by
  have hp : 2 ^ n ≤ 2 ^ 14 := Nat.pow_le_pow_right (by decide) hn
  have h14 : (2 : Nat) ^ 14 ≤ 1000000 := by decide
  rw [F_sum_members_eq]; unfold S_sum_members
  walk_at "wp"
  walk_at "fl"
  walk_at "wp"
  rw [if_neg (by omega)]
  refine all_words_ok (q := 2) (by decide) (by decide) (by omega) (by omega) ?_
  walk_at "wp"
  refine dGFor_inv (fun i acc e => ∃ s, e = [.d (bk n m r), s] ∧ acc = (((allW 2 n).take i).filter (hasR m r)).map iT) ⟨_, rfl, by rw [List.take_zero]; rfl⟩ ?_ ?_
  · rintro i x _ _ K hx ⟨s, rfl, rfl⟩ hK
    obtain ⟨w, hw, rfl⟩ := map_get hx
    have hw2 := mem_allW.mp (List.mem_of_getElem? hw)
    have hb : Bits w := fun x hx => by have := hw2.2 x hx; omega
    have hlen : ((((allW 2 n).take i).filter (hasR m r)).map iT).length < 16777216 := by
      rw [List.length_map]
      have h1 := List.length_filter_le (hasR m r) ((allW 2 n).take i)
      have h2 := List.length_take_le i (allW 2 n)
      have h3 := List.length_take (i := i) (l := allW 2 n)
      rw [allW_len] at h3
      omega
    walk_at "wp"
    refine sum_of_ok hb (by rw [hw2.1]; omega) ?_
    walk_at "fl"
    walk_at "wp"
    refine ⟨by omega, ?_⟩
    have step : ((((allW 2 n).take (i + 1)).filter (hasR m r)).map iT) = if wsum 0 w % (m : Int) = (r : Int) then ((((allW 2 n).take i).filter (hasR m r)).map iT) ++ [iT w] else ((((allW 2 n).take i).filter (hasR m r)).map iT) := by
      rw [take_snoc hw, List.filter_append, List.map_append]
      by_cases c : wsum 0 w % (m : Int) = (r : Int)
      · rw [if_pos c, List.filter_cons_of_pos (by unfold hasR; exact decide_eq_true c)]; rfl
      · rw [if_neg c, List.filter_cons_of_neg (by unfold hasR; rw [decide_eq_true_eq]; exact c)]; simp
    refine iteQ (fun c => ?_) fun c => ?_
    · rw [if_pos c] at step
      exact ⟨by rw [List.length_map] at hlen; exact hlen, hK _ _ ⟨_, rfl, step.symm⟩⟩
    · rw [if_neg c] at step
      exact hK _ _ ⟨_, rfl, step.symm⟩
  · rintro _ _ ⟨s, rfl, rfl⟩
    rw [List.length_map, List.take_length]
    walk_at "wp"
    exact k
end Mine

namespace Mine
open PySem PySem.Spec PyProof.Rows L2
local macro_rules | `(tactic| walk_at "wp") => `(tactic| try simp -implicitDefEqProofs only [eFld_W, eFldS_W, sSetF_W, eMeth_W, eMeth0_W, eProp_W, mkI_W, mkI0_W, eVarD_W, eDic_W, eGet1_W, eGet2_W, eAtD_W, eInD_W, eNotInD_W, sOwnD_W, sPutD_W, Bool.false_eq_true, LINE_W, line0, line1, line2, line3, line4, line5, line6, line7, line8, line9, line10, line11, line12, take_W, Int.reduceLT, Int.reduceLE, Int.reduceNeg, mkD_W, mkD0_W, sSeq_W, sAsg_W, sRet_W, sRetN_W, sIf_W, sNext_W, sDrop_W, sBreak_W, sCont_W, sOwn_W, sPar_W, sPar3_W, sFrz_W, frz_W, fz_lst, fz_dk, fz_dt, sApp_W, sExt_W, sPop_W, sPopTo_W, sPut_W, sAugP_W, sAug_W, sFor_W, sRaise_W, sRaise1_W, gD_W, gD2_W, gD3_W, eVar_W, eVarB_W, eC_W, eOp_W, eUn_W, eCB_W, eNil_W, eCons_W, eConsS_W, eConsH_W, eTup_W, eLst_W, eCall_W, eCall0_W, eTest_W, eNotT_W, eAndT_W, eOrT_W, eTru_W, dTru_non, dTru_bl, dTru_int, dTru_lst, dTru_tup, dTru_str, dTru_dk, eBool_W, eAndV_W, eOrV_W, eNotV_W, eNotVT_W, eIf_W, eChain_W, eLc_W, eLc2_W, eYes_W, eSeq_W, eRng1_W, eRng2_W, eEnum_W, eZip_W, eSl_W, ePart_W, eNoPart_W, eRev_W, eRevL_W, eDk0_W, dAdd_int, dAdd_lst, dAdd_tup, dAdd_str, dAddL_lst, dSub_int, dMul_int, dMul_lst, dMulL_lst, dMul_tup, dFdiv_int, dMod_int, dPow_int, dShl_int, dShr_int, dLe_int, dLt_int, dGt_int, dGe_int, dNeg_int, isa_seq2, isLs_lst, isLs_tup, Bool.or_false, Bool.or_true, Bool.true_or, Bool.false_or, Bool.and_true, Bool.true_and, Bool.and_false, Bool.false_and, isSeq_lst, isSeq_tup, isTp_tup, isTp_lst, isTp_non, isTp_int, isTp_str, isW_int, dIsN_W, dNotN_W, isN_non, isN_int, isN_bl, isN_str, isN_tup, isN_lst, isN_dk, isN_dt, isN_ins, dIx_W, dSl_W, dSlL_W, dLen_W, dInt_W, dStr_W, dAbs_W, dMax2_W, dMin2_W, dTupOf_W, dLstOf_W, dIsi_W, dIsi2_W, kn_int, kn_bl, kn_non, kn_str, kn_tup, kn_lst, kn_dk, kn_dt, isa_int_int, isa_int_bool, isa_tup_tup, isa_bl_bool, isa_seq_tup, isa_seq_lst, isa_int, isa_bool, isa_seq, isa_tup, isa_str, isa_lst, dEq_int, dNe_int, Dt.flat, wipeS, List.getElem?_cons_zero, List.getElem?_cons_succ, List.set_cons_zero, List.set_cons_succ, List.replicate, List.append_nil, List.cons_append, List.nil_append, List.length_cons, List.length_nil, Nat.reduceAdd, Nat.reduceSub, Nat.zero_add, Option.isSome_some, Bool.true_eq_false, Bool.false_eq_true, if_true, if_false, ite_true, ite_false, eq_self, not_true_eq_false, not_false_eq_true, true_and, and_true, decide_eq_true_eq, Bool.not_true, Bool.not_false, Bool.not_eq_true', decide_eq_false_iff_not, decide_true, decide_false, List.length_map, List.map_cons, List.map_nil, Option.some.injEq, reduceCtorEq, Bool.not_eq_eq_eq_not, eEnumK_W, eDk1_W, eXf_W, eIsX_W, sTry_W, sKeep_W, eZipS_W, eRgL_W, mkG_W, gPlain_W, gSeq_W, gNext_W, gIf_W, gYield_W, gFor_W])
theorem back_eq {k p m : Nat} (hm : 0 < m) (hk : k < m) : ((k : Int) - (p : Int)) % (m : Int) = ((k + m - p % m) % m : Nat) := by
  have h := (mod_back (s := (k : Int) - p) (k := p) hm hk).mp (by rw [Int.sub_add_cancel, Int.emod_eq_of_lt (by omega) (by omega)])
  exact h
theorem law_counts_ok {n m : Nat} {Q : Dt → Prop} {E : Xc → Prop} (hm : 1 ≤ m) (hm2 : m ≤ 1000) (hn : n ≤ 1000) (k : Q (.lst (nD ((List.range m).map (cnt m n))))) : F_law_counts [.d (.int n), .d (.int m)] Q E := by
  rw [F_law_counts_eq]; unfold S_law_counts
  walk_at "wp"
  have e0 : Dt.int 1 :: (List.replicate ((m : Int) - 1).toNat [Dt.int 0]).flatten = nD ((List.range m).map (cnt m 0)) := by
    obtain ⟨b, rfl⟩ : ∃ b, m = b + 1 := ⟨m - 1, by omega⟩
    rw [show (((b + 1 : Nat) : Int) - 1).toNat = b by omega]
    have e1 : ∀ b, (List.replicate b [Dt.int 0]).flatten = List.replicate b (Dt.int 0) := fun b => by
      induction b with
      | zero => rfl
      | succ b ih => rw [List.replicate_succ, List.flatten_cons, ih]; rfl
    rw [e1, List.range_succ_eq_map, List.map_cons, List.map_map]
    show Dt.int 1 :: List.replicate b (Dt.int 0) = Dt.int 1 :: _
    congr 1
    rw [List.map_map]
    refine List.ext_getElem (by simp) fun i h1 h2 => ?_
    simp [cnt]
  refine ⟨⟨by omega, by omega, by simp; omega⟩, ?_⟩
  rw [e0]
  refine ⟨by rw [List.length_flatten]; simp; omega, ?_⟩
  refine ⟨by omega, ?_⟩
  rw [show ((n : Int) + 1 - 1).toNat = n by omega]
  refine dFor_inv (fun i e => ∃ s3 s4, e = [.d (.int n), .d (.int m), .d (.lst (nD ((List.range m).map (cnt m i)))), s3, s4]) ⟨_, _, rfl⟩ ?_ ?_
  · rintro i x _ K B hx ⟨s3, s4, rfl⟩ hK
    obtain ⟨j, hj, rfl⟩ := map_get hx
    have ej : j = i := by
      obtain ⟨h1, h2⟩ := List.getElem?_eq_some_iff.mp hj
      rw [List.getElem_range] at h2; exact h2.symm
    subst ej
    walk_at "wp"
    refine ⟨by omega, ?_⟩
    refine lc_map (e := fun i : Nat => Dt.int (i : Nat)) (fun i : Nat => Dt.int ((cnt m (j + 1) i : Nat) : Int)) (fun x hx K1 h1 => ?_) (by rw [List.length_range]; omega) ?_
    · have hx := List.mem_range.mp hx
      have hx : x < m := by simpa using hx
      walk_at "wp"
      have lr : (List.map (cnt m j) (List.range m)).length = m := by rw [List.length_map, List.length_range]
      refine ix_map (e := fun d : Nat => Dt.int d) (n := x) rfl (by rw [lr]; exact hx) ?_
      walk_at "wp"
      refine ⟨by omega, ?_⟩
      rw [show (1 + (j : Int)) = ((j + 1 : Nat) : Int) by omega, back_eq (by omega) hx]
      have hl : (x + m - (j + 1) % m) % m < m := Nat.mod_lt _ (by omega)
      refine ix_map (e := fun d : Nat => Dt.int d) (n := (x + m - (j + 1) % m) % m) rfl (by rw [lr]; exact hl) ?_
      rw [List.getElem_map, List.getElem_map, List.getElem_range, List.getElem_range]
      walk_at "wp"
      rw [← Int.natCast_add]
      exact h1
    · walk_at "wp"
      have e1 : (List.map (fun i : Nat => Dt.int ((cnt m (j + 1) i : Nat) : Int)) (List.range (m : Int).toNat)) = nD ((List.range m).map (cnt m (j + 1))) := by
        unfold nD; rw [List.map_map]; rfl
      rw [e1]
      exact hK _ ⟨_, _, rfl⟩
  · rintro _ ⟨s3, s4, rfl⟩
    rw [List.length_map, List.length_range]
    walk_at "wp"
    exact k
theorem law_power_ok {n : Nat} {Q : Dt → Prop} {E : Xc → Prop} (hn : n ≤ 60) (k : Q (.int ((2 ^ n : Nat) : Int))) : F_law_power [.d (.int 2), .d (.int n)] Q E := by
  rw [F_law_power_eq]; unfold S_law_power
  walk_at "wp"
  refine ⟨by omega, ?_⟩
  refine dFor_inv (fun i e => ∃ s3, e = [.d (.int 2), .d (.int n), .d (.int ((2 ^ i : Nat) : Int)), s3] ∧ i ≤ n) ⟨_, rfl, by omega⟩ ?_ ?_
  · rintro i x _ K B hx ⟨s3, rfl, hi⟩ hK
    obtain ⟨hi, rfl⟩ := rng_get hx
    have hi : i < n := by simpa using hi
    have h1 : 2 ^ i ≤ 2 ^ 60 := Nat.pow_le_pow_right (by decide) (by omega)
    have h2 : (2 : Nat) ^ 60 = 1152921504606846976 := by decide
    walk_at "wp"
    generalize hg : 2 ^ i = g at *
    refine ⟨by unfold CMul; omega, hK _ ⟨_, by rw [Nat.pow_succ, hg, Int.natCast_mul]; rfl, by omega⟩⟩
  · rintro _ ⟨s3, rfl, hi⟩
    rw [List.length_map, List.length_range]
    walk_at "wp"
    exact k
theorem law_is_word_ok {l : List Nat} {Q : Dt → Prop} {E : Xc → Prop} (hl : l.length ≤ 1000) (k : Q (.bl true)) : F_law_is_word [.d (.tup (nD l)), .d (.lst (nD l))] Q E := by
  rw [F_law_is_word_eq]; unfold S_law_is_word
  walk_at "wp"
  refine ⟨by omega, ?_⟩
  refine lc_ok (e := fun i : Nat => Dt.int (i : Nat)) (fun _ => false) (fun i : Nat => Dt.int (i : Nat)) (fun x hx K1 K0 h1 h0 => ?_) (by rw [List.length_range]; show 0 + _ ≤ _; omega) ?_
  · have hx := List.mem_range.mp hx
    have hx : x < l.length := by simpa using hx
    walk_at "wp"
    refine ix_map (e := fun d : Nat => Dt.int d) (n := x) rfl hx ?_
    refine ix_map (e := fun d : Nat => Dt.int d) (n := x) rfl hx ?_
    refine law_is_number_ok ?_
    walk_at "wp"
    exact h0 rfl
  · rw [List.filter_eq_nil_iff.mpr fun _ _ h => by cases h]
    refine eqE_L.dEq (a := []) (b := []) ?_
    exact k
theorem book_sizes_ok {n : Nat} {Q : Dt → Prop} {E : Xc → Prop} (hn : n ≤ 60) (k : Q (.tup (nD ((List.range (n + 1)).map (cnt (n + 1) n))))) : F_book_sizes [.d (.int n)] Q E := by
  rw [F_book_sizes_eq]; unfold S_book_sizes
  walk_at "wp"
  refine num_in (by omega) (by omega) ?_
  walk_at "wp"
  refine ⟨by omega, ?_⟩
  rw [show ((n : Int) + 1).toNat = n + 1 by omega]
  refine lc_map (e := fun i : Nat => Dt.int (i : Nat)) (fun i : Nat => Dt.int ((cnt (n + 1) n i : Nat) : Int)) (fun x hx K1 h1 => ?_) (by rw [List.length_range]; omega) ?_
  · have hx := List.mem_range.mp hx
    walk_at "wp"
    refine size_of_ok (by omega) (by omega) ?_
    rw [size_cnt (by omega) (by omega)]
    exact h1
  · walk_at "wp"
    have e1 : (List.map (fun i : Nat => Dt.int ((cnt (n + 1) n i : Nat) : Int)) (List.range (n + 1))) = nD ((List.range (n + 1)).map (cnt (n + 1) n)) := by
      unfold nD; rw [List.map_map]; rfl
    rw [e1]
    exact k
theorem extremes_ok {n : Nat} {Q : Dt → Prop} {E : Xc → Prop} (hn : n ≤ 200) (k : Q (.tup [.int (cnt (n + 1) n 0 : Nat), .int (cnt (n + 1) n (1 % (n + 1)) : Nat)])) : F_extremes_of [.d (.int n)] Q E := by
  rw [F_extremes_of_eq]; unfold S_extremes_of
  walk_at "wp"
  refine num_in (by omega) (by omega) ?_
  walk_at "wp"
  have e1 : (if 1 < (n : Int) then (1 : Int) else (n : Int)) = ((1 % (n + 1) : Nat) : Int) := by
    cases n with
    | zero => rfl
    | succ n =>
      rw [Nat.mod_eq_of_lt (show 1 < n + 1 + 1 by omega)]
      split
      · rfl
      · omega
  refine size_of_ok (r := 0) hn (by omega) ?_
  rw [size_cnt hn (by omega), e1]
  have ml : 1 % (n + 1) ≤ n := by have := Nat.mod_lt 1 (show 0 < n + 1 by omega); omega
  refine size_of_ok hn ml ?_
  rw [size_cnt hn ml]
  exact k
theorem law_divided_ok {N : Nat} {Q : Dt → Prop} {E : Xc → Prop} (h1 : 1 ≤ N) (h2 : N ≤ 1000) (k : ∀ l : List Nat, l ≠ [] → l.length ≤ 2000 → (∀ d ∈ l, 1 ≤ d ∧ d ≤ N) → Q (.lst (nD l))) : F_law_divided [.d (.int N)] Q E := by
  rw [F_law_divided_eq]; unfold S_law_divided
  walk_at "wp"
  refine ⟨by omega, ?_⟩
  rw [show ((N : Int) + 1 - 1).toNat = N by omega]
  have fin : ∀ (low high : List Nat), low ≠ [] → low.length ≤ 1000 → high.length ≤ 1000 → (∀ d ∈ low, 1 ≤ d ∧ d ≤ N) → (∀ d ∈ high, 1 ≤ d ∧ d ≤ N) → low.length + high.length ≤ 16777216 ∧ Q (.lst (nD low ++ nD high)) := fun low high a b c d e => by
    refine ⟨by omega, ?_⟩
    rw [← List.map_append]
    refine k _ (by simp [a]) (by rw [List.length_append]; omega) fun x hx => ?_
    rcases List.mem_append.mp hx with hx | hx
    · exact d x hx
    · exact e x hx
  refine dFor_inv (fun i e => ∃ (low high : List Nat) (s : Sl), e = [.d (.int N), .d (.lst (nD low)), .d (.lst (nD high)), s] ∧ i ≤ N ∧ low.length ≤ i ∧ high.length ≤ i ∧ (∀ d ∈ low, 1 ≤ d ∧ d ≤ N) ∧ (∀ d ∈ high, 1 ≤ d ∧ d ≤ N) ∧ (i = 0 ∨ low ≠ [])) ⟨[], [], _, rfl, by omega, by simp, by simp, by simp, by simp, .inl rfl⟩ ?_ ?_
  · rintro i x _ K B hx ⟨low, high, s, rfl, hi, l1, l2, g1, g2, g3⟩ hK
    obtain ⟨j, hj, rfl⟩ := map_get hx
    obtain ⟨hj1, hj2⟩ := List.getElem?_eq_some_iff.mp hj
    rw [List.getElem_range] at hj2
    subst hj2
    rw [List.length_range] at hj1
    rw [show (1 + (i : Int)) = ((i + 1 : Nat) : Int) by omega]
    have sq : (i + 1) * (i + 1) ≤ 1000 * 1000 := Nat.mul_le_mul (by omega) (by omega)
    have cm : CMul ((i + 1 : Nat) : Int) ((i + 1 : Nat) : Int) := by unfold CMul; omega
    walk_at "wp"
    refine ⟨cm, ?_⟩
    refine iteQ (fun c => ?_) fun c => ?_
    · refine B.2 _ ?_
      walk_at "wp"
      have ne : low ≠ [] := by
        rcases g3 with g3 | g3
        · subst g3
          have : ((0 + 1 : Nat) : Int) * ((0 + 1 : Nat) : Int) = 1 := by decide
          omega
        · exact g3
      exact fin low high ne (by omega) (by omega) g1 g2
    · refine ⟨by omega, ?_⟩
      refine iteQ (fun c2 => ?_) fun c2 => ?_
      · have g1' : ∀ d ∈ low ++ [i + 1], 1 ≤ d ∧ d ≤ N := fun d hd => by
          rcases List.mem_append.mp hd with hd | hd
          · exact g1 d hd
          · rw [List.mem_singleton.mp hd]; omega
        refine ⟨by simp; omega, ?_⟩
        refine ⟨cm, ?_⟩
        refine iteQ (fun c3 => ?_) fun c3 => ?_
        · refine ⟨by unfold CDiv; omega, ?_⟩
          have q1 : 1 ≤ N / (i + 1) := Nat.div_pos (by omega) (by omega)
          have q2 : N / (i + 1) ≤ N := Nat.div_le_self _ _
          refine ⟨by first | omega | (rw [List.length_map]; omega), hK _ ⟨low ++ [i + 1], (N / (i + 1)) :: high, .d (.int ((i + 1 : Nat) : Int)), ?_, by omega, by simp; omega, by simp; omega, g1', fun d hd => ?_, .inr (by simp)⟩⟩
          · simp
          · rcases List.mem_cons.mp hd with hd | hd
            · rw [hd]; exact ⟨q1, q2⟩
            · exact g2 d hd
        · exact hK _ ⟨low ++ [i + 1], high, .d (.int ((i + 1 : Nat) : Int)), by simp, by omega, by rw [List.length_append]; show low.length + 1 ≤ _; omega, by omega, g1', g2, .inr (by simp)⟩
      · refine hK _ ⟨low, high, _, rfl, by omega, by omega, by omega, g1, g2, ?_⟩
        rcases g3 with g3 | g3
        · subst g3
          exact absurd (Int.emod_one _) c2
        · exact .inr g3
  · rintro _ ⟨low, high, s, rfl, hi, l1, l2, g1, g2, g3⟩
    rw [List.length_map, List.length_range] at *
    walk_at "wp"
    have ne : low ≠ [] := by
      rcases g3 with g3 | g3
      · omega
      · exact g3
    exact fin low high ne (by omega) (by omega) g1 g2
theorem law_multiple_ok {n : Nat} {Q : Dt → Prop} {E : Xc → Prop} (hn : n ≤ 200) (k : ∀ r : Nat, r ≤ n → Q (.int r)) : F_law_multiple [.hand, .d (.int n)] Q E := by
  rw [F_law_multiple_eq]; unfold S_law_multiple
  walk_at "wp"
  refine fun a ha => iteQ (fun _ => ⟨by omega, fun r hr => k r (by omega)⟩) fun _ => ?_
  rw [show (n : Int) + 1 = ((n + 1 : Nat) : Int) by omega]
  refine law_divided_ok (by omega) (by omega) fun l ne hl hd => ?_
  have lp : 0 < l.length := List.length_pos_iff.mpr ne
  walk_at "wp"
  refine ⟨by omega, fun r hr => ?_⟩
  have hr : r < l.length := by omega
  refine ix_map (e := fun d : Nat => Dt.int d) (n := r) rfl hr ?_
  obtain ⟨d1, d2⟩ := hd _ (List.getElem_mem hr)
  generalize l[r] = d at *
  walk_at "wp"
  have q1 : 1 ≤ (n + 1) / d := Nat.div_pos (by omega) (by omega)
  have q2 : (n + 1) / d ≤ n + 1 := Nat.div_le_self _ _
  rw [← Int.natCast_ediv]
  refine ⟨by unfold CDiv; omega, ⟨by omega, by omega⟩, fun t ht => ?_⟩
  have ht : t < (n + 1) / d := by omega
  have m1 : d * (t + 1) ≤ d * ((n + 1) / d) := Nat.mul_le_mul_left _ ht
  have m2 := Nat.mul_div_le (n + 1) d
  rw [Nat.mul_add, Nat.mul_one] at m1
  refine ⟨by unfold CMul; omega, ?_⟩
  rw [← Int.natCast_mul]
  exact k _ (by omega)
end Mine

namespace Mine
open PySem PySem.Spec PyProof.Rows L2
local macro_rules | `(tactic| walk_at "wp") => `(tactic| try simp -implicitDefEqProofs only [eFld_W, eFldS_W, sSetF_W, eMeth_W, eMeth0_W, eProp_W, mkI_W, mkI0_W, eVarD_W, eDic_W, eGet1_W, eGet2_W, eAtD_W, eInD_W, eNotInD_W, sOwnD_W, sPutD_W, Bool.false_eq_true, LINE_W, line0, line1, line2, line3, line4, line5, line6, line7, line8, line9, line10, line11, line12, take_W, Int.reduceLT, Int.reduceLE, Int.reduceNeg, mkD_W, mkD0_W, sSeq_W, sAsg_W, sRet_W, sRetN_W, sIf_W, sNext_W, sDrop_W, sBreak_W, sCont_W, sOwn_W, sPar_W, sPar3_W, sFrz_W, frz_W, fz_lst, fz_dk, fz_dt, sApp_W, sExt_W, sPop_W, sPopTo_W, sPut_W, sAugP_W, sAug_W, sFor_W, sRaise_W, sRaise1_W, gD_W, gD2_W, gD3_W, eVar_W, eVarB_W, eC_W, eOp_W, eUn_W, eCB_W, eNil_W, eCons_W, eConsS_W, eConsH_W, eTup_W, eLst_W, eCall_W, eCall0_W, eTest_W, eNotT_W, eAndT_W, eOrT_W, eTru_W, dTru_non, dTru_bl, dTru_int, dTru_lst, dTru_tup, dTru_str, dTru_dk, eBool_W, eAndV_W, eOrV_W, eNotV_W, eNotVT_W, eIf_W, eChain_W, eLc_W, eLc2_W, eYes_W, eSeq_W, eRng1_W, eRng2_W, eEnum_W, eZip_W, eSl_W, ePart_W, eNoPart_W, eRev_W, eRevL_W, eDk0_W, dAdd_int, dAdd_lst, dAdd_tup, dAdd_str, dAddL_lst, dSub_int, dMul_int, dMul_lst, dMulL_lst, dMul_tup, dFdiv_int, dMod_int, dPow_int, dShl_int, dShr_int, dLe_int, dLt_int, dGt_int, dGe_int, dNeg_int, isa_seq2, isLs_lst, isLs_tup, Bool.or_false, Bool.or_true, Bool.true_or, Bool.false_or, Bool.and_true, Bool.true_and, Bool.and_false, Bool.false_and, isSeq_lst, isSeq_tup, isTp_tup, isTp_lst, isTp_non, isTp_int, isTp_str, isW_int, dIsN_W, dNotN_W, isN_non, isN_int, isN_bl, isN_str, isN_tup, isN_lst, isN_dk, isN_dt, isN_ins, dIx_W, dSl_W, dSlL_W, dLen_W, dInt_W, dStr_W, dAbs_W, dMax2_W, dMin2_W, dTupOf_W, dLstOf_W, dIsi_W, dIsi2_W, kn_int, kn_bl, kn_non, kn_str, kn_tup, kn_lst, kn_dk, kn_dt, isa_int_int, isa_int_bool, isa_tup_tup, isa_bl_bool, isa_seq_tup, isa_seq_lst, isa_int, isa_bool, isa_seq, isa_tup, isa_str, isa_lst, dEq_int, dNe_int, Dt.flat, wipeS, List.getElem?_cons_zero, List.getElem?_cons_succ, List.set_cons_zero, List.set_cons_succ, List.replicate, List.append_nil, List.cons_append, List.nil_append, List.length_cons, List.length_nil, Nat.reduceAdd, Nat.reduceSub, Nat.zero_add, Option.isSome_some, Bool.true_eq_false, Bool.false_eq_true, if_true, if_false, ite_true, ite_false, eq_self, not_true_eq_false, not_false_eq_true, true_and, and_true, decide_eq_true_eq, Bool.not_true, Bool.not_false, Bool.not_eq_true', decide_eq_false_iff_not, decide_true, decide_false, List.length_map, List.map_cons, List.map_nil, Option.some.injEq, reduceCtorEq, Bool.not_eq_eq_eq_not, eEnumK_W, eDk1_W, eXf_W, eIsX_W, sTry_W, sKeep_W, eZipS_W, eRgL_W, mkG_W, gPlain_W, gSeq_W, gNext_W, gIf_W, gYield_W, gFor_W])
abbrev sz (n : Nat) : List Dt := nD ((List.range (n + 1)).map (cnt (n + 1) n))
theorem sz_at {n r : Nat} {k : Int} {Q : Dt → Prop} (e : k = r) (hr : r ≤ n) (q : Q (.int (cnt (n + 1) n r : Nat))) : ∃ x, atI (sz n) k = some x ∧ Q x := by
  refine ix_map (e := fun d : Nat => Dt.int d) (n := r) e (by rw [List.length_map, List.length_range]; omega) ?_
  rw [List.getElem_map, List.getElem_range]
  exact q
theorem one_le (n : Nat) : 1 % (n + 1) ≤ n := by have := Nat.mod_lt 1 (show 0 < n + 1 by omega); omega
theorem sz_ints (n : Nat) : sz n = (((List.range (n + 1)).map (cnt (n + 1) n)).map Int.ofNat).map Dt.int := by
  show List.map _ _ = _
  rw [List.map_map, List.map_map, List.map_map]; rfl
theorem sz_mem {n : Nat} {m : Int} : m ∈ (((List.range (n + 1)).map (cnt (n + 1) n)).map Int.ofNat) ↔ ∃ r, r ≤ n ∧ m = (cnt (n + 1) n r : Nat) := by
  rw [List.map_map, List.mem_map]
  constructor
  · rintro ⟨r, hr, rfl⟩; exact ⟨r, by have := List.mem_range.mp hr; omega, rfl⟩
  · rintro ⟨r, hr, rfl⟩; exact ⟨r, List.mem_range.mpr (by omega), rfl⟩
theorem max_sz {n : Nat} {Q : Dt → Prop} (hn : n ≤ 200) (k : Q (.int (cnt (n + 1) n 0 : Nat))) : dMaxL [.lst (sz n)] Q := by
  refine ⟨_, sz_ints n, by simp, fun m hm hmax => ?_⟩
  obtain ⟨r, hr, rfl⟩ := sz_mem.mp hm
  have h1 := hmax _ (sz_mem.mpr ⟨0, by omega, rfl⟩)
  have h2 := (cnt_ext hn hr).1
  rw [show ((cnt (n + 1) n r : Nat) : Int) = (cnt (n + 1) n 0 : Nat) by omega]
  exact k
theorem min_sz {n : Nat} {Q : Dt → Prop} (hn : n ≤ 200) (k : Q (.int (cnt (n + 1) n (1 % (n + 1)) : Nat))) : dMinL [.lst (sz n)] Q := by
  refine ⟨_, sz_ints n, by simp, fun m hm hmin => ?_⟩
  obtain ⟨r, hr, rfl⟩ := sz_mem.mp hm
  have h1 := hmin _ (sz_mem.mpr ⟨1 % (n + 1), one_le n, rfl⟩)
  have h2 := (cnt_ext hn hr).2
  rw [show ((cnt (n + 1) n r : Nat) : Int) = (cnt (n + 1) n (1 % (n + 1)) : Nat) by omega]
  exact k
abbrev eD (Q : Dt → Prop) : DEn := ⟨fun _ => Q .non, Q, fun _ => False, fun _ => False, fun _ _ => False⟩
theorem long_r4 {n : Nat} {Q : Dt → Prop} {s2 s3 s4 s5 s6 s7 s8 : Sl} (hn : n ≤ 200) (k : Q (.bl true)) : S_law_long_r4 (eD Q) [.hand, .d (.int n), s2, s3, s4, s5, s6, s7, s8] := by
  have en : (n : Int) + 1 = ((n + 1 : Nat) : Int) := by omega
  rw [S_law_long_r4_eq]
  walk_at "wp"
  refine law_multiple_ok hn fun a ha => ?_
  rw [S_law_long_r5_eq]
  walk_at "wp"
  refine law_multiple_ok hn fun b hb => ?_
  have r13 : S_law_long_r13 (eD Q) [.hand, .d (.int n), .d (.int a), .d (.int b), .d (.lst (sz n)), .d (.int (cnt (n + 1) n a : Nat)), .d (.int (cnt (n + 1) n b : Nat)), .d (.int (cnt (n + 1) n 0 : Nat)), .d (.int (cnt (n + 1) n (1 % (n + 1)) : Nat))] := by
    rw [S_law_long_r13_eq]
    walk_at "wp"
    refine law_compared_ok hn ha hb ?_
    walk_at "wp"
    exact law_compared_ok (b := 0) hn hb (by omega) k
  have r11 : S_law_long_r11 (eD Q) [.hand, .d (.int n), .d (.int a), .d (.int b), .d (.lst (sz n)), .d (.int (cnt (n + 1) n a : Nat)), .d (.int (cnt (n + 1) n b : Nat)), .d (.int (cnt (n + 1) n 0 : Nat)), .d (.int (cnt (n + 1) n (1 % (n + 1)) : Nat))] := by
    rw [S_law_long_r11_eq]
    walk_at "wp"
    refine max_sz hn ?_
    refine law_is_number_ok ?_
    walk_at "wp"
    refine min_sz hn ?_
    refine law_is_number_ok ?_
    walk_at "wp"
    exact r13
  have r10 : ∀ s7 s8, S_law_long_r10 (eD Q) [.hand, .d (.int n), .d (.int a), .d (.int b), .d (.lst (sz n)), .d (.int (cnt (n + 1) n a : Nat)), .d (.int (cnt (n + 1) n b : Nat)), s7, s8] := fun s7 s8 => by
    rw [S_law_long_r10_eq]
    walk_at "wp"
    refine extremes_ok hn ?_
    walk_at "wp"
    exact r11
  rw [S_law_long_r6_eq]
  walk_at "wp"
  rw [en]
  refine law_counts_ok (by omega) (by omega) (by omega) ?_
  rw [S_law_long_r7_eq]
  walk_at "wp"
  refine sz_at rfl ha ?_
  refine sz_at rfl hb ?_
  rw [S_law_long_r8_eq]
  walk_at "wp"
  refine size_of_ok hn ha ?_
  rw [size_cnt hn ha]
  refine law_is_number_ok ?_
  walk_at "wp"
  refine size_of_ok hn hb ?_
  rw [size_cnt hn hb]
  refine law_is_number_ok ?_
  walk_at "wp"
  exact r10 _ _
theorem law_long_ok {Q : Dt → Prop} {E : Xc → Prop} (k : Q (.bl true)) : F_law_long [.hand] Q E := by
  rw [F_law_long_eq]; unfold S_law_long
  walk_at "wp"
  intro n hn
  rw [S_law_long_r2_eq]
  walk_at "wp"
  refine fun a ha => iteQ (fun _ => ⟨by decide, fun b hb => ?_⟩) fun _ => long_r4 (by omega) k
  have hc : b = 0 ∨ b = 1 ∨ b = 2 ∨ b = 3 ∨ b = 4 ∨ b = 5 ∨ b = 6 ∨ b = 7 ∨ b = 8 ∨ b = 9 ∨ b = 10 ∨ b = 11 ∨ b = 12 ∨ b = 13 ∨ b = 14 ∨ b = 15 := by omega
  rcases hc with rfl | rfl | rfl | rfl | rfl | rfl | rfl | rfl | rfl | rfl | rfl | rfl | rfl | rfl | rfl | rfl
  · exact ⟨_, rfl, long_r4 (n := 200) (by omega) k⟩
  · exact ⟨_, rfl, long_r4 (n := 194) (by omega) k⟩
  · exact ⟨_, rfl, long_r4 (n := 188) (by omega) k⟩
  · exact ⟨_, rfl, long_r4 (n := 179) (by omega) k⟩
  · exact ⟨_, rfl, long_r4 (n := 164) (by omega) k⟩
  · exact ⟨_, rfl, long_r4 (n := 149) (by omega) k⟩
  · exact ⟨_, rfl, long_r4 (n := 134) (by omega) k⟩
  · exact ⟨_, rfl, long_r4 (n := 104) (by omega) k⟩
  · exact ⟨_, rfl, long_r4 (n := 89) (by omega) k⟩
  · exact ⟨_, rfl, long_r4 (n := 80) (by omega) k⟩
  · exact ⟨_, rfl, long_r4 (n := 62) (by omega) k⟩
  · exact ⟨_, rfl, long_r4 (n := 59) (by omega) k⟩
  · exact ⟨_, rfl, long_r4 (n := 44) (by omega) k⟩
  · exact ⟨_, rfl, long_r4 (n := 26) (by omega) k⟩
  · exact ⟨_, rfl, long_r4 (n := 14) (by omega) k⟩
  · exact ⟨_, rfl, long_r4 (n := 8) (by omega) k⟩
end Mine

namespace Mine
open PySem PySem.Spec PyProof.Rows L2
local macro_rules | `(tactic| walk_at "wp") => `(tactic| try simp -implicitDefEqProofs only [eFld_W, eFldS_W, sSetF_W, eMeth_W, eMeth0_W, eProp_W, mkI_W, mkI0_W, eVarD_W, eDic_W, eGet1_W, eGet2_W, eAtD_W, eInD_W, eNotInD_W, sOwnD_W, sPutD_W, Bool.false_eq_true, LINE_W, line0, line1, line2, line3, line4, line5, line6, line7, line8, line9, line10, line11, line12, take_W, Int.reduceLT, Int.reduceLE, Int.reduceNeg, mkD_W, mkD0_W, sSeq_W, sAsg_W, sRet_W, sRetN_W, sIf_W, sNext_W, sDrop_W, sBreak_W, sCont_W, sOwn_W, sPar_W, sPar3_W, sFrz_W, frz_W, fz_lst, fz_dk, fz_dt, sApp_W, sExt_W, sPop_W, sPopTo_W, sPut_W, sAugP_W, sAug_W, sFor_W, sRaise_W, sRaise1_W, gD_W, gD2_W, gD3_W, eVar_W, eVarB_W, eC_W, eOp_W, eUn_W, eCB_W, eNil_W, eCons_W, eConsS_W, eConsH_W, eTup_W, eLst_W, eCall_W, eCall0_W, eTest_W, eNotT_W, eAndT_W, eOrT_W, eTru_W, dTru_non, dTru_bl, dTru_int, dTru_lst, dTru_tup, dTru_str, dTru_dk, eBool_W, eAndV_W, eOrV_W, eNotV_W, eNotVT_W, eIf_W, eChain_W, eLc_W, eLc2_W, eYes_W, eSeq_W, eRng1_W, eRng2_W, eEnum_W, eZip_W, eSl_W, ePart_W, eNoPart_W, eRev_W, eRevL_W, eDk0_W, dAdd_int, dAdd_lst, dAdd_tup, dAdd_str, dAddL_lst, dSub_int, dMul_int, dMul_lst, dMulL_lst, dMul_tup, dFdiv_int, dMod_int, dPow_int, dShl_int, dShr_int, dLe_int, dLt_int, dGt_int, dGe_int, dNeg_int, isa_seq2, isLs_lst, isLs_tup, Bool.or_false, Bool.or_true, Bool.true_or, Bool.false_or, Bool.and_true, Bool.true_and, Bool.and_false, Bool.false_and, isSeq_lst, isSeq_tup, isTp_tup, isTp_lst, isTp_non, isTp_int, isTp_str, isW_int, dIsN_W, dNotN_W, isN_non, isN_int, isN_bl, isN_str, isN_tup, isN_lst, isN_dk, isN_dt, isN_ins, dIx_W, dSl_W, dSlL_W, dLen_W, dInt_W, dStr_W, dAbs_W, dMax2_W, dMin2_W, dTupOf_W, dLstOf_W, dIsi_W, dIsi2_W, kn_int, kn_bl, kn_non, kn_str, kn_tup, kn_lst, kn_dk, kn_dt, isa_int_int, isa_int_bool, isa_tup_tup, isa_bl_bool, isa_seq_tup, isa_seq_lst, isa_int, isa_bool, isa_seq, isa_tup, isa_str, isa_lst, dEq_int, dNe_int, Dt.flat, wipeS, List.getElem?_cons_zero, List.getElem?_cons_succ, List.set_cons_zero, List.set_cons_succ, List.replicate, List.append_nil, List.cons_append, List.nil_append, List.length_cons, List.length_nil, Nat.reduceAdd, Nat.reduceSub, Nat.zero_add, Option.isSome_some, Bool.true_eq_false, Bool.false_eq_true, if_true, if_false, ite_true, ite_false, eq_self, not_true_eq_false, not_false_eq_true, true_and, and_true, decide_eq_true_eq, Bool.not_true, Bool.not_false, Bool.not_eq_true', decide_eq_false_iff_not, decide_true, decide_false, List.length_map, List.map_cons, List.map_nil, Option.some.injEq, reduceCtorEq, Bool.not_eq_eq_eq_not, eEnumK_W, eDk1_W, eXf_W, eIsX_W, sTry_W, sKeep_W, eZipS_W, eRgL_W, mkG_W, gPlain_W, gSeq_W, gNext_W, gIf_W, gYield_W, gFor_W])
theorem sum_cast : ∀ l : List Nat, (l.map Int.ofNat).sum = ((l.sum : Nat) : Int)
  | [] => rfl
  | a :: l => by
    rw [List.map_cons, List.sum_cons, List.sum_cons, sum_cast l]
    show (a : Int) + _ = _
    omega
theorem sz_sh (l : List Nat) : (Dt.lst (nD l)).sh := (shN_lst (n := 0) fun x hx => by obtain ⟨d, _, rfl⟩ := List.mem_map.mp hx; exact shN_int _).sh
theorem sum_sz {n : Nat} {Q : Dt → Prop} (hn : n ≤ 10) (k : Q (.int ((2 ^ n : Nat) : Int))) : dSum [.lst (sz n)] Q := by
  refine ⟨_, sz_ints n, ?_⟩
  rw [sum_cast, sum_cnt hn]
  exact k
theorem walked_b4 {n i : Nat} {D : DEn} {s4 s5 : Sl} (hn : n ≤ 10) (hi : i ≤ n) (k : D.nx [.hand, .d (.int n), .d (.lst (nD ((List.range (i + 1)).map (cnt (n + 1) n)))), .d (.int i), s4, s5]) :
    S_law_walked_b4 D [.hand, .d (.int n), .d (.lst (nD ((List.range i).map (cnt (n + 1) n)))), .d (.int i), s4, s5] := by
  rw [S_law_walked_b4_eq]
  walk_at "wp"
  refine make_ok (by omega) (by omega) (by omega) (by omega) (by omega) (by omega) ?_
  rw [show (n : Int) + 1 = ((n + 1 : Nat) : Int) by omega]
  refine sum_members_ok (by omega) (by omega) ?_
  walk_at "wp"
  have e : (((allW 2 n).filter (hasR (n + 1) i)).length : Int) = (cnt (n + 1) n i : Nat) := by
    rw [← List.countP_eq_length_filter, count_words (by omega) n i (by omega)]
  rw [e]
  refine ⟨by rw [List.length_range]; omega, ?_⟩
  have e2 : nD ((List.range i).map (cnt (n + 1) n)) ++ [Dt.int (cnt (n + 1) n i : Nat)] = nD ((List.range (i + 1)).map (cnt (n + 1) n)) := by
    rw [List.range_succ, List.map_append]
    show _ = List.map _ _
    rw [List.map_append]; rfl
  rw [e2]
  exact k
abbrev gW (n : Nat) (s3 s4 s5 : Sl) : List Sl := [.hand, .d (.int n), .d (.lst (sz n)), s3, s4, s5]
theorem min_1 (n : Nat) : (if (n : Int) < 1 then (n : Int) else 1) = ((1 % (n + 1) : Nat) : Int) := by
  cases n with
  | zero => rfl
  | succ n => rw [if_neg (by omega), Nat.mod_eq_of_lt (by omega)]; rfl
theorem walked_r11 {n : Nat} {Q : Dt → Prop} {s3 s4 s5 : Sl} (hn : n ≤ 10) (k : Q (.bl true)) : S_law_walked_r11 (eD Q) (gW n s3 s4 s5) := by
  rw [S_law_walked_r11_eq]
  walk_at "wp"
  refine ⟨by omega, ?_⟩
  refine dFor_inv (fun i e => ∃ s4 s5, e = gW n s3 s4 s5) ⟨_, _, rfl⟩ ?_ ?_
  · rintro i x _ K B hx ⟨s4, s5, rfl⟩ hK
    obtain ⟨hi, rfl⟩ := rng_get hx
    have hi : i ≤ n := by omega
    walk_at "wp"
    rw [S_law_walked_b12_eq]
    walk_at "wp"
    refine ⟨by omega, fun o ho => ?_⟩
    rw [S_law_walked_r13_eq]
    walk_at "wp"
    refine sz_at rfl hi ?_
    refine sz_at rfl (show o ≤ n by omega) ?_
    refine law_compared_ok (by omega) hi (by omega) ?_
    walk_at "wp"
    exact hK _ ⟨_, _, rfl⟩
  · rintro _ ⟨s4, s5, rfl⟩
    rw [S_law_walked_r15_eq]
    walk_at "wp"
    exact k
theorem walked_r5 {n : Nat} {Q : Dt → Prop} {s3 s4 s5 : Sl} (hn : n ≤ 10) (k : Q (.bl true)) : S_law_walked_r5 (eD Q) (gW n s3 s4 s5) := by
  have r11 : S_law_walked_r11 (eD Q) (gW n s3 s4 s5) := walked_r11 hn k
  have r9 : S_law_walked_r9 (eD Q) (gW n s3 s4 s5) := by
    rw [S_law_walked_r9_eq]
    walk_at "wp"
    refine max_sz (by omega) ?_
    refine sz_at (r := 0) rfl (by omega) ?_
    walk_at "wp"
    refine min_sz (by omega) ?_
    rw [min_1]
    refine sz_at rfl (one_le n) ?_
    walk_at "wp"
    exact r11
  have r7 : S_law_walked_r7 (eD Q) (gW n s3 s4 s5) := by
    rw [S_law_walked_r7_eq]
    walk_at "wp"
    refine extremes_ok (by omega) ?_
    refine sz_at (r := 0) rfl (by omega) ?_
    rw [min_1]
    refine sz_at rfl (one_le n) ?_
    refine law_is_word_ok (l := [cnt (n + 1) n 0, cnt (n + 1) n (1 % (n + 1))]) (by show 2 ≤ 1000; omega) ?_
    walk_at "wp"
    exact r9
  rw [S_law_walked_r5_eq]
  walk_at "wp"
  rw [show (n : Int) + 1 = ((n + 1 : Nat) : Int) by omega]
  refine law_counts_ok (by omega) (by omega) (by omega) ?_
  refine dNe_self (sz_sh _) ?_
  walk_at "wp"
  refine sum_sz hn ?_
  refine law_power_ok (by omega) ?_
  walk_at "wp"
  refine book_sizes_ok (by omega) ?_
  refine law_is_word_ok (by rw [List.length_map, List.length_range]; omega) ?_
  walk_at "wp"
  exact r7
theorem walked_r2 {n : Nat} {Q : Dt → Prop} {s2 s3 s4 s5 : Sl} (hn : n ≤ 10) (k : Q (.bl true)) : S_law_walked_r2 (eD Q) [.hand, .d (.int n), s2, s3, s4, s5] := by
  rw [S_law_walked_r2_eq]
  walk_at "wp"
  rw [S_law_walked_r3_eq]
  walk_at "wp"
  refine ⟨by omega, ?_⟩
  refine dFor_inv (fun i e => ∃ s3, e = [.hand, .d (.int n), .d (.lst (nD ((List.range i).map (cnt (n + 1) n)))), s3, s4, s5]) ⟨_, rfl⟩ ?_ ?_
  · rintro i x _ K B hx ⟨s3, rfl⟩ hK
    obtain ⟨hi, rfl⟩ := rng_get hx
    walk_at "wp"
    exact walked_b4 hn (by omega) (hK _ ⟨_, rfl⟩)
  · rintro _ ⟨s3, rfl⟩
    rw [List.length_map, List.length_range, show ((n : Int) + 1).toNat = n + 1 by omega]
    exact walked_r5 hn k
theorem law_walked_ok {Q : Dt → Prop} {E : Xc → Prop} (k : Q (.bl true)) : F_law_walked [.hand] Q E := by
  rw [F_law_walked_eq]; unfold S_law_walked
  walk_at "wp"
  refine fun a ha => iteQ (fun _ => fun b hb => walked_r2 (by omega) k) fun _ => fun b hb => ?_
  rw [show (8 : Int) + (b : Int) = ((8 + b : Nat) : Int) by omega]
  exact walked_r2 (by omega) k
theorem goal : Goal := by
  unfold Goal LawGoal S_law
  walk_at "wp"
  refine law_walked_ok ?_
  walk_at "wp"
  exact law_long_ok rfl
end Mine

namespace Mine
open PySem PySem.Spec PyProof.Rows L2
abbrev PG : Program := PySem.Challenge.pw_lostplaces_k48_whole_greatest_and_least
def top (i : Nat) : Stmt := PG.main.body.getD i (.Pass ⟨0, 0, 0, 0⟩)
abbrev s_wall : Stmt := top 1
abbrev N_wall : List Str := ["k"]
abbrev P_wall : List Str := ["k"]
theorem sc_wall : FnScope N_wall P_wall (defScope s_wall) := ⟨rfl, rfl, rfl, by decide +kernel, rfl, by decide +kernel, by decide +kernel⟩
abbrev D_wall (K : PySem.W.Frag) (f : Addr) (fd : FuncData) : Prop := FunD K "_wall" "_wall" (defArgs s_wall) (defBody s_wall) (defScope s_wall) [] [] f fd
abbrev s_BadWord___init : Stmt := inClass (top 5) 0
abbrev N_BadWord___init : List Str := ["self", "index"]
abbrev P_BadWord___init : List Str := ["self", "index"]
theorem sc_BadWord___init : FnScope N_BadWord___init P_BadWord___init (defScope s_BadWord___init) := ⟨rfl, rfl, rfl, by decide +kernel, rfl, by decide +kernel, by decide +kernel⟩
abbrev D_BadWord___init (K : PySem.W.Frag) (f : Addr) (fd : FuncData) : Prop := FunD K "__init__" "BadWord.__init__" (defArgs s_BadWord___init) (defBody s_BadWord___init) (defScope s_BadWord___init) [] [] f fd
abbrev s_TooMany___init : Stmt := inClass (top 6) 0
abbrev N_TooMany___init : List Str := ["self", "count"]
abbrev P_TooMany___init : List Str := ["self", "count"]
theorem sc_TooMany___init : FnScope N_TooMany___init P_TooMany___init (defScope s_TooMany___init) := ⟨rfl, rfl, rfl, by decide +kernel, rfl, by decide +kernel, by decide +kernel⟩
abbrev D_TooMany___init (K : PySem.W.Frag) (f : Addr) (fd : FuncData) : Prop := FunD K "__init__" "TooMany.__init__" (defArgs s_TooMany___init) (defBody s_TooMany___init) (defScope s_TooMany___init) [] [] f fd
abbrev s_is_whole : Stmt := top 10
abbrev N_is_whole : List Str := ["thing", "low", "high"]
abbrev P_is_whole : List Str := ["thing", "low", "high"]
theorem sc_is_whole : FnScope N_is_whole P_is_whole (defScope s_is_whole) := ⟨rfl, rfl, rfl, by decide +kernel, rfl, by decide +kernel, by decide +kernel⟩
abbrev D_is_whole (K : PySem.W.Frag) (f : Addr) (fd : FuncData) : Prop := FunD K "is_whole" "is_whole" (defArgs s_is_whole) (defBody s_is_whole) (defScope s_is_whole) [.non, .non] [] f fd
abbrev s_check_number : Stmt := top 11
abbrev N_check_number : List Str := ["thing", "low", "high"]
abbrev P_check_number : List Str := ["thing", "low", "high"]
theorem sc_check_number : FnScope N_check_number P_check_number (defScope s_check_number) := ⟨rfl, rfl, rfl, by decide +kernel, rfl, by decide +kernel, by decide +kernel⟩
abbrev D_check_number (K : PySem.W.Frag) (f : Addr) (fd : FuncData) : Prop := FunD K "check_number" "check_number" (defArgs s_check_number) (defBody s_check_number) (defScope s_check_number) [] [] f fd
abbrev s_power_of : Stmt := top 12
abbrev N_power_of : List Str := ["base", "exponent", "power", "_"]
abbrev P_power_of : List Str := ["base", "exponent"]
theorem sc_power_of : FnScope N_power_of P_power_of (defScope s_power_of) := ⟨rfl, rfl, rfl, by decide +kernel, rfl, by decide +kernel, by decide +kernel⟩
abbrev D_power_of (K : PySem.W.Frag) (f : Addr) (fd : FuncData) : Prop := FunD K "power_of" "power_of" (defArgs s_power_of) (defBody s_power_of) (defScope s_power_of) [] [] f fd
abbrev s_check_word : Stmt := top 13
abbrev N_check_word : List Str := ["letters", "word", "most", "index", "letter"]
abbrev P_check_word : List Str := ["letters", "word", "most"]
theorem sc_check_word : FnScope N_check_word P_check_word (defScope s_check_word) := ⟨rfl, rfl, rfl, by decide +kernel, rfl, by decide +kernel, by decide +kernel⟩
abbrev D_check_word (K : PySem.W.Frag) (f : Addr) (fd : FuncData) : Prop := FunD K "check_word" "check_word" (defArgs s_check_word) (defBody s_check_word) (defScope s_check_word) [.int (24)] [] f fd
abbrev s_all_words : Stmt := top 14
abbrev N_all_words : List Str := ["letters", "length", "words", "_", "word", "letter"]
abbrev P_all_words : List Str := ["letters", "length"]
theorem sc_all_words : FnScope N_all_words P_all_words (defScope s_all_words) := ⟨rfl, rfl, rfl, by decide +kernel, rfl, by decide +kernel, by decide +kernel⟩
abbrev D_all_words (K : PySem.W.Frag) (f : Addr) (fd : FuncData) : Prop := FunD K "all_words" "all_words" (defArgs s_all_words) (defBody s_all_words) (defScope s_all_words) [] [] f fd
abbrev s_divisors_of : Stmt := top 17
abbrev N_divisors_of : List Str := ["number", "part"]
abbrev P_divisors_of : List Str := ["number"]
theorem sc_divisors_of : FnScope N_divisors_of P_divisors_of (defScope s_divisors_of) := ⟨rfl, rfl, rfl, by decide +kernel, rfl, by decide +kernel, by decide +kernel⟩
abbrev D_divisors_of (K : PySem.W.Frag) (f : Addr) (fd : FuncData) : Prop := FunD K "divisors_of" "divisors_of" (defArgs s_divisors_of) (defBody s_divisors_of) (defScope s_divisors_of) [] [] f fd
abbrev s_phi_of : Stmt := top 18
abbrev N_phi_of : List Str := ["number", "phi", "ahead", "prime"]
abbrev P_phi_of : List Str := ["number"]
theorem sc_phi_of : FnScope N_phi_of P_phi_of (defScope s_phi_of) := ⟨rfl, rfl, rfl, by decide +kernel, rfl, by decide +kernel, by decide +kernel⟩
abbrev D_phi_of (K : PySem.W.Frag) (f : Addr) (fd : FuncData) : Prop := FunD K "phi_of" "phi_of" (defArgs s_phi_of) (defBody s_phi_of) (defScope s_phi_of) [] [] f fd
abbrev s_primes_of : Stmt := top 19
abbrev N_primes_of : List Str := ["number", "primes", "prime"]
abbrev P_primes_of : List Str := ["number"]
theorem sc_primes_of : FnScope N_primes_of P_primes_of (defScope s_primes_of) := ⟨rfl, rfl, rfl, by decide +kernel, rfl, by decide +kernel, by decide +kernel⟩
abbrev D_primes_of (K : PySem.W.Frag) (f : Addr) (fd : FuncData) : Prop := FunD K "_primes_of" "_primes_of" (defArgs s_primes_of) (defBody s_primes_of) (defScope s_primes_of) [] [] f fd
abbrev s_mu_of : Stmt := top 20
abbrev N_mu_of : List Str := ["number", "primes"]
abbrev P_mu_of : List Str := ["number"]
theorem sc_mu_of : FnScope N_mu_of P_mu_of (defScope s_mu_of) := ⟨rfl, rfl, rfl, by decide +kernel, rfl, by decide +kernel, by decide +kernel⟩
abbrev D_mu_of (K : PySem.W.Frag) (f : Addr) (fd : FuncData) : Prop := FunD K "mu_of" "mu_of" (defArgs s_mu_of) (defBody s_mu_of) (defScope s_mu_of) [] [] f fd
abbrev s_common_divisor : Stmt := top 21
abbrev N_common_divisor : List Str := ["one", "other"]
abbrev P_common_divisor : List Str := ["one", "other"]
theorem sc_common_divisor : FnScope N_common_divisor P_common_divisor (defScope s_common_divisor) := ⟨rfl, rfl, rfl, by decide +kernel, rfl, by decide +kernel, by decide +kernel⟩
abbrev D_common_divisor (K : PySem.W.Frag) (f : Addr) (fd : FuncData) : Prop := FunD K "common_divisor" "common_divisor" (defArgs s_common_divisor) (defBody s_common_divisor) (defScope s_common_divisor) [] [] f fd
abbrev s_odd_part : Stmt := top 22
abbrev N_odd_part : List Str := ["number"]
abbrev P_odd_part : List Str := ["number"]
theorem sc_odd_part : FnScope N_odd_part P_odd_part (defScope s_odd_part) := ⟨rfl, rfl, rfl, by decide +kernel, rfl, by decide +kernel, by decide +kernel⟩
abbrev D_odd_part (K : PySem.W.Frag) (f : Addr) (fd : FuncData) : Prop := FunD K "odd_part" "odd_part" (defArgs s_odd_part) (defBody s_odd_part) (defScope s_odd_part) [] [] f fd
abbrev s_ram_of : Stmt := top 23
abbrev N_ram_of : List Str := ["number", "rest", "part"]
abbrev P_ram_of : List Str := ["number", "rest"]
theorem sc_ram_of : FnScope N_ram_of P_ram_of (defScope s_ram_of) := ⟨rfl, rfl, rfl, by decide +kernel, rfl, by decide +kernel, by decide +kernel⟩
abbrev D_ram_of (K : PySem.W.Frag) (f : Addr) (fd : FuncData) : Prop := FunD K "ram_of" "ram_of" (defArgs s_ram_of) (defBody s_ram_of) (defScope s_ram_of) [] [] f fd
abbrev s_size_of : Stmt := top 27
abbrev N_size_of : List Str := ["length", "rest", "whole", "total", "part"]
abbrev P_size_of : List Str := ["length", "rest"]
theorem sc_size_of : FnScope N_size_of P_size_of (defScope s_size_of) := ⟨rfl, rfl, rfl, by decide +kernel, rfl, by decide +kernel, by decide +kernel⟩
abbrev D_size_of (K : PySem.W.Frag) (f : Addr) (fd : FuncData) : Prop := FunD K "size_of" "size_of" (defArgs s_size_of) (defBody s_size_of) (defScope s_size_of) [] [] f fd
abbrev s_check_rest_sizes : Stmt := top 28
abbrev N_check_rest_sizes : List Str := ["rest", "most"]
abbrev P_check_rest_sizes : List Str := ["rest", "most"]
theorem sc_check_rest_sizes : FnScope N_check_rest_sizes P_check_rest_sizes (defScope s_check_rest_sizes) := ⟨rfl, rfl, rfl, by decide +kernel, rfl, by decide +kernel, by decide +kernel⟩
abbrev D_check_rest_sizes (K : PySem.W.Frag) (f : Addr) (fd : FuncData) : Prop := FunD K "_check_rest" "_check_rest" (defArgs s_check_rest_sizes) (defBody s_check_rest_sizes) (defScope s_check_rest_sizes) [] [] f fd
abbrev s_book_sizes : Stmt := top 30
abbrev N_book_sizes : List Str := ["length", "rest"]
abbrev P_book_sizes : List Str := ["length"]
theorem sc_book_sizes : FnScope N_book_sizes P_book_sizes (defScope s_book_sizes) := ⟨rfl, rfl, rfl, by decide +kernel, rfl, by decide +kernel, by decide +kernel⟩
abbrev D_book_sizes (K : PySem.W.Frag) (f : Addr) (fd : FuncData) : Prop := FunD K "book_sizes" "book_sizes" (defArgs s_book_sizes) (defBody s_book_sizes) (defScope s_book_sizes) [] [] f fd
abbrev s_extremes_of : Stmt := top 31
abbrev N_extremes_of : List Str := ["length"]
abbrev P_extremes_of : List Str := ["length"]
theorem sc_extremes_of : FnScope N_extremes_of P_extremes_of (defScope s_extremes_of) := ⟨rfl, rfl, rfl, by decide +kernel, rfl, by decide +kernel, by decide +kernel⟩
abbrev D_extremes_of (K : PySem.W.Frag) (f : Addr) (fd : FuncData) : Prop := FunD K "extremes_of" "extremes_of" (defArgs s_extremes_of) (defBody s_extremes_of) (defScope s_extremes_of) [] [] f fd
abbrev s_sum_of : Stmt := top 36
abbrev N_sum_of : List Str := ["word", "place", "letter"]
abbrev P_sum_of : List Str := ["word"]
theorem sc_sum_of : FnScope N_sum_of P_sum_of (defScope s_sum_of) := ⟨rfl, rfl, rfl, by decide +kernel, rfl, by decide +kernel, by decide +kernel⟩
abbrev D_sum_of (K : PySem.W.Frag) (f : Addr) (fd : FuncData) : Prop := FunD K "_sum_of" "_sum_of" (defArgs s_sum_of) (defBody s_sum_of) (defScope s_sum_of) [] [] f fd
abbrev s_SumBook___init : Stmt := inClass (top 37) 0
abbrev N_SumBook___init : List Str := ["self", "length", "modulus", "rest"]
abbrev P_SumBook___init : List Str := ["self", "length", "modulus", "rest"]
theorem sc_SumBook___init : FnScope N_SumBook___init P_SumBook___init (defScope s_SumBook___init) := ⟨rfl, rfl, rfl, by decide +kernel, rfl, by decide +kernel, by decide +kernel⟩
abbrev D_SumBook___init (K : PySem.W.Frag) (f : Addr) (fd : FuncData) : Prop := FunD K "__init__" "SumBook.__init__" (defArgs s_SumBook___init) (defBody s_SumBook___init) (defScope s_SumBook___init) [] [] f fd
abbrev s_SumBook___eq : Stmt := inClass (top 37) 1
abbrev N_SumBook___eq : List Str := ["self", "other"]
abbrev P_SumBook___eq : List Str := ["self", "other"]
theorem sc_SumBook___eq : FnScope N_SumBook___eq P_SumBook___eq (defScope s_SumBook___eq) := ⟨rfl, rfl, rfl, by decide +kernel, rfl, by decide +kernel, by decide +kernel⟩
abbrev D_SumBook___eq (K : PySem.W.Frag) (f : Addr) (fd : FuncData) : Prop := FunD K "__eq__" "SumBook.__eq__" (defArgs s_SumBook___eq) (defBody s_SumBook___eq) (defScope s_SumBook___eq) [] [] f fd
abbrev s_SumBook_is_full : Stmt := inClass (top 37) 2
abbrev N_SumBook_is_full : List Str := ["self"]
abbrev P_SumBook_is_full : List Str := ["self"]
theorem sc_SumBook_is_full : FnScope N_SumBook_is_full P_SumBook_is_full (defScope s_SumBook_is_full) := ⟨rfl, rfl, rfl, by decide +kernel, rfl, by decide +kernel, by decide +kernel⟩
abbrev D_SumBook_is_full (K : PySem.W.Frag) (f : Addr) (fd : FuncData) : Prop := FunD K "is_full" "SumBook.is_full" (defArgs s_SumBook_is_full) (defBody s_SumBook_is_full) (defScope s_SumBook_is_full) [] [] f fd
abbrev s_SumBook_holding : Stmt := inClass (top 37) 3
abbrev N_SumBook_holding : List Str := ["word", "modulus"]
abbrev P_SumBook_holding : List Str := ["word", "modulus"]
theorem sc_SumBook_holding : FnScope N_SumBook_holding P_SumBook_holding (defScope s_SumBook_holding) := ⟨rfl, rfl, rfl, by decide +kernel, rfl, by decide +kernel, by decide +kernel⟩
abbrev D_SumBook_holding (K : PySem.W.Frag) (f : Addr) (fd : FuncData) : Prop := FunD K "holding" "SumBook.holding" (defArgs s_SumBook_holding) (defBody s_SumBook_holding) (defScope s_SumBook_holding) [] [] f fd
abbrev s_SumBook_has : Stmt := inClass (top 37) 4
abbrev N_SumBook_has : List Str := ["self", "word"]
abbrev P_SumBook_has : List Str := ["self", "word"]
theorem sc_SumBook_has : FnScope N_SumBook_has P_SumBook_has (defScope s_SumBook_has) := ⟨rfl, rfl, rfl, by decide +kernel, rfl, by decide +kernel, by decide +kernel⟩
abbrev D_SumBook_has (K : PySem.W.Frag) (f : Addr) (fd : FuncData) : Prop := FunD K "has" "SumBook.has" (defArgs s_SumBook_has) (defBody s_SumBook_has) (defScope s_SumBook_has) [] [] f fd
abbrev s_SumBook_contrary : Stmt := inClass (top 37) 5
abbrev N_SumBook_contrary : List Str := ["self"]
abbrev P_SumBook_contrary : List Str := ["self"]
theorem sc_SumBook_contrary : FnScope N_SumBook_contrary P_SumBook_contrary (defScope s_SumBook_contrary) := ⟨rfl, rfl, rfl, by decide +kernel, rfl, by decide +kernel, by decide +kernel⟩
abbrev D_SumBook_contrary (K : PySem.W.Frag) (f : Addr) (fd : FuncData) : Prop := FunD K "contrary" "SumBook.contrary" (defArgs s_SumBook_contrary) (defBody s_SumBook_contrary) (defScope s_SumBook_contrary) [] [] f fd
abbrev s_SumBook_turned : Stmt := inClass (top 37) 6
abbrev N_SumBook_turned : List Str := ["self"]
abbrev P_SumBook_turned : List Str := ["self"]
theorem sc_SumBook_turned : FnScope N_SumBook_turned P_SumBook_turned (defScope s_SumBook_turned) := ⟨rfl, rfl, rfl, by decide +kernel, rfl, by decide +kernel, by decide +kernel⟩
abbrev D_SumBook_turned (K : PySem.W.Frag) (f : Addr) (fd : FuncData) : Prop := FunD K "turned" "SumBook.turned" (defArgs s_SumBook_turned) (defBody s_SumBook_turned) (defScope s_SumBook_turned) [] [] f fd
abbrev s_check_modulus : Stmt := top 38
abbrev N_check_modulus : List Str := ["modulus", "least"]
abbrev P_check_modulus : List Str := ["modulus", "least"]
theorem sc_check_modulus : FnScope N_check_modulus P_check_modulus (defScope s_check_modulus) := ⟨rfl, rfl, rfl, by decide +kernel, rfl, by decide +kernel, by decide +kernel⟩
abbrev D_check_modulus (K : PySem.W.Frag) (f : Addr) (fd : FuncData) : Prop := FunD K "_check_modulus" "_check_modulus" (defArgs s_check_modulus) (defBody s_check_modulus) (defScope s_check_modulus) [] [] f fd
abbrev s_check_rest_sums : Stmt := top 39
abbrev N_check_rest_sums : List Str := ["rest", "modulus"]
abbrev P_check_rest_sums : List Str := ["rest", "modulus"]
theorem sc_check_rest_sums : FnScope N_check_rest_sums P_check_rest_sums (defScope s_check_rest_sums) := ⟨rfl, rfl, rfl, by decide +kernel, rfl, by decide +kernel, by decide +kernel⟩
abbrev D_check_rest_sums (K : PySem.W.Frag) (f : Addr) (fd : FuncData) : Prop := FunD K "_check_rest" "_check_rest" (defArgs s_check_rest_sums) (defBody s_check_rest_sums) (defScope s_check_rest_sums) [] [] f fd
abbrev s_sum_members : Stmt := top 41
abbrev N_sum_members : List Str := ["book", "word"]
abbrev P_sum_members : List Str := ["book"]
theorem sc_sum_members : GScope N_sum_members P_sum_members (defScope s_sum_members) := ⟨rfl, rfl, rfl, by decide +kernel, rfl, by decide +kernel, by decide +kernel⟩
abbrev D_sum_members (K : PySem.W.Frag) (f : Addr) (fd : FuncData) : Prop := FunD K "sum_members" "sum_members" (defArgs s_sum_members) (defBody s_sum_members) (defScope s_sum_members) [] [] f fd
abbrev s_law_hand : Stmt := top 43
abbrev N_law_hand : List Str := ["_law_script", "_law_total", "_law_cells", "_law_cell"]
abbrev P_law_hand : List Str := ["_law_script"]
theorem sc_law_hand : FnScope N_law_hand P_law_hand (defScope s_law_hand) := ⟨rfl, rfl, rfl, by decide +kernel, rfl, by decide +kernel, by decide +kernel⟩
abbrev D_law_hand (K : PySem.W.Frag) (f : Addr) (fd : FuncData) : Prop := FunD K "_law_hand" "_law_hand" (defArgs s_law_hand) (defBody s_law_hand) (defScope s_law_hand) [] [] f fd
abbrev s_law_mixed : Stmt := top 44
abbrev N_law_mixed : List Str := ["_law_number", "_law_turn", "_law_once", "_law_twice"]
abbrev P_law_mixed : List Str := ["_law_number", "_law_turn"]
theorem sc_law_mixed : FnScope N_law_mixed P_law_mixed (defScope s_law_mixed) := ⟨rfl, rfl, rfl, by decide +kernel, rfl, by decide +kernel, by decide +kernel⟩
abbrev D_law_mixed (K : PySem.W.Frag) (f : Addr) (fd : FuncData) : Prop := FunD K "_law_mixed" "_law_mixed" (defArgs s_law_mixed) (defBody s_law_mixed) (defScope s_law_mixed) [] [] f fd
abbrev s_law_take : Stmt := top 45
abbrev N_law_take : List Str := ["_law_hand_here", "_law_many", "_law_cell", "_law_rest"]
abbrev P_law_take : List Str := ["_law_hand_here", "_law_many"]
theorem sc_law_take : FnScope N_law_take P_law_take (defScope s_law_take) := ⟨rfl, rfl, rfl, by decide +kernel, rfl, by decide +kernel, by decide +kernel⟩
abbrev D_law_take (K : PySem.W.Frag) (f : Addr) (fd : FuncData) : Prop := FunD K "_law_take" "_law_take" (defArgs s_law_take) (defBody s_law_take) (defScope s_law_take) [] [] f fd
abbrev s_law_whole : Stmt := top 46
abbrev N_law_whole : List Str := ["_law_thing"]
abbrev P_law_whole : List Str := ["_law_thing"]
theorem sc_law_whole : FnScope N_law_whole P_law_whole (defScope s_law_whole) := ⟨rfl, rfl, rfl, by decide +kernel, rfl, by decide +kernel, by decide +kernel⟩
abbrev D_law_whole (K : PySem.W.Frag) (f : Addr) (fd : FuncData) : Prop := FunD K "_law_whole" "_law_whole" (defArgs s_law_whole) (defBody s_law_whole) (defScope s_law_whole) [] [] f fd
abbrev s_law_power : Stmt := top 47
abbrev N_law_power : List Str := ["_law_base", "_law_exponent", "_law_total", "_law_k"]
abbrev P_law_power : List Str := ["_law_base", "_law_exponent"]
theorem sc_law_power : FnScope N_law_power P_law_power (defScope s_law_power) := ⟨rfl, rfl, rfl, by decide +kernel, rfl, by decide +kernel, by decide +kernel⟩
abbrev D_law_power (K : PySem.W.Frag) (f : Addr) (fd : FuncData) : Prop := FunD K "_law_power" "_law_power" (defArgs s_law_power) (defBody s_law_power) (defScope s_law_power) [] [] f fd
abbrev s_law_divided : Stmt := top 48
abbrev N_law_divided : List Str := ["_law_number", "_law_low", "_law_high", "_law_k"]
abbrev P_law_divided : List Str := ["_law_number"]
theorem sc_law_divided : FnScope N_law_divided P_law_divided (defScope s_law_divided) := ⟨rfl, rfl, rfl, by decide +kernel, rfl, by decide +kernel, by decide +kernel⟩
abbrev D_law_divided (K : PySem.W.Frag) (f : Addr) (fd : FuncData) : Prop := FunD K "_law_divided" "_law_divided" (defArgs s_law_divided) (defBody s_law_divided) (defScope s_law_divided) [] [] f fd
abbrev s_law_gcd : Stmt := top 49
abbrev N_law_gcd : List Str := ["_law_one", "_law_other", "_law_low", "_law_high", "_law_k"]
abbrev P_law_gcd : List Str := ["_law_one", "_law_other"]
theorem sc_law_gcd : FnScope N_law_gcd P_law_gcd (defScope s_law_gcd) := ⟨rfl, rfl, rfl, by decide +kernel, rfl, by decide +kernel, by decide +kernel⟩
abbrev D_law_gcd (K : PySem.W.Frag) (f : Addr) (fd : FuncData) : Prop := FunD K "_law_gcd" "_law_gcd" (defArgs s_law_gcd) (defBody s_law_gcd) (defScope s_law_gcd) [] [] f fd
abbrev s_law_odd : Stmt := top 50
abbrev N_law_odd : List Str := ["_law_number", "_law_left", "_law_k"]
abbrev P_law_odd : List Str := ["_law_number"]
theorem sc_law_odd : FnScope N_law_odd P_law_odd (defScope s_law_odd) := ⟨rfl, rfl, rfl, by decide +kernel, rfl, by decide +kernel, by decide +kernel⟩
abbrev D_law_odd (K : PySem.W.Frag) (f : Addr) (fd : FuncData) : Prop := FunD K "_law_odd" "_law_odd" (defArgs s_law_odd) (defBody s_law_odd) (defScope s_law_odd) [] [] f fd
abbrev s_law_counts : Stmt := top 51
abbrev N_law_counts : List Str := ["_law_n", "_law_modulus", "_law_counts_here", "_law_place", "_law_k"]
abbrev P_law_counts : List Str := ["_law_n", "_law_modulus"]
theorem sc_law_counts : FnScope N_law_counts P_law_counts (defScope s_law_counts) := ⟨rfl, rfl, rfl, by decide +kernel, rfl, by decide +kernel, by decide +kernel⟩
abbrev D_law_counts (K : PySem.W.Frag) (f : Addr) (fd : FuncData) : Prop := FunD K "_law_counts" "_law_counts" (defArgs s_law_counts) (defBody s_law_counts) (defScope s_law_counts) [] [] f fd
abbrev s_law_is_number : Stmt := top 52
abbrev N_law_is_number : List Str := ["_law_thing", "_law_due"]
abbrev P_law_is_number : List Str := ["_law_thing", "_law_due"]
theorem sc_law_is_number : FnScope N_law_is_number P_law_is_number (defScope s_law_is_number) := ⟨rfl, rfl, rfl, by decide +kernel, rfl, by decide +kernel, by decide +kernel⟩
abbrev D_law_is_number (K : PySem.W.Frag) (f : Addr) (fd : FuncData) : Prop := FunD K "_law_is_number" "_law_is_number" (defArgs s_law_is_number) (defBody s_law_is_number) (defScope s_law_is_number) [] [] f fd
abbrev s_law_is_word : Stmt := top 53
abbrev N_law_is_word : List Str := ["_law_thing", "_law_due", "_law_k"]
abbrev P_law_is_word : List Str := ["_law_thing", "_law_due"]
theorem sc_law_is_word : FnScope N_law_is_word P_law_is_word (defScope s_law_is_word) := ⟨rfl, rfl, rfl, by decide +kernel, rfl, by decide +kernel, by decide +kernel⟩
abbrev D_law_is_word (K : PySem.W.Frag) (f : Addr) (fd : FuncData) : Prop := FunD K "_law_is_word" "_law_is_word" (defArgs s_law_is_word) (defBody s_law_is_word) (defScope s_law_is_word) [] [] f fd
abbrev s_law_compared : Stmt := top 54
abbrev N_law_compared : List Str := ["_law_n", "_law_one", "_law_other", "_law_first", "_law_second", "_law_left", "_law_right"]
abbrev P_law_compared : List Str := ["_law_n", "_law_one", "_law_other", "_law_first", "_law_second"]
theorem sc_law_compared : FnScope N_law_compared P_law_compared (defScope s_law_compared) := ⟨rfl, rfl, rfl, by decide +kernel, rfl, by decide +kernel, by decide +kernel⟩
abbrev D_law_compared (K : PySem.W.Frag) (f : Addr) (fd : FuncData) : Prop := FunD K "_law_compared" "_law_compared" (defArgs s_law_compared) (defBody s_law_compared) (defScope s_law_compared) [] [] f fd
abbrev s_law_walked : Stmt := top 55
abbrev N_law_walked : List Str := ["_law_hand_here", "_law_n", "_law_sizes", "_law_rest", "_law_one", "_law_other"]
abbrev P_law_walked : List Str := ["_law_hand_here"]
theorem sc_law_walked : FnScope N_law_walked P_law_walked (defScope s_law_walked) := ⟨rfl, rfl, rfl, by decide +kernel, rfl, by decide +kernel, by decide +kernel⟩
abbrev D_law_walked (K : PySem.W.Frag) (f : Addr) (fd : FuncData) : Prop := FunD K "_law_walked" "_law_walked" (defArgs s_law_walked) (defBody s_law_walked) (defScope s_law_walked) [] [] f fd
abbrev s_law_multiple : Stmt := top 56
abbrev N_law_multiple : List Str := ["_law_hand_here", "_law_n", "_law_divisors", "_law_one"]
abbrev P_law_multiple : List Str := ["_law_hand_here", "_law_n"]
theorem sc_law_multiple : FnScope N_law_multiple P_law_multiple (defScope s_law_multiple) := ⟨rfl, rfl, rfl, by decide +kernel, rfl, by decide +kernel, by decide +kernel⟩
abbrev D_law_multiple (K : PySem.W.Frag) (f : Addr) (fd : FuncData) : Prop := FunD K "_law_multiple" "_law_multiple" (defArgs s_law_multiple) (defBody s_law_multiple) (defScope s_law_multiple) [] [] f fd
abbrev s_law_long : Stmt := top 57
abbrev N_law_long : List Str := ["_law_hand_here", "_law_n", "_law_one", "_law_other", "_law_counts_here", "_law_first", "_law_second", "_law_greatest", "_law_least"]
abbrev P_law_long : List Str := ["_law_hand_here"]
theorem sc_law_long : FnScope N_law_long P_law_long (defScope s_law_long) := ⟨rfl, rfl, rfl, by decide +kernel, rfl, by decide +kernel, by decide +kernel⟩
abbrev D_law_long (K : PySem.W.Frag) (f : Addr) (fd : FuncData) : Prop := FunD K "_law_long" "_law_long" (defArgs s_law_long) (defBody s_law_long) (defScope s_law_long) [] [] f fd
abbrev s_law : Stmt := top 58
abbrev N_law : List Str := ["_law_script", "_law_hand_here"]
abbrev P_law : List Str := ["_law_script"]
theorem sc_law : FnScope N_law P_law (defScope s_law) := ⟨rfl, rfl, rfl, by decide +kernel, rfl, by decide +kernel, by decide +kernel⟩
abbrev D_law (K : PySem.W.Frag) (f : Addr) (fd : FuncData) : Prop := FunD K "law" "law" (defArgs s_law) (defBody s_law) (defScope s_law) [] [] f fd
structure Txt (K : PySem.W.Frag) (mg : Str → Option Value) : Prop where
  x_BadWord : FldExc K (He.ga K "BadWord") (He.ma K (He.ga K "BadWord") "__init__")
  n_BadWord_is_index : PySem.W.findIn K (.ref (He.ga K "BadWord")) "index" = some none
  x_TooMany : FldExc K (He.ga K "TooMany") (He.ma K (He.ga K "TooMany") "__init__")
  n_TooMany_is_count : PySem.W.findIn K (.ref (He.ga K "TooMany")) "count" = some none
  z_isinstance : mg "isinstance" = none
  z_bool : mg "bool" = none
  z_int : mg "int" = none
  g_is_whole : mg "is_whole" = some (.ref (He.ga K "is_whole"))
  g_BadNumber : mg "BadNumber" = some (.ref (He.ga K "BadNumber"))
  e_BadNumber : OwnExc K (He.ga K "BadNumber")
  z_range : mg "range" = none
  z_len : mg "len" = none
  z_tuple : mg "tuple" = none
  z_list : mg "list" = none
  g_BadWord : mg "BadWord" = some (.ref (He.ga K "BadWord"))
  z_enumerate : mg "enumerate" = none
  g_check_number : mg "check_number" = some (.ref (He.ga K "check_number"))
  c_MOST_DIVIDED : ∃ t, mg "MOST_DIVIDED" = some (.int 2000 t)
  g__primes_of : mg "_primes_of" = some (.ref (He.ga K "_primes_of"))
  z_set : mg "set" = none
  i_gcd : mg "gcd" = some (.builtin "math.gcd")
  g_phi_of : mg "phi_of" = some (.ref (He.ga K "phi_of"))
  g_mu_of : mg "mu_of" = some (.ref (He.ga K "mu_of"))
  c_MOST_LENGTH : ∃ t, mg "MOST_LENGTH" = some (.int 200 t)
  g_check_rest_sizes : mg "check_rest_sizes" = some (.ref (He.ga K "check_rest_sizes"))
  z_sum : mg "sum" = none
  g_divisors_of : mg "divisors_of" = some (.ref (He.ga K "divisors_of"))
  g_ram_of : mg "ram_of" = some (.ref (He.ga K "ram_of"))
  g_BadRest : mg "BadRest" = some (.ref (He.ga K "BadRest"))
  e_BadRest : OwnExc K (He.ga K "BadRest")
  c_MOST_TABLED : ∃ t, mg "MOST_TABLED" = some (.int 60 t)
  g_size_of : mg "size_of" = some (.ref (He.ga K "size_of"))
  z_min : mg "min" = none
  c_MOST_HERE : ∃ t, mg "MOST_HERE" = some (.int 200 t)
  g__check_modulus : mg "_check_modulus" = some (.ref (He.ga K "_check_modulus"))
  g_check_rest_sums : mg "check_rest_sums" = some (.ref (He.ga K "check_rest_sums"))
  g_SumBook : mg "SumBook" = some (.ref (He.ga K "SumBook"))
  g__wall : mg "_wall" = some (.ref (He.ga K "_wall"))
  g_check_word : mg "check_word" = some (.ref (He.ga K "check_word"))
  g__sum_of : mg "_sum_of" = some (.ref (He.ga K "_sum_of"))
  c_MOST_MODULUS : ∃ t, mg "MOST_MODULUS" = some (.int 1000000 t)
  g_BadModulus : mg "BadModulus" = some (.ref (He.ga K "BadModulus"))
  e_BadModulus : OwnExc K (He.ga K "BadModulus")
  g_all_words : mg "all_words" = some (.ref (He.ga K "all_words"))
  c_MOST_LISTED : ∃ t, mg "MOST_LISTED" = some (.int 14 t)
  g_TooMany : mg "TooMany" = some (.ref (He.ga K "TooMany"))
  g_power_of : mg "power_of" = some (.ref (He.ga K "power_of"))
  z_abs : mg "abs" = none
  g__law_mixed : mg "_law_mixed" = some (.ref (He.ga K "_law_mixed"))
  g__law_is_number : mg "_law_is_number" = some (.ref (He.ga K "_law_is_number"))
  g_odd_part : mg "odd_part" = some (.ref (He.ga K "odd_part"))
  g_common_divisor : mg "common_divisor" = some (.ref (He.ga K "common_divisor"))
  g__law_odd : mg "_law_odd" = some (.ref (He.ga K "_law_odd"))
  g__law_gcd : mg "_law_gcd" = some (.ref (He.ga K "_law_gcd"))
  g__law_take : mg "_law_take" = some (.ref (He.ga K "_law_take"))
  g_sum_members : mg "sum_members" = some (.ref (He.ga K "sum_members"))
  r_SumBook : Mk K (He.ga K "SumBook") (He.ma K (He.ga K "SumBook") "__init__")
  g__law_is_word : mg "_law_is_word" = some (.ref (He.ga K "_law_is_word"))
  g_book_sizes : mg "book_sizes" = some (.ref (He.ga K "book_sizes"))
  g__law_power : mg "_law_power" = some (.ref (He.ga K "_law_power"))
  g__law_counts : mg "_law_counts" = some (.ref (He.ga K "_law_counts"))
  g_extremes_of : mg "extremes_of" = some (.ref (He.ga K "extremes_of"))
  z_max : mg "max" = none
  g__law_compared : mg "_law_compared" = some (.ref (He.ga K "_law_compared"))
  g__law_divided : mg "_law_divided" = some (.ref (He.ga K "_law_divided"))
  g__law_multiple : mg "_law_multiple" = some (.ref (He.ga K "_law_multiple"))
  g__law_hand : mg "_law_hand" = some (.ref (He.ga K "_law_hand"))
  g__law_long : mg "_law_long" = some (.ref (He.ga K "_law_long"))
  g__law_walked : mg "_law_walked" = some (.ref (He.ga K "_law_walked"))
  l_SumBook : Cls K (He.ga K "SumBook")
  a_SumBook_is_length : NoAttr K (He.ga K "SumBook") "length"
  a_SumBook_is_modulus : NoAttr K (He.ga K "SumBook") "modulus"
  a_SumBook_is_rest : NoAttr K (He.ga K "SumBook") "rest"
  j_SumBook : KinOk K (He.ga K "SumBook")
  o_SumBook : InsK K (He.ga K "SumBook")
  k_SumBook_is_SumBook : PySem.W.kitOne K (.ref (He.ga K "SumBook")) (.ref (He.ga K "SumBook")) = some true
  F_wall : ∃ fd, D_wall K (He.ga K "_wall") fd
  F_BadWord___init : ∃ fd, D_BadWord___init K (He.ma K (He.ga K "BadWord") "__init__") fd
  F_TooMany___init : ∃ fd, D_TooMany___init K (He.ma K (He.ga K "TooMany") "__init__") fd
  F_is_whole : ∃ fd, D_is_whole K (He.ga K "is_whole") fd
  F_check_number : ∃ fd, D_check_number K (He.ga K "check_number") fd
  F_power_of : ∃ fd, D_power_of K (He.ga K "power_of") fd
  F_check_word : ∃ fd, D_check_word K (He.ga K "check_word") fd
  F_all_words : ∃ fd, D_all_words K (He.ga K "all_words") fd
  F_divisors_of : ∃ fd, D_divisors_of K (He.ga K "divisors_of") fd
  F_phi_of : ∃ fd, D_phi_of K (He.ga K "phi_of") fd
  F_primes_of : ∃ fd, D_primes_of K (He.ga K "_primes_of") fd
  F_mu_of : ∃ fd, D_mu_of K (He.ga K "mu_of") fd
  F_common_divisor : ∃ fd, D_common_divisor K (He.ga K "common_divisor") fd
  F_odd_part : ∃ fd, D_odd_part K (He.ga K "odd_part") fd
  F_ram_of : ∃ fd, D_ram_of K (He.ga K "ram_of") fd
  F_size_of : ∃ fd, D_size_of K (He.ga K "size_of") fd
  F_check_rest_sizes : ∃ fd, D_check_rest_sizes K (He.ga K "check_rest_sizes") fd
  F_book_sizes : ∃ fd, D_book_sizes K (He.ga K "book_sizes") fd
  F_extremes_of : ∃ fd, D_extremes_of K (He.ga K "extremes_of") fd
  F_sum_of : ∃ fd, D_sum_of K (He.ga K "_sum_of") fd
  F_SumBook___init : ∃ fd, D_SumBook___init K (He.ma K (He.ga K "SumBook") "__init__") fd
  F_SumBook___eq : ∃ fd, D_SumBook___eq K (He.ma K (He.ga K "SumBook") "__eq__") fd
  F_SumBook_is_full : ∃ fd, D_SumBook_is_full K (gA K "SumBook" "is_full") fd
  F_SumBook_holding : ∃ fd, D_SumBook_holding K (He5.wf K (He.ga K "SumBook") "staticmethod" "holding") fd
  F_SumBook_has : ∃ fd, D_SumBook_has K (He.ma K (He.ga K "SumBook") "has") fd
  F_SumBook_contrary : ∃ fd, D_SumBook_contrary K (He.ma K (He.ga K "SumBook") "contrary") fd
  F_SumBook_turned : ∃ fd, D_SumBook_turned K (He.ma K (He.ga K "SumBook") "turned") fd
  F_check_modulus : ∃ fd, D_check_modulus K (He.ga K "_check_modulus") fd
  F_check_rest_sums : ∃ fd, D_check_rest_sums K (He.ga K "check_rest_sums") fd
  F_sum_members : ∃ fd, D_sum_members K (He.ga K "sum_members") fd
  F_law_hand : ∃ fd, D_law_hand K (He.ga K "_law_hand") fd
  F_law_mixed : ∃ fd, D_law_mixed K (He.ga K "_law_mixed") fd
  F_law_take : ∃ fd, D_law_take K (He.ga K "_law_take") fd
  F_law_whole : ∃ fd, D_law_whole K (He.ga K "_law_whole") fd
  F_law_power : ∃ fd, D_law_power K (He.ga K "_law_power") fd
  F_law_divided : ∃ fd, D_law_divided K (He.ga K "_law_divided") fd
  F_law_gcd : ∃ fd, D_law_gcd K (He.ga K "_law_gcd") fd
  F_law_odd : ∃ fd, D_law_odd K (He.ga K "_law_odd") fd
  F_law_counts : ∃ fd, D_law_counts K (He.ga K "_law_counts") fd
  F_law_is_number : ∃ fd, D_law_is_number K (He.ga K "_law_is_number") fd
  F_law_is_word : ∃ fd, D_law_is_word K (He.ga K "_law_is_word") fd
  F_law_compared : ∃ fd, D_law_compared K (He.ga K "_law_compared") fd
  F_law_walked : ∃ fd, D_law_walked K (He.ga K "_law_walked") fd
  F_law_multiple : ∃ fd, D_law_multiple K (He.ga K "_law_multiple") fd
  F_law_long : ∃ fd, D_law_long K (He.ga K "_law_long") fd
  F_law : ∃ fd, D_law K (He.ga K "law") fd
theorem bd_wall {K : PySem.W.Frag} {f : Addr} {fd : FuncData} (F : D_wall K f fd) : Binds K fd P_wall [] := F.bindsN fun _ _ _ _ _ _ us hl => match us, hl with | [_], _ => rfl
theorem bd_BadWord___init {K : PySem.W.Frag} {f : Addr} {fd : FuncData} (F : D_BadWord___init K f fd) : Binds K fd P_BadWord___init [] := F.bindsN fun _ _ _ _ _ _ us hl => match us, hl with | [_, _], _ => rfl
theorem bd_TooMany___init {K : PySem.W.Frag} {f : Addr} {fd : FuncData} (F : D_TooMany___init K f fd) : Binds K fd P_TooMany___init [] := F.bindsN fun _ _ _ _ _ _ us hl => match us, hl with | [_, _], _ => rfl
theorem bd_check_number {K : PySem.W.Frag} {f : Addr} {fd : FuncData} (F : D_check_number K f fd) : Binds K fd P_check_number [] := F.bindsN fun _ _ _ _ _ _ us hl => match us, hl with | [_, _, _], _ => rfl
theorem bd_power_of {K : PySem.W.Frag} {f : Addr} {fd : FuncData} (F : D_power_of K f fd) : Binds K fd P_power_of [] := F.bindsN fun _ _ _ _ _ _ us hl => match us, hl with | [_, _], _ => rfl
theorem bd_all_words {K : PySem.W.Frag} {f : Addr} {fd : FuncData} (F : D_all_words K f fd) : Binds K fd P_all_words [] := F.bindsN fun _ _ _ _ _ _ us hl => match us, hl with | [_, _], _ => rfl
theorem bd_divisors_of {K : PySem.W.Frag} {f : Addr} {fd : FuncData} (F : D_divisors_of K f fd) : Binds K fd P_divisors_of [] := F.bindsN fun _ _ _ _ _ _ us hl => match us, hl with | [_], _ => rfl
theorem bd_phi_of {K : PySem.W.Frag} {f : Addr} {fd : FuncData} (F : D_phi_of K f fd) : Binds K fd P_phi_of [] := F.bindsN fun _ _ _ _ _ _ us hl => match us, hl with | [_], _ => rfl
theorem bd_primes_of {K : PySem.W.Frag} {f : Addr} {fd : FuncData} (F : D_primes_of K f fd) : Binds K fd P_primes_of [] := F.bindsN fun _ _ _ _ _ _ us hl => match us, hl with | [_], _ => rfl
theorem bd_mu_of {K : PySem.W.Frag} {f : Addr} {fd : FuncData} (F : D_mu_of K f fd) : Binds K fd P_mu_of [] := F.bindsN fun _ _ _ _ _ _ us hl => match us, hl with | [_], _ => rfl
theorem bd_common_divisor {K : PySem.W.Frag} {f : Addr} {fd : FuncData} (F : D_common_divisor K f fd) : Binds K fd P_common_divisor [] := F.bindsN fun _ _ _ _ _ _ us hl => match us, hl with | [_, _], _ => rfl
theorem bd_odd_part {K : PySem.W.Frag} {f : Addr} {fd : FuncData} (F : D_odd_part K f fd) : Binds K fd P_odd_part [] := F.bindsN fun _ _ _ _ _ _ us hl => match us, hl with | [_], _ => rfl
theorem bd_ram_of {K : PySem.W.Frag} {f : Addr} {fd : FuncData} (F : D_ram_of K f fd) : Binds K fd P_ram_of [] := F.bindsN fun _ _ _ _ _ _ us hl => match us, hl with | [_, _], _ => rfl
theorem bd_size_of {K : PySem.W.Frag} {f : Addr} {fd : FuncData} (F : D_size_of K f fd) : Binds K fd P_size_of [] := F.bindsN fun _ _ _ _ _ _ us hl => match us, hl with | [_, _], _ => rfl
theorem bd_check_rest_sizes {K : PySem.W.Frag} {f : Addr} {fd : FuncData} (F : D_check_rest_sizes K f fd) : Binds K fd P_check_rest_sizes [] := F.bindsN fun _ _ _ _ _ _ us hl => match us, hl with | [_, _], _ => rfl
theorem bd_book_sizes {K : PySem.W.Frag} {f : Addr} {fd : FuncData} (F : D_book_sizes K f fd) : Binds K fd P_book_sizes [] := F.bindsN fun _ _ _ _ _ _ us hl => match us, hl with | [_], _ => rfl
theorem bd_extremes_of {K : PySem.W.Frag} {f : Addr} {fd : FuncData} (F : D_extremes_of K f fd) : Binds K fd P_extremes_of [] := F.bindsN fun _ _ _ _ _ _ us hl => match us, hl with | [_], _ => rfl
theorem bd_sum_of {K : PySem.W.Frag} {f : Addr} {fd : FuncData} (F : D_sum_of K f fd) : Binds K fd P_sum_of [] := F.bindsN fun _ _ _ _ _ _ us hl => match us, hl with | [_], _ => rfl
theorem bd_SumBook___init {K : PySem.W.Frag} {f : Addr} {fd : FuncData} (F : D_SumBook___init K f fd) : Binds K fd P_SumBook___init [] := F.bindsN fun _ _ _ _ _ _ us hl => match us, hl with | [_, _, _, _], _ => rfl
theorem bd_SumBook___eq {K : PySem.W.Frag} {f : Addr} {fd : FuncData} (F : D_SumBook___eq K f fd) : Binds K fd P_SumBook___eq [] := F.bindsN fun _ _ _ _ _ _ us hl => match us, hl with | [_, _], _ => rfl
theorem bd_SumBook_is_full {K : PySem.W.Frag} {f : Addr} {fd : FuncData} (F : D_SumBook_is_full K f fd) : Binds K fd P_SumBook_is_full [] := F.bindsN fun _ _ _ _ _ _ us hl => match us, hl with | [_], _ => rfl
theorem bd_SumBook_holding {K : PySem.W.Frag} {f : Addr} {fd : FuncData} (F : D_SumBook_holding K f fd) : Binds K fd P_SumBook_holding [] := F.bindsN fun _ _ _ _ _ _ us hl => match us, hl with | [_, _], _ => rfl
theorem bd_SumBook_has {K : PySem.W.Frag} {f : Addr} {fd : FuncData} (F : D_SumBook_has K f fd) : Binds K fd P_SumBook_has [] := F.bindsN fun _ _ _ _ _ _ us hl => match us, hl with | [_, _], _ => rfl
theorem bd_SumBook_contrary {K : PySem.W.Frag} {f : Addr} {fd : FuncData} (F : D_SumBook_contrary K f fd) : Binds K fd P_SumBook_contrary [] := F.bindsN fun _ _ _ _ _ _ us hl => match us, hl with | [_], _ => rfl
theorem bd_SumBook_turned {K : PySem.W.Frag} {f : Addr} {fd : FuncData} (F : D_SumBook_turned K f fd) : Binds K fd P_SumBook_turned [] := F.bindsN fun _ _ _ _ _ _ us hl => match us, hl with | [_], _ => rfl
theorem bd_check_modulus {K : PySem.W.Frag} {f : Addr} {fd : FuncData} (F : D_check_modulus K f fd) : Binds K fd P_check_modulus [] := F.bindsN fun _ _ _ _ _ _ us hl => match us, hl with | [_, _], _ => rfl
theorem bd_check_rest_sums {K : PySem.W.Frag} {f : Addr} {fd : FuncData} (F : D_check_rest_sums K f fd) : Binds K fd P_check_rest_sums [] := F.bindsN fun _ _ _ _ _ _ us hl => match us, hl with | [_, _], _ => rfl
theorem bd_sum_members {K : PySem.W.Frag} {f : Addr} {fd : FuncData} (F : D_sum_members K f fd) : Binds K fd P_sum_members [] := F.bindsN fun _ _ _ _ _ _ us hl => match us, hl with | [_], _ => rfl
theorem bd_law_hand {K : PySem.W.Frag} {f : Addr} {fd : FuncData} (F : D_law_hand K f fd) : Binds K fd P_law_hand [] := F.bindsN fun _ _ _ _ _ _ us hl => match us, hl with | [_], _ => rfl
theorem bd_law_mixed {K : PySem.W.Frag} {f : Addr} {fd : FuncData} (F : D_law_mixed K f fd) : Binds K fd P_law_mixed [] := F.bindsN fun _ _ _ _ _ _ us hl => match us, hl with | [_, _], _ => rfl
theorem bd_law_take {K : PySem.W.Frag} {f : Addr} {fd : FuncData} (F : D_law_take K f fd) : Binds K fd P_law_take [] := F.bindsN fun _ _ _ _ _ _ us hl => match us, hl with | [_, _], _ => rfl
theorem bd_law_whole {K : PySem.W.Frag} {f : Addr} {fd : FuncData} (F : D_law_whole K f fd) : Binds K fd P_law_whole [] := F.bindsN fun _ _ _ _ _ _ us hl => match us, hl with | [_], _ => rfl
theorem bd_law_power {K : PySem.W.Frag} {f : Addr} {fd : FuncData} (F : D_law_power K f fd) : Binds K fd P_law_power [] := F.bindsN fun _ _ _ _ _ _ us hl => match us, hl with | [_, _], _ => rfl
theorem bd_law_divided {K : PySem.W.Frag} {f : Addr} {fd : FuncData} (F : D_law_divided K f fd) : Binds K fd P_law_divided [] := F.bindsN fun _ _ _ _ _ _ us hl => match us, hl with | [_], _ => rfl
theorem bd_law_gcd {K : PySem.W.Frag} {f : Addr} {fd : FuncData} (F : D_law_gcd K f fd) : Binds K fd P_law_gcd [] := F.bindsN fun _ _ _ _ _ _ us hl => match us, hl with | [_, _], _ => rfl
theorem bd_law_odd {K : PySem.W.Frag} {f : Addr} {fd : FuncData} (F : D_law_odd K f fd) : Binds K fd P_law_odd [] := F.bindsN fun _ _ _ _ _ _ us hl => match us, hl with | [_], _ => rfl
theorem bd_law_counts {K : PySem.W.Frag} {f : Addr} {fd : FuncData} (F : D_law_counts K f fd) : Binds K fd P_law_counts [] := F.bindsN fun _ _ _ _ _ _ us hl => match us, hl with | [_, _], _ => rfl
theorem bd_law_is_number {K : PySem.W.Frag} {f : Addr} {fd : FuncData} (F : D_law_is_number K f fd) : Binds K fd P_law_is_number [] := F.bindsN fun _ _ _ _ _ _ us hl => match us, hl with | [_, _], _ => rfl
theorem bd_law_is_word {K : PySem.W.Frag} {f : Addr} {fd : FuncData} (F : D_law_is_word K f fd) : Binds K fd P_law_is_word [] := F.bindsN fun _ _ _ _ _ _ us hl => match us, hl with | [_, _], _ => rfl
theorem bd_law_compared {K : PySem.W.Frag} {f : Addr} {fd : FuncData} (F : D_law_compared K f fd) : Binds K fd P_law_compared [] := F.bindsN fun _ _ _ _ _ _ us hl => match us, hl with | [_, _, _, _, _], _ => rfl
theorem bd_law_walked {K : PySem.W.Frag} {f : Addr} {fd : FuncData} (F : D_law_walked K f fd) : Binds K fd P_law_walked [] := F.bindsN fun _ _ _ _ _ _ us hl => match us, hl with | [_], _ => rfl
theorem bd_law_multiple {K : PySem.W.Frag} {f : Addr} {fd : FuncData} (F : D_law_multiple K f fd) : Binds K fd P_law_multiple [] := F.bindsN fun _ _ _ _ _ _ us hl => match us, hl with | [_, _], _ => rfl
theorem bd_law_long {K : PySem.W.Frag} {f : Addr} {fd : FuncData} (F : D_law_long K f fd) : Binds K fd P_law_long [] := F.bindsN fun _ _ _ _ _ _ us hl => match us, hl with | [_], _ => rfl
theorem bd_law {K : PySem.W.Frag} {f : Addr} {fd : FuncData} (F : D_law K f fd) : Binds K fd P_law [] := F.bindsN fun _ _ _ _ _ _ us hl => match us, hl with | [_], _ => rfl
theorem bd_is_whole_3 {K : PySem.W.Frag} {f : Addr} {fd : FuncData} (F : D_is_whole K f fd) : ∃ ds, Vals [] ds ∧ Binds K fd P_is_whole ds := F.binds1 3 2 (by simp) rfl fun _ _ _ _ _ _ _ us its h1 h2 => match us, its, h1, h2 with | [_, _, _], [_, _], _, _ => ⟨_, rfl, rfl⟩
theorem bd_check_word_3 {K : PySem.W.Frag} {f : Addr} {fd : FuncData} (F : D_check_word K f fd) : ∃ ds, Vals [] ds ∧ Binds K fd P_check_word ds := F.binds1 3 1 (by simp) rfl fun _ _ _ _ _ _ _ us its h1 h2 => match us, its, h1, h2 with | [_, _, _], [_], _, _ => ⟨_, rfl, rfl⟩
theorem mt_ok {K : PySem.W.Frag} {mg : Str → Option Value} (T : Txt K mg) : ∀ a b r, mt a b = some r → PySem.W.exmOne K (.ref (He.ga K a)) (.ref (He.ga K b)) = some r := by
  intro a b r h
  unfold mt at h
  cases h
theorem fld_ok {K : PySem.W.Frag} {mg : Str → Option Value} (T : Txt K mg) : FldOk K ftab := by
  intro a f h
  unfold ftab at h
  by_cases c : a = "SumBook" ∧ f = "length"
  · obtain ⟨rfl, rfl⟩ := c; exact ⟨T.l_SumBook, T.a_SumBook_is_length⟩
  rw [if_neg c] at h; clear c
  by_cases c : a = "SumBook" ∧ f = "modulus"
  · obtain ⟨rfl, rfl⟩ := c; exact ⟨T.l_SumBook, T.a_SumBook_is_modulus⟩
  rw [if_neg c] at h; clear c
  by_cases c : a = "SumBook" ∧ f = "rest"
  · obtain ⟨rfl, rfl⟩ := c; exact ⟨T.l_SumBook, T.a_SumBook_is_rest⟩
  rw [if_neg c] at h; clear c
  cases h
theorem isi_SumBook {K : PySem.W.Frag} {mg : Str → Option Value} (T : Txt K mg) : IsOk K "SumBook" tabI_SumBook := by
  refine ⟨fun a r h => ?_, T.j_SumBook⟩
  unfold tabI_SumBook at h
  by_cases c : a = "SumBook"
  · rw [if_pos c] at h; subst c; cases h; exact ⟨T.k_SumBook_is_SumBook, tyx_ins T.l_SumBook T.o_SumBook⟩
  rw [if_neg c] at h; clear c
  cases h

end Mine

namespace Mine
open PySem PySem.Spec PyProof.Rows L2
local macro_rules | `(tactic| walk_at "rd") => `(tactic| try simp only [tMk1, iEnumA, iSeq, tPar3, tAugS, ipI, rRepA, rIxA, tCallSD, rExtend, tDNewK, iZipS, tXf, tSeq, tAsg, tCB, tCons, tNil, tVar, tOp, tUn, rI, rI0, rU, gName, gNil, gCons, gSub, rSetL, tC, tRet, tRetN, tNext, tIfS, tTest, tB, tAnd, tOr, tNot, tAndV, tOrV, tNotV, tIf,
  tDrop, tCall, tCallS, tPar, tAug, ipI, tBreak, tCont, tTup, tLst, rEq_int, rNe_int, rEq_bl, rNe_bl, rEq_str, rNe_str, HO.lst.injEq, HO.tup.injEq, Bool.not_eq_true', decide_eq_false_iff_not, rIxH, rIxTH, rCat, tSl, tPart, tNoPart, tBM, rAppend, L2.start, tFor_eq, tLc_eq, iList, iTup, iRng1, iRng2, iEnum, iZip, cx_K, cx_prog, cx_w, cx_nK, forall_const, tYes, wipe, List.foldl_cons, List.foldl_nil, and_assoc, List.map_cons, List.map_nil, List.length_cons, List.length_nil, List.replicate, List.append_nil, List.cons_append, List.nil_append,
  List.getElem?_cons_zero, List.getElem?_cons_succ, List.set_cons_zero, List.set_cons_succ, Nat.zero_add, Nat.add_zero, Nat.reduceAdd, Nat.reduceSub, Option.some.injEq, V.int.injEq, V.bl.injEq, V.ref.injEq, V.str.injEq,
  List.cons.injEq, and_true, true_and, exists_eq_left, exists_eq_left', exists_eq_right, exists_const, exists_eq, exists_and_left, exists_and_right, upd_same, upd_upd, atI_0, atI_1, atI_2, atI_3, ixN_4_0, ixN_4_1, ixN_4_2, ixN_4_3, some_lst, some_tup, decide_eq_true_eq, reduceCtorEq,
  V.int.injEq, Bool.true_eq_false, Bool.false_eq_true, if_true, if_false, ite_true, ite_false, eq_self, not_true_eq_false, not_false_eq_true, decide_true, decide_false, Bool.not_true, Bool.not_false, false_and, and_false, exists_false])
local macro_rules | `(tactic| walk_at "mono") => `(tactic| repeat (first | with_reducible exact mon_var _ | with_reducible exact mon_c _ | with_reducible exact mon_rI _ _ | with_reducible exact mon_rI0 _ | with_reducible exact mon_rEq | with_reducible exact mon_rNe | with_reducible refine mon_test ?_ | with_reducible refine mon_op ?_ ?_ ?_ | with_reducible refine mon_and ?_ ?_ | with_reducible refine mon_or ?_ ?_ | with_reducible exact mon_rU _ | with_reducible refine mon_un ?_ ?_))
local macro_rules | `(tactic| walk_at "sd") => `(tactic| first | assumption | omega | (unfold CMul; omega) | (unfold CDiv; omega) | rfl | decide)
local macro_rules | `(tactic| walk_at "go") => `(tactic| repeat (refine And.intro (by first | assumption | omega | exact tyL (by assumption) | (unfold CMul; omega) | (unfold CDiv; omega) | rfl | decide) ?_))
theorem ok_law_hand {P : Program} {w : World} {K : PySem.W.Frag} {mg : Str → Option Value} {base : Heap} (T : Txt K mg) : ∃ fd, FnOk P w K mg base CX0 1 (He.ga K "_law_hand") fd P_law_hand (sp_hand K) ∧ D_law_hand K (He.ga K "_law_hand") fd := by
  obtain ⟨fd, F⟩ := T.F_law_hand
  refine ⟨fd, F.ok sc_law_hand (fun vs H Q E h => ?_) (fun cdv A outer s H vs Q E hr h => ?_), F⟩
  · obtain ⟨a, ns, rfl, _⟩ := h
    rfl
  ·
    obtain ⟨a, ns, rfl, hS, hl, q⟩ := h
    refine ⟨_, PSs.nox (pss_cons (ps_set (i := 1) sc_law_hand.nd rfl (by first | exact Or.inl rfl | exact Or.inr rfl) (pe_op op_add (pe_callB call_len_seq (by rfl) T.z_len (by decide +kernel) (pa_cons (pv 0) pa_nil)) pe_int))
    (pss_cons (ps_set (i := 2) sc_law_hand.nd rfl (by first | exact Or.inl rfl | exact Or.inr rfl) (pe_lst pa_nil))
    (pss_cons (ps_for PassesOwn.never rfl (pi_list (pv 0)) (pg_name (i := 3) sc_law_hand.nd rfl (by first | exact Or.inl rfl | exact Or.inr rfl))
    (pss_cons (ps_set (i := 1) sc_law_hand.nd rfl (by first | exact Or.inl rfl | exact Or.inr rfl) (pe_op op_mod (pe_callTy call_intI (by rfl) T.z_int (by decide +kernel) (pa_cons (pe_op op_add (pe_op op_mul (pv 1) pe_int) (pe_callTy call_intI (by rfl) T.z_int (by decide +kernel) (pa_cons (pv 3) pa_nil))) pa_nil)) pe_int))
    (pss_one (ps_expr (pe_bm PySem.F.plainAttrs_list PySem.F.slot_list_append PySem.F.type_list_append mt_append (pv 2) (pa_cons (pe_callB call_abs (by rfl) T.z_abs (by decide +kernel) (pa_cons (pe_callTy call_intI (by rfl) T.z_int (by decide +kernel) (pa_cons (pv 3) pa_nil)) pa_nil)) pa_nil))))))
    (pss_one (ps_ret (pe_lst (pa_cons (pv 2) (pa_cons pe_int (pa_cons pe_int (pa_cons (pv 1) pa_nil)))))))))), ?_⟩
    walk_at "rd"
    refine ⟨ns.map V.int, .inl hS, by decide, fun c hc => ⟨⟨_, (same_upd hc).seq hS⟩, ?_⟩⟩
    refine Loop.by (walk_list (xs := ns.map V.int)) (i_hand H a c) ⟨_, none, [], rfl, rfl, upd_same, by simp, same_upd hc, by omega, by rw [List.length_map]; omega⟩
      (fun i σ H' _ ⟨_, _, _, _, _, _, _, sm, _⟩ => sm.seq hS) ?_ ?_
    · rintro i x σ H' H'' hi ⟨tot, v3, cells, rfl, hz, hc', hp, sm, h0, h1⟩ ⟨rfl, hx⟩
      rw [List.length_map] at hi
      rw [List.getElem?_map, List.getElem?_eq_getElem hi] at hx
      obtain rfl := Option.some.inj hx
      walk_at "rd"
      walk_at "go"
      refine ⟨_, hc', by rw [List.length_map]; exact small1000 (by omega), _, _, cells ++ [if ns[i] < 0 then -ns[i] else ns[i]], rfl, by simp [hz], by rw [upd_same, List.map_append]; rfl, ?_, ?_, by omega, by omega⟩
      · intro z hz
        rcases List.mem_append.mp hz with h | h
        · exact hp z h
        · rw [List.mem_singleton] at h; rw [h]; split <;> omega
      · intro b o e
        rw [upd_ne (ne_of_none e hc)]; exact sm b o e
    · rintro σ H' ⟨tot, v3, cells, rfl, hz, hc', hp, sm, h0, h1⟩
      walk_at "rd"
      rw [List.length_map] at hz
      refine ⟨by decide, fun p hp' => q _ p (sm.trans (same_upd hp')) (sm.free hp') ⟨c, cells, 0, 0, tot, upd_same, ?_, hp, by omega, by omega, by omega, h0, h1⟩⟩
      rw [upd_ne (ne_of_none hc' hp')]; exact hc'
end Mine

namespace Mine
open PySem PySem.Spec PyProof.Rows L2
local macro_rules | `(tactic| walk_at "rd") => `(tactic| try simp only [tMk1, iEnumA, iSeq, tPar3, tAugS, ipI, rRepA, rIxA, tCallSD, rExtend, tDNewK, iZipS, tXf, tSeq, tAsg, tCB, tCons, tNil, tVar, tOp, tUn, rI, rI0, rU, gName, gNil, gCons, gSub, rSetL, tC, tRet, tRetN, tNext, tIfS, tTest, tB, tAnd, tOr, tNot, tAndV, tOrV, tNotV, tIf,
  tDrop, tCall, tCallS, tPar, tAug, ipI, tBreak, tCont, tTup, tLst, rEq_int, rNe_int, rEq_bl, rNe_bl, rEq_str, rNe_str, HO.lst.injEq, HO.tup.injEq, Bool.not_eq_true', decide_eq_false_iff_not, rIxH, rIxTH, rCat, tSl, tPart, tNoPart, tBM, rAppend, L2.start, tFor_eq, tLc_eq, iList, iTup, iRng1, iRng2, iEnum, iZip, cx_K, cx_prog, cx_w, cx_nK, forall_const, tYes, wipe, List.foldl_cons, List.foldl_nil, and_assoc, List.map_cons, List.map_nil, List.length_cons, List.length_nil, List.replicate, List.append_nil, List.cons_append, List.nil_append,
  List.getElem?_cons_zero, List.getElem?_cons_succ, List.set_cons_zero, List.set_cons_succ, Nat.zero_add, Nat.add_zero, Nat.reduceAdd, Nat.reduceSub, Option.some.injEq, V.int.injEq, V.bl.injEq, V.ref.injEq, V.str.injEq,
  List.cons.injEq, and_true, true_and, exists_eq_left, exists_eq_left', exists_eq_right, exists_const, exists_eq, exists_and_left, exists_and_right, upd_same, upd_upd, atI_0, atI_1, atI_2, atI_3, ixN_4_0, ixN_4_1, ixN_4_2, ixN_4_3, some_lst, some_tup, decide_eq_true_eq, reduceCtorEq,
  V.int.injEq, Bool.true_eq_false, Bool.false_eq_true, if_true, if_false, ite_true, ite_false, eq_self, not_true_eq_false, not_false_eq_true, decide_true, decide_false, Bool.not_true, Bool.not_false, false_and, and_false, exists_false])
local macro_rules | `(tactic| walk_at "mono") => `(tactic| repeat (first | with_reducible exact mon_var _ | with_reducible exact mon_c _ | with_reducible exact mon_rI _ _ | with_reducible exact mon_rI0 _ | with_reducible exact mon_rEq | with_reducible exact mon_rNe | with_reducible refine mon_test ?_ | with_reducible refine mon_op ?_ ?_ ?_ | with_reducible refine mon_and ?_ ?_ | with_reducible refine mon_or ?_ ?_ | with_reducible exact mon_rU _ | with_reducible refine mon_un ?_ ?_))
local macro_rules | `(tactic| walk_at "sd") => `(tactic| first | assumption | omega | (unfold CMul; omega) | (unfold CDiv; omega) | rfl | decide)
local macro_rules | `(tactic| walk_at "go") => `(tactic| repeat (refine And.intro (by first | assumption | omega | exact tyL (by assumption) | (unfold CMul; omega) | (unfold CDiv; omega) | rfl | decide) ?_))
theorem ok_law_mixed {P : Program} {w : World} {K : PySem.W.Frag} {mg : Str → Option Value} {base : Heap} (T : Txt K mg) : ∃ fd, FnOk P w K mg base CX0 1 (He.ga K "_law_mixed") fd P_law_mixed sp_mixed ∧ D_law_mixed K (He.ga K "_law_mixed") fd := by
  obtain ⟨fd, F⟩ := T.F_law_mixed
  refine ⟨fd, F.ok sc_law_mixed (fun vs H Q E h => ?_) (fun cdv A outer s H vs Q E hr h => ?_), F⟩
  · obtain ⟨n, t, rfl, _⟩ := h
    rfl
  ·
    obtain ⟨n, t, rfl, ⟨h1, h2, h3, h4⟩, q⟩ := h
    refine ⟨_, PSs.nox (pss_cons (ps_set (i := 2) sc_law_mixed.nd rfl (by first | exact Or.inl rfl | exact Or.inr rfl) (pe_op op_mod (pe_callTy call_intI (by rfl) T.z_int (by decide +kernel) (pa_cons (pe_op op_add (pe_op op_add (pe_op op_mul (pv 0) pe_int) (pe_op op_mul (pv 1) pe_int)) pe_int) pa_nil)) pe_int))
    (pss_cons (ps_set (i := 3) sc_law_mixed.nd rfl (by first | exact Or.inl rfl | exact Or.inr rfl) (pe_op op_mod (pe_callTy call_intI (by rfl) T.z_int (by decide +kernel) (pa_cons (pe_op op_add (pe_op op_add (pe_op op_mul (pv 2) (pv 2)) (pe_op op_mul (pv 1) pe_int)) (pe_op op_fdiv (pv 2) pe_int)) pa_nil)) pe_int))
    (pss_one (ps_ret (pe_op op_fdiv (pe_callTy call_intI (by rfl) T.z_int (by decide +kernel) (pa_cons (pe_op op_mod (pe_callTy call_intI (by rfl) T.z_int (by decide +kernel) (pa_cons (pe_op op_add (pe_op op_mul (pv 3) pe_int) (pe_op op_fdiv (pv 2) pe_int)) pa_nil)) pe_int) pa_nil)) pe_int))))), ?_⟩
    walk_at "rd"
    walk_at "go"
    exact q _ (mixedN_pos n t)
end Mine

namespace Mine
open PySem PySem.Spec PyProof.Rows L2
local macro_rules | `(tactic| walk_at "rd") => `(tactic| try simp only [tMk1, iEnumA, iSeq, tPar3, tAugS, ipI, rRepA, rIxA, tCallSD, rExtend, tDNewK, iZipS, tXf, tSeq, tAsg, tCB, tCons, tNil, tVar, tOp, tUn, rI, rI0, rU, gName, gNil, gCons, gSub, rSetL, tC, tRet, tRetN, tNext, tIfS, tTest, tB, tAnd, tOr, tNot, tAndV, tOrV, tNotV, tIf,
  tDrop, tCall, tCallS, tPar, tAug, ipI, tBreak, tCont, tTup, tLst, rEq_int, rNe_int, rEq_bl, rNe_bl, rEq_str, rNe_str, HO.lst.injEq, HO.tup.injEq, Bool.not_eq_true', decide_eq_false_iff_not, rIxH, rIxTH, rCat, tSl, tPart, tNoPart, tBM, rAppend, L2.start, tFor_eq, tLc_eq, iList, iTup, iRng1, iRng2, iEnum, iZip, cx_K, cx_prog, cx_w, cx_nK, forall_const, tYes, wipe, List.foldl_cons, List.foldl_nil, and_assoc, List.map_cons, List.map_nil, List.length_cons, List.length_nil, List.replicate, List.append_nil, List.cons_append, List.nil_append,
  List.getElem?_cons_zero, List.getElem?_cons_succ, List.set_cons_zero, List.set_cons_succ, Nat.zero_add, Nat.add_zero, Nat.reduceAdd, Nat.reduceSub, Option.some.injEq, V.int.injEq, V.bl.injEq, V.ref.injEq, V.str.injEq,
  List.cons.injEq, and_true, true_and, exists_eq_left, exists_eq_left', exists_eq_right, exists_const, exists_eq, exists_and_left, exists_and_right, upd_same, upd_upd, atI_0, atI_1, atI_2, atI_3, ixN_4_0, ixN_4_1, ixN_4_2, ixN_4_3, some_lst, some_tup, decide_eq_true_eq, reduceCtorEq,
  V.int.injEq, Bool.true_eq_false, Bool.false_eq_true, if_true, if_false, ite_true, ite_false, eq_self, not_true_eq_false, not_false_eq_true, decide_true, decide_false, Bool.not_true, Bool.not_false, false_and, and_false, exists_false])
local macro_rules | `(tactic| walk_at "mono") => `(tactic| repeat (first | with_reducible exact mon_var _ | with_reducible exact mon_c _ | with_reducible exact mon_rI _ _ | with_reducible exact mon_rI0 _ | with_reducible exact mon_rEq | with_reducible exact mon_rNe | with_reducible refine mon_test ?_ | with_reducible refine mon_op ?_ ?_ ?_ | with_reducible refine mon_and ?_ ?_ | with_reducible refine mon_or ?_ ?_ | with_reducible exact mon_rU _ | with_reducible refine mon_un ?_ ?_))
local macro_rules | `(tactic| walk_at "sd") => `(tactic| first | assumption | omega | (unfold CMul; omega) | (unfold CDiv; omega) | rfl | decide)
local macro_rules | `(tactic| walk_at "go") => `(tactic| repeat (refine And.intro (by first | assumption | omega | exact tyL (by assumption) | (unfold CMul; omega) | (unfold CDiv; omega) | rfl | decide) ?_))
theorem ok_law_take {P : Program} {w : World} {K : PySem.W.Frag} {mg : Str → Option Value} {base : Heap} (T : Txt K mg) : ∃ fd, FnOk P w K mg base CX0 2 (He.ga K "_law_take") fd P_law_take (spD K F_law_take) ∧ D_law_take K (He.ga K "_law_take") fd := by
  obtain ⟨fd, F⟩ := T.F_law_take
  obtain ⟨fd_law_mixed, G_law_mixed, D_law_mixed⟩ := ok_law_mixed (P := P) (w := w) (base := base) T
  have k_law_mixed := D_law_mixed.kp
  have b_law_mixed := bd_law_mixed D_law_mixed
  refine ⟨fd, F.ok sc_law_take (fun vs H Q E h => ?_) (fun cdv A outer s H vs Q E hr h => ?_), F⟩
  · obtain ⟨h, m, rfl, _⟩ := take_spD _ _ _ _ h -- := h
    rfl
  ·
    replace h := take_spD _ _ _ _ h
    obtain ⟨h, m, rfl, ⟨c, cells, at_, big, mix, hH, hC, hp, ha, hl, hb, hm, hm2⟩, h1, h2, q⟩ := h
    have hc : c ≠ h := ne_of hC hH (by
      intro z
      cases cells with
      | nil => cases z
      | cons x r => cases z)
    have k : ∀ xs, upd H h (.lst xs) c = some (.lst (cells.map V.int)) := fun xs => by rw [upd_ne hc]; exact hC
    have key : ∀ (ai : Int) (a2 : Nat) (b2 m2 : Int), ai = a2 → a2 ≤ cells.length → 0 ≤ b2 → 0 ≤ m2 → m2 < 2147483563 → HandN H h (.lst [.ref c, .int ai, .int b2, .int m2]) :=
      fun ai a2 b2 m2 e x1 x2 x3 x4 => ⟨⟨c, cells, a2, b2, m2, by rw [upd_same, e], k _, hp, x1, hl, x2, x3, x4⟩, c, _, _, hH, rfl⟩
    have emod : ∀ z : Int, 0 ≤ z % m ∧ z % m < m := fun z => ⟨Int.emod_nonneg _ (by omega), Int.emod_lt_of_pos _ h1⟩
    have ediv : ∀ z : Int, 0 ≤ z → 0 ≤ z / m := fun z hz => Int.ediv_nonneg hz (by omega)
    have fresh : ∀ (ai : Int) (a2 : Nat) (b2 : Int), ai = a2 → a2 ≤ cells.length → 0 ≤ b2 → (0 : Int) < 2147483549 ∧ sp_mixed [V.int ((mix + 1) % 2147483549), V.int ai] (upd H h (.lst [.ref c, .int ai, .int b2, .int ((mix + 1) % 2147483549)]))
        (fun x H1 => ∃ i, x = V.int i ∧ 0 < m ∧ Q (V.int (i % m)) H1) E0 := fun ai a2 b2 e x1 x2 => by
      refine ⟨by decide, _, _, rfl, by omega, fun r hr => ⟨r, rfl, h1, q _ _ (emod r).1 (emod r).2 (key ai a2 b2 _ e x1 x2 (by omega) (by omega))⟩⟩
    refine ⟨_, PSs.nox (pss_cons (ps_if (PW.pt (pw_and (pt_cmpR op_eq (pe_ix ix_H (pv 0) pe_int (fun _ _ => rfl)) pe_int (nomark _)) (pw_and1 (pt_cmpR op_lt (pe_ix ix_H (pv 0) pe_int (fun _ _ => rfl)) (pe_callB call_lenL (by rfl) T.z_len (by decide +kernel) (pa_cons (pe_ix ix_H (pv 0) pe_int (fun _ _ => rfl)) pa_nil)) (nomark _)))))
    (pss_cons (ps_set (i := 2) sc_law_take.nd rfl (by first | exact Or.inl rfl | exact Or.inr rfl) (pe_ix ix_H (pe_ix ix_H (pv 0) pe_int (fun _ _ => rfl)) (pe_ix ix_H (pv 0) pe_int (fun _ _ => rfl)) (fun _ _ => rfl)))
    (pss_cons (ps_asg (pe_op op_add (pe_ix ix_H (pv 0) pe_int (fun _ _ => rfl)) pe_int) (pg_sub (pv 0) pe_int set_list))
    (pss_cons (ps_if (pt_cmpR op_lt (pv 2) (pe_op op_pow pe_int pe_int) (nomark _))
    (pss_one (ps_ret (pe_op op_mod (pe_callTy call_intI (by rfl) T.z_int (by decide +kernel) (pa_cons (pe_call G_law_mixed (hr.mono (by decide)) rfl T.g__law_mixed k_law_mixed b_law_mixed .nil pass0 (pa_cons (pe_op op_mod (pe_callTy call_intI (by rfl) T.z_int (by decide +kernel) (pa_cons (pv 2) pa_nil)) pe_int) (pa_cons (pe_ix ix_H (pv 0) pe_int (fun _ _ => rfl)) pa_nil))) pa_nil)) (pv 1))))
    pss_nil)
    (pss_one (ps_asg (pv 2) (pg_sub (pv 0) pe_int set_list))))))
    pss_nil)
    (pss_cons (ps_if (pt_cmpR op_gt (pe_ix ix_H (pv 0) pe_int (fun _ _ => rfl)) pe_int (nomark _))
    (pss_cons (ps_set (i := 3) sc_law_take.nd rfl (by first | exact Or.inl rfl | exact Or.inr rfl) (pe_ix ix_H (pv 0) pe_int (fun _ _ => rfl)))
    (pss_cons (ps_asg (pe_op op_fdiv (pe_callTy call_intI (by rfl) T.z_int (by decide +kernel) (pa_cons (pv 3) pa_nil)) (pv 1)) (pg_sub (pv 0) pe_int set_list))
    (pss_one (ps_ret (pe_op op_mod (pe_callTy call_intI (by rfl) T.z_int (by decide +kernel) (pa_cons (pv 3) pa_nil)) (pv 1))))))
    pss_nil)
    (pss_cons (ps_asg (pe_op op_mod (pe_callTy call_intI (by rfl) T.z_int (by decide +kernel) (pa_cons (pe_op op_add (pe_ix ix_H (pv 0) pe_int (fun _ _ => rfl)) pe_int) pa_nil)) pe_int) (pg_sub (pv 0) pe_int set_list))
    (pss_one (ps_ret (pe_op op_mod (pe_callTy call_intI (by rfl) T.z_int (by decide +kernel) (pa_cons (pe_call G_law_mixed (hr.mono (by decide)) rfl T.g__law_mixed k_law_mixed b_law_mixed .nil pass0 (pa_cons (pe_ix ix_H (pv 0) pe_int (fun _ _ => rfl)) (pa_cons (pe_ix ix_H (pv 0) pe_int (fun _ _ => rfl)) pa_nil))) pa_nil)) (pv 1))))))), ?_⟩
    simp only [tMk1, iEnumA, iSeq, tPar3, tAugS, ipI, rRepA, rIxA, tCallSD, rExtend, tDNewK, iZipS, tXf, tSeq, tAsg, tCB, tCons, tNil, tVar, tOp, tUn, rI, rI0, rU, gName, gNil, gCons, gSub, rSetL, tC, tRet, tRetN, tNext, tIfS, tTest, tB, tAnd, tOr, tNot, tAndV, tOrV, tNotV, tIf,
  tDrop, tCall, tCallS, tPar, tAug, ipI, tBreak, tCont, tTup, tLst, rEq_int, rNe_int, rEq_bl, rNe_bl, rEq_str, rNe_str, HO.lst.injEq, HO.tup.injEq, Bool.not_eq_true', decide_eq_false_iff_not, rIxH, rIxTH, rCat, tSl, tPart, tNoPart, tBM, rAppend, L2.start, tFor_eq, tLc_eq, iList, iTup, iRng1, iRng2, iEnum, iZip, cx_K, cx_prog, cx_w, cx_nK, forall_const, tYes, wipe, List.foldl_cons, List.foldl_nil, and_assoc, List.map_cons, List.map_nil, List.length_cons, List.length_nil, List.replicate, List.append_nil, List.cons_append, List.nil_append,
  List.getElem?_cons_zero, List.getElem?_cons_succ, List.set_cons_zero, List.set_cons_succ, Nat.zero_add, Nat.add_zero, Nat.reduceAdd, Nat.reduceSub, Option.some.injEq, V.int.injEq, V.bl.injEq, V.ref.injEq, V.str.injEq,
  List.cons.injEq, and_true, true_and, exists_eq_left, exists_eq_left', exists_eq_right, exists_const, exists_eq, exists_and_left, exists_and_right, upd_same, upd_upd, atI_0, atI_1, atI_2, atI_3, ixN_4_0, ixN_4_1, ixN_4_2, ixN_4_3, some_lst, some_tup, decide_eq_true_eq, reduceCtorEq,
  V.int.injEq, Bool.true_eq_false, Bool.false_eq_true, if_true, if_false, ite_true, ite_false, eq_self, not_true_eq_false, not_false_eq_true, decide_true, decide_false, Bool.not_true, Bool.not_false, false_and, and_false, exists_false, hH, hC]
    have old : if 0 < big then CDiv big m ∧ 0 < m ∧ Q (V.int (big % m)) (upd H h (HO.lst [V.ref c, V.int ↑at_, V.int (big / m), V.int mix]))
        else (0 : Int) < 2147483549 ∧ sp_mixed [V.int ((mix + 1) % 2147483549), V.int ↑at_] (upd H h (HO.lst [V.ref c, V.int ↑at_, V.int big, V.int ((mix + 1) % 2147483549)])) (fun x H1 => ∃ i, x = V.int i ∧ 0 < m ∧ Q (V.int (i % m)) H1) E0 :=
      ite2 (fun _ => ⟨⟨h1, h2⟩, h1, q _ _ (emod big).1 (emod big).2 (key _ at_ _ _ rfl ha (ediv _ hb) hm hm2)⟩) (fun _ => fresh _ at_ _ rfl ha hb)
    refine ite2 (fun _ => ite2 (fun e => ?_) (fun _ => old)) (fun _ => old)
    have hlt : at_ < cells.length := by rw [List.length_map] at e; omega
    have hz := hp cells[at_] (List.getElem_mem hlt)
    refine ⟨.int cells[at_], atI_nat (by rw [List.getElem?_map, List.getElem?_eq_getElem hlt]; rfl), ⟨by decide, by decide, by decide⟩, _, rfl, ite2 (fun e2 => ?_) (fun e2 => ?_)⟩
    · refine ⟨_, rfl, by decide, _, _, rfl, by omega, fun r hr => ⟨r, rfl, h1, q _ _ (emod r).1 (emod r).2 (key _ (at_ + 1) _ _ (by omega) (by omega) hb hm hm2)⟩⟩
    · refine ⟨_, rfl, ite2 (fun e3 => ?_) (fun e3 => fresh _ (at_ + 1) _ (by omega) (by omega) hz)⟩
      exact ⟨_, rfl, ⟨h1, h2⟩, _, rfl, h1, q _ _ (emod _).1 (emod _).2 (key _ (at_ + 1) _ _ (by omega) (by omega) (ediv _ hz) hm hm2)⟩
end Mine

namespace Mine
open PySem PySem.Spec PyProof.Rows L2
theorem ok_law_divided {P : Program} {w : World} {K : PySem.W.Frag} {mg : Str → Option Value} {base : Heap} (T : Txt K mg) : ∃ fd, FnOk P w K mg base CX0 1 (He.ga K "_law_divided") fd P_law_divided (spD K F_law_divided) ∧ D_law_divided K (He.ga K "_law_divided") fd := by
  obtain ⟨fd, F⟩ := T.F_law_divided
  refine ⟨fd, F.ok sc_law_divided (fun vs H Q E h => ?_) (fun cdv A outer s H vs Q E hr h => ?_), F⟩
  · rw [F_law_divided_eq] at h
    exact spD_len (np := 1) (fun _ _ _ h => h.1) vs H Q E h
  · rw [F_law_divided_eq] at h
    refine ⟨_, PSs.nox (pss_cons (ps_par (i := 1) (j := 2) (by rfl) sc_law_divided.nd rfl rfl (by decide) rfl rfl (pa_cons (pe_lst pa_nil) (pa_cons (pe_lst pa_nil) pa_nil)) (by rfl))
    (pss_cons (ps_for PassesOwn.never rfl (pi_range2 (by rfl) T.z_range (pa_cons pe_int (pa_cons (pe_op (op_addU rfl) (pv 0) pe_int) pa_nil))) (pg_name (i := 3) sc_law_divided.nd rfl (by first | exact Or.inl rfl | exact Or.inr rfl))
    (pss_cons (ps_if (pt_cmpR op_gt (pe_op op_mulU (pv 3) (pv 3)) (pv 0) (by first | exact nomark _ | rfl))
    (pss_one ps_break)
    pss_nil)
    (pss_one (ps_if (pt_cmpR (op_eqU rfl hr.units) (pe_op op_mod (pe_callTy call_intU (by rfl) T.z_int (by decide +kernel) (pa_cons (pv 0) pa_nil)) (pv 3)) pe_int (by first | exact nomark _ | rfl))
    (pss_cons (ps_set (i := 1) sc_law_divided.nd rfl (by first | exact Or.inl rfl | exact Or.inr rfl) (pe_op (op_addU rfl) (pv 1) (pe_lst (pa_cons (pv 3) pa_nil))))
    (pss_one (ps_if (pt_cmpR (op_ltU rfl hr.units0) (pe_op op_mulU (pv 3) (pv 3)) (pv 0) (by first | exact nomark _ | rfl))
    (pss_one (ps_set (i := 2) sc_law_divided.nd rfl (by first | exact Or.inl rfl | exact Or.inr rfl) (pe_op (op_addU rfl) (pe_lst (pa_cons (pe_op op_fdiv (pv 0) (pv 3)) pa_nil)) (pv 2))))
    pss_nil)))
    pss_nil))))
    (pss_one (ps_ret (pe_op (op_addU rfl) (pv 1) (pv 2)))))), ?_⟩
    exact body_of0 rfl h fun X hd => (dst_seq (dst_par (da_cons (DEg.cln (df_lst da_nil)) (da_cons (DEg.cln (df_lst da_nil)) da_nil)))
    (dst_seq (dst_for (di_rng2 (db_cons (DEg.bor (de_int 1)) (db_cons (DEg.bor (dg_op od_add (db_var 0) (DEg.bor (de_int 1)))) db_nil))) (dg_name 3)
    (dst_seq (dst_if (dt_test (dg_op od_gt (DEg.bor (dg_op od_mul (db_var 3) (db_var 3))) (db_var 0)))
    dst_break
    dst_next)
    (dst_if (dt_test (dg_op od_eq (DEg.bor (dg_op od_mod (DEg.bor (dg_cb cg_int (db_cons (db_var 0) db_nil))) (db_var 3))) (DEg.bor (de_int 0))))
    (dst_seq (dst_asg (dg_op od_add (db_var 1) (DEg.bor (DEg.cln (df_lst (da_cons (de_var 3) da_nil))))) (dg_name 1))
    (dst_if (dt_test (dg_op od_lt (DEg.bor (dg_op od_mul (db_var 3) (db_var 3))) (db_var 0)))
    (dst_asg (dg_op od_add (DEg.bor (DEg.cln (df_lst (da_cons (dg_op od_fdiv (db_var 0) (db_var 3)) da_nil)))) (db_var 2)) (dg_name 2))
    dst_next))
    dst_next)))
    (dst_ret (dg_op od_add (db_var 1) (db_var 2)))))
end Mine

namespace Mine
open PySem PySem.Spec PyProof.Rows L2
theorem ok_law_multiple {P : Program} {w : World} {K : PySem.W.Frag} {mg : Str → Option Value} {base : Heap} (T : Txt K mg) : ∃ fd, FnOk P w K mg base CX0 3 (He.ga K "_law_multiple") fd P_law_multiple (spD K F_law_multiple) ∧ D_law_multiple K (He.ga K "_law_multiple") fd := by
  obtain ⟨fd, F⟩ := T.F_law_multiple
  obtain ⟨fd_law_take, G_law_take, D_law_take⟩ := ok_law_take (P := P) (w := w) (base := base) T
  have k_law_take := D_law_take.kp
  have b_law_take := bd_law_take D_law_take
  obtain ⟨fd_law_divided, G_law_divided, D_law_divided⟩ := ok_law_divided (P := P) (w := w) (base := base) T
  have k_law_divided := D_law_divided.kp
  have b_law_divided := bd_law_divided D_law_divided
  refine ⟨fd, F.ok sc_law_multiple (fun vs H Q E h => ?_) (fun cdv A outer s H vs Q E hr h => ?_), F⟩
  · rw [F_law_multiple_eq] at h
    exact spD_len (np := 2) (fun _ _ _ h => h.1) vs H Q E h
  · rw [F_law_multiple_eq] at h
    refine ⟨_, PSs.nox (pss_cons (ps_if (pt_cmpR (op_eqU rfl hr.units) (pe_call G_law_take (hr.mono (by decide)) rfl T.g__law_take k_law_take b_law_take .nil pass0 (pa_cons (pv 0) (pa_cons pe_int pa_nil))) pe_int (by first | exact nomark _ | rfl))
    (pss_one (ps_ret (pe_call G_law_take (hr.mono (by decide)) rfl T.g__law_take k_law_take b_law_take .nil pass0 (pa_cons (pv 0) (pa_cons (pe_op (op_addU rfl) (pv 1) pe_int) pa_nil)))))
    pss_nil)
    (pss_cons (ps_set (i := 2) sc_law_multiple.nd rfl (by first | exact Or.inl rfl | exact Or.inr rfl) (pe_call G_law_divided (hr.mono (by decide)) rfl T.g__law_divided k_law_divided b_law_divided .nil pass0 (pa_cons (pe_op (op_addU rfl) (pv 1) pe_int) pa_nil)))
    (pss_cons (ps_set (i := 3) sc_law_multiple.nd rfl (by first | exact Or.inl rfl | exact Or.inr rfl) (pe_ix (ix_U (K := K) rfl) (pv 2) (pe_call G_law_take (hr.mono (by decide)) rfl T.g__law_take k_law_take b_law_take .nil pass0 (pa_cons (pv 0) (pa_cons (pe_callB (call_lenU (K := K) rfl) (by rfl) T.z_len (by decide +kernel) (pa_cons (pv 2) pa_nil)) pa_nil))) (fun _ _ => rfl)))
    (pss_one (ps_ret (pe_op op_mulU (pv 3) (pe_call G_law_take (hr.mono (by decide)) rfl T.g__law_take k_law_take b_law_take .nil pass0 (pa_cons (pv 0) (pa_cons (pe_op op_fdiv (pe_op (op_addU rfl) (pv 1) pe_int) (pv 3)) pa_nil))))))))), ?_⟩
    exact body_of0 rfl h fun X hd => (dst_seq (dst_if (dt_test (dg_op od_eq (DEg.bor (de_call0 dv_nil (ds_hand (i := 0) (ds_cons (de_int 2) ds_nil)))) (DEg.bor (de_int 0))))
    (dst_ret (de_call0 dv_nil (ds_hand (i := 0) (ds_cons (dg_op od_add (db_var 1) (DEg.bor (de_int 1))) ds_nil))))
    dst_next)
    (dst_seq (dst_asg (de_call0 dv_nil (ds_cons (dg_op od_add (db_var 1) (DEg.bor (de_int 1))) ds_nil)) (dg_name 2))
    (dst_seq (dst_asg (dg_op od_ix (db_var 2) (DEg.bor (de_call0 dv_nil (ds_hand (i := 0) (ds_cons (dg_cb cg_len (db_cons (db_var 2) db_nil)) ds_nil))))) (dg_name 3))
    (dst_ret (dg_op od_mul (db_var 3) (DEg.bor (de_call0 dv_nil (ds_hand (i := 0) (ds_cons (dg_op od_fdiv (DEg.bor (dg_op od_add (db_var 1) (DEg.bor (de_int 1)))) (db_var 3)) ds_nil)))))))))
end Mine

namespace Mine
open PySem PySem.Spec PyProof.Rows L2
theorem ok_law_counts {P : Program} {w : World} {K : PySem.W.Frag} {mg : Str → Option Value} {base : Heap} (T : Txt K mg) : ∃ fd, FnOk P w K mg base CX0 1 (He.ga K "_law_counts") fd P_law_counts (spD K F_law_counts) ∧ D_law_counts K (He.ga K "_law_counts") fd := by
  obtain ⟨fd, F⟩ := T.F_law_counts
  refine ⟨fd, F.ok sc_law_counts (fun vs H Q E h => ?_) (fun cdv A outer s H vs Q E hr h => ?_), F⟩
  · rw [F_law_counts_eq] at h
    exact spD_len (np := 2) (fun _ _ _ h => h.1) vs H Q E h
  · rw [F_law_counts_eq] at h
    refine ⟨_, PSs.nox (pss_cons (ps_set (i := 2) sc_law_counts.nd rfl (by first | exact Or.inl rfl | exact Or.inr rfl) (pe_op (op_addU rfl) (pe_lst (pa_cons pe_int pa_nil)) (pe_op op_mulU (pe_lst (pa_cons pe_int pa_nil)) (pe_op op_sub (pv 1) pe_int))))
    (pss_cons (ps_for PassesOwn.never rfl (pi_range2 (by rfl) T.z_range (pa_cons pe_int (pa_cons (pe_op (op_addU rfl) (pv 0) pe_int) pa_nil))) (pg_name (i := 3) sc_law_counts.nd rfl (by first | exact Or.inl rfl | exact Or.inr rfl))
    (pss_one (ps_set (i := 2) sc_law_counts.nd rfl (by first | exact Or.inl rfl | exact Or.inr rfl) (pe_lc (own := [("_law_k", 4)]) rfl sc_law_counts.nd (pi_range1 (by rfl) T.z_range (pa_cons (pv 1) pa_nil)) (blkOk_by (own := [("_law_k", 4)]) (N := N_law_counts) (sc := defScope s_law_counts) (by decide +kernel)) (fun _ _ _ _ _ => (pg_name (i := 4) sc_law_counts.nd rfl (by first | exact Or.inl rfl | exact Or.inr rfl))) (fun _ _ _ _ _ => pts_nil) (fun _ _ _ _ _ => (pe_op (op_addU rfl) (pe_ix (ix_U (K := K) rfl) (pv 2) (pv 4) (fun _ _ => rfl)) (pe_ix (ix_U (K := K) rfl) (pv 2) (pe_op op_mod (pe_callTy call_intU (by rfl) T.z_int (by decide +kernel) (pa_cons (pe_op op_sub (pv 4) (pv 3)) pa_nil)) (pv 1)) (fun _ _ => rfl))))))))
    (pss_one (ps_ret (pv 2))))), ?_⟩
    exact body_of0 rfl h fun X hd => (dst_seq (dst_asg (dg_op od_add (DEg.bor (DEg.cln (df_lst (da_cons (de_int 1) da_nil)))) (DEg.bor (dg_op od_mul (DEg.bor (DEg.cln (df_lst (da_cons (de_int 0) da_nil)))) (DEg.bor (dg_op od_sub (db_var 1) (DEg.bor (de_int 1))))))) (dg_name 2))
    (dst_seq (dst_for (di_rng2 (db_cons (DEg.bor (de_int 1)) (db_cons (DEg.bor (dg_op od_add (db_var 0) (DEg.bor (de_int 1)))) db_nil))) (dg_name 3)
    (dst_asg (DEg.cln (df_lc (di_rng1 (db_cons (db_var 1) db_nil)) (dg_name 4) dt_yes (dg_op od_add (DEg.bor (dg_op od_ix (db_var 2) (db_var 4))) (DEg.bor (dg_op od_ix (db_var 2) (DEg.bor (dg_op od_mod (DEg.bor (dg_cb cg_int (db_cons (DEg.bor (dg_op od_sub (db_var 4) (db_var 3))) db_nil))) (db_var 1)))))))) (dg_name 2)))
    (dst_ret (de_var 2))))
end Mine

namespace Mine
open PySem PySem.Spec PyProof.Rows L2
theorem ok_law_is_number {P : Program} {w : World} {K : PySem.W.Frag} {mg : Str → Option Value} {base : Heap} (T : Txt K mg) : ∃ fd, FnOk P w K mg base CX0 1 (He.ga K "_law_is_number") fd P_law_is_number (spD K F_law_is_number) ∧ D_law_is_number K (He.ga K "_law_is_number") fd := by
  obtain ⟨fd, F⟩ := T.F_law_is_number
  refine ⟨fd, F.ok sc_law_is_number (fun vs H Q E h => ?_) (fun cdv A outer s H vs Q E hr h => ?_), F⟩
  · rw [F_law_is_number_eq] at h
    exact spD_len (np := 2) (fun _ _ _ h => h.1) vs H Q E h
  · rw [F_law_is_number_eq] at h
    refine ⟨_, PSs.nox (pss_one (ps_ret (pe_and (pe_callB (call_isiU (K := K) rfl) (by rfl) T.z_isinstance (by decide +kernel) (pa_cons (pv 0) (pa_cons (pe_bltn (v := .ty "int") (by rfl) T.z_int (by decide +kernel) rfl) pa_nil))) (pe_and (pe_notVT (K := K) rfl (pe_callB (call_isiU (K := K) rfl) (by rfl) T.z_isinstance (by decide +kernel) (pa_cons (pv 0) (pa_cons (pe_bltn (v := .ty "bool") (by rfl) T.z_bool (by decide +kernel) rfl) pa_nil)))) (pe_one (pe_cmpR (op_eqU rfl hr.units) (pv 0) (pv 1) (by first | exact nomark _ | rfl))))))), ?_⟩
    exact body_of0 rfl h fun X hd => (dst_ret (de_andV (dg_cb (cg_isi known_int) (db_cons (db_var 0) (db_cons (DEg.bor (de_raw (.ty "int"))) db_nil))) (de_andV (de_notVT (DEg.bor (dg_cb (cg_isi known_bool) (db_cons (db_var 0) (db_cons (DEg.bor (de_raw (.ty "bool"))) db_nil))))) (dg_op od_eq (db_var 0) (db_var 1)))))
end Mine

namespace Mine
open PySem PySem.Spec PyProof.Rows L2
theorem ok_is_whole {P : Program} {w : World} {K : PySem.W.Frag} {mg : Str → Option Value} {base : Heap} (T : Txt K mg) : ∃ fd, FnOk P w K mg base CX0 1 (He.ga K "is_whole") fd P_is_whole (spD K F_is_whole) ∧ D_is_whole K (He.ga K "is_whole") fd := by
  obtain ⟨fd, F⟩ := T.F_is_whole
  refine ⟨fd, F.ok sc_is_whole (fun vs H Q E h => ?_) (fun cdv A outer s H vs Q E hr h => ?_), F⟩
  · rw [F_is_whole_eq] at h
    exact spD_len (np := 3) (fun _ _ _ h => h.1) vs H Q E h
  · rw [F_is_whole_eq] at h
    refine ⟨_, PSs.nox (pss_cons (ps_if (PW.pt (pw_or (pt_not (pt_tru rfl (pe_callB (call_isiU (K := K) rfl) (by rfl) T.z_isinstance (by decide +kernel) (pa_cons (pv 0) (pa_cons (pe_bltn (v := .ty "int") (by rfl) T.z_int (by decide +kernel) rfl) pa_nil))) (by intro _; rfl))) (pw_or1 (pt_tru rfl (pe_callB (call_isiU (K := K) rfl) (by rfl) T.z_isinstance (by decide +kernel) (pa_cons (pv 0) (pa_cons (pe_bltn (v := .ty "bool") (by rfl) T.z_bool (by decide +kernel) rfl) pa_nil))) (by intro _; rfl)))))
    (pss_one (ps_ret pe_bl))
    pss_nil)
    (pss_one (ps_ret (pe_and (pe_or (pe_cmpR op_isN (pv 1) pe_non (by first | exact nomark _ | rfl)) (pe_one (pe_cmpR op_ge (pv 0) (pv 1) (by first | exact nomark _ | rfl)))) (pe_one (pe_or (pe_cmpR op_isN (pv 2) pe_non (by first | exact nomark _ | rfl)) (pe_one (pe_cmpR op_le (pv 0) (pv 2) (by first | exact nomark _ | rfl))))))))), ?_⟩
    exact body_of0 rfl h fun X hd => (dst_seq (dst_if (dt_or (dt_not (dt_tru (DEg.bor (dg_cb (cg_isi known_int) (db_cons (db_var 0) (db_cons (DEg.bor (de_raw (.ty "int"))) db_nil)))))) (dt_tru (DEg.bor (dg_cb (cg_isi known_bool) (db_cons (db_var 0) (db_cons (DEg.bor (de_raw (.ty "bool"))) db_nil))))))
    (dst_ret (de_bl false))
    dst_next)
    (dst_ret (de_andV (de_orV (dg_op od_isN (db_var 1) (DEg.bor de_non)) (dg_op od_ge (db_var 0) (db_var 1))) (de_orV (dg_op od_isN (db_var 2) (DEg.bor de_non)) (dg_op od_le (db_var 0) (db_var 2))))))
end Mine

namespace Mine
open PySem PySem.Spec PyProof.Rows L2
theorem ok_check_number {P : Program} {w : World} {K : PySem.W.Frag} {mg : Str → Option Value} {base : Heap} (T : Txt K mg) : ∃ fd, FnOk P w K mg base (L2.CX P w) 2 (He.ga K "check_number") fd P_check_number (spD K F_check_number) ∧ D_check_number K (He.ga K "check_number") fd := by
  obtain ⟨fd, F⟩ := T.F_check_number
  obtain ⟨fd_is_whole, G_is_whole, D_is_whole⟩ := ok_is_whole (P := P) (w := w) (base := base) T
  have k_is_whole := D_is_whole.kp
  obtain ⟨ds_is_whole_3, r_is_whole_3, b_is_whole_3⟩ := bd_is_whole_3 D_is_whole
  refine ⟨fd, F.ok sc_check_number (fun vs H Q E h => ?_) (fun cdv A outer s H vs Q E hr h => ?_), F⟩
  · rw [F_check_number_eq] at h
    exact spD_len (np := 3) (fun _ _ _ h => h.1) vs H Q E h
  · rw [F_check_number_eq] at h
    refine ⟨_, (pss_cons (ps_if (pt_not (pt_tru rfl (pe_call G_is_whole (hr.mono (by decide)) rfl T.g_is_whole k_is_whole b_is_whole_3 r_is_whole_3 pass0 (pa_cons (pv 0) (pa_cons (pv 1) (pa_cons (pv 2) pa_nil)))) (by intro _; rfl)))
    (pss_one (ps_raise rfl (takes_of rfl rfl rfl rfl) (mk0 T.e_BadNumber T.g_BadNumber rfl)))
    pss_nil)
    (pss_one (ps_ret (pv 0)))), ?_⟩
    exact body_of rfl h fun X hd => (dst_seq (dst_if (dt_not (dt_tru (DEg.bor (de_call0 dv_nil (ds_cons (de_var 0) (ds_cons (de_var 1) (ds_cons (de_var 2) ds_nil)))))))
    (dst_raise rfl)
    dst_next)
    (dst_ret (de_var 0)))
end Mine

namespace Mine
open PySem PySem.Spec PyProof.Rows L2
theorem ok_check_rest_sizes {P : Program} {w : World} {K : PySem.W.Frag} {mg : Str → Option Value} {base : Heap} (T : Txt K mg) : ∃ fd, FnOk P w K mg base (L2.CX P w) 2 (He.ga K "check_rest_sizes") fd P_check_rest_sizes (spD K F_check_rest_sizes) ∧ D_check_rest_sizes K (He.ga K "check_rest_sizes") fd := by
  obtain ⟨fd, F⟩ := T.F_check_rest_sizes
  obtain ⟨fd_is_whole, G_is_whole, D_is_whole⟩ := ok_is_whole (P := P) (w := w) (base := base) T
  have k_is_whole := D_is_whole.kp
  obtain ⟨ds_is_whole_3, r_is_whole_3, b_is_whole_3⟩ := bd_is_whole_3 D_is_whole
  refine ⟨fd, F.ok sc_check_rest_sizes (fun vs H Q E h => ?_) (fun cdv A outer s H vs Q E hr h => ?_), F⟩
  · rw [F_check_rest_sizes_eq] at h
    exact spD_len (np := 2) (fun _ _ _ h => h.1) vs H Q E h
  · rw [F_check_rest_sizes_eq] at h
    refine ⟨_, (pss_one (ps_if (pt_not (pt_tru rfl (pe_call G_is_whole (hr.mono (by decide)) rfl T.g_is_whole k_is_whole b_is_whole_3 r_is_whole_3 pass0 (pa_cons (pv 0) (pa_cons pe_int (pa_cons (pv 1) pa_nil)))) (by intro _; rfl)))
    (pss_one (ps_raise rfl (takes_of rfl rfl rfl rfl) (mk0 T.e_BadRest T.g_BadRest rfl)))
    pss_nil)), ?_⟩
    exact body_of rfl h fun X hd => (dst_if (dt_not (dt_tru (DEg.bor (de_call0 dv_nil (ds_cons (de_var 0) (ds_cons (de_int 0) (ds_cons (de_var 1) ds_nil)))))))
    (dst_raise rfl)
    dst_next)
end Mine

namespace Mine
open PySem PySem.Spec PyProof.Rows L2
theorem ok_divisors_of {P : Program} {w : World} {K : PySem.W.Frag} {mg : Str → Option Value} {base : Heap} (T : Txt K mg) : ∃ fd, FnOk P w K mg base (L2.CX P w) 3 (He.ga K "divisors_of") fd P_divisors_of (spD K F_divisors_of) ∧ D_divisors_of K (He.ga K "divisors_of") fd := by
  obtain ⟨fd, F⟩ := T.F_divisors_of
  obtain ⟨fd_check_number, G_check_number, D_check_number⟩ := ok_check_number (P := P) (w := w) (base := base) T
  have k_check_number := D_check_number.kp
  have b_check_number := bd_check_number D_check_number
  refine ⟨fd, F.ok sc_divisors_of (fun vs H Q E h => ?_) (fun cdv A outer s H vs Q E hr h => ?_), F⟩
  · rw [F_divisors_of_eq] at h
    exact spD_len (np := 1) (fun _ _ _ h => h.1) vs H Q E h
  · rw [F_divisors_of_eq] at h
    refine ⟨_, (pss_cons (ps_expr (pe_call G_check_number (hr.mono (by decide)) rfl T.g_check_number k_check_number b_check_number .nil (E := E) (passes_call (takes_of rfl rfl rfl rfl) fun _ _ _ _ h => h) (pa_cons (pv 0) (pa_cons pe_int (pa_cons (pe_glob (v := .int (2000)) rfl T.c_MOST_DIVIDED.choose_spec ⟨_, rfl⟩) pa_nil)))))
    (pss_one (ps_ret (pe_callTy (call_tupU (K := K) rfl) (by rfl) T.z_tuple (by decide +kernel) (pa_cons (pe_lc (own := [("part", 1)]) rfl sc_divisors_of.nd (pi_range2 (by rfl) T.z_range (pa_cons pe_int (pa_cons (pe_op (op_addU rfl) (pv 0) pe_int) pa_nil))) (blkOk_by (own := [("part", 1)]) (N := N_divisors_of) (sc := defScope s_divisors_of) (by decide +kernel)) (fun _ _ _ _ _ => (pg_name (i := 1) sc_divisors_of.nd rfl (by first | exact Or.inl rfl | exact Or.inr rfl))) (fun _ _ _ _ _ => (pts_one (pt_cmpR (op_eqU rfl hr.units) (pe_op op_mod (pv 0) (pv 1)) pe_int (by first | exact nomark _ | rfl)))) (fun _ _ _ _ _ => (pv 1))) pa_nil))))), ?_⟩
    exact body_of rfl h fun X hd => (dst_seq (dst_drop (de_call rfl dv_nil (ds_cons (de_var 0) (ds_cons (de_int 1) (ds_cons (de_int (2000)) ds_nil)))))
    (dst_ret (dg_cb cg_tup (db_cons (DEg.bor (DEg.cln (df_lc (di_rng2 (db_cons (DEg.bor (de_int 1)) (db_cons (DEg.bor (dg_op od_add (db_var 0) (DEg.bor (de_int 1)))) db_nil))) (dg_name 1) (dt_test (dg_op od_eq (DEg.bor (dg_op od_mod (db_var 0) (db_var 1))) (DEg.bor (de_int 0)))) (de_var 1)))) db_nil))))
end Mine

namespace Mine
open PySem PySem.Spec PyProof.Rows L2
theorem ok_primes_of {P : Program} {w : World} {K : PySem.W.Frag} {mg : Str → Option Value} {base : Heap} (T : Txt K mg) : ∃ fd, FnOk P w K mg base CX0 1 (He.ga K "_primes_of") fd P_primes_of (spD K F_primes_of) ∧ D_primes_of K (He.ga K "_primes_of") fd := by
  obtain ⟨fd, F⟩ := T.F_primes_of
  refine ⟨fd, F.ok sc_primes_of (fun vs H Q E h => ?_) (fun cdv A outer s H vs Q E hr h => ?_), F⟩
  · rw [F_primes_of_eq] at h
    exact spD_len (np := 1) (fun _ _ _ h => h.1) vs H Q E h
  · rw [F_primes_of_eq] at h
    refine ⟨_, PSs.nox (pss_cons (ps_set (i := 1) sc_primes_of.nd rfl (by first | exact Or.inl rfl | exact Or.inr rfl) (pe_lst pa_nil))
    (pss_cons (ps_set (i := 2) sc_primes_of.nd rfl (by first | exact Or.inl rfl | exact Or.inr rfl) pe_int)
    (pss_cons (ps_while PassesOwn.never (pt_cmpR op_gt (pv 0) pe_int (by first | exact nomark _ | rfl))
    (pss_one (ps_if (pt_cmpR (op_eqU rfl hr.units) (pe_op op_mod (pv 0) (pv 2)) pe_int (by first | exact nomark _ | rfl))
    (pss_cons (ps_expr (pe_bm PySem.F.plainAttrs_list PySem.F.slot_list_append PySem.F.type_list_append mt_append (pv 1) (pa_cons (pv 2) pa_nil)))
    (pss_one (ps_set (i := 0) sc_primes_of.nd rfl (by first | exact Or.inl rfl | exact Or.inr rfl) (pe_op op_fdiv (pv 0) (pv 2)))))
    (pss_one (ps_aug (i := 2) sc_primes_of.nd rfl (by first | exact Or.inl rfl | exact Or.inr rfl) pe_int ip_add)))))
    (pss_one (ps_ret (pv 1)))))), ?_⟩
    exact body_of0 rfl h fun X hd => (dst_seq (dst_own (df_lst da_nil))
    (dst_seq (dst_asg (de_int 2) (dg_name 2))
    (dst_seq (dst_while (dt_test (dg_op od_gt (db_var 0) (DEg.bor (de_int 1))))
    (dst_if (dt_test (dg_op od_eq (DEg.bor (dg_op od_mod (db_var 0) (db_var 2))) (DEg.bor (de_int 0))))
    (dst_seq (dst_app (de_var 2))
    (dst_asg (dg_op od_fdiv (db_var 0) (db_var 2)) (dg_name 0)))
    (dst_aug (de_int 1))))
    (dst_frz 1 (dst_ret (de_var 1))))))
end Mine

namespace Mine
open PySem PySem.Spec PyProof.Rows L2
theorem ok_phi_of {P : Program} {w : World} {K : PySem.W.Frag} {mg : Str → Option Value} {base : Heap} (T : Txt K mg) : ∃ fd, FnOk P w K mg base (L2.CX P w) 3 (He.ga K "phi_of") fd P_phi_of (spD K F_phi_of) ∧ D_phi_of K (He.ga K "phi_of") fd := by
  obtain ⟨fd, F⟩ := T.F_phi_of
  obtain ⟨fd_check_number, G_check_number, D_check_number⟩ := ok_check_number (P := P) (w := w) (base := base) T
  have k_check_number := D_check_number.kp
  have b_check_number := bd_check_number D_check_number
  obtain ⟨fd_primes_of, G_primes_of, D_primes_of⟩ := ok_primes_of (P := P) (w := w) (base := base) T
  have k_primes_of := D_primes_of.kp
  have b_primes_of := bd_primes_of D_primes_of
  refine ⟨fd, F.ok sc_phi_of (fun vs H Q E h => ?_) (fun cdv A outer s H vs Q E hr h => ?_), F⟩
  · rw [F_phi_of_eq] at h
    exact spD_len (np := 1) (fun _ _ _ h => h.1) vs H Q E h
  · rw [F_phi_of_eq] at h
    refine ⟨_, (pss_cons (ps_expr (pe_call G_check_number (hr.mono (by decide)) rfl T.g_check_number k_check_number b_check_number .nil (E := E) (passes_call (takes_of rfl rfl rfl rfl) fun _ _ _ _ h => h) (pa_cons (pv 0) (pa_cons pe_int (pa_cons (pe_glob (v := .int (2000)) rfl T.c_MOST_DIVIDED.choose_spec ⟨_, rfl⟩) pa_nil)))))
    (pss_cons (ps_set (i := 1) sc_phi_of.nd rfl (by first | exact Or.inl rfl | exact Or.inr rfl) pe_int)
    (pss_cons (ps_set (i := 2) sc_phi_of.nd rfl (by first | exact Or.inl rfl | exact Or.inr rfl) pe_int)
    (pss_cons (ps_for (passes_of rfl) rfl (pi_seq (pe_call G_primes_of (hr.mono (by decide)) rfl T.g__primes_of k_primes_of b_primes_of .nil pass0 (pa_cons (pv 0) pa_nil))) (pg_name (i := 3) sc_phi_of.nd rfl (by first | exact Or.inl rfl | exact Or.inr rfl))
    (pss_cons (ps_set (i := 1) sc_phi_of.nd rfl (by first | exact Or.inl rfl | exact Or.inr rfl) (pe_op op_mulU (pv 1) (pe_ifExp (pt_cmpR (op_eqU rfl hr.units) (pv 3) (pv 2) (by first | exact nomark _ | rfl)) (pv 3) (pe_op op_sub (pv 3) pe_int))))
    (pss_one (ps_set (i := 2) sc_phi_of.nd rfl (by first | exact Or.inl rfl | exact Or.inr rfl) (pv 3)))))
    (pss_one (ps_ret (pv 1))))))), ?_⟩
    exact body_of rfl h fun X hd => (dst_seq (dst_drop (de_call rfl dv_nil (ds_cons (de_var 0) (ds_cons (de_int 1) (ds_cons (de_int (2000)) ds_nil)))))
    (dst_seq (dst_asg (de_int 1) (dg_name 1))
    (dst_seq (dst_asg (de_int 1) (dg_name 2))
    (dst_seq (dst_for (di_seq (R := Cln) (de_call0 dv_nil (ds_cons (de_var 0) ds_nil))) (dg_name 3)
    (dst_seq (dst_asg (dg_op od_mul (db_var 1) (DEg.bor (dg_if (dt_test (dg_op od_eq (db_var 3) (db_var 2))) (de_var 3) (dg_op od_sub (db_var 3) (DEg.bor (de_int 1)))))) (dg_name 1))
    (dst_asg (de_var 3) (dg_name 2))))
    (dst_ret (de_var 1))))))
end Mine

namespace Mine
open PySem PySem.Spec PyProof.Rows L2
theorem ok_mu_of {P : Program} {w : World} {K : PySem.W.Frag} {mg : Str → Option Value} {base : Heap} (T : Txt K mg) : ∃ fd, FnOk P w K mg base (L2.CX P w) 3 (He.ga K "mu_of") fd P_mu_of (spD K F_mu_of) ∧ D_mu_of K (He.ga K "mu_of") fd := by
  obtain ⟨fd, F⟩ := T.F_mu_of
  obtain ⟨fd_check_number, G_check_number, D_check_number⟩ := ok_check_number (P := P) (w := w) (base := base) T
  have k_check_number := D_check_number.kp
  have b_check_number := bd_check_number D_check_number
  obtain ⟨fd_primes_of, G_primes_of, D_primes_of⟩ := ok_primes_of (P := P) (w := w) (base := base) T
  have k_primes_of := D_primes_of.kp
  have b_primes_of := bd_primes_of D_primes_of
  refine ⟨fd, F.ok sc_mu_of (fun vs H Q E h => ?_) (fun cdv A outer s H vs Q E hr h => ?_), F⟩
  · rw [F_mu_of_eq] at h
    exact spD_len (np := 1) (fun _ _ _ h => h.1) vs H Q E h
  · rw [F_mu_of_eq] at h
    refine ⟨_, (pss_cons (ps_expr (pe_call G_check_number (hr.mono (by decide)) rfl T.g_check_number k_check_number b_check_number .nil (E := E) (passes_call (takes_of rfl rfl rfl rfl) fun _ _ _ _ h => h) (pa_cons (pv 0) (pa_cons pe_int (pa_cons (pe_glob (v := .int (2000)) rfl T.c_MOST_DIVIDED.choose_spec ⟨_, rfl⟩) pa_nil)))))
    (pss_cons (ps_set (i := 1) sc_mu_of.nd rfl (by first | exact Or.inl rfl | exact Or.inr rfl) (pe_call G_primes_of (hr.mono (by decide)) rfl T.g__primes_of k_primes_of b_primes_of .nil pass0 (pa_cons (pv 0) pa_nil)))
    (pss_cons (ps_if (pt_cmpR (op_ltU rfl hr.units0) (pe_lenSetD rfl rfl T.z_len rfl T.z_set (pv 1)) (pe_callB (call_lenU (K := K) rfl) (by rfl) T.z_len (by decide +kernel) (pa_cons (pv 1) pa_nil)) (by first | exact nomark _ | rfl))
    (pss_one (ps_ret pe_int))
    pss_nil)
    (pss_one (ps_ret (pe_ifExp (pt_cmpR (op_eqU rfl hr.units) (pe_op op_mod (pe_callB (call_lenU (K := K) rfl) (by rfl) T.z_len (by decide +kernel) (pa_cons (pv 1) pa_nil)) pe_int) pe_int (by first | exact nomark _ | rfl)) pe_int (pe_un un_neg pe_int))))))), ?_⟩
    exact body_of rfl h fun X hd => (dst_seq (dst_drop (de_call rfl dv_nil (ds_cons (de_var 0) (ds_cons (de_int 1) (ds_cons (de_int (2000)) ds_nil)))))
    (dst_seq (dst_asg (de_call0 dv_nil (ds_cons (de_var 0) ds_nil)) (dg_name 1))
    (dst_seq (dst_if (dt_test (dg_op od_lt (DEg.bor (de_lenSet (db_var 1))) (DEg.bor (dg_cb cg_len (db_cons (db_var 1) db_nil)))))
    (dst_ret (de_int 0))
    dst_next)
    (dst_ret (dg_if (dt_test (dg_op od_eq (DEg.bor (dg_op od_mod (DEg.bor (dg_cb cg_len (db_cons (db_var 1) db_nil))) (DEg.bor (de_int 2)))) (DEg.bor (de_int 0)))) (de_int 1) (de_un ud_neg (DEg.bor (de_int 1))))))))
end Mine

namespace Mine
open PySem PySem.Spec PyProof.Rows L2
theorem ok_ram_of {P : Program} {w : World} {K : PySem.W.Frag} {mg : Str → Option Value} {base : Heap} (T : Txt K mg) : ∃ fd, FnOk P w K mg base (L2.CX P w) 4 (He.ga K "ram_of") fd P_ram_of (spD K F_ram_of) ∧ D_ram_of K (He.ga K "ram_of") fd := by
  obtain ⟨fd, F⟩ := T.F_ram_of
  obtain ⟨fd_check_number, G_check_number, D_check_number⟩ := ok_check_number (P := P) (w := w) (base := base) T
  have k_check_number := D_check_number.kp
  have b_check_number := bd_check_number D_check_number
  obtain ⟨fd_phi_of, G_phi_of, D_phi_of⟩ := ok_phi_of (P := P) (w := w) (base := base) T
  have k_phi_of := D_phi_of.kp
  have b_phi_of := bd_phi_of D_phi_of
  obtain ⟨fd_mu_of, G_mu_of, D_mu_of⟩ := ok_mu_of (P := P) (w := w) (base := base) T
  have k_mu_of := D_mu_of.kp
  have b_mu_of := bd_mu_of D_mu_of
  refine ⟨fd, F.ok sc_ram_of (fun vs H Q E h => ?_) (fun cdv A outer s H vs Q E hr h => ?_), F⟩
  · rw [F_ram_of_eq] at h
    exact spD_len (np := 2) (fun _ _ _ h => h.1) vs H Q E h
  · rw [F_ram_of_eq] at h
    refine ⟨_, (pss_cons (ps_expr (pe_call G_check_number (hr.mono (by decide)) rfl T.g_check_number k_check_number b_check_number .nil (E := E) (passes_call (takes_of rfl rfl rfl rfl) fun _ _ _ _ h => h) (pa_cons (pv 0) (pa_cons pe_int (pa_cons (pe_glob (v := .int (2000)) rfl T.c_MOST_DIVIDED.choose_spec ⟨_, rfl⟩) pa_nil)))))
    (pss_cons (ps_expr (pe_call G_check_number (hr.mono (by decide)) rfl T.g_check_number k_check_number b_check_number .nil (E := E) (passes_call (takes_of rfl rfl rfl rfl) fun _ _ _ _ h => h) (pa_cons (pv 1) (pa_cons pe_int (pa_cons (pe_glob (v := .int (2000)) rfl T.c_MOST_DIVIDED.choose_spec ⟨_, rfl⟩) pa_nil)))))
    (pss_cons (ps_set (i := 2) sc_ram_of.nd rfl (by first | exact Or.inl rfl | exact Or.inr rfl) (pe_op op_fdiv (pv 0) (pe_callBfun cr_gcd rfl T.i_gcd (pa_cons (pv 0) (pa_cons (pv 1) pa_nil)))))
    (pss_one (ps_ret (pe_op op_fdiv (pe_op op_mulU (pe_call G_phi_of (hr.mono (by decide)) rfl T.g_phi_of k_phi_of b_phi_of .nil (E := E) (passes_call (takes_of rfl rfl rfl rfl) fun _ _ _ _ h => h) (pa_cons (pv 0) pa_nil)) (pe_call G_mu_of (hr.mono (by decide)) rfl T.g_mu_of k_mu_of b_mu_of .nil (E := E) (passes_call (takes_of rfl rfl rfl rfl) fun _ _ _ _ h => h) (pa_cons (pv 2) pa_nil))) (pe_call G_phi_of (hr.mono (by decide)) rfl T.g_phi_of k_phi_of b_phi_of .nil (E := E) (passes_call (takes_of rfl rfl rfl rfl) fun _ _ _ _ h => h) (pa_cons (pv 2) pa_nil)))))))), ?_⟩
    exact body_of rfl h fun X hd => (dst_seq (dst_drop (de_call rfl dv_nil (ds_cons (de_var 0) (ds_cons (de_int 1) (ds_cons (de_int (2000)) ds_nil)))))
    (dst_seq (dst_drop (de_call rfl dv_nil (ds_cons (de_var 1) (ds_cons (de_int 0) (ds_cons (de_int (2000)) ds_nil)))))
    (dst_seq (dst_asg (dg_op od_fdiv (db_var 0) (DEg.bor (dg_cb cg_gcd (db_cons (db_var 0) (db_cons (db_var 1) db_nil))))) (dg_name 2))
    (dst_ret (dg_op od_fdiv (DEg.bor (dg_op od_mul (DEg.bor (de_call rfl dv_nil (ds_cons (de_var 0) ds_nil))) (DEg.bor (de_call rfl dv_nil (ds_cons (de_var 2) ds_nil))))) (DEg.bor (de_call rfl dv_nil (ds_cons (de_var 2) ds_nil))))))))
end Mine

namespace Mine
open PySem PySem.Spec PyProof.Rows L2
theorem ok_size_of {P : Program} {w : World} {K : PySem.W.Frag} {mg : Str → Option Value} {base : Heap} (T : Txt K mg) : ∃ fd, FnOk P w K mg base (L2.CX P w) 5 (He.ga K "size_of") fd P_size_of (spD K F_size_of) ∧ D_size_of K (He.ga K "size_of") fd := by
  obtain ⟨fd, F⟩ := T.F_size_of
  obtain ⟨fd_check_number, G_check_number, D_check_number⟩ := ok_check_number (P := P) (w := w) (base := base) T
  have k_check_number := D_check_number.kp
  have b_check_number := bd_check_number D_check_number
  obtain ⟨fd_check_rest_sizes, G_check_rest_sizes, D_check_rest_sizes⟩ := ok_check_rest_sizes (P := P) (w := w) (base := base) T
  have k_check_rest_sizes := D_check_rest_sizes.kp
  have b_check_rest_sizes := bd_check_rest_sizes D_check_rest_sizes
  obtain ⟨fd_divisors_of, G_divisors_of, D_divisors_of⟩ := ok_divisors_of (P := P) (w := w) (base := base) T
  have k_divisors_of := D_divisors_of.kp
  have b_divisors_of := bd_divisors_of D_divisors_of
  obtain ⟨fd_ram_of, G_ram_of, D_ram_of⟩ := ok_ram_of (P := P) (w := w) (base := base) T
  have k_ram_of := D_ram_of.kp
  have b_ram_of := bd_ram_of D_ram_of
  refine ⟨fd, F.ok sc_size_of (fun vs H Q E h => ?_) (fun cdv A outer s H vs Q E hr h => ?_), F⟩
  · rw [F_size_of_eq] at h
    exact spD_len (np := 2) (fun _ _ _ h => h.1) vs H Q E h
  · rw [F_size_of_eq] at h
    refine ⟨_, (pss_cons (ps_expr (pe_call G_check_number (hr.mono (by decide)) rfl T.g_check_number k_check_number b_check_number .nil (E := E) (passes_call (takes_of rfl rfl rfl rfl) fun _ _ _ _ h => h) (pa_cons (pv 0) (pa_cons pe_int (pa_cons (pe_glob (v := .int (200)) rfl T.c_MOST_LENGTH.choose_spec ⟨_, rfl⟩) pa_nil)))))
    (pss_cons (ps_expr (pe_call G_check_rest_sizes (hr.mono (by decide)) rfl T.g_check_rest_sizes k_check_rest_sizes b_check_rest_sizes .nil (E := E) (passes_call (takes_of rfl rfl rfl rfl) fun _ _ _ _ h => h) (pa_cons (pv 1) (pa_cons (pv 0) pa_nil))))
    (pss_cons (ps_set (i := 2) sc_size_of.nd rfl (by first | exact Or.inl rfl | exact Or.inr rfl) (pe_op (op_addU rfl) (pv 0) pe_int))
    (pss_cons (ps_set (i := 3) sc_size_of.nd rfl (by first | exact Or.inl rfl | exact Or.inr rfl) (pe_callB (CallR.k (r := rSumA) (K := K) (cr_sumA rfl) rfl) (by rfl) T.z_sum (by decide +kernel) (pa_cons (pe_lc (own := [("part", 4)]) rfl sc_size_of.nd (pi_seq (pe_call G_divisors_of (hr.mono (by decide)) rfl T.g_divisors_of k_divisors_of b_divisors_of .nil (E := E) (passes_call (takes_of rfl rfl rfl rfl) fun _ _ _ _ h => h) (pa_cons (pv 2) pa_nil))) (blkOk_by (own := [("part", 4)]) (N := N_size_of) (sc := defScope s_size_of) (by decide +kernel)) (fun _ _ _ _ _ => (pg_name (i := 4) sc_size_of.nd rfl (by first | exact Or.inl rfl | exact Or.inr rfl))) (fun _ _ _ _ _ => (pts_one (pt_cmpR (op_eqU rfl hr.units) (pe_op op_mod (pv 4) pe_int) pe_int (by first | exact nomark _ | rfl)))) (fun _ _ _ _ _ => (pe_op op_mulU (pe_call G_ram_of (hr.mono (by decide)) rfl T.g_ram_of k_ram_of b_ram_of .nil passL (pa_cons (pv 4) (pa_cons (pv 1) pa_nil))) (pe_op op_shl pe_int (pe_op op_fdiv (pv 2) (pv 4)))))) pa_nil)))
    (pss_one (ps_ret (pe_op op_fdiv (pv 3) (pe_op op_mulU pe_int (pv 2))))))))), ?_⟩
    exact body_of rfl h fun X hd => (dst_seq (dst_drop (de_call rfl dv_nil (ds_cons (de_var 0) (ds_cons (de_int 0) (ds_cons (de_int (200)) ds_nil)))))
    (dst_seq (dst_drop (de_call rfl dv_nil (ds_cons (de_var 1) (ds_cons (de_var 0) ds_nil))))
    (dst_seq (dst_asg (dg_op od_add (db_var 0) (DEg.bor (de_int 1))) (dg_name 2))
    (dst_seq (dst_asg (dg_cb cg_sum (db_cons (DEg.bor (DEg.cln (df_lc (di_seq (R := Bor) (DEg.bor (de_call rfl dv_nil (ds_cons (de_var 2) ds_nil)))) (dg_name 4) (dt_test (dg_op od_eq (DEg.bor (dg_op od_mod (db_var 4) (DEg.bor (de_int 2)))) (DEg.bor (de_int 1)))) (dg_op od_mul (DEg.bor (de_call0 dv_nil (ds_cons (de_var 4) (ds_cons (de_var 1) ds_nil)))) (DEg.bor (dg_op od_shl (DEg.bor (de_int 1)) (DEg.bor (dg_op od_fdiv (db_var 2) (db_var 4))))))))) db_nil)) (dg_name 3))
    (dst_ret (dg_op od_fdiv (db_var 3) (DEg.bor (dg_op od_mul (DEg.bor (de_int 2)) (db_var 2)))))))))
end Mine

namespace Mine
open PySem PySem.Spec PyProof.Rows L2
theorem ok_extremes_of {P : Program} {w : World} {K : PySem.W.Frag} {mg : Str → Option Value} {base : Heap} (T : Txt K mg) : ∃ fd, FnOk P w K mg base (L2.CX P w) 6 (He.ga K "extremes_of") fd P_extremes_of (spD K F_extremes_of) ∧ D_extremes_of K (He.ga K "extremes_of") fd := by
  obtain ⟨fd, F⟩ := T.F_extremes_of
  obtain ⟨fd_check_number, G_check_number, D_check_number⟩ := ok_check_number (P := P) (w := w) (base := base) T
  have k_check_number := D_check_number.kp
  have b_check_number := bd_check_number D_check_number
  obtain ⟨fd_size_of, G_size_of, D_size_of⟩ := ok_size_of (P := P) (w := w) (base := base) T
  have k_size_of := D_size_of.kp
  have b_size_of := bd_size_of D_size_of
  refine ⟨fd, F.ok sc_extremes_of (fun vs H Q E h => ?_) (fun cdv A outer s H vs Q E hr h => ?_), F⟩
  · rw [F_extremes_of_eq] at h
    exact spD_len (np := 1) (fun _ _ _ h => h.1) vs H Q E h
  · rw [F_extremes_of_eq] at h
    refine ⟨_, (pss_cons (ps_expr (pe_call G_check_number (hr.mono (by decide)) rfl T.g_check_number k_check_number b_check_number .nil (E := E) (passes_call (takes_of rfl rfl rfl rfl) fun _ _ _ _ h => h) (pa_cons (pv 0) (pa_cons pe_int (pa_cons (pe_glob (v := .int (200)) rfl T.c_MOST_LENGTH.choose_spec ⟨_, rfl⟩) pa_nil)))))
    (pss_one (ps_ret (pe_tup (pa_cons (pe_call G_size_of (hr.mono (by decide)) rfl T.g_size_of k_size_of b_size_of .nil (E := E) (passes_call (takes_of rfl rfl rfl rfl) fun _ _ _ _ h => h) (pa_cons (pv 0) (pa_cons pe_int pa_nil))) (pa_cons (pe_call G_size_of (hr.mono (by decide)) rfl T.g_size_of k_size_of b_size_of .nil (E := E) (passes_call (takes_of rfl rfl rfl rfl) fun _ _ _ _ h => h) (pa_cons (pv 0) (pa_cons (pe_callB (call_min2U rfl) (by rfl) T.z_min (by decide +kernel) (pa_cons (pv 0) (pa_cons pe_int pa_nil))) pa_nil))) pa_nil)))))), ?_⟩
    exact body_of rfl h fun X hd => (dst_seq (dst_drop (de_call rfl dv_nil (ds_cons (de_var 0) (ds_cons (de_int 0) (ds_cons (de_int (200)) ds_nil)))))
    (dst_ret (de_tup (da_cons (de_call rfl dv_nil (ds_cons (de_var 0) (ds_cons (de_int 0) ds_nil))) (da_cons (de_call rfl dv_nil (ds_cons (de_var 0) (ds_cons (dg_cb cg_min2 (db_cons (db_var 0) (db_cons (DEg.bor (de_int 1)) db_nil))) ds_nil))) da_nil)))))
end Mine

namespace Mine
open PySem PySem.Spec PyProof.Rows L2
theorem ok_odd_part {P : Program} {w : World} {K : PySem.W.Frag} {mg : Str → Option Value} {base : Heap} (T : Txt K mg) : ∃ fd, FnOk P w K mg base (L2.CX P w) 3 (He.ga K "odd_part") fd P_odd_part (spD K F_odd_part) ∧ D_odd_part K (He.ga K "odd_part") fd := by
  obtain ⟨fd, F⟩ := T.F_odd_part
  obtain ⟨fd_check_number, G_check_number, D_check_number⟩ := ok_check_number (P := P) (w := w) (base := base) T
  have k_check_number := D_check_number.kp
  have b_check_number := bd_check_number D_check_number
  refine ⟨fd, F.ok sc_odd_part (fun vs H Q E h => ?_) (fun cdv A outer s H vs Q E hr h => ?_), F⟩
  · rw [F_odd_part_eq] at h
    exact spD_len (np := 1) (fun _ _ _ h => h.1) vs H Q E h
  · rw [F_odd_part_eq] at h
    refine ⟨_, (pss_cons (ps_expr (pe_call G_check_number (hr.mono (by decide)) rfl T.g_check_number k_check_number b_check_number .nil (E := E) (passes_call (takes_of rfl rfl rfl rfl) fun _ _ _ _ h => h) (pa_cons (pv 0) (pa_cons pe_int (pa_cons (pe_glob (v := .int (2000)) rfl T.c_MOST_DIVIDED.choose_spec ⟨_, rfl⟩) pa_nil)))))
    (pss_cons (ps_while (passes_of rfl) (pt_cmpR (op_eqU rfl hr.units) (pe_op op_mod (pv 0) pe_int) pe_int (by first | exact nomark _ | rfl))
    (pss_one (ps_set (i := 0) sc_odd_part.nd rfl (by first | exact Or.inl rfl | exact Or.inr rfl) (pe_op op_fdiv (pv 0) pe_int))))
    (pss_one (ps_ret (pv 0))))), ?_⟩
    exact body_of rfl h fun X hd => (dst_seq (dst_drop (de_call rfl dv_nil (ds_cons (de_var 0) (ds_cons (de_int 1) (ds_cons (de_int (2000)) ds_nil)))))
    (dst_seq (dst_while (dt_test (dg_op od_eq (DEg.bor (dg_op od_mod (db_var 0) (DEg.bor (de_int 2)))) (DEg.bor (de_int 0))))
    (dst_asg (dg_op od_fdiv (db_var 0) (DEg.bor (de_int 2))) (dg_name 0)))
    (dst_ret (de_var 0))))
end Mine

namespace Mine
open PySem PySem.Spec PyProof.Rows L2
theorem ok_common_divisor {P : Program} {w : World} {K : PySem.W.Frag} {mg : Str → Option Value} {base : Heap} (T : Txt K mg) : ∃ fd, FnOk P w K mg base (L2.CX P w) 3 (He.ga K "common_divisor") fd P_common_divisor (spD K F_common_divisor) ∧ D_common_divisor K (He.ga K "common_divisor") fd := by
  obtain ⟨fd, F⟩ := T.F_common_divisor
  obtain ⟨fd_check_number, G_check_number, D_check_number⟩ := ok_check_number (P := P) (w := w) (base := base) T
  have k_check_number := D_check_number.kp
  have b_check_number := bd_check_number D_check_number
  refine ⟨fd, F.ok sc_common_divisor (fun vs H Q E h => ?_) (fun cdv A outer s H vs Q E hr h => ?_), F⟩
  · rw [F_common_divisor_eq] at h
    exact spD_len (np := 2) (fun _ _ _ h => h.1) vs H Q E h
  · rw [F_common_divisor_eq] at h
    refine ⟨_, (pss_cons (ps_expr (pe_call G_check_number (hr.mono (by decide)) rfl T.g_check_number k_check_number b_check_number .nil (E := E) (passes_call (takes_of rfl rfl rfl rfl) fun _ _ _ _ h => h) (pa_cons (pv 0) (pa_cons pe_int (pa_cons (pe_glob (v := .int (2000)) rfl T.c_MOST_DIVIDED.choose_spec ⟨_, rfl⟩) pa_nil)))))
    (pss_cons (ps_expr (pe_call G_check_number (hr.mono (by decide)) rfl T.g_check_number k_check_number b_check_number .nil (E := E) (passes_call (takes_of rfl rfl rfl rfl) fun _ _ _ _ h => h) (pa_cons (pv 1) (pa_cons pe_int (pa_cons (pe_glob (v := .int (2000)) rfl T.c_MOST_DIVIDED.choose_spec ⟨_, rfl⟩) pa_nil)))))
    (pss_one (ps_ret (pe_callBfun cr_gcd rfl T.i_gcd (pa_cons (pv 0) (pa_cons (pv 1) pa_nil))))))), ?_⟩
    exact body_of rfl h fun X hd => (dst_seq (dst_drop (de_call rfl dv_nil (ds_cons (de_var 0) (ds_cons (de_int 0) (ds_cons (de_int (2000)) ds_nil)))))
    (dst_seq (dst_drop (de_call rfl dv_nil (ds_cons (de_var 1) (ds_cons (de_int 0) (ds_cons (de_int (2000)) ds_nil)))))
    (dst_ret (dg_cb cg_gcd (db_cons (db_var 0) (db_cons (db_var 1) db_nil))))))
end Mine

namespace Mine
open PySem PySem.Spec PyProof.Rows L2
theorem ok_law_odd {P : Program} {w : World} {K : PySem.W.Frag} {mg : Str → Option Value} {base : Heap} (T : Txt K mg) : ∃ fd, FnOk P w K mg base CX0 1 (He.ga K "_law_odd") fd P_law_odd (spD K F_law_odd) ∧ D_law_odd K (He.ga K "_law_odd") fd := by
  obtain ⟨fd, F⟩ := T.F_law_odd
  refine ⟨fd, F.ok sc_law_odd (fun vs H Q E h => ?_) (fun cdv A outer s H vs Q E hr h => ?_), F⟩
  · rw [F_law_odd_eq] at h
    exact spD_len (np := 1) (fun _ _ _ h => h.1) vs H Q E h
  · rw [F_law_odd_eq] at h
    refine ⟨_, PSs.nox (pss_cons (ps_set (i := 1) sc_law_odd.nd rfl (by first | exact Or.inl rfl | exact Or.inr rfl) (pv 0))
    (pss_cons (ps_for PassesOwn.never rfl (pi_range1 (by rfl) T.z_range (pa_cons pe_int pa_nil)) (pg_name (i := 2) sc_law_odd.nd rfl (by first | exact Or.inl rfl | exact Or.inr rfl))
    (pss_cons (ps_if (pt_cmpR (op_eqU rfl hr.units) (pe_op op_mod (pe_callTy call_intU (by rfl) T.z_int (by decide +kernel) (pa_cons (pv 1) pa_nil)) pe_int) pe_int (by first | exact nomark _ | rfl))
    (pss_one ps_break)
    pss_nil)
    (pss_one (ps_set (i := 1) sc_law_odd.nd rfl (by first | exact Or.inl rfl | exact Or.inr rfl) (pe_op op_fdiv (pv 1) pe_int)))))
    (pss_one (ps_ret (pv 1))))), ?_⟩
    exact body_of0 rfl h fun X hd => (dst_seq (dst_asg (de_var 0) (dg_name 1))
    (dst_seq (dst_for (di_rng1 (db_cons (DEg.bor (de_int 20)) db_nil)) (dg_name 2)
    (dst_seq (dst_if (dt_test (dg_op od_eq (DEg.bor (dg_op od_mod (DEg.bor (dg_cb cg_int (db_cons (db_var 1) db_nil))) (DEg.bor (de_int 2)))) (DEg.bor (de_int 1))))
    dst_break
    dst_next)
    (dst_asg (dg_op od_fdiv (db_var 1) (DEg.bor (de_int 2))) (dg_name 1))))
    (dst_ret (de_var 1))))
end Mine

namespace Mine
open PySem PySem.Spec PyProof.Rows L2
theorem ok_law_gcd {P : Program} {w : World} {K : PySem.W.Frag} {mg : Str → Option Value} {base : Heap} (T : Txt K mg) : ∃ fd, FnOk P w K mg base CX0 1 (He.ga K "_law_gcd") fd P_law_gcd (spD K F_law_gcd) ∧ D_law_gcd K (He.ga K "_law_gcd") fd := by
  obtain ⟨fd, F⟩ := T.F_law_gcd
  refine ⟨fd, F.ok sc_law_gcd (fun vs H Q E h => ?_) (fun cdv A outer s H vs Q E hr h => ?_), F⟩
  · rw [F_law_gcd_eq] at h
    exact spD_len (np := 2) (fun _ _ _ h => h.1) vs H Q E h
  · rw [F_law_gcd_eq] at h
    refine ⟨_, PSs.nox (pss_cons (ps_par (i := 2) (j := 3) (by rfl) sc_law_gcd.nd rfl rfl (by decide) rfl rfl (pa_cons (pv 0) (pa_cons (pv 1) pa_nil)) (by rfl))
    (pss_cons (ps_for PassesOwn.never rfl (pi_range1 (by rfl) T.z_range (pa_cons pe_int pa_nil)) (pg_name (i := 4) sc_law_gcd.nd rfl (by first | exact Or.inl rfl | exact Or.inr rfl))
    (pss_cons (ps_if (pt_cmpR (op_eqU rfl hr.units) (pv 2) pe_int (by first | exact nomark _ | rfl))
    (pss_one ps_break)
    pss_nil)
    (pss_one (ps_par (i := 2) (j := 3) (by rfl) sc_law_gcd.nd rfl rfl (by decide) rfl rfl (pa_cons (pe_op op_mod (pe_callTy call_intU (by rfl) T.z_int (by decide +kernel) (pa_cons (pv 3) pa_nil)) (pv 2)) (pa_cons (pv 2) pa_nil)) (by rfl)))))
    (pss_one (ps_ret (pv 3))))), ?_⟩
    exact body_of0 rfl h fun X hd => (dst_seq (dst_par (da_cons (de_var 0) (da_cons (de_var 1) da_nil)))
    (dst_seq (dst_for (di_rng1 (db_cons (DEg.bor (de_int 60)) db_nil)) (dg_name 4)
    (dst_seq (dst_if (dt_test (dg_op od_eq (db_var 2) (DEg.bor (de_int 0))))
    dst_break
    dst_next)
    (dst_par (da_cons (dg_op od_mod (DEg.bor (dg_cb cg_int (db_cons (db_var 3) db_nil))) (db_var 2)) (da_cons (de_var 2) da_nil)))))
    (dst_ret (de_var 3))))
end Mine

namespace Mine
open PySem PySem.Spec PyProof.Rows L2
theorem ok_law_compared {P : Program} {w : World} {K : PySem.W.Frag} {mg : Str → Option Value} {base : Heap} (T : Txt K mg) : ∃ fd, FnOk P w K mg base CX0 4 (He.ga K "_law_compared") fd P_law_compared (spD K F_law_compared) ∧ D_law_compared K (He.ga K "_law_compared") fd := by
  obtain ⟨fd, F⟩ := T.F_law_compared
  obtain ⟨fd_odd_part, G_odd_part, D_odd_part⟩ := ok_odd_part (P := P) (w := w) (base := base) T
  have k_odd_part := D_odd_part.kp
  have b_odd_part := bd_odd_part D_odd_part
  obtain ⟨fd_common_divisor, G_common_divisor, D_common_divisor⟩ := ok_common_divisor (P := P) (w := w) (base := base) T
  have k_common_divisor := D_common_divisor.kp
  have b_common_divisor := bd_common_divisor D_common_divisor
  obtain ⟨fd_law_odd, G_law_odd, D_law_odd⟩ := ok_law_odd (P := P) (w := w) (base := base) T
  have k_law_odd := D_law_odd.kp
  have b_law_odd := bd_law_odd D_law_odd
  obtain ⟨fd_law_gcd, G_law_gcd, D_law_gcd⟩ := ok_law_gcd (P := P) (w := w) (base := base) T
  have k_law_gcd := D_law_gcd.kp
  have b_law_gcd := bd_law_gcd D_law_gcd
  refine ⟨fd, F.ok sc_law_compared (fun vs H Q E h => ?_) (fun cdv A outer s H vs Q E hr h => ?_), F⟩
  · rw [F_law_compared_eq] at h
    exact spD_len (np := 5) (fun _ _ _ h => h.1) vs H Q E h
  · rw [F_law_compared_eq] at h
    refine ⟨_, PSs.nox (pss_cons (ps_par (i := 5) (j := 6) (by rfl) sc_law_compared.nd rfl rfl (by decide) rfl rfl (pa_cons (pe_call G_odd_part (hr.mono (by decide)) rfl T.g_odd_part k_odd_part b_odd_part .nil passL (pa_cons (pe_call G_common_divisor (hr.mono (by decide)) rfl T.g_common_divisor k_common_divisor b_common_divisor .nil passL (pa_cons (pe_op (op_addU rfl) (pv 0) pe_int) (pa_cons (pv 1) pa_nil))) pa_nil)) (pa_cons (pe_call G_odd_part (hr.mono (by decide)) rfl T.g_odd_part k_odd_part b_odd_part .nil passL (pa_cons (pe_call G_common_divisor (hr.mono (by decide)) rfl T.g_common_divisor k_common_divisor b_common_divisor .nil passL (pa_cons (pe_op (op_addU rfl) (pv 0) pe_int) (pa_cons (pv 2) pa_nil))) pa_nil)) pa_nil)) (by rfl))
    (pss_cons (ps_if (PW.pt (pw_or (pt_cmpR (op_neU rfl hr.units) (pv 5) (pe_call G_law_odd (hr.mono (by decide)) rfl T.g__law_odd k_law_odd b_law_odd .nil pass0 (pa_cons (pe_call G_law_gcd (hr.mono (by decide)) rfl T.g__law_gcd k_law_gcd b_law_gcd .nil pass0 (pa_cons (pe_op (op_addU rfl) (pv 0) pe_int) (pa_cons (pv 1) pa_nil))) pa_nil)) (by first | exact nomark _ | rfl)) (pw_or1 (pt_cmpR (op_neU rfl hr.units) (pv 6) (pe_call G_law_odd (hr.mono (by decide)) rfl T.g__law_odd k_law_odd b_law_odd .nil pass0 (pa_cons (pe_call G_law_gcd (hr.mono (by decide)) rfl T.g__law_gcd k_law_gcd b_law_gcd .nil pass0 (pa_cons (pe_op (op_addU rfl) (pv 0) pe_int) (pa_cons (pv 2) pa_nil))) pa_nil)) (by first | exact nomark _ | rfl)))))
    (pss_one (ps_ret pe_bl))
    pss_nil)
    (pss_cons (ps_if (pt_cmpR (op_eqU rfl hr.units) (pv 5) (pv 6) (by first | exact nomark _ | rfl))
    (pss_one (ps_ret (pe_cmpR (op_eqU rfl hr.units) (pv 3) (pv 4) (by first | exact nomark _ | rfl))))
    pss_nil)
    (pss_cons (ps_if (pt_cmpR (op_eqU rfl hr.units) (pe_op op_mod (pe_callTy call_intU (by rfl) T.z_int (by decide +kernel) (pa_cons (pv 6) pa_nil)) (pv 5)) pe_int (by first | exact nomark _ | rfl))
    (pss_one (ps_ret (pe_cmpR (op_ltU rfl hr.units0) (pv 3) (pv 4) (by first | exact nomark _ | rfl))))
    pss_nil)
    (pss_one (ps_ret (pe_or (pe_cmpR (op_neU rfl hr.units) (pe_op op_mod (pe_callTy call_intU (by rfl) T.z_int (by decide +kernel) (pa_cons (pv 5) pa_nil)) (pv 6)) pe_int (by first | exact nomark _ | rfl)) (pe_one (pe_cmpR (op_ltU rfl hr.units0) (pv 4) (pv 3) (by first | exact nomark _ | rfl)))))))))), ?_⟩
    exact body_of0 rfl h fun X hd => (dst_seq (dst_par (da_cons (de_call0 dv_nil (ds_cons (de_call0 dv_nil (ds_cons (dg_op od_add (db_var 0) (DEg.bor (de_int 1))) (ds_cons (de_var 1) ds_nil))) ds_nil)) (da_cons (de_call0 dv_nil (ds_cons (de_call0 dv_nil (ds_cons (dg_op od_add (db_var 0) (DEg.bor (de_int 1))) (ds_cons (de_var 2) ds_nil))) ds_nil)) da_nil)))
    (dst_seq (dst_if (dt_or (dt_test (dg_op od_ne (db_var 5) (DEg.bor (de_call0 dv_nil (ds_cons (de_call0 dv_nil (ds_cons (dg_op od_add (db_var 0) (DEg.bor (de_int 1))) (ds_cons (de_var 1) ds_nil))) ds_nil))))) (dt_test (dg_op od_ne (db_var 6) (DEg.bor (de_call0 dv_nil (ds_cons (de_call0 dv_nil (ds_cons (dg_op od_add (db_var 0) (DEg.bor (de_int 1))) (ds_cons (de_var 2) ds_nil))) ds_nil))))))
    (dst_ret (de_bl false))
    dst_next)
    (dst_seq (dst_if (dt_test (dg_op od_eq (db_var 5) (db_var 6)))
    (dst_ret (dg_op od_eq (db_var 3) (db_var 4)))
    dst_next)
    (dst_seq (dst_if (dt_test (dg_op od_eq (DEg.bor (dg_op od_mod (DEg.bor (dg_cb cg_int (db_cons (db_var 6) db_nil))) (db_var 5))) (DEg.bor (de_int 0))))
    (dst_ret (dg_op od_lt (db_var 3) (db_var 4)))
    dst_next)
    (dst_ret (de_orV (dg_op od_ne (DEg.bor (dg_op od_mod (DEg.bor (dg_cb cg_int (db_cons (db_var 5) db_nil))) (db_var 6))) (DEg.bor (de_int 0))) (dg_op od_lt (db_var 4) (db_var 3))))))))
end Mine

namespace Mine
open PySem PySem.Spec PyProof.Rows L2
theorem ok_law_long {P : Program} {w : World} {K : PySem.W.Frag} {mg : Str → Option Value} {base : Heap} (T : Txt K mg) : ∃ fd, FnOk P w K mg base CX0 7 (He.ga K "_law_long") fd P_law_long (spD K F_law_long) ∧ D_law_long K (He.ga K "_law_long") fd := by
  obtain ⟨fd, F⟩ := T.F_law_long
  obtain ⟨fd_law_take, G_law_take, D_law_take⟩ := ok_law_take (P := P) (w := w) (base := base) T
  have k_law_take := D_law_take.kp
  have b_law_take := bd_law_take D_law_take
  obtain ⟨fd_law_multiple, G_law_multiple, D_law_multiple⟩ := ok_law_multiple (P := P) (w := w) (base := base) T
  have k_law_multiple := D_law_multiple.kp
  have b_law_multiple := bd_law_multiple D_law_multiple
  obtain ⟨fd_law_counts, G_law_counts, D_law_counts⟩ := ok_law_counts (P := P) (w := w) (base := base) T
  have k_law_counts := D_law_counts.kp
  have b_law_counts := bd_law_counts D_law_counts
  obtain ⟨fd_law_is_number, G_law_is_number, D_law_is_number⟩ := ok_law_is_number (P := P) (w := w) (base := base) T
  have k_law_is_number := D_law_is_number.kp
  have b_law_is_number := bd_law_is_number D_law_is_number
  obtain ⟨fd_size_of, G_size_of, D_size_of⟩ := ok_size_of (P := P) (w := w) (base := base) T
  have k_size_of := D_size_of.kp
  have b_size_of := bd_size_of D_size_of
  obtain ⟨fd_extremes_of, G_extremes_of, D_extremes_of⟩ := ok_extremes_of (P := P) (w := w) (base := base) T
  have k_extremes_of := D_extremes_of.kp
  have b_extremes_of := bd_extremes_of D_extremes_of
  obtain ⟨fd_law_compared, G_law_compared, D_law_compared⟩ := ok_law_compared (P := P) (w := w) (base := base) T
  have k_law_compared := D_law_compared.kp
  have b_law_compared := bd_law_compared D_law_compared
  refine ⟨fd, F.ok sc_law_long (fun vs H Q E h => ?_) (fun cdv A outer s H vs Q E hr h => ?_), F⟩
  · rw [F_law_long_eq] at h
    exact spD_len (np := 1) (fun _ _ _ h => h.1) vs H Q E h
  · rw [F_law_long_eq] at h
    refine ⟨_, PSs.nox (pss_cons (ps_set (i := 1) sc_law_long.nd rfl (by first | exact Or.inl rfl | exact Or.inr rfl) (pe_call G_law_take (hr.mono (by decide)) rfl T.g__law_take k_law_take b_law_take .nil pass0 (pa_cons (pv 0) (pa_cons pe_int pa_nil))))
    (pss_cons (ps_if (pt_cmpR (op_eqU rfl hr.units) (pe_call G_law_take (hr.mono (by decide)) rfl T.g__law_take k_law_take b_law_take .nil pass0 (pa_cons (pv 0) (pa_cons pe_int pa_nil))) pe_int (by first | exact nomark _ | rfl))
    (pss_one (ps_set (i := 1) sc_law_long.nd rfl (by first | exact Or.inl rfl | exact Or.inr rfl) (pe_ix (ix_U (K := K) rfl) (pe_lst (pa_cons pe_int (pa_cons pe_int (pa_cons pe_int (pa_cons pe_int (pa_cons pe_int (pa_cons pe_int (pa_cons pe_int (pa_cons pe_int (pa_cons pe_int (pa_cons pe_int (pa_cons pe_int (pa_cons pe_int (pa_cons pe_int (pa_cons pe_int (pa_cons pe_int (pa_cons pe_int pa_nil))))))))))))))))) (pe_call G_law_take (hr.mono (by decide)) rfl T.g__law_take k_law_take b_law_take .nil pass0 (pa_cons (pv 0) (pa_cons pe_int pa_nil))) (fun _ _ => rfl))))
    pss_nil)
    (pss_cons (ps_set (i := 2) sc_law_long.nd rfl (by first | exact Or.inl rfl | exact Or.inr rfl) (pe_call G_law_multiple (hr.mono (by decide)) rfl T.g__law_multiple k_law_multiple b_law_multiple .nil pass0 (pa_cons (pv 0) (pa_cons (pv 1) pa_nil))))
    (pss_cons (ps_set (i := 3) sc_law_long.nd rfl (by first | exact Or.inl rfl | exact Or.inr rfl) (pe_call G_law_multiple (hr.mono (by decide)) rfl T.g__law_multiple k_law_multiple b_law_multiple .nil pass0 (pa_cons (pv 0) (pa_cons (pv 1) pa_nil))))
    (pss_cons (ps_set (i := 4) sc_law_long.nd rfl (by first | exact Or.inl rfl | exact Or.inr rfl) (pe_call G_law_counts (hr.mono (by decide)) rfl T.g__law_counts k_law_counts b_law_counts .nil pass0 (pa_cons (pv 1) (pa_cons (pe_op (op_addU rfl) (pv 1) pe_int) pa_nil))))
    (pss_cons (ps_par (i := 5) (j := 6) (by rfl) sc_law_long.nd rfl rfl (by decide) rfl rfl (pa_cons (pe_ix (ix_U (K := K) rfl) (pv 4) (pv 2) (fun _ _ => rfl)) (pa_cons (pe_ix (ix_U (K := K) rfl) (pv 4) (pv 3) (fun _ _ => rfl)) pa_nil)) (by rfl))
    (pss_cons (ps_if (PW.pt (pw_or (pt_not (pt_tru rfl (pe_call G_law_is_number (hr.mono (by decide)) rfl T.g__law_is_number k_law_is_number b_law_is_number .nil pass0 (pa_cons (pe_call G_size_of (hr.mono (by decide)) rfl T.g_size_of k_size_of b_size_of .nil passL (pa_cons (pv 1) (pa_cons (pv 2) pa_nil))) (pa_cons (pv 5) pa_nil))) (by intro _; rfl))) (pw_or1 (pt_not (pt_tru rfl (pe_call G_law_is_number (hr.mono (by decide)) rfl T.g__law_is_number k_law_is_number b_law_is_number .nil pass0 (pa_cons (pe_call G_size_of (hr.mono (by decide)) rfl T.g_size_of k_size_of b_size_of .nil passL (pa_cons (pv 1) (pa_cons (pv 3) pa_nil))) (pa_cons (pv 6) pa_nil))) (by intro _; rfl))))))
    (pss_one (ps_ret pe_bl))
    pss_nil)
    (pss_cons (ps_asg (pe_call G_extremes_of (hr.mono (by decide)) rfl T.g_extremes_of k_extremes_of b_extremes_of .nil passL (pa_cons (pv 1) pa_nil)) (pg_tupK (K := K) (n := 2) rfl (by rfl) (pgs_cons (pg_name (i := 7) sc_law_long.nd rfl (by first | exact Or.inl rfl | exact Or.inr rfl)) (pgs_cons (pg_name (i := 8) sc_law_long.nd rfl (by first | exact Or.inl rfl | exact Or.inr rfl)) pgs_nil))))
    (pss_cons (ps_if (PW.pt (pw_or (pt_not (pt_tru rfl (pe_call G_law_is_number (hr.mono (by decide)) rfl T.g__law_is_number k_law_is_number b_law_is_number .nil pass0 (pa_cons (pv 7) (pa_cons (pe_callB (CallR.k (r := rMax) (K := K) (cr_max rfl) rfl) (by rfl) T.z_max (by decide +kernel) (pa_cons (pv 4) pa_nil)) pa_nil))) (by intro _; rfl))) (pw_or1 (pt_not (pt_tru rfl (pe_call G_law_is_number (hr.mono (by decide)) rfl T.g__law_is_number k_law_is_number b_law_is_number .nil pass0 (pa_cons (pv 8) (pa_cons (pe_callB (CallR.k (r := rMin) (K := K) (cr_min rfl) rfl) (by rfl) T.z_min (by decide +kernel) (pa_cons (pv 4) pa_nil)) pa_nil))) (by intro _; rfl))))))
    (pss_one (ps_ret pe_bl))
    pss_nil)
    (pss_one (ps_ret (pe_and (pe_call G_law_compared (hr.mono (by decide)) rfl T.g__law_compared k_law_compared b_law_compared .nil pass0 (pa_cons (pv 1) (pa_cons (pv 2) (pa_cons (pv 3) (pa_cons (pv 5) (pa_cons (pv 6) pa_nil)))))) (pe_one (pe_call G_law_compared (hr.mono (by decide)) rfl T.g__law_compared k_law_compared b_law_compared .nil pass0 (pa_cons (pv 1) (pa_cons (pv 3) (pa_cons pe_int (pa_cons (pv 6) (pa_cons (pv 7) pa_nil))))))))))))))))))), ?_⟩
    exact body_of0 rfl h fun X hd => (dst_seq (dst_asg (de_call0 dv_nil (ds_hand (i := 0) (ds_cons (de_int 201) ds_nil))) (dg_name 1))
    (dst_of S_law_long_r2_eq
    (dst_seq (dst_if (dt_test (dg_op od_eq (DEg.bor (de_call0 dv_nil (ds_hand (i := 0) (ds_cons (de_int 2) ds_nil)))) (DEg.bor (de_int 0))))
    (dst_asg (dg_op od_ix (DEg.bor (DEg.cln (df_lst (da_cons (de_int 200) (da_cons (de_int 194) (da_cons (de_int 188) (da_cons (de_int 179) (da_cons (de_int 164) (da_cons (de_int 149) (da_cons (de_int 134) (da_cons (de_int 104) (da_cons (de_int 89) (da_cons (de_int 80) (da_cons (de_int 62) (da_cons (de_int 59) (da_cons (de_int 44) (da_cons (de_int 26) (da_cons (de_int 14) (da_cons (de_int 8) da_nil))))))))))))))))))) (DEg.bor (de_call0 dv_nil (ds_hand (i := 0) (ds_cons (de_int 16) ds_nil))))) (dg_name 1))
    dst_next)
    (dst_of S_law_long_r4_eq
    (dst_seq (dst_asg (de_call0 dv_nil (ds_hand (i := 0) (ds_cons (de_var 1) ds_nil))) (dg_name 2))
    (dst_of S_law_long_r5_eq
    (dst_seq (dst_asg (de_call0 dv_nil (ds_hand (i := 0) (ds_cons (de_var 1) ds_nil))) (dg_name 3))
    (dst_of S_law_long_r6_eq
    (dst_seq (dst_asg (de_call0 dv_nil (ds_cons (de_var 1) (ds_cons (dg_op od_add (db_var 1) (DEg.bor (de_int 1))) ds_nil))) (dg_name 4))
    (dst_of S_law_long_r7_eq
    (dst_seq (dst_par (da_cons (dg_op od_ix (db_var 4) (db_var 2)) (da_cons (dg_op od_ix (db_var 4) (db_var 3)) da_nil)))
    (dst_of S_law_long_r8_eq
    (dst_seq (dst_if (dt_or (dt_not (dt_tru (DEg.bor (de_call0 dv_nil (ds_cons (de_call0 dv_nil (ds_cons (de_var 1) (ds_cons (de_var 2) ds_nil))) (ds_cons (de_var 5) ds_nil)))))) (dt_not (dt_tru (DEg.bor (de_call0 dv_nil (ds_cons (de_call0 dv_nil (ds_cons (de_var 1) (ds_cons (de_var 3) ds_nil))) (ds_cons (de_var 6) ds_nil)))))))
    (dst_ret (de_bl false))
    dst_next)
    (dst_of S_law_long_r10_eq
    (dst_seq (dst_asg (de_call0 dv_nil (ds_cons (de_var 1) ds_nil)) (dg_two 7 8))
    (dst_of S_law_long_r11_eq
    (dst_seq (dst_if (dt_or (dt_not (dt_tru (DEg.bor (de_call0 dv_nil (ds_cons (de_var 7) (ds_cons (dg_cb cg_maxL (db_cons (db_var 4) db_nil)) ds_nil)))))) (dt_not (dt_tru (DEg.bor (de_call0 dv_nil (ds_cons (de_var 8) (ds_cons (dg_cb cg_minL (db_cons (db_var 4) db_nil)) ds_nil)))))))
    (dst_ret (de_bl false))
    dst_next)
    (dst_of S_law_long_r13_eq
    (dst_ret (de_andV (de_call0 dv_nil (ds_cons (de_var 1) (ds_cons (de_var 2) (ds_cons (de_var 3) (ds_cons (de_var 5) (ds_cons (de_var 6) ds_nil)))))) (de_call0 dv_nil (ds_cons (de_var 1) (ds_cons (de_var 3) (ds_cons (de_int 0) (ds_cons (de_var 6) (ds_cons (de_var 7) ds_nil))))))))))))))))))))))))))
end Mine

namespace Mine
open PySem PySem.Spec PyProof.Rows L2
theorem ok_all_words {P : Program} {w : World} {K : PySem.W.Frag} {mg : Str → Option Value} {base : Heap} (T : Txt K mg) : ∃ fd, FnOk P w K mg base CX0 1 (He.ga K "all_words") fd P_all_words (spD K F_all_words) ∧ D_all_words K (He.ga K "all_words") fd := by
  obtain ⟨fd, F⟩ := T.F_all_words
  refine ⟨fd, F.ok sc_all_words (fun vs H Q E h => ?_) (fun cdv A outer s H vs Q E hr h => ?_), F⟩
  · rw [F_all_words_eq] at h
    exact spD_len (np := 2) (fun _ _ _ h => h.1) vs H Q E h
  · rw [F_all_words_eq] at h
    refine ⟨_, PSs.nox (pss_cons (ps_set (i := 2) sc_all_words.nd rfl (by first | exact Or.inl rfl | exact Or.inr rfl) (pe_lst (pa_cons (pe_tup pa_nil) pa_nil)))
    (pss_cons (ps_for PassesOwn.never rfl (pi_range1 (by rfl) T.z_range (pa_cons (pv 1) pa_nil)) (pg_name (i := 3) sc_all_words.nd rfl (by first | exact Or.inl rfl | exact Or.inr rfl))
    (pss_one (ps_setLc2 (i := 2) (own := [("word", 4), ("letter", 5)]) (vs1 := [5]) rfl sc_all_words.nd rfl rfl (sw_true rfl rfl rfl (by decide +kernel)) (pi_seq (pv 2)) (blkOk_by (own := [("word", 4), ("letter", 5)]) (N := N_all_words) (sc := defScope s_all_words) (by decide +kernel)) (by decide) (fun _ _ _ _ _ => (pg_name (i := 4) sc_all_words.nd rfl (by first | exact Or.inl rfl | exact Or.inr rfl))) (fun _ _ _ _ _ => pts_nil) (fun _ _ _ _ _ => (pi_range1 (by rfl) T.z_range (pa_cons (pv 0) pa_nil))) (fun _ _ _ _ _ => (pg_name (i := 5) sc_all_words.nd rfl (by first | exact Or.inl rfl | exact Or.inr rfl))) (fun _ _ _ _ _ => pts_nil) (fun _ _ _ _ _ => (pe_op (op_addU rfl) (pv 4) (pe_tup (pa_cons (pv 5) pa_nil)))))))
    (pss_one (ps_ret (pv 2))))), ?_⟩
    exact body_of0 rfl h fun X hd => (dst_seq (dst_asg (DEg.cln (df_lst (da_cons (de_tup da_nil) da_nil))) (dg_name 2))
    (dst_seq (dst_for (di_rng1 (db_cons (db_var 1) db_nil)) (dg_name 3)
    (dst_asg (DEg.cln (df_lc2 (di_seq (R := Bor) (db_var 2)) (dg_name 4) dt_yes (di_rng1 (db_cons (db_var 0) db_nil)) (dg_name 5) dt_yes (dg_op od_add (db_var 4) (DEg.bor (de_tup (da_cons (de_var 5) da_nil)))) (by decide))) (dg_name 2)))
    (dst_ret (de_var 2))))
end Mine

namespace Mine
open PySem PySem.Spec PyProof.Rows L2
theorem ok_sum_of {P : Program} {w : World} {K : PySem.W.Frag} {mg : Str → Option Value} {base : Heap} (T : Txt K mg) : ∃ fd, FnOk P w K mg base CX0 1 (He.ga K "_sum_of") fd P_sum_of (spD K F_sum_of) ∧ D_sum_of K (He.ga K "_sum_of") fd := by
  obtain ⟨fd, F⟩ := T.F_sum_of
  refine ⟨fd, F.ok sc_sum_of (fun vs H Q E h => ?_) (fun cdv A outer s H vs Q E hr h => ?_), F⟩
  · rw [F_sum_of_eq] at h
    exact spD_len (np := 1) (fun _ _ _ h => h.1) vs H Q E h
  · rw [F_sum_of_eq] at h
    refine ⟨_, PSs.nox (pss_one (ps_ret (pe_callB (CallR.k (r := rSumA) (K := K) (cr_sumA rfl) rfl) (by rfl) T.z_sum (by decide +kernel) (pa_cons (pe_lc (own := [("place", 1), ("letter", 2)]) rfl sc_sum_of.nd (pi_enumTk (k := 1) (by decide) (by rfl) T.z_enumerate (pa_cons (pv 0) pa_nil)) (blkOk_by (own := [("place", 1), ("letter", 2)]) (N := N_sum_of) (sc := defScope s_sum_of) (by decide +kernel)) (fun _ _ _ _ _ => (pg_tupK (K := K) (n := 2) rfl (by rfl) (pgs_cons (pg_name (i := 1) sc_sum_of.nd rfl (by first | exact Or.inl rfl | exact Or.inr rfl)) (pgs_cons (pg_name (i := 2) sc_sum_of.nd rfl (by first | exact Or.inl rfl | exact Or.inr rfl)) pgs_nil)))) (fun _ _ _ _ _ => (pts_one (pt_cmpR (op_eqU rfl hr.units) (pv 2) pe_int (by first | exact nomark _ | rfl)))) (fun _ _ _ _ _ => (pv 1))) pa_nil)))), ?_⟩
    exact body_of0 rfl h fun X hd => (dst_ret (dg_cb cg_sum (db_cons (DEg.bor (DEg.cln (df_lc (di_enumK (R := Bor) (k := 1) (db_var 0)) (dg_two 1 2) (dt_test (dg_op od_eq (db_var 2) (DEg.bor (de_int 1)))) (de_var 1)))) db_nil)))
end Mine

namespace Mine
open PySem PySem.Spec PyProof.Rows L2
local macro_rules | `(tactic| walk_at "rd") => `(tactic| try simp only [tMk1, iEnumA, iSeq, tPar3, tAugS, ipI, rRepA, rIxA, tCallSD, rExtend, tDNewK, iZipS, tXf, tSeq, tAsg, tCB, tCons, tNil, tVar, tOp, tUn, rI, rI0, rU, gName, gNil, gCons, gSub, rSetL, tC, tRet, tRetN, tNext, tIfS, tTest, tB, tAnd, tOr, tNot, tAndV, tOrV, tNotV, tIf,
  tDrop, tCall, tCallS, tPar, tAug, ipI, tBreak, tCont, tTup, tLst, rEq_int, rNe_int, rEq_bl, rNe_bl, rEq_str, rNe_str, HO.lst.injEq, HO.tup.injEq, Bool.not_eq_true', decide_eq_false_iff_not, rIxH, rIxTH, rCat, tSl, tPart, tNoPart, tBM, rAppend, L2.start, tFor_eq, tLc_eq, iList, iTup, iRng1, iRng2, iEnum, iZip, cx_K, cx_prog, cx_w, cx_nK, forall_const, tYes, wipe, List.foldl_cons, List.foldl_nil, and_assoc, List.map_cons, List.map_nil, List.length_cons, List.length_nil, List.replicate, List.append_nil, List.cons_append, List.nil_append,
  List.getElem?_cons_zero, List.getElem?_cons_succ, List.set_cons_zero, List.set_cons_succ, Nat.zero_add, Nat.add_zero, Nat.reduceAdd, Nat.reduceSub, Option.some.injEq, V.int.injEq, V.bl.injEq, V.ref.injEq, V.str.injEq,
  List.cons.injEq, and_true, true_and, exists_eq_left, exists_eq_left', exists_eq_right, exists_const, exists_eq, exists_and_left, exists_and_right, upd_same, upd_upd, atI_0, atI_1, atI_2, atI_3, ixN_4_0, ixN_4_1, ixN_4_2, ixN_4_3, some_lst, some_tup, decide_eq_true_eq, reduceCtorEq,
  V.int.injEq, Bool.true_eq_false, Bool.false_eq_true, if_true, if_false, ite_true, ite_false, eq_self, not_true_eq_false, not_false_eq_true, decide_true, decide_false, Bool.not_true, Bool.not_false, false_and, and_false, exists_false])
local macro_rules | `(tactic| walk_at "mono") => `(tactic| repeat (first | with_reducible exact mon_var _ | with_reducible exact mon_c _ | with_reducible exact mon_rI _ _ | with_reducible exact mon_rI0 _ | with_reducible exact mon_rEq | with_reducible exact mon_rNe | with_reducible refine mon_test ?_ | with_reducible refine mon_op ?_ ?_ ?_ | with_reducible refine mon_and ?_ ?_ | with_reducible refine mon_or ?_ ?_ | with_reducible exact mon_rU _ | with_reducible refine mon_un ?_ ?_))
local macro_rules | `(tactic| walk_at "sd") => `(tactic| first | assumption | omega | (unfold CMul; omega) | (unfold CDiv; omega) | rfl | decide)
local macro_rules | `(tactic| walk_at "go") => `(tactic| repeat (refine And.intro (by first | assumption | omega | exact tyL (by assumption) | (unfold CMul; omega) | (unfold CDiv; omega) | rfl | decide) ?_))
theorem ok_TooMany___init {P : Program} {w : World} {K : PySem.W.Frag} {mg : Str → Option Value} {base : Heap} (T : Txt K mg) : ∃ fd, FnOk P w K mg base CX0 1 (He.ma K (He.ga K "TooMany") "__init__") fd P_TooMany___init (spFld (He.ga K "TooMany") "count") ∧ D_TooMany___init K (He.ma K (He.ga K "TooMany") "__init__") fd := by
  obtain ⟨fd, F⟩ := T.F_TooMany___init
  refine ⟨fd, F.ok sc_TooMany___init (fun vs H Q E h => ?_) (fun cdv A outer s H vs Q E hr h => ?_), F⟩
  · obtain ⟨a, v, rfl, _⟩ := h
    rfl
  ·
    obtain ⟨a, v, rfl, ha, q⟩ := h
    refine ⟨_, PSs.nox (pss_one (ps_ost (pv 0) (pv 1))), ?_⟩
    simp only [tMk1, iEnumA, iSeq, tPar3, tAugS, ipI, rRepA, rIxA, tCallSD, rExtend, tDNewK, iZipS, tXf, tSeq, tAsg, tCB, tCons, tNil, tVar, tOp, tUn, rI, rI0, rU, gName, gNil, gCons, gSub, rSetL, tC, tRet, tRetN, tNext, tIfS, tTest, tB, tAnd, tOr, tNot, tAndV, tOrV, tNotV, tIf,
  tDrop, tCall, tCallS, tPar, tAug, ipI, tBreak, tCont, tTup, tLst, rEq_int, rNe_int, rEq_bl, rNe_bl, rEq_str, rNe_str, HO.lst.injEq, HO.tup.injEq, Bool.not_eq_true', decide_eq_false_iff_not, rIxH, rIxTH, rCat, tSl, tPart, tNoPart, tBM, rAppend, L2.start, tFor_eq, tLc_eq, iList, iTup, iRng1, iRng2, iEnum, iZip, cx_K, cx_prog, cx_w, cx_nK, forall_const, tYes, wipe, List.foldl_cons, List.foldl_nil, and_assoc, List.map_cons, List.map_nil, List.length_cons, List.length_nil, List.replicate, List.append_nil, List.cons_append, List.nil_append,
  List.getElem?_cons_zero, List.getElem?_cons_succ, List.set_cons_zero, List.set_cons_succ, Nat.zero_add, Nat.add_zero, Nat.reduceAdd, Nat.reduceSub, Option.some.injEq, V.int.injEq, V.bl.injEq, V.ref.injEq, V.str.injEq,
  List.cons.injEq, and_true, true_and, exists_eq_left, exists_eq_left', exists_eq_right, exists_const, exists_eq, exists_and_left, exists_and_right, upd_same, upd_upd, atI_0, atI_1, atI_2, atI_3, ixN_4_0, ixN_4_1, ixN_4_2, ixN_4_3, some_lst, some_tup, decide_eq_true_eq, reduceCtorEq,
  V.int.injEq, Bool.true_eq_false, Bool.false_eq_true, if_true, if_false, ite_true, ite_false, eq_self, not_true_eq_false, not_false_eq_true, decide_true, decide_false, Bool.not_true, Bool.not_false, false_and, and_false, exists_false, tOst]
    exact ⟨_, T.x_TooMany.o, T.n_TooMany_is_count, .inl ⟨ha, fun dx h1 h2 => q dx h1 h2⟩⟩
end Mine

namespace Mine
open PySem PySem.Spec PyProof.Rows L2
theorem ok_power_of {P : Program} {w : World} {K : PySem.W.Frag} {mg : Str → Option Value} {base : Heap} (T : Txt K mg) : ∃ fd, FnOk P w K mg base CX0 1 (He.ga K "power_of") fd P_power_of (spD K F_power_of) ∧ D_power_of K (He.ga K "power_of") fd := by
  obtain ⟨fd, F⟩ := T.F_power_of
  refine ⟨fd, F.ok sc_power_of (fun vs H Q E h => ?_) (fun cdv A outer s H vs Q E hr h => ?_), F⟩
  · rw [F_power_of_eq] at h
    exact spD_len (np := 2) (fun _ _ _ h => h.1) vs H Q E h
  · rw [F_power_of_eq] at h
    refine ⟨_, PSs.nox (pss_cons (ps_set (i := 2) sc_power_of.nd rfl (by first | exact Or.inl rfl | exact Or.inr rfl) pe_int)
    (pss_cons (ps_for PassesOwn.never rfl (pi_range1 (by rfl) T.z_range (pa_cons (pv 1) pa_nil)) (pg_name (i := 3) sc_power_of.nd rfl (by first | exact Or.inl rfl | exact Or.inr rfl))
    (pss_one (ps_set (i := 2) sc_power_of.nd rfl (by first | exact Or.inl rfl | exact Or.inr rfl) (pe_op op_mulU (pv 2) (pv 0)))))
    (pss_one (ps_ret (pv 2))))), ?_⟩
    exact body_of0 rfl h fun X hd => (dst_seq (dst_asg (de_int 1) (dg_name 2))
    (dst_seq (dst_for (di_rng1 (db_cons (db_var 1) db_nil)) (dg_name 3)
    (dst_asg (dg_op od_mul (db_var 2) (db_var 0)) (dg_name 2)))
    (dst_ret (de_var 2))))
end Mine

namespace Mine
open PySem PySem.Spec PyProof.Rows L2
theorem ok_sum_members {P : Program} {w : World} {K : PySem.W.Frag} {mg : Str → Option Value} {base : Heap} (T : Txt K mg) : ∃ fd, GFn P w K mg base 3 (He.ga K "sum_members") fd P_sum_members (spGD K F_sum_members) ∧ D_sum_members K (He.ga K "sum_members") fd := by
  obtain ⟨fd, F⟩ := T.F_sum_members
  obtain ⟨fd_all_words, G_all_words, D_all_words⟩ := ok_all_words (P := P) (w := w) (base := base) T
  have k_all_words := D_all_words.kp
  have b_all_words := bd_all_words D_all_words
  obtain ⟨fd_sum_of, G_sum_of, D_sum_of⟩ := ok_sum_of (P := P) (w := w) (base := base) T
  have k_sum_of := D_sum_of.kp
  have b_sum_of := bd_sum_of D_sum_of
  obtain ⟨fd_TooMany___init, G_TooMany___init, D_TooMany___init⟩ := ok_TooMany___init (P := P) (w := w) (base := base) T
  have k_TooMany___init := D_TooMany___init.kp
  have b_TooMany___init := bd_TooMany___init D_TooMany___init
  obtain ⟨fd_power_of, G_power_of, D_power_of⟩ := ok_power_of (P := P) (w := w) (base := base) T
  have k_power_of := D_power_of.kp
  have b_power_of := bd_power_of D_power_of
  refine ⟨fd, F.gok sc_sum_members (fun vs H Q E h => ?_) (fun cdv A outer s H vs Q E pn hr h => ?_), F⟩
  · rw [F_sum_members_eq] at h
    exact spGD_len (np := 1) (fun _ _ _ h => h.1) vs H Q E h
  · rw [F_sum_members_eq] at h
    refine ⟨_, (gss_cons (gs_ps (ps_if (pt_cmpR op_gt (pe_fldU (K := K) rfl (pv 0) (by rfl)) (pe_glob (v := .int (14)) rfl T.c_MOST_LISTED.choose_spec ⟨_, rfl⟩) (by first | exact nomark _ | rfl))
    (pss_one (ps_raise rfl takes_gcx (mk1 T.x_TooMany T.g_TooMany G_TooMany___init b_TooMany___init (hr.mono (by decide)) (mon_callA (monA_cons (mon_c _) (monA_cons (mon_fld (mon_var _)) monA_nil))) (pe_call G_power_of (hr.mono (by decide)) rfl T.g_power_of k_power_of b_power_of .nil pass0 (pa_cons pe_int (pa_cons (pe_fldU (K := K) rfl (pv 0) (by rfl)) pa_nil))) rfl)))
    pss_nil))
    (gss_cons (gs_for owns_gcx rfl (pi_seq (pe_call G_all_words (hr.mono (by decide)) rfl T.g_all_words k_all_words b_all_words .nil pass0 (pa_cons pe_int (pa_cons (pe_fldU (K := K) rfl (pv 0) (by rfl)) pa_nil)))) (pg_name (i := 1) sc_sum_members.nd rfl (by first | exact Or.inl rfl | exact Or.inr rfl))
    (gss_cons (gs_if (pt_cmpR (op_eqU rfl hr.units) (pe_op op_mod (pe_call G_sum_of (hr.mono (by decide)) rfl T.g__sum_of k_sum_of b_sum_of .nil pass0 (pa_cons (pv 1) pa_nil)) (pe_fldU (K := K) rfl (pv 0) (by rfl))) (pe_fldU (K := K) rfl (pv 0) (by rfl)) (by first | exact nomark _ | rfl))
    (gss_cons (gs_yield (pv 1))
    gss_nil)
    gss_nil)
    gss_nil))
    gss_nil)), ?_⟩
    exact gbody_of rfl h fun X hd => (dgs_seq (dgs_plain (dst_if (dt_test (dg_op od_gt (DEg.bor (de_fld (fld_ok T) (db_var 0))) (DEg.bor (de_int (14)))))
    (dst_raise1 rfl (de_call0 dv_nil (ds_cons (de_int 2) (ds_cons (de_fld (fld_ok T) (db_var 0)) ds_nil))))
    dst_next))
    (dgs_seq (dgs_for (di_seq (R := Cln) (de_call0 dv_nil (ds_cons (de_int 2) (ds_cons (de_fld (fld_ok T) (db_var 0)) ds_nil)))) (dg_name 1)
    (dgs_seq (dgs_if (dt_test (dg_op od_eq (DEg.bor (dg_op od_mod (DEg.bor (de_call0 dv_nil (ds_cons (de_var 1) ds_nil))) (DEg.bor (de_fld (fld_ok T) (db_var 0))))) (DEg.bor (de_fld (fld_ok T) (db_var 0)))))
    (dgs_seq (dgs_yield (de_var 1))
    dgs_next)
    dgs_next)
    dgs_next))
    dgs_next))
end Mine

namespace Mine
open PySem PySem.Spec PyProof.Rows L2
theorem ok_check_modulus {P : Program} {w : World} {K : PySem.W.Frag} {mg : Str → Option Value} {base : Heap} (T : Txt K mg) : ∃ fd, FnOk P w K mg base (L2.CX P w) 2 (He.ga K "_check_modulus") fd P_check_modulus (spD K F_check_modulus) ∧ D_check_modulus K (He.ga K "_check_modulus") fd := by
  obtain ⟨fd, F⟩ := T.F_check_modulus
  obtain ⟨fd_is_whole, G_is_whole, D_is_whole⟩ := ok_is_whole (P := P) (w := w) (base := base) T
  have k_is_whole := D_is_whole.kp
  obtain ⟨ds_is_whole_3, r_is_whole_3, b_is_whole_3⟩ := bd_is_whole_3 D_is_whole
  refine ⟨fd, F.ok sc_check_modulus (fun vs H Q E h => ?_) (fun cdv A outer s H vs Q E hr h => ?_), F⟩
  · rw [F_check_modulus_eq] at h
    exact spD_len (np := 2) (fun _ _ _ h => h.1) vs H Q E h
  · rw [F_check_modulus_eq] at h
    refine ⟨_, (pss_one (ps_if (pt_not (pt_tru rfl (pe_call G_is_whole (hr.mono (by decide)) rfl T.g_is_whole k_is_whole b_is_whole_3 r_is_whole_3 pass0 (pa_cons (pv 0) (pa_cons (pv 1) (pa_cons (pe_glob (v := .int (1000000)) rfl T.c_MOST_MODULUS.choose_spec ⟨_, rfl⟩) pa_nil)))) (by intro _; rfl)))
    (pss_one (ps_raise rfl (takes_of rfl rfl rfl rfl) (mk0 T.e_BadModulus T.g_BadModulus rfl)))
    pss_nil)), ?_⟩
    exact body_of rfl h fun X hd => (dst_if (dt_not (dt_tru (DEg.bor (de_call0 dv_nil (ds_cons (de_var 0) (ds_cons (de_var 1) (ds_cons (de_int (1000000)) ds_nil)))))))
    (dst_raise rfl)
    dst_next)
end Mine

namespace Mine
open PySem PySem.Spec PyProof.Rows L2
theorem ok_check_rest_sums {P : Program} {w : World} {K : PySem.W.Frag} {mg : Str → Option Value} {base : Heap} (T : Txt K mg) : ∃ fd, FnOk P w K mg base (L2.CX P w) 2 (He.ga K "check_rest_sums") fd P_check_rest_sums (spD K F_check_rest_sums) ∧ D_check_rest_sums K (He.ga K "check_rest_sums") fd := by
  obtain ⟨fd, F⟩ := T.F_check_rest_sums
  obtain ⟨fd_is_whole, G_is_whole, D_is_whole⟩ := ok_is_whole (P := P) (w := w) (base := base) T
  have k_is_whole := D_is_whole.kp
  obtain ⟨ds_is_whole_3, r_is_whole_3, b_is_whole_3⟩ := bd_is_whole_3 D_is_whole
  refine ⟨fd, F.ok sc_check_rest_sums (fun vs H Q E h => ?_) (fun cdv A outer s H vs Q E hr h => ?_), F⟩
  · rw [F_check_rest_sums_eq] at h
    exact spD_len (np := 2) (fun _ _ _ h => h.1) vs H Q E h
  · rw [F_check_rest_sums_eq] at h
    refine ⟨_, (pss_one (ps_if (pt_not (pt_tru rfl (pe_call G_is_whole (hr.mono (by decide)) rfl T.g_is_whole k_is_whole b_is_whole_3 r_is_whole_3 pass0 (pa_cons (pv 0) (pa_cons pe_int (pa_cons (pe_op op_sub (pv 1) pe_int) pa_nil)))) (by intro _; rfl)))
    (pss_one (ps_raise rfl (takes_of rfl rfl rfl rfl) (mk0 T.e_BadRest T.g_BadRest rfl)))
    pss_nil)), ?_⟩
    exact body_of rfl h fun X hd => (dst_if (dt_not (dt_tru (DEg.bor (de_call0 dv_nil (ds_cons (de_var 0) (ds_cons (de_int 0) (ds_cons (dg_op od_sub (db_var 1) (DEg.bor (de_int 1))) ds_nil)))))))
    (dst_raise rfl)
    dst_next)
end Mine

namespace Mine
open PySem PySem.Spec PyProof.Rows L2
theorem ok_SumBook___init {P : Program} {w : World} {K : PySem.W.Frag} {mg : Str → Option Value} {base : Heap} (T : Txt K mg) : ∃ fd, FnOk P w K mg base (L2.CX P w) 3 (He.ma K (He.ga K "SumBook") "__init__") fd P_SumBook___init (spI K "SumBook" F_SumBook___init) ∧ D_SumBook___init K (He.ma K (He.ga K "SumBook") "__init__") fd := by
  obtain ⟨fd, F⟩ := T.F_SumBook___init
  obtain ⟨fd_check_number, G_check_number, D_check_number⟩ := ok_check_number (P := P) (w := w) (base := base) T
  have k_check_number := D_check_number.kp
  have b_check_number := bd_check_number D_check_number
  obtain ⟨fd_check_modulus, G_check_modulus, D_check_modulus⟩ := ok_check_modulus (P := P) (w := w) (base := base) T
  have k_check_modulus := D_check_modulus.kp
  have b_check_modulus := bd_check_modulus D_check_modulus
  obtain ⟨fd_check_rest_sums, G_check_rest_sums, D_check_rest_sums⟩ := ok_check_rest_sums (P := P) (w := w) (base := base) T
  have k_check_rest_sums := D_check_rest_sums.kp
  have b_check_rest_sums := bd_check_rest_sums D_check_rest_sums
  refine ⟨fd, F.ok sc_SumBook___init (fun vs H Q E h => ?_) (fun cdv A outer s H vs Q E hr h => ?_), F⟩
  · rw [F_SumBook___init_eq] at h
    exact spI_len (np := 4) (fun _ _ _ h => h.1) vs H Q E h
  · rw [F_SumBook___init_eq] at h
    refine ⟨_, (pss_cons (ps_expr (pe_call G_check_number (hr.mono (by decide)) rfl T.g_check_number k_check_number b_check_number .nil (E := E) (passes_call (takes_of rfl rfl rfl rfl) fun _ _ _ _ h => h) (pa_cons (pv 1) (pa_cons pe_int (pa_cons (pe_glob (v := .int (200)) rfl T.c_MOST_HERE.choose_spec ⟨_, rfl⟩) pa_nil)))))
    (pss_cons (ps_expr (pe_call G_check_modulus (hr.mono (by decide)) rfl T.g__check_modulus k_check_modulus b_check_modulus .nil (E := E) (passes_call (takes_of rfl rfl rfl rfl) fun _ _ _ _ h => h) (pa_cons (pv 2) (pa_cons (pe_op (op_addU rfl) (pv 1) pe_int) pa_nil))))
    (pss_cons (ps_expr (pe_call G_check_rest_sums (hr.mono (by decide)) rfl T.g_check_rest_sums k_check_rest_sums b_check_rest_sums .nil (E := E) (passes_call (takes_of rfl rfl rfl rfl) fun _ _ _ _ h => h) (pa_cons (pv 3) (pa_cons (pv 2) pa_nil))))
    (pss_cons (ps_fld (pv 0) (pv 1) (by rfl))
    (pss_cons (ps_fld (pv 0) (pv 2) (by rfl))
    (pss_one (ps_fld (pv 0) (pv 3) (by rfl)))))))), ?_⟩
    exact body_ofI rfl h fun H X hd x => (dst_seq (dst_drop (de_call rfl dv_nil (ds_cons (de_var 1) (ds_cons (de_int 0) (ds_cons (de_int (200)) ds_nil)))))
    (dst_seq (dst_drop (de_call rfl dv_nil (ds_cons (de_var 2) (ds_cons (dg_op od_add (db_var 1) (DEg.bor (de_int 1))) ds_nil))))
    (dst_seq (dst_drop (de_call rfl dv_nil (ds_cons (de_var 3) (ds_cons (de_var 2) ds_nil))))
    (dst_seq (dst_setF (fld_ok T) (de_var 1))
    (dst_seq (dst_setF (fld_ok T) (de_var 2))
    (dst_setF (fld_ok T) (de_var 3)))))))
end Mine

namespace Mine
open PySem PySem.Spec PyProof.Rows L2
theorem ok_law_is_word {P : Program} {w : World} {K : PySem.W.Frag} {mg : Str → Option Value} {base : Heap} (T : Txt K mg) : ∃ fd, FnOk P w K mg base CX0 2 (He.ga K "_law_is_word") fd P_law_is_word (spD K F_law_is_word) ∧ D_law_is_word K (He.ga K "_law_is_word") fd := by
  obtain ⟨fd, F⟩ := T.F_law_is_word
  obtain ⟨fd_law_is_number, G_law_is_number, D_law_is_number⟩ := ok_law_is_number (P := P) (w := w) (base := base) T
  have k_law_is_number := D_law_is_number.kp
  have b_law_is_number := bd_law_is_number D_law_is_number
  refine ⟨fd, F.ok sc_law_is_word (fun vs H Q E h => ?_) (fun cdv A outer s H vs Q E hr h => ?_), F⟩
  · rw [F_law_is_word_eq] at h
    exact spD_len (np := 2) (fun _ _ _ h => h.1) vs H Q E h
  · rw [F_law_is_word_eq] at h
    refine ⟨_, PSs.nox (pss_cons (ps_if (PW.pt (pw_or (pt_not (pt_tru rfl (pe_callB (call_isiU (K := K) rfl) (by rfl) T.z_isinstance (by decide +kernel) (pa_cons (pv 0) (pa_cons (pe_bltn (v := .ty "tuple") (by rfl) T.z_tuple (by decide +kernel) rfl) pa_nil))) (by intro _; rfl))) (pw_or1 (pt_cmpR (op_neU rfl hr.units) (pe_callB (call_lenU (K := K) rfl) (by rfl) T.z_len (by decide +kernel) (pa_cons (pv 0) pa_nil)) (pe_callB (call_lenU (K := K) rfl) (by rfl) T.z_len (by decide +kernel) (pa_cons (pv 1) pa_nil)) (by first | exact nomark _ | rfl)))))
    (pss_one (ps_ret pe_bl))
    pss_nil)
    (pss_one (ps_ret (pe_cmpR (op_eqU rfl hr.units) (pe_lc (own := [("_law_k", 2)]) rfl sc_law_is_word.nd (pi_range1 (by rfl) T.z_range (pa_cons (pe_callB (call_lenU (K := K) rfl) (by rfl) T.z_len (by decide +kernel) (pa_cons (pv 1) pa_nil)) pa_nil)) (blkOk_by (own := [("_law_k", 2)]) (N := N_law_is_word) (sc := defScope s_law_is_word) (by decide +kernel)) (fun _ _ _ _ _ => (pg_name (i := 2) sc_law_is_word.nd rfl (by first | exact Or.inl rfl | exact Or.inr rfl))) (fun _ _ _ _ _ => (pts_one (pt_not (pt_tru rfl (pe_call G_law_is_number (hr.mono (by decide)) rfl T.g__law_is_number k_law_is_number b_law_is_number .nil pass0 (pa_cons (pe_ix (ix_U (K := K) rfl) (pv 0) (pv 2) (fun _ _ => rfl)) (pa_cons (pe_ix (ix_U (K := K) rfl) (pv 1) (pv 2) (fun _ _ => rfl)) pa_nil))) (by intro _; rfl))))) (fun _ _ _ _ _ => (pv 2))) (pe_lst pa_nil) (by first | exact nomark _ | rfl))))), ?_⟩
    exact body_of0 rfl h fun X hd => (dst_seq (dst_if (dt_or (dt_not (dt_tru (DEg.bor (dg_cb (cg_isi known_tuple) (db_cons (db_var 0) (db_cons (DEg.bor (de_raw (.ty "tuple"))) db_nil)))))) (dt_test (dg_op od_ne (DEg.bor (dg_cb cg_len (db_cons (db_var 0) db_nil))) (DEg.bor (dg_cb cg_len (db_cons (db_var 1) db_nil))))))
    (dst_ret (de_bl false))
    dst_next)
    (dst_ret (dg_op od_eq (DEg.bor (DEg.cln (df_lc (di_rng1 (db_cons (DEg.bor (dg_cb cg_len (db_cons (db_var 1) db_nil))) db_nil)) (dg_name 2) (dt_not (dt_tru (DEg.bor (de_call0 dv_nil (ds_cons (dg_op od_ix (db_var 0) (db_var 2)) (ds_cons (dg_op od_ix (db_var 1) (db_var 2)) ds_nil)))))) (de_var 2)))) (DEg.bor (DEg.cln (df_lst da_nil))))))
end Mine

namespace Mine
open PySem PySem.Spec PyProof.Rows L2
theorem ok_book_sizes {P : Program} {w : World} {K : PySem.W.Frag} {mg : Str → Option Value} {base : Heap} (T : Txt K mg) : ∃ fd, FnOk P w K mg base (L2.CX P w) 6 (He.ga K "book_sizes") fd P_book_sizes (spD K F_book_sizes) ∧ D_book_sizes K (He.ga K "book_sizes") fd := by
  obtain ⟨fd, F⟩ := T.F_book_sizes
  obtain ⟨fd_check_number, G_check_number, D_check_number⟩ := ok_check_number (P := P) (w := w) (base := base) T
  have k_check_number := D_check_number.kp
  have b_check_number := bd_check_number D_check_number
  obtain ⟨fd_size_of, G_size_of, D_size_of⟩ := ok_size_of (P := P) (w := w) (base := base) T
  have k_size_of := D_size_of.kp
  have b_size_of := bd_size_of D_size_of
  refine ⟨fd, F.ok sc_book_sizes (fun vs H Q E h => ?_) (fun cdv A outer s H vs Q E hr h => ?_), F⟩
  · rw [F_book_sizes_eq] at h
    exact spD_len (np := 1) (fun _ _ _ h => h.1) vs H Q E h
  · rw [F_book_sizes_eq] at h
    refine ⟨_, (pss_cons (ps_expr (pe_call G_check_number (hr.mono (by decide)) rfl T.g_check_number k_check_number b_check_number .nil (E := E) (passes_call (takes_of rfl rfl rfl rfl) fun _ _ _ _ h => h) (pa_cons (pv 0) (pa_cons pe_int (pa_cons (pe_glob (v := .int (60)) rfl T.c_MOST_TABLED.choose_spec ⟨_, rfl⟩) pa_nil)))))
    (pss_one (ps_ret (pe_callTy (call_tupU (K := K) rfl) (by rfl) T.z_tuple (by decide +kernel) (pa_cons (pe_lc (own := [("rest", 1)]) rfl sc_book_sizes.nd (pi_range1 (by rfl) T.z_range (pa_cons (pe_op (op_addU rfl) (pv 0) pe_int) pa_nil)) (blkOk_by (own := [("rest", 1)]) (N := N_book_sizes) (sc := defScope s_book_sizes) (by decide +kernel)) (fun _ _ _ _ _ => (pg_name (i := 1) sc_book_sizes.nd rfl (by first | exact Or.inl rfl | exact Or.inr rfl))) (fun _ _ _ _ _ => pts_nil) (fun _ _ _ _ _ => (pe_call G_size_of (hr.mono (by decide)) rfl T.g_size_of k_size_of b_size_of .nil passL (pa_cons (pv 0) (pa_cons (pv 1) pa_nil))))) pa_nil))))), ?_⟩
    exact body_of rfl h fun X hd => (dst_seq (dst_drop (de_call rfl dv_nil (ds_cons (de_var 0) (ds_cons (de_int 0) (ds_cons (de_int (60)) ds_nil)))))
    (dst_ret (dg_cb cg_tup (db_cons (DEg.bor (DEg.cln (df_lc (di_rng1 (db_cons (DEg.bor (dg_op od_add (db_var 0) (DEg.bor (de_int 1)))) db_nil)) (dg_name 1) dt_yes (de_call0 dv_nil (ds_cons (de_var 0) (ds_cons (de_var 1) ds_nil)))))) db_nil))))
end Mine

namespace Mine
open PySem PySem.Spec PyProof.Rows L2
theorem ok_law_power {P : Program} {w : World} {K : PySem.W.Frag} {mg : Str → Option Value} {base : Heap} (T : Txt K mg) : ∃ fd, FnOk P w K mg base CX0 1 (He.ga K "_law_power") fd P_law_power (spD K F_law_power) ∧ D_law_power K (He.ga K "_law_power") fd := by
  obtain ⟨fd, F⟩ := T.F_law_power
  refine ⟨fd, F.ok sc_law_power (fun vs H Q E h => ?_) (fun cdv A outer s H vs Q E hr h => ?_), F⟩
  · rw [F_law_power_eq] at h
    exact spD_len (np := 2) (fun _ _ _ h => h.1) vs H Q E h
  · rw [F_law_power_eq] at h
    refine ⟨_, PSs.nox (pss_cons (ps_set (i := 2) sc_law_power.nd rfl (by first | exact Or.inl rfl | exact Or.inr rfl) pe_int)
    (pss_cons (ps_for PassesOwn.never rfl (pi_range1 (by rfl) T.z_range (pa_cons (pv 1) pa_nil)) (pg_name (i := 3) sc_law_power.nd rfl (by first | exact Or.inl rfl | exact Or.inr rfl))
    (pss_one (ps_set (i := 2) sc_law_power.nd rfl (by first | exact Or.inl rfl | exact Or.inr rfl) (pe_op op_mulU (pv 2) (pv 0)))))
    (pss_one (ps_ret (pv 2))))), ?_⟩
    exact body_of0 rfl h fun X hd => (dst_seq (dst_asg (de_int 1) (dg_name 2))
    (dst_seq (dst_for (di_rng1 (db_cons (db_var 1) db_nil)) (dg_name 3)
    (dst_asg (dg_op od_mul (db_var 2) (db_var 0)) (dg_name 2)))
    (dst_ret (de_var 2))))
end Mine

namespace Mine
open PySem PySem.Spec PyProof.Rows L2
theorem ok_law_walked {P : Program} {w : World} {K : PySem.W.Frag} {mg : Str → Option Value} {base : Heap} (T : Txt K mg) : ∃ fd, FnOk P w K mg base CX0 7 (He.ga K "_law_walked") fd P_law_walked (spD K F_law_walked) ∧ D_law_walked K (He.ga K "_law_walked") fd := by
  obtain ⟨fd, F⟩ := T.F_law_walked
  obtain ⟨fd_law_take, G_law_take, D_law_take⟩ := ok_law_take (P := P) (w := w) (base := base) T
  have k_law_take := D_law_take.kp
  have b_law_take := bd_law_take D_law_take
  obtain ⟨fd_sum_members, G_sum_members, D_sum_members⟩ := ok_sum_members (P := P) (w := w) (base := base) T
  have k_sum_members := D_sum_members.kp
  have b_sum_members := bd_sum_members D_sum_members
  obtain ⟨fd_SumBook___init, G_SumBook___init, D_SumBook___init⟩ := ok_SumBook___init (P := P) (w := w) (base := base) T
  have k_SumBook___init := D_SumBook___init.kp
  have b_SumBook___init := bd_SumBook___init D_SumBook___init
  obtain ⟨fd_law_is_word, G_law_is_word, D_law_is_word⟩ := ok_law_is_word (P := P) (w := w) (base := base) T
  have k_law_is_word := D_law_is_word.kp
  have b_law_is_word := bd_law_is_word D_law_is_word
  obtain ⟨fd_book_sizes, G_book_sizes, D_book_sizes⟩ := ok_book_sizes (P := P) (w := w) (base := base) T
  have k_book_sizes := D_book_sizes.kp
  have b_book_sizes := bd_book_sizes D_book_sizes
  obtain ⟨fd_law_power, G_law_power, D_law_power⟩ := ok_law_power (P := P) (w := w) (base := base) T
  have k_law_power := D_law_power.kp
  have b_law_power := bd_law_power D_law_power
  obtain ⟨fd_law_counts, G_law_counts, D_law_counts⟩ := ok_law_counts (P := P) (w := w) (base := base) T
  have k_law_counts := D_law_counts.kp
  have b_law_counts := bd_law_counts D_law_counts
  obtain ⟨fd_extremes_of, G_extremes_of, D_extremes_of⟩ := ok_extremes_of (P := P) (w := w) (base := base) T
  have k_extremes_of := D_extremes_of.kp
  have b_extremes_of := bd_extremes_of D_extremes_of
  obtain ⟨fd_law_compared, G_law_compared, D_law_compared⟩ := ok_law_compared (P := P) (w := w) (base := base) T
  have k_law_compared := D_law_compared.kp
  have b_law_compared := bd_law_compared D_law_compared
  refine ⟨fd, F.ok sc_law_walked (fun vs H Q E h => ?_) (fun cdv A outer s H vs Q E hr h => ?_), F⟩
  · rw [F_law_walked_eq] at h
    exact spD_len (np := 1) (fun _ _ _ h => h.1) vs H Q E h
  · rw [F_law_walked_eq] at h
    refine ⟨_, PSs.nox (pss_cons (ps_set (i := 1) sc_law_walked.nd rfl (by first | exact Or.inl rfl | exact Or.inr rfl) (pe_ifExp (pt_cmpR op_gt (pe_call G_law_take (hr.mono (by decide)) rfl T.g__law_take k_law_take b_law_take .nil pass0 (pa_cons (pv 0) (pa_cons pe_int pa_nil))) pe_int (by first | exact nomark _ | rfl)) (pe_call G_law_take (hr.mono (by decide)) rfl T.g__law_take k_law_take b_law_take .nil pass0 (pa_cons (pv 0) (pa_cons pe_int pa_nil))) (pe_op (op_addU rfl) pe_int (pe_call G_law_take (hr.mono (by decide)) rfl T.g__law_take k_law_take b_law_take .nil pass0 (pa_cons (pv 0) (pa_cons pe_int pa_nil))))))
    (pss_cons (ps_set (i := 2) sc_law_walked.nd rfl (by first | exact Or.inl rfl | exact Or.inr rfl) (pe_lst pa_nil))
    (pss_cons (ps_for PassesOwn.never rfl (pi_range1 (by rfl) T.z_range (pa_cons (pe_op (op_addU rfl) (pv 1) pe_int) pa_nil)) (pg_name (i := 3) sc_law_walked.nd rfl (by first | exact Or.inl rfl | exact Or.inr rfl))
    (pss_one (ps_set (i := 2) sc_law_walked.nd rfl (by first | exact Or.inl rfl | exact Or.inr rfl) (pe_op (op_addU rfl) (pv 2) (pe_lst (pa_cons (pe_callB (call_lenU (K := K) rfl) (by rfl) T.z_len (by decide +kernel) (pa_cons (pe_listG (pgen_call G_sum_members (hr.mono (by decide)) rfl T.g_sum_members k_sum_members b_sum_members .nil (pa_cons (pe_make T.r_SumBook G_SumBook___init (hr.mono (by decide)) rfl T.g_SumBook b_SumBook___init .nil passL (pa_cons (pv 1) (pa_cons (pe_op (op_addU rfl) (pv 1) pe_int) (pa_cons (pv 3) pa_nil)))) pa_nil)) passG0 noStop0 (hr.mono (by decide)) (by rfl) T.z_list (by decide +kernel)) pa_nil)) pa_nil))))))
    (pss_cons (ps_if (PW.pt (pw_or (pt_cmpR (op_neU rfl hr.units) (pv 2) (pe_call G_law_counts (hr.mono (by decide)) rfl T.g__law_counts k_law_counts b_law_counts .nil pass0 (pa_cons (pv 1) (pa_cons (pe_op (op_addU rfl) (pv 1) pe_int) pa_nil))) (by first | exact nomark _ | rfl)) (pw_or (pt_cmpR (op_neU rfl hr.units) (pe_callB (CallR.k (r := rSumA) (K := K) (cr_sumA rfl) rfl) (by rfl) T.z_sum (by decide +kernel) (pa_cons (pv 2) pa_nil)) (pe_call G_law_power (hr.mono (by decide)) rfl T.g__law_power k_law_power b_law_power .nil pass0 (pa_cons pe_int (pa_cons (pv 1) pa_nil))) (by first | exact nomark _ | rfl)) (pw_or1 (pt_not (pt_tru rfl (pe_call G_law_is_word (hr.mono (by decide)) rfl T.g__law_is_word k_law_is_word b_law_is_word .nil pass0 (pa_cons (pe_call G_book_sizes (hr.mono (by decide)) rfl T.g_book_sizes k_book_sizes b_book_sizes .nil passL (pa_cons (pv 1) pa_nil)) (pa_cons (pv 2) pa_nil))) (by intro _; rfl)))))))
    (pss_one (ps_ret pe_bl))
    pss_nil)
    (pss_cons (ps_if (pt_not (pt_tru rfl (pe_call G_law_is_word (hr.mono (by decide)) rfl T.g__law_is_word k_law_is_word b_law_is_word .nil pass0 (pa_cons (pe_call G_extremes_of (hr.mono (by decide)) rfl T.g_extremes_of k_extremes_of b_extremes_of .nil passL (pa_cons (pv 1) pa_nil)) (pa_cons (pe_lst (pa_cons (pe_ix (ix_U (K := K) rfl) (pv 2) pe_int (fun _ _ => rfl)) (pa_cons (pe_ix (ix_U (K := K) rfl) (pv 2) (pe_callB (call_min2U rfl) (by rfl) T.z_min (by decide +kernel) (pa_cons pe_int (pa_cons (pv 1) pa_nil))) (fun _ _ => rfl)) pa_nil))) pa_nil))) (by intro _; rfl)))
    (pss_one (ps_ret pe_bl))
    pss_nil)
    (pss_cons (ps_if (PW.pt (pw_or (pt_cmpR (op_neU rfl hr.units) (pe_callB (CallR.k (r := rMax) (K := K) (cr_max rfl) rfl) (by rfl) T.z_max (by decide +kernel) (pa_cons (pv 2) pa_nil)) (pe_ix (ix_U (K := K) rfl) (pv 2) pe_int (fun _ _ => rfl)) (by first | exact nomark _ | rfl)) (pw_or1 (pt_cmpR (op_neU rfl hr.units) (pe_callB (CallR.k (r := rMin) (K := K) (cr_min rfl) rfl) (by rfl) T.z_min (by decide +kernel) (pa_cons (pv 2) pa_nil)) (pe_ix (ix_U (K := K) rfl) (pv 2) (pe_callB (call_min2U rfl) (by rfl) T.z_min (by decide +kernel) (pa_cons pe_int (pa_cons (pv 1) pa_nil))) (fun _ _ => rfl)) (by first | exact nomark _ | rfl)))))
    (pss_one (ps_ret pe_bl))
    pss_nil)
    (pss_cons (ps_for PassesOwn.never rfl (pi_range1 (by rfl) T.z_range (pa_cons (pe_op (op_addU rfl) (pv 1) pe_int) pa_nil)) (pg_name (i := 4) sc_law_walked.nd rfl (by first | exact Or.inl rfl | exact Or.inr rfl))
    (pss_cons (ps_set (i := 5) sc_law_walked.nd rfl (by first | exact Or.inl rfl | exact Or.inr rfl) (pe_call G_law_take (hr.mono (by decide)) rfl T.g__law_take k_law_take b_law_take .nil pass0 (pa_cons (pv 0) (pa_cons (pe_op (op_addU rfl) (pv 1) pe_int) pa_nil))))
    (pss_one (ps_if (pt_not (pt_tru rfl (pe_call G_law_compared (hr.mono (by decide)) rfl T.g__law_compared k_law_compared b_law_compared .nil pass0 (pa_cons (pv 1) (pa_cons (pv 4) (pa_cons (pv 5) (pa_cons (pe_ix (ix_U (K := K) rfl) (pv 2) (pv 4) (fun _ _ => rfl)) (pa_cons (pe_ix (ix_U (K := K) rfl) (pv 2) (pv 5) (fun _ _ => rfl)) pa_nil)))))) (by intro _; rfl)))
    (pss_one (ps_ret pe_bl))
    pss_nil))))
    (pss_one (ps_ret pe_bl))))))))), ?_⟩
    exact body_of0 rfl h fun X hd => (dst_seq (dst_asg (dg_if (dt_test (dg_op od_gt (DEg.bor (de_call0 dv_nil (ds_hand (i := 0) (ds_cons (de_int 16) ds_nil)))) (DEg.bor (de_int 0)))) (de_call0 dv_nil (ds_hand (i := 0) (ds_cons (de_int 8) ds_nil))) (dg_op od_add (DEg.bor (de_int 8)) (DEg.bor (de_call0 dv_nil (ds_hand (i := 0) (ds_cons (de_int 3) ds_nil)))))) (dg_name 1))
    (dst_of S_law_walked_r2_eq
    (dst_seq (dst_asg (DEg.cln (df_lst da_nil)) (dg_name 2))
    (dst_of S_law_walked_r3_eq
    (dst_seq (dst_for (di_rng1 (db_cons (DEg.bor (dg_op od_add (db_var 1) (DEg.bor (de_int 1)))) db_nil)) (dg_name 3)
    (dst_of S_law_walked_b4_eq
    (dst_asg (dg_op od_add (db_var 2) (DEg.bor (DEg.cln (df_lst (da_cons (dg_cb cg_len (db_cons (DEg.bor (DEg.cln (df_listG dv_nil (ds_cons (de_make0 dv_nil (ds_cons (de_var 1) (ds_cons (dg_op od_add (db_var 1) (DEg.bor (de_int 1))) (ds_cons (de_var 3) ds_nil)))) ds_nil)))) db_nil)) da_nil))))) (dg_name 2))))
    (dst_of S_law_walked_r5_eq
    (dst_seq (dst_if (dt_or (dt_test (dg_op od_ne (db_var 2) (DEg.bor (de_call0 dv_nil (ds_cons (de_var 1) (ds_cons (dg_op od_add (db_var 1) (DEg.bor (de_int 1))) ds_nil)))))) (dt_or (dt_test (dg_op od_ne (DEg.bor (dg_cb cg_sum (db_cons (db_var 2) db_nil))) (DEg.bor (de_call0 dv_nil (ds_cons (de_int 2) (ds_cons (de_var 1) ds_nil)))))) (dt_not (dt_tru (DEg.bor (de_call0 dv_nil (ds_cons (de_call0 dv_nil (ds_cons (de_var 1) ds_nil)) (ds_cons (de_var 2) ds_nil))))))))
    (dst_ret (de_bl false))
    dst_next)
    (dst_of S_law_walked_r7_eq
    (dst_seq (dst_if (dt_not (dt_tru (DEg.bor (de_call0 dv_nil (ds_cons (de_call0 dv_nil (ds_cons (de_var 1) ds_nil)) (ds_cons (DEg.cln (df_lst (da_cons (dg_op od_ix (db_var 2) (DEg.bor (de_int 0))) (da_cons (dg_op od_ix (db_var 2) (DEg.bor (dg_cb cg_min2 (db_cons (DEg.bor (de_int 1)) (db_cons (db_var 1) db_nil))))) da_nil)))) ds_nil))))))
    (dst_ret (de_bl false))
    dst_next)
    (dst_of S_law_walked_r9_eq
    (dst_seq (dst_if (dt_or (dt_test (dg_op od_ne (DEg.bor (dg_cb cg_maxL (db_cons (db_var 2) db_nil))) (DEg.bor (dg_op od_ix (db_var 2) (DEg.bor (de_int 0)))))) (dt_test (dg_op od_ne (DEg.bor (dg_cb cg_minL (db_cons (db_var 2) db_nil))) (DEg.bor (dg_op od_ix (db_var 2) (DEg.bor (dg_cb cg_min2 (db_cons (DEg.bor (de_int 1)) (db_cons (db_var 1) db_nil)))))))))
    (dst_ret (de_bl false))
    dst_next)
    (dst_of S_law_walked_r11_eq
    (dst_seq (dst_for (di_rng1 (db_cons (DEg.bor (dg_op od_add (db_var 1) (DEg.bor (de_int 1)))) db_nil)) (dg_name 4)
    (dst_of S_law_walked_b12_eq
    (dst_seq (dst_asg (de_call0 dv_nil (ds_hand (i := 0) (ds_cons (dg_op od_add (db_var 1) (DEg.bor (de_int 1))) ds_nil))) (dg_name 5))
    (dst_of S_law_walked_r13_eq
    (dst_if (dt_not (dt_tru (DEg.bor (de_call0 dv_nil (ds_cons (de_var 1) (ds_cons (de_var 4) (ds_cons (de_var 5) (ds_cons (dg_op od_ix (db_var 2) (db_var 4)) (ds_cons (dg_op od_ix (db_var 2) (db_var 5)) ds_nil)))))))))
    (dst_ret (de_bl false))
    dst_next)))))
    (dst_of S_law_walked_r15_eq
    (dst_ret (de_bl true))))))))))))))))
end Mine

namespace Mine
open PySem PySem.Spec PyProof.Rows L2
theorem ok_law {P : Program} {w : World} {K : PySem.W.Frag} {mg : Str → Option Value} {base : Heap} (T : Txt K mg) (g : Goal) : ∃ fd, FnOk P w K mg base CX0 8 (He.ga K "law") fd P_law (sp_law K) ∧ D_law K (He.ga K "law") fd := by
  obtain ⟨fd, F⟩ := T.F_law
  obtain ⟨fd_law_hand, G_law_hand, D_law_hand⟩ := ok_law_hand (P := P) (w := w) (base := base) T
  have k_law_hand := D_law_hand.kp
  have b_law_hand := bd_law_hand D_law_hand
  obtain ⟨fd_law_long, G_law_long, D_law_long⟩ := ok_law_long (P := P) (w := w) (base := base) T
  have k_law_long := D_law_long.kp
  have b_law_long := bd_law_long D_law_long
  obtain ⟨fd_law_walked, G_law_walked, D_law_walked⟩ := ok_law_walked (P := P) (w := w) (base := base) T
  have k_law_walked := D_law_walked.kp
  have b_law_walked := bd_law_walked D_law_walked
  refine ⟨fd, F.ok sc_law (fun vs H Q E h => ?_) (fun cdv A outer s H vs Q E hr h => ?_), F⟩
  · obtain ⟨a, ns, rfl, _⟩ := h
    rfl
  · refine ⟨_, PSs.nox (pss_cons (ps_set (i := 1) sc_law.nd rfl (by first | exact Or.inl rfl | exact Or.inr rfl) (pe_call G_law_hand (hr.mono (by decide)) rfl T.g__law_hand k_law_hand b_law_hand .nil pass0 (pa_cons (pv 0) pa_nil)))
    (pss_one (ps_ret (pe_and (pe_call G_law_walked (hr.mono (by decide)) rfl T.g__law_walked k_law_walked b_law_walked .nil pass0 (pa_cons (pv 1) pa_nil)) (pe_one (pe_call G_law_long (hr.mono (by decide)) rfl T.g__law_long k_law_long b_law_long .nil pass0 (pa_cons (pv 1) pa_nil))))))), ?_⟩
    exact body_law rfl h g fun H X hd => (dst_ret (de_andV (de_call0 dv_nil (ds_hand (i := 1) ds_nil)) (de_call0 dv_nil (ds_hand (i := 1) ds_nil))))
end Mine

namespace Mine
open PySem PySem.Spec PyProof.Rows L2
def q_wall : He5.DefA := ⟨fun K => (He.ga K "_wall"), "_wall", "_wall", defArgs s_wall, defBody s_wall, defScope s_wall, [], []⟩
def q_BadWord___init : He5.DefA := ⟨fun K => (He.ma K (He.ga K "BadWord") "__init__"), "__init__", "BadWord.__init__", defArgs s_BadWord___init, defBody s_BadWord___init, defScope s_BadWord___init, [], []⟩
def q_TooMany___init : He5.DefA := ⟨fun K => (He.ma K (He.ga K "TooMany") "__init__"), "__init__", "TooMany.__init__", defArgs s_TooMany___init, defBody s_TooMany___init, defScope s_TooMany___init, [], []⟩
def q_is_whole : He5.DefA := ⟨fun K => (He.ga K "is_whole"), "is_whole", "is_whole", defArgs s_is_whole, defBody s_is_whole, defScope s_is_whole, [.non, .non], []⟩
def q_check_number : He5.DefA := ⟨fun K => (He.ga K "check_number"), "check_number", "check_number", defArgs s_check_number, defBody s_check_number, defScope s_check_number, [], []⟩
def q_power_of : He5.DefA := ⟨fun K => (He.ga K "power_of"), "power_of", "power_of", defArgs s_power_of, defBody s_power_of, defScope s_power_of, [], []⟩
def q_check_word : He5.DefA := ⟨fun K => (He.ga K "check_word"), "check_word", "check_word", defArgs s_check_word, defBody s_check_word, defScope s_check_word, [.int (24)], []⟩
def q_all_words : He5.DefA := ⟨fun K => (He.ga K "all_words"), "all_words", "all_words", defArgs s_all_words, defBody s_all_words, defScope s_all_words, [], []⟩
def q_divisors_of : He5.DefA := ⟨fun K => (He.ga K "divisors_of"), "divisors_of", "divisors_of", defArgs s_divisors_of, defBody s_divisors_of, defScope s_divisors_of, [], []⟩
def q_phi_of : He5.DefA := ⟨fun K => (He.ga K "phi_of"), "phi_of", "phi_of", defArgs s_phi_of, defBody s_phi_of, defScope s_phi_of, [], []⟩
def q_primes_of : He5.DefA := ⟨fun K => (He.ga K "_primes_of"), "_primes_of", "_primes_of", defArgs s_primes_of, defBody s_primes_of, defScope s_primes_of, [], []⟩
def q_mu_of : He5.DefA := ⟨fun K => (He.ga K "mu_of"), "mu_of", "mu_of", defArgs s_mu_of, defBody s_mu_of, defScope s_mu_of, [], []⟩
def q_common_divisor : He5.DefA := ⟨fun K => (He.ga K "common_divisor"), "common_divisor", "common_divisor", defArgs s_common_divisor, defBody s_common_divisor, defScope s_common_divisor, [], []⟩
def q_odd_part : He5.DefA := ⟨fun K => (He.ga K "odd_part"), "odd_part", "odd_part", defArgs s_odd_part, defBody s_odd_part, defScope s_odd_part, [], []⟩
def q_ram_of : He5.DefA := ⟨fun K => (He.ga K "ram_of"), "ram_of", "ram_of", defArgs s_ram_of, defBody s_ram_of, defScope s_ram_of, [], []⟩
def q_size_of : He5.DefA := ⟨fun K => (He.ga K "size_of"), "size_of", "size_of", defArgs s_size_of, defBody s_size_of, defScope s_size_of, [], []⟩
def q_check_rest_sizes : He5.DefA := ⟨fun K => (He.ga K "check_rest_sizes"), "_check_rest", "_check_rest", defArgs s_check_rest_sizes, defBody s_check_rest_sizes, defScope s_check_rest_sizes, [], []⟩
def q_book_sizes : He5.DefA := ⟨fun K => (He.ga K "book_sizes"), "book_sizes", "book_sizes", defArgs s_book_sizes, defBody s_book_sizes, defScope s_book_sizes, [], []⟩
def q_extremes_of : He5.DefA := ⟨fun K => (He.ga K "extremes_of"), "extremes_of", "extremes_of", defArgs s_extremes_of, defBody s_extremes_of, defScope s_extremes_of, [], []⟩
def q_sum_of : He5.DefA := ⟨fun K => (He.ga K "_sum_of"), "_sum_of", "_sum_of", defArgs s_sum_of, defBody s_sum_of, defScope s_sum_of, [], []⟩
def q_SumBook___init : He5.DefA := ⟨fun K => (He.ma K (He.ga K "SumBook") "__init__"), "__init__", "SumBook.__init__", defArgs s_SumBook___init, defBody s_SumBook___init, defScope s_SumBook___init, [], []⟩
def q_SumBook___eq : He5.DefA := ⟨fun K => (He.ma K (He.ga K "SumBook") "__eq__"), "__eq__", "SumBook.__eq__", defArgs s_SumBook___eq, defBody s_SumBook___eq, defScope s_SumBook___eq, [], []⟩
def q_SumBook_is_full : He5.DefA := ⟨fun K => (gA K "SumBook" "is_full"), "is_full", "SumBook.is_full", defArgs s_SumBook_is_full, defBody s_SumBook_is_full, defScope s_SumBook_is_full, [], []⟩
def q_SumBook_holding : He5.DefA := ⟨fun K => (He5.wf K (He.ga K "SumBook") "staticmethod" "holding"), "holding", "SumBook.holding", defArgs s_SumBook_holding, defBody s_SumBook_holding, defScope s_SumBook_holding, [], []⟩
def q_SumBook_has : He5.DefA := ⟨fun K => (He.ma K (He.ga K "SumBook") "has"), "has", "SumBook.has", defArgs s_SumBook_has, defBody s_SumBook_has, defScope s_SumBook_has, [], []⟩
def q_SumBook_contrary : He5.DefA := ⟨fun K => (He.ma K (He.ga K "SumBook") "contrary"), "contrary", "SumBook.contrary", defArgs s_SumBook_contrary, defBody s_SumBook_contrary, defScope s_SumBook_contrary, [], []⟩
def q_SumBook_turned : He5.DefA := ⟨fun K => (He.ma K (He.ga K "SumBook") "turned"), "turned", "SumBook.turned", defArgs s_SumBook_turned, defBody s_SumBook_turned, defScope s_SumBook_turned, [], []⟩
def q_check_modulus : He5.DefA := ⟨fun K => (He.ga K "_check_modulus"), "_check_modulus", "_check_modulus", defArgs s_check_modulus, defBody s_check_modulus, defScope s_check_modulus, [], []⟩
def q_check_rest_sums : He5.DefA := ⟨fun K => (He.ga K "check_rest_sums"), "_check_rest", "_check_rest", defArgs s_check_rest_sums, defBody s_check_rest_sums, defScope s_check_rest_sums, [], []⟩
def q_sum_members : He5.DefA := ⟨fun K => (He.ga K "sum_members"), "sum_members", "sum_members", defArgs s_sum_members, defBody s_sum_members, defScope s_sum_members, [], []⟩
def q_law_hand : He5.DefA := ⟨fun K => (He.ga K "_law_hand"), "_law_hand", "_law_hand", defArgs s_law_hand, defBody s_law_hand, defScope s_law_hand, [], []⟩
def q_law_mixed : He5.DefA := ⟨fun K => (He.ga K "_law_mixed"), "_law_mixed", "_law_mixed", defArgs s_law_mixed, defBody s_law_mixed, defScope s_law_mixed, [], []⟩
def q_law_take : He5.DefA := ⟨fun K => (He.ga K "_law_take"), "_law_take", "_law_take", defArgs s_law_take, defBody s_law_take, defScope s_law_take, [], []⟩
def q_law_whole : He5.DefA := ⟨fun K => (He.ga K "_law_whole"), "_law_whole", "_law_whole", defArgs s_law_whole, defBody s_law_whole, defScope s_law_whole, [], []⟩
def q_law_power : He5.DefA := ⟨fun K => (He.ga K "_law_power"), "_law_power", "_law_power", defArgs s_law_power, defBody s_law_power, defScope s_law_power, [], []⟩
def q_law_divided : He5.DefA := ⟨fun K => (He.ga K "_law_divided"), "_law_divided", "_law_divided", defArgs s_law_divided, defBody s_law_divided, defScope s_law_divided, [], []⟩
def q_law_gcd : He5.DefA := ⟨fun K => (He.ga K "_law_gcd"), "_law_gcd", "_law_gcd", defArgs s_law_gcd, defBody s_law_gcd, defScope s_law_gcd, [], []⟩
def q_law_odd : He5.DefA := ⟨fun K => (He.ga K "_law_odd"), "_law_odd", "_law_odd", defArgs s_law_odd, defBody s_law_odd, defScope s_law_odd, [], []⟩
def q_law_counts : He5.DefA := ⟨fun K => (He.ga K "_law_counts"), "_law_counts", "_law_counts", defArgs s_law_counts, defBody s_law_counts, defScope s_law_counts, [], []⟩
def q_law_is_number : He5.DefA := ⟨fun K => (He.ga K "_law_is_number"), "_law_is_number", "_law_is_number", defArgs s_law_is_number, defBody s_law_is_number, defScope s_law_is_number, [], []⟩
def q_law_is_word : He5.DefA := ⟨fun K => (He.ga K "_law_is_word"), "_law_is_word", "_law_is_word", defArgs s_law_is_word, defBody s_law_is_word, defScope s_law_is_word, [], []⟩
def q_law_compared : He5.DefA := ⟨fun K => (He.ga K "_law_compared"), "_law_compared", "_law_compared", defArgs s_law_compared, defBody s_law_compared, defScope s_law_compared, [], []⟩
def q_law_walked : He5.DefA := ⟨fun K => (He.ga K "_law_walked"), "_law_walked", "_law_walked", defArgs s_law_walked, defBody s_law_walked, defScope s_law_walked, [], []⟩
def q_law_multiple : He5.DefA := ⟨fun K => (He.ga K "_law_multiple"), "_law_multiple", "_law_multiple", defArgs s_law_multiple, defBody s_law_multiple, defScope s_law_multiple, [], []⟩
def q_law_long : He5.DefA := ⟨fun K => (He.ga K "_law_long"), "_law_long", "_law_long", defArgs s_law_long, defBody s_law_long, defScope s_law_long, [], []⟩
def q_law : He5.DefA := ⟨fun K => (He.ga K "law"), "law", "law", defArgs s_law, defBody s_law, defScope s_law, [], []⟩
def fn : List He5.DefA := [q_wall, q_BadWord___init, q_TooMany___init, q_is_whole, q_check_number, q_power_of, q_check_word, q_all_words, q_divisors_of, q_phi_of, q_primes_of, q_mu_of, q_common_divisor, q_odd_part, q_ram_of, q_size_of, q_check_rest_sizes, q_book_sizes, q_extremes_of, q_sum_of, q_SumBook___init, q_SumBook___eq, q_SumBook_is_full, q_SumBook_holding, q_SumBook_has, q_SumBook_contrary, q_SumBook_turned, q_check_modulus, q_check_rest_sums, q_sum_members, q_law_hand, q_law_mixed, q_law_take, q_law_whole, q_law_power, q_law_divided, q_law_gcd, q_law_odd, q_law_counts, q_law_is_number, q_law_is_word, q_law_compared, q_law_walked, q_law_multiple, q_law_long, q_law]
def fa : List He.Fa := [.free "isinstance", .free "bool", .free "int", .glo "is_whole", .glo "BadNumber", .exc "BadNumber", .free "range", .free "len", .free "tuple", .free "list", .glo "BadWord", .free "enumerate", .glo "check_number", .int "MOST_DIVIDED" 2000, .glo "_primes_of", .free "set", .glo "phi_of", .glo "mu_of", .int "MOST_LENGTH" 200, .glo "check_rest_sizes", .free "sum", .glo "divisors_of", .glo "ram_of", .glo "BadRest", .exc "BadRest", .int "MOST_TABLED" 60, .glo "size_of", .free "min", .int "MOST_HERE" 200, .glo "_check_modulus", .glo "check_rest_sums", .glo "SumBook", .glo "_wall", .glo "check_word", .glo "_sum_of", .int "MOST_MODULUS" 1000000, .glo "BadModulus", .exc "BadModulus", .glo "all_words", .int "MOST_LISTED" 14, .glo "TooMany", .glo "power_of", .free "abs", .glo "_law_mixed", .glo "_law_is_number", .glo "odd_part", .glo "common_divisor", .glo "_law_odd", .glo "_law_gcd", .glo "_law_take", .glo "sum_members", .mkr "SumBook", .glo "_law_is_word", .glo "book_sizes", .glo "_law_power", .glo "_law_counts", .glo "extremes_of", .free "max", .glo "_law_compared", .glo "_law_divided", .glo "_law_multiple", .glo "_law_hand", .glo "_law_long", .glo "_law_walked", .cls "SumBook", .noat "SumBook" "length", .noat "SumBook" "modulus", .noat "SumBook" "rest", .glo "law"]
def ex (K : PySem.W.Frag) : Bool := (fexB K "BadWord" && (He.eqO (PySem.W.findIn K (.ref (He.ga K "BadWord")) "index") (some none) && (fexB K "TooMany" && (He.eqO (PySem.W.findIn K (.ref (He.ga K "TooMany")) "count") (some none) && (isB "gcd" "math.gcd" K && (kinB "SumBook" K && (insB "SumBook" K && (decide (PySem.W.kitOne K (.ref (He.ga K "SumBook")) (.ref (He.ga K "SumBook")) = some true) && true))))))))
theorem txt_of {K : PySem.W.Frag} {h : Heap} {mg : Str → Option Value} (X : K.In h) (G : h.Ns mainGlobals mg) (c : He5.SaysA fa fn K) (E : ex K = true) : Txt K mg := by
  obtain ⟨E0, E⟩ := He.ba E
  obtain ⟨E1, E⟩ := He.ba E
  obtain ⟨E2, E⟩ := He.ba E
  obtain ⟨E3, E⟩ := He.ba E
  obtain ⟨E4, E⟩ := He.ba E
  obtain ⟨E5, E⟩ := He.ba E
  obtain ⟨E6, E⟩ := He.ba E
  obtain ⟨E7, E⟩ := He.ba E
  exact {
    x_BadWord := fexB_ok E0,
    n_BadWord_is_index := He.eqO_ok E1,
    x_TooMany := fexB_ok E2,
    n_TooMany_is_count := He.eqO_ok E3,
    z_isinstance := He.free_ok X G (c.fact 0 (f := .free "isinstance") rfl),
    z_bool := He.free_ok X G (c.fact 1 (f := .free "bool") rfl),
    z_int := He.free_ok X G (c.fact 2 (f := .free "int") rfl),
    g_is_whole := He.glo_ok X G (c.fact 3 (f := .glo "is_whole") rfl),
    g_BadNumber := He.glo_ok X G (c.fact 4 (f := .glo "BadNumber") rfl),
    e_BadNumber := own_of (c.fact 5 (f := .exc "BadNumber") rfl),
    z_range := He.free_ok X G (c.fact 6 (f := .free "range") rfl),
    z_len := He.free_ok X G (c.fact 7 (f := .free "len") rfl),
    z_tuple := He.free_ok X G (c.fact 8 (f := .free "tuple") rfl),
    z_list := He.free_ok X G (c.fact 9 (f := .free "list") rfl),
    g_BadWord := He.glo_ok X G (c.fact 10 (f := .glo "BadWord") rfl),
    z_enumerate := He.free_ok X G (c.fact 11 (f := .free "enumerate") rfl),
    g_check_number := He.glo_ok X G (c.fact 12 (f := .glo "check_number") rfl),
    c_MOST_DIVIDED := He.int_ok X G (c.fact 13 (f := .int "MOST_DIVIDED" 2000) rfl),
    g__primes_of := He.glo_ok X G (c.fact 14 (f := .glo "_primes_of") rfl),
    z_set := He.free_ok X G (c.fact 15 (f := .free "set") rfl),
    i_gcd := isB_ok X G E4,
    g_phi_of := He.glo_ok X G (c.fact 16 (f := .glo "phi_of") rfl),
    g_mu_of := He.glo_ok X G (c.fact 17 (f := .glo "mu_of") rfl),
    c_MOST_LENGTH := He.int_ok X G (c.fact 18 (f := .int "MOST_LENGTH" 200) rfl),
    g_check_rest_sizes := He.glo_ok X G (c.fact 19 (f := .glo "check_rest_sizes") rfl),
    z_sum := He.free_ok X G (c.fact 20 (f := .free "sum") rfl),
    g_divisors_of := He.glo_ok X G (c.fact 21 (f := .glo "divisors_of") rfl),
    g_ram_of := He.glo_ok X G (c.fact 22 (f := .glo "ram_of") rfl),
    g_BadRest := He.glo_ok X G (c.fact 23 (f := .glo "BadRest") rfl),
    e_BadRest := own_of (c.fact 24 (f := .exc "BadRest") rfl),
    c_MOST_TABLED := He.int_ok X G (c.fact 25 (f := .int "MOST_TABLED" 60) rfl),
    g_size_of := He.glo_ok X G (c.fact 26 (f := .glo "size_of") rfl),
    z_min := He.free_ok X G (c.fact 27 (f := .free "min") rfl),
    c_MOST_HERE := He.int_ok X G (c.fact 28 (f := .int "MOST_HERE" 200) rfl),
    g__check_modulus := He.glo_ok X G (c.fact 29 (f := .glo "_check_modulus") rfl),
    g_check_rest_sums := He.glo_ok X G (c.fact 30 (f := .glo "check_rest_sums") rfl),
    g_SumBook := He.glo_ok X G (c.fact 31 (f := .glo "SumBook") rfl),
    g__wall := He.glo_ok X G (c.fact 32 (f := .glo "_wall") rfl),
    g_check_word := He.glo_ok X G (c.fact 33 (f := .glo "check_word") rfl),
    g__sum_of := He.glo_ok X G (c.fact 34 (f := .glo "_sum_of") rfl),
    c_MOST_MODULUS := He.int_ok X G (c.fact 35 (f := .int "MOST_MODULUS" 1000000) rfl),
    g_BadModulus := He.glo_ok X G (c.fact 36 (f := .glo "BadModulus") rfl),
    e_BadModulus := own_of (c.fact 37 (f := .exc "BadModulus") rfl),
    g_all_words := He.glo_ok X G (c.fact 38 (f := .glo "all_words") rfl),
    c_MOST_LISTED := He.int_ok X G (c.fact 39 (f := .int "MOST_LISTED" 14) rfl),
    g_TooMany := He.glo_ok X G (c.fact 40 (f := .glo "TooMany") rfl),
    g_power_of := He.glo_ok X G (c.fact 41 (f := .glo "power_of") rfl),
    z_abs := He.free_ok X G (c.fact 42 (f := .free "abs") rfl),
    g__law_mixed := He.glo_ok X G (c.fact 43 (f := .glo "_law_mixed") rfl),
    g__law_is_number := He.glo_ok X G (c.fact 44 (f := .glo "_law_is_number") rfl),
    g_odd_part := He.glo_ok X G (c.fact 45 (f := .glo "odd_part") rfl),
    g_common_divisor := He.glo_ok X G (c.fact 46 (f := .glo "common_divisor") rfl),
    g__law_odd := He.glo_ok X G (c.fact 47 (f := .glo "_law_odd") rfl),
    g__law_gcd := He.glo_ok X G (c.fact 48 (f := .glo "_law_gcd") rfl),
    g__law_take := He.glo_ok X G (c.fact 49 (f := .glo "_law_take") rfl),
    g_sum_members := He.glo_ok X G (c.fact 50 (f := .glo "sum_members") rfl),
    r_SumBook := He.mkr_ok (c.fact 51 (f := .mkr "SumBook") rfl),
    g__law_is_word := He.glo_ok X G (c.fact 52 (f := .glo "_law_is_word") rfl),
    g_book_sizes := He.glo_ok X G (c.fact 53 (f := .glo "book_sizes") rfl),
    g__law_power := He.glo_ok X G (c.fact 54 (f := .glo "_law_power") rfl),
    g__law_counts := He.glo_ok X G (c.fact 55 (f := .glo "_law_counts") rfl),
    g_extremes_of := He.glo_ok X G (c.fact 56 (f := .glo "extremes_of") rfl),
    z_max := He.free_ok X G (c.fact 57 (f := .free "max") rfl),
    g__law_compared := He.glo_ok X G (c.fact 58 (f := .glo "_law_compared") rfl),
    g__law_divided := He.glo_ok X G (c.fact 59 (f := .glo "_law_divided") rfl),
    g__law_multiple := He.glo_ok X G (c.fact 60 (f := .glo "_law_multiple") rfl),
    g__law_hand := He.glo_ok X G (c.fact 61 (f := .glo "_law_hand") rfl),
    g__law_long := He.glo_ok X G (c.fact 62 (f := .glo "_law_long") rfl),
    g__law_walked := He.glo_ok X G (c.fact 63 (f := .glo "_law_walked") rfl),
    l_SumBook := He.cls_ok (c.fact 64 (f := .cls "SumBook") rfl),
    a_SumBook_is_length := He.noat_ok (c.fact 65 (f := .noat "SumBook" "length") rfl),
    a_SumBook_is_modulus := He.noat_ok (c.fact 66 (f := .noat "SumBook" "modulus") rfl),
    a_SumBook_is_rest := He.noat_ok (c.fact 67 (f := .noat "SumBook" "rest") rfl),
    j_SumBook := kinB_ok E5,
    o_SumBook := insB_ok E6,
    k_SumBook_is_SumBook := of_decide_eq_true E7,
    F_wall := c.def_ 0 (d := q_wall) rfl,
    F_BadWord___init := c.def_ 1 (d := q_BadWord___init) rfl,
    F_TooMany___init := c.def_ 2 (d := q_TooMany___init) rfl,
    F_is_whole := c.def_ 3 (d := q_is_whole) rfl,
    F_check_number := c.def_ 4 (d := q_check_number) rfl,
    F_power_of := c.def_ 5 (d := q_power_of) rfl,
    F_check_word := c.def_ 6 (d := q_check_word) rfl,
    F_all_words := c.def_ 7 (d := q_all_words) rfl,
    F_divisors_of := c.def_ 8 (d := q_divisors_of) rfl,
    F_phi_of := c.def_ 9 (d := q_phi_of) rfl,
    F_primes_of := c.def_ 10 (d := q_primes_of) rfl,
    F_mu_of := c.def_ 11 (d := q_mu_of) rfl,
    F_common_divisor := c.def_ 12 (d := q_common_divisor) rfl,
    F_odd_part := c.def_ 13 (d := q_odd_part) rfl,
    F_ram_of := c.def_ 14 (d := q_ram_of) rfl,
    F_size_of := c.def_ 15 (d := q_size_of) rfl,
    F_check_rest_sizes := c.def_ 16 (d := q_check_rest_sizes) rfl,
    F_book_sizes := c.def_ 17 (d := q_book_sizes) rfl,
    F_extremes_of := c.def_ 18 (d := q_extremes_of) rfl,
    F_sum_of := c.def_ 19 (d := q_sum_of) rfl,
    F_SumBook___init := c.def_ 20 (d := q_SumBook___init) rfl,
    F_SumBook___eq := c.def_ 21 (d := q_SumBook___eq) rfl,
    F_SumBook_is_full := c.def_ 22 (d := q_SumBook_is_full) rfl,
    F_SumBook_holding := c.def_ 23 (d := q_SumBook_holding) rfl,
    F_SumBook_has := c.def_ 24 (d := q_SumBook_has) rfl,
    F_SumBook_contrary := c.def_ 25 (d := q_SumBook_contrary) rfl,
    F_SumBook_turned := c.def_ 26 (d := q_SumBook_turned) rfl,
    F_check_modulus := c.def_ 27 (d := q_check_modulus) rfl,
    F_check_rest_sums := c.def_ 28 (d := q_check_rest_sums) rfl,
    F_sum_members := c.def_ 29 (d := q_sum_members) rfl,
    F_law_hand := c.def_ 30 (d := q_law_hand) rfl,
    F_law_mixed := c.def_ 31 (d := q_law_mixed) rfl,
    F_law_take := c.def_ 32 (d := q_law_take) rfl,
    F_law_whole := c.def_ 33 (d := q_law_whole) rfl,
    F_law_power := c.def_ 34 (d := q_law_power) rfl,
    F_law_divided := c.def_ 35 (d := q_law_divided) rfl,
    F_law_gcd := c.def_ 36 (d := q_law_gcd) rfl,
    F_law_odd := c.def_ 37 (d := q_law_odd) rfl,
    F_law_counts := c.def_ 38 (d := q_law_counts) rfl,
    F_law_is_number := c.def_ 39 (d := q_law_is_number) rfl,
    F_law_is_word := c.def_ 40 (d := q_law_is_word) rfl,
    F_law_compared := c.def_ 41 (d := q_law_compared) rfl,
    F_law_walked := c.def_ 42 (d := q_law_walked) rfl,
    F_law_multiple := c.def_ 43 (d := q_law_multiple) rfl,
    F_law_long := c.def_ 44 (d := q_law_long) rfl,
    F_law := c.def_ 45 (d := q_law) rfl }
def loose0 : List Str := ["_wall", "PlaceError", "BadNumber", "BadWord", "TooMany", "BadModulus", "BadRest", "is_whole", "check_number", "power_of", "check_word", "all_words", "MOST_DIVIDED", "divisors_of", "phi_of", "_primes_of", "mu_of", "common_divisor", "odd_part", "ram_of", "MOST_LENGTH", "MOST_TABLED", "size_of", "_check_rest", "check_rest_sizes", "book_sizes", "extremes_of", "MOST_HERE", "MOST_MODULUS", "MOST_LISTED"]
def loose1 : List Str := ["_sum_of", "SumBook", "_check_modulus", "check_rest_sums", "sum_members", "_law_hand", "_law_mixed", "_law_take", "_law_whole", "_law_power", "_law_divided", "_law_gcd", "_law_odd", "_law_counts", "_law_is_number", "_law_is_word", "_law_compared", "_law_walked", "_law_multiple", "_law_long"]
def loose : List Str := loose0 ++ loose1
abbrev R : PySem.W.OpenRow := PySem.W.OpenLaw.row PySem.Challenge.rw_lostplaces_k48_whole_greatest_and_least
abbrev hk : PySem.W.Hook := hookN 5 fa fn ex
def ob (s : PySem.W.SharedT) : He.AlD × Bool := obsN 5 fa fn ex (HandSHeadRun.getT s)
theorem ob_eq (s : PySem.W.SharedT) : ob s = hk.obs s.abs := obsN_eq (HandSHeadRun.getT_eq s)
theorem run (w : World) : HandSHeadRun.RunEqI R (PySem.W.view R.prog [0, 58]) hk ob 20000 loose w := by
  unfold HandSHeadRun.RunEqI
  kernel_rfl
end Mine
namespace Mine
open PySem PySem.W PySem.Calls PyProof.Rows HandSHeadRun
abbrev rr := OpenLaw.row PySem.Challenge.rw_lostplaces_k48_whole_greatest_and_least
abbrev qq := view (OpenLaw.row PySem.Challenge.rw_lostplaces_k48_whole_greatest_and_least).prog [0, 58]
abbrev dd := HandSHeadRun.topDef rr.prog 58
theorem h_def : defOf qq rr.name = some (dd, []) := by kernel_rfl
theorem h_p : rr.prog.theDef rr.name = some (dd.params, dd.body, dd.scope) := by kernel_rfl
theorem h_k : kwWritten? dd.params.kwonlyargs dd.params.kw_defaults = some [] := by kernel_rfl
theorem h_wr : (!rr.writes || rr.records.isEmpty) = true := by rfl
theorem h_ws : rr.wellSaid = true := by first | assumption | decide +kernel
theorem h_ok : (chainsOk qq && opensWell rr.prog && (frees rr.toRowW && rr.within.isEmpty)) = true := by decide +kernel
theorem h_b : rr.prog.bare := ⟨rfl, rfl, rfl, rfl, rfl, by decide +kernel⟩
end Mine
open PySem PySem.W PySem.Calls PyProof.Rows
set_option maxHeartbeats 0 in
theorem PySem.Challenge.cw_lostplaces_k48_whole_greatest_and_least_holds : PySem.Challenge.rw_lostplaces_k48_whole_greatest_and_least.Holds := by
  w_on; o_law
  refine HandSHeadRun.head_imp (r := OpenLaw.row PySem.Challenge.rw_lostplaces_k48_whole_greatest_and_least) (q := view (OpenLaw.row PySem.Challenge.rw_lostplaces_k48_whole_greatest_and_least).prog [0, 58]) (H := Mine.hk) (ob := Mine.ob) (M := 20000) (loose := Mine.loose) (d := HandSHeadRun.topDef (OpenLaw.row PySem.Challenge.rw_lostplaces_k48_whole_greatest_and_least).prog 58) (kwd := []) Mine.ob_eq
    Mine.run Mine.h_def Mine.h_p Mine.h_k Mine.h_wr Mine.h_ws Mine.h_ok Mine.h_b ?hw ?hc
  case hw => w_witness2
  case hc =>
    refine L2.walk_ofE (l := PySem.Challenge.rw_lostplaces_k48_whole_greatest_and_least) (n := 63) (k := 8) (x := "_law_script") (CX := L2.CX0) rfl (by decide) (by kernel_rfl) ⟨rfl, by decide, by decide⟩ ?F (fun _ _ _ _ z => z)
    intro w mg fa h Y G hmg0
    obtain ⟨K, KX, c, E⟩ := Y
    have hmg : mg ("law" : PySem.Str) = some (.ref fa) := by
      have e : (HandSHeadRun.topDef (OpenLaw.row PySem.Challenge.rw_lostplaces_k48_whole_greatest_and_least).prog 58).name = ("law" : PySem.Str) := by kernel_rfl
      rw [← e]
      exact hmg0
    have T := Mine.txt_of KX G c E
    obtain ⟨fd0, F0⟩ := T.F_law
    have e : fa = He.ga K "law" := by
      have z := hmg.symm.trans (He.glo_ok KX G (c.fact 68 (f := .glo "law") rfl))
      cases z
      rfl
    subst e
    have b0 : ∀ (s : Shared) (v : Value), BindsTo s fd0 ⟨[v], []⟩ [("_law_script", v)] := fun s v => L2.FunD.bindsA (ps := ["_law_script"]) F0 (fun _ _ _ _ _ _ us hl => match us, hl with | [_], _ => rfl) s [v] rfl
    refine ⟨K, fd0, Mine.sp_law K, KX, b0, fun H a ns hl _ hS => ⟨a, ns, rfl, hS, hl, fun _ => rfl⟩, fun base _ _ => ?_⟩
    obtain ⟨fd1, G1, D1⟩ := Mine.ok_law (g := Mine.goal) (P := (PySem.Challenge.rw_lostplaces_k48_whole_greatest_and_least).prog) (w := w) (base := base) T
    have ef : fd1 = fd0 := Mine.funD_inj D1 F0
    exact ef ▸ G1
