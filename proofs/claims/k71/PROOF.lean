import PyProof.Rows.All
import Wide.All
import OpenK.AllK
import Wide.FinOn
import HandS.ForExc
import HandS.Comp
import HandS.Iter
import HandS.Conv
import HandS.Flow
import HandS.Walk
import HandS.TupAny
import HandS.TupSets
import HandS.SortInts
import HandS.TryMany
import HandS.IsInst
import HandS.Defaults
import HandS.Gcd
import HandS.ExcInit
import HandS.Text
import HandS.Head0
import HandS.Head1
import HandS.Head2
import HandS.Head3
import HandS.HeadEnd
import HandS.HeadHook1
import HandS.HeadHook2
import HandS.ExcField
import KE.GoesEnum
import HandS.Deep
import HandS.Strs
import HandS.Style
import HandS.ExcIs
import KE.GoesZip
import HandS.TupMul
import HandS.Zip
import HandS.CallSlots
import HandS.WordsDict
import HandS.Dict
import KE.GoesEnumKw
import HandS.Property
import HandS.HeadNt
import HandS.Small
import PySem.Challenge.RW_lostplaces_k71_whole_moduli_that_bear_on
set_option Elab.async false
set_option linter.all false
set_option maxRecDepth 100000
set_option maxHeartbeats 4000000
namespace Mine
open PySem PySem.Spec PyProof.Rows L2
/-! ### own errors -/
structure OwnExc (K : PySem.W.Frag) (C : Addr) : Prop where
  ex : PySem.W.excIn K C He.veBase "ValueError.__new__" = true
  kp : PySem.W.keepIn K (.ref C) = true
  sb : PySem.W.subIn K (.ref C) (.type "BaseException") = some true
  ty : PySem.W.typeIn K (.ref C) = some (.type "type")
theorem mk0 {X : Cx} {x : Str} {C : Addr} {p pos : Pos} (e : OwnExc X.K C) (g : X.mg x = some (.ref C)) (hg : Gl X x) (hd : (x == ("__debug__" : Str)) = false := by decide) :
    PMk X (.Call (.Name x p) [] [] pos) (fun _ H Q => Q (.ref C) none H) := by
  intro pn st sg Hh Qq J hq
  refine wpAny_Call_Name_kw (ld_glob J hg g ?_ hd)
  refine PySem.W.callWith_K0 J.kIn e.kp ?_
  have J2 := J
  obtain ⟨bm, N, nm, qn, bs, hdct, sn, sub, ab, col, dd, k0, k1, k2, k3, k5, mN, hC, hN, hni, T⟩ := exc_obj J.kIn e.ex
  obtain ⟨hp, g1, d1, tk, os⟩ := st
  exact wpAny_call_exc_subT PySem.F.excBase_ValueError T hC hN hni (fun h' a hm => mk_of J hm (raises_own e.sb e.ty) hq (J.hok.gone hm.new)) (Nat.zero_le _)
/-! ### len(set(xs)), xs whole numbers -/
def tLenD (K : PySem.W.Frag) (ta : TE) : TE := fun σ H Q => ta σ H fun x H1 => ∃ (l : Addr) (ns : List Int), x = V.ref l ∧ SqL K H1 l (ns.map V.int) ∧ ns.length ≤ 4000 ∧
  ∀ m : Nat, m = (firstMet (fun i => ns.getD i 0) ns.length).length → Q (.int m) H1
theorem firstMet_le (f : Nat → Int) : ∀ n, (firstMet f n).length ≤ n
  | 0 => Nat.le_refl _
  | n + 1 => by
    rw [firstMet_succ]
    unfold step_dedup
    have := firstMet_le f n
    split
    · omega
    · rw [List.length_append]; show _ + 1 ≤ _; omega
theorem pe_lenSetD {X : Cx} {a : Expr} {ta : TE} {p p2 q pos : Pos} (hc : X.calm = true) (hg : Gl X "len") (hm : X.mg "len" = none) (hg2 : Gl X "set") (hm2 : X.mg "set" = none) (ha : PE X a ta)
    (na : starEach [a] X.env = (false, eval a X.env) :: starEach [] X.env := by rfl) : PE X (.Call (.Name "len" p) [.Call (.Name "set" p2) [a] [] q] [] pos) (tLenD X.K ta) := by
  refine ⟨fun pn st sg Hh Qq J hq => ?_⟩
  refine Call_ (ld_blt J hg hm PySem.boot_len ?_)
  refine callWith_builtin1 (args_cons ?_ rfl) rfl rfl
  refine Call_ (ld_blt J hg2 hm2 PyProof.Rows.boot_set ?_)
  refine callWith_type1 (args_cons (thn (ha.run pn st sg Hh _ J hq) fun v s1 ⟨x, H1, J1, r1, q1⟩ => args_nil ?_) na) na rfl
  obtain ⟨l, ns, rfl, hs, hl, q1⟩ := q1
  cases r1
  obtain ⟨its, rv, pl, hz⟩ := J1.list hs
  have e1 : its.toArray.size = ns.length := by rw [List.size_toArray, ← rv.length, List.length_map]
  refine call_set_list (J1.ok.hd hc) pl.isList (ns := ns) (by simpa using rv.ints) (by rw [e1]; unfold scanBound; omega) fun h' tk hS hk => ?_
  rw [e1] at hS
  refine args_nil ?_
  obtain ⟨o, es, ep, t, ho, hex, hd, _, _, _, hf, hn⟩ := hS
  have le := firstMet_le (fun i => ns.getD i 0) ns.length
  have J2 : Inv X pn sg H1 { s1 with heap := h', toks := tk } := J1.kept fun b o e => hk b o (Heap.lt_size e) e
  exact call_len_set ho hex hd hf (by rw [hn]; omega) ⟨.int _, H1, J2.tok _, ⟨_, by rw [hn]⟩, q1 _ rfl⟩
/-! ### rules in a form that simp can read -/
section
variable {X : Cx}
theorem OpR.weak {f : Value → Value → Sem Value} {r r' : R2} (h : OpR X f r) (m : ∀ x y H Q, r' x y H Q → r x y H Q) : OpR X f r' :=
  fun pn st sg Hh x y u v Qq J rx ry hq => h pn st sg Hh x y u v Qq J rx ry (m _ _ _ _ hq)
theorem IxR.weak {r r' : R2} (h : IxR X r) (m : ∀ x y H Q, r' x y H Q → r x y H Q) : IxR X r' :=
  fun e1 e2 pn st sg Hh x y u v Qq J rx ry hq => h e1 e2 pn st sg Hh x y u v Qq J rx ry (m _ _ _ _ hq)
theorem CallR.weak {f : Value} {r r' : List V → Hp → VK → Prop} (h : CallR X f r) (m : ∀ xs H Q, r' xs H Q → r xs H Q) : CallR X f r' :=
  fun pn st sg Hh xs us Qq J rx hq => h pn st sg Hh xs us Qq J rx (m _ _ _ hq)
theorem call_intI : CallR X (.type "int") (fun xs H Q => ∃ i, xs = [.int i] ∧ Q (.int i) H) := CallR.weak call_int1 fun _ _ _ => .inl
def rIxH : R2 := fun x y H Q => ∃ p i xs v, x = .ref p ∧ y = .int i ∧ H p = some (.lst xs) ∧ atI xs i = some v ∧ Q v H
theorem ix_H : IxR X rIxH := IxR.weak ix_list fun _ _ _ _ ⟨p, i, xs, z, e1, e2, e3, e4, q⟩ => ⟨p, xs, i, z, e1, e2, .inl (.inl e3), e4, q⟩
def rIxTH : R2 := fun x y H Q => ∃ p i xs v, x = .ref p ∧ y = .int i ∧ H p = some (.tup xs) ∧ atI xs i = some v ∧ Q v H
theorem ix_TH : IxR X rIxTH := IxR.weak ix_tup fun _ _ _ _ ⟨p, i, xs, z, e1, e2, e3, e4, q⟩ => ⟨p, xs, i, z, e1, e2, .inl (.inl e3), e4, q⟩
theorem call_lenL : CallR X (.builtin "len") (fun xs H Q => ∃ p ys, xs = [.ref p] ∧ H p = some (.lst ys) ∧ Q (.int ys.length) H) :=
  CallR.weak call_len_seq fun _ _ _ ⟨p, ys, e1, e2, q⟩ => ⟨p, ys, e1, .inl (.inl (.inl e2)), q⟩
theorem call_lenT : CallR X (.builtin "len") (fun xs H Q => ∃ p ys, xs = [.ref p] ∧ H p = some (.tup ys) ∧ Q (.int ys.length) H) :=
  CallR.weak call_len_seq fun _ _ _ ⟨p, ys, e1, e2, q⟩ => ⟨p, ys, e1, .inr (.inl (.inl e2)), q⟩
end
theorem call_tupL {X : Cx} : CallR X (.type "tuple") (fun xs H Q => ∃ p ys, xs = [.ref p] ∧ H p = some (.lst ys) ∧ ∀ l, H l = none → Q (.ref l) (upd H l (.tup ys))) :=
  CallR.weak call_tuple_of fun _ _ _ ⟨p, ys, e1, e2, q⟩ => ⟨p, ys, e1, .inl ⟨.inl (.inl e2), q⟩⟩
theorem call_tupT {X : Cx} : CallR X (.type "tuple") (fun xs H Q => ∃ p ys, xs = [.ref p] ∧ H p = some (.tup ys) ∧ Q (.ref p) H) :=
  CallR.weak call_tuple_of fun _ _ _ ⟨p, ys, e1, e2, q⟩ => ⟨p, ys, e1, .inr ⟨.inl (.inl e2), q⟩⟩
theorem call_listL {X : Cx} : CallR X (.type "list") (fun xs H Q => ∃ p ys, xs = [.ref p] ∧ H p = some (.lst ys) ∧ ∀ l, H l = none → Q (.ref l) (upd H l (.lst ys))) :=
  CallR.weak call_list_of fun _ _ _ ⟨p, ys, e1, e2, q⟩ => ⟨p, ys, e1, .inl (.inl (.inl e2)), q⟩
theorem call_listT {X : Cx} : CallR X (.type "list") (fun xs H Q => ∃ p ys, xs = [.ref p] ∧ H p = some (.tup ys) ∧ ∀ l, H l = none → Q (.ref l) (upd H l (.lst ys))) :=
  CallR.weak call_list_of fun _ _ _ ⟨p, ys, e1, e2, q⟩ => ⟨p, ys, e1, .inr (.inl (.inl e2)), q⟩
theorem wipe_1 (x : Option V) (a : Option V) : wipe [a, x] [1] = [a, none] := rfl
theorem tyL {K : PySem.W.Frag} {H : Hp} {p : Addr} {xs : List V} (h : H p = some (.lst xs)) : tyV K "list" (.ref p) H := .inl ⟨rfl, xs, .inl (.inl h)⟩
/-! ### isinstance -/
/-- what the layer can tell the kind of -/
def Kd (K : PySem.W.Frag) (H : Hp) : V → Prop
  | .non => True
  | .bl _ => True
  | .int _ => True
  | .str _ => True
  | .ref a => (∃ xs, SqL K H a xs) ∨ ∃ xs, SqT K H a xs
  | _ => False
def isIntV : V → Bool
  | .int _ => true
  | .bl _ => true
  | _ => false
def isBlV : V → Bool
  | .bl _ => true
  | _ => false
def isStrV : V → Bool
  | .str _ => true
  | _ => false
theorem tyx_L {K : PySem.W.Frag} {H : Hp} {a : Addr} {xs : List V} (h : SqL K H a xs) : TyX K H (.ref a) (.type "list") := by
  rcases h with (h | ⟨o, h⟩) | ⟨o, its, n, h, c, _⟩
  · exact .base (.lst h)
  · exact .base (.frz h)
  · exact .kList h c
theorem tyx_T {K : PySem.W.Frag} {H : Hp} {a : Addr} {xs : List V} (h : SqT K H a xs) : TyX K H (.ref a) (.type "tuple") := by
  rcases h with (h | ⟨o, h⟩) | ⟨o, its, n, h, c, _⟩
  · exact .base (.tup h)
  · exact .fTuple h
  · exact .kTuple h c
theorem kb_NoneType_int : kitB "NoneType" "int" = some false := by decide +kernel
theorem kb_NoneType_bool : kitB "NoneType" "bool" = some false := by decide +kernel
theorem kb_NoneType_str : kitB "NoneType" "str" = some false := by decide +kernel
theorem kb_NoneType_tuple : kitB "NoneType" "tuple" = some false := by decide +kernel
theorem kb_NoneType_list : kitB "NoneType" "list" = some false := by decide +kernel
theorem kb_bool_int : kitB "bool" "int" = some true := by decide +kernel
theorem kb_bool_bool : kitB "bool" "bool" = some true := by decide +kernel
theorem kb_bool_str : kitB "bool" "str" = some false := by decide +kernel
theorem kb_bool_tuple : kitB "bool" "tuple" = some false := by decide +kernel
theorem kb_bool_list : kitB "bool" "list" = some false := by decide +kernel
theorem kb_int_int : kitB "int" "int" = some true := by decide +kernel
theorem kb_int_bool : kitB "int" "bool" = some false := by decide +kernel
theorem kb_int_str : kitB "int" "str" = some false := by decide +kernel
theorem kb_int_tuple : kitB "int" "tuple" = some false := by decide +kernel
theorem kb_int_list : kitB "int" "list" = some false := by decide +kernel
theorem kb_str_int : kitB "str" "int" = some false := by decide +kernel
theorem kb_str_bool : kitB "str" "bool" = some false := by decide +kernel
theorem kb_str_str : kitB "str" "str" = some true := by decide +kernel
theorem kb_str_tuple : kitB "str" "tuple" = some false := by decide +kernel
theorem kb_str_list : kitB "str" "list" = some false := by decide +kernel
theorem kb_list_int : kitB "list" "int" = some false := by decide +kernel
theorem kb_list_bool : kitB "list" "bool" = some false := by decide +kernel
theorem kb_list_str : kitB "list" "str" = some false := by decide +kernel
theorem kb_list_tuple : kitB "list" "tuple" = some false := by decide +kernel
theorem kb_list_list : kitB "list" "list" = some true := by decide +kernel
theorem kb_tuple_int : kitB "tuple" "int" = some false := by decide +kernel
theorem kb_tuple_bool : kitB "tuple" "bool" = some false := by decide +kernel
theorem kb_tuple_str : kitB "tuple" "str" = some false := by decide +kernel
theorem kb_tuple_tuple : kitB "tuple" "tuple" = some true := by decide +kernel
theorem kb_tuple_list : kitB "tuple" "list" = some false := by decide +kernel
theorem Kd.ty {K : PySem.W.Frag} {H : Hp} {x : V} (h : Kd K H x) : ∃ t : String, TyX K H x (.type t) ∧ kitB t "int" = some (isIntV x) ∧ kitB t "bool" = some (isBlV x) ∧ kitB t "str" = some (isStrV x) := by
  cases x with
  | non => exact ⟨_, .base .non, kb_NoneType_int, kb_NoneType_bool, kb_NoneType_str⟩
  | bl b => exact ⟨_, .base (.bl b), kb_bool_int, kb_bool_bool, kb_bool_str⟩
  | int i => exact ⟨_, .base (.int i), kb_int_int, kb_int_bool, kb_int_str⟩
  | str z => exact ⟨_, .base (.str z), kb_str_int, kb_str_bool, kb_str_str⟩
  | ref a =>
    rcases h with ⟨xs, h⟩ | ⟨xs, h⟩
    · exact ⟨_, tyx_L h, kb_list_int, kb_list_bool, kb_list_str⟩
    · exact ⟨_, tyx_T h, kb_tuple_int, kb_tuple_bool, kb_tuple_str⟩
  | byt b => cases h
  | flt b => cases h
  | ty n => cases h
section
variable {X : Cx}
theorem call_isInt : CallR X (.builtin "isinstance") (fun xs H Q => ∃ x, xs = [x, .ty "int"] ∧ Kd X.K H x ∧ Q (.bl (isIntV x)) H) :=
  CallR.weak call_isi fun _ _ _ ⟨x, e, k, q⟩ => by
    obtain ⟨t, ty, h, _⟩ := k.ty
    exact ⟨x, _, _, _, _, e, .ty "int", ty, kit_ty h, q⟩
theorem call_isBool : CallR X (.builtin "isinstance") (fun xs H Q => ∃ x, xs = [x, .ty "bool"] ∧ Kd X.K H x ∧ Q (.bl (isBlV x)) H) :=
  CallR.weak call_isi fun _ _ _ ⟨x, e, k, q⟩ => by
    obtain ⟨t, ty, _, h, _⟩ := k.ty
    exact ⟨x, _, _, _, _, e, .ty "bool", ty, kit_ty h, q⟩
theorem call_isStr : CallR X (.builtin "isinstance") (fun xs H Q => ∃ x, xs = [x, .ty "str"] ∧ Kd X.K H x ∧ Q (.bl (isStrV x)) H) :=
  CallR.weak call_isi fun _ _ _ ⟨x, e, k, q⟩ => by
    obtain ⟨t, ty, _, _, h⟩ := k.ty
    exact ⟨x, _, _, _, _, e, .ty "str", ty, kit_ty h, q⟩
/-- b tells whether x is a tuple -/
def IsTupV (K : PySem.W.Frag) (H : Hp) (x : V) (b : Bool) : Prop := match x with
  | .non => b = false
  | .bl _ => b = false
  | .int _ => b = false
  | .str _ => b = false
  | .ref a => (b = false ∧ ∃ xs, SqL K H a xs) ∨ (b = true ∧ ∃ xs, SqT K H a xs)
  | _ => False
theorem call_isTup : CallR X (.builtin "isinstance") (fun xs H Q => ∃ x b, xs = [x, .ty "tuple"] ∧ IsTupV X.K H x b ∧ Q (.bl b) H) :=
  CallR.weak call_isi fun _ H _ ⟨x, b, e, k, q⟩ => by
    have : ∃ t : String, TyX X.K H x (.type t) ∧ kitB t "tuple" = some b := by
      cases x with
      | non => cases k; exact ⟨_, .base .non, kb_NoneType_tuple⟩
      | bl b => cases k; exact ⟨_, .base (.bl b), kb_bool_tuple⟩
      | int i => cases k; exact ⟨_, .base (.int i), kb_int_tuple⟩
      | str z => cases k; exact ⟨_, .base (.str z), kb_str_tuple⟩
      | ref a =>
        rcases k with ⟨rfl, xs, h⟩ | ⟨rfl, xs, h⟩
        · exact ⟨_, tyx_L h, kb_list_tuple⟩
        · exact ⟨_, tyx_T h, kb_tuple_tuple⟩
      | byt b => cases k
      | flt b => cases k
      | ty n => cases k
    obtain ⟨t, ty, h⟩ := this
    exact ⟨x, _, _, _, _, e, .ty "tuple", ty, kit_ty h, q⟩
end
/-! ### loops -/
def Loop (J : It) (g : TG) (tb : TS) (D : Ends) (σ : L2.St) (H1 : Hp) : Prop := ∃ W : Nat → Nat → L2.St → Hp → Prop, (∃ m, W 0 m σ H1) ∧ ∀ i m σ H, W i m σ H →
  (J.stop i H ∧ D.nx σ H) ∨ (J.go i H ∧ ∃ N : L2.St → Hp → Prop, (∀ s' H', N s' H' → ∃ m', m' < m ∧ W (i + 1) m' s' H') ∧ ∀ x H', J.yld i H x H' → g x σ H' fun σ2 H2 => tb { D with nx := N, ct := N, bk := D.nx } σ2 H2)
theorem tFor_eq (wi : TI) (g : TG) (tb : TS) (D : Ends) (σ : L2.St) (H : Hp) : tFor wi g tb D σ H = wi σ H (fun J H1 => Loop J g tb D σ H1) := rfl
def Lc (J : It) (g : TG) (tt : TT) (te : TE) (vs : List Nat) (D : Addr) (σ : L2.St) (H1 : Hp) (Q : VK) : Prop := ∃ W : Nat → Nat → Hp → Prop, (∃ m, W 0 m (upd H1 D (.lst []))) ∧ ∀ i m H, W i m H →
  (J.stop i H ∧ Q (.ref D) H) ∨ (J.go i H ∧ ∃ Nx : Hp → Prop, (∀ H', Nx H' → ∃ m', m' < m ∧ W (i + 1) m' H') ∧ ∀ x H', J.yld i H x H' → g x (wipe σ vs) H' fun s2 H2 => wipe s2 vs = wipe σ vs ∧ tt s2 H2 fun b H3 =>
    if b = true then te s2 H3 fun y H4 => ∃ acc, H4 D = some (.lst acc) ∧ acc.length < sizeLine ∧ Nx (upd H4 D (.lst (acc ++ [y]))) else Nx H3)
theorem tLc_eq (wi : TI) (g : TG) (tt : TT) (te : TE) (vs : List Nat) (σ : L2.St) (H : Hp) (Q : VK) : tLc wi g tt te vs σ H Q = wi σ H (fun J H1 => ∀ D, H1 D = none → Lc J g tt te vs D σ H1 Q) := rfl
section
variable {J : It} {n : Nat} {G : Hp → Prop} {Y : Nat → Hp → V → Hp → Prop}
theorem Loop.by (w : Walk J n G Y) {g : TG} {tb : TS} {D : Ends} {σ : L2.St} {H : Hp} (Pv : Nat → L2.St → Hp → Prop) (h0 : Pv 0 σ H) (hG : ∀ i σ H, i ≤ n → Pv i σ H → G H)
    (hs : ∀ i x σ H H', i < n → Pv i σ H → Y i H x H' → g x σ H' fun s2 H2 => tb { D with nx := Pv (i + 1), ct := Pv (i + 1), bk := D.nx } s2 H2) (hd : ∀ σ H, Pv n σ H → D.nx σ H) : Loop J g tb D σ H := for_it w Pv h0 hG hs hd
theorem Lc.by (w : Walk J n G Y) {g : TG} {tt : TT} {te : TE} {vs : List Nat} {σ : L2.St} {H1 : Hp} {D : Addr} {Q : VK} (Pv : Nat → Hp → Prop) (h0 : Pv 0 (upd H1 D (.lst []))) (hG : ∀ i H, i ≤ n → Pv i H → G H)
    (hs : ∀ i x H H', i < n → Pv i H → Y i H x H' → g x (wipe σ vs) H' fun s2 H2 => wipe s2 vs = wipe σ vs ∧ tt s2 H2 fun b H3 =>
      if b = true then te s2 H3 fun y H4 => ∃ acc, H4 D = some (.lst acc) ∧ acc.length < sizeLine ∧ Pv (i + 1) (upd H4 D (.lst (acc ++ [y]))) else Pv (i + 1) H3) (hd : ∀ H, Pv n H → Q (.ref D) H) : Lc J g tt te vs D σ H1 Q := lc_it w Pv h0 hG hs hd
end
/-! ### while; what only grows with what is wanted -/
def Mon (t : TE) : Prop := ∀ σ H (Q Q' : VK), (∀ v H', Q v H' → Q' v H') → t σ H Q → t σ H Q'
def MonT (t : TT) : Prop := ∀ σ H (Q Q' : Bool → Hp → Prop), (∀ v H', Q v H' → Q' v H') → t σ H Q → t σ H Q'
def MonR (r : R2) : Prop := ∀ x y H (Q Q' : VK), (∀ v H', Q v H' → Q' v H') → r x y H Q → r x y H Q'
theorem mon_var (i : Nat) : Mon (tVar i) := fun _ _ _ _ m ⟨v, e, q⟩ => ⟨v, e, m _ _ q⟩
theorem mon_c (v : V) : Mon (tC v) := fun _ _ _ _ m q => m _ _ q
theorem mon_op {r : R2} {ta tb : TE} (mr : MonR r) (ma : Mon ta) (mb : Mon tb) : Mon (tOp r ta tb) := fun σ H _ _ m q => ma σ H _ _ (fun _ H1 q1 => mb σ H1 _ _ (fun _ _ q2 => mr _ _ _ _ _ m q2) q1) q
theorem mon_rI (C : Int → Int → Prop) (g : Int → Int → V) : MonR (rI C g) := fun _ _ _ _ _ m ⟨i, j, e1, e2, c, q⟩ => ⟨i, j, e1, e2, c, m _ _ q⟩
theorem mon_rI0 (g : Int → Int → V) : MonR (rI0 g) := fun _ _ _ _ _ m ⟨i, j, e1, e2, q⟩ => ⟨i, j, e1, e2, m _ _ q⟩
theorem mon_rEq : MonR rEq := fun _ _ _ _ _ m ⟨e, q⟩ => ⟨e, m _ _ q⟩
theorem mon_rNe : MonR rNe := fun _ _ _ _ _ m ⟨e, q⟩ => ⟨e, m _ _ q⟩
theorem mon_test {t : TE} (h : Mon t) : MonT (tTest t) := fun σ H _ _ m q => h σ H _ _ (fun _ _ ⟨k, e, q1⟩ => ⟨k, e, m _ _ q1⟩) q
theorem mon_and {t u : TT} (h : MonT t) (k : MonT u) : MonT (tAnd t u) := fun σ H Q Q' m q => h σ H _ _ (fun b H1 q1 => by
  cases b
  · exact m _ _ q1
  · exact k σ H1 _ _ m q1) q
theorem mon_or {t u : TT} (h : MonT t) (k : MonT u) : MonT (tOr t u) := fun σ H Q Q' m q => h σ H _ _ (fun b H1 q1 => by
  cases b
  · exact k σ H1 _ _ m q1
  · exact m _ _ q1) q
def Less (W : Nat → L2.St → Hp → Prop) (m : Nat) (σ : L2.St) (H : Hp) : Prop := ∃ m', m' < m ∧ W m' σ H
theorem While.by {c : TT} {tb : TS} {D : Ends} {σ : L2.St} {H : Hp} (mc : MonT c) (W : Nat → L2.St → Hp → Prop) (m0 : Nat) (h0 : W m0 σ H)
    (hs : ∀ m σ H, W m σ H → c σ H fun b H1 => if b = true then tb { D with nx := Less W m, ct := Less W m, bk := D.nx } σ H1 else D.nx σ H1) : tWhile c tb D σ H :=
  ⟨W, ⟨m0, h0⟩, fun m σ H hw => mc σ H _ _ (fun b H1 q => by
    cases b
    · exact q
    · exact ⟨Less W m, fun _ _ h => h, q⟩) (hs m σ H hw)⟩
/-! ### heaps -/
theorem same_upd {H : Hp} {p : Addr} {o : HO} (h : H p = none) : Same H (upd H p o) := fun b x e => by
  rw [upd_ne (ne_of_none e h)]
  exact e
theorem upd_at {H : Hp} {a b : Addr} {o : HO} : upd H a o b = if b = a then some o else H b := rfl
/-- a comprehension that changes nothing but its own list: kept i is what turn i puts into it -/
theorem Lc.gen {J : It} {n j : Nat} {G : Hp → Prop} {Y : Nat → Hp → V → Hp → Prop} {tt : TT} {te : TE} {vs : List Nat} {D : Addr} {σ : L2.St} {H1 : Hp} {Q : VK} (wk : Walk J n G Y) (it : Nat → V) (kept : Nat → Option V)
    (hY : ∀ i H x H', i < n → Y i H x H' → H' = H ∧ x = it i) (hG : ∀ H', Same H1 H' → G H') (hD : H1 D = none) (hn : n ≤ 100000) (hw : ∀ i, wipe ((wipe σ vs).set j (some (it i))) vs = wipe σ vs)
    (step : ∀ i H (Qk : VK) (Qn : Hp → Prop), i < n → Same H1 H → (∀ y H4, Same H H4 → kept i = some y → Qk y H4) → (∀ H3, Same H H3 → kept i = none → Qn H3) →
      tt ((wipe σ vs).set j (some (it i))) H fun b H3 => if b = true then te ((wipe σ vs).set j (some (it i))) H3 Qk else Qn H3)
    (fin : ∀ H', Same H1 H' → H' D = some (.lst ((List.range n).filterMap kept)) → Q (.ref D) H') : Lc J (gName j) tt te vs D σ H1 Q := by
  refine Lc.by wk (fun i H => Same H1 H ∧ H D = some (.lst ((List.range i).filterMap kept))) ⟨same_upd hD, upd_same⟩ (fun i H _ p => hG H p.1) ?_ fun H p => fin H p.1 p.2
  rintro i x H H' hi ⟨sm, hd⟩ hy
  obtain ⟨rfl, rfl⟩ := hY i H x H' hi hy
  refine ⟨hw i, step i _ _ _ hi sm (fun y H4 s4 hk => ⟨_, s4 _ _ hd, ?_, fun b o e => ?_, ?_⟩) fun H3 s3 hk => ⟨sm.trans s3, ?_⟩⟩
  · refine Nat.lt_of_le_of_lt (Nat.le_trans (List.length_filterMap_le _ _) (by rw [List.length_range]; exact Nat.le_trans (Nat.le_of_lt hi) hn)) (by rw [sizeLine_eq]; omega)
  · rw [upd_ne (ne_of_none e hD)]; exact s4 _ _ (sm _ _ e)
  · rw [upd_same, List.range_succ, List.filterMap_append, List.filterMap_cons_some hk]; rfl
  · rw [s3 _ _ hd, List.range_succ, List.filterMap_append, List.filterMap_cons_none hk]; simp
section
variable {CX : CXT} {P : Program} {w : World} {K : PySem.W.Frag} {mg : Str → Option Value} {base : Heap} {N : List Str} {q : Str} {sc : Scope} {f : Addr} {cd : Value} {A : Around} {o : List Env} {s : Shared} {H : Hp} {E : XK}
theorem cx_K : (cxOf CX P w K mg base N q sc f cd A o s H E).K = K := rfl
theorem cx_prog : (cxOf CX P w K mg base N q sc f cd A o s H E).prog = P := rfl
theorem cx_w : (cxOf CX P w K mg base N q sc f cd A o s H E).w = w := rfl
theorem cx_nK : (cxOf CX P w K mg base N q sc f cd A o s H E).nox.K = K := rfl
end
theorem rEq_int (i j : Int) (H : Hp) (Q : VK) : rEq (.int i) (.int j) H Q = Q (.bl (decide (i = j))) H := by simp [rEq, scal]
theorem rNe_int (i j : Int) (H : Hp) (Q : VK) : rNe (.int i) (.int j) H Q = Q (.bl (!decide (i = j))) H := by simp [rNe, scal]
theorem rEq_bl (i j : Bool) (H : Hp) (Q : VK) : rEq (.bl i) (.bl j) H Q = Q (.bl (decide (i = j))) H := by simp [rEq, scal]
theorem rNe_bl (i j : Bool) (H : Hp) (Q : VK) : rNe (.bl i) (.bl j) H Q = Q (.bl (!decide (i = j))) H := by simp [rNe, scal]
theorem rEq_str (i j : Str) (H : Hp) (Q : VK) : rEq (.str i) (.str j) H Q = Q (.bl (decide (i = j))) H := by simp [rEq, scal]
theorem rNe_str (i j : Str) (H : Hp) (Q : VK) : rNe (.str i) (.str j) H Q = Q (.bl (!decide (i = j))) H := by simp [rNe, scal]
theorem atI_0 {α : Type} (a : α) (r : List α) : atI (a :: r) 0 = some a := atI_nat (j := 0) rfl
theorem atI_1 {α : Type} (a b : α) (r : List α) : atI (a :: b :: r) 1 = some b := atI_nat (j := 1) rfl
theorem atI_2 {α : Type} (a b c : α) (r : List α) : atI (a :: b :: c :: r) 2 = some c := atI_nat (j := 2) rfl
theorem atI_3 {α : Type} (a b c d : α) (r : List α) : atI (a :: b :: c :: d :: r) 3 = some d := atI_nat (j := 3) rfl
theorem ixN_4_0 : ixN 4 0 = some 0 := rfl
theorem ixN_4_1 : ixN 4 1 = some 1 := rfl
theorem ixN_4_2 : ixN 4 2 = some 2 := rfl
theorem ixN_4_3 : ixN 4 3 = some 3 := rfl
theorem some_lst {a b : List V} : (some (HO.lst a) = some (HO.lst b)) = (a = b) := by simp
theorem some_tup {a b : List V} : (some (HO.tup a) = some (HO.tup b)) = (a = b) := by simp
/-! ### the head: facts by names, and one more Bool -/
def obsM (n : Nat) (fa : List He.Fa) (fn : List He.DefD) (ex : PySem.W.Frag → Bool) (g : Addr → Option Obj) : He.AlD × Bool := (He.obsDG n fa fn g, ex (He.frG g (He.asD g n)))
def hookM (n : Nat) (fa : List He.Fa) (fn : List He.DefD) (ex : PySem.W.Frag → Bool) : PySem.W.Hook where
  α := He.AlD × Bool
  obs := fun s => obsM n fa fn ex s.heap.get?
  val := fun _ => (He.valD fn, true)
  says := fun _ h => ∃ K : PySem.W.Frag, K.In h ∧ He.SaysD fa fn K ∧ ex K = true
  of := fun _ _ e => ⟨_, He.frG_in, congrArg (fun z : He.AlD × Bool => z.1) e, congrArg (fun z : He.AlD × Bool => z.2) e⟩
  keeps := fun _ _ _ ⟨K, hK, c⟩ k => ⟨K, PySem.W.Frag.In.keeps hK k, c⟩
theorem obsM_eq {n : Nat} {fa : List He.Fa} {fn : List He.DefD} {ex : PySem.W.Frag → Bool} {g : Addr → Option Obj} {s : Shared} (h : ∀ a, g a = s.heap.get? a) : obsM n fa fn ex g = (hookM n fa fn ex).obs s := by
  have e : g = s.heap.get? := funext h
  rw [e] <;> rfl
theorem own_of {K : PySem.W.Frag} {x : Str} (c : (He.Fa.exc x).ok K = true) : OwnExc K (He.ga K x) := by
  obtain ⟨a, b, d, e⟩ := He.exc_ok c
  exact ⟨a, b, d, e⟩
/-- the module's name x stands for this built-in -/
def isB (x : Str) (id : String) (K : PySem.W.Frag) : Bool := He.eqO (PySem.W.nsIn K mainGlobals x) (some (some (.builtin id)))
theorem isB_ok {K : PySem.W.Frag} {h : Heap} {mg : Str → Option Value} (X : K.In h) (G : h.Ns mainGlobals mg) {x : Str} {id : String} (c : isB x id K = true) : mg x = some (.builtin id) := PySem.W.mg_of X G (He.eqO_ok c)
end Mine

namespace Mine
open PySem PySem.Spec PyProof.Rows L2
/-! ### own errors that keep what they are given -/
def oexB (K : PySem.W.Frag) (C : Addr) : Bool := match K.lookup C with
  | some ⟨.type "type", _, .cls cd, sl⟩ => (match cd.mro, sl.toList with
    | .ref C' :: bm, [_, _, _, _, some (.builtin n), _] => C' == C && (n == "ValueError.__new__" && (!cd.hasDel && (cd.hasDict && PySem.HandSPX.refsVE bm)))
    | _, _ => false)
  | _ => false
theorem oexB_cls {K : PySem.W.Frag} {C : Addr} (q : oexB K C = true) : ∃ nm q N bs bm sn sub ab col dd k0 k1 k2 k3 k5, K.lookup C = some (excClassObj nm q C N bs bm true sn sub ab col dd k0 k1 k2 k3 k5 "ValueError.__new__") ∧ PySem.HandSPX.refsVE bm = true := by
  unfold oexB at q
  split at q
  · rename_i dd cd sl ho
    split at q
    · rename_i C' bm k0 k1 k2 k3 n k5 hm hs
      simp only [Bool.and_eq_true, beq_iff_eq, Bool.not_eq_true'] at q
      obtain ⟨rfl, rfl, hdel, hdict, hb⟩ := q
      obtain ⟨nm, bs, mro, ns, qn, hd, sn, sub, ab, col, del⟩ := cd
      dsimp only at hm hdel hdict
      subst hm hdel hdict
      obtain ⟨l⟩ := sl
      simp only at hs
      subst hs
      exact ⟨nm, qn, ns, bs, bm, sn, sub, ab, col, dd, k0, k1, k2, k3, k5, ho, hb⟩
    · cases q
  · cases q
/-- the class at C: its __init__ at fI puts what it is given into f -/
structure FldExc (K : PySem.W.Frag) (C fI : Addr) : Prop where
  o : OexC K C
  ini : PySem.W.findIn K (.ref C) "__init__" = some (some (.ref fI))
  ty : PySem.W.typeIn K (.ref fI) = some (.type "function")
  x : XfC K C
def fexB (K : PySem.W.Frag) (x : Str) : Bool := oexB K (He.ga K x) && (He.eqO (PySem.W.findIn K (.ref (He.ga K x)) "__setattr__") (some (some (.builtin "object.__setattr__"))) && (decide (PySem.W.subIn K (.ref (He.ga K x)) (.type "BaseException") = some true) &&
  (decide (PySem.W.typeIn K (.ref (He.ga K x)) = some (.type "type")) && (PySem.W.keepIn K (.ref (He.ga K x)) && (He.eqO (PySem.W.findIn K (.ref (He.ga K x)) "__init__") (some (some (.ref (He.ma K (He.ga K x) "__init__")))) &&
  (decide (PySem.W.typeIn K (.ref (He.ma K (He.ga K x) "__init__")) = some (.type "function")) && xfB K (He.ga K x)))))))
theorem fexB_ok {K : PySem.W.Frag} {x : Str} (h : fexB K x = true) : FldExc K (He.ga K x) (He.ma K (He.ga K x) "__init__") := by
  obtain ⟨a, h⟩ := He.ba h
  obtain ⟨b, h⟩ := He.ba h
  obtain ⟨c, h⟩ := He.ba h
  obtain ⟨d, h⟩ := He.ba h
  obtain ⟨e, h⟩ := He.ba h
  obtain ⟨f, h⟩ := He.ba h
  obtain ⟨g, i⟩ := He.ba h
  exact ⟨⟨oexB_cls a, He.eqO_ok b, of_decide_eq_true c, of_decide_eq_true d, e⟩, He.eqO_ok f, of_decide_eq_true g, xfB_ok i⟩
theorem PMk.asks {X : Cx} {e : Expr} {t t' : L2.St → Hp → XK → Prop} (h : PMk X e t) (m : ∀ σ H Q, t' σ H Q → t σ H Q) : PMk X e t' := fun pn st sg Hh Qq J hq => h pn st sg Hh Qq J (m _ _ _ hq)
/-- what such an __init__ does -/
def spFld (C : Addr) (f : Str) : Sp := fun vs H Q _ => ∃ (a : Addr) (v : V), vs = [.ref a, v] ∧ H a = some (exo a C none) ∧ ∀ dx, H dx = none → dx ≠ a → Q .non (upd (upd H dx (exd dx [(f, v)])) a (exo a C (some dx)))
/-- X(e): the error's own dict at d -/
def tMk1 (C : Addr) (f : Str) (te : TE) : L2.St → Hp → XK → Prop := fun σ H Q => te σ H fun v H1 => ∀ d H', Same H1 H' → H1 d = none → H' d = some (.xd [(f, v)]) → Q (.ref C) (some d) H'
theorem mk1 {X : Cx} {x f : Str} {C fI : Addr} {k : Nat} {fd : FuncData} {e : Expr} {te : TE} {p pos : Pos} {ps : List Str} (T : FldExc X.K C fI) (g : X.mg x = some (.ref C)) (F1 : FnOk X.prog X.w X.K X.mg X.base CX0 k fI fd ps (spFld C f)) (hb : Binds X.K fd ps []) (hr : Room (k + 1) X.A)
    (mt : Mon te) (he : PE X e te) (hg : Gl X x) (hd : (x == ("__debug__" : Str)) = false := by decide) (hs : starEach (e :: []) X.env = (false, eval e X.env) :: starEach [] X.env := by rfl) (hpl : (backTo pos (starEach [] X.env)).any (·.1) = false := by rfl) :
    PMk X (.Call (.Name x p) [e] [] pos) (tMk1 C f te) := by
  refine PMk.asks (pmk_oex (dvs := []) (ds := []) T.o T.ini T.ty F1 hr hb .nil (fun _ _ _ _ _ _ _ h => h.elim) hg g (pa_cons he pa_nil hs) hd hs hpl) fun σ H Q h => ?_
  refine mt σ H _ _ (fun v H1 q => ?_) h
  show [v].length ≤ 1000 ∧ ∀ a, H1 a = none → spFld C f (.ref a :: ([v] ++ [])) (upd H1 a (exo a C none)) _ _
  refine ⟨by show 1 ≤ 1000; decide, fun a ha => ⟨a, v, rfl, upd_same, fun dx hdx ne => ⟨rfl, dx, [(f, v)], upd_same, ?_, ?_, ?_⟩⟩⟩
  · rw [upd_ne ne, upd_same]
  · rw [upd_ne ne] at hdx; exact hdx
  · have h1 : H1 dx = none := by rw [upd_ne ne] at hdx; exact hdx
    refine q dx _ (fun b o eb => ?_) h1 upd_same
    have nb : b ≠ a := ne_of_none eb ha
    have nd : b ≠ dx := ne_of_none eb h1
    rw [upd_ne nd, del_ne nb, upd_ne nb, upd_ne nd, upd_ne nb]; exact eb
end Mine

namespace PySem
set_option maxHeartbeats 8000000 in
theorem mine_enum_newB {v : Value} {o : Obj} {H : Heap → Prop} (B : Begins v o H) :
    Meets (Builtin.«enumerate.__new__» ⟨[.type "enumerate", v], []⟩) (fun _ R s => H s.heap ∧
      R (.ok (.ret (.ref (s.heap.push o).objs.size))) { s with heap := (s.heap.push o).push { cls := .type "enumerate", data := .fields #[.none, .bool false, .ref s.heap.objs.size, rawInt 0, .none, .none] } }) :=
  .of_wp fun prog w A R s h => by
    obtain ⟨hp, g, d, tk, os⟩ := s; obtain ⟨h1, h⟩ := h
    have hsub := sub_enumerate
    have q1 : ∀ {A' : Around} {E : Value → Shared → Prop} {Q : Value → Shared → Prop}, Q (.ref hp.objs.size) ⟨hp.push o, g, d, tk, os⟩ → wpAny (model prog w) A' (pyIter v) Q E ⟨hp, g, d, tk, os⟩ :=
      fun q => B.iter prog w _ _ ⟨hp, g, d, tk, os⟩ _ h1 q
    wp_walk using q1
    refine wpAny_stack_any fun st => wpAny_pure ?_
    split
    · rename_i c _ _ _ _ _
      cases (c == Value.type "enumerate")
      · wp_walk using q1
        exact ⟨_, rfl, h⟩
      · wp_walk using q1
        exact ⟨_, rfl, h⟩
    · wp_walk using q1
      exact ⟨_, rfl, h⟩
section
variable {prog : Program} {w : World} {A : Around} {E : Value → Shared → Prop} {s : Shared}
theorem mine_enum_call {v : Value} {o : Obj} {H : Heap → Prop} {Q : Value → Shared → Prop} (B : Begins v o H) (h1 : H s.heap)
    (h : ∀ h', IsEnum h' (s.heap.objs.size + 1) s.heap.objs.size 0 .none → h'.get? s.heap.objs.size = some o → h'.objs.size = s.heap.objs.size + 2 →
      (∀ b o, s.heap.get? b = some o → h'.get? b = some o) → Q (.ref (s.heap.objs.size + 1)) { s with heap := h' }) :
    wpAny (model prog w) A (call (.type "enumerate") [v]) Q E s := by
  refine callType_new F.called_enumerate (by decide) (F.typeCall_enumerate_1 _) (F.newCall_enumerate_1 _) (fun obj => F.args_object_init_2 obj _) F.entry_enumerate_new
    (mine_enum_newB B) ⟨h1, ?_⟩
  have hz : (s.heap.push o).objs.size = s.heap.objs.size + 1 := Heap.size_push ..
  show _ ∧ _
  rw [hz]
  have he : IsEnum ((s.heap.push o).push { cls := .type "enumerate", data := .fields #[.none, .bool false, .ref s.heap.objs.size, rawInt 0, .none, .none] }) (s.heap.objs.size + 1) s.heap.objs.size 0 .none := by
    have := Heap.get?_push_size (s.heap.push o) (o := { cls := .type "enumerate", data := .fields #[.none, .bool false, .ref s.heap.objs.size, rawInt 0, .none, .none] }) rfl
    rw [hz] at this; exact this
  refine ⟨⟨_, he, rfl⟩, h _ he (Heap.get?_push_of_some _ (Heap.get?_push_size _ B.free)) (by rw [Heap.size_push, hz]) fun b o x => Heap.get?_push_of_some _ (Heap.get?_push_of_some _ x)⟩
end
end PySem
namespace Mine
open PySem PySem.Spec PyProof.Rows L2
/-! ### enumerate over a tuple -/
def IteT (K : PySem.W.Frag) (a : Addr) : It :=
  ⟨fun i H => ∃ (xs : List V) (x : V), SqT K H a xs ∧ xs[i]? = some x, fun i H v H' => ∃ T x, v = .ref T ∧ H T = none ∧ H' = upd H T (.tup [.int (i : Nat), x]) ∧ ∀ xs, SqT K H a xs → xs[i]? = some x, fun i H => ∃ xs : List V, SqT K H a xs ∧ xs.length ≤ i⟩
theorem turn_enumT {P : Program} {w : World} {K : PySem.W.Frag} {elts : List Expr} {kk : Nat} {tpos : Pos} (a e it : Addr) (ha : a ≠ it) (hae : e ≠ a) :
    Turn P w K (.Tuple elts kk tpos) (IteT K a) [e, it] e (fun i h => (∃ old, IsEnum h e it ((i : Nat) : Int) old) ∧ h.IsTupleIter it a i ∧ e ≠ it) where
  mem := by simp
  obj := fun i h st b hb => by
    obtain ⟨⟨old, he⟩, ⟨o, ho, hc, hd⟩, _⟩ := st
    have e' : b = e ∨ b = it := by simpa using hb
    rcases e' with z | z
    · rw [z]; exact ⟨_, he, fun v q => nomatch q⟩
    · rw [z]; exact ⟨o, ho, fun v q => by rw [hd] at q; cases q⟩
  keep := fun i h h' st k => let ⟨⟨old, he⟩, hi, hne⟩ := st; ⟨⟨old, k e (by simp) _ he⟩, hi.at fun o q => k it (by simp) o q, hne⟩
  item := by
    intro X hP hw hK hc i pins s σ H E I hf st hg
    subst hP hw hK
    obtain ⟨⟨old, he⟩, hit, hne⟩ := st
    obtain ⟨xs, x, hq, hx⟩ := hg
    obtain ⟨its, rv, p, hz⟩ := I.tuple hq
    obtain ⟨u, hu, ru⟩ := rv.get hx
    have hel : e < s.heap.objs.size := Heap.lt_size he
    have hil : it < s.heap.objs.size := by obtain ⟨_, q, _⟩ := hit; exact Heap.lt_size q
    have pt : s.heap.IsTuple a its.toArray := p
    have hlt : i < its.toArray.size := by
      have := List.getElem?_eq_some_iff.mp hu
      obtain ⟨h, _⟩ := this
      simpa using h
    refine wpAny_pyNext_enum_itemD (i := i) (Draws.tuple (A := X.A.in1) (I.ok.hd hc) it a ha its.toArray) he ⟨hit, pt⟩ hlt hne (by simp [hne, hae]) fun x' h' tk hP ho hs' hT hsz hk => ?_
    have ex : x' = u := by
      have z : its.toArray[i]? = some u := by simpa using hu
      rw [hP] at z; exact Option.some.inj z
    subst ex
    refine ⟨_, rfl, wpAny_letOwnedTupleGo_enum (s := { s with heap := h', toks := tk + 1 }) ho fun h'' he' sb => ?_⟩
    have hT2 : h''.get? s.heap.objs.size = some { cls := .type "tuple", data := .seq #[.int i tk, x'] } := (sb.2 _ (Nat.ne_of_gt hel)).trans hT
    have new : ObjOk X.prog X.w (upd H s.heap.objs.size (.tup [.int (i : Nat), x])) h'' s.heap.objs.size (.tup [.int (i : Nat), x]) :=
      ⟨by show 2 ≤ sizeLine; decide, [.int i tk, x'], .cons ⟨_, rfl⟩ (.cons ru .nil), ⟨_, hT2, rfl, _, rfl⟩⟩
    have I1 : Inv X pins σ (upd H s.heap.objs.size (.tup [.int (i : Nat), x])) { s with heap := h'', toks := tk + 1 } :=
      I.turnedNew (ch := [e, it]) (fun b ob hb q => (sb.2 b (fun z => hb (by simp [z]))).trans (hk b ob (fun z => hb (by simp [z])) (fun z => hb (by simp [z])) q)) hf (Nat.le_refl _) new
    refine ⟨.ref s.heap.objs.size, _, I1, rfl, ⟨_, x, rfl, I.hok.fresh (Nat.le_refl _), rfl, fun ys hy => by rw [I.tuple_inj hy hq]; exact hx⟩, ⟨⟨x', ?_⟩, hs'.1.at fun o q => (sb.2 it (Ne.symm hne)).trans q, hne⟩, fun b hb => ?_⟩
    · have e1 : ((i + 1 : Nat) : Int) = (i : Int) + 1 := by omega
      rw [e1]; exact he'
    · have hb' : b < s.heap.objs.size := by
        have e' : b = e ∨ b = it := by simpa using hb
        rcases e' with z | z
        · rw [z]; exact hel
        · rw [z]; exact hil
      rw [upd_ne (Nat.ne_of_lt hb')]
      exact (hf b hb).1
  done := by
    intro X hP hw hK hc i pins s σ H E I hf st hg
    subst hP hw hK
    obtain ⟨⟨old, he⟩, hit, hne⟩ := st
    obtain ⟨xs, hq, hx⟩ := hg
    obtain ⟨its, rv, p, hz⟩ := I.tuple hq
    obtain ⟨f0, f1, f2, f3, f4, f5⟩ := hf it (by simp)
    have hl := rv.length
    have pt : s.heap.IsTuple a its.toArray := p
    have hT : s.TypeIs (.ref e) "enumerate" := ⟨_, he, rfl⟩
    unfold pyNext
    refine wpAny_bind (wpAny_attempt (wpAny_callSpecial?_slot (name := Str.ofString "__next__") hT F.slot_enumerate_next
      (wpAny_call_entry F.slot_enumerate_next hT F.entry_enumerate_next ?_ (F.args_enumerate_next_1 _))))
    show wpAny _ _ (field (.ref e) 2 >>= _) _ _ _
    refine wpAny_bind (wpAny_field he rfl (x := .ref it) rfl ?_)
    refine wpAny_bind (wpAny_nextOf_tuple_end (I.ok.hd hc) hit pt (by simp; omega) fun h' x he' hx' => ?_)
    obtain ⟨o, ho, hc⟩ := hx'
    refine wpAny_bind (wpAny_isInstance (T := "StopIteration") (b := true) ⟨o, ho, hc⟩ isSubtype_stop ?_)
    exact wpAny_pure ⟨rfl, I.turned (t' := s.toks) (fun b o hb q => he' b o hb q) f0 f1 f3 f4 f5⟩
  self := fun A i s Q E st h => let ⟨⟨_, he⟩, _⟩ := st; wpAny_pyIter_enum he h
def iEnumT (K : PySem.W.Frag) (ta : TA) : TI := fun σ H R => ta σ H fun vs H1 => ∃ a xs, vs = [.ref a] ∧ SqT K H1 a xs ∧ R (IteT K a) H1
def iEnumA (K : PySem.W.Frag) (ta : TA) : TI := fun σ H R => ta σ H fun vs H1 => ∃ a xs, vs = [.ref a] ∧ ((SqL K H1 a xs ∧ R (Ite K a) H1) ∨ (SqT K H1 a xs ∧ R (IteT K a) H1))
theorem pi_enumA {X : Cx} {e : Expr} {ta : TA} {p pos tpos : Pos} {elts : List Expr} {kk : Nat} (hg : Gl X "enumerate") (hm : X.mg "enumerate" = none) (ha : PA X [e] ta) (hs : starEach [e] X.env = [(false, eval e X.env)] := by rfl) :
    PI X (.Tuple elts kk tpos) (.Call (.Name "enumerate" p) [e] [] pos) (iEnumA X.K ta) := by
  refine ⟨fun pins s σ H R I h => ?_⟩
  refine Call_ (ld_blt I hg hm boot_enumerate (PyProof.Rows.callWith_type1 (thn (ha.run pos pins s σ H _ I h) fun us s1 ⟨vs, H1, I1, r1, q1⟩ => ?_) hs rfl))
  obtain ⟨a, xs, ex, q1⟩ := q1
  subst ex
  cases r1 with
  | cons r rr =>
    cases rr
    cases r
    have fp2 : ∀ b ∈ [s1.heap.objs.size + 1, s1.heap.objs.size], FpOk X pins H1 b := fun b hb => by
      have e' : b = s1.heap.objs.size + 1 ∨ b = s1.heap.objs.size := by simpa using hb
      have hle : s1.heap.objs.size ≤ b := by
        rcases e' with z | z
        · rw [z]; exact Nat.le_add_right _ _
        · rw [z]; exact Nat.le_refl _
      exact I1.fpOk hle (I1.hok.fresh hle)
    rcases q1 with ⟨hq, q⟩ | ⟨hq, q⟩
    · obtain ⟨its, rv, p', hz⟩ := I1.list hq
      refine call_enumerate_list p'.isList fun h' he hit hsz hk => wpAny_pyIter_enum he ?_
      have I2 : Inv X pins σ H1 { s1 with heap := h' } := I1.kept (t' := s1.toks) hk
      exact ⟨s1.heap.objs.size + 1, [s1.heap.objs.size + 1, s1.heap.objs.size], _, _, H1, rfl, I2, turn_enum a (s1.heap.objs.size + 1) s1.heap.objs.size, ⟨⟨.none, he⟩, hit, Nat.succ_ne_self _⟩, fp2, q⟩
    · obtain ⟨its, rv, p', hz⟩ := I1.tuple hq
      have pt : s1.heap.IsTuple a its.toArray := p'
      have hlt : a < s1.heap.objs.size := by
        obtain ⟨o, ho, _⟩ := id pt
        exact Heap.lt_size ho
      refine mine_enum_call (begins_tuple a its.toArray) pt fun h' he hit hsz hk => wpAny_pyIter_enum he ?_
      have I2 : Inv X pins σ H1 { s1 with heap := h' } := I1.kept (t' := s1.toks) hk
      exact ⟨s1.heap.objs.size + 1, [s1.heap.objs.size + 1, s1.heap.objs.size], _, _, H1, rfl, I2, turn_enumT a (s1.heap.objs.size + 1) s1.heap.objs.size (Nat.ne_of_lt hlt) (Nat.ne_of_gt (Nat.lt_succ_of_lt hlt)), ⟨⟨.none, he⟩, ⟨_, hit, rfl, rfl⟩, Nat.succ_ne_self _⟩, fp2, q⟩
theorem walk_enumT {K : PySem.W.Frag} {a : Addr} {xs : List V} : Walk (IteT K a) xs.length (fun H => SqT K H a xs) (YPair (fun i => some (.int (i : Nat))) (fun i => xs[i]?)) := by
  refine ⟨fun i _ hi q => ⟨xs, xs[i], q, by simp [hi]⟩, fun _ q => ⟨xs, q, Nat.le_refl _⟩, fun i H v H' _ q y => ?_⟩
  obtain ⟨T, x, h1, h2, h3, h4⟩ := y
  exact ⟨T, .int (i : Nat), x, h1, h2, h3, rfl, h4 xs q⟩
/-! ### a list or a tuple -/
def iSeq (K : PySem.W.Frag) (tl : TE) : TI := fun σ H R => tl σ H fun x H1 => ∃ a xs, x = .ref a ∧ ((SqL K H1 a xs ∧ R (Itl K a) H1) ∨ (SqT K H1 a xs ∧ R (Itt K a) H1))
theorem pi_seq {X : Cx} {tg l : Expr} {tl : TE} (hl : PE X l tl) : PI X tg l (iSeq X.K tl) := by
  refine ⟨fun pins s σ H R I h => ?_⟩
  refine thn (hl.run pins s σ H _ I h) fun v s1 ⟨x, H1, I1, r1, q1⟩ => ?_
  obtain ⟨a, xs, e, q1⟩ := q1
  subst e
  cases r1
  have fp1 : ∀ b ∈ [s1.heap.objs.size], FpOk X pins H1 b := fun b hb => by
    have e : b = s1.heap.objs.size := by simpa using hb
    subst e
    exact I1.fpOk (Nat.le_refl _) (I1.hok.fresh (Nat.le_refl _))
  rcases q1 with ⟨hq, q⟩ | ⟨hq, q⟩
  · obtain ⟨its, rv, p, hz⟩ := I1.list hq
    refine wpAny_pyIter_list p.isList ?_
    exact ⟨s1.heap.objs.size, [s1.heap.objs.size], _, _, H1, rfl, I1.kept (t' := s1.toks) fun b o e => Heap.get?_push_of_some _ e, turn_list a _, ⟨_, Heap.get?_push_size _ rfl, rfl, rfl⟩, fp1, q⟩
  · obtain ⟨its, rv, p, hz⟩ := I1.tuple hq
    refine wpAny_pyIter_tuple (show s1.heap.IsTuple a its.toArray from p) ?_
    exact ⟨s1.heap.objs.size, [s1.heap.objs.size], _, _, H1, rfl, I1.kept (t' := s1.toks) fun b o e => Heap.get?_push_of_some _ e, turn_tuple a _, ⟨_, Heap.get?_push_size _ rfl, rfl, rfl⟩, fp1, q⟩
section
variable {X : Cx}
/-- b tells whether x is a list or a tuple -/
def IsSeqV (K : PySem.W.Frag) (H : Hp) (x : V) (b : Bool) : Prop := match x with
  | .non => b = false
  | .bl _ => b = false
  | .int _ => b = false
  | .str _ => b = false
  | .ref a => (b = true ∧ ∃ xs, SqL K H a xs) ∨ (b = true ∧ ∃ xs, SqT K H a xs) ∨ (b = false ∧ ∃ kvs, H a = some (.dK kvs))
  | _ => False
theorem kb_dict_int : kitB "dict" "int" = some false := by decide +kernel
theorem kb_dict_bool : kitB "dict" "bool" = some false := by decide +kernel
theorem kb_dict_str : kitB "dict" "str" = some false := by decide +kernel
theorem kb_dict_tuple : kitB "dict" "tuple" = some false := by decide +kernel
theorem kb_dict_list : kitB "dict" "list" = some false := by decide +kernel
theorem call_isSeq : CallR X (.builtin "isinstance") (fun xs H Q => ∃ x tp b, xs = [x, .ref tp] ∧ H tp = some (.tup [.ty "list", .ty "tuple"]) ∧ IsSeqV X.K H x b ∧ Q (.bl b) H) :=
  CallR.weak call_isiT fun _ H _ ⟨x, tp, b, e, ht, k, q⟩ => by
    have : ∃ t : String, TyX X.K H x (.type t) ∧ PySem.W.kitAny X.K (.type t) [.type "list", .type "tuple"] = some b := by
      have two : ∀ {t : String} {r1 r2 : Bool}, kitB t "list" = some r1 → kitB t "tuple" = some r2 → (r1 || r2) = b → PySem.W.kitAny X.K (.type t) [.type "list", .type "tuple"] = some b := fun {t r1 r2} h1 h2 h3 => by
        refine kitAny_cons (kit_ty h1) (fun e1 => kitAny_cons (kit_ty h2) (fun e2 => ?_) fun e2 => ?_) fun e1 => ?_
        · subst e1 e2; rw [← h3]; rfl
        · subst e1 e2; rw [← h3]; rfl
        · subst e1; rw [← h3]; rfl
      cases x with
      | non => cases k; exact ⟨_, .base .non, two kb_NoneType_list kb_NoneType_tuple rfl⟩
      | bl y => cases k; exact ⟨_, .base (.bl y), two kb_bool_list kb_bool_tuple rfl⟩
      | int i => cases k; exact ⟨_, .base (.int i), two kb_int_list kb_int_tuple rfl⟩
      | str z => cases k; exact ⟨_, .base (.str z), two kb_str_list kb_str_tuple rfl⟩
      | ref a =>
        rcases k with ⟨rfl, xs, h⟩ | ⟨rfl, xs, h⟩ | ⟨rfl, kvs, h⟩
        · exact ⟨_, tyx_L h, two kb_list_list kb_list_tuple rfl⟩
        · exact ⟨_, tyx_T h, two kb_tuple_list kb_tuple_tuple rfl⟩
        · exact ⟨_, .base (.dK h), two kb_dict_list kb_dict_tuple rfl⟩
      | byt b => cases k
      | flt b => cases k
      | ty n => cases k
    obtain ⟨t, ty, h⟩ := this
    exact ⟨x, tp, _, _, [.type "list", .type "tuple"], b, e, ht, .cons (.ty _) (.cons (.ty _) .nil), ty, h, q⟩
theorem call_lenA : CallR X (.builtin "len") (fun xs H Q => ∃ p ys, xs = [.ref p] ∧ (H p = some (.lst ys) ∨ H p = some (.tup ys)) ∧ Q (.int ys.length) H) :=
  CallR.weak call_len_seq fun _ _ _ ⟨p, ys, e1, e2, q⟩ => ⟨p, ys, e1, e2.elim (fun e => .inl (.inl (.inl e))) (fun e => .inr (.inl (.inl e))), q⟩
/-- tuple(x), x a list or a tuple: the tuple stands at l -/
theorem call_tupA : CallR X (.type "tuple") (fun xs H Q => ∃ p ys, xs = [.ref p] ∧ (H p = some (.lst ys) ∨ H p = some (.tup ys)) ∧ ∀ l H', Same H H' → H' l = some (.tup ys) → Q (.ref l) H') :=
  CallR.weak call_tuple_of fun _ H _ ⟨p, ys, e1, e2, q⟩ => ⟨p, ys, e1, by
    rcases e2 with e2 | e2
    · exact .inl ⟨.inl (.inl e2), fun l hl => q l _ (same_upd hl) upd_same⟩
    · exact .inr ⟨.inl (.inl e2), q p H (Same.refl H) e2⟩⟩
end
end Mine

namespace L2
open PySem PySem.Spec PyProof.Rows
section
variable {P : Program} {w : World} {A : Around} {E : Value → Shared → Prop} {s : Shared}
/-- sorted of a set of one tuple or none: nothing is compared -/
theorem mine_sorted_short {a : Addr} {L : List (Addr × List Int)} {es : Array (Int × Value)} {ep : Nat} {t : SetTable} {Q : Value → Shared → Prop} (R : SetTR P w s.heap a L es ep t) (hh : A.handled = none) (h1 : L.length ≤ 1)
    (hQ : ∀ s' p (out : Array Value) (c : Nat), (∀ b o, s.heap.get? b = some o → s'.heap.get? b = some o) → s'.gens = s.gens → s'.os = s.os → s.heap.objs.size ≤ p →
      s'.heap.get? p = some (seqObj "list" out c) → out.toList = L.map (fun q => Value.ref q.1) → Q (.ref p) s') : wpAny (model P w) A (call (.builtin "sorted") [.ref a]) Q E s := by
  obtain ⟨o, ho, hex, hd⟩ := R.ob
  have few := R.few
  have rsz := R.size
  refine Calls.call_function_entry kind_sorted plain_sorted entry_sorted (args_sorted1 _) ?_
  unfold Builtin.«sorted»
  refine wpAny_bind (m := checkCount "sorted" 1 1 _) (wpAny_pure (wpAny_bind (collect_set (A := A.in1) hh ⟨o, ho, hex.1, hd⟩ R.fits (by unfold scanBound; omega) R.tab.ris R.led fun s1 vs k1 hz g1 o1 pm => ?_)))
  rw [show es.toList.map (·.2) = L.map (fun q => Value.ref q.1) by rw [R.rows]; unfold rowsOf; rw [List.map_map]; rfl] at pm
  have short : ∀ {us : List Value}, us.Perm (L.map fun q => Value.ref q.1) → us = L.map fun q => Value.ref q.1 := fun {us} h => by
    match L, h1, h with
    | [], _, h => exact h.eq_nil
    | [x], _, h => exact List.perm_singleton.mp h
    | _ :: _ :: _, h1, _ => exact absurd h1 (by simp)
  have ev := short pm
  have hl : vs.length ≤ 1 := by rw [ev, List.length_map]; exact h1
  refine wpAny_bind (wpAny_newList ?_ (by rw [sizeLine_eq]; omega))
  have hoL : (s1.heap.push (seqObj "list" vs.toArray 0)).get? s1.heap.objs.size = some (seqObj "list" vs.toArray 0) := Heap.get?_push_size _ rfl
  refine wpAny_bind (wpAny_holding (wpAny_call_entry (s := { s1 with heap := s1.heap.push (seqObj "list" vs.toArray 0) }) slot_list_sort ⟨_, hoL, rfl⟩ entry_list_sort
    (SK.plain_sort (r := fun _ => 0) hoL (by omega) (fun h2 => absurd h2 (by omega)) fun ps out e1 pp _ => ⟨_, rfl, ?_⟩) (args_list_sort _)))
  have eo : out.toList = L.map fun q => Value.ref q.1 := by
    refine short (.trans ?_ pm)
    rw [e1]
    have z := pp.map Prod.snd
    rwa [List.map_snd_zip (Nat.le_refl _)] at z
  obtain ⟨c, hc⟩ := sortedHeap_at (vs := vs) (out := out) hoL
  refine wpAny_pure ⟨_, rfl, hQ _ s1.heap.objs.size out c (fun b u e => ?_) g1 o1 hz hc eo⟩
  have q := k1 b u e
  exact (sortedHeap_old (Nat.ne_of_lt (Heap.lt_size q)) (by rw [size_push']; exact Nat.lt_succ_of_lt (Heap.lt_size q))).trans (Heap.get?_push_of_some _ q)
end
end L2

namespace Mine
open PySem PySem.Spec PyProof.Rows L2
/-- words of whole numbers of one length, each within [0, B) -/
def Even (d : Nat) (B : Int) (ws : List (List Int)) : Prop := ∀ x ∈ ws, x.length = d ∧ TS.Bd B x
theorem few_of_nil {ws : List (List Int)} (n : ws.Nodup) (z : ∀ x ∈ ws, x.length = 0) : ws.length ≤ 1 := by
  match ws, n, z with
  | [], _, _ => exact Nat.zero_le _
  | [_], _, _ => exact Nat.le_refl _
  | x :: y :: _, n, z =>
    have a : x = [] := List.length_eq_zero_iff.mp (z x (by simp))
    have b : y = [] := List.length_eq_zero_iff.mp (z y (by simp))
    exact absurd (a.trans b.symm) (fun e => (List.nodup_cons.mp n).1 (e ▸ List.mem_cons_self))
def rSortedA (K : PySem.W.Frag) (P : Program) (w : World) : List V → Hp → VK → Prop := fun vs H Q => ∃ (a : Addr) (L : List (Addr × List Int)) (d : Nat) (B : Int), vs = [V.ref a] ∧ H a = some (SetTO P w a L) ∧ (∀ p ∈ L, SqT K H p.1 (p.2.map V.int)) ∧
  (∀ p ∈ L, p.2.length = d ∧ TS.Bd B p.2) ∧
  ∀ (L' : List (Addr × List Int)) (p : Addr), L'.Perm L → (L'.map (·.2)).Nodup → L'.length < 64 → L'.Pairwise (fun q r => TS.code B q.2 ≤ TS.code B r.2) → H p = none → Q (.ref p) (upd H p (.lst (L'.map fun q => V.ref q.1)))
theorem cr_sortedA {X : Cx} (hc : X.calm = true) : CallR X (.builtin "sorted") (rSortedA X.K X.prog X.w) := by
  intro pins s σ H vs us Q I r h
  obtain ⟨a, L, d, B, e, ha, hk, hB, q⟩ := h
  by_cases hd : 1 ≤ d
  · exact cr_sortedT hc pins s σ H vs us Q I r ⟨a, L, d, B, e, ha, hk, hd, hB, q⟩
  · subst e
    have R0 : SetT0 X.prog X.w s.heap a L := (I.hok a _ ha).1
    obtain ⟨es, ep, t, R⟩ := R0.full fun p hp => I.isT (hk p hp)
    have few : L.length ≤ 1 := by
      have := few_of_nil R.nd (fun x hx => by
        obtain ⟨p, hp, e⟩ := List.mem_map.mp hx
        rw [← e, (hB p hp).1]; omega)
      rwa [List.length_map] at this
    rw [Vals.ref1 r]
    refine mine_sorted_short R (I.ok.hd hc) few fun s' p out c k g o hp hg hout => ?_
    have hn : H p = none := I.hok.fresh hp
    have J : Inv X pins σ (upd H p (.lst (L.map fun q => V.ref q.1))) { s with heap := s'.heap, gens := s'.gens, drawn := s'.drawn, toks := s'.toks } :=
      I.call (ch := []) (Un.laid k hp hn) (I.hok.laid k hp ⟨by rw [List.length_map, sizeLine_eq]; omega, out.toList, c, by rw [hout]; exact vals_of_refs L, hg⟩) (by rw [g]; exact I.bare) (fun _ z => nomatch z)
    have es' : s' = { s with heap := s'.heap, gens := s'.gens, drawn := s'.drawn, toks := s'.toks } := by
      cases s'; cases s; cases o; rfl
    rw [es']
    refine ⟨.ref p, _, J, rfl, q L p (.refl _) R.nd (by omega) ?_ hn⟩
    match L, few with
    | [], _ => exact .nil
    | [x], _ => exact List.pairwise_singleton _ _
    | _ :: _ :: _, f => exact absurd f (by simp)
/-- at p: a list of tuples, the words ws -/
def Rows (H : Hp) (p : Addr) (ws : List (List Int)) : Prop := ∃ ks : List (Addr × List Int), H p = some (.lst (ks.map fun k => V.ref k.1)) ∧ ks.map (·.2) = ws ∧ ∀ k ∈ ks, H k.1 = some (.tup (k.2.map V.int))
theorem Rows.same {H H' : Hp} {p : Addr} {ws : List (List Int)} (r : Rows H p ws) (s : Same H H') : Rows H' p ws := by
  obtain ⟨ks, a, b, c⟩ := r
  exact ⟨ks, s _ _ a, b, fun k hk => s _ _ (c k hk)⟩
/-- the code in base B is one word's alone -/
theorem code_inj {B : Int} : ∀ {x y : List Int}, x.length = y.length → TS.Bd B x → TS.Bd B y → TS.code B x = TS.code B y → x = y
  | [], [], _, _, _, _ => rfl
  | [], _ :: _, h, _, _, _ => by simp at h
  | _ :: _, [], h, _, _, _ => by simp at h
  | p :: x, q :: y, h, hx, hy, e => by
    have hl : x.length = y.length := by simpa using h
    rcases Int.lt_trichotomy p q with c | c | c
    · have := TS.code_lt hl hx.tail hy.tail c
      omega
    · subst c
      have e2 : TS.code B x = TS.code B y := by
        have e' : p * B ^ x.length + TS.code B x = p * B ^ y.length + TS.code B y := e
        rw [hl] at e'
        omega
      rw [code_inj hl hx.tail hy.tail e2]
    · have := TS.code_lt hl.symm hy.tail hx.tail c
      omega
/-- strictly rising by the code -/
def Rising (B : Int) (ws : List (List Int)) : Prop := ws.Pairwise fun x y => TS.code B x < TS.code B y
theorem Rising.nodup {B : Int} {ws : List (List Int)} (r : Rising B ws) : ws.Nodup := List.Pairwise.imp (fun h e => by rw [e] at h; omega) r
theorem Rising.unique {B : Int} : ∀ {xs ys : List (List Int)}, Rising B xs → Rising B ys → (∀ x, x ∈ xs ↔ x ∈ ys) → xs = ys
  | [], [], _, _, _ => rfl
  | [], y :: _, _, _, h => absurd ((h y).mpr List.mem_cons_self) (by simp)
  | x :: _, [], _, _, h => absurd ((h x).mp List.mem_cons_self) (by simp)
  | x :: xs, y :: ys, hx, hy, h => by
    have hx' := List.pairwise_cons.mp hx
    have hy' := List.pairwise_cons.mp hy
    have e : x = y := by
      rcases List.mem_cons.mp ((h x).mp List.mem_cons_self) with e | m
      · exact e
      · rcases List.mem_cons.mp ((h y).mpr List.mem_cons_self) with e | m2
        · exact e.symm
        · have := hy'.1 x m
          have := hx'.1 y m2
          omega
    subst e
    rw [Rising.unique hx'.2 hy'.2 fun z => ?_]
    refine ⟨fun m => ?_, fun m => ?_⟩
    · rcases List.mem_cons.mp ((h z).mp (List.mem_cons_of_mem _ m)) with e | m2
      · have := hx'.1 z m
        rw [e] at this; omega
      · exact m2
    · rcases List.mem_cons.mp ((h z).mpr (List.mem_cons_of_mem _ m)) with e | m2
      · have := hy'.1 z m
        rw [e] at this; omega
      · exact m2
/-- sorted(set(xs)) of a list of words of one length -/
theorem sorted_set {K : PySem.W.Frag} {P : Program} {w : World} {H : Hp} {l : Addr} {ws : List (List Int)} {d : Nat} {B : Int} {Q : VK} (r : Rows H l ws) (hn : ws.length < 64) (ev : Even d B ws)
    (q : ∀ p H' ws', Same H H' → H p = none → Rows H' p ws' → (∀ x, x ∈ ws' ↔ x ∈ ws) → Rising B ws' → Q (.ref p) H') : rSetOfT K P w [V.ref l] H (fun x H1 => rSortedA K P w [x] H1 Q) := by
  obtain ⟨ks, h1, h2, h3⟩ := r
  have hl : ks.length = ws.length := by rw [← h2, List.length_map]
  refine ⟨l, ks, rfl, .inl (.inl h1), fun k hk => .inl (.inl (h3 k hk)), by omega, fun a L ha hsub hall => ?_⟩
  have sa := same_upd (o := SetTO P w a L) ha
  have hev : ∀ p ∈ L, p.2.length = d ∧ TS.Bd B p.2 := fun p hp => ev p.2 (h2 ▸ List.mem_map.mpr ⟨p, hsub p hp, rfl⟩)
  refine ⟨a, L, d, B, rfl, upd_same, fun k hk => .inl (.inl (sa _ _ (h3 k (hsub k hk)))), hev, fun L' p pm nd few pw hp => ?_⟩
  have sp := same_upd (o := HO.lst (L'.map fun q => V.ref q.1)) hp
  refine q p _ (L'.map (·.2)) (sa.trans sp) (sa.free hp) ⟨L', upd_same, rfl, fun k hk => sp _ _ (sa _ _ (h3 k (hsub k (pm.mem_iff.mp hk))))⟩ (fun x => ?_) ?_
  · constructor
    · intro hx
      obtain ⟨k, hk, e⟩ := List.mem_map.mp hx
      rw [← h2]
      exact List.mem_map.mpr ⟨k, hsub k (pm.mem_iff.mp hk), e⟩
    · intro hx
      rw [← h2] at hx
      obtain ⟨k, hk, e⟩ := List.mem_map.mp hx
      obtain ⟨k2, hk2, e2⟩ := List.mem_map.mp (hall k hk)
      exact List.mem_map.mpr ⟨k2, pm.mem_iff.mpr hk2, e2.trans e⟩
  · have pw2 : (L'.map (·.2)).Pairwise fun x y => TS.code B x ≤ TS.code B y := List.pairwise_map.mpr pw
    have mem : ∀ x ∈ L'.map (·.2), x.length = d ∧ TS.Bd B x := fun x hx => by
      obtain ⟨k, hk, e⟩ := List.mem_map.mp hx
      rw [← e]; exact hev k (pm.mem_iff.mp hk)
    refine List.Pairwise.imp_of_mem (fun {x y} hx hy h => ?_) (pw2.and nd)
    obtain ⟨le, ne⟩ := h
    rcases Int.lt_or_eq_of_le le with c | c
    · exact c
    · exact absurd (code_inj ((mem x hx).1.trans (mem y hy).1.symm) (mem x hx).2 (mem y hy).2 c) ne
end Mine

namespace Mine
open PySem PySem.Spec PyProof.Rows L2
def MonU (r : V → Hp → VK → Prop) : Prop := ∀ x H (Q Q' : VK), (∀ v H', Q v H' → Q' v H') → r x H Q → r x H Q'
theorem mon_rU (g : Int → V) : MonU (rU g) := fun _ _ _ _ m ⟨i, e, q⟩ => ⟨i, e, m _ _ q⟩
theorem mon_un {r : V → Hp → VK → Prop} {ta : TE} (mr : MonU r) (ma : Mon ta) : Mon (tUn r ta) := fun σ H _ _ m q => ma σ H _ _ (fun _ _ q2 => mr _ _ _ _ m q2) q
/-- a for over enumerate of a list or a tuple -/
theorem enumA_by {K : PySem.W.Frag} {a : Addr} {xs : List V} {g : TG} {tb : TS} {D : Ends} {σ : L2.St} {H : Hp} (hS : SqL K H a xs ∨ SqT K H a xs) (Pv : Nat → L2.St → Hp → Prop) (h0 : Pv 0 σ H) (hG : ∀ i σ' H', Pv i σ' H' → Same H H')
    (hs : ∀ i x σ' H' T, i < xs.length → Pv i σ' H' → xs[i]? = some x → H' T = none → g (.ref T) σ' (upd H' T (.tup [.int (i : Nat), x])) fun s2 H2 => tb { D with nx := Pv (i + 1), ct := Pv (i + 1), bk := D.nx } s2 H2) (hd : ∀ σ' H', Pv xs.length σ' H' → D.nx σ' H') :
    ∃ ys, (SqL K H a ys ∧ Loop (Ite K a) g tb D σ H) ∨ (SqT K H a ys ∧ Loop (IteT K a) g tb D σ H) := by
  have step : ∀ i x σ' H' H'', i < xs.length → Pv i σ' H' → YPair (fun i => some (.int (i : Nat))) (fun i => xs[i]?) i H' x H'' → g x σ' H'' fun s2 H2 => tb { D with nx := Pv (i + 1), ct := Pv (i + 1), bk := D.nx } s2 H2 := by
    intro i x σ' H' H'' hi p ⟨T, v, y, e, hT, e2, ev, ey⟩
    dsimp only at ev ey
    cases ev
    subst e e2
    exact hs i y σ' H' T hi p ey hT
  refine ⟨xs, ?_⟩
  rcases hS with hS | hS
  · refine .inl ⟨hS, Loop.by (walk_enum (xs := xs)) Pv h0 (fun i σ' H' _ p => (hG i σ' H' p).seq hS) step hd⟩
  · refine .inr ⟨hS, Loop.by (walk_enumT (xs := xs)) Pv h0 (fun i σ' H' _ p => ?_) step hd⟩
    have s := hG i σ' H' p
    rcases hS with (h | ⟨o, h⟩) | h
    · exact .inl (.inl (s _ _ h))
    · exact .inl (.inr ⟨o, s _ _ h⟩)
    · exact .inr h
end Mine

namespace L2
open PySem PySem.Spec PyProof.Rows
abbrev mineSet0 (w : World) : Obj := { cls := .type "set", dict := none, data := .set #[] 0 (.fresh 0 0 (!w.params.followText "set-order")) }
section
variable {P : Program} {w : World} {A : Around} {E : Value → Shared → Prop} {s : Shared}
/-- set(v), by what its __init__ does with the new set -/
theorem mine_call_set {v : Value} {Q : Value → Shared → Prop}
    (h : wpAny (model P w) A.in1.in1 (Builtin.«set.__init__» ⟨[.ref s.heap.objs.size, v], []⟩)
      (fun fin s' => match fin with | .done f => wants (fun r s₂ => r = .none ∧ Q (.ref s.heap.objs.size) s₂) E (.ok f) s' | .again c' => c'.quiet = true ∧ codeAny (model P w) A.in1 c' (wants (fun r s₂ => r = .none ∧ Q (.ref s.heap.objs.size) s₂) E) s')
      (fun e s' => wants (fun r s₂ => r = .none ∧ Q (.ref s.heap.objs.size) s₂) E (.error e) s') { s with heap := s.heap.push (mineSet0 w) }) : wpAny (model P w) A (call (.type "set") [v]) Q E s := by
  have ft := F.called_set
  obtain ⟨k, ks, order⟩ := ft.mro
  have m1 := ft.made
  have m2 := ft.sub
  have m3 := ft.notType
  have m4 := ft.canCreate
  have m5 := F.typeCall_set_1 v
  refine wpAny_call (codeAny_of_tree ?_)
  show wpAny _ _ (callAny (.type "set") _) _ _ _
  refine wpAny_pure ⟨Code.quiet_builtin _ (by decide +kernel), codeAny_builtin F.entry_type_call ?_⟩
  rw [Around.under_plain (weight_type_call_type "set" [v] []) rfl]
  repeat (any_goals (first | assumption | wp_step))
  refine codeAny_mono (code_set_led1 (E := E) (Q₁ := fun obj s₁ => obj = .ref s.heap.objs.size ∧ s₁ = { s with heap := s.heap.push (mineSet0 w) }) v ⟨rfl, rfl⟩) fun r s₁ hr => ?_
  cases r with
  | error e => exact hr
  | ok f =>
    cases f with
    | ret x =>
      obtain ⟨rfl, rfl⟩ := hr
      have ty : Shared.TypeIs { s with heap := s.heap.push (mineSet0 w) } (.ref s.heap.objs.size) "set" := ⟨_, Heap.get?_push_size _ rfl, rfl⟩
      have m6 := ft.init.lookup
      have m7 := ft.init.bind (.ref s.heap.objs.size)
      repeat (any_goals (first | assumption | wp_step))
      refine codeAny_mono (codeAny_call_builtin ft.init.plain F.entry_set_init (check_set_init_1 ty h)) fun r₂ s₂ hr₂ => ?_
      cases r₂ with
      | error e => exact hr₂
      | ok f₂ =>
        cases f₂ with
        | ret y =>
          obtain ⟨rfl, q⟩ := hr₂
          repeat (any_goals (first | assumption | wp_step))
        | _ => exact hr₂.elim
    | _ => exact hr.elim
/-- set(xs) of a list of whole numbers, with its table -/
theorem mine_set_ints {l : Addr} {items : Array Value} (ns : List Int) {Q : Value → Shared → Prop} (hh : A.handled = none) (hl : s.heap.IsList l items) (hit : IntsAre items.toList ns) (hb : ns.length + 1 < scanBound)
    (h : ∀ (h' : Heap) (tk c : Nat), SetR w h' s.heap.objs.size (fun j => decide (j ∈ ns)) c → c ≤ ns.length → (∀ b o, s.heap.get? b = some o → h'.get? b = some o) → Q (.ref s.heap.objs.size) { s with heap := h', toks := tk }) :
    wpAny (model P w) A (call (.type "set") [.ref l]) Q E s := by
  have len : items.size = ns.length := by rw [← hit.length, Array.length_toList]
  have lt : l < s.heap.objs.size := by obtain ⟨_, e, _⟩ := hl; exact Heap.lt_size e
  have old : ∀ b o, s.heap.get? b = some o → (s.heap.push (mineSet0 w)).get? b = some o := fun b o e => Heap.get?_push_of_some _ e
  have new : (s.heap.push (mineSet0 w)).get? s.heap.objs.size = some (mineSet0 w) := Heap.get?_push_size _ rfl
  have size1 : (s.heap.push (mineSet0 w)).objs.size = s.heap.objs.size + 1 := Heap.size_push ..
  refine mine_call_set ?_
  obtain ⟨⟨c0, d0, dt0, sl0⟩, ho, hc, n0, hd⟩ := id hl
  dsimp only at hc hd
  subst hc hd
  have ho1 := old _ _ ho
  have isL : (s.heap.push (mineSet0 w)).IsList l items := ⟨_, ho1, rfl, n0, rfl⟩
  have notS := F.sub_list_set
  have notF := F.sub_list_frozenset
  have notD : (Value.type "list" == Value.type "dict") = false := by decide
  unfold Builtin.«set.__init__» noKeywords Builtin.Frozenset.updateFrom
  generalize hPI : pyIter = PI
  wp_walk
  subst hPI
  refine wpAny_pyIter_list isL (wpAny_bind (wpAny_runValue ?_))
  refine set_update_ints (A := A.in1.in1) ((Walks.list (A := A.in1.in1.in1) (by simpa using hh) (s.heap.push (mineSet0 w)).objs.size l (by rw [size1]; exact Nat.ne_of_lt (Nat.lt_succ_of_lt lt)) items).toS) s.heap.objs.size
    (by rw [size1]; simp only [List.mem_cons, List.not_mem_nil, or_false, not_or]; exact ⟨Nat.ne_of_lt (Nat.lt_succ_self _), Nat.ne_of_gt lt⟩) ns len hb (fun i v hv => ?_) (items.size - 0) 0 _ (by omega) (Nat.zero_le _) ?_ ⟨0, Nat.le_refl 0, ?_⟩ fun s' c' hm hc' hS' => ?_
  · obtain ⟨hi, _⟩ := Array.getElem?_eq_some_iff.mp hv
    obtain ⟨t, e⟩ := hit.int_at i v (by rw [Array.getElem?_toList]; exact hv)
    exact ⟨ns.getD i 0, t, by rw [List.getD_eq_getElem?_getD, List.getElem?_eq_getElem (by omega)]; rfl, e⟩
  · exact ⟨⟨_, Heap.get?_push_size _ rfl, rfl, rfl⟩, isL.push _⟩
  · exact setR_new_at (Heap.get?_push_of_some _ new)
  · obtain ⟨h', g2, d', tk', os'⟩ := s'
    obtain rfl : g2 = s.gens := hm.gens
    obtain rfl : d' = s.drawn := hm.drawn
    obtain rfl : os' = s.os := hm.os
    refine wpAny_pure (wpAny_pure ⟨rfl, h h' tk' c' hS' (by omega) fun b o e => hm.heap b o ?_ (Heap.get?_push_of_some _ (old b o e))⟩)
    have := Heap.lt_size e
    rw [size1]; simp only [List.mem_cons, List.not_mem_nil, or_false, not_or]
    exact ⟨Nat.ne_of_lt this, Nat.ne_of_lt (Nat.lt_succ_of_lt this)⟩
/-- sum(t) of a tuple of whole numbers -/
theorem mine_sum_tup {l : Addr} {items : Array Value} {ns : List Int} {Q : Value → Shared → Prop} (hh : A.handled = none) (hl : s.heap.IsTuple l items) (hit : IntsAre items.toList ns)
    (h : ∀ h' tk t', (∀ b o, s.heap.get? b = some o → h'.get? b = some o) → Q (.int ns.sum t') { s with heap := h', toks := tk }) : wpAny (model P w) A (call (.builtin "sum") [.ref l]) Q E s := by
  have len : items.size = ns.length := by rw [← hit.length, Array.length_toList]
  have lt : l < s.heap.objs.size := by obtain ⟨_, e, _⟩ := id hl; exact Heap.lt_size e
  have pre : ∀ n, n ≤ ns.length → preSum (fun i => ns.getD i 0) n = (ns.take n).sum := by
    intro n
    induction n with
    | zero => intro _; rfl
    | succ n ih =>
      intro hn
      show preSum _ n + ns.getD n 0 = _
      rw [ih (by omega), PySem.sum_take_succ]
  refine call_sum_walkG (wpAny_pyIter_tuple hl ?_)
  refine ⟨s.heap.objs.size, _, _, _, _, _, fun i => ns.getD i 0, rfl, Walks.tuple (A := A.in1) (by simpa using hh) _ l (Nat.ne_of_lt lt) items, ⟨⟨_, Heap.get?_push_size _ rfl, rfl, rfl⟩, hl.push _⟩, fun b hb => ?_, fun i v hv => hit.int_at i v (by rw [Array.getElem?_toList]; exact hv), fun h' tk t' k => ?_⟩
  · have e : b = s.heap.objs.size ∨ b = l := by simpa using hb
    show b < (s.heap.push _).objs.size
    rw [Heap.size_push]
    rcases e with e | e
    · rw [e]; exact Nat.lt_succ_self _
    · rw [e]; exact Nat.lt_succ_of_lt lt
  · rw [len, pre _ (Nat.le_refl _), List.take_of_length_le (Nat.le_refl _)]
    exact h h' tk t' fun b o e => k b o (by simpa using Nat.ne_of_lt (Heap.lt_size e)) (Heap.get?_push_of_some _ e)
end
end L2
namespace Mine
open PySem PySem.Spec PyProof.Rows L2
theorem Room.u65 {k : Nat} {A : Around} (r : Room k A) : A.units + 65 < cLine := by have := r.un; omega
section
variable {X : Cx}
def rSetOfI (K : PySem.W.Frag) (w : World) : List V → Hp → VK → Prop := fun xs H Q => ∃ (l : Addr) (ns : List Int), xs = [V.ref l] ∧ SqL K H l (ns.map V.int) ∧ ns.length < 4000 ∧
  ∀ a c, c ≤ ns.length → H a = none → Q (.ref a) (upd H a (SetO w a (fun j => decide (j ∈ ns)) c))
theorem cr_setOfI (hc : X.calm = true) : CallR X (.type "set") (rSetOfI X.K X.w) := by
  intro pins s σ H xs us Q I r h
  obtain ⟨l, ns, rfl, hl, hb, q⟩ := h
  rw [Vals.ref1 r]
  obtain ⟨its, rv, pl, hz⟩ := I.list hl
  refine mine_set_ints ns (I.ok.hd hc) pl.isList (by simpa using Vals.ints rv) (by unfold scanBound; omega) fun h' tk c R hcn k => ?_
  exact ⟨.ref s.heap.objs.size, _, I.laid (t' := tk) k (Nat.le_refl _) (setO_new R), rfl, q _ c hcn (I.hok.fresh (Nat.le_refl _))⟩
def rSumT (K : PySem.W.Frag) : List V → Hp → VK → Prop := fun vs H Q => ∃ (a : Addr) (ns : List Int), vs = [V.ref a] ∧ SqT K H a (ns.map V.int) ∧ Q (.int ns.sum) H
theorem cr_sumT (hc : X.calm = true) : CallR X (.builtin "sum") (rSumT X.K) := by
  intro pins s σ H vs us Q I r h
  obtain ⟨a, ns, rfl, ha, q⟩ := h
  rw [Vals.ref1 r]
  obtain ⟨its, rv, pl, hz⟩ := I.tuple ha
  refine mine_sum_tup (items := its.toArray) (I.ok.hd hc) pl (by simpa using Vals.ints rv) fun h' tk t' k => ?_
  exact ⟨.int ns.sum, H, I.kept (t' := tk) k, ⟨t', rfl⟩, q⟩
end
/-- sorted(set(xs)) of whole numbers -/
theorem sorted_setI {K : PySem.W.Frag} {w : World} {H : Hp} {l : Addr} {ns : List Int} {Q : VK} (hl : SqL K H l (ns.map V.int)) (hn : ns.length < 64)
    (q : ∀ (p : Addr) (H' : Hp) (ms : List Int), Same H H' → H p = none → H' p = some (.lst (ms.map V.int)) → ms.Pairwise (· < ·) → (∀ x, x ∈ ms ↔ x ∈ ns) → Q (.ref p) H') : rSetOfI K w [V.ref l] H (fun x H1 => rSortedSet w [x] H1 Q) := by
  refine ⟨l, ns, rfl, hl, by omega, fun a c hc ha => ⟨a, _, c, rfl, upd_same, by omega, fun ms p pw mem _ hp => ?_⟩⟩
  have sa := same_upd (o := SetO w a (fun j => decide (j ∈ ns)) c) ha
  exact q p _ ms (sa.trans (same_upd hp)) (sa.free hp) upd_same pw fun x => by rw [mem x]; exact decide_eq_true_iff
end Mine

namespace Mine
open PySem PySem.Spec PyProof.Rows L2
theorem getD_at {w : List Int} {i : Nat} (h : i < w.length) : w[i]? = some (w.getD i 0) := by rw [List.getD_eq_getElem?_getD, List.getElem?_eq_getElem h]; rfl
/-- the i-th letter -/
theorem atI_w {w : List Int} {i : Nat} {z : Int} (e : z = (i : Nat)) (h : i < w.length) : atI (w.map V.int) z = some (V.int (w.getD i 0)) := by
  subst e
  exact atI_nat (by rw [List.getElem?_map, getD_at h]; rfl)
theorem range_mapI {α : Type} (w : List Int) (f : Int → α) : (List.range w.length).map (fun i => f (w.getD i 0)) = w.map f := by
  refine List.ext_getElem (by simp) fun i h1 h2 => ?_
  have hi : i < w.length := by simpa using h2
  simp only [List.getElem_map, List.getElem_range]
  rw [List.getD_eq_getElem?_getD, List.getElem?_eq_getElem hi]; rfl
theorem range_filterI (w : List Int) (p : Int → Bool) : (List.range w.length).filterMap (fun i => if p (w.getD i 0) = true then some (w.getD i 0) else none) = w.filter p := by
  have h := congrArg (List.filterMap fun x => if p x = true then some x else none) (range_mapI w id)
  rw [List.filterMap_map] at h
  have e : (fun x => if p x = true then some x else none) = Option.guard (fun x => p x = true) := by
    funext x; unfold Option.guard; simp
  rw [show (List.filterMap ((fun x => if p x = true then some x else none) ∘ fun i => id (w.getD i 0)) (List.range w.length)) = (List.range w.length).filterMap (fun i => if p (w.getD i 0) = true then some (w.getD i 0) else none) from rfl] at h
  rw [h, List.map_id, e, List.filterMap_eq_filter]
  congr 1
  funext x; simp
theorem some_map {α β : Type} (f : α → β) (l : List α) : l.filterMap (fun i => some (f i)) = l.map f := congrFun List.filterMap_eq_map' _
section
variable {j : Nat} {tt : TT} {te : TE} {vs : List Nat} {D : Addr} {σ : L2.St} {H1 : Hp} {Q : VK}
/-- a comprehension over a range -/
theorem Lc.rng {lo : Int} {n : Nat} (kept : Nat → Option V) (hD : H1 D = none) (hn : n ≤ 100000) (hw : ∀ x : V, wipe ((wipe σ vs).set j (some x)) vs = wipe σ vs)
    (step : ∀ i H (Qk : VK) (Qn : Hp → Prop), i < n → Same H1 H → (∀ y H4, Same H H4 → kept i = some y → Qk y H4) → (∀ H3, Same H H3 → kept i = none → Qn H3) →
      tt ((wipe σ vs).set j (some (.int (lo + (i : Nat))))) H fun b H3 => if b = true then te ((wipe σ vs).set j (some (.int (lo + (i : Nat))))) H3 Qk else Qn H3)
    (fin : ∀ H', Same H1 H' → H' D = some (.lst ((List.range n).filterMap kept)) → Q (.ref D) H') : Lc (Itr lo n) (gName j) tt te vs D σ H1 Q :=
  Lc.gen walk_range (fun i => V.int (lo + (i : Nat))) kept (fun _ _ _ _ _ ⟨a, b⟩ => ⟨a, b⟩) (fun _ _ => trivial) hD hn (fun i => hw _) step fin
/-- .. over a tuple of whole numbers -/
theorem Lc.ints {K : PySem.W.Frag} {a : Addr} {w : List Int} (kept : Nat → Option V) (hs : SqT K H1 a (w.map V.int)) (hD : H1 D = none) (hn : w.length ≤ 100000) (hw : ∀ x : V, wipe ((wipe σ vs).set j (some x)) vs = wipe σ vs)
    (step : ∀ i H (Qk : VK) (Qn : Hp → Prop), i < w.length → Same H1 H → (∀ y H4, Same H H4 → kept i = some y → Qk y H4) → (∀ H3, Same H H3 → kept i = none → Qn H3) →
      tt ((wipe σ vs).set j (some (.int (w.getD i 0)))) H fun b H3 => if b = true then te ((wipe σ vs).set j (some (.int (w.getD i 0)))) H3 Qk else Qn H3)
    (fin : ∀ H', Same H1 H' → H' D = some (.lst ((List.range w.length).filterMap kept)) → Q (.ref D) H') : Lc (Itt K a) (gName j) tt te vs D σ H1 Q := by
  have wk := walk_tup (K := K) (a := a) (xs := w.map V.int)
  rw [List.length_map] at wk
  refine Lc.gen wk (fun i => V.int (w.getD i 0)) kept ?_ (fun H' s => ?_) hD hn (fun i => hw _) step fin
  · rintro i H x H' hi ⟨rfl, hx⟩
    rw [List.getElem?_map, getD_at hi] at hx
    exact ⟨rfl, (Option.some.inj hx).symm⟩
  · rcases hs with (h | ⟨o, h⟩) | h
    · exact .inl (.inl (s _ _ h))
    · exact .inl (.inr ⟨o, s _ _ h⟩)
    · exact .inr h
/-- a comprehension that makes tuples of whole numbers: f i at turn i -/
theorem Lc.rows {J : It} {n : Nat} {G : Hp → Prop} {Y : Nat → Hp → V → Hp → Prop} (wk : Walk J n G Y) (it : Nat → V) (f : Nat → List Int)
    (hY : ∀ i H x H', i < n → Y i H x H' → H' = H ∧ x = it i) (hG : ∀ H', Same H1 H' → G H') (hD : H1 D = none) (hn : n ≤ 100000) (hw : ∀ x : V, wipe ((wipe σ vs).set j (some x)) vs = wipe σ vs)
    (step : ∀ i H (Qk : VK), i < n → Same H1 H → (∀ p H4, Same H H4 → H4 p = some (.tup ((f i).map V.int)) → Qk (.ref p) H4) → te ((wipe σ vs).set j (some (it i))) H Qk)
    (fin : ∀ H', Same H1 H' → Rows H' D ((List.range n).map f) → Q (.ref D) H') : Lc J (gName j) tYes te vs D σ H1 Q := by
  refine Lc.by wk (fun i H => Same H1 H ∧ Rows H D ((List.range i).map f)) ⟨same_upd hD, [], upd_same, rfl, fun k hk => by cases hk⟩ (fun i H _ p => hG H p.1) ?_ fun H p => fin H p.1 p.2
  rintro i x H H' hi ⟨sm, ks, h1, h2, h3⟩ hy
  obtain ⟨rfl, rfl⟩ := hY i H x H' hi hy
  refine ⟨hw _, ?_⟩
  unfold tYes
  dsimp only
  rw [if_pos rfl]
  refine step i H' _ hi sm fun p H4 s4 hp => ⟨_, s4 _ _ h1, ?_, fun b o e => ?_, ks ++ [(p, f i)], ?_, ?_, fun k hk => ?_⟩
  · have : ks.length = i := by have := congrArg List.length h2; simpa using this
    rw [List.length_map, this, sizeLine_eq]; omega
  · rw [upd_ne (ne_of_none e hD)]; exact s4 _ _ (sm _ _ e)
  · rw [upd_same, List.map_append]; rfl
  · rw [List.map_append, h2, List.range_succ, List.map_append]; rfl
  · have kt : H4 k.1 = some (.tup (k.2.map V.int)) := by
      rcases List.mem_append.mp hk with m | m
      · exact s4 _ _ (h3 k m)
      · have : k = (p, f i) := by simpa using m
        rw [this]; exact hp
    have ne : k.1 ≠ D := fun e => by rw [e, s4 _ _ h1] at kt; cases kt
    rw [upd_ne ne]; exact kt
/-- Lc.rows over a range -/
theorem Lc.rowsR {lo : Int} {n : Nat} (f : Nat → List Int) (hD : H1 D = none) (hn : n ≤ 100000) (hw : ∀ x : V, wipe ((wipe σ vs).set j (some x)) vs = wipe σ vs)
    (step : ∀ i H (Qk : VK), i < n → Same H1 H → (∀ p H4, Same H H4 → H4 p = some (.tup ((f i).map V.int)) → Qk (.ref p) H4) → te ((wipe σ vs).set j (some (.int (lo + (i : Nat))))) H Qk)
    (fin : ∀ H', Same H1 H' → Rows H' D ((List.range n).map f) → Q (.ref D) H') : Lc (Itr lo n) (gName j) tYes te vs D σ H1 Q :=
  Lc.rows walk_range (fun i => V.int (lo + (i : Nat))) f (fun _ _ _ _ _ ⟨a, b⟩ => ⟨a, b⟩) (fun _ _ => trivial) hD hn hw step fin
/-- [f(x) for x in rows], f a new tuple -/
theorem Lc.rowsMap {K : PySem.W.Frag} {a : Addr} {ws : List (List Int)} (f : List Int → List Int) (hr : Rows H1 a ws) (hD : H1 D = none) (hn : ws.length ≤ 100000) (hw : ∀ x : V, wipe ((wipe σ vs).set j (some x)) vs = wipe σ vs)
    (step : ∀ x q H (Qk : VK), x ∈ ws → Same H1 H → H q = some (.tup (x.map V.int)) → (∀ p H4, Same H H4 → H4 p = some (.tup ((f x).map V.int)) → Qk (.ref p) H4) → te ((wipe σ vs).set j (some (.ref q))) H Qk)
    (fin : ∀ H', Same H1 H' → Rows H' D (ws.map f) → Q (.ref D) H') : Lc (Itl K a) (gName j) tYes te vs D σ H1 Q := by
  obtain ⟨ks, h1, rfl, h3⟩ := hr
  have wk := walk_list (K := K) (a := a) (xs := ks.map fun k => V.ref k.1)
  rw [List.length_map] at wk hn
  refine Lc.rows wk (fun i => (ks.map fun k => V.ref k.1).getD i .non) (fun i => f ((ks.map (·.2)).getD i [])) ?_ (fun H' s => .inl (.inl (s _ _ h1))) hD hn hw ?_ fun H' s r => fin H' s ?_
  · rintro i H x H' hi ⟨rfl, hx⟩
    exact ⟨rfl, by rw [List.getD_eq_getElem?_getD, hx]; rfl⟩
  · intro i H Qk hi sm q
    have e1 : (ks.map fun k => V.ref k.1).getD i .non = .ref ks[i].1 := by rw [List.getD_eq_getElem?_getD, List.getElem?_map, List.getElem?_eq_getElem hi]; rfl
    have e2 : (ks.map (·.2)).getD i [] = ks[i].2 := by rw [List.getD_eq_getElem?_getD, List.getElem?_map, List.getElem?_eq_getElem hi]; rfl
    rw [e1]
    rw [e2] at q
    exact step ks[i].2 ks[i].1 H Qk (List.mem_map.mpr ⟨_, List.getElem_mem hi, rfl⟩) sm (sm _ _ (h3 _ (List.getElem_mem hi))) q
  · have e : (List.range ks.length).map (fun i => f ((ks.map (·.2)).getD i [])) = (ks.map (·.2)).map f := by
      refine List.ext_getElem (by simp) fun i g1 g2 => ?_
      have hi : i < ks.length := by simpa using g1
      simp only [List.getElem_map, List.getElem_range]
      rw [List.getD_eq_getElem?_getD, List.getElem?_map, List.getElem?_eq_getElem hi]; rfl
    rw [← e]; exact r
/-- [f(x) for x in rows], f a flat value -/
theorem Lc.rowsFlat {K : PySem.W.Frag} {a : Addr} {ws : List (List Int)} (f : List Int → V) (hr : Rows H1 a ws) (hD : H1 D = none) (hn : ws.length ≤ 100000) (hw : ∀ x : V, wipe ((wipe σ vs).set j (some x)) vs = wipe σ vs)
    (step : ∀ x q H (Qk : VK), x ∈ ws → Same H1 H → H q = some (.tup (x.map V.int)) → (∀ H4, Same H H4 → Qk (f x) H4) → te ((wipe σ vs).set j (some (.ref q))) H Qk)
    (fin : ∀ H', Same H1 H' → H' D = some (.lst (ws.map f)) → Q (.ref D) H') : Lc (Itl K a) (gName j) tYes te vs D σ H1 Q := by
  obtain ⟨ks, h1, rfl, h3⟩ := hr
  have wk := walk_list (K := K) (a := a) (xs := ks.map fun k => V.ref k.1)
  rw [List.length_map] at wk hn
  refine Lc.gen wk (fun i => (ks.map fun k => V.ref k.1).getD i .non) (fun i => some (f ((ks.map (·.2)).getD i []))) ?_ (fun H' s => .inl (.inl (s _ _ h1))) hD hn (fun i => hw _) ?_ fun H' s r => fin H' s ?_
  · rintro i H x H' hi ⟨rfl, hx⟩
    exact ⟨rfl, by rw [List.getD_eq_getElem?_getD, hx]; rfl⟩
  · intro i H Qk Qn hi sm q _
    have e1 : (ks.map fun k => V.ref k.1).getD i .non = .ref ks[i].1 := by rw [List.getD_eq_getElem?_getD, List.getElem?_map, List.getElem?_eq_getElem hi]; rfl
    have e2 : (ks.map (·.2)).getD i [] = ks[i].2 := by rw [List.getD_eq_getElem?_getD, List.getElem?_map, List.getElem?_eq_getElem hi]; rfl
    rw [e1]
    rw [e2] at q
    show if true = true then te _ H Qk else Qn H
    rw [if_pos rfl]
    exact step ks[i].2 ks[i].1 H Qk (List.mem_map.mpr ⟨_, List.getElem_mem hi, rfl⟩) sm (sm _ _ (h3 _ (List.getElem_mem hi))) fun H4 s4 => q _ H4 s4 rfl
  · rw [r, some_map]
    have e : (List.range ks.length).map (fun i => f ((ks.map (·.2)).getD i [])) = (ks.map (·.2)).map f := by
      refine List.ext_getElem (by simp) fun i g1 g2 => ?_
      have hi : i < ks.length := by simpa using g1
      simp only [List.getElem_map, List.getElem_range]
      rw [List.getD_eq_getElem?_getD, List.getElem?_map, List.getElem?_eq_getElem hi]; rfl
    rw [e]
end
/-! ### rules that name the fragment, within a comprehension -/
theorem CallR.k {X : Cx} {f : Value} {r : PySem.W.Frag → List V → Hp → VK → Prop} (h : CallR X f (r X.K)) {K : PySem.W.Frag} (e : X.K = K) : CallR X f (r K) := e ▸ h
theorem OpR.k {X : Cx} {f : Value → Value → Sem Value} {r : PySem.W.Frag → R2} (h : OpR X f (r X.K)) {K : PySem.W.Frag} (e : X.K = K) : OpR X f (r K) := e ▸ h
theorem SlR.k {X : Cx} {r : PySem.W.Frag → V → Option Int → Option Int → Hp → VK → Prop} (h : SlR X (r X.K)) {K : PySem.W.Frag} (e : X.K = K) : SlR X (r K) := e ▸ h
/-! ### pieces of tuples, tuples put together -/
theorem cut_take (xs : List V) (k : Nat) : cutV xs none (some (k : Int)) = xs.take k := by
  unfold cutV
  rw [HT.sIx_none, HT.sIx_nat, List.drop_zero, Nat.sub_zero]
  rcases Nat.le_total k xs.length with h | h
  · rw [Nat.min_eq_left h]
  · rw [Nat.min_eq_right h, List.take_of_length_le (Nat.le_refl _), List.take_of_length_le h]
theorem cut_drop (xs : List V) (k : Nat) : cutV xs (some (k : Int)) none = xs.drop k := by
  unfold cutV
  rw [HT.sIx_none, HT.sIx_nat]
  rcases Nat.le_total k xs.length with h | h
  · rw [Nat.min_eq_left h, List.take_of_length_le (by rw [List.length_drop]; omega)]
  · rw [Nat.min_eq_right h, List.drop_eq_nil_of_le (Nat.le_refl _), List.drop_eq_nil_of_le h, List.take_nil]
theorem cut_all {xs : List V} {lo hi : Option Int} (h1 : HT.sIx xs.length 0 lo = 0) (h2 : HT.sIx xs.length xs.length hi = xs.length) : cutV xs lo hi = xs := by
  unfold cutV
  rw [h1, h2, List.drop_zero, Nat.sub_zero, List.take_of_length_le (Nat.le_refl _)]
section
variable {K : PySem.W.Frag} {H : Hp} {Q : VK} {a b : Addr} {xs ys : List V}
theorem sl_use {lo hi : Option Int} (h : H a = some (.tup xs)) (q : ∀ p H', Same H H' → H' p = some (.tup (cutV xs lo hi)) → Q (.ref p) H') : rSlA K (.ref a) lo hi H Q :=
  ⟨a, xs, rfl, .inl (.inl h), fun ⟨h1, h2⟩ => q a H (Same.refl H) (by rw [cut_all h1 h2]; exact h), fun _ p hp => q p _ (same_upd hp) upd_same⟩
theorem sl_take {z : Int} {k : Nat} (e : z = k) (h : H a = some (.tup xs)) (q : ∀ p H', Same H H' → H' p = some (.tup (xs.take k)) → Q (.ref p) H') : rSlA K (.ref a) none (some z) H Q := by
  subst e
  exact sl_use h fun p H' s e => q p H' s (by rw [← cut_take]; exact e)
theorem sl_drop {z : Int} {k : Nat} (e : z = k) (h : H a = some (.tup xs)) (q : ∀ p H', Same H H' → H' p = some (.tup (xs.drop k)) → Q (.ref p) H') : rSlA K (.ref a) (some z) none H Q := by
  subst e
  exact sl_use h fun p H' s e => q p H' s (by rw [← cut_drop]; exact e)
theorem cat_use (h : H a = some (.tup xs)) (h2 : H b = some (.tup ys)) (hl : xs.length + ys.length ≤ 100000) (q : ∀ p H', Same H H' → H' p = some (.tup (xs ++ ys)) → Q (.ref p) H') : rCatA K (.ref a) (.ref b) H Q :=
  ⟨a, b, xs, ys, rfl, rfl, .inl (.inl h), .inl (.inl h2), by rw [sizeLine_eq]; omega, fun e => q b H (Same.refl H) (by rw [e]; exact h2), fun _ e => q a H (Same.refl H) (by rw [e, List.append_nil]; exact h), fun _ _ p hp => q p _ (same_upd hp) upd_same⟩
end
/-! ### equality of words, of rows of words -/
def pdw (w : List Int) : List PyData := w.map PyData.int
def pdr (ws : List (List Int)) : List PyData := ws.map fun w => PyData.tuple (pdw w)
theorem eqvAll_ints : ∀ x y : List Int, PyData.eqvAll (pdw x) (pdw y) = decide (x = y)
  | [], [] => by simp [pdw, PyData.eqvAll]
  | [], y :: ys => by simp [pdw, PyData.eqvAll]
  | x :: xs, [] => by simp [pdw, PyData.eqvAll]
  | x :: xs, y :: ys => by
    have ih := eqvAll_ints xs ys
    unfold pdw at ih ⊢
    rw [List.map_cons, List.map_cons, PyData.eqvAll, ih, PyData.eqv]
    by_cases e : x = y <;> by_cases f : xs = ys <;> simp [e, f]
theorem eqvAll_rows : ∀ x y : List (List Int), PyData.eqvAll (pdr x) (pdr y) = decide (x = y)
  | [], [] => by simp [pdr, PyData.eqvAll]
  | [], y :: ys => by simp [pdr, PyData.eqvAll]
  | x :: xs, [] => by simp [pdr, PyData.eqvAll]
  | x :: xs, y :: ys => by
    have ih := eqvAll_rows xs ys
    unfold pdr at ih ⊢
    rw [List.map_cons, List.map_cons, PyData.eqvAll, ih, PyData.eqv, eqvAll_ints]
    by_cases e : x = y <;> by_cases f : xs = ys <;> simp [e, f]
theorem lay_ints : ∀ w : List Int, PyData.canLayAll0 (pdw w) = true ∧ PyData.depthAll (pdw w) = 0
  | [] => ⟨by simp [pdw, PyData.canLayAll0], by simp [pdw, PyData.depthAll]⟩
  | x :: w => by
    obtain ⟨a, b⟩ := lay_ints w
    unfold pdw at a b ⊢
    rw [List.map_cons, PyData.canLayAll0, PyData.depthAll, a, b, PyData.canLay0, PyData.depth]
    exact ⟨rfl, rfl⟩
theorem lay_rows : ∀ ws : List (List Int), PyData.canLayAll0 (pdr ws) = true ∧ PyData.depthAll (pdr ws) ≤ 1
  | [] => ⟨by simp [pdr, PyData.canLayAll0], by simp [pdr, PyData.depthAll]⟩
  | x :: ws => by
    obtain ⟨a, b⟩ := lay_rows ws
    obtain ⟨c, d⟩ := lay_ints x
    unfold pdr at a b ⊢
    rw [List.map_cons, PyData.canLayAll0, PyData.depthAll, a, PyData.canLay0, PyData.depth, c, d]
    exact ⟨rfl, Nat.max_le.mpr ⟨by omega, b⟩⟩
theorem shaped_tup (w : List Int) : SeqAt.shaped (.tuple (pdw w)) = true := by
  obtain ⟨a, b⟩ := lay_ints w
  unfold SeqAt.shaped
  rw [PyData.canLay0, PyData.depth, a, b]; rfl
theorem shaped_lst (w : List Int) : SeqAt.shaped (.list (pdw w)) = true := by
  obtain ⟨a, b⟩ := lay_ints w
  unfold SeqAt.shaped
  rw [PyData.canLay0, PyData.depth, a, b]; rfl
theorem shaped_rows (ws : List (List Int)) : SeqAt.shaped (.list (pdr ws)) = true := by
  obtain ⟨a, b⟩ := lay_rows ws
  unfold SeqAt.shaped
  rw [PyData.canLay0, PyData.depth, a, Bool.true_and]
  exact decide_eq_true (by omega)
section
variable {K : PySem.W.Frag} {H : Hp} {Q : VK} {a b : Addr} {x y : List Int} {xs ys : List (List Int)}
theorem dp_ints : ∀ w : List Int, DpAll K H (w.map V.int) (pdw w)
  | [] => .nil
  | x :: w => .cons (.int x) (dp_ints w)
theorem dp_tup (h : H a = some (.tup (x.map V.int))) : Dp K H (.ref a) (.tuple (pdw x)) := .tup (.inl (.inl h)) (dp_ints x)
theorem dp_lst (h : H a = some (.lst (x.map V.int))) : Dp K H (.ref a) (.list (pdw x)) := .lst (.inl (.inl h)) (dp_ints x)
theorem dp_rows (h : Rows H a xs) : Dp K H (.ref a) (.list (pdr xs)) := by
  obtain ⟨ks, h1, rfl, h3⟩ := h
  refine .lst (.inl (.inl h1)) ?_
  clear h1
  induction ks with
  | nil => exact .nil
  | cons k ks ih => exact .cons (dp_tup (h3 k List.mem_cons_self)) (ih fun q hq => h3 q (List.mem_cons_of_mem _ hq))
theorem eqT (ha : H a = some (.tup (x.map V.int))) (hb : H b = some (.tup (y.map V.int))) (q : Q (.bl (decide (x = y))) H) : rEqD K (.ref a) (.ref b) H Q :=
  ⟨_, _, dp_tup ha, dp_tup hb, shaped_tup _, shaped_tup _, by rw [PyData.eqv, eqvAll_ints]; exact q⟩
theorem neT (ha : H a = some (.tup (x.map V.int))) (hb : H b = some (.tup (y.map V.int))) (q : Q (.bl (!decide (x = y))) H) : rNeD K (.ref a) (.ref b) H Q :=
  ⟨_, _, dp_tup ha, dp_tup hb, shaped_tup _, shaped_tup _, by rw [PyData.eqv, eqvAll_ints]; exact q⟩
theorem eqL (ha : H a = some (.lst (x.map V.int))) (hb : H b = some (.lst (y.map V.int))) (q : Q (.bl (decide (x = y))) H) : rEqD K (.ref a) (.ref b) H Q :=
  ⟨_, _, dp_lst ha, dp_lst hb, shaped_lst _, shaped_lst _, by rw [PyData.eqv, eqvAll_ints]; exact q⟩
theorem neL (ha : H a = some (.lst (x.map V.int))) (hb : H b = some (.lst (y.map V.int))) (q : Q (.bl (!decide (x = y))) H) : rNeD K (.ref a) (.ref b) H Q :=
  ⟨_, _, dp_lst ha, dp_lst hb, shaped_lst _, shaped_lst _, by rw [PyData.eqv, eqvAll_ints]; exact q⟩
theorem eqR (ha : Rows H a xs) (hb : Rows H b ys) (q : Q (.bl (decide (xs = ys))) H) : rEqD K (.ref a) (.ref b) H Q :=
  ⟨_, _, dp_rows ha, dp_rows hb, shaped_rows _, shaped_rows _, by rw [PyData.eqv, eqvAll_rows]; exact q⟩
theorem neR (ha : Rows H a xs) (hb : Rows H b ys) (q : Q (.bl (!decide (xs = ys))) H) : rNeD K (.ref a) (.ref b) H Q :=
  ⟨_, _, dp_rows ha, dp_rows hb, shaped_rows _, shaped_rows _, by rw [PyData.eqv, eqvAll_rows]; exact q⟩
theorem any_rows : ∀ ws : List (List Int), ((pdr ws).any fun z => PyData.eqv z (.tuple (pdw x))) = decide (x ∈ ws)
  | [] => by simp [pdr]
  | w :: ws => by
    have ih := any_rows ws
    unfold pdr at ih ⊢
    rw [List.map_cons, List.any_cons, ih, PyData.eqv, eqvAll_ints]
    by_cases e : w = x
    · simp [e]
    · have : ¬ x = w := fun z => e z.symm
      simp [e, this]
theorem inR (ha : H a = some (.tup (x.map V.int))) (hb : Rows H b ys) (q : Q (.bl (decide (x ∈ ys))) H) : rInD K (.ref a) (.ref b) H Q :=
  ⟨_, _, dp_tup ha, dp_rows hb, shaped_tup _, shaped_rows _, by rw [any_rows]; exact q⟩
theorem notInR (ha : H a = some (.tup (x.map V.int))) (hb : Rows H b ys) (q : Q (.bl (!decide (x ∈ ys))) H) : rNotInD K (.ref a) (.ref b) H Q :=
  ⟨_, _, dp_tup ha, dp_rows hb, shaped_tup _, shaped_rows _, by rw [any_rows]; exact q⟩
end
end Mine

namespace Mine
open PySem PySem.Spec PyProof.Rows L2
/-! ### several except clauses, with names -/
abbrev Suit := Addr → Value → Option Addr → TS
def endsAs (D : Ends) : Option Nat → Ends
  | none => D
  | some i => { nx := fun σ H => D.nx (σ.set i none) H, rt := D.rt, bk := fun σ H => D.bk (σ.set i none) H, ct := fun σ H => D.ct (σ.set i none) H }
def bindAs (σ : L2.St) (a : Addr) : Option Nat → L2.St
  | none => σ
  | some i => σ.set i (some (.ref a))
/-- what the clauses wish of an exception of the body -/
def wNamed (K : PySem.W.Frag) (Wout : WX) (D : Ends) : List (Value × Option Nat × Suit) → WX
  | [] => Wout
  | (c, o, ts) :: r => fun cls d σ H => ∃ b, PySem.W.exmOne K cls c = some b ∧ (b = true → ∀ a, H a = none → ts a cls d (endsAs D o) (bindAs σ a o) H) ∧ (b = false → wNamed K Wout D r cls d σ H)
def SuitOk (X : Cx) (body : List Stmt) (ts : Suit) : Prop := ∀ (a : Addr) (oe : Obj) (cls : Value) (d : Option Addr) (pn : List (Addr × Obj)), Zc cls d oe → (∃ vs, oe.data = .fields vs) → PSs (X.suite a ((a, oe) :: pn)) body (ts a cls d)
inductive HdsN (X : Cx) : List ExceptHandler → List (Value × Option Nat × Suit) → Prop
  | nil : HdsN X [] []
  | bare {x : Str} {c : Value} {ts : Suit} {b₀ : Stmt} {suite : List Stmt} {np pos' : Pos} {hds : List ExceptHandler} {l : List (Value × Option Nat × Suit)} (hc : Names X x c) (hsu : SuitOk X (b₀ :: suite) ts) (r : HdsN X hds l) :
      HdsN X (.ExceptHandler (some (.Name x np)) none (b₀ :: suite) pos' :: hds) ((c, none, ts) :: l)
  | named {x n : Str} {i : Nat} {c : Value} {ts : Suit} {b₀ : Stmt} {suite : List Stmt} {np pos' : Pos} {hds : List ExceptHandler} {l : List (Value × Option Nat × Suit)} (hi : X.N[i]? = some n) (hln : X.env.kindOf n = some .local)
      (hc : Names X x c) (hsu : SuitOk X (b₀ :: suite) ts) (r : HdsN X hds l) : HdsN X (.ExceptHandler (some (.Name x np)) (some n) (b₀ :: suite) pos' :: hds) ((c, some i, ts) :: l)
section
variable {X : Cx} {pins : List (Addr × Obj)}
/-- an exception in hand, at the clauses -/
structure Hand (X : Cx) (pins : List (Addr × Obj)) (σ : L2.St) (H : Hp) (a : Addr) (cls : Value) (d : Option Addr) (s : Shared) : Prop where
  ob : ∃ oe vs, s.heap.get? a = some oe ∧ Zc cls d oe ∧ oe.data = .fields vs
  inv : Inv X pins σ H s
  nH : H a = none
  nL : a ≠ X.env.locals
  nF : a ∉ X.fs
theorem Hand.suite {σ : L2.St} {H : Hp} {a : Addr} {cls : Value} {d : Option Addr} {s : Shared} (h : Hand X pins σ H a cls d s) : ∃ oe, Zc cls d oe ∧ (∃ vs, oe.data = .fields vs) ∧ Inv (X.suite a ((a, oe) :: (X.pn ++ pins))) [] σ H s := by
  obtain ⟨oe, vs, he, hz, hd⟩ := h.ob
  exact ⟨oe, hz, ⟨vs, hd⟩, h.inv.suite he hd h.nH h.nL h.nF⟩
theorem Hand.asks {σ : L2.St} {H : Hp} {a : Addr} {cls c : Value} {d : Option Addr} {s : Shared} {b : Bool} (h : Hand X pins σ H a cls d s) (e : PySem.W.exmOne X.K cls c = some b) : PySem.W.Looks (model X.prog X.w) s.heap (excMatches (.ref a) c) b := by
  obtain ⟨oe, vs, he, hz, hd⟩ := h.ob
  exact PySem.W.exm_one (M := model X.prog X.w) h.inv.kIn (fun A Q E s k q => wpAny_typeOf_ref (k _ _ he) (by rw [hz.1]; exact q)) e
theorem Hand.names {σ : L2.St} {H : Hp} {a : Addr} {cls c : Value} {d : Option Addr} {s : Shared} {x : Str} {np : Pos} (h : Hand X pins σ H a cls d s) (hc : Names X x c) {Q : Value → Shared → Prop} {E : Value → Shared → Prop} (q : Q c s) :
    wpAny (model X.prog X.w) (X.A.mark (some (.ref a))) (eval (.Name x np) X.env) Q E s := by
  obtain ⟨oe, hz, hd, S⟩ := h.suite
  obtain ⟨hg, hdbg, hm | ⟨hm, hv, hnn⟩⟩ := hc
  · exact ld_glob (X := X.suite a ((a, oe) :: (X.pn ++ pins))) S hg hm q hdbg
  · exact ld_blt (X := X.suite a ((a, oe) :: (X.pn ++ pins))) S hg hm hv q hnn hdbg
/-- the exception on its way, landed in this frame -/
structure Flown (X : Cx) (pins : List (Addr × Obj)) (σ : L2.St) (H : Hp) (a : Addr) (cls : Value) (d : Option Addr) (B : Heap) (sI s : Shared) : Prop where
  inv : Inv X pins σ H sI
  nb : ∀ b o, sI.heap.get? b = some o → b ∉ frs X.stack → B.get? b = some o
  up : sI.heap.UpToSlots s.heap
  fl : HandSPX.FlyingZ B (X.env :: X.outer) a (Zc cls d) s.heap
  na : H a = none
  os : s.os = sI.os
  ag : AllBare s.gens
section
variable {σ : L2.St} {H : Hp} {a : Addr} {cls : Value} {d : Option Addr} {B : Heap} {sI s : Shared}
theorem Flown.move {h : Heap} (f : Flown X pins σ H a cls d B sI s) (fl : HandSPX.FlyingZ B (X.env :: X.outer) a (Zc cls d) h) (up : s.heap.UpToSlots h) : Flown X pins σ H a cls d B sI { s with heap := h } :=
  ⟨f.inv, f.nb, f.up.trans up, fl, f.na, f.os, f.ag⟩
theorem Flown.hand (hf : X.env.frame = some X.env.locals) (f : Flown X pins σ H a cls d B sI s) : Hand X pins σ H a cls d s := by
  obtain ⟨oe, vs, he, hz, hd⟩ := f.fl.there
  have out : a ∉ frs (X.env :: X.outer) := fun hm => by
    obtain ⟨_, o', e', hnf⟩ := f.fl.2.2.1.mem hm
    rw [he] at e'
    cases e'
    exact hnf _ hd
  refine ⟨⟨oe, vs, he, hz, hd⟩, f.inv.landed f.nb f.fl.1 f.up f.os f.ag, f.na, fun z => out (List.mem_filterMap.mpr ⟨X.env, List.mem_cons_self, by rw [hf, z]⟩), fun hm => ?_⟩
  obtain ⟨e, he, q⟩ := List.mem_filterMap.mp hm
  exact out (List.mem_filterMap.mpr ⟨e, List.mem_cons_of_mem _ he, q⟩)
/-- the clauses, one after the other -/
theorem clauses_run {Wout : WX} {D : Ends} (ok : X.Ok) (hs : X.stack = X.env :: X.outer) (hf : X.env.frame = some X.env.locals) (hN : X.N.Nodup) (tk : Takes X Wout) :
    ∀ {hds : List ExceptHandler} {l : List (Value × Option Nat × Suit)}, HdsN X hds l → Flown X pins σ H a cls d B sI s → wNamed X.K Wout D l cls d σ H → wpAny (model X.prog X.w) X.A (handleBy (.ref a) X.env hds) (SP X pins D) X.xe s := by
  intro hds l hk
  induction hk with
  | nil =>
    intro f w
    refine wpAny_handleBy_nil ?_
    have fl := f.fl
    obtain ⟨_, _, _, oe, vs, T, oT, ts', he, hz, hd, h1, hr⟩ := id fl
    unfold PySem.passOn
    refine wpAny_bind (wpAny_field he hd h1 ?_)
    rw [if_neg (show ¬ ((Value.ref T == Value.none) = true) from by simp)]
    have out : wpAny (model X.prog X.w) X.A (setFlight (.ref a) X.env.frame) (fun _ s4 => wpAny (model X.prog X.w) X.A (throw (.ref a) : Sem Flow) (SP X pins D) X.xe s4) X.xe s := by
      rw [hf]
      exact HandSPX.setFlight_upZ fl fun h4 hh4 up4 => wpAny_throw (tk _ _ ⟨a, B, sI, pins, σ, H, cls, d, rfl, f.inv, f.nb, f.up.trans up4, .inr (.inr (by rw [hs]; exact hh4)), f.na, f.os, f.ag, w⟩)
    first
      | exact wpAny_bind (wpAny_pure (wpAny_bind out))
      | exact wpAny_bind out
  | bare hc hsu r ih =>
    intro f ⟨b, e, yes, no⟩
    have hand := f.hand hf
    refine wpAny_handleBy_cons (codeAny_handlers_test (hand.names hc ((hand.asks e).here ?_))) (by intro q; cases q)
    cases b with
    | false => exact ih f (no rfl)
    | true =>
      refine codeAny_handlers_suite (HandSPX.lands_againZ f.fl fun h4 fl4 up4 => ?_)
      obtain ⟨oe, hz, hd, S⟩ := ((f.move fl4 up4).hand hf).suite
      refine wpAny_mono ((hsu a oe cls d (X.pn ++ pins) hz hd).run [] _ _ H _ S (yes rfl a f.na)) (fun g s6 hsp => ?_) (fun _ _ z => False.elim z)
      cases g with
      | next => obtain ⟨σ6, H6, S6, q6⟩ := hsp; exact ⟨_, _, S6.unsuite ok, q6⟩
      | brk => obtain ⟨σ6, H6, S6, q6⟩ := hsp; exact ⟨_, _, S6.unsuite ok, q6⟩
      | cont => obtain ⟨σ6, H6, S6, q6⟩ := hsp; exact ⟨_, _, S6.unsuite ok, q6⟩
      | ret u => obtain ⟨v6, σ6, H6, S6, r6, q6⟩ := hsp; exact ⟨_, _, _, S6.unsuite ok, r6, q6⟩
  | named hi hln hc hsu r ih =>
    intro f ⟨b, e, yes, no⟩
    have hand := f.hand hf
    refine wpAny_handleBy_cons (codeAny_handlers_test (hand.names hc ((hand.asks e).here ?_))) (by intro q; cases q)
    cases b with
    | false => exact ih f (no rfl)
    | true =>
      refine codeAny_handlers_suite_as (HandSPX.lands_againZ f.fl fun h4 fl4 up4 => ?_)
      obtain ⟨oe, hz, hd, S⟩ := ((f.move fl4 up4).hand hf).suite
      refine store_ok (X := X.suite a ((a, oe) :: (X.pn ++ pins))) (v := .ref a) S hN hi (.inl hln) rfl (fun s5 S5 => ?_) (.inr hln)
      refine wpAny_mono ((hsu a oe cls d (X.pn ++ pins) hz hd).run [] s5 _ H _ S5 (yes rfl a f.na)) (fun g s6 hsp => ?_) (fun _ _ z => False.elim z)
      cases g with
      | next => obtain ⟨σ6, H6, S6, q6⟩ := hsp; exact gone_ok (S6.unsuite ok) hN hi hln fun s7 J7 => ⟨_, _, J7, q6⟩
      | brk => obtain ⟨σ6, H6, S6, q6⟩ := hsp; exact gone_ok (S6.unsuite ok) hN hi hln fun s7 J7 => ⟨_, _, J7, q6⟩
      | cont => obtain ⟨σ6, H6, S6, q6⟩ := hsp; exact gone_ok (S6.unsuite ok) hN hi hln fun s7 J7 => ⟨_, _, J7, q6⟩
      | ret u => obtain ⟨v6, σ6, H6, S6, r6, q6⟩ := hsp; exact gone_ok (S6.unsuite ok) hN hi hln fun s7 J7 => ⟨_, _, _, J7, r6, q6⟩
end
/-- try with any number of clauses, each with a name or without -/
theorem ps_try_named {body : List Stmt} {h₀ : ExceptHandler} {hds : List ExceptHandler} {l : List (Value × Option Nat × Suit)} {pos : Pos} {tb : WX → TS} {Wout : WX} (hs : X.stack = X.env :: X.outer) (hf : X.env.frame = some X.env.locals) (hN : X.N.Nodup) (tk : Takes X Wout)
    (hb : ∀ (W : WX) (pn : List (Addr × Obj)) (xe : Value → Shared → Prop), Takes (X.tr pn xe) W → PassesOwn (model X.prog X.w) X.A X.env xe → PSs (X.tr pn xe) body (tb W)) (hh : HdsN X (h₀ :: hds) l) :
    PS X (.Try body (h₀ :: hds) [] [] pos) (fun D σ H => tb (wNamed X.K Wout D l) D σ H) := by
  refine ⟨fun pins s σ H D I h => ?_⟩
  have ok := I.ok
  have hfr : X.A.frames = some (X.env :: X.outer) := by rw [ok.frames, hs]
  refine wpAny_Try_except (wpAny_mono ((hb (wNamed X.K Wout D l) (X.pn ++ pins) (fun e s₁ => wpAny (model X.prog X.w) X.A (noteFrame e X.env) (fun _ s₂ => wpAny (model X.prog X.w) X.A (setFlight e none) (fun _ s₃ =>
    wpAny (model X.prog X.w) X.A (handleBy e X.env (h₀ :: hds)) (SP X pins D) X.xe s₃) X.xe s₂) X.xe s₁) (fun u s' xx => ?_) PassesOwn.looking).run [] s σ H D (I.toTry _) h) (fun f s1 hsp => ?_) (fun e s1 he => he))
  · obtain ⟨a, B, sI, pins', σ', H', cls, d, rfl, J, nb, up, sky, na, os, ag, w⟩ := xx
    rw [show (X.tr (X.pn ++ pins) _).stack = X.env :: X.outer from hs] at sky
    exact Sky.land Zc.steady hfr hf sky fun h3 fl3 up3 => clauses_run ok hs hf hN tk hh ⟨J.ofTry ok, nb, up.trans up3, fl3, na, os, ag⟩ w
  · cases f with
    | next => obtain ⟨σ', H', J, q⟩ := hsp; exact wpAny_execs_nil ⟨σ', H', J.ofTry ok, q⟩
    | brk => obtain ⟨σ', H', J, q⟩ := hsp; exact ⟨σ', H', J.ofTry ok, q⟩
    | cont => obtain ⟨σ', H', J, q⟩ := hsp; exact ⟨σ', H', J.ofTry ok, q⟩
    | ret u => obtain ⟨v, σ', H', J, r, q⟩ := hsp; exact ⟨v, σ', H', J.ofTry ok, r, q⟩
end
end Mine

namespace PySem.W
open PySem PySem.Spec PySem.Calls PyProof.Rows
section
variable {prog : Program} {w : World} {A : Around} {E : Value → Shared → Prop} {s : Shared} {K : Frag} {x D : Addr} {ox : Obj} {od : Option Obj}
/-- where a class gives a name by data, the instance's own dict is never looked at -/
theorem mine_find_data {C : Addr} {name : Str} {a g : Value} (hc : (clsIn K C).isSome = true) (ha : findIn K (.ref C) name = some (some a)) (hg : specialIn K a "__get__" = some (some g)) (ht : takesIn K a = some true) : findObj K C od name = some (.bind g a) := by
  obtain ⟨cd, hc⟩ := Option.isSome_iff_exists.mp hc
  simp [findObj, hc, ha, hg, ht]
/-- e.__class__, e an exception of an own class, with a dict of its own or without -/
theorem mine_exc_class {Q : Option Value → Shared → Prop} (T : L2.ExcC K D) (X : K.In s.heap) (I : InstAt s.heap x ox D od) (h : Q (some (.ref D)) { s with toks := s.toks + 1 }) : wpAny (model prog w) A (getAttr? (.ref x) "__class__") Q E s := by
  obtain ⟨cd, hcd, _⟩ := any_some T.hd
  obtain ⟨hp, g, d, t, os⟩ := s
  have ofX := I.type (M := model prog w)
  have asked := looks_findIn (M := model prog w) X T.hg
  have behind := looks_findIn (M := model prog w) X T.hk
  have found := looks_find (M := model prog w) X I (mine_find_data (od := od) (name := "__class__") (by rw [hcd]; rfl) T.ha T.hn T.ht)
  have under : Looks (model prog w) hp (isInstance (.ref x) (.type "BaseException")) true := ofX.andThen (looks_subIn X T.hs)
  have other : (Value.builtin "BaseException.__getattribute__" == Value.builtin "object.__getattribute__") = false := by decide +kernel
  unfold getAttr? getAttrBy? getAttrBy
  refine wpAny_bind (wpAny_mkText (wpAny_bind (wpAny_attempt (wpAny_holding (wpAny_bind (ofX.at (wpAny_bind (asked.at ?_))))))))
  show wpAny _ _ (if (onTheHeap (Value.ref D) && Value.builtin "BaseException.__getattribute__" == Value.builtin "object.__getattribute__") = true then _ else _) _ _ _
  rw [other, Bool.and_false, if_neg Bool.false_ne_true]
  unfold getAttrByItsOwn hookBefore
  refine wpAny_bind ?_
  rw [if_pos (show onTheHeap (Value.ref D) = true from rfl)]
  refine behind.at (wpAny_bind (wpAny_attempt (wpAny_holding ?_)))
  unfold callGetattribute
  rw [show (false && onTheHeap (Value.builtin "BaseException.__getattribute__")) = false from rfl, if_neg Bool.false_ne_true]
  unfold boundAndCalled
  rw [PySem.F.excAttr_ValueError.ga.bind (.ref x)]
  refine wpAny_bind (wpAny_pure ?_)
  show wpAny _ _ (call (.builtin "BaseException.__getattribute__") [.ref x, .str "__class__" t]) _ _ _
  refine wpAny_call (codeAny_call_builtin PySem.F.excAttr_ValueError.ga.plain PySem.F.entry_bexc_ga (@check_slot (model prog w) _ _ ⟨hp, g, d, t + 1, os⟩ "BaseException.__getattribute__" "BaseException" "__getattribute__" (.ref x) [.str "__class__" t] [] _
    (by decide +kernel) (by decide +kernel) under (PySem.F.args_bexc_ga (.ref x) (.str "__class__" t)) ?_))
  unfold Builtin.«object.__getattribute__»
  refine wpAny_bind (wpAny_of_eq (a := ((Value.ref x : Value), [Value.str "__class__" t])) (by first | rfl | (simp only [slotArgs]; rfl)) ?_)
  refine wpAny_bind (wpAny_pure (wpAny_bind (ofX.at (wpAny_bind (found.at ?_)))))
  show wpAny _ _ (holding [Value.builtin "object.__class__"] (call (.builtin "getset_descriptor.__get__") [.builtin "object.__class__", .ref x, .ref D]) >>= ret) _ _ _
  refine wpAny_bind (wpAny_holding (wpAny_call (class_get (s := ⟨hp, g, d, t + 1, os⟩) (ox := ox) (od := od) X I T.hm (wpAny_pure ?_))))
  show wpAny _ _ (handedOut (.ref D)) _ _ _
  rw [handedOut_of (v := .ref D) rfl]
  first
    | exact wpAny_pure (wpAny_pure h)
    | exact wpAny_pure h
    | exact wpAny_pure (wpAny_bind (wpAny_pure (wpAny_pure h)))
theorem mine_class_head (hdct : hasDictIn K D = true) {h : Heap} (X : K.In h) : ∃ o, h.get? D = some o ∧ ∃ cd, o.data = .cls cd := by
  obtain ⟨cd, hc, _⟩ := any_some hdct
  unfold clsIn at hc
  split at hc
  · rename_i ho
    exact ⟨_, X _ _ ho, _, rfl⟩
  · cases hc
theorem mine_kitx_exc (T : L2.ExcC K D) : KitX K (.ref x) (.ref D) (fun h => InstAt h x ox D od) where
  ty := fun _ _ _ I => I.type
  it := fun _ h X _ => by
    obtain ⟨o, ho, cd, hd⟩ := mine_class_head T.hd X
    obtain ⟨c, dd, dt, sl⟩ := o
    dsimp only at hd
    subst hd
    intro A' Q' E' s' k q
    unfold isType loadHead
    exact wpAny_bind (wpAny_loadPart (k _ _ ho) (wpAny_pure q))
  ne := fun h tp dd its n sl X htp => by
    obtain ⟨o, ho, cd, hd⟩ := mine_class_head T.hd X
    refine Bool.eq_false_iff.mpr fun q => ?_
    have e : D = tp := Value.ref.inj (beq_iff_eq.mp q)
    rw [e, htp] at ho
    cases ho
    cases hd
  ca := fun X I k => mine_exc_class T X I k
end
end PySem.W
namespace Mine
open PySem PySem.Spec PyProof.Rows L2
/-- isinstance(e, c), e the exception in hand -/
def rIsX (K : PySem.W.Frag) (a : Addr) (cls : Value) (d : Option Addr) : List V → Hp → VK → Prop := fun xs H Q => ∃ (D : Addr) (c : V) (cv : Value) (b : Bool), xs = [.ref a, c] ∧ cls = .ref D ∧ ExcC K D ∧ (∀ u, RelV c u → u = cv) ∧ PySem.W.kitOne K (.ref D) cv = some b ∧
  (∀ dd, d = some dd → ∃ fs, H dd = some (.xd fs)) ∧ Q (.bl b) H
theorem call_isX {X : Cx} {K : PySem.W.Frag} (eK : X.K = K) {a : Addr} {cls : Value} {d : Option Addr} {oe : Obj} {pn : List (Addr × Obj)} (hz : Zc cls d oe) (hf : ∃ vs, oe.data = .fields vs) : CallR (X.suite a ((a, oe) :: pn)) (.builtin "isinstance") (rIsX K a cls d) := by
  subst eK
  intro pins s σ H xs us Q I r h
  obtain ⟨D, c, cv, b, rfl, rfl, T, hcv, e, hdd, q⟩ := h
  cases r with
  | cons rx rr =>
    cases rr with
    | cons rt rr =>
      cases rr
      cases rx
      obtain rfl := hcv _ rt
      obtain ⟨hget, _⟩ := I.pin (a, oe) (List.mem_append.mpr (.inl List.mem_cons_self))
      obtain ⟨vs, hv⟩ := hf
      obtain ⟨oc, od, oda, osl⟩ := oe
      obtain ⟨h1, h2⟩ := hz
      dsimp only at h1 h2 hv
      subst h1 h2 hv
      have J : ∃ o, PySem.W.InstAt s.heap a ⟨.ref D, od, .fields vs, osl⟩ D o := by
        cases od with
        | none => exact ⟨none, hget, rfl, rfl, trivial⟩
        | some dd =>
          obtain ⟨fs, ha⟩ := hdd dd rfl
          obtain ⟨mA, hns, hr⟩ := (show ObjOk X.prog X.w H s.heap dd (.xd fs) from I.hok dd _ ha)
          obtain ⟨o, ho, _⟩ := lookIn_ns hns
          exact ⟨some o, hget, rfl, rfl, ho⟩
      obtain ⟨o, J⟩ := J
      exact PySem.W.kia_one (PySem.W.mine_kitx_exc T) I.kIn J e (fun z => nomatch z) fun tk => ⟨.bl b, H, I.kept (t' := tk) fun _ _ z => z, rfl, q⟩
/-- the facts of ExcC by one Bool -/
def isxB (K : PySem.W.Frag) (D : Addr) : Bool := He.eqO (PySem.W.findIn K (.ref D) "__getattribute__") (some (some (.builtin "BaseException.__getattribute__"))) && (He.eqO (PySem.W.findIn K (.ref D) "__getattr__") (some none) && (decide (PySem.W.subIn K (.ref D) (.type "BaseException") = some true) &&
  (PySem.W.hasDictIn K D && (He.eqO (PySem.W.findIn K (.ref D) "__class__") (some (some (.builtin "object.__class__"))) && (He.eqO (PySem.W.specialIn K (.builtin "object.__class__") "__get__") (some (some (.builtin "getset_descriptor.__get__"))) &&
  (decide (PySem.W.takesIn K (.builtin "object.__class__") = some true) && decide (PySem.W.mroIn K D (.type "object") = some true)))))))
theorem isxB_ok {K : PySem.W.Frag} {D : Addr} (h : isxB K D = true) : ExcC K D := by
  obtain ⟨a, h⟩ := He.ba h
  obtain ⟨b, h⟩ := He.ba h
  obtain ⟨c, h⟩ := He.ba h
  obtain ⟨d, h⟩ := He.ba h
  obtain ⟨e, h⟩ := He.ba h
  obtain ⟨f, h⟩ := He.ba h
  obtain ⟨g, i⟩ := He.ba h
  exact ⟨He.eqO_ok a, He.eqO_ok b, of_decide_eq_true c, d, He.eqO_ok e, He.eqO_ok f, of_decide_eq_true g, of_decide_eq_true i⟩
end Mine

namespace L2
open PySem PySem.Spec PyProof.Rows
/-- t * 1 is t itself -/
theorem mine_mul_one (l : Addr) (items : Array Value) (n : Nat) (dd : Option Addr) (sl : Array (Option Value)) (u : Tok) :
    Meets (Builtin.«tuple.__mul__» ⟨[.ref l, .int 1 u], []⟩) (fun _ R s => s.heap.get? l = some { cls := .type "tuple", dict := dd, data := .seq items n, slots := sl } ∧ R (.ok (.ret (Value.ref l))) s) :=
  .of_wp fun prog w A R s h => by
    obtain ⟨hp, g, d, tk, os⟩ := s
    obtain ⟨hl, h⟩ := h
    have f1 := AutoSeq1.idx_int
    wp_walk using wpAny_loadPart' hl
    exact ⟨_, rfl, h⟩
end L2
namespace Mine
open PySem PySem.Spec PyProof.Rows L2
section
variable {X : Cx}
/-- t * k, k from 1 on -/
def rRepA : R2 := fun x y H Q => ∃ l k xs, x = .ref l ∧ y = .int k ∧ H l = some (.tup xs) ∧ xs ≠ [] ∧ 1 ≤ k ∧ k ≤ 1000 ∧ xs.length ≤ 1000 ∧ ∀ p H', Same H H' → H' p = some (.tup (List.replicate k.toNat xs).flatten) → Q (.ref p) H'
theorem op_repA : OpR X (binaryOp .Mult) rRepA := by
  intro pins s σ H x y v u Q I rx ry h
  obtain ⟨l, k, xs, rfl, rfl, hl, hne, h1, h2, hz, q⟩ := h
  by_cases e : 2 ≤ k
  · exact op_repT pins s σ H _ _ v u Q I rx ry ⟨l, k, xs, rfl, rfl, .inl (.inl hl), hne, e, h2, hz, fun p hp => q p _ (same_upd hp) upd_same⟩
  · obtain rfl : k = 1 := by omega
    cases rx
    obtain ⟨t, rfl⟩ := ry
    obtain ⟨its, r, ⟨⟨cls, dd, data, sl⟩, ho, hc, n, hd⟩, hs⟩ := I.tuple (.inl (.inl hl) : SqT X.K H l xs)
    simp only at hc hd
    subst hc hd
    refine wpAny_binaryOp_repeat_ref (T := "tuple") (U := "int") (by decide) ⟨_, ho, rfl⟩ (fun s' => typeIs_int s' 1 t) noFill_tuple_mul F.fills_int_mul F.slot_int_rmul repeat_tuple F.slot_int_index.lookup
      (call_meets F.slot_int_rmul (typeIs_int s 1 t) F.entry_int_rmul (F.args_int_rmul_2 _ _) (int_rmul_tuple 1 t l its.toArray n dd sl)
        ⟨ho, rfl, ⟨_, ho, rfl⟩, call_meets F.slot_tuple_mul ⟨_, ho, rfl⟩ F.entry_tuple_mul (F.args_tuple_mul_2 _ _) (mine_mul_one l its.toArray n dd sl t) ⟨ho, ?_⟩⟩)
    exact ⟨.ref l, H, I, rfl, q l H (Same.refl H) (by rw [hl]; simp)⟩
/-- xs[i], for xs[i] += .. -/
theorem get_list : PGet X rIxH := by
  intro pins s σ H o i ov iv Q I ro ri h
  obtain ⟨p, k, xs, z, rfl, rfl, hp, he, q⟩ := h
  cases ro
  obtain ⟨t, rfl⟩ := ri
  obtain ⟨its, r, pl, hz⟩ := I.list (.inl (.inl hp) : SqL X.K H p xs)
  obtain ⟨j, h1, h2, h3, h4, h5⟩ := atI_get he
  obtain ⟨w, ew, rw'⟩ := r.get h2
  have hl := r.length
  have hn := line63
  have fin : EP X pins σ Q w s := ⟨z, H, I, rw', q⟩
  by_cases h0 : 0 ≤ k
  · have hj : k.toNat = j := Option.some.inj ((seqIndex_of h0 h5).symm.trans h1)
    exact wpAny_getItem_list pl.isList h0 (by omega) (by rw [hj]; simpa using ew) fin
  · have hj : (k + (its.toArray.size : Int)).toNat = j := by
      rw [List.size_toArray, ← hl]
      exact Option.some.inj ((seqIndex_neg (by omega) h4).symm.trans h1)
    exact wpAny_getItem_list_neg pl.isList (by omega) (by rw [List.size_toArray] <;> omega) (by omega) (by rw [hj]; simpa using ew) fin
/-- sum of a list or a tuple of whole numbers -/
def rSumA (K : PySem.W.Frag) : List V → Hp → VK → Prop := fun vs H Q => ∃ (a : Addr) (ns : List Int), vs = [V.ref a] ∧ (SqL K H a (ns.map V.int) ∨ SqT K H a (ns.map V.int)) ∧ Q (.int ns.sum) H
theorem cr_sumA (hc : X.calm = true) : CallR X (.builtin "sum") (rSumA X.K) := by
  intro pins s σ H vs us Q I r ⟨a, ns, e, h, q⟩
  rcases h with h | h
  · exact cr_sum hc pins s σ H vs us Q I r ⟨a, ns, e, h, q⟩
  · exact cr_sumT hc pins s σ H vs us Q I r ⟨a, ns, e, h, q⟩
end
/-! ### zip of a tuple and a list -/
def ItzM (K : PySem.W.Frag) (a b : Addr) : It :=
  ⟨fun i H => ∃ (xs ys : List V) (x y : V), SqT K H a xs ∧ SqL K H b ys ∧ xs[i]? = some x ∧ ys[i]? = some y,
    fun i H v H' => ∃ T x y, v = .ref T ∧ H T = none ∧ H' = upd H T (.tup [x, y]) ∧ (∀ xs, SqT K H a xs → xs[i]? = some x) ∧ ∀ ys, SqL K H b ys → ys[i]? = some y,
    fun i H => ∃ xs ys : List V, SqT K H a xs ∧ SqL K H b ys ∧ (xs.length = i ∨ ys.length = i) ∧ i ≤ xs.length ∧ i ≤ ys.length⟩
/-- the cells of such a walk at turn i -/
def ZipSt (z TI TO i1 i2 a b : Addr) (i : Nat) (h : Heap) : Prop := IsZip h z TI TO .none ∧ IsTupOf2 h TI (.ref i1) (.ref i2) ∧ (∃ x y, IsTupOf2 h TO x y) ∧ h.IsTupleIter i1 a i ∧ h.IsListIter i2 b i
theorem turn_zipM {P : Program} {w : World} {K : PySem.W.Frag} {elts : List Expr} {kk : Nat} {tpos : Pos} {a b z TI TO i1 i2 : Addr} (S : ZipSep2 z TI TO i1 i2 [i1, a] [i2, b]) (ha : a ≠ i1) (hb : b ≠ i2) :
    Turn P w K (.Tuple elts kk tpos) (ItzM K a b) [z, TI, TO, i1, i2] z (ZipSt z TI TO i1 i2 a b) where
  mem := by simp
  obj := fun i h st c hc => by
    obtain ⟨hz, hTI, ⟨x, y, hTO⟩, ⟨o1, e1, _, d1⟩, ⟨o2, e2, _, d2⟩⟩ := st
    have e' : c = z ∨ c = TI ∨ c = TO ∨ c = i1 ∨ c = i2 := by simpa using hc
    rcases e' with rfl | rfl | rfl | rfl | rfl
    · exact ⟨_, hz, fun v q => nomatch q⟩
    · exact ⟨_, hTI, fun v q => nomatch q⟩
    · exact ⟨_, hTO, fun v q => nomatch q⟩
    · exact ⟨o1, e1, fun v q => by rw [d1] at q; cases q⟩
    · exact ⟨o2, e2, fun v q => by rw [d2] at q; cases q⟩
  keep := fun i h h' st k => by
    obtain ⟨hz, hTI, ⟨x, y, hTO⟩, h1, h2⟩ := st
    exact ⟨k z (by simp) _ hz, k TI (by simp) _ hTI, ⟨x, y, k TO (by simp) _ hTO⟩, h1.at fun o q => k i1 (by simp) o q, h2.at fun o q => k i2 (by simp) o q⟩
  item := by
    intro X hP hw hK hc i pins s σ H E I hf st hg
    subst hP hw hK
    obtain ⟨hz, hTI, ⟨x0, y0, hTO⟩, h1, h2⟩ := st
    obtain ⟨xs, ys, x, y, hqx, hqy, hx, hy⟩ := hg
    obtain ⟨its, rv, p1, _⟩ := I.tuple hqx
    obtain ⟨its2, rv2, p2, _⟩ := I.list hqy
    obtain ⟨u, hu, ru⟩ := rv.get hx
    obtain ⟨u2, hu2, ru2⟩ := rv2.get hy
    have below : z < s.heap.objs.size ∧ TI < s.heap.objs.size ∧ TO < s.heap.objs.size ∧ i1 < s.heap.objs.size ∧ i2 < s.heap.objs.size :=
      ⟨Heap.lt_size hz, Heap.lt_size hTI, Heap.lt_size hTO, by obtain ⟨_, e, _⟩ := h1; exact Heap.lt_size e, by obtain ⟨_, e, _⟩ := h2; exact Heap.lt_size e⟩
    have l1 : i < its.toArray.size := by obtain ⟨q, _⟩ := List.getElem?_eq_some_iff.mp hu; simpa using q
    have l2 : i < its2.toArray.size := by obtain ⟨q, _⟩ := List.getElem?_eq_some_iff.mp hu2; simpa using q
    refine wpAny_pyNext_zipD2_item (i := i) S (Draws.tuple (A := X.A.in1) (I.ok.hd hc) i1 a ha its.toArray) (Draws.list (A := X.A.in1) (I.ok.hd hc) i2 b hb its2.toArray) hz hTI hTO ⟨h1, p1⟩ ⟨h2, p2.isList⟩ l1 l2 fun x1 x2 h' tk e1 e2 z' TO' s1' s2' hT hsz hk => ?_
    obtain rfl : x1 = u := Option.some.inj (e1.symm.trans (by simpa using hu))
    obtain rfl : x2 = u2 := Option.some.inj (e2.symm.trans (by simpa using hu2))
    refine ⟨_, rfl, wpAny_letOwnedTupleGo_zip (s := { s with heap := h', toks := tk }) z' fun h'' z'' sb => ?_⟩
    have hT2 : h''.get? s.heap.objs.size = some { cls := .type "tuple", data := .seq #[x1, x2] } := (sb.2 _ (Nat.ne_of_gt below.1)).trans hT
    have I1 : Inv X pins σ (upd H s.heap.objs.size (.tup [x, y])) { s with heap := h'', toks := tk } :=
      I.turnedNew (ch := [z, TI, TO, i1, i2]) (fun c o hb q => (sb.2 c (fun q' => hb (by simp [q']))).trans (hk c o (fun q' => hb (by simp [q'])) (fun q' => hb (by simp [q'])) (fun q' => hb (by simp [q'])) (fun q' => hb (by simp [q'])) q)) hf (Nat.le_refl _)
        ⟨by show 2 ≤ sizeLine; decide, [x1, x2], .cons ru (.cons ru2 .nil), ⟨_, hT2, rfl, _, rfl⟩⟩
    have TI' : IsTupOf2 h' TI (.ref i1) (.ref i2) := hk _ _ S.TIz S.TITO S.TIi1 S.TIi2 hTI
    refine ⟨.ref s.heap.objs.size, _, I1, rfl, ⟨_, x, y, rfl, I.hok.fresh (Nat.le_refl _), rfl, fun l hl => by rw [I.tuple_inj hl hqx]; exact hx, fun l hl => by rw [I.list_inj hl hqy]; exact hy⟩, ⟨z'', (sb.2 _ S.TIz).trans TI', ⟨x1, x2, (sb.2 _ S.TOz).trans TO'⟩, s1'.1.at fun o q => (sb.2 _ (Ne.symm S.zi1)).trans q, s2'.1.at fun o q => (sb.2 _ (Ne.symm S.zi2)).trans q⟩, fun c hcm => ?_⟩
    have lt : c < s.heap.objs.size := by
      have e' : c = z ∨ c = TI ∨ c = TO ∨ c = i1 ∨ c = i2 := by simpa using hcm
      rcases e' with rfl | rfl | rfl | rfl | rfl
      · exact below.1
      · exact below.2.1
      · exact below.2.2.1
      · exact below.2.2.2.1
      · exact below.2.2.2.2
    rw [upd_ne (Nat.ne_of_lt lt)]
    exact (hf c hcm).1
  done := by
    intro X hP hw hK hc i pins s σ H E I hf st hg
    subst hP hw hK
    obtain ⟨hz, hTI, ⟨x0, y0, hTO⟩, h1, h2⟩ := st
    obtain ⟨xs, ys, hqx, hqy, hend, le1, le2⟩ := hg
    obtain ⟨its, rv, p1, _⟩ := I.tuple hqx
    obtain ⟨its2, rv2, p2, _⟩ := I.list hqy
    have l1 := rv.length
    have l2 := rv2.length
    exact wpAny_pyNext_zipD2_end (i := i) S (Draws.tuple (A := X.A.in1) (I.ok.hd hc) i1 a ha its.toArray) (Draws.list (A := X.A.in1) (I.ok.hd hc) i2 b hb its2.toArray) hz hTI hTO ⟨h1, p1⟩ ⟨h2, p2.isList⟩
      (by rw [List.size_toArray]; omega) (by rw [List.size_toArray]; omega) (by rw [List.size_toArray, List.size_toArray]; omega) fun h' tk hk => ⟨rfl, I.turnedL (t' := tk) (ch := [z, TI, TO, i1, i2]) (fun c o hb q =>
        hk c o (fun q' => hb (by simp [q'])) (fun q' => hb (by simp [q'])) (fun q' => hb (by simp [q'])) (fun q' => hb (by simp [q'])) q) hf⟩
  self := fun A i s Q E st h => wpAny_pyIter_zip st.1 h
/-- zip(a, b), a a tuple, b a list or a tuple -/
def iZipS (K : PySem.W.Frag) (ta : TA) : TI := fun σ H R => ta σ H fun vs H1 => ∃ a b xs ys, vs = [.ref a, .ref b] ∧ SqT K H1 a xs ∧ ((SqL K H1 b ys ∧ R (ItzM K a b) H1) ∨ (SqT K H1 b ys ∧ R (RZ.ItzT K a b) H1))
theorem pi_zipS {X : Cx} {e e2 : Expr} {ta : TA} {p pos tpos : Pos} {elts : List Expr} {kk : Nat} (hg : Gl X "zip") (hm : X.mg "zip" = none) (ha : PA X [e, e2] ta)
    (hs : starEach [e, e2] X.env = (false, eval e X.env) :: starEach [e2] X.env := by rfl) (hpl : (backTo pos (starEach [e2] X.env)).any (·.1) = false := by rfl) :
    PI X (.Tuple elts kk tpos) (.Call (.Name "zip" p) [e, e2] [] pos) (iZipS X.K ta) := by
  refine ⟨fun pins s σ H R I h => ?_⟩
  refine Call_ (ld_blt I hg hm PyProof.Rows.boot_zip (PyProof.Rows.callWith_type1 (thn (ha.run pos pins s σ H _ I h) fun us s1 ⟨vs, H1, I1, r1, q1⟩ => ?_) hs hpl))
  obtain ⟨a, b, xs, ys, rfl, hqx, q1⟩ := q1
  cases r1 with
  | cons r rr =>
    cases rr with
    | cons r' rr =>
      cases rr
      cases r
      cases r'
      have fresh : ∀ c, c ∈ [s1.heap.objs.size + 4, s1.heap.objs.size + 2, s1.heap.objs.size + 3, s1.heap.objs.size, s1.heap.objs.size + 1] → FpOk X pins H1 c := fun c hc => by
        have le : s1.heap.objs.size ≤ c := by
          have e' : c = s1.heap.objs.size + 4 ∨ c = s1.heap.objs.size + 2 ∨ c = s1.heap.objs.size + 3 ∨ c = s1.heap.objs.size ∨ c = s1.heap.objs.size + 1 := by simpa using hc
          have : ∀ k : Nat, s1.heap.objs.size ≤ s1.heap.objs.size + k := fun k => Nat.le_add_right _ _
          rcases e' with rfl | rfl | rfl | rfl | rfl
          · exact this 4
          · exact this 2
          · exact this 3
          · exact Nat.le_refl _
          · exact this 1
        exact I1.fpOk le (I1.hok.fresh le)
      obtain ⟨its, rv, p1, _⟩ := I1.tuple hqx
      have lta : a < s1.heap.objs.size := by obtain ⟨o, ho, _⟩ := id p1; exact Heap.lt_size ho
      rcases q1 with ⟨hqy, q⟩ | ⟨hqy, q⟩
      · obtain ⟨its2, rv2, p2, _⟩ := I1.list hqy
        have ltb := p2.lt
        refine zip_begins2 (begins_tuple a its.toArray) (begins_list b its2.toArray) p1 p2.isList fun h' hz hTI hTO g1 g2 hsz hk => wpAny_pyIter_zip hz ?_
        have S := zip_sep2 (N := s1.heap.objs.size) (fp1 := [a]) (fp2 := [b]) (fun c hc => by rw [List.mem_singleton.mp hc]; exact lta) (fun c hc => by rw [List.mem_singleton.mp hc]; exact ltb)
        exact ⟨s1.heap.objs.size + 4, [s1.heap.objs.size + 4, s1.heap.objs.size + 2, s1.heap.objs.size + 3, s1.heap.objs.size, s1.heap.objs.size + 1], _, _, H1, rfl, I1.kept (t' := s1.toks) hk,
          turn_zipM S (Nat.ne_of_lt lta) (Nat.ne_of_lt (Nat.lt_succ_of_lt ltb)), ⟨hz, hTI, ⟨_, _, hTO⟩, ⟨_, g1, rfl, rfl⟩, ⟨_, g2, rfl, rfl⟩⟩, fresh, q⟩
      · obtain ⟨its2, rv2, p2, _⟩ := I1.tuple hqy
        have ltb : b < s1.heap.objs.size := by obtain ⟨o, ho, _⟩ := id p2; exact Heap.lt_size ho
        refine zip_begins2 (begins_tuple a its.toArray) (begins_tuple b its2.toArray) p1 p2 fun h' hz hTI hTO g1 g2 hsz hk => wpAny_pyIter_zip hz ?_
        exact ⟨s1.heap.objs.size + 4, [s1.heap.objs.size + 4, s1.heap.objs.size + 2, s1.heap.objs.size + 3, s1.heap.objs.size, s1.heap.objs.size + 1], _, _, H1, rfl, I1.kept (t' := s1.toks) hk,
          RZ.turn_zipT (PySem.W.ktu_apart s1.heap.objs.size a b lta ltb), ⟨hz, hTI, ⟨_, _, hTO⟩, ⟨_, g1, rfl, rfl⟩, ⟨_, g2, rfl, rfl⟩⟩, fresh, q⟩
theorem walk_zipM {K : PySem.W.Frag} {a b : Addr} {xs ys : List V} (hl : xs.length = ys.length) : Walk (ItzM K a b) xs.length (fun H => SqT K H a xs ∧ SqL K H b ys) (YPair (fun i => xs[i]?) (fun i => ys[i]?)) := by
  refine ⟨fun i _ hi q => ?_, fun _ q => ⟨xs, ys, q.1, q.2, .inl rfl, Nat.le_refl _, by omega⟩, fun i H v H' _ q y => ?_⟩
  · exact ⟨xs, ys, xs[i], ys[i], q.1, q.2, by simp [hi], by simp [hl ▸ hi]⟩
  · obtain ⟨T, x, z, h1, h2, h3, h4, h5⟩ := y
    exact ⟨T, x, z, h1, h2, h3, h4 xs q.1, h5 ys q.2⟩
theorem walk_zipTT {K : PySem.W.Frag} {a b : Addr} {xs ys : List V} (hl : xs.length = ys.length) : Walk (RZ.ItzT K a b) xs.length (fun H => SqT K H a xs ∧ SqT K H b ys) (YPair (fun i => xs[i]?) (fun i => ys[i]?)) := by
  refine ⟨fun i _ hi q => ?_, fun _ q => ⟨xs, ys, q.1, q.2, .inl (Nat.le_refl _)⟩, fun i H v H' _ q y => ?_⟩
  · exact ⟨xs, ys, xs[i], ys[i], q.1, q.2, by simp [hi], by simp [hl ▸ hi]⟩
  · obtain ⟨T, x, z, h1, h2, h3, h4, h5⟩ := y
    exact ⟨T, x, z, h1, h2, h3, h4 xs q.1, h5 ys q.2⟩
theorem pg_tupK {X : Cx} {es : List Expr} {k : Nat} {t : TGs} {n : Nat} {K : PySem.W.Frag} {pos : Pos} (eK : X.K = K) (hc : X.calm = true) (h : PGs X es t)
    (hn : (assignEach es X.env).length = n := by rfl) (hst : (assignEach es X.env).findIdx? (·.1) = none := by rfl) : PG X (.Tuple es k pos) (gTup K n t) := eK ▸ pg_tup hc h hn hst
/-! ### x[i], x[lo:hi], list(x) of a list or a tuple -/
section
variable {X : Cx}
def rIxA : R2 := fun x y H Q => ∃ p i xs v, x = .ref p ∧ y = .int i ∧ (H p = some (.lst xs) ∨ H p = some (.tup xs)) ∧ atI xs i = some v ∧ Q v H
theorem ix_A : IxR X rIxA := by
  intro e1 e2 pn st sg Hh x y u v Qq J rx ry ⟨p, i, xs, z, a, b, h, at_, q⟩
  rcases h with h | h
  · exact ix_H e1 e2 pn st sg Hh x y u v Qq J rx ry ⟨p, i, xs, z, a, b, h, at_, q⟩
  · exact ix_TH e1 e2 pn st sg Hh x y u v Qq J rx ry ⟨p, i, xs, z, a, b, h, at_, q⟩
def rSlS (K : PySem.W.Frag) : V → Option Int → Option Int → Hp → VK → Prop := fun x lo hi H Q => ∃ a xs, x = .ref a ∧ ((H a = some (.lst xs) ∧ ∀ p H', Same H H' → H' p = some (.lst (cutV xs lo hi)) → Q (.ref p) H') ∨ (H a = some (.tup xs) ∧ ∀ p H', Same H H' → H' p = some (.tup (cutV xs lo hi)) → Q (.ref p) H'))
theorem sl_A : SlR X (rSlS X.K) := by
  intro pins s σ H x v vl vu lo hi sl Q I rx hs pl pu ⟨a, xs, e, h⟩
  rcases h with ⟨h, q⟩ | ⟨h, q⟩
  · exact sl_list pins s σ H x v vl vu lo hi sl Q I rx hs pl pu ⟨a, xs, e, .inl (.inl h), fun p hp => q p _ (same_upd hp) upd_same⟩
  · subst e
    exact sl_tupA pins s σ H _ v vl vu lo hi sl Q I rx hs pl pu (sl_use h q)
theorem call_listA : CallR X (.type "list") (fun xs H Q => ∃ p ys, xs = [.ref p] ∧ (H p = some (.lst ys) ∨ H p = some (.tup ys)) ∧ ∀ l, H l = none → Q (.ref l) (upd H l (.lst ys))) :=
  CallR.weak call_list_of fun _ _ _ ⟨p, ys, e1, e2, q⟩ => ⟨p, ys, e1, e2.elim (fun e => .inl (.inl (.inl e))) (fun e => .inr (.inl (.inl e))), q⟩
end
/-- a comprehension over enumerate of a tuple of whole numbers, by two names -/
theorem Lc.enumI {j1 j2 : Nat} {tt : TT} {te : TE} {vs : List Nat} {D : Addr} {σ : L2.St} {H1 : Hp} {Q : VK} {K : PySem.W.Frag} {a : Addr} {w : List Int} (kept : Nat → Option V) (hs : H1 a = some (.tup (w.map V.int))) (hD : H1 D = none) (hn : w.length ≤ 100000)
    (hw : ∀ x y : V, wipe (((wipe σ vs).set j1 (some x)).set j2 (some y)) vs = wipe σ vs)
    (step : ∀ i H (Qk : VK) (Qn : Hp → Prop), i < w.length → Same H1 H → (∀ y H4, Same H H4 → kept i = some y → Qk y H4) → (∀ H3, Same H H3 → kept i = none → Qn H3) →
      tt (((wipe σ vs).set j1 (some (.int (i : Nat)))).set j2 (some (.int (w.getD i 0)))) H fun b H3 => if b = true then te (((wipe σ vs).set j1 (some (.int (i : Nat)))).set j2 (some (.int (w.getD i 0)))) H3 Qk else Qn H3)
    (fin : ∀ H', Same H1 H' → H' D = some (.lst ((List.range w.length).filterMap kept)) → Q (.ref D) H') : Lc (IteT K a) (gTup K 2 (gCons (gName j1) (gCons (gName j2) gNil))) tt te vs D σ H1 Q := by
  have wk := walk_enumT (K := K) (a := a) (xs := w.map V.int)
  rw [List.length_map] at wk
  refine Lc.by wk (fun i H => Same H1 H ∧ H D = some (.lst ((List.range i).filterMap kept))) ⟨same_upd hD, upd_same⟩ (fun i H _ p => .inl (.inl (p.1 _ _ hs))) ?_ fun H p => fin H p.1 p.2
  rintro i x H H' hi ⟨sm, hd⟩ ⟨T, v, y, rfl, hT, rfl, ev, ey⟩
  dsimp only at ev ey
  cases ev
  rw [List.getElem?_map, getD_at hi] at ey
  cases ey
  have sT := same_upd (o := HO.tup [V.int (i : Nat), V.int (w.getD i 0)]) hT
  refine ⟨T, _, rfl, .inl (.inl upd_same), rfl, ?_⟩
  simp only [gCons, gNil, gName, List.cons.injEq, and_true, exists_and_left, exists_eq_left', true_and, and_assoc]
  refine ⟨hw _ _, step i _ _ _ hi (sm.trans sT) (fun y H4 s4 hk => ⟨_, s4 _ _ (sT _ _ hd), ?_, fun b o e => ?_, ?_⟩) fun H3 s3 hk => ⟨(sm.trans sT).trans s3, ?_⟩⟩
  · refine Nat.lt_of_le_of_lt (Nat.le_trans (List.length_filterMap_le _ _) (by rw [List.length_range]; exact Nat.le_trans (Nat.le_of_lt hi) hn)) (by rw [sizeLine_eq]; omega)
  · rw [upd_ne (ne_of_none e hD)]; exact s4 _ _ (sT _ _ (sm _ _ e))
  · rw [upd_same, List.range_succ, List.filterMap_append, List.filterMap_cons_some hk]; rfl
  · rw [s3 _ _ (sT _ _ hd), List.range_succ, List.filterMap_append, List.filterMap_cons_none hk]; simp
theorem ixN_back {n : Nat} (h : 0 < n) : ixN n (-1) = some (n - 1) := by
  unfold ixN
  rw [if_neg (by omega), if_pos (by omega)]
  congr 1
  omega
theorem atI_back {w : List Int} (h : 0 < w.length) : atI (w.map V.int) (-1) = some (V.int (w.getD (w.length - 1) 0)) := by
  unfold atI
  rw [List.length_map, ixN_back h, Option.bind_some, List.getElem?_map, getD_at (by omega)]
  rfl
theorem map_set {w : List Int} {i : Nat} {z : Int} : (w.map V.int).set i (V.int z) = (w.set i z).map V.int := List.map_set.symm
/-- a for over zip of a tuple and a list or a tuple (isT) of one length -/
theorem zipS_by {K : PySem.W.Frag} {a b : Addr} {xs ys : List V} {g : TG} {tb : TS} {D : Ends} {σ : L2.St} {H : Hp} (isT : Bool) (hl : xs.length = ys.length) (Pv : Nat → L2.St → Hp → Prop) (h0 : Pv 0 σ H)
    (hG : ∀ i σ' H', Pv i σ' H' → SqT K H' a xs ∧ (isT = false → SqL K H' b ys) ∧ (isT = true → SqT K H' b ys))
    (hs : ∀ i x y σ' H' T, i < xs.length → Pv i σ' H' → xs[i]? = some x → ys[i]? = some y → H' T = none → g (.ref T) σ' (upd H' T (.tup [x, y])) fun s2 H2 => tb { D with nx := Pv (i + 1), ct := Pv (i + 1), bk := D.nx } s2 H2) (hd : ∀ σ' H', Pv xs.length σ' H' → D.nx σ' H') :
    ∃ zs, (SqL K H b zs ∧ Loop (ItzM K a b) g tb D σ H) ∨ (SqT K H b zs ∧ Loop (RZ.ItzT K a b) g tb D σ H) := by
  have step : ∀ i x σ' H' H'', i < xs.length → Pv i σ' H' → YPair (fun i => xs[i]?) (fun i => ys[i]?) i H' x H'' → g x σ' H'' fun s2 H2 => tb { D with nx := Pv (i + 1), ct := Pv (i + 1), bk := D.nx } s2 H2 := by
    intro i x σ' H' H'' hi p ⟨T, v, y, e, hT, e2, ev, ey⟩
    subst e e2
    exact hs i v y σ' H' T hi p ev ey hT
  obtain ⟨_, hL, hT⟩ := hG 0 σ H h0
  refine ⟨ys, ?_⟩
  cases isT with
  | false => exact .inl ⟨hL rfl, Loop.by (walk_zipM hl) Pv h0 (fun i σ' H' _ p => ⟨(hG i σ' H' p).1, (hG i σ' H' p).2.1 rfl⟩) step hd⟩
  | true => exact .inr ⟨hT rfl, Loop.by (walk_zipTT hl) Pv h0 (fun i σ' H' _ p => ⟨(hG i σ' H' p).1, (hG i σ' H' p).2.2 rfl⟩) step hd⟩
end Mine

namespace Mine
open PySem PySem.Spec PyProof.Rows L2
/-! ### data, without the heap -/
inductive Dt where
  | non | bl (b : Bool) | int (i : Int) | str (x : Str)
  | tup (xs : List Dt) | lst (xs : List Dt)
  | dk (ks : List Key) (vs : List Dt)
  | dt (ks : List (List Key)) (vs : List Dt)
  | ins (C : Str) (ns : List Str) (vs : List Dt)
  | raw (v : V)
mutual
/-- in the heap H the value v is this data -/
inductive Den (K : PySem.W.Frag) (H : Hp) : V → Dt → Prop
  | non : Den K H .non .non
  | bl (b : Bool) : Den K H (.bl b) (.bl b)
  | int (i : Int) : Den K H (.int i) (.int i)
  | str (x : Str) : Den K H (.str x) (.str x)
  | tup {a : Addr} {xs : List V} {ds : List Dt} : H a = some (.tup xs) → DenAll K H xs ds → Den K H (.ref a) (.tup ds)
  | lst {a : Addr} {xs : List V} {ds : List Dt} : H a = some (.lst xs) → DenAll K H xs ds → Den K H (.ref a) (.lst ds)
  | dk {a : Addr} {ks : List Key} {vs : List V} {ds : List Dt} : H a = some (.dK (ks.zip vs)) → ks.length = vs.length → DenAll K H vs ds → Den K H (.ref a) (.dk ks ds)
  | dt {a : Addr} {ks : List (List Key)} {vs : List V} {ds : List Dt} : H a = some (.dT (ks.zip vs)) → ks.length = vs.length → DenAll K H vs ds → Den K H (.ref a) (.dt ks ds)
  | ins {a dx : Addr} {C : Str} {ns : List Str} {vs : List V} {ds : List Dt} : H a = some (.ins (He.ga K C) dx (ns.zip vs)) → ns.length = vs.length → DenAll K H vs ds → Den K H (.ref a) (.ins C ns ds)
  | raw (v : V) : Den K H v (.raw v)
inductive DenAll (K : PySem.W.Frag) (H : Hp) : List V → List Dt → Prop
  | nil : DenAll K H [] []
  | cons {v : V} {vs : List V} {d : Dt} {ds : List Dt} : Den K H v d → DenAll K H vs ds → DenAll K H (v :: vs) (d :: ds)
end
section
variable {K : PySem.W.Frag} {H H' : Hp}
mutual
theorem Den.mono (s : Same H H') : ∀ {v : V} {d : Dt}, Den K H v d → Den K H' v d
  | _, _, .non => .non
  | _, _, .bl b => .bl b
  | _, _, .int i => .int i
  | _, _, .str x => .str x
  | _, _, .tup h a => .tup (s _ _ h) (DenAll.mono s a)
  | _, _, .lst h a => .lst (s _ _ h) (DenAll.mono s a)
  | _, _, .dk h l a => .dk (s _ _ h) l (DenAll.mono s a)
  | _, _, .dt h l a => .dt (s _ _ h) l (DenAll.mono s a)
  | _, _, .ins h l a => .ins (s _ _ h) l (DenAll.mono s a)
  | _, _, .raw v => .raw v
theorem DenAll.mono (s : Same H H') : ∀ {vs : List V} {ds : List Dt}, DenAll K H vs ds → DenAll K H' vs ds
  | _, _, .nil => .nil
  | _, _, .cons a b => .cons (Den.mono s a) (DenAll.mono s b)
end
theorem DenAll.length : ∀ {vs : List V} {ds : List Dt}, DenAll K H vs ds → vs.length = ds.length
  | _, _, .nil => rfl
  | _, _, .cons _ b => by rw [List.length_cons, List.length_cons, b.length]
theorem DenAll.append : ∀ {vs us : List V} {ds es : List Dt}, DenAll K H vs ds → DenAll K H us es → DenAll K H (vs ++ us) (ds ++ es)
  | _, _, _, _, .nil, b => b
  | _, _, _, _, .cons a r, b => .cons a (r.append b)
theorem DenAll.snoc {vs : List V} {ds : List Dt} {v : V} {d : Dt} (a : DenAll K H vs ds) (b : Den K H v d) : DenAll K H (vs ++ [v]) (ds ++ [d]) := a.append (.cons b .nil)
theorem DenAll.get : ∀ {vs : List V} {ds : List Dt} {i : Nat} {d : Dt}, DenAll K H vs ds → ds[i]? = some d → ∃ v, vs[i]? = some v ∧ Den K H v d
  | _, _, _, _, .nil, e => by simp at e
  | _, _, 0, _, .cons a _, e => by
    simp at e; subst e
    exact ⟨_, rfl, a⟩
  | _, _, i + 1, d, .cons _ r, e => by
    obtain ⟨v, h1, h2⟩ := DenAll.get (i := i) (d := d) r (by simpa using e)
    exact ⟨v, by simpa using h1, h2⟩
theorem DenAll.getV : ∀ {vs : List V} {ds : List Dt} {i : Nat} {v : V}, DenAll K H vs ds → vs[i]? = some v → ∃ d, ds[i]? = some d ∧ Den K H v d
  | _, _, _, _, .nil, e => by simp at e
  | _, _, 0, _, .cons a _, e => by
    simp at e; subst e
    exact ⟨_, rfl, a⟩
  | _, _, i + 1, d, .cons _ r, e => by
    obtain ⟨v, h1, h2⟩ := DenAll.getV (i := i) (v := d) r (by simpa using e)
    exact ⟨v, by simpa using h1, h2⟩
theorem DenAll.set : ∀ {vs : List V} {ds : List Dt} {v : V} {d : Dt} (i : Nat), DenAll K H vs ds → Den K H v d → DenAll K H (vs.set i v) (ds.set i d)
  | _, _, _, _, _, .nil, _ => .nil
  | _, _, _, _, 0, .cons _ r, b => .cons b r
  | _, _, _, _, i + 1, .cons a r, b => .cons a (DenAll.set i r b)
theorem DenAll.take : ∀ {vs : List V} {ds : List Dt} (n : Nat), DenAll K H vs ds → DenAll K H (vs.take n) (ds.take n)
  | _, _, 0, _ => by simp; exact .nil
  | _, _, _ + 1, .nil => .nil
  | _, _, n + 1, .cons a r => .cons a (DenAll.take n r)
theorem DenAll.drop : ∀ {vs : List V} {ds : List Dt} (n : Nat), DenAll K H vs ds → DenAll K H (vs.drop n) (ds.drop n)
  | _, _, 0, r => r
  | _, _, _ + 1, .nil => .nil
  | _, _, n + 1, .cons _ r => DenAll.drop n r
theorem DenAll.dropLast : ∀ {vs : List V} {ds : List Dt}, DenAll K H vs ds → DenAll K H vs.dropLast ds.dropLast := by
  intro vs ds h
  rw [List.dropLast_eq_take, List.dropLast_eq_take, h.length]
  exact h.take _
theorem DenAll.reverse : ∀ {vs : List V} {ds : List Dt}, DenAll K H vs ds → DenAll K H vs.reverse ds.reverse
  | _, _, .nil => .nil
  | _, _, .cons a r => by
    rw [List.reverse_cons, List.reverse_cons]
    exact r.reverse.snoc a
theorem DenAll.replicate {vs : List V} {ds : List Dt} (h : DenAll K H vs ds) : ∀ n : Nat, DenAll K H (List.replicate n vs).flatten (List.replicate n ds).flatten
  | 0 => .nil
  | n + 1 => by
    rw [List.replicate_succ, List.replicate_succ, List.flatten_cons, List.flatten_cons]
    exact h.append (DenAll.replicate h n)
theorem DenAll.ints : ∀ w : List Int, DenAll K H (w.map V.int) (w.map Dt.int)
  | [] => .nil
  | x :: w => .cons (.int x) (DenAll.ints w)
end
/-- things whose value says all -/
def Dt.flat : Dt → Option V
  | .non => some .non
  | .bl b => some (.bl b)
  | .int i => some (.int i)
  | .str x => some (.str x)
  | .raw v => some v
  | _ => none
theorem Den.flat {K : PySem.W.Frag} {H : Hp} {v u : V} {d : Dt} (h : Den K H v d) (e : d.flat = some u) : v = u := by
  cases h <;> first
    | (injection e with e; try exact e)
    | cases e
theorem Den.of_flat {K : PySem.W.Frag} {H : Hp} {u : V} {d : Dt} (e : d.flat = some u) : Den K H u d := by
  cases d <;> first
    | (injection e with e; subst e; first | exact .non | exact .bl _ | exact .int _ | exact .str _ | exact .raw _)
    | cases e
/-! ### hidden things -/
open Classical in
/-- the heap without what X hides -/
noncomputable def vis (H : Hp) (X : Addr → Prop) : Hp := fun a => if X a then none else H a
theorem vis_of {H : Hp} {X : Addr → Prop} {a : Addr} {o : HO} (h : vis H X a = some o) : ¬ X a ∧ H a = some o := by
  unfold vis at h
  split at h
  · cases h
  · exact ⟨by assumption, h⟩
theorem vis_mk {H : Hp} {X : Addr → Prop} {a : Addr} {o : HO} (n : ¬ X a) (h : H a = some o) : vis H X a = some o := by
  unfold vis
  rw [if_neg n]; exact h
theorem vis_sub {H : Hp} {X : Addr → Prop} : Same (vis H X) H := fun _ _ h => (vis_of h).2
theorem vis_anti {H : Hp} {X Y : Addr → Prop} (h : ∀ a, X a → Y a) : Same (vis H Y) (vis H X) := fun _ _ e => vis_mk (fun x => (vis_of e).1 (h _ x)) (vis_of e).2
/-- the hand at h, its cells at c -/
def HandC (H : Hp) (h c : Addr) : Prop := ∃ (cells : List Int) (at_ : Nat) (big mix : Int), H h = some (.lst [.ref c, .int at_, .int big, .int mix]) ∧ H c = some (.lst (cells.map V.int)) ∧
  (∀ z ∈ cells, 0 ≤ z) ∧ at_ ≤ cells.length ∧ cells.length ≤ 63 ∧ 0 ≤ big ∧ 0 ≤ mix ∧ mix < 2147483563
abbrev Hnd := Option (Addr × Addr)
/-- all stands but the hand, which is a hand still -/
def Frm (hd : Hnd) (H H' : Hp) : Prop := (∀ a o, H a = some o → (∀ h c, hd = some (h, c) → a ≠ h) → H' a = some o) ∧ ∀ h c, hd = some (h, c) → HandC H h c → HandC H' h c
theorem HandC.same {H H' : Hp} {h c : Addr} (x : HandC H h c) (s : Same H H') : HandC H' h c := by
  obtain ⟨cells, at_, big, mix, a, b, r⟩ := x
  exact ⟨cells, at_, big, mix, s _ _ a, s _ _ b, r⟩
theorem Frm.refl {hd : Hnd} (H : Hp) : Frm hd H H := ⟨fun _ _ e _ => e, fun _ _ _ x => x⟩
theorem Frm.trans {hd : Hnd} {H H1 H2 : Hp} (a : Frm hd H H1) (b : Frm hd H1 H2) : Frm hd H H2 := ⟨fun p o e n => b.1 p o (a.1 p o e n) n, fun h c e x => b.2 h c e (a.2 h c e x)⟩
theorem Frm.same {hd : Hnd} {H H' : Hp} (s : Same H H') : Frm hd H H' := ⟨fun _ _ e _ => s _ _ e, fun _ _ _ x => x.same s⟩
theorem Frm.out {H H' : Hp} (f : Frm Option.none H H') : Same H H' := fun a o e => f.1 a o e fun _ _ z => by cases z
theorem Frm.of_none {hd : Hnd} {H H' : Hp} (f : Frm Option.none H H') : Frm hd H H' := .same f.out
theorem Frm.upd {hd : Hnd} {H : Hp} {p : Addr} {o : HO} (h : H p = Option.none) : Frm hd H (upd H p o) := .same (same_upd h)
/-! ### where one stands -/
/-- fixed through a body: the facts' part, the heap and what is hidden at its entry, the hand, the exception in hand, what is wished of an exception -/
structure Bc where
  K : PySem.W.Frag
  H0 : Hp
  X0 : Addr → Prop
  hd : Hnd
  ex : Option (Addr × Value × Option Addr)
  E : L2.St → XK
  /-- self while it is made -/
  me : Option Addr
/-- a list, a dict of one's own -/
inductive Ow where
  | lst (xs : List Dt) | dk (ks : List Key) (vs : List Dt) | dt (ks : List (List Key)) (vs : List Dt)
def Ow.fz : Ow → Dt
  | .lst xs => .lst xs
  | .dk ks vs => .dk ks vs
  | .dt ks vs => .dt ks vs
inductive DenO (K : PySem.W.Frag) (H : Hp) : HO → Ow → Prop
  | lst {vs : List V} {xs : List Dt} : DenAll K H vs xs → DenO K H (.lst vs) (.lst xs)
  | dk {ks : List Key} {vs : List V} {xs : List Dt} : ks.length = vs.length → DenAll K H vs xs → DenO K H (.dK (ks.zip vs)) (.dk ks xs)
  | dt {ks : List (List Key)} {vs : List V} {xs : List Dt} : ks.length = vs.length → DenAll K H vs xs → DenO K H (.dT (ks.zip vs)) (.dt ks xs)
theorem DenO.mono {K : PySem.W.Frag} {H H' : Hp} (s : Same H H') {u : HO} {o : Ow} (h : DenO K H u o) : DenO K H' u o := by
  cases h with
  | lst a => exact .lst (a.mono s)
  | dk l a => exact .dk l (a.mono s)
  | dt l a => exact .dt l (a.mono s)
theorem DenO.fz {K : PySem.W.Frag} {H : Hp} {u : HO} {o : Ow} {p : Addr} (h : DenO K H u o) (e : H p = some u) : Den K H (.ref p) o.fz := by
  cases h with
  | lst a => exact .lst e a
  | dk l a => exact .dk e l a
  | dt l a => exact .dt e l a
theorem DenO.noins {K : PySem.W.Frag} {H : Hp} {C dx : Addr} {fs : List (Str × V)} {o : Ow} (h : DenO K H (.ins C dx fs) o) : False := by cases h
/-- what a slot holds: nothing that is known, data, a list of one's own, the hand, an exception in hand -/
inductive Sl where
  | no | d (x : Dt) | own (o : Ow) | hand | exc (c : Str) (fs : List (Str × V))
  /-- an instance of one's own: self while it is made -/
  | ins (C : Str) (ns : List Str) (ds : List Dt)
def IsIns (env : List Sl) (i : Nat) : Prop := ∃ C ns ds, env[i]? = some (.ins C ns ds)
/-- only the first slot holds an instance of one's own -/
def One (env : List Sl) : Prop := ∀ i, IsIns env i → i = 0
theorem One.set {env : List Sl} (h : One env) {j : Nat} {s : Sl} (hs : ∀ C ns ds, s ≠ .ins C ns ds) : One (env.set j s) := fun i ⟨C, ns, ds, e⟩ => by
  rw [List.getElem?_set] at e
  split at e
  · split at e
    · injection e with e; exact absurd e (hs C ns ds)
    · cases e
  · exact h i ⟨C, ns, ds, e⟩
theorem One.set0 {env : List Sl} (h : One env) {s : Sl} : One (env.set 0 s) := fun i ⟨C, ns, ds, e⟩ => by
  rw [List.getElem?_set] at e
  split at e
  · rename_i c; exact c.symm
  · exact h i ⟨C, ns, ds, e⟩
theorem One.map {env : List Sl} (h : One env) {f : Sl → Sl} (hf : ∀ s C ns ds, f s = .ins C ns ds → s = .ins C ns ds) : One (env.map f) := fun i ⟨C, ns, ds, e⟩ => by
  rw [List.getElem?_map, Option.map_eq_some_iff] at e
  obtain ⟨s, e1, e2⟩ := e
  exact h i ⟨C, ns, ds, by rw [e1, hf _ _ _ _ e2]⟩
def SlRep (C : Bc) (X : Addr → Prop) (H : Hp) : Sl → Option V → Prop
  | .no, _ => True
  | .d x, o => ∃ v, o = some v ∧ Den C.K (vis H X) v x
  | .own w, o => ∃ p u, o = some (.ref p) ∧ X p ∧ ¬ C.X0 p ∧ H p = some u ∧ DenO C.K (vis H X) u w
  | .hand, o => ∃ h c, o = some (.ref h) ∧ C.hd = some (h, c)
  | .ins C0 ns ds, o => ∃ p dx vs, o = some (.ref p) ∧ X p ∧ ¬ C.X0 p ∧ H p = some (.ins (He.ga C.K C0) dx (ns.zip vs)) ∧ (ns.length = vs.length ∧ C.me = some p) ∧ DenAll C.K (vis H X) vs ds
  | .exc c fs, o => match C.ex with
    | none => True
    | some (a, cls, dx) => o = some (.ref a) ∧ cls = .ref (He.ga C.K c) ∧ ((fs = [] ∧ dx = none) ∨ ∃ dd, dx = some dd ∧ vis H X dd = some (.xd fs))
theorem SlRep.exc {C : Bc} {X Y : Addr → Prop} {H H' : Hp} {c : Str} {fs : List (Str × V)} {o : Option V} (h : SlRep C X H (.exc c fs) o) (s : Same (vis H X) (vis H' Y)) : SlRep C Y H' (.exc c fs) o := by
  unfold SlRep at h ⊢
  dsimp only at h ⊢
  split at h
  · trivial
  · exact ⟨h.1, h.2.1, h.2.2.imp id fun ⟨dd, e, q⟩ => ⟨dd, e, s _ _ q⟩⟩
structure Rep (C : Bc) (X : Addr → Prop) (env : List Sl) (σ : L2.St) (H : Hp) : Prop where
  len : env.length = σ.length
  sup : ∀ a, C.X0 a → X a
  new : ∀ a, X a → C.X0 a ∨ C.H0 a = none
  al : ∀ a, X a → ∃ o, H a = some o
  frm : Frm C.hd C.H0 H
  hands : ∀ h c, C.hd = some (h, c) → C.X0 h ∧ HandC C.H0 h c ∧ HandC H h c
  slot : ∀ (i : Nat) (s : Sl), env[i]? = some s → ∃ o, σ[i]? = some o ∧ SlRep C X H s o
  inj : ∀ (i j : Nat) (xs ys : Ow), i ≠ j → env[i]? = some (.own xs) → env[j]? = some (.own ys) → σ[i]? ≠ σ[j]?
  one : One env
section
variable {C : Bc} {X : Addr → Prop} {env : List Sl} {σ : L2.St} {H H' : Hp}
theorem vis_frm (hX : ∀ h c, C.hd = some (h, c) → X h) (f : Frm C.hd H H') : Same (vis H X) (vis H' X) := fun a o e => by
  obtain ⟨n, h⟩ := vis_of e
  exact vis_mk n (f.1 a o h fun h c z q => n (q ▸ hX h c z))
theorem Rep.hX (r : Rep C X env σ H) : ∀ h c, C.hd = some (h, c) → X h := fun h c e => r.sup h (r.hands h c e).1
theorem Rep.vs (r : Rep C X env σ H) (f : Frm C.hd H H') : Same (vis H X) (vis H' X) := vis_frm r.hX f
theorem Rep.nh (r : Rep C X env σ H) {p : Addr} (n : ¬ C.X0 p) : ∀ h c, C.hd = some (h, c) → p ≠ h := fun h c e z => n (z ▸ (r.hands h c e).1)
theorem Frm.there (f : Frm C.hd H H') (hh : ∀ h c, C.hd = some (h, c) → HandC H h c) {a : Addr} {o : HO} (e : H a = some o) : ∃ o', H' a = some o' := by
  by_cases z : ∃ h c, C.hd = some (h, c) ∧ a = h
  · obtain ⟨h, c, e1, rfl⟩ := z
    obtain ⟨_, _, _, _, q, _⟩ := f.2 a c e1 (hh a c e1)
    exact ⟨_, q⟩
  · exact ⟨o, f.1 a o e fun h c e1 q => z ⟨h, c, e1, q⟩⟩
theorem Frm.free (f : Frm C.hd H H') (hh : ∀ h c, C.hd = some (h, c) → HandC H h c) {a : Addr} (e : H' a = none) : H a = none := by
  cases q : H a with
  | none => rfl
  | some o =>
    obtain ⟨o', e'⟩ := f.there hh q
    rw [e] at e'; cases e'
/-- nothing but the hand has changed -/
theorem Rep.step (r : Rep C X env σ H) (f : Frm C.hd H H') : Rep C X env σ H' where
  len := r.len
  sup := r.sup
  new := r.new
  al := fun a x => let ⟨_, e⟩ := r.al a x; f.there (fun h c e => (r.hands h c e).2.2) e
  frm := r.frm.trans f
  hands := fun h c e => ⟨(r.hands h c e).1, (r.hands h c e).2.1, f.2 h c e (r.hands h c e).2.2⟩
  slot := fun i s e => by
    obtain ⟨o, e1, q⟩ := r.slot i s e
    refine ⟨o, e1, ?_⟩
    cases s with
    | no => trivial
    | d x => obtain ⟨v, e2, h⟩ := q; exact ⟨v, e2, h.mono (r.vs f)⟩
    | own xs =>
      obtain ⟨p, vs, e2, x1, x2, h1, h2⟩ := q
      exact ⟨p, vs, e2, x1, x2, f.1 p _ h1 (r.nh x2), h2.mono (r.vs f)⟩
    | hand => exact q
    | exc c fs => exact q.exc (r.vs f)
    | ins C0 ns ds =>
      obtain ⟨p, dx, vs, e2, x1, x2, h1, l, h2⟩ := q
      exact ⟨p, dx, vs, e2, x1, x2, f.1 p _ h1 (r.nh x2), l, h2.mono (r.vs f)⟩
  inj := r.inj
  one := r.one
theorem Rep.free (r : Rep C X env σ H) {p : Addr} (e : H p = none) : ¬ X p := fun x => by
  obtain ⟨o, q⟩ := r.al p x
  rw [e] at q; cases q
theorem Rep.h0 (r : Rep C X env σ H) {p : Addr} (e : H p = none) : C.H0 p = none := r.frm.free (fun h c e => (r.hands h c e).2.1) e
end
end Mine

namespace Mine
open PySem PySem.Spec PyProof.Rows L2
/-! ### what is wanted of expressions, by data -/
/-- an exception: its class, its attributes -/
structure Xc where
  cls : Str
  fs : List (Str × V)
abbrev DX := List Sl → (Dt → Prop) → (Xc → Prop) → Prop
abbrev DTX := List Sl → (Bool → Prop) → (Xc → Prop) → Prop
abbrev DAX := List Sl → (List Dt → Prop) → (Xc → Prop) → Prop
abbrev DSX := List Sl → (List Sl → Prop) → (Xc → Prop) → Prop
def XRep (K : PySem.W.Frag) (H : Hp) (cls : Value) (d : Option Addr) (x : Xc) : Prop := cls = .ref (He.ga K x.cls) ∧ match x.fs with
  | [] => d = none
  | f :: r => ∃ a, d = some a ∧ H a = some (.xd (f :: r))
theorem XRep.mono {K : PySem.W.Frag} {H H' : Hp} {cls : Value} {d : Option Addr} {x : Xc} (h : XRep K H cls d x) (s : Same H H') : XRep K H' cls d x := by
  obtain ⟨e, q⟩ := h
  refine ⟨e, ?_⟩
  obtain ⟨c, fs⟩ := x
  cases fs with
  | nil => exact q
  | cons f r => obtain ⟨a, e1, e2⟩ := q; exact ⟨a, e1, s _ _ e2⟩
def XOk (C : Bc) (X : Addr → Prop) (σ : L2.St) (H : Hp) (Qx : Xc → Prop) : Prop := ∀ x cls dx H', Frm C.hd H H' → XRep C.K (vis H' X) cls dx x → Qx x → C.E σ cls dx H'
/-- how a value stands for data: with all that is let; a list of one's own that is read; a new list -/
abbrev RR := Bc → (Addr → Prop) → Hp → Hp → V → Dt → Prop
def Cln : RR := fun C X _ H v d => Den C.K (vis H X) v d
def Bor : RR := fun C X _ H v d => Den C.K (vis H X) v d ∨ ∃ p vs ds, v = .ref p ∧ d = .lst ds ∧ (∀ h c, C.hd = some (h, c) → p ≠ h) ∧ H p = some (.lst vs) ∧ DenAll C.K (vis H X) vs ds
def Fsh : RR := fun C X H0 H v d => ∃ p vs ds, v = .ref p ∧ d = .lst ds ∧ H0 p = none ∧ H p = some (.lst vs) ∧ DenAll C.K (vis H fun a => X a ∨ a = p) vs ds
def DEg (R : RR) (C : Bc) (t : TE) (e : DX) : Prop := ∀ X env σ H (Q : VK) (Qd : Dt → Prop) (Qx : Xc → Prop), Rep C X env σ H → e env Qd Qx → (∀ d v H', Frm C.hd H H' → R C X H H' v d → Qd d → Q v H') → XOk C X σ H Qx → t σ H Q
abbrev DE := DEg Cln
abbrev DB := DEg Bor
abbrev DF := DEg Fsh
section
variable {C : Bc} {X : Addr → Prop} {env : List Sl} {σ : L2.St} {H H1 H' : Hp} {v : V} {d : Dt} {t : TE} {e : DX} {Qx : Xc → Prop}
theorem XOk.step (x : XOk C X σ H Qx) (f : Frm C.hd H H') : XOk C X σ H' Qx := fun y cls dx H2 f2 r q => x y cls dx H2 (f.trans f2) r q
theorem Bor.frm (r : Rep C X env σ H) (f : Frm C.hd H H') (h : Bor C X H1 H v d) : Bor C X H1 H' v d := by
  rcases h with h | ⟨p, vs, ds, e1, e2, n, h1, h2⟩
  · exact .inl (h.mono (r.vs f))
  · exact .inr ⟨p, vs, ds, e1, e2, n, f.1 p _ h1 n, h2.mono (r.vs f)⟩
theorem Cln.bor (h : Cln C X H1 H v d) : Bor C X H1 H v d := .inl h
theorem Fsh.cln (r : Rep C X env σ H1) (h : Fsh C X H1 H v d) : Cln C X H1 H v d := by
  obtain ⟨p, vs, ds, rfl, rfl, n, h1, h2⟩ := h
  exact .lst (vis_mk (r.free n) h1) (h2.mono (vis_anti fun _ => .inl))
theorem Fsh.frm (r : Rep C X env σ H) (f : Frm C.hd H H1) (h : Fsh C X H1 H' v d) : Fsh C X H H' v d := by
  obtain ⟨p, vs, ds, e1, e2, n, h1⟩ := h
  exact ⟨p, vs, ds, e1, e2, f.free (fun h c e => (r.hands h c e).2.2) n, h1⟩
theorem DEg.bor (h : DE C t e) : DB C t e := fun X env σ H Q Qd Qx r he q x => h X env σ H Q Qd Qx r he (fun d v H' f h => q d v H' f (.inl h)) x
theorem DEg.cln (h : DF C t e) : DE C t e := fun X env σ H Q Qd Qx r he q x => h X env σ H Q Qd Qx r he (fun d v H' f h => q d v H' f (h.cln r)) x
theorem Bor.flat {u : V} (h : Bor C X H1 H v d) (e : d.flat = some u) : v = u := by
  rcases h with h | ⟨p, vs, ds, e1, rfl, _⟩
  · exact h.flat e
  · cases e
theorem Bor.int {i : Int} (h : Bor C X H1 H v (.int i)) : v = .int i := h.flat rfl
theorem Bor.bl {i : Bool} (h : Bor C X H1 H v (.bl i)) : v = .bl i := h.flat rfl
theorem Bor.str {i : Str} (h : Bor C X H1 H v (.str i)) : v = .str i := h.flat rfl
theorem Bor.non (h : Bor C X H1 H v .non) : v = .non := h.flat rfl
theorem Bor.raw {u : V} (h : Bor C X H1 H v (.raw u)) : v = u := h.flat rfl
theorem Bor.lst {ds : List Dt} (h : Bor C X H1 H v (.lst ds)) : ∃ p vs, v = .ref p ∧ H p = some (.lst vs) ∧ DenAll C.K (vis H X) vs ds := by
  rcases h with h | ⟨p, vs, ds, e1, e2, n, h1, h2⟩
  · cases h with
    | lst h a => exact ⟨_, _, rfl, vis_sub _ _ h, a⟩
  · cases e2; exact ⟨p, vs, e1, h1, h2⟩
theorem Bor.tup {ds : List Dt} (h : Bor C X H1 H v (.tup ds)) : ∃ p vs, v = .ref p ∧ H p = some (.tup vs) ∧ DenAll C.K (vis H X) vs ds := by
  rcases h with h | ⟨p, vs, ds, e1, e2, n, h1, h2⟩
  · cases h with
    | tup h a => exact ⟨_, _, rfl, vis_sub _ _ h, a⟩
  · cases e2
theorem Bor.dk {ks : List Key} {ds : List Dt} (h : Bor C X H1 H v (.dk ks ds)) : ∃ p vs, v = .ref p ∧ H p = some (.dK (ks.zip vs)) ∧ ks.length = vs.length ∧ DenAll C.K (vis H X) vs ds := by
  rcases h with h | ⟨p, vs, ds, e1, e2, n, h1, h2⟩
  · cases h with
    | dk h l a => exact ⟨_, _, rfl, vis_sub _ _ h, l, a⟩
  · cases e2
theorem Bor.dt {ks : List (List Key)} {ds : List Dt} (h : Bor C X H1 H v (.dt ks ds)) : ∃ p vs, v = .ref p ∧ H p = some (.dT (ks.zip vs)) ∧ ks.length = vs.length ∧ DenAll C.K (vis H X) vs ds := by
  rcases h with h | ⟨p, vs, ds, e1, e2, n, h1, h2⟩
  · cases h with
    | dt h l a => exact ⟨_, _, rfl, vis_sub _ _ h, l, a⟩
  · cases e2
theorem Bor.ins {c : Str} {ns : List Str} {ds : List Dt} (h : Bor C X H1 H v (.ins c ns ds)) : ∃ p dx vs, v = .ref p ∧ H p = some (.ins (He.ga C.K c) dx (ns.zip vs)) ∧ ns.length = vs.length ∧ DenAll C.K (vis H X) vs ds := by
  rcases h with h | ⟨p, vs, ds, e1, e2, n, h1, h2⟩
  · cases h with
    | ins h l a => exact ⟨_, _, _, rfl, vis_sub _ _ h, l, a⟩
  · cases e2
/-- a new thing is laid -/
theorem Rep.laid {p : Addr} {o : HO} (r : Rep C X env σ H) (n : H p = none) : Frm C.hd H (upd H p o) := .upd n
theorem cln_new {p : Addr} {vs : List V} {ds : List Dt} (r : Rep C X env σ H) (n : H p = none) (h : DenAll C.K (vis H X) vs ds) : Cln C X H1 (upd H p (.tup vs)) (.ref p) (.tup ds) :=
  .tup (vis_mk (r.free n) upd_same) (h.mono (r.vs (.upd n)))
theorem fsh_new {p : Addr} {vs : List V} {ds : List Dt} (r : Rep C X env σ H) (n : H p = none) (h : DenAll C.K (vis H X) vs ds) : Fsh C X H (upd H p (.lst vs)) (.ref p) (.lst ds) :=
  ⟨p, vs, ds, rfl, rfl, n, upd_same, h.mono fun a o e => by
    obtain ⟨n1, e1⟩ := vis_of e
    have ne : a ≠ p := ne_of_none e1 n
    exact vis_mk (fun z => z.elim n1 ne) (by rw [upd_ne ne]; exact e1)⟩
end
/-! ### names, constants -/
def eVar (i : Nat) : DX := fun env Q _ => match env[i]? with
  | some (.d x) => Q x
  | _ => False
def eVarB (i : Nat) : DX := fun env Q _ => match env[i]? with
  | some (.d x) => Q x
  | some (.own (.lst xs)) => Q (.lst xs)
  | _ => False
def eC (d : Dt) : DX := fun _ Q _ => Q d
section
variable {C : Bc} {X : Addr → Prop} {env : List Sl} {σ : L2.St} {H : Hp}
theorem Rep.at (r : Rep C X env σ H) {i : Nat} {x : Dt} (e : env[i]? = some (.d x)) : ∃ v, σ[i]? = some (some v) ∧ Den C.K (vis H X) v x := by
  obtain ⟨o, e1, v, rfl, h⟩ := r.slot i _ e
  exact ⟨v, e1, h⟩
theorem de_var (i : Nat) : DE C (tVar i) (eVar i) := by
  intro X env σ H Q Qd Qx r he q x
  unfold eVar at he
  split at he
  · rename_i y e
    obtain ⟨v, e1, h⟩ := r.at e
    exact ⟨v, e1, q _ v H (.refl H) h he⟩
  · exact he.elim
theorem db_var (i : Nat) : DB C (tVar i) (eVarB i) := by
  intro X env σ H Q Qd Qx r he q x
  unfold eVarB at he
  split at he
  · rename_i y e
    obtain ⟨v, e1, h⟩ := r.at e
    exact ⟨v, e1, q _ v H (.refl H) (.inl h) he⟩
  · rename_i y e
    obtain ⟨o, e1, p, u, rfl, x1, x2, h1, h2⟩ := r.slot i _ e
    cases h2 with
    | @lst vs _ h2 => exact ⟨.ref p, e1, q _ _ H (.refl H) (.inr ⟨p, vs, _, rfl, rfl, r.nh x2, h1, h2⟩) he⟩
  · exact he.elim
theorem de_c {v : V} {d : Dt} (e : d.flat = some v) : DE C (tC v) (eC d) := fun X env σ H Q Qd Qx r he q x => q d v H (.refl H) (.of_flat e) he
theorem de_int (i : Int) : DE C (tC (.int i)) (eC (.int i)) := de_c rfl
theorem de_str (i : Str) : DE C (tC (.str i)) (eC (.str i)) := de_c rfl
theorem de_bl (i : Bool) : DE C (tC (.bl i)) (eC (.bl i)) := de_c rfl
theorem de_non : DE C (tC .non) (eC .non) := de_c rfl
theorem de_raw (v : V) : DE C (tC v) (eC (.raw v)) := de_c rfl
end
/-! ### operators -/
abbrev D2 := Dt → Dt → (Dt → Prop) → Prop
abbrev D1 := Dt → (Dt → Prop) → Prop
def OpG (R : RR) (C : Bc) (r : R2) (f : D2) : Prop := ∀ X env σ H H1 x y a b (Q : VK) (Qd : Dt → Prop), Rep C X env σ H → Bor C X H1 H x a → Bor C X H1 H y b → f a b Qd → (∀ d v H', Frm C.hd H H' → R C X H H' v d → Qd d → Q v H') → r x y H Q
abbrev OpD := OpG Cln
def eOp (f : D2) (a b : DX) : DX := fun env Q E => a env (fun x => b env (fun y => f x y Q) E) E
/-- what a reading may be weakened by: an earlier start -/
class RRs (R : RR) : Prop where
  st : ∀ {C : Bc} {X : Addr → Prop} {env : List Sl} {σ : L2.St} {H H1 H' : Hp} {v : V} {d : Dt}, Rep C X env σ H → Frm C.hd H H1 → R C X H1 H' v d → R C X H H' v d
instance : RRs Cln := ⟨fun _ _ h => h⟩
instance : RRs Bor := ⟨fun _ _ h => h⟩
instance : RRs Fsh := ⟨fun r f h => h.frm r f⟩
section
variable {C : Bc} {r r' : R2} {f : D2} {ta tb : TE} {a b : DX} {R : RR}
theorem dg_op [RRs R] (ho : OpG R C r f) (ha : DB C ta a) (hb : DB C tb b) : DEg R C (tOp r ta tb) (eOp f a b) := by
  intro X env σ H Q Qd Qx rp he q x
  refine ha X env σ H _ _ Qx rp he (fun d v H1 f1 r1 he1 => ?_) x
  have rp1 := rp.step f1
  refine hb X env σ H1 _ _ Qx rp1 he1 (fun d2 v2 H2 f2 r2 he2 => ?_) (x.step f1)
  exact ho X env σ H2 H1 v v2 d d2 Q Qd (rp1.step f2) (r1.frm rp1 f2) r2 he2 fun d3 v3 H3 f3 r3 => q d3 v3 H3 (f1.trans (f2.trans f3)) (RRs.st rp (f1.trans f2) r3)
end
section
variable {C : Bc} {r r' : R2} {f g : D2}
/-- one rule or the other -/
theorem OpG.left {R : RR} (h : OpG R C r f) : OpG R C (fun x y H Q => r x y H Q ∨ r' x y H Q) f := fun X env σ H H1 x y a b Q Qd rp r1 r2 he q => .inl (h X env σ H H1 x y a b Q Qd rp r1 r2 he q)
theorem OpG.right {R : RR} (h : OpG R C r' f) : OpG R C (fun x y H Q => r x y H Q ∨ r' x y H Q) f := fun X env σ H H1 x y a b Q Qd rp r1 r2 he q => .inr (h X env σ H H1 x y a b Q Qd rp r1 r2 he q)
end
/-- whole numbers -/
def dI (c : Int → Int → Prop) (g : Int → Int → Dt) : D2 := fun a b Q => match a, b with
  | .int i, .int j => c i j ∧ Q (g i j)
  | _, _ => False
def dI0 (g : Int → Int → Dt) : D2 := fun a b Q => match a, b with
  | .int i, .int j => Q (g i j)
  | _, _ => False
section
variable {C : Bc}
theorem od_I {c : Int → Int → Prop} {g : Int → Int → V} {g' : Int → Int → Dt} (e : ∀ i j, (g' i j).flat = some (g i j)) : OpD C (rI c g) (dI c g') := by
  intro X env σ H H1 x y a b Q Qd rp r1 r2 he q
  unfold dI at he
  split at he
  · exact ⟨_, _, r1.int, r2.int, he.1, q _ _ H (.refl H) (.of_flat (e _ _)) he.2⟩
  · exact he.elim
theorem od_I0 {g : Int → Int → V} {g' : Int → Int → Dt} (e : ∀ i j, (g' i j).flat = some (g i j)) : OpD C (rI0 g) (dI0 g') := by
  intro X env σ H H1 x y a b Q Qd rp r1 r2 he q
  unfold dI0 at he
  split at he
  · exact ⟨_, _, r1.int, r2.int, q _ _ H (.refl H) (.of_flat (e _ _)) he⟩
  · exact he.elim
end
abbrev LINE : Nat := 16777216
/-! + -/
def rAddIB : R2 := fun x y H Q => ∃ i k, x = .int i ∧ y = .bl k ∧ Q (.int (i + b2i k)) H
def rAddS : R2 := fun x y H Q => ∃ i j, x = .str i ∧ y = .str j ∧ i.length + j.length ≤ sizeLine ∧ Q (.str (i ++ j)) H
def rAddU (K : PySem.W.Frag) : R2 := fun x y H Q => rI0 (fun i j => .int (i + j)) x y H Q ∨ (rCat x y H Q ∨ (rCatA K x y H Q ∨ (rAddS x y H Q ∨ rAddIB x y H Q)))
theorem op_addU {X : Cx} {K : PySem.W.Frag} (e : X.K = K) : OpR X (binaryOp .Add) (rAddU K) := op_add.or (op_cat.or ((OpR.k (r := rCatA) (K := K) op_catA e).or (OpR.or (r := rAddS) op_add_str op_add_ib)))
def dAdd : D2 := fun a b Q => match a, b with
  | .int i, .int j => Q (.int (i + j))
  | .lst xs, .lst ys => xs.length + ys.length ≤ LINE ∧ Q (.lst (xs ++ ys))
  | .tup xs, .tup ys => xs.length + ys.length ≤ LINE ∧ Q (.tup (xs ++ ys))
  | .str x, .str y => x.length + y.length ≤ LINE ∧ Q (.str (x ++ y))
  | .int i, .bl k => Q (.int (i + b2i k))
  | _, _ => False
def dAddL : D2 := fun a b Q => match a, b with
  | .lst xs, .lst ys => xs.length + ys.length ≤ LINE ∧ Q (.lst (xs ++ ys))
  | _, _ => False
section
variable {C : Bc}
theorem od_addL : OpG Fsh C (rAddU C.K) dAddL := by
  intro X env σ H H1 x y a b Q Qd rp r1 r2 he q
  unfold dAddL at he
  split at he
  · obtain ⟨p, vs, rfl, h1, a1⟩ := r1.lst
    obtain ⟨p2, vs2, rfl, h2, a2⟩ := r2.lst
    refine .inr (.inl ⟨p, p2, vs, vs2, rfl, rfl, h1, h2, by rw [a1.length, a2.length, sizeLine_eq]; exact he.1, fun pn hp => ?_⟩)
    exact q _ _ _ (.upd hp) (fsh_new rp hp (a1.append a2)) he.2
  · exact he.elim
theorem od_add : OpD C (rAddU C.K) dAdd := by
  intro X env σ H H1 x y a b Q Qd rp r1 r2 he q
  unfold dAdd at he
  split at he
  · exact .inl ⟨_, _, r1.int, r2.int, q _ _ H (.refl H) (.int _) he⟩
  · exact od_addL X env σ H H1 x y _ _ Q Qd rp r1 r2 he fun d v H' f h => q d v H' f (h.cln rp)
  · obtain ⟨p, vs, rfl, h1, a1⟩ := r1.tup
    obtain ⟨p2, vs2, rfl, h2, a2⟩ := r2.tup
    have al := a1.append a2
    refine .inr (.inr (.inl ⟨p, p2, vs, vs2, rfl, rfl, .inl (.inl h1), .inl (.inl h2), by rw [a1.length, a2.length, sizeLine_eq]; exact he.1, fun e => ?_, fun _ e => ?_, fun _ _ pn hp => ?_⟩))
    · subst e
      refine q _ _ H (.refl H) ?_ he.2
      rcases r2 with r2 | ⟨_, _, _, _, e2, _⟩
      · cases r2 with
        | @tup _ xs' _ g g2 =>
          have e : xs' = vs2 := by simpa using (vis_sub _ _ g).symm.trans h2
          subst e
          exact .tup g al
      · cases e2
    · subst e
      refine q _ _ H (.refl H) ?_ he.2
      rcases r1 with r1 | ⟨_, _, _, _, e2, _⟩
      · cases r1 with
        | @tup _ xs' _ g g2 =>
          have e : xs' = vs := by simpa using (vis_sub _ _ g).symm.trans h1
          subst e
          rw [List.append_nil] at al
          exact .tup g al
      · cases e2
    · exact q _ _ _ (.upd hp) (cln_new rp hp al) he.2
  · exact .inr (.inr (.inr (.inl ⟨_, _, r1.str, r2.str, by rw [sizeLine_eq]; exact he.1, q _ _ H (.refl H) (.str _) he.2⟩)))
  · exact .inr (.inr (.inr (.inr ⟨_, _, r1.int, r2.bl, q _ _ H (.refl H) (.int _) he⟩)))
  · exact he.elim
end
/-! * -/
/-- t * k, k from 1 on: t itself, or a new tuple -/
def rRepB : R2 := fun x y H Q => ∃ l k xs, x = .ref l ∧ y = .int k ∧ H l = some (.tup xs) ∧ xs ≠ [] ∧ 1 ≤ k ∧ k ≤ 1000 ∧ xs.length ≤ 1000 ∧ (k = 1 → Q (.ref l) H) ∧ ∀ p, H p = none → Q (.ref p) (upd H p (.tup (List.replicate k.toNat xs).flatten))
theorem op_repB {X : Cx} : OpR X (binaryOp .Mult) rRepB := by
  intro pins s σ H x y v u Q I rx ry h
  obtain ⟨l, k, xs, rfl, rfl, hl, hne, h1, h2, hz, q1, q⟩ := h
  by_cases e : 2 ≤ k
  · exact op_repT pins s σ H _ _ v u Q I rx ry ⟨l, k, xs, rfl, rfl, .inl (.inl hl), hne, e, h2, hz, q⟩
  · obtain rfl : k = 1 := by omega
    cases rx
    obtain ⟨t, rfl⟩ := ry
    obtain ⟨its, r, ⟨⟨cls, dd, data, sl⟩, ho, hc, n, hd⟩, hs⟩ := I.tuple (.inl (.inl hl) : SqT X.K H l xs)
    simp only at hc hd
    subst hc hd
    refine wpAny_binaryOp_repeat_ref (T := "tuple") (U := "int") (by decide) ⟨_, ho, rfl⟩ (fun s' => typeIs_int s' 1 t) noFill_tuple_mul F.fills_int_mul F.slot_int_rmul repeat_tuple F.slot_int_index.lookup
      (call_meets F.slot_int_rmul (typeIs_int s 1 t) F.entry_int_rmul (F.args_int_rmul_2 _ _) (int_rmul_tuple 1 t l its.toArray n dd sl)
        ⟨ho, rfl, ⟨_, ho, rfl⟩, call_meets F.slot_tuple_mul ⟨_, ho, rfl⟩ F.entry_tuple_mul (F.args_tuple_mul_2 _ _) (mine_mul_one l its.toArray n dd sl t) ⟨ho, ?_⟩⟩)
    exact ⟨.ref l, H, I, rfl, q1 rfl⟩
theorem mine_mul_zero (l : Addr) (items : Array Value) (n : Nat) (dd : Option Addr) (sl : Array (Option Value)) (x : Int) (u : Tok) (c0 : (decide (x < -(2 ^ 63)) || decide (x ≥ 2 ^ 63)) = false) (c1 : (items.isEmpty || x == 1) = false) (c2 : (decide (x ≤ 0) || items.isEmpty) = true) :
    Meets (Builtin.«tuple.__mul__» ⟨[.ref l, .int x u], []⟩) (fun _ R s => s.heap.get? l = some { cls := .type "tuple", dict := dd, data := .seq items n, slots := sl } ∧
      R (.ok (.ret (Value.ref s.heap.objs.size))) { s with heap := s.heap.push { cls := Value.type "tuple", data := Data.seq #[] }, toks := s.toks }) :=
  .of_wp fun prog w A R s h => by
    obtain ⟨hp, g, d, tk, os⟩ := s
    obtain ⟨hl, h⟩ := h
    have f1 := AutoSeq1.idx_int
    wp_walk using wpAny_loadPart' hl
    repeat (first
      | (refine wpAny_ite_false (decide_eq_false (by rw [c0]; exact Bool.false_ne_true)) ?_; wp_walk using wpAny_loadPart' hl)
      | (refine wpAny_ite_false (decide_eq_false (by rw [c1]; exact Bool.false_ne_true)) ?_; wp_walk using wpAny_loadPart' hl)
      | (refine wpAny_ite_true (decide_eq_true c2) ?_; wp_walk using wpAny_loadPart' hl))
    exact ⟨_, rfl, h⟩
/-- t * k, k up to 0: a new tuple of nothing -/
def rRepZ : R2 := fun x y H Q => ∃ l k xs, x = .ref l ∧ y = .int k ∧ H l = some (.tup xs) ∧ xs ≠ [] ∧ k ≤ 0 ∧ -(2 ^ 62) ≤ k ∧ ∀ p, H p = none → Q (.ref p) (upd H p (.tup []))
theorem op_repZ {X : Cx} : OpR X (binaryOp .Mult) rRepZ := by
  intro pins s σ H x y v u Q I rx ry h
  obtain ⟨l, k, xs, rfl, rfl, hl, hne, h1, h2, q⟩ := h
  cases rx
  obtain ⟨t, rfl⟩ := ry
  obtain ⟨its, r, ⟨⟨cls, dd, data, sl⟩, ho, hc, n, hd⟩, hs⟩ := I.tuple (.inl (.inl hl) : SqT X.K H l xs)
  simp only at hc hd
  subst hc hd
  have hn : its.toArray.isEmpty = false := by
    cases its with
    | nil => cases r; exact absurd rfl hne
    | cons a b => rfl
  have c0 : (decide (k < -(2 ^ 63)) || decide (k ≥ 2 ^ 63)) = false := by
    rw [decide_eq_false (by omega), decide_eq_false (by omega)]; rfl
  have c1 : (its.toArray.isEmpty || k == 1) = false := by
    rw [hn, show (k == 1) = false from beq_eq_false_iff_ne.mpr (by omega)]; rfl
  have c2 : (decide (k ≤ 0) || its.toArray.isEmpty) = true := by rw [decide_eq_true h1]; rfl
  refine wpAny_binaryOp_repeat_ref (T := "tuple") (U := "int") (by decide) ⟨_, ho, rfl⟩ (fun s' => typeIs_int s' k t) noFill_tuple_mul F.fills_int_mul F.slot_int_rmul repeat_tuple F.slot_int_index.lookup
    (call_meets F.slot_int_rmul (typeIs_int s k t) F.entry_int_rmul (F.args_int_rmul_2 _ _) (int_rmul_tuple k t l its.toArray n dd sl)
      ⟨ho, rfl, ⟨_, ho, rfl⟩, call_meets F.slot_tuple_mul ⟨_, ho, rfl⟩ F.entry_tuple_mul (F.args_tuple_mul_2 _ _) (mine_mul_zero l its.toArray n dd sl k t c0 c1 c2) ⟨ho, ?_⟩⟩)
  refine ⟨.ref _, _, I.laid (t' := s.toks) (o := .tup []) (fun b ob q => Heap.get?_push_of_some _ q) (Nat.le_refl _) ?_, rfl, q _ (I.hok.fresh (Nat.le_refl _))⟩
  exact ⟨Nat.zero_le _, _, .nil, IsTup.new _ _⟩
def rMulU : R2 := fun x y H Q => rI CMul (fun i j => .int (i * j)) x y H Q ∨ (rRep x y H Q ∨ (rRepB x y H Q ∨ rRepZ x y H Q))
theorem op_mulU {X : Cx} : OpR X (binaryOp .Mult) rMulU := op_mul.or (op_rep.or (op_repB.or op_repZ))
def dMul : D2 := fun a b Q => match a, b with
  | .int i, .int j => CMul i j ∧ Q (.int (i * j))
  | .lst xs, .int k => (-(2 ^ 63) ≤ k ∧ k < 2 ^ 63 ∧ xs.length * k.toNat ≤ LINE) ∧ Q (.lst (List.replicate k.toNat xs).flatten)
  | .tup xs, .int k => (xs ≠ [] ∧ -(2 ^ 62) ≤ k ∧ k ≤ 1000 ∧ xs.length ≤ 1000) ∧ Q (.tup (List.replicate k.toNat xs).flatten)
  | _, _ => False
def dMulL : D2 := fun a b Q => match a, b with
  | .lst xs, .int k => (-(2 ^ 63) ≤ k ∧ k < 2 ^ 63 ∧ xs.length * k.toNat ≤ LINE) ∧ Q (.lst (List.replicate k.toNat xs).flatten)
  | _, _ => False
section
variable {C : Bc}
theorem od_mulL : OpG Fsh C rMulU dMulL := by
  intro X env σ H H1 x y a b Q Qd rp r1 r2 he q
  unfold dMulL at he
  split at he
  · obtain ⟨p, vs, rfl, h1, a1⟩ := r1.lst
    obtain ⟨⟨c1, c2, c3⟩, he⟩ := he
    refine .inr (.inl ⟨p, _, vs, rfl, r2.int, h1, c1, c2, by rw [a1.length, sizeLine_eq]; exact c3, fun pn hp => ?_⟩)
    exact q _ _ _ (.upd hp) (fsh_new rp hp (a1.replicate _)) he
  · exact he.elim
theorem od_mul : OpD C rMulU dMul := by
  intro X env σ H H1 x y a b Q Qd rp r1 r2 he q
  unfold dMul at he
  split at he
  · exact .inl ⟨_, _, r1.int, r2.int, he.1, q _ _ H (.refl H) (.int _) he.2⟩
  · exact od_mulL X env σ H H1 x y _ _ Q Qd rp r1 r2 he fun d v H' f h => q d v H' f (h.cln rp)
  · obtain ⟨p, vs, rfl, h1, a1⟩ := r1.tup
    rename_i xs0 k0
    obtain ⟨⟨c1, c2, c3, c4⟩, he⟩ := he
    have al := a1.replicate (K := C.K)
    by_cases kz : k0 ≤ 0
    · refine .inr (.inr (.inr ⟨p, _, vs, rfl, r2.int, h1, fun e => c1 ?_, kz, c2, fun pn hp => ?_⟩))
      · subst e; cases a1; rfl
      · rw [show k0.toNat = 0 from Int.toNat_eq_zero.mpr kz] at he
        exact q _ _ _ (.upd hp) (cln_new rp hp .nil) he
    refine .inr (.inr (.inl ⟨p, _, vs, rfl, r2.int, h1, fun e => c1 ?_, by omega, c3, by rw [a1.length]; exact c4, fun e => ?_, fun pn hp => ?_⟩))
    · subst e; cases a1; rfl
    · subst e
      refine q _ _ H (.refl H) ?_ he
      rcases r1 with r1 | ⟨_, _, _, _, e2, _⟩
      · have e : ∀ zs : List Dt, (List.replicate (1 : Int).toNat zs).flatten = zs := fun zs => by simp
        rw [e]; exact r1
      · cases e2
    · exact q _ _ _ (.upd hp) (cln_new rp hp (al _)) he
  · exact he.elim
end
end Mine

namespace HT
open PySem PySem.Spec PyProof.Rows L2
section
variable {prog : Program} {w : World} {A : Around} {E : Value → Shared → Prop} {s : Shared}
theorem mine_adjust_rev (n : Nat) : Builtin.Slice.sliceAdjust none none (-1) (n : Int) = ((n : Int) - 1, -1) := by
  unfold Builtin.Slice.sliceAdjust
  have h1 : ((-1 : Int) < 0) := by omega
  simp [h1]
theorem mine_places_rev (n : Nat) : Builtin.Slice.slicePlaces ((n : Int) - 1) (-1) (-1) = n := by
  unfold Builtin.Slice.slicePlaces
  have h1 : ¬ ((-1 : Int) > 0) := by omega
  simp only [h1, if_false]
  split
  all_goals first | omega | (simp <;> omega)
theorem mine_applied_rev {sl : Addr} {t : Tok} {n : Nat} {Q : Int × Int × Nat → Shared → Prop} {vs : Value} (hs : s.heap.IsSliceOf sl .none .none vs) (ps : IsPart vs (some (-1)))
    (h : Q ((n : Int) - 1, -1, n) s) : wpAny (model prog w) A (Builtin.Slice.sliceApplied (.ref sl) (pure (n : Int))) Q E s := by
  obtain ⟨os, hos, hcs, hds⟩ := id hs
  unfold Builtin.Slice.sliceApplied Builtin.Slice.sliceFields
  refine wpAny_bind (wpAny_bind (wpAny_field hos hds (x := .none) rfl (wpAny_bind (wpAny_field hos hds (x := .none) rfl (wpAny_bind (wpAny_field hos hds (x := vs) rfl (wpAny_pure ?_)))))))
  refine wpAny_bind (slicePart_ ps ?_)
  show wpAny _ _ (if ((-1 : Int) == 0) = true then _ else _) _ _ s
  rw [if_neg (by decide)]
  refine wpAny_bind (slicePart_ .none (wpAny_bind (slicePart_ .none (wpAny_bind (wpAny_pure ?_)))))
  show wpAny _ _ (match Builtin.Slice.sliceAdjust none none (-1) (n : Int) with | (lo, hi) => pure (lo, (-1 : Int), Builtin.Slice.slicePlaces lo hi (-1))) _ _ s
  rw [mine_adjust_rev n]
  show wpAny _ _ (pure ((n : Int) - 1, (-1 : Int), Builtin.Slice.slicePlaces ((n : Int) - 1) (-1) (-1))) _ _ s
  rw [mine_places_rev]
  exact wpAny_pure h
theorem fm_congr {α β : Type} {f g : α → Option β} : ∀ {l : List α}, (∀ x ∈ l, f x = g x) → l.filterMap f = l.filterMap g
  | [], _ => rfl
  | a :: l, h => by
    rw [List.filterMap_cons, List.filterMap_cons, h a List.mem_cons_self, fm_congr fun x hx => h x (List.mem_cons_of_mem _ hx)]
theorem mine_pick_rev (xs : Array Value) : ((List.range xs.size).filterMap fun (m : Nat) => xs[((xs.size : Int) - 1 + (m : Int) * (-1)).toNat]?).toArray = xs.toList.reverse.toArray := by
  congr 1
  have h2 := PySem.W.krv_all xs
  have h3 : ((List.range xs.size).map fun k => xs.size - 1 - k).filterMap (xs[·]?) = xs.toList.reverse := by
    rw [PySem.W.krv_range, List.filterMap_reverse, h2]
  rw [← h3, List.filterMap_map]
  refine fm_congr fun m hm => ?_
  have := List.mem_range.mp hm
  show xs[((xs.size : Int) - 1 + (m : Int) * (-1)).toNat]? = xs[xs.size - 1 - m]?
  congr 1; omega
theorem mine_getItem_tuple_rev {t sl : Addr} {items : Array Value} {vs : Value} {Q : Value → Shared → Prop} (ht : IsTup s.heap t items) (hs : s.heap.IsSliceOf sl .none .none vs) (ps : IsPart vs (some (-1)))
    (h : Q (.ref s.heap.objs.size) { s with heap := s.heap.push { cls := .type "tuple", data := .seq items.toList.reverse.toArray } })
    (hsz : items.size ≤ sizeLine) : wpAny (model prog w) A (getItem (.ref t) (.ref sl)) Q E s := by
  have htake : sizeOk (.seq items.toList.reverse.toArray) := by
    show items.toList.reverse.toArray.size ≤ sizeLine
    rw [List.size_toArray, List.length_reverse, Array.length_toList]
    omega
  obtain ⟨os, hos, hcs, hds⟩ := id hs
  have hTs : s.TypeIs (.ref sl) "slice" := ⟨os, hos, hcs⟩
  unfold getItem
  try with_reducible refine wpAny_holding ?_
  first | refine wpAny_bind (wpAny_pure ?_) | skip
  refine wpAny_bind (wpAny_sequenceKey ht.typeIs (by decide) ?_)
  refine wpAny_bind (wpAny_callSpecial?_slot (name := Str.ofString "__getitem__") ht.typeIs PyProof.Rows.slot_tuple_getitem
    (wpAny_call_entry PyProof.Rows.slot_tuple_getitem ht.typeIs entry_tuple_getitem ?_ (args_tuple_getitem _ _)))
  show wpAny _ _ (Builtin.Tuple.tupleItemsOf (.ref t) >>= _) _ _ s
  refine wpAny_bind (tupleItemsOf_ ht ?_)
  refine wpAny_bind (wpAny_typeOf hTs ?_)
  rw [if_pos (by decide)]
  refine wpAny_bind (mine_applied_rev (t := 0) hs ps ?_)
  have hno : ¬ ((((items.size : Int) - 1) == 0 && (-1 : Int) == 1 && items.size == items.size) = true) := by
    intro q
    rw [Bool.and_eq_true, Bool.and_eq_true] at q
    exact absurd q.1.2 (by decide)
  show wpAny _ _ (if (((items.size : Int) - 1) == 0 && (-1 : Int) == 1 && items.size == items.size) = true then _ else _) _ _ s
  rw [if_neg hno, mine_pick_rev]
  first
    | exact wpAny_bind (m := Builtin.Tuple.tupleExact _) (wpAny_newObj_type (wpAny_pure ⟨_, rfl, wpAny_pure h⟩) htake)
    | exact wpAny_bind (m := Builtin.Tuple.tupleExact _) (wpAny_newObj_type (wpAny_bind (wpAny_pure (wpAny_pure ⟨_, rfl, wpAny_pure h⟩))) htake)
    | exact wpAny_bind (wpAny_bind (m := Builtin.Tuple.tupleExact _) (wpAny_newObj_type (wpAny_pure (wpAny_pure ⟨_, rfl, wpAny_pure h⟩)) htake))
    | exact wpAny_bind (wpAny_bind (m := Builtin.Tuple.tupleExact _) (wpAny_newObj_type (wpAny_pure ⟨_, rfl, wpAny_pure h⟩) htake))
end
end HT
namespace Mine
open PySem PySem.Spec PyProof.Rows L2
section
variable {X : Cx}
/-- x[::-1] of a list or a tuple -/
def tRevU (te : TE) : TE := fun σ H Q => te σ H fun x H1 => ∃ a xs, x = .ref a ∧ ((H1 a = some (.lst xs) ∧ ∀ p, H1 p = none → Q (.ref p) (upd H1 p (.lst xs.reverse))) ∨ (H1 a = some (.tup xs) ∧ ∀ p, H1 p = none → Q (.ref p) (upd H1 p (.tup xs.reverse))))
theorem pe_revU {e : Expr} {te : TE} {k : Nat} {p1 p2 p3 pos : Pos} (he : PE X e te) : PE X (.Subscript e (.Slice none none (some (.UnaryOp .USub (.Constant (.int 1) k p1) p2)) p3) pos) (tRevU te) := by
  refine ⟨fun pins s σ H Q I h => ?_⟩
  refine Subscript_ (thn (he.run pins s σ H _ I h) fun v s1 ⟨x, H1, I1, r1, q1⟩ => ?_)
  obtain ⟨a, xs, ex, q1⟩ := q1
  subst ex
  cases r1
  have hst : PO X (some (.UnaryOp .USub (.Constant (.int 1) k p1) p2)) (tPart (tUn (rU fun i => .int (-i)) (tC (.int 1)))) := po_some (pe_un un_neg pe_int)
  refine wpAny_Slice (thn (po_none.run pins s1 σ H1 (fun o H2 => o = none ∧ H2 = H1) I1 ⟨rfl, rfl⟩) fun vl s2 ⟨l, H2, I2, pl, el, e2⟩ => ?_)
  subst el e2
  refine thn (po_none.run pins s2 σ H2 (fun o H3 => o = none ∧ H3 = H2) I2 ⟨rfl, rfl⟩) fun vu s3 ⟨u, H3, I3, pu, eu, e3⟩ => ?_
  subst eu e3
  refine thn (hst.run pins s3 σ H3 (fun o H4 => o = some (-1) ∧ H4 = H3) I3 ⟨1, rfl, -1, rfl, rfl, rfl⟩) fun vs s4 ⟨o, H4, I4, ps, eo, e4⟩ => ?_
  subst eo e4
  have I5 : Inv X pins σ H4 { s4 with heap := s4.heap.push { cls := .type "slice", data := .fields #[vl, vu, vs] } } := I4.kept (t' := s4.toks) fun b ob q => Heap.get?_push_of_some _ q
  show wpAny (model X.prog X.w) X.A (subscriptTail e (.Slice none none (some (.UnaryOp .USub (.Constant (.int 1) k p1) p2)) p3) (.ref a) (.ref s4.heap.objs.size)) (EP X pins σ Q) X.xe { s4 with heap := s4.heap.push { cls := .type "slice", data := .fields #[vl, vu, vs] } }
  rcases q1 with ⟨hx, q⟩ | ⟨hx, q⟩
  · obtain ⟨its, r, ht, hz⟩ := I5.list (.inl (.inl hx))
    have hlen := r.length
    refine tail_any (ops := [.ref a, .ref s4.heap.objs.size]) ht.isList.typeIs (PySem.slot_list_getitem.lookup) ?_ (by with_unfolding_all rfl)
    refine wpAny_getItem_list_slice ht.isList (Heap.IsSliceOf.new _ vl vu vs) pl pu ps (by decide) ?_ (by rw [List.size_toArray]; omega)
    rw [PySem.W.krv_pick]
    refine ⟨.ref _, _, I5.laid (t' := s4.toks) (o := .lst xs.reverse) (fun b ob q => Heap.get?_push_of_some _ q) (Nat.le_refl _) ?_, rfl, q _ (I5.hok.fresh (Nat.le_refl _))⟩
    exact ⟨by rw [List.length_reverse]; exact hz, _, 0, r.reverse, Heap.get?_push_size _ rfl⟩
  · obtain ⟨its, r, ht, hz⟩ := I5.tuple (.inl (.inl hx))
    have hlen := r.length
    refine tail_any (ops := [.ref a, .ref s4.heap.objs.size]) ht.typeIs (PyProof.Rows.slot_tuple_getitem.lookup) ?_ (by with_unfolding_all rfl)
    cases pl
    cases pu
    refine HT.mine_getItem_tuple_rev ht (Heap.IsSliceOf.new _ .none .none vs) ps ?_ (by rw [List.size_toArray]; omega)
    refine ⟨.ref _, _, I5.laid (t' := s4.toks) (o := .tup xs.reverse) (fun b ob q => Heap.get?_push_of_some _ q) (Nat.le_refl _) ?_, rfl, q _ (I5.hok.fresh (Nat.le_refl _))⟩
    exact ⟨by rw [List.length_reverse]; exact hz, _, r.reverse, IsTup.new _ _⟩
end
end Mine

namespace Mine
open PySem PySem.Spec PyProof.Rows L2
/-! ### data as the library's data -/
mutual
def Dt.py : Dt → Option PyData
  | .non => some .none
  | .bl b => some (.bool b)
  | .int i => some (.int i)
  | .str x => some (.str x)
  | .tup xs => (Dt.pys xs).map .tuple
  | .lst xs => (Dt.pys xs).map .list
  | _ => none
def Dt.pys : List Dt → Option (List PyData)
  | [] => some []
  | x :: xs => match Dt.py x, Dt.pys xs with
    | some p, some ps => some (p :: ps)
    | _, _ => none
end
section
variable {K : PySem.W.Frag} {H : Hp}
mutual
theorem Den.dp : ∀ {v : V} {d : Dt} {p : PyData}, Den K H v d → d.py = some p → Dp K H v p
  | _, _, _, .non, e => by rw [Dt.py] at e; injection e with e; subst e; exact .non
  | _, _, _, .bl b, e => by rw [Dt.py] at e; injection e with e; subst e; exact .bl b
  | _, _, _, .int i, e => by rw [Dt.py] at e; injection e with e; subst e; exact .int i
  | _, _, _, .str x, e => by rw [Dt.py] at e; injection e with e; subst e; exact .str x
  | _, _, _, .tup h a, e => by
    rw [Dt.py, Option.map_eq_some_iff] at e
    obtain ⟨ps, e1, rfl⟩ := e
    exact .tup (.inl (.inl h)) (DenAll.dp a e1)
  | _, _, _, .lst h a, e => by
    rw [Dt.py, Option.map_eq_some_iff] at e
    obtain ⟨ps, e1, rfl⟩ := e
    exact .lst (.inl (.inl h)) (DenAll.dp a e1)
  | _, _, _, .dk _ _ _, e => by rw [Dt.py] at e <;> cases e
  | _, _, _, .ins _ _ _, e => by rw [Dt.py] at e <;> cases e
  | _, _, _, .raw v, e => by rw [Dt.py] at e <;> cases e
theorem DenAll.dp : ∀ {vs : List V} {ds : List Dt} {ps : List PyData}, DenAll K H vs ds → Dt.pys ds = some ps → DpAll K H vs ps
  | _, _, _, .nil, e => by rw [Dt.pys] at e; injection e with e; subst e; exact .nil
  | _, _, _, @DenAll.cons _ _ _ _ d ds a b, e => by
    rw [Dt.pys] at e
    cases h1 : Dt.py d with
    | none => rw [h1] at e; cases e
    | some p =>
      cases h2 : Dt.pys ds with
      | none => rw [h1, h2] at e; cases e
      | some ps =>
        rw [h1, h2] at e
        injection e with e
        subst e
        exact .cons (Den.dp a h1) (DenAll.dp b h2)
end
end
/-- equal, as Python has it; of a shape that may be asked -/
def Dt.eqv (a b : Dt) : Bool := match a.py, b.py with
  | some p, some q => PyData.eqv p q
  | _, _ => false
def Dt.sh (a : Dt) : Prop := ∃ p, a.py = some p ∧ SeqAt.shaped p = true
theorem Dt.eqv_of {a b : Dt} {p q : PyData} (h : a.py = some p) (h' : b.py = some q) : a.eqv b = PyData.eqv p q := by
  unfold Dt.eqv
  rw [h, h']
theorem Bor.dp {C : Bc} {X : Addr → Prop} {H H1 : Hp} {v : V} {d : Dt} {p : PyData} (h : Bor C X H1 H v d) (e : d.py = some p) : Dp C.K H v p := by
  rcases h with h | ⟨a, vs, ds, rfl, rfl, n, h1, h2⟩
  · exact (h.mono vis_sub).dp e
  · rw [Dt.py, Option.map_eq_some_iff] at e
    obtain ⟨ps, e1, rfl⟩ := e
    exact .lst (.inl (.inl h1)) ((h2.mono vis_sub).dp e1)
def dEq : D2 := fun a b Q => a.sh ∧ b.sh ∧ Q (.bl (a.eqv b))
def dNe : D2 := fun a b Q => a.sh ∧ b.sh ∧ Q (.bl (!a.eqv b))
section
variable {C : Bc}
theorem od_eq : OpD C (rEqD C.K) dEq := by
  intro X env σ H H1 x y a b Q Qd rp r1 r2 ⟨⟨p, e1, s1⟩, ⟨q, e2, s2⟩, he⟩ qq
  rw [Dt.eqv_of e1 e2] at he
  exact ⟨p, q, r1.dp e1, r2.dp e2, s1, s2, qq _ _ H (.refl H) (.bl _) he⟩
theorem od_ne : OpD C (rNeD C.K) dNe := by
  intro X env σ H H1 x y a b Q Qd rp r1 r2 ⟨⟨p, e1, s1⟩, ⟨q, e2, s2⟩, he⟩ qq
  rw [Dt.eqv_of e1 e2] at he
  exact ⟨p, q, r1.dp e1, r2.dp e2, s1, s2, qq _ _ H (.refl H) (.bl _) he⟩
end
/-! is None -/
def rIsN (b : Bool) : R2 := fun x y H Q => y = .non ∧ Q (.bl (if b then decide (x = .non) else !decide (x = .non))) H
def Dt.isN : Dt → Bool
  | .non => true
  | .raw .non => true
  | _ => false
def dIsN : D2 := fun a b Q => match b with
  | .non => Q (.bl a.isN)
  | _ => False
def dNotN : D2 := fun a b Q => match b with
  | .non => Q (.bl (!a.isN))
  | _ => False
section
variable {C : Bc} {X : Addr → Prop} {H H1 : Hp} {v : V}
theorem Bor.isN {a : Dt} (h : Bor C X H1 H v a) : decide (v = .non) = a.isN := by
  rcases h with h | ⟨_, _, _, rfl, rfl, _⟩
  · cases h with
    | raw v => cases v <;> rfl
    | _ => rfl
  · rfl
theorem od_isN : OpD C (fun x y H Q => y = .non ∧ Q (.bl (decide (x = .non))) H) dIsN := by
  intro X env σ H H1 x y a b Q Qd rp r1 r2 he q
  unfold dIsN at he
  split at he
  · exact ⟨r2.non, q _ _ H (.refl H) (by rw [r1.isN]; exact .bl _) he⟩
  · exact he.elim
theorem od_notN : OpD C (fun x y H Q => y = .non ∧ Q (.bl (!decide (x = .non))) H) dNotN := by
  intro X env σ H H1 x y a b Q Qd rp r1 r2 he q
  unfold dNotN at he
  split at he
  · exact ⟨r2.non, q _ _ H (.refl H) (by rw [r1.isN]; exact .bl _) he⟩
  · exact he.elim
end
/-! in -/
def rInT (K : PySem.W.Frag) : R2 := fun x y H Q => ∃ d ds, Dp K H x d ∧ Dp K H y (.tuple ds) ∧ SeqAt.shaped d = true ∧ SeqAt.shaped (.tuple ds) = true ∧ Q (.bl (ds.any fun z => PyData.eqv z d)) H
def rNotInT (K : PySem.W.Frag) : R2 := fun x y H Q => ∃ d ds, Dp K H x d ∧ Dp K H y (.tuple ds) ∧ SeqAt.shaped d = true ∧ SeqAt.shaped (.tuple ds) = true ∧ Q (.bl (!ds.any fun z => PyData.eqv z d)) H
section
variable {X : Cx}
theorem op_inT (hu : X.A.units + 65 < cLine) : OpR X (compareOp .In) (rInT X.K) := by
  intro pins s σ H x y v u Q I rx ry h
  obtain ⟨d, ds, hd, he, sd, se, q⟩ := h
  obtain ⟨as, r1⟩ := Dp.reads I d x v hd rx
  obtain ⟨bs, r2⟩ := Dp.reads I (.tuple ds) y u he ry
  exact SeqAt.in_tuple_reads r2 r1 (SeqAt.canLay_of_shaped se) (SeqAt.canLay_of_shaped sd) (room_in_shaped sd hu) ⟨.bl _, H, I, rfl, q⟩
theorem op_notInT (hu : X.A.units + 65 < cLine) : OpR X (compareOp .NotIn) (rNotInT X.K) := by
  intro pins s σ H x y v u Q I rx ry h
  obtain ⟨d, ds, hd, he, sd, se, q⟩ := h
  obtain ⟨as, r1⟩ := Dp.reads I d x v hd rx
  obtain ⟨bs, r2⟩ := Dp.reads I (.tuple ds) y u he ry
  exact SeqAt.notIn_tuple_reads r2 r1 (SeqAt.canLay_of_shaped se) (SeqAt.canLay_of_shaped sd) (room_in_shaped sd hu) ⟨.bl _, H, I, rfl, q⟩
def rInSt : R2 := fun x y H Q => ∃ i j, x = .str i ∧ y = .str j ∧ Q (.bl (!(Builtin.Str.occurrences j i 0 j.length 1).isEmpty)) H
def rNotInSt : R2 := fun x y H Q => ∃ i j, x = .str i ∧ y = .str j ∧ Q (.bl (!(!(Builtin.Str.occurrences j i 0 j.length 1).isEmpty))) H
def rInU (K : PySem.W.Frag) : R2 := fun x y H Q => rInD K x y H Q ∨ (rInT K x y H Q ∨ rInSt x y H Q)
def rNotInU (K : PySem.W.Frag) : R2 := fun x y H Q => rNotInD K x y H Q ∨ (rNotInT K x y H Q ∨ rNotInSt x y H Q)
theorem op_inU {K : PySem.W.Frag} (e : X.K = K) (hu : X.A.units + 65 < cLine) : OpR X (compareOp .In) (rInU K) := e ▸ (op_inD hu).or ((op_inT hu).or (OpR.weak op_in_str fun _ _ _ _ h => h))
theorem op_notInU {K : PySem.W.Frag} (e : X.K = K) (hu : X.A.units + 65 < cLine) : OpR X (compareOp .NotIn) (rNotInU K) := e ▸ (op_notInD hu).or ((op_notInT hu).or (OpR.weak op_notin_str fun _ _ _ _ h => h))
end
def dIn : D2 := fun a b Q => match b with
  | .lst ys => a.sh ∧ Dt.sh (.lst ys) ∧ Q (.bl (ys.any fun y => y.eqv a))
  | .tup ys => a.sh ∧ Dt.sh (.tup ys) ∧ Q (.bl (ys.any fun y => y.eqv a))
  | .str z => match a with
    | .str x => Q (.bl (!(Builtin.Str.occurrences z x 0 z.length 1).isEmpty))
    | _ => False
  | _ => False
def dNotIn : D2 := fun a b Q => match b with
  | .lst ys => a.sh ∧ Dt.sh (.lst ys) ∧ Q (.bl (!ys.any fun y => y.eqv a))
  | .tup ys => a.sh ∧ Dt.sh (.tup ys) ∧ Q (.bl (!ys.any fun y => y.eqv a))
  | .str z => match a with
    | .str x => Q (.bl (!(!(Builtin.Str.occurrences z x 0 z.length 1).isEmpty)))
    | _ => False
  | _ => False
theorem any_eqv {a : Dt} {p : PyData} (e : a.py = some p) : ∀ {ys : List Dt} {ps : List PyData}, Dt.pys ys = some ps → (ps.any fun z => PyData.eqv z p) = ys.any fun y => y.eqv a
  | [], _, h => by rw [Dt.pys] at h; injection h with h; subst h; rfl
  | y :: ys, _, h => by
    rw [Dt.pys] at h
    cases h1 : Dt.py y with
    | none => rw [h1] at h; cases h
    | some q =>
      cases h2 : Dt.pys ys with
      | none => rw [h1, h2] at h; cases h
      | some qs =>
        rw [h1, h2] at h
        injection h with h
        subst h
        rw [List.any_cons, List.any_cons, any_eqv e h2, Dt.eqv_of h1 e]
section
variable {C : Bc}
theorem od_in : OpD C (rInU C.K) dIn := by
  intro X env σ H H1 x y a b Q Qd rp r1 r2 he q
  unfold dIn at he
  split at he
  · obtain ⟨⟨p, e1, s1⟩, ⟨pl, e2, s2⟩, he⟩ := he
    have e2' := e2
    rw [Dt.py, Option.map_eq_some_iff] at e2
    obtain ⟨ps, e3, rfl⟩ := e2
    exact .inl ⟨p, ps, r1.dp e1, r2.dp e2', s1, s2, by rw [any_eqv e1 e3]; exact q _ _ H (.refl H) (.bl _) he⟩
  · obtain ⟨⟨p, e1, s1⟩, ⟨pl, e2, s2⟩, he⟩ := he
    have e2' := e2
    rw [Dt.py, Option.map_eq_some_iff] at e2
    obtain ⟨ps, e3, rfl⟩ := e2
    exact .inr (.inl ⟨p, ps, r1.dp e1, r2.dp e2', s1, s2, by rw [any_eqv e1 e3]; exact q _ _ H (.refl H) (.bl _) he⟩)
  · split at he
    · exact .inr (.inr ⟨_, _, r1.str, r2.str, q _ _ H (.refl H) (.bl _) he⟩)
    · exact he.elim
  · exact he.elim
theorem od_notIn : OpD C (rNotInU C.K) dNotIn := by
  intro X env σ H H1 x y a b Q Qd rp r1 r2 he q
  unfold dNotIn at he
  split at he
  · obtain ⟨⟨p, e1, s1⟩, ⟨pl, e2, s2⟩, he⟩ := he
    have e2' := e2
    rw [Dt.py, Option.map_eq_some_iff] at e2
    obtain ⟨ps, e3, rfl⟩ := e2
    exact .inl ⟨p, ps, r1.dp e1, r2.dp e2', s1, s2, by rw [any_eqv e1 e3]; exact q _ _ H (.refl H) (.bl _) he⟩
  · obtain ⟨⟨p, e1, s1⟩, ⟨pl, e2, s2⟩, he⟩ := he
    have e2' := e2
    rw [Dt.py, Option.map_eq_some_iff] at e2
    obtain ⟨ps, e3, rfl⟩ := e2
    exact .inr (.inl ⟨p, ps, r1.dp e1, r2.dp e2', s1, s2, by rw [any_eqv e1 e3]; exact q _ _ H (.refl H) (.bl _) he⟩)
  · split at he
    · exact .inr (.inr ⟨_, _, r1.str, r2.str, q _ _ H (.refl H) (.bl _) he⟩)
    · exact he.elim
  · exact he.elim
end
/-! the operators of whole numbers -/
abbrev dSub : D2 := dI0 fun i j => .int (i - j)
abbrev dFdiv : D2 := dI CDiv fun i j => .int (i / j)
abbrev dMod : D2 := dI (fun _ j => 0 < j) fun i j => .int (i % j)
abbrev dPow : D2 := dI CPow fun i j => .int (i ^ j.toNat)
abbrev dShl : D2 := dI CPow fun i j => .int (i * 2 ^ j.toNat)
abbrev dShr : D2 := dI (fun _ j => 0 ≤ j) fun i j => .int (i / 2 ^ j.toNat)
abbrev dAnd : D2 := dI0 fun i j => .int (Builtin.bitAnd i j)
abbrev dOr : D2 := dI0 fun i j => .int (Builtin.bitOr i j)
abbrev dXor : D2 := dI0 fun i j => .int (Builtin.bitXor i j)
abbrev dLe : D2 := dI0 fun i j => .bl (decide (i ≤ j))
abbrev dGt : D2 := dI0 fun i j => .bl (decide (j < i))
abbrev dGe : D2 := dI0 fun i j => .bl (decide (j ≤ i))
def rLtSt : R2 := fun x y H Q => ∃ i j, x = .str i ∧ y = .str j ∧ Q (.bl (decide (i.cps.toList < j.cps.toList))) H
def rLtU (K : PySem.W.Frag) : R2 := fun x y H Q => rI0 (fun i j => .bl (decide (i < j))) x y H Q ∨ (rLtT K x y H Q ∨ rLtSt x y H Q)
theorem op_ltU {X : Cx} {K : PySem.W.Frag} (e : X.K = K) (hu : X.A.units < cLine) : OpR X (compareOp .Lt) (rLtU K) := e ▸ op_lt.or ((op_ltT hu).or (OpR.weak op_lt_str fun _ _ _ _ h => h))
def dLt : D2 := fun a b Q => match a, b with
  | .int i, .int j => Q (.bl (decide (i < j)))
  | .tup xs, .tup ys => ∃ ns ms : List Int, xs = ns.map .int ∧ ys = ms.map .int ∧ Q (.bl (HT.lexLt ns ms))
  | .str x, .str y => Q (.bl (decide (x.cps.toList < y.cps.toList)))
  | _, _ => False
theorem DenAll.ints_of {K : PySem.W.Frag} {H : Hp} : ∀ {vs : List V} {ns : List Int}, DenAll K H vs (ns.map .int) → vs = ns.map V.int
  | _, [], .nil => rfl
  | _, n :: ns, .cons a b => by rw [List.map_cons, a.flat rfl, DenAll.ints_of b]
section
variable {C : Bc}
theorem od_sub : OpD C (rI0 fun i j => .int (i - j)) dSub := od_I0 fun _ _ => rfl
theorem od_fdiv : OpD C (rI CDiv fun i j => .int (i / j)) dFdiv := od_I fun _ _ => rfl
theorem od_mod : OpD C (rI (fun _ j => 0 < j) fun i j => .int (i % j)) dMod := od_I fun _ _ => rfl
theorem od_pow : OpD C (rI CPow fun i j => .int (i ^ j.toNat)) dPow := od_I fun _ _ => rfl
theorem od_shl : OpD C (rI CPow fun i j => .int (i * 2 ^ j.toNat)) dShl := od_I fun _ _ => rfl
theorem od_shr : OpD C (rI (fun _ j => 0 ≤ j) fun i j => .int (i / 2 ^ j.toNat)) dShr := od_I fun _ _ => rfl
theorem od_and : OpD C (rI0 fun i j => .int (Builtin.bitAnd i j)) dAnd := od_I0 fun _ _ => rfl
theorem od_or : OpD C (rI0 fun i j => .int (Builtin.bitOr i j)) dOr := od_I0 fun _ _ => rfl
theorem od_xor : OpD C (rI0 fun i j => .int (Builtin.bitXor i j)) dXor := od_I0 fun _ _ => rfl
theorem od_le : OpD C (rI0 fun i j => .bl (decide (i ≤ j))) dLe := od_I0 fun _ _ => rfl
theorem od_gt : OpD C (rI0 fun i j => .bl (decide (j < i))) dGt := od_I0 fun _ _ => rfl
theorem od_ge : OpD C (rI0 fun i j => .bl (decide (j ≤ i))) dGe := od_I0 fun _ _ => rfl
theorem od_lt : OpD C (rLtU C.K) dLt := by
  intro X env σ H H1 x y a b Q Qd rp r1 r2 he q
  unfold dLt at he
  split at he
  · exact .inl ⟨_, _, r1.int, r2.int, q _ _ H (.refl H) (.bl _) he⟩
  · obtain ⟨ns, ms, rfl, rfl, he⟩ := he
    obtain ⟨p, vs, rfl, h1, a1⟩ := r1.tup
    obtain ⟨p2, vs2, rfl, h2, a2⟩ := r2.tup
    rw [a1.ints_of] at h1
    rw [a2.ints_of] at h2
    exact .inr (.inl ⟨p, p2, ns, ms, rfl, rfl, .inl (.inl h1), .inl (.inl h2), q _ _ H (.refl H) (.bl _) he⟩)
  · exact .inr (.inr ⟨_, _, r1.str, r2.str, q _ _ H (.refl H) (.bl _) he⟩)
  · exact he.elim
end
/-! ### one thing -/
def UnD (C : Bc) (r : V → Hp → VK → Prop) (f : D1) : Prop := ∀ X env σ H H1 x a (Q : VK) (Qd : Dt → Prop), Rep C X env σ H → Bor C X H1 H x a → f a Qd → (∀ d v H', Frm C.hd H H' → Cln C X H H' v d → Qd d → Q v H') → r x H Q
def eUn (f : D1) (a : DX) : DX := fun env Q E => a env (fun x => f x Q) E
def dNeg : D1 := fun a Q => match a with
  | .int i => Q (.int (-i))
  | _ => False
section
variable {C : Bc} {r : V → Hp → VK → Prop} {f : D1} {ta : TE} {a : DX}
theorem de_un (ho : UnD C r f) (ha : DB C ta a) : DE C (tUn r ta) (eUn f a) := by
  intro X env σ H Q Qd Qx rp he q x
  refine ha X env σ H _ _ Qx rp he (fun d v H1 f1 r1 he1 => ?_) x
  exact ho X env σ H1 H v d Q Qd (rp.step f1) r1 he1 fun d3 v3 H3 f3 r3 => q d3 v3 H3 (f1.trans f3) r3
theorem ud_neg : UnD C (rU fun i => .int (-i)) dNeg := by
  intro X env σ H H1 x a Q Qd rp r1 he q
  unfold dNeg at he
  split at he
  · exact ⟨_, r1.int, q _ _ H (.refl H) (.int _) he⟩
  · exact he.elim
end
/-! ### tests -/
def DT (C : Bc) (t : TT) (e : DTX) : Prop := ∀ X env σ H (Q : Bool → Hp → Prop) (Qd : Bool → Prop) (Qx : Xc → Prop), Rep C X env σ H → e env Qd Qx → (∀ b H', Frm C.hd H H' → Qd b → Q b H') → XOk C X σ H Qx → t σ H Q
def eTest (e : DX) : DTX := fun env Q E => e env (fun d => match d with
  | .bl b => Q b
  | _ => False) E
def eNotT (t : DTX) : DTX := fun env Q E => t env (fun b => Q (!b)) E
def eAndT (t u : DTX) : DTX := fun env Q E => t env (fun b => if b = true then u env Q E else Q false) E
def eOrT (t u : DTX) : DTX := fun env Q E => t env (fun b => if b = true then Q true else u env Q E) E
def dTru (d : Dt) (Q : Bool → Prop) : Prop := match d with
  | .non => Q false
  | .bl b => Q b
  | .int i => Q (i != 0)
  | .str y => y.length ≤ LINE ∧ Q ((y.length : Int) != 0)
  | .lst xs => Q (!xs.isEmpty)
  | .tup xs => Q (!xs.isEmpty)
  | .dk ks _ => Q (!ks.isEmpty)
  | _ => False
def eTru (e : DX) : DTX := fun env Q E => e env (fun d => dTru d Q) E
/-- a test by truth, the fragment by name -/
def tTru (K : PySem.W.Frag) (ta : TE) : TT := fun σ H Q => ta σ H fun x H' => ∃ k, TruV K x H' k ∧ Q k H'
theorem pt_tru {X : Cx} {K : PySem.W.Frag} {a : Expr} {ta : TE} (e : X.K = K) (ha : PE X a ta) (he : ∀ whole, isTrue a X.env whole = (do let v ← whole; standAt a.pos; holding [v] (truthy v))) : PT X a (tTru K ta) := e ▸ pt_truth ha he
section
variable {C : Bc} {t u : TT} {a b : DTX} {ta tb : TE} {ea eb : DX}
theorem dt_test (h : DE C ta ea) : DT C (tTest ta) (eTest ea) := by
  intro X env σ H Q Qd Qx rp he q x
  refine h X env σ H _ _ Qx rp he (fun d v H1 f1 r1 he1 => ?_) x
  split at he1
  · exact ⟨_, r1.flat rfl, q _ _ f1 he1⟩
  · exact he1.elim
theorem dt_not (h : DT C t a) : DT C (tNot t) (eNotT a) := fun X env σ H Q Qd Qx rp he q x => h X env σ H _ _ Qx rp he (fun b H1 f1 he1 => q _ _ f1 he1) x
theorem dt_and (h : DT C t a) (k : DT C u b) : DT C (tAnd t u) (eAndT a b) := by
  intro X env σ H Q Qd Qx rp he q x
  refine h X env σ H _ _ Qx rp he (fun c H1 f1 he1 => ?_) x
  cases c with
  | true => rw [if_pos rfl] at he1 ⊢; exact k X env σ H1 Q Qd Qx (rp.step f1) he1 (fun b H2 f2 h2 => q b H2 (f1.trans f2) h2) (x.step f1)
  | false => rw [if_neg (by decide)] at he1 ⊢; exact q _ _ f1 he1
theorem dt_or (h : DT C t a) (k : DT C u b) : DT C (tOr t u) (eOrT a b) := by
  intro X env σ H Q Qd Qx rp he q x
  refine h X env σ H _ _ Qx rp he (fun c H1 f1 he1 => ?_) x
  cases c with
  | false => rw [if_neg (by decide)] at he1 ⊢; exact k X env σ H1 Q Qd Qx (rp.step f1) he1 (fun b H2 f2 h2 => q b H2 (f1.trans f2) h2) (x.step f1)
  | true => rw [if_pos rfl] at he1 ⊢; exact q _ _ f1 he1
theorem Bor.tru {X : Addr → Prop} {env : List Sl} {σ : L2.St} {H H1 : Hp} {v : V} {d : Dt} {Qd : Bool → Prop} (rp : Rep C X env σ H) (h : Bor C X H1 H v d) (he : dTru d Qd) : ∃ k, TruV C.K v H k ∧ Qd k := by
  cases d with
  | non => rw [h.non]; exact ⟨_, rfl, he⟩
  | bl b => rw [h.bl]; exact ⟨_, rfl, he⟩
  | int i => rw [h.int]; exact ⟨_, rfl, he⟩
  | str y => rw [h.str]; exact ⟨_, ⟨by rw [sizeLine_eq]; exact he.1, rfl⟩, he.2⟩
  | lst xs =>
    obtain ⟨p, vs, rfl, h1, a1⟩ := h.lst
    refine ⟨_, .inl ⟨vs, .inl (.inl h1), rfl⟩, ?_⟩
    have : vs.isEmpty = xs.isEmpty := by cases a1 <;> rfl
    rw [this]; exact he
  | tup xs =>
    obtain ⟨p, vs, rfl, h1, a1⟩ := h.tup
    refine ⟨_, .inr (.inl ⟨vs, .inl (.inl h1), rfl⟩), ?_⟩
    have : vs.isEmpty = xs.isEmpty := by cases a1 <;> rfl
    rw [this]; exact he
  | dt _ _ => exact he.elim
  | dk ks ds =>
    obtain ⟨p, vs, rfl, h1, l, a1⟩ := h.dk
    refine ⟨_, .inr (.inr ⟨_, h1, rfl⟩), ?_⟩
    have : (ks.zip vs).isEmpty = ks.isEmpty := by
      cases ks with
      | nil => rfl
      | cons k ks =>
        cases vs with
        | nil => cases l
        | cons v vs => rfl
    rw [this]; exact he
  | ins _ _ _ => exact he.elim
  | raw _ => exact he.elim
theorem dt_tru (h : DB C ta ea) : DT C (tTru C.K ta) (eTru ea) := by
  intro X env σ H Q Qd Qx rp he q x
  refine h X env σ H _ _ Qx rp he (fun d v H1 f1 r1 he1 => ?_) x
  obtain ⟨k, h1, h2⟩ := r1.tru (rp.step f1) he1
  exact ⟨k, h1, q _ _ f1 h2⟩
/-! as values -/
def eBool (d : Dt) (Q : Bool → Prop) : Prop := match d with
  | .bl b => Q b
  | _ => False
def eAndV (a b : DX) : DX := fun env Q E => a env (fun d => eBool d fun c => if c = true then b env Q E else Q (.bl false)) E
def eOrV (a b : DX) : DX := fun env Q E => a env (fun d => eBool d fun c => if c = true then Q (.bl true) else b env Q E) E
def eNotV (a : DX) : DX := fun env Q E => a env (fun d => eBool d fun c => Q (.bl (!c))) E
def eIf (t : DTX) (a b : DX) : DX := fun env Q E => t env (fun c => if c = true then a env Q E else b env Q E) E
theorem eBool_of {d : Dt} {Q : Bool → Prop} (h : eBool d Q) : ∃ c, d = .bl c ∧ Q c := by
  cases d <;> first | exact ⟨_, rfl, h⟩ | exact h.elim
theorem de_andV (h : DE C ta ea) (k : DE C tb eb) : DE C (tAndV ta tb) (eAndV ea eb) := by
  intro X env σ H Q Qd Qx rp he q x
  refine h X env σ H _ _ Qx rp he (fun d v H1 f1 r1 he1 => ?_) x
  obtain ⟨c, rfl, he2⟩ := eBool_of he1
  refine ⟨c, r1.flat rfl, ?_⟩
  cases c with
  | true => rw [if_pos rfl] at he2 ⊢; exact k X env σ H1 Q Qd Qx (rp.step f1) he2 (fun d v H2 f2 h2 => q d v H2 (f1.trans f2) h2) (x.step f1)
  | false => rw [if_neg (by decide)] at he2 ⊢; exact q _ _ _ f1 (.bl _) he2
theorem de_orV (h : DE C ta ea) (k : DE C tb eb) : DE C (tOrV ta tb) (eOrV ea eb) := by
  intro X env σ H Q Qd Qx rp he q x
  refine h X env σ H _ _ Qx rp he (fun d v H1 f1 r1 he1 => ?_) x
  obtain ⟨c, rfl, he2⟩ := eBool_of he1
  refine ⟨c, r1.flat rfl, ?_⟩
  cases c with
  | false => rw [if_neg (by decide)] at he2 ⊢; exact k X env σ H1 Q Qd Qx (rp.step f1) he2 (fun d v H2 f2 h2 => q d v H2 (f1.trans f2) h2) (x.step f1)
  | true => rw [if_pos rfl] at he2 ⊢; exact q _ _ _ f1 (.bl _) he2
theorem de_notV (h : DE C ta ea) : DE C (tNotV ta) (eNotV ea) := by
  intro X env σ H Q Qd Qx rp he q x
  refine h X env σ H _ _ Qx rp he (fun d v H1 f1 r1 he1 => ?_) x
  obtain ⟨c, rfl, he2⟩ := eBool_of he1
  exact ⟨c, r1.flat rfl, q _ _ _ f1 (.bl _) he2⟩
theorem dg_if {R : RR} [RRs R] (h : DT C t a) (k : DEg R C ta ea) (l : DEg R C tb eb) : DEg R C (tIf t ta tb) (eIf a ea eb) := by
  intro X env σ H Q Qd Qx rp he q x
  refine h X env σ H _ _ Qx rp he (fun c H1 f1 he1 => ?_) x
  cases c with
  | true => rw [if_pos rfl] at he1 ⊢; exact k X env σ H1 Q Qd Qx (rp.step f1) he1 (fun d v H2 f2 h2 => q d v H2 (f1.trans f2) (RRs.st rp f1 h2)) (x.step f1)
  | false => rw [if_neg (by decide)] at he1 ⊢; exact l X env σ H1 Q Qd Qx (rp.step f1) he1 (fun d v H2 f2 h2 => q d v H2 (f1.trans f2) (RRs.st rp f1 h2)) (x.step f1)
/-- a < b < c -/
def eChain (f g : D2) (a b c : DX) : DX := fun env Q E => a env (fun x => b env (fun y => f x y fun d => eBool d fun k => if k = true then c env (fun z => g y z Q) E else Q (.bl false)) E) E
theorem de_chain {r r' : R2} {f g : D2} {tc : TE} {ec : DX} (ho : OpD C r f) (ho' : OpD C r' g) (ha : DB C ta ea) (hb : DB C tb eb) (hc : DB C tc ec) : DE C (tChain r r' ta tb tc) (eChain f g ea eb ec) := by
  intro X env σ H Q Qd Qx rp he q x
  refine ha X env σ H _ _ Qx rp he (fun d v H1 f1 r1 he1 => ?_) x
  have rp1 := rp.step f1
  refine hb X env σ H1 _ _ Qx rp1 he1 (fun d2 v2 H2 f2 r2 he2 => ?_) (x.step f1)
  have rp2 := rp1.step f2
  refine ho X env σ H2 H1 v v2 d d2 _ _ rp2 (r1.frm rp1 f2) r2 he2 fun d3 v3 H3 f3 r3 he3 => ?_
  obtain ⟨k, rfl, he5⟩ := eBool_of he3
  refine ⟨k, r3.flat rfl, ?_⟩
  have rp3 := rp2.step f3
  cases k with
  | false => rw [if_neg (by decide)] at he5 ⊢; exact q _ _ _ (f1.trans (f2.trans f3)) (.bl _) he5
  | true =>
    rw [if_pos rfl] at he5 ⊢
    refine hc X env σ H3 _ _ Qx rp3 he5 (fun d4 v4 H4 f4 r4 he4 => ?_) ((x.step f1).step (f2.trans f3))
    exact ho' X env σ H4 H3 v2 v4 d2 d4 Q Qd (rp3.step f4) ((r2.frm rp2 f3).frm rp3 f4) r4 he4 fun d5 v5 H5 f5 r5 => q d5 v5 H5 (f1.trans (f2.trans (f3.trans (f4.trans f5)))) r5
end
end Mine

namespace Mine
open PySem PySem.Spec PyProof.Rows L2
/-! ### rows of expressions -/
inductive BorAll (C : Bc) (X : Addr → Prop) (H : Hp) : List V → List Dt → Prop
  | nil : BorAll C X H [] []
  | cons {v : V} {vs : List V} {d : Dt} {ds : List Dt} : Bor C X H H v d → BorAll C X H vs ds → BorAll C X H (v :: vs) (d :: ds)
inductive SlAll (K : PySem.W.Frag) (hd : Hnd) (X : Addr → Prop) (H : Hp) : List V → List Sl → Prop
  | nil : SlAll K hd X H [] []
  | d {v : V} {vs : List V} {x : Dt} {ss : List Sl} : Den K (vis H X) v x → SlAll K hd X H vs ss → SlAll K hd X H (v :: vs) (.d x :: ss)
  | hand {h c : Addr} {vs : List V} {ss : List Sl} : hd = some (h, c) → SlAll K hd X H vs ss → SlAll K hd X H (.ref h :: vs) (.hand :: ss)
theorem Bor.frm1 {C : Bc} {X : Addr → Prop} {env : List Sl} {σ : L2.St} {H H1 H2 H' : Hp} {v : V} {d : Dt} (r : Rep C X env σ H) (f : Frm C.hd H H') (h : Bor C X H1 H v d) : Bor C X H2 H' v d := h.frm r f
theorem SlAll.length {K : PySem.W.Frag} {hd : Hnd} {X : Addr → Prop} {H : Hp} : ∀ {vs : List V} {ss : List Sl}, SlAll K hd X H vs ss → vs.length = ss.length
  | _, _, .nil => rfl
  | _, _, .d _ r => by rw [List.length_cons, List.length_cons, r.length]
  | _, _, .hand _ r => by rw [List.length_cons, List.length_cons, r.length]
theorem SlAll.append {K : PySem.W.Frag} {hd : Hnd} {X : Addr → Prop} {H : Hp} : ∀ {vs us : List V} {ss ts : List Sl}, SlAll K hd X H vs ss → SlAll K hd X H us ts → SlAll K hd X H (vs ++ us) (ss ++ ts)
  | _, _, _, _, .nil, b => b
  | _, _, _, _, .d a r, b => .d a (r.append b)
  | _, _, _, _, .hand a r, b => .hand a (r.append b)
/-- args, by how they stand -/
def DAg {δ : Type} (A : Bc → (Addr → Prop) → Hp → List V → List δ → Prop) (C : Bc) (t : TA) (e : List Sl → (List δ → Prop) → (Xc → Prop) → Prop) : Prop :=
  ∀ X env σ H (Q : List V → Hp → Prop) (Qd : List δ → Prop) (Qx : Xc → Prop), Rep C X env σ H → e env Qd Qx → (∀ ds vs H', Frm C.hd H H' → A C X H' vs ds → Qd ds → Q vs H') → XOk C X σ H Qx → t σ H Q
def AC (C : Bc) (X : Addr → Prop) (H : Hp) (vs : List V) (ds : List Dt) : Prop := DenAll C.K (vis H X) vs ds
def AS (C : Bc) (X : Addr → Prop) (H : Hp) (vs : List V) (ss : List Sl) : Prop := SlAll C.K C.hd X H vs ss
abbrev DA := DAg AC
abbrev DAb := DAg BorAll
abbrev DAs := DAg AS
def eNil {δ : Type} : List Sl → (List δ → Prop) → (Xc → Prop) → Prop := fun _ Q _ => Q []
def eCons (a : DX) (r : DAX) : DAX := fun env Q E => a env (fun d => r env (fun ds => Q (d :: ds)) E) E
def eConsS (a : DX) (r : DSX) : DSX := fun env Q E => a env (fun d => r env (fun ds => Q (.d d :: ds)) E) E
def eConsH (i : Nat) (r : DSX) : DSX := fun env Q E => match env[i]? with
  | some .hand => r env (fun ds => Q (.hand :: ds)) E
  | _ => False
section
variable {C : Bc} {ta : TE} {tr : TA} {a : DX} {r : DAX} {rs : DSX}
theorem da_nil : DA C tNil eNil := fun X env σ H Q Qd Qx rp he q x => q [] [] H (.refl H) .nil he
theorem db_nil : DAb C tNil eNil := fun X env σ H Q Qd Qx rp he q x => q [] [] H (.refl H) .nil he
theorem ds_nil : DAs C tNil eNil := fun X env σ H Q Qd Qx rp he q x => q [] [] H (.refl H) .nil he
theorem da_cons (ha : DE C ta a) (hr : DA C tr r) : DA C (tCons ta tr) (eCons a r) := by
  intro X env σ H Q Qd Qx rp he q x
  refine ha X env σ H _ _ Qx rp he (fun d v H1 f1 r1 he1 => ?_) x
  have rp1 := rp.step f1
  exact hr X env σ H1 _ _ Qx rp1 he1 (fun ds vs H2 f2 r2 he2 => q _ _ H2 (f1.trans f2) (.cons (Den.mono (rp1.vs f2) r1) r2) he2) (x.step f1)
theorem db_cons (ha : DB C ta a) (hr : DAb C tr r) : DAb C (tCons ta tr) (eCons a r) := by
  intro X env σ H Q Qd Qx rp he q x
  refine ha X env σ H _ _ Qx rp he (fun d v H1 f1 r1 he1 => ?_) x
  have rp1 := rp.step f1
  exact hr X env σ H1 _ _ Qx rp1 he1 (fun ds vs H2 f2 r2 he2 => q _ _ H2 (f1.trans f2) (.cons (r1.frm1 rp1 f2) r2) he2) (x.step f1)
theorem ds_cons (ha : DE C ta a) (hr : DAs C tr rs) : DAs C (tCons ta tr) (eConsS a rs) := by
  intro X env σ H Q Qd Qx rp he q x
  refine ha X env σ H _ _ Qx rp he (fun d v H1 f1 r1 he1 => ?_) x
  have rp1 := rp.step f1
  exact hr X env σ H1 _ _ Qx rp1 he1 (fun ds vs H2 f2 r2 he2 => q _ _ H2 (f1.trans f2) (.d (Den.mono (rp1.vs f2) r1) r2) he2) (x.step f1)
theorem ds_hand {i : Nat} (hr : DAs C tr rs) : DAs C (tCons (tVar i) tr) (eConsH i rs) := by
  intro X env σ H Q Qd Qx rp he q x
  unfold eConsH at he
  split at he
  · rename_i e
    obtain ⟨o, e1, h, c, rfl, e2⟩ := rp.slot i _ e
    refine ⟨.ref h, e1, ?_⟩
    exact hr X env σ H _ _ Qx rp he (fun ds vs H2 f2 r2 he2 => q _ _ H2 f2 (.hand e2 r2) he2) x
  · exact he.elim
/-! ### displays -/
def eTup (r : DAX) : DX := fun env Q E => r env (fun ds => ds.length ≤ LINE ∧ Q (.tup ds)) E
def eLst (r : DAX) : DX := fun env Q E => r env (fun ds => ds.length ≤ LINE ∧ Q (.lst ds)) E
theorem de_tup (hr : DA C tr r) : DE C (tTup tr) (eTup r) := by
  intro X env σ H Q Qd Qx rp he q x
  refine hr X env σ H _ _ Qx rp he (fun ds vs H1 f1 r1 he1 => ?_) x
  have r1 : DenAll C.K (vis H1 X) vs ds := r1
  exact ⟨by rw [r1.length, sizeLine_eq]; exact he1.1, fun p hp => q _ _ _ (f1.trans (.upd hp)) (cln_new (H1 := H1) (rp.step f1) hp r1) he1.2⟩
theorem df_lst (hr : DA C tr r) : DF C (tLst tr) (eLst r) := by
  intro X env σ H Q Qd Qx rp he q x
  refine hr X env σ H _ _ Qx rp he (fun ds vs H1 f1 r1 he1 => ?_) x
  have r1 : DenAll C.K (vis H1 X) vs ds := r1
  exact ⟨by rw [r1.length, sizeLine_eq]; exact he1.1, fun p hp => q _ _ _ (f1.trans (.upd hp)) ((fsh_new (rp.step f1) hp r1).frm rp f1) he1.2⟩
theorem df_dict : DF C (tC .non) (fun _ _ _ => False) := fun X env σ H Q Qd Qx rp he q x => he.elim
end
/-! ### the empty dict -/
def eDk0 : DX := fun _ Q _ => Q (.dk [] [])
theorem de_dk0 {C : Bc} {t : TE} (ht : ∀ σ H Q, (∀ d, H d = none → Q (.ref d) (upd H d (.dK []))) → t σ H Q) : DE C t eDk0 := by
  intro X env σ H Q Qd Qx rp he q x
  refine ht σ H Q fun p hp => q _ _ _ (.upd hp) ?_ he
  exact .dk (ks := []) (vs := []) (vis_mk (rp.free hp) upd_same) rfl .nil
/-! ### x[i] -/
theorem IxR.k {X : Cx} {r : PySem.W.Frag → R2} (h : IxR X (r X.K)) {K : PySem.W.Frag} (e : X.K = K) : IxR X (r K) := e ▸ h
def dIx : D2 := fun a b Q => match a, b with
  | .lst xs, .int k => ∃ x, atI xs k = some x ∧ Q x
  | .tup xs, .int k => ∃ x, atI xs k = some x ∧ Q x
  | .str z, .int k => z.length ≤ LINE ∧ ∃ c, atI z.cps.toList k = some c ∧ Q (.str ⟨#[c]⟩)
  | _, _ => False
theorem DenAll.atI {K : PySem.W.Frag} {H : Hp} {vs : List V} {ds : List Dt} {k : Int} {x : Dt} (h : DenAll K H vs ds) (e : L2.atI ds k = some x) : ∃ v, L2.atI vs k = some v ∧ Den K H v x := by
  unfold L2.atI at e ⊢
  rw [h.length]
  cases q : ixN ds.length k with
  | none => rw [q] at e; cases e
  | some j =>
    rw [q] at e
    obtain ⟨v, h1, h2⟩ := h.get (show ds[j]? = some x from e)
    exact ⟨v, h1, h2⟩
section
variable {C : Bc}
theorem od_ix : OpD C (rIx C.K) dIx := by
  intro X env σ H H1 x y a b Q Qd rp r1 r2 he q
  unfold dIx at he
  split at he
  · obtain ⟨d, e, he⟩ := he
    obtain ⟨p, vs, rfl, h1, a1⟩ := r1.lst
    obtain ⟨v, e2, h2⟩ := a1.atI e
    exact .inl ⟨p, vs, _, v, rfl, r2.int, .inl (.inl h1), e2, q _ _ H (.refl H) h2 he⟩
  · obtain ⟨d, e, he⟩ := he
    obtain ⟨p, vs, rfl, h1, a1⟩ := r1.tup
    obtain ⟨v, e2, h2⟩ := a1.atI e
    exact .inr (.inl ⟨p, vs, _, v, rfl, r2.int, .inl (.inl h1), e2, q _ _ H (.refl H) h2 he⟩)
  · obtain ⟨hz, c, e, he⟩ := he
    exact .inr (.inr ⟨_, _, c, r1.str, r2.int, by rw [sizeLine_eq]; exact hz, e, q _ _ H (.refl H) (.str _) he⟩)
  · exact he.elim
end
/-! ### slices -/
def cutG {α : Type} (xs : List α) (lo hi : Option Int) : List α := (xs.drop (HT.sIx xs.length 0 lo)).take (HT.sIx xs.length xs.length hi - HT.sIx xs.length 0 lo)
theorem DenAll.cut {K : PySem.W.Frag} {H : Hp} {vs : List V} {ds : List Dt} (h : DenAll K H vs ds) (lo hi : Option Int) : DenAll K H (cutV vs lo hi) (cutG ds lo hi) := by
  unfold cutV cutG
  rw [h.length]
  exact (h.drop _).take _
theorem SlR.or {X : Cx} {r r' : V → Option Int → Option Int → Hp → VK → Prop} (h : SlR X r) (h' : SlR X r') : SlR X (fun x lo hi H Q => r x lo hi H Q ∨ r' x lo hi H Q) := by
  intro pins s σ H x v vl vu lo hi sl Q I rx hs pl pu q
  rcases q with q | q
  · exact h pins s σ H x v vl vu lo hi sl Q I rx hs pl pu q
  · exact h' pins s σ H x v vl vu lo hi sl Q I rx hs pl pu q
abbrev D3 := Dt → Option Int → Option Int → (Dt → Prop) → Prop
def rSlU (K : PySem.W.Frag) : V → Option Int → Option Int → Hp → VK → Prop := fun x lo hi H Q => rSlL K x lo hi H Q ∨ (rSlA K x lo hi H Q ∨ L2.rSlS x lo hi H Q)
theorem sl_U {X : Cx} {K : PySem.W.Frag} (e : X.K = K) : SlR X (rSlU K) := e ▸ sl_list.or (sl_tupA.or L2.sl_str)
def dSl : D3 := fun a lo hi Q => match a with
  | .lst xs => Q (.lst (cutG xs lo hi))
  | .tup xs => Q (.tup (cutG xs lo hi))
  | .str z => z.length ≤ LINE ∧ Q (.str (cutS z lo hi))
  | _ => False
def dSlL : D3 := fun a lo hi Q => match a with
  | .lst xs => Q (.lst (cutG xs lo hi))
  | _ => False
def DOX := List Sl → (Option Int → Prop) → (Xc → Prop) → Prop
def eNoPart : DOX := fun _ Q _ => Q none
def ePart (e : DX) : DOX := fun env Q E => e env (fun d => match d with
  | .int i => Q (some i)
  | _ => False) E
def DO (C : Bc) (t : TO) (e : DOX) : Prop := ∀ X env σ H (Q : Option Int → Hp → Prop) (Qd : Option Int → Prop) (Qx : Xc → Prop), Rep C X env σ H → e env Qd Qx → (∀ o H', Frm C.hd H H' → Qd o → Q o H') → XOk C X σ H Qx → t σ H Q
def eSl (f : D3) (a : DX) (lo hi : DOX) : DX := fun env Q E => a env (fun d => lo env (fun l => hi env (fun u => f d l u Q) E) E) E
def SlG (R : RR) (C : Bc) (r : V → Option Int → Option Int → Hp → VK → Prop) (f : D3) : Prop := ∀ X env σ H H1 x a lo hi (Q : VK) (Qd : Dt → Prop), Rep C X env σ H → Bor C X H1 H x a → f a lo hi Qd → (∀ d v H', Frm C.hd H H' → R C X H H' v d → Qd d → Q v H') → r x lo hi H Q
section
variable {C : Bc} {te tl : TE} {ea el : DX} {lo hi : DOX} {t1 t2 : TO} {r : V → Option Int → Option Int → Hp → VK → Prop} {f : D3}
theorem do_none : DO C tNoPart eNoPart := fun X env σ H Q Qd Qx rp he q x => q _ H (.refl H) he
theorem do_some (h : DE C te ea) : DO C (tPart te) (ePart ea) := by
  intro X env σ H Q Qd Qx rp he q x
  refine h X env σ H _ _ Qx rp he (fun d v H1 f1 r1 he1 => ?_) x
  split at he1
  · exact ⟨_, r1.flat rfl, q _ _ f1 he1⟩
  · exact he1.elim
theorem dg_sl {R : RR} [RRs R] (hr : SlG R C r f) (he : DB C te ea) (h1 : DO C t1 lo) (h2 : DO C t2 hi) : DEg R C (tSl r te t1 t2) (eSl f ea lo hi) := by
  intro X env σ H Q Qd Qx rp he' q x
  refine he X env σ H _ _ Qx rp he' (fun d v H1 f1 r1 he1 => ?_) x
  have rp1 := rp.step f1
  refine h1 X env σ H1 _ _ Qx rp1 he1 (fun l H2 f2 he2 => ?_) (x.step f1)
  have rp2 := rp1.step f2
  refine h2 X env σ H2 _ _ Qx rp2 he2 (fun u H3 f3 he3 => ?_) ((x.step f1).step f2)
  have rp3 := rp2.step f3
  exact hr X env σ H3 H v d l u Q Qd rp3 ((r1.frm rp1 f2).frm rp2 f3) he3 fun d v H4 f4 r4 => q d v H4 (f1.trans (f2.trans (f3.trans f4))) (RRs.st rp (f1.trans (f2.trans f3)) r4)
theorem sg_L : SlG Fsh C (rSlU C.K) dSlL := by
  intro X env σ H H1 x a lo hi Q Qd rp r1 he q
  unfold dSlL at he
  split at he
  · obtain ⟨p, vs, rfl, h1, a1⟩ := r1.lst
    exact .inl ⟨p, vs, rfl, .inl (.inl h1), fun pn hp => q _ _ _ (.upd hp) (fsh_new rp hp (a1.cut lo hi)) he⟩
  · exact he.elim
theorem sg_U : SlG Cln C (rSlU C.K) dSl := by
  intro X env σ H H1 x a lo hi Q Qd rp r1 he q
  unfold dSl at he
  split at he
  · exact sg_L X env σ H H1 x _ lo hi Q Qd rp r1 he fun d v H' f h => q d v H' f (h.cln rp)
  · obtain ⟨p, vs, rfl, h1, a1⟩ := r1.tup
    refine .inr (.inl ⟨p, vs, rfl, .inl (.inl h1), fun ⟨c1, c2⟩ => ?_, fun _ pn hp => q _ _ _ (.upd hp) (cln_new rp hp (a1.cut lo hi)) he⟩)
    refine q _ _ H (.refl H) ?_ he
    have e := a1.cut lo hi
    rw [cut_all c1 c2] at e
    rcases r1 with r1 | ⟨_, _, _, _, e2, _⟩
    · cases r1 with
      | @tup _ xs' _ g g2 =>
        have e' : xs' = vs := by simpa using (vis_sub _ _ g).symm.trans h1
        subst e'
        exact .tup g e
    · cases e2
  · obtain ⟨hz, he⟩ := he
    exact .inr (.inr ⟨_, r1.str, by rw [sizeLine_eq]; exact hz, q _ _ H (.refl H) (.str _) he⟩)
  · exact he.elim
/-! x[::-1] -/
def eRev (a : DX) : DX := fun env Q E => a env (fun d => match d with
  | .lst xs => Q (.lst xs.reverse)
  | .tup xs => Q (.tup xs.reverse)
  | _ => False) E
def eRevL (a : DX) : DX := fun env Q E => a env (fun d => match d with
  | .lst xs => Q (.lst xs.reverse)
  | _ => False) E
theorem df_rev (he : DB C te ea) : DF C (tRevU te) (eRevL ea) := by
  intro X env σ H Q Qd Qx rp he' q x
  refine he X env σ H _ _ Qx rp he' (fun d v H1 f1 r1 he1 => ?_) x
  split at he1
  · obtain ⟨p, vs, rfl, h1, a1⟩ := r1.lst
    exact ⟨p, vs, rfl, .inl ⟨h1, fun pn hp => q _ _ _ (f1.trans (.upd hp)) ((fsh_new (rp.step f1) hp a1.reverse).frm rp f1) he1⟩⟩
  · exact he1.elim
theorem de_rev (he : DB C te ea) : DE C (tRevU te) (eRev ea) := by
  intro X env σ H Q Qd Qx rp he' q x
  refine he X env σ H _ _ Qx rp he' (fun d v H1 f1 r1 he1 => ?_) x
  split at he1
  · obtain ⟨p, vs, rfl, h1, a1⟩ := r1.lst
    exact ⟨p, vs, rfl, .inl ⟨h1, fun pn hp => q _ _ _ (f1.trans (.upd hp)) (Fsh.cln (H1 := H1) (rp.step f1) (fsh_new (rp.step f1) hp a1.reverse)) he1⟩⟩
  · obtain ⟨p, vs, rfl, h1, a1⟩ := r1.tup
    exact ⟨p, vs, rfl, .inr ⟨h1, fun pn hp => q _ _ _ (f1.trans (.upd hp)) (cln_new (H1 := H) (rp.step f1) hp a1.reverse) he1⟩⟩
  · exact he1.elim
end
/-! ### built-ins -/
abbrev DL := List Dt → (Dt → Prop) → Prop
def CallG (R : RR) (C : Bc) (r : List V → Hp → VK → Prop) (f : DL) : Prop := ∀ X env σ H vs ds (Q : VK) (Qd : Dt → Prop), Rep C X env σ H → BorAll C X H vs ds → f ds Qd → (∀ d v H', Frm C.hd H H' → R C X H H' v d → Qd d → Q v H') → r vs H Q
def eCB (f : DL) (a : DAX) : DX := fun env Q E => a env (fun ds => f ds Q) E
theorem dg_cb {R : RR} [RRs R] {C : Bc} {r : List V → Hp → VK → Prop} {f : DL} {t : TA} {a : DAX} (hr : CallG R C r f) (ha : DAb C t a) : DEg R C (tCB r t) (eCB f a) := by
  intro X env σ H Q Qd Qx rp he q x
  refine ha X env σ H _ _ Qx rp he (fun ds vs H1 f1 r1 he1 => ?_) x
  exact hr X env σ H1 vs ds Q Qd (rp.step f1) r1 he1 fun d v H2 f2 h => q d v H2 (f1.trans f2) (RRs.st rp f1 h)
theorem CallR.or {X : Cx} {f : Value} {r r' : List V → Hp → VK → Prop} (h : CallR X f r) (h' : CallR X f r') : CallR X f (fun xs H Q => r xs H Q ∨ r' xs H Q) := fun pins s σ H xs us Q I rx q =>
  q.elim (h pins s σ H xs us Q I rx) (h' pins s σ H xs us Q I rx)
theorem BorAll.one {C : Bc} {X : Addr → Prop} {H : Hp} {vs : List V} {a : Dt} (h : BorAll C X H vs [a]) : ∃ v, vs = [v] ∧ Bor C X H H v a := by
  cases h with
  | cons a r => cases r; exact ⟨_, rfl, a⟩
theorem BorAll.two {C : Bc} {X : Addr → Prop} {H : Hp} {vs : List V} {a b : Dt} (h : BorAll C X H vs [a, b]) : ∃ v u, vs = [v, u] ∧ Bor C X H H v a ∧ Bor C X H H u b := by
  cases h with
  | cons a r =>
    obtain ⟨u, rfl, b⟩ := r.one
    exact ⟨_, _, rfl, a, b⟩
/-! len -/
def rLenD : List V → Hp → VK → Prop := fun xs H Q => ∃ a kvs, xs = [V.ref a] ∧ H a = some (.dK kvs) ∧ Q (.int kvs.length) H
def rLenSeq (K : PySem.W.Frag) : List V → Hp → VK → Prop := fun xs H Q => ∃ p ys, xs = [.ref p] ∧ (SqL K H p ys ∨ SqT K H p ys) ∧ Q (.int ys.length) H
def rLenStr : List V → Hp → VK → Prop := fun xs H Q => ∃ z, xs = [.str z] ∧ z.length ≤ sizeLine ∧ Q (.int z.length) H
def rLenU (K : PySem.W.Frag) : List V → Hp → VK → Prop := fun xs H Q => rLenSeq K xs H Q ∨ (rLenStr xs H Q ∨ rLenD xs H Q)
theorem call_lenU {X : Cx} {K : PySem.W.Frag} (e : X.K = K) : CallR X (.builtin "len") (rLenU K) := e ▸ CallR.or (r := rLenSeq X.K) call_len_seq (CallR.or (r := rLenStr) call_len_str call_lenD)
def dLen : DL := fun ds Q => match ds with
  | [.lst xs] => Q (.int xs.length)
  | [.tup xs] => Q (.int xs.length)
  | [.str z] => z.length ≤ LINE ∧ Q (.int z.length)
  | [.dk ks _] => Q (.int ks.length)
  | _ => False
section
variable {C : Bc}
theorem cg_len : CallG Cln C (rLenU C.K) dLen := by
  intro X env σ H vs ds Q Qd rp ra he q
  unfold dLen at he
  split at he
  · obtain ⟨v, rfl, r1⟩ := ra.one
    obtain ⟨p, vs, rfl, h1, a1⟩ := r1.lst
    exact .inl ⟨p, vs, rfl, .inl (.inl (.inl h1)), by rw [a1.length]; exact q _ _ H (.refl H) (.int _) he⟩
  · obtain ⟨v, rfl, r1⟩ := ra.one
    obtain ⟨p, vs, rfl, h1, a1⟩ := r1.tup
    exact .inl ⟨p, vs, rfl, .inr (.inl (.inl h1)), by rw [a1.length]; exact q _ _ H (.refl H) (.int _) he⟩
  · obtain ⟨v, rfl, r1⟩ := ra.one
    exact .inr (.inl ⟨_, by rw [r1.str], by rw [sizeLine_eq]; exact he.1, q _ _ H (.refl H) (.int _) he.2⟩)
  · obtain ⟨v, rfl, r1⟩ := ra.one
    obtain ⟨p, vs, rfl, h1, l, a1⟩ := r1.dk
    refine .inr (.inr ⟨p, _, rfl, h1, ?_⟩)
    rw [List.length_zip, l, Nat.min_self, ← l]
    exact q _ _ H (.refl H) (.int _) he
  · exact he.elim
end
/-! int, bool, str, abs -/
def rInt1 : List V → Hp → VK → Prop := fun xs H Q => (∃ i, xs = [.int i] ∧ Q (.int i) H) ∨ ∃ k, xs = [.bl k] ∧ Q (.int (if k then 1 else 0)) H
def rIntS : List V → Hp → VK → Prop := fun xs H Q => ∃ a n, xs = [.str a] ∧ PySem.intText? a = some n ∧ a.length ≤ 640 ∧ Q (.int n) H
def rIntU : List V → Hp → VK → Prop := fun xs H Q => rInt1 xs H Q ∨ rIntS xs H Q
theorem call_intU {X : Cx} : CallR X (.type "int") rIntU := CallR.or (r := rInt1) (r' := rIntS) call_int1 call_int_str
def dInt : DL := fun ds Q => match ds with
  | [.int i] => Q (.int i)
  | [.bl k] => Q (.int (if k then 1 else 0))
  | [.str z] => z.length ≤ 640 ∧ ∃ n, PySem.intText? z = some n ∧ Q (.int n)
  | _ => False
def rStrI : List V → Hp → VK → Prop := fun xs H Q => ∃ i, xs = [.int i] ∧ i.natAbs.log2 < 1920 ∧ Q (.str (toString i)) H
theorem call_strU {X : Cx} : CallR X (.type "str") rStrI := call_str_int
def dStr : DL := fun ds Q => match ds with
  | [.int i] => i.natAbs.log2 < 1920 ∧ Q (.str (toString i))
  | _ => False
def rAbs : List V → Hp → VK → Prop := fun xs H Q => ∃ i, xs = [.int i] ∧ Q (.int (if i < 0 then -i else i)) H
theorem call_absU {X : Cx} : CallR X (.builtin "abs") rAbs := call_abs
def dAbs : DL := fun ds Q => match ds with
  | [.int i] => Q (.int (if i < 0 then -i else i))
  | _ => False
def rMax2 : List V → Hp → VK → Prop := fun xs H Q => ∃ i j, xs = [.int i, .int j] ∧ Q (.int (if j > i then j else i)) H
def rMin2 : List V → Hp → VK → Prop := fun xs H Q => ∃ i j, xs = [.int i, .int j] ∧ Q (.int (if j < i then j else i)) H
def dMax2 : DL := fun ds Q => match ds with
  | [.int i, .int j] => Q (.int (if j > i then j else i))
  | _ => False
def dMin2 : DL := fun ds Q => match ds with
  | [.int i, .int j] => Q (.int (if j < i then j else i))
  | _ => False
theorem call_max2U {X : Cx} (hc : X.calm = true) : CallR X (.builtin "max") rMax2 := call_max2 hc
theorem call_min2U {X : Cx} (hc : X.calm = true) : CallR X (.builtin "min") rMin2 := call_min2 hc
section
variable {C : Bc}
theorem cg_int : CallG Cln C rIntU dInt := by
  intro X env σ H vs ds Q Qd rp ra he q
  unfold dInt at he
  split at he
  · obtain ⟨v, rfl, r1⟩ := ra.one
    exact .inl (.inl ⟨_, by rw [r1.int], q _ _ H (.refl H) (.int _) he⟩)
  · obtain ⟨v, rfl, r1⟩ := ra.one
    exact .inl (.inr ⟨_, by rw [r1.bl], q _ _ H (.refl H) (.int _) he⟩)
  · obtain ⟨v, rfl, r1⟩ := ra.one
    obtain ⟨h1, n, h2, he⟩ := he
    exact .inr ⟨_, n, by rw [r1.str], h2, h1, q _ _ H (.refl H) (.int _) he⟩
  · exact he.elim
theorem cg_str : CallG Cln C rStrI dStr := by
  intro X env σ H vs ds Q Qd rp ra he q
  unfold dStr at he
  split at he
  · obtain ⟨v, rfl, r1⟩ := ra.one
    exact ⟨_, by rw [r1.int], he.1, q _ _ H (.refl H) (.str _) he.2⟩
  · exact he.elim
theorem cg_abs : CallG Cln C rAbs dAbs := by
  intro X env σ H vs ds Q Qd rp ra he q
  unfold dAbs at he
  split at he
  · obtain ⟨v, rfl, r1⟩ := ra.one
    exact ⟨_, by rw [r1.int], q _ _ H (.refl H) (.int _) he⟩
  · exact he.elim
theorem cg_max2 : CallG Cln C rMax2 dMax2 := by
  intro X env σ H vs ds Q Qd rp ra he q
  unfold dMax2 at he
  split at he
  · obtain ⟨v, u, rfl, r1, r2⟩ := ra.two
    exact ⟨_, _, by rw [r1.int, r2.int], q _ _ H (.refl H) (.int _) he⟩
  · exact he.elim
theorem cg_min2 : CallG Cln C rMin2 dMin2 := by
  intro X env σ H vs ds Q Qd rp ra he q
  unfold dMin2 at he
  split at he
  · obtain ⟨v, u, rfl, r1, r2⟩ := ra.two
    exact ⟨_, _, by rw [r1.int, r2.int], q _ _ H (.refl H) (.int _) he⟩
  · exact he.elim
end
/-! tuple, list -/
def rTupOf (K : PySem.W.Frag) : List V → Hp → VK → Prop := fun xs H Q => ∃ p ys, xs = [.ref p] ∧ ((SqL K H p ys ∧ ∀ l, H l = none → Q (.ref l) (upd H l (.tup ys))) ∨ (SqT K H p ys ∧ Q (.ref p) H))
theorem call_tupU {X : Cx} {K : PySem.W.Frag} (e : X.K = K) : CallR X (.type "tuple") (rTupOf K) := e ▸ call_tuple_of
def dTupOf : DL := fun ds Q => match ds with
  | [.lst xs] => Q (.tup xs)
  | [.tup xs] => Q (.tup xs)
  | _ => False
def rLstOf (K : PySem.W.Frag) : List V → Hp → VK → Prop := fun xs H Q => ∃ p ys, xs = [.ref p] ∧ (SqL K H p ys ∨ SqT K H p ys) ∧ ∀ l, H l = none → Q (.ref l) (upd H l (.lst ys))
theorem call_lstU {X : Cx} {K : PySem.W.Frag} (e : X.K = K) : CallR X (.type "list") (rLstOf K) := e ▸ call_list_of
def dLstOf : DL := fun ds Q => match ds with
  | [.lst xs] => Q (.lst xs)
  | [.tup xs] => Q (.lst xs)
  | _ => False
section
variable {C : Bc}
theorem cg_tup : CallG Cln C (rTupOf C.K) dTupOf := by
  intro X env σ H vs ds Q Qd rp ra he q
  unfold dTupOf at he
  split at he
  · obtain ⟨v, rfl, r1⟩ := ra.one
    obtain ⟨p, vs, rfl, h1, a1⟩ := r1.lst
    exact ⟨p, vs, rfl, .inl ⟨.inl (.inl h1), fun l hl => q _ _ _ (.upd hl) (cln_new rp hl a1) he⟩⟩
  · obtain ⟨v, rfl, r1⟩ := ra.one
    obtain ⟨p, vs, rfl, h1, a1⟩ := r1.tup
    refine ⟨p, vs, rfl, .inr ⟨.inl (.inl h1), q _ _ H (.refl H) ?_ he⟩⟩
    rcases r1 with r1 | ⟨_, _, _, _, e2, _⟩
    · exact r1
    · cases e2
  · exact he.elim
theorem cg_lst : CallG Fsh C (rLstOf C.K) dLstOf := by
  intro X env σ H vs ds Q Qd rp ra he q
  unfold dLstOf at he
  split at he
  · obtain ⟨v, rfl, r1⟩ := ra.one
    obtain ⟨p, vs, rfl, h1, a1⟩ := r1.lst
    exact ⟨p, vs, rfl, .inl (.inl (.inl h1)), fun l hl => q _ _ _ (.upd hl) (fsh_new rp hl a1) he⟩
  · obtain ⟨v, rfl, r1⟩ := ra.one
    obtain ⟨p, vs, rfl, h1, a1⟩ := r1.tup
    exact ⟨p, vs, rfl, .inr (.inl (.inl h1)), fun l hl => q _ _ _ (.upd hl) (fsh_new rp hl a1) he⟩
  · exact he.elim
end
/-! sum -/
def dSum : DL := fun ds Q => match ds with
  | [.lst xs] => ∃ ns : List Int, xs = ns.map .int ∧ Q (.int ns.sum)
  | [.tup xs] => ∃ ns : List Int, xs = ns.map .int ∧ Q (.int ns.sum)
  | _ => False
section
variable {C : Bc}
theorem cg_sum : CallG Cln C (rSumA C.K) dSum := by
  intro X env σ H vs ds Q Qd rp ra he q
  unfold dSum at he
  split at he
  · obtain ⟨v, rfl, r1⟩ := ra.one
    obtain ⟨ns, rfl, he⟩ := he
    obtain ⟨p, vs, rfl, h1, a1⟩ := r1.lst
    rw [a1.ints_of] at h1
    exact ⟨p, ns, rfl, .inl (.inl (.inl h1)), q _ _ H (.refl H) (.int _) he⟩
  · obtain ⟨v, rfl, r1⟩ := ra.one
    obtain ⟨ns, rfl, he⟩ := he
    obtain ⟨p, vs, rfl, h1, a1⟩ := r1.tup
    rw [a1.ints_of] at h1
    exact ⟨p, ns, rfl, .inr (.inl (.inl h1)), q _ _ H (.refl H) (.int _) he⟩
  · exact he.elim
end
/-! max, min, sorted of a list of whole numbers -/
def dMaxL : DL := fun ds Q => match ds with
  | [.lst xs] => ∃ ns : List Int, xs = ns.map .int ∧ 0 < ns.length ∧ ∀ m, m ∈ ns → (∀ y, y ∈ ns → y ≤ m) → Q (.int m)
  | _ => False
def dMinL : DL := fun ds Q => match ds with
  | [.lst xs] => ∃ ns : List Int, xs = ns.map .int ∧ 0 < ns.length ∧ ∀ m, m ∈ ns → (∀ y, y ∈ ns → m ≤ y) → Q (.int m)
  | _ => False
def dSorted : DL := fun ds Q => match ds with
  | [.lst xs] => ∃ ns : List Int, xs = ns.map .int ∧ ns.length < 64 ∧ ∀ ns' : List Int, ns'.Perm ns → ns'.Pairwise (· ≤ ·) → Q (.lst (ns'.map .int))
  | _ => False
section
variable {C : Bc}
theorem cg_maxL : CallG Cln C (rMax C.K) dMaxL := by
  intro X env σ H vs ds Q Qd rp ra he q
  unfold dMaxL at he
  split at he
  · obtain ⟨v, rfl, r1⟩ := ra.one
    obtain ⟨ns, rfl, h0, he⟩ := he
    obtain ⟨p, vs, rfl, h1, a1⟩ := r1.lst
    rw [a1.ints_of] at h1
    exact ⟨p, ns, rfl, .inl (.inl h1), h0, fun m h2 h3 => q _ _ H (.refl H) (.int _) (he m h2 h3)⟩
  · exact he.elim
theorem cg_minL : CallG Cln C (rMin C.K) dMinL := by
  intro X env σ H vs ds Q Qd rp ra he q
  unfold dMinL at he
  split at he
  · obtain ⟨v, rfl, r1⟩ := ra.one
    obtain ⟨ns, rfl, h0, he⟩ := he
    obtain ⟨p, vs, rfl, h1, a1⟩ := r1.lst
    rw [a1.ints_of] at h1
    exact ⟨p, ns, rfl, .inl (.inl h1), h0, fun m h2 h3 => q _ _ H (.refl H) (.int _) (he m h2 h3)⟩
  · exact he.elim
theorem cg_sorted : CallG Fsh C (rSorted C.K) dSorted := by
  intro X env σ H vs ds Q Qd rp ra he q
  unfold dSorted at he
  split at he
  · obtain ⟨v, rfl, r1⟩ := ra.one
    obtain ⟨ns, rfl, h0, he⟩ := he
    obtain ⟨p, vs, rfl, h1, a1⟩ := r1.lst
    rw [a1.ints_of] at h1
    exact ⟨p, ns, rfl, .inl (.inl h1), h0, fun ns' l h2 h3 hl => q _ _ _ (.upd hl) (fsh_new rp hl (DenAll.ints ns')) (he ns' h2 h3)⟩
  · exact he.elim
end
/-! isinstance -/
def Dt.kind : Dt → Option String
  | .non => some "NoneType"
  | .bl _ => some "bool"
  | .int _ => some "int"
  | .str _ => some "str"
  | .tup _ => some "tuple"
  | .lst _ => some "list"
  | .dk _ _ => some "dict"
  | .dt _ _ => some "dict"
  | _ => none
theorem Bor.tyx {C : Bc} {X : Addr → Prop} {H H1 : Hp} {v : V} {d : Dt} {n : String} (h : Bor C X H1 H v d) (e : d.kind = some n) : TyX C.K H v (.type n) := by
  cases d with
  | non => cases e; rw [h.non]; exact .base .non
  | bl b => cases e; rw [h.bl]; exact .base (.bl b)
  | int b => cases e; rw [h.int]; exact .base (.int b)
  | str b => cases e; rw [h.str]; exact .base (.str b)
  | tup xs => cases e; obtain ⟨p, vs, rfl, h1, _⟩ := h.tup; exact .base (.tup h1)
  | lst xs => cases e; obtain ⟨p, vs, rfl, h1, _⟩ := h.lst; exact .base (.lst h1)
  | dk ks ds => cases e; obtain ⟨p, vs, rfl, h1, _⟩ := h.dk; exact .base (.dK h1)
  | dt ks ds => cases e; obtain ⟨p, vs, rfl, h1, _⟩ := h.dt; exact .base (.dT h1)
  | ins _ _ _ => cases e
  | raw _ => cases e
/-- is of this built-in kind -/
def Dt.isa (T : String) (d : Dt) : Bool := match d.kind with
  | some n => n == T || (n == "bool" && T == "int")
  | none => false
def Known (T : String) : Prop := ∀ n, n ∈ ["NoneType", "bool", "int", "str", "tuple", "list", "dict"] → kitB n T = some (n == T || (n == "bool" && T == "int"))
theorem Dt.kind_mem {d : Dt} {n : String} (e : d.kind = some n) : n ∈ ["NoneType", "bool", "int", "str", "tuple", "list", "dict"] := by
  cases d <;> first | (cases e; done) | (injection e with e; subst e; decide)
theorem known_int : Known "int" := by unfold Known; decide +kernel
theorem known_bool : Known "bool" := by unfold Known; decide +kernel
theorem known_str : Known "str" := by unfold Known; decide +kernel
theorem known_tuple : Known "tuple" := by unfold Known; decide +kernel
theorem known_list : Known "list" := by unfold Known; decide +kernel
def dIsi (T : String) : DL := fun ds Q => match ds with
  | [x, .raw (.ty T')] => T' = T ∧ x.kind.isSome = true ∧ Q (.bl (x.isa T))
  | _ => False
def dIsi2 (T U : String) : DL := fun ds Q => match ds with
  | [x, .tup [.raw (.ty T'), .raw (.ty U')]] => T' = T ∧ U' = U ∧ x.kind.isSome = true ∧ Q (.bl (x.isa T || x.isa U))
  | _ => False
theorem call_isiU {X : Cx} {K : PySem.W.Frag} (e : X.K = K) : CallR X (.builtin "isinstance") (rIsi K) := e ▸ call_isi
theorem call_isiTU {X : Cx} {K : PySem.W.Frag} (e : X.K = K) : CallR X (.builtin "isinstance") (rIsiT K) := e ▸ call_isiT
section
variable {C : Bc}
theorem cg_isi {T : String} (k : Known T) : CallG Cln C (rIsi C.K) (dIsi T) := by
  intro X env σ H vs ds Q Qd rp ra he q
  unfold dIsi at he
  split at he
  · rename_i x T'
    obtain ⟨rfl, hk, he⟩ := he
    obtain ⟨v, u, rfl, r1, r2⟩ := ra.two
    obtain ⟨n, hn⟩ := Option.isSome_iff_exists.mp hk
    have k1 := k n (Dt.kind_mem hn)
    have e : ∀ T, x.isa T = (n == T || (n == "bool" && T == "int")) := fun T => by unfold Dt.isa; rw [hn]
    rw [e] at he
    refine ⟨v, _, _, _, _, by rw [r2.raw], .ty _, r1.tyx hn, kit_ty k1, q _ _ H (.refl H) (.bl _) he⟩
  · exact he.elim
theorem cg_isi2 {T U : String} (k : Known T) (k2 : Known U) : CallG Cln C (rIsiT C.K) (dIsi2 T U) := by
  intro X env σ H vs ds Q Qd rp ra he q
  unfold dIsi2 at he
  split at he
  · obtain ⟨rfl, rfl, hk, he⟩ := he
    obtain ⟨v, u, rfl, r1, r2⟩ := ra.two
    obtain ⟨n, hn⟩ := Option.isSome_iff_exists.mp hk
    obtain ⟨p, vs, rfl, h1, a1⟩ := r2.tup
    cases a1 with
    | cons d1 a1 =>
      cases a1 with
      | cons d2 a2 =>
        cases a2
        rw [d1.flat rfl, d2.flat rfl] at h1
        have k1 := k n (Dt.kind_mem hn)
        have k3 := k2 n (Dt.kind_mem hn)
        refine ⟨v, p, _, _, _, _, rfl, h1, .cons (.ty _) (.cons (.ty _) .nil), r1.tyx hn, kitAny_cons (b := _) (kit_ty k1) (fun e1 => kitAny_cons (kit_ty k3) (r := _) (fun e2 => ?_) fun e2 => ?_) fun e1 => ?_, q _ _ H (.refl H) (.bl _) he⟩
        · unfold Dt.isa; rw [hn]; dsimp only; rw [e1, e2]; rfl
        · unfold Dt.isa; rw [hn]; dsimp only; rw [e1, e2]; rfl
        · unfold Dt.isa; rw [hn]; dsimp only; rw [e1]; rfl
  · exact he.elim
end
end Mine

namespace Mine
open PySem PySem.Spec PyProof.Rows L2
/-! ### what is walked -/
/-- where what was seen at an iterator's making is seen still: in loops, in comprehensions -/
abbrev SS := Bc → (Addr → Prop) → Hp → (Addr → Prop) → Hp → Prop
def Strong : SS := fun C X H1 Y H => Same (vis H1 X) (vis H Y) ∧ ∀ a, Y a → ∃ o, H a = some o
def Weak : SS := fun C X H1 Y H => Frm C.hd H1 H ∧ (∀ h c, C.hd = some (h, c) → X h) ∧ (∀ a, Y a → X a ∨ H1 a = none) ∧ ∀ a, Y a → ∃ o, H a = some o
theorem Weak.strong {C : Bc} {X Y : Addr → Prop} {H1 H : Hp} (w : Weak C X H1 Y H) : Strong C X H1 Y H := by
  obtain ⟨f, hx, hy, al⟩ := w
  refine ⟨fun a o e => ?_, al⟩
  obtain ⟨n, h⟩ := vis_of e
  refine vis_mk (fun y => (hy a y).elim n fun z => by rw [z] at h; cases h) (f.1 a o h fun h' c e' q => n (q ▸ hx h' c e'))
/-- the iterator J yields the data ds -/
def WalkD (S : SS) (C : Bc) (X : Addr → Prop) (H1 : Hp) (J : It) (ds : List Dt) : Prop := ∀ (Y : Addr → Prop) (i : Nat) (H : Hp), S C X H1 Y H →
  (i < ds.length → J.go i H ∧ ∀ x H', J.yld i H x H' → Same H H' ∧ ∃ d, ds[i]? = some d ∧ Den C.K (vis H' Y) x d) ∧ (i = ds.length → J.stop i H)
theorem WalkD.weak {C : Bc} {X : Addr → Prop} {H1 : Hp} {J : It} {ds : List Dt} (w : WalkD Strong C X H1 J ds) : WalkD Weak C X H1 J ds := fun Y i H s => w Y i H s.strong
def DIg (S : SS) (C : Bc) (wi : TI) (e : DAX) : Prop := ∀ X env σ H (R : It → Hp → Prop) (Qd : List Dt → Prop) (Qx : Xc → Prop), Rep C X env σ H → e env Qd Qx →
  (∀ ds J H1, Frm C.hd H H1 → WalkD S C X H1 J ds → Qd ds → R J H1) → XOk C X σ H Qx → wi σ H R
theorem DIg.weak {C : Bc} {wi : TI} {e : DAX} (h : DIg Strong C wi e) : DIg Weak C wi e := fun X env σ H R Qd Qx rp he q x => h X env σ H R Qd Qx rp he (fun ds J H1 f w h => q ds J H1 f w.weak h) x
def eSeq (a : DX) : DAX := fun env Q E => a env (fun d => match d with
  | .lst xs => Q xs
  | .tup xs => Q xs
  | _ => False) E
def eRng1 (a : DAX) : DAX := fun env Q E => a env (fun ds => match ds with
  | [.int j] => (-(2 ^ 62) ≤ j ∧ j < 2 ^ 62) ∧ Q ((List.range j.toNat).map fun i => .int (i : Nat))
  | _ => False) E
def eRng2 (a : DAX) : DAX := fun env Q E => a env (fun ds => match ds with
  | [.int i, .int j] => (-(2 ^ 62) ≤ i ∧ i < 2 ^ 62 ∧ -(2 ^ 62) ≤ j ∧ j < 2 ^ 62) ∧ Q ((List.range (j - i).toNat).map fun k => .int (i + (k : Nat)))
  | _ => False) E
def eEnum (a : DAX) : DAX := fun env Q E => a env (fun ds => match ds with
  | [.lst xs] => Q (xs.mapIdx fun i x => .tup [.int (i : Nat), x])
  | [.tup xs] => Q (xs.mapIdx fun i x => .tup [.int (i : Nat), x])
  | _ => False) E
def eStrs (a : DX) : DAX := fun env Q E => a env (fun d => match d with
  | .str z => Q (z.cps.toList.map fun c => .str ⟨#[c]⟩)
  | _ => False) E
section
variable {C : Bc} {X : Addr → Prop} {H1 : Hp}
theorem walk_lst {S : SS} {p : Addr} {vs : List V} {ds : List Dt} (h : ∀ Y H, S C X H1 Y H → H p = some (.lst vs) ∧ DenAll C.K (vis H Y) vs ds) : WalkD S C X H1 (Itl C.K p) ds := by
  intro Y i H s
  obtain ⟨h1, a⟩ := h Y H s
  have hl := a.length
  refine ⟨fun hi => ⟨⟨vs, vs[i], .inl (.inl h1), by simp [hl ▸ hi]⟩, fun x H' ⟨e, hx⟩ => ?_⟩, fun hi => ⟨vs, .inl (.inl h1), by omega⟩⟩
  subst e
  exact ⟨Same.refl _, a.getV (hx vs (.inl (.inl h1)))⟩
theorem walk_tpl {S : SS} {p : Addr} {vs : List V} {ds : List Dt} (h : ∀ Y H, S C X H1 Y H → H p = some (.tup vs) ∧ DenAll C.K (vis H Y) vs ds) : WalkD S C X H1 (Itt C.K p) ds := by
  intro Y i H s
  obtain ⟨h1, a⟩ := h Y H s
  have hl := a.length
  refine ⟨fun hi => ⟨⟨vs, vs[i], .inl (.inl h1), by simp [hl ▸ hi]⟩, fun x H' ⟨e, hx⟩ => ?_⟩, fun hi => ⟨vs, .inl (.inl h1), by omega⟩⟩
  subst e
  exact ⟨Same.refl _, a.getV (hx vs (.inl (.inl h1)))⟩
/-- how a seen list, a seen tuple stays -/
theorem cln_lst {v : V} {ds : List Dt} (h : Den C.K (vis H1 X) v (.lst ds)) : ∃ p vs, v = .ref p ∧ H1 p = some (.lst vs) ∧ ∀ Y H, Strong C X H1 Y H → H p = some (.lst vs) ∧ DenAll C.K (vis H Y) vs ds := by
  cases h with
  | lst h a => exact ⟨_, _, rfl, vis_sub _ _ h, fun Y H s => ⟨vis_sub _ _ (s.1 _ _ h), a.mono s.1⟩⟩
theorem cln_tup {v : V} {ds : List Dt} (h : Den C.K (vis H1 X) v (.tup ds)) : ∃ p vs, v = .ref p ∧ H1 p = some (.tup vs) ∧ ∀ Y H, Strong C X H1 Y H → H p = some (.tup vs) ∧ DenAll C.K (vis H Y) vs ds := by
  cases h with
  | tup h a => exact ⟨_, _, rfl, vis_sub _ _ h, fun Y H s => ⟨vis_sub _ _ (s.1 _ _ h), a.mono s.1⟩⟩
theorem bor_lst {H0 : Hp} {v : V} {ds : List Dt} (h : Bor C X H0 H1 v (.lst ds)) : ∃ p vs, v = .ref p ∧ H1 p = some (.lst vs) ∧ ∀ Y H, Weak C X H1 Y H → H p = some (.lst vs) ∧ DenAll C.K (vis H Y) vs ds := by
  rcases h with h | ⟨p, vs, ds, rfl, e2, n, h1, h2⟩
  · obtain ⟨p, vs, e1, h1, k⟩ := cln_lst h
    exact ⟨p, vs, e1, h1, fun Y H s => k Y H s.strong⟩
  · cases e2
    exact ⟨p, vs, rfl, h1, fun Y H s => ⟨s.1.1 p _ h1 n, h2.mono s.strong.1⟩⟩
theorem bor_tup {H0 : Hp} {v : V} {ds : List Dt} (h : Bor C X H0 H1 v (.tup ds)) : ∃ p vs, v = .ref p ∧ H1 p = some (.tup vs) ∧ ∀ Y H, Weak C X H1 Y H → H p = some (.tup vs) ∧ DenAll C.K (vis H Y) vs ds := by
  rcases h with h | ⟨p, vs, ds, rfl, e2, n, h1, h2⟩
  · obtain ⟨p, vs, e1, h1, k⟩ := cln_tup h
    exact ⟨p, vs, e1, h1, fun Y H s => k Y H s.strong⟩
  · cases e2
end
/-- what a source must be: with all that is let, or a list of one's own -/
class Src (R : RR) (S : SS) : Prop where
  lst : ∀ {C : Bc} {X : Addr → Prop} {H0 H1 : Hp} {v : V} {ds : List Dt}, R C X H0 H1 v (.lst ds) → ∃ p vs, v = .ref p ∧ H1 p = some (.lst vs) ∧ ∀ Y H, S C X H1 Y H → H p = some (.lst vs) ∧ DenAll C.K (vis H Y) vs ds
  tup : ∀ {C : Bc} {X : Addr → Prop} {H0 H1 : Hp} {v : V} {ds : List Dt}, R C X H0 H1 v (.tup ds) → ∃ p vs, v = .ref p ∧ H1 p = some (.tup vs) ∧ ∀ Y H, S C X H1 Y H → H p = some (.tup vs) ∧ DenAll C.K (vis H Y) vs ds
  al : ∀ {C : Bc} {X Y : Addr → Prop} {H1 H : Hp}, S C X H1 Y H → ∀ a, Y a → ∃ o, H a = some o
instance : Src Cln Strong := ⟨fun h => cln_lst h, fun h => cln_tup h, fun s => s.2⟩
instance : Src Bor Weak := ⟨fun h => bor_lst h, fun h => bor_tup h, fun s => s.2.2.2⟩
section
variable {C : Bc} {R : RR} {S : SS} {tl : TE} {ta : TA} {el : DX} {ea : DAX}
theorem di_seq [Src R S] (h : DEg R C tl el) : DIg S C (iSeq C.K tl) (eSeq el) := by
  intro X env σ H Rr Qd Qx rp he q x
  refine h X env σ H _ _ Qx rp he (fun d v H1 f1 r1 he1 => ?_) x
  split at he1
  · obtain ⟨p, vs, rfl, h1, k⟩ := Src.lst (S := S) r1
    exact ⟨p, vs, rfl, .inl ⟨.inl (.inl h1), q _ _ H1 f1 (walk_lst k) he1⟩⟩
  · obtain ⟨p, vs, rfl, h1, k⟩ := Src.tup (S := S) r1
    exact ⟨p, vs, rfl, .inr ⟨.inl (.inl h1), q _ _ H1 f1 (walk_tpl k) he1⟩⟩
  · exact he1.elim
theorem walk_rng {X : Addr → Prop} {H1 : Hp} (lo : Int) (n : Nat) : WalkD S C X H1 (Itr lo n) ((List.range n).map fun k => .int (lo + (k : Nat))) := by
  intro Y i H s
  rw [List.length_map, List.length_range]
  refine ⟨fun hi => ⟨hi, fun x H' ⟨e, hx⟩ => ?_⟩, fun hi => Nat.le_of_eq hi.symm⟩
  subst e hx
  exact ⟨Same.refl _, _, by rw [List.getElem?_map, List.getElem?_range hi]; rfl, .int _⟩
theorem di_rng1 (h : DAb C ta ea) : DIg S C (iRng1 ta) (eRng1 ea) := by
  intro X env σ H Rr Qd Qx rp he q x
  refine h X env σ H _ _ Qx rp he (fun ds vs H1 f1 ra he1 => ?_) x
  split at he1
  · obtain ⟨v, rfl, r1⟩ := ra.one
    obtain ⟨⟨c1, c2⟩, he1⟩ := he1
    refine ⟨_, by rw [r1.int], c1, c2, q _ _ H1 f1 ?_ he1⟩
    have e : ∀ n : Nat, WalkD S C X H1 (Itr 0 n) ((List.range n).map fun i => .int (i : Nat)) := fun n => by
      have := walk_rng (S := S) (C := C) (X := X) (H1 := H1) 0 n
      simpa using this
    exact e _
  · exact he1.elim
theorem di_rng2 (h : DAb C ta ea) : DIg S C (iRng2 ta) (eRng2 ea) := by
  intro X env σ H Rr Qd Qx rp he q x
  refine h X env σ H _ _ Qx rp he (fun ds vs H1 f1 ra he1 => ?_) x
  split at he1
  · obtain ⟨v, u, rfl, r1, r2⟩ := ra.two
    obtain ⟨c, he1⟩ := he1
    exact ⟨_, _, by rw [r1.int, r2.int], c, q _ _ H1 f1 (walk_rng _ _) he1⟩
  · exact he1.elim
theorem walk_pair {X : Addr → Prop} {H1 : Hp} {J : It} {n : Nat} {G : Hp → Prop} {xs : List V} {ds : List Dt} (hal : ∀ {Y : Addr → Prop} {H : Hp}, S C X H1 Y H → ∀ a, Y a → ∃ o, H a = some o) (hn : ds.length = n)
    (w : Walk J n G (YPair (fun i => some (.int (i : Nat))) (fun i => xs[i]?))) (hs : ∀ i H, n ≤ i → G H → J.stop i H) (k : ∀ Y H, S C X H1 Y H → G H ∧ DenAll C.K (vis H Y) xs ds) :
    WalkD S C X H1 J (ds.mapIdx fun i x => .tup [.int (i : Nat), x]) := by
  intro Y i H s
  obtain ⟨g, a⟩ := k Y H s
  rw [List.length_mapIdx]
  refine ⟨fun hi => ⟨w.goes i H (hn ▸ hi) g, fun x H' hy => ?_⟩, fun hi => hs i H (by omega) g⟩
  obtain ⟨T, v, y, rfl, hT, rfl, ev, ey⟩ := w.yields i H x H' (hn ▸ hi) g hy
  dsimp only at ev ey
  cases ev
  obtain ⟨d, e, den⟩ := a.getV ey
  have nT : ¬ Y T := fun y => by
    obtain ⟨o, q⟩ := hal s T y
    rw [hT] at q; cases q
  refine ⟨same_upd hT, _, by rw [List.getElem?_mapIdx, e]; rfl, .tup (vis_mk nT upd_same) (.cons (.int _) (.cons (den.mono fun b o e => ?_) .nil))⟩
  obtain ⟨n1, e1⟩ := vis_of e
  exact vis_mk n1 (same_upd hT _ _ e1)
theorem di_enum [Src R S] (h : DEg R C tl el) : DIg S C (iEnumA C.K (tCons tl tNil)) (eEnum (eCons el eNil)) := by
  intro X env σ H Rr Qd Qx rp he q x
  refine h X env σ H _ _ Qx rp he (fun d v H1 f1 r1 he1 => ?_) x
  show ∃ a xs, [v] = [.ref a] ∧ _
  have he1 : (match [d] with
    | [.lst xs] => Qd (xs.mapIdx fun i x => .tup [.int (i : Nat), x])
    | [.tup xs] => Qd (xs.mapIdx fun i x => .tup [.int (i : Nat), x])
    | _ => False) := he1
  split at he1
  · rename_i e
    cases e
    obtain ⟨p, vs, rfl, h1, k⟩ := Src.lst (S := S) r1
    refine ⟨p, vs, rfl, .inl ⟨.inl (.inl h1), q _ _ H1 f1 ?_ he1⟩⟩
    intro Y i H2 s
    exact walk_pair (G := fun H => SqL C.K H p vs) (fun s => Src.al (R := R) s) (k Y H2 s).2.length.symm walk_enum (fun i H hi g => ⟨vs, g, hi⟩) (fun Y H s => ⟨.inl (.inl (k Y H s).1), (k Y H s).2⟩) Y i H2 s
  · rename_i e
    cases e
    obtain ⟨p, vs, rfl, h1, k⟩ := Src.tup (S := S) r1
    refine ⟨p, vs, rfl, .inr ⟨.inl (.inl h1), q _ _ H1 f1 ?_ he1⟩⟩
    intro Y i H2 s
    exact walk_pair (G := fun H => SqT C.K H p vs) (fun s => Src.al (R := R) s) (k Y H2 s).2.length.symm walk_enumT (fun i H hi g => ⟨vs, g, hi⟩) (fun Y H s => ⟨.inl (.inl (k Y H s).1), (k Y H s).2⟩) Y i H2 s
  · exact he1.elim
end
/-! ### targets -/
abbrev DGX := Dt → List Sl → (List Sl → Prop) → Prop
def DG (C : Bc) (g : TG) (js : List Nat) (f : DGX) : Prop := ∀ X env σ H x d (Q : L2.St → Hp → Prop) (Qd : List Sl → Prop), Rep C X env σ H → Den C.K (vis H X) x d → f d env Qd →
  (∀ env' σ', Rep C X env' σ' H → Qd env' → σ'.length = σ.length → (∀ k, k ∉ js → σ'[k]? = σ[k]?) → (∀ (k : Nat) (xs : Ow), env'[k]? = some (Sl.own xs) → env[k]? = some (Sl.own xs) ∧ σ'[k]? = σ[k]?) → Q σ' H) → g x σ H Q
def gD (j : Nat) : DGX := fun d env Q => Q (env.set j (.d d))
def gD2 (i j : Nat) : DGX := fun d env Q => match d with
  | .tup [a, b] => Q ((env.set i (.d a)).set j (.d b))
  | _ => False
def gD3 (i j k : Nat) : DGX := fun d env Q => match d with
  | .tup [a, b, c] => Q (((env.set i (.d a)).set j (.d b)).set k (.d c))
  | _ => False
section
variable {C : Bc} {X : Addr → Prop} {env : List Sl} {σ : L2.St} {H : Hp}
theorem Rep.set (r : Rep C X env σ H) (j : Nat) {x : V} {d : Dt} (h : Den C.K (Mine.vis H X) x d) : Rep C X (env.set j (.d d)) (σ.set j (.some x)) H where
  len := by rw [List.length_set, List.length_set, r.len]
  sup := r.sup
  new := r.new
  al := r.al
  frm := r.frm
  hands := r.hands
  slot := fun i s e => by
    rw [List.getElem?_set] at e ⊢
    by_cases c : j = i
    · subst c
      rw [if_pos rfl] at e ⊢
      by_cases hl : j < env.length
      · rw [if_pos hl] at e
        rw [if_pos (r.len ▸ hl)]
        cases e
        exact ⟨_, rfl, x, rfl, h⟩
      · rw [if_neg hl] at e; cases e
    · rw [if_neg c] at e ⊢
      exact r.slot i s e
  inj := fun i k xs ys n e1 e2 => by
    rw [List.getElem?_set] at e1 e2
    have a : j ≠ i := fun c => by
      subst c
      rw [if_pos rfl] at e1
      split at e1 <;> cases e1
    have b : j ≠ k := fun c => by
      subst c
      rw [if_pos rfl] at e2
      split at e2 <;> cases e2
    rw [if_neg a] at e1
    rw [if_neg b] at e2
    rw [List.getElem?_set, List.getElem?_set, if_neg a, if_neg b]
    exact r.inj i k xs ys n e1 e2
  one := r.one.set fun _ _ _ z => by cases z
theorem own_set {env : List Sl} {σ : L2.St} {j : Nat} {x : Dt} {o : Option V} (k : Nat) (xs : Ow) (e : (env.set j (.d x))[k]? = some (Sl.own xs)) : env[k]? = some (Sl.own xs) ∧ (σ.set j o)[k]? = σ[k]? := by
  rw [List.getElem?_set] at e
  have a : j ≠ k := fun c => by
    subst c
    rw [if_pos rfl] at e
    split at e <;> cases e
  rw [if_neg a] at e
  exact ⟨e, by rw [List.getElem?_set, if_neg a]⟩
theorem dg_name (j : Nat) : DG C (gName j) [j] (gD j) := by
  intro X env σ H x d Q Qd rp hd he q
  refine q _ _ (rp.set j hd) he (by rw [List.length_set]) (fun k hk => ?_) own_set
  have : j ≠ k := fun z => hk (by simp [z])
  rw [List.getElem?_set, if_neg this]
theorem Den.tupI {K : PySem.W.Frag} {H : Hp} {v : V} {ds : List Dt} (h : Den K H v (.tup ds)) : ∃ p vs, v = .ref p ∧ H p = some (.tup vs) ∧ DenAll K H vs ds := by
  cases h with
  | tup h a => exact ⟨_, _, rfl, h, a⟩
theorem dg_two (i j : Nat) : DG C (gTup C.K 2 (gCons (gName i) (gCons (gName j) gNil))) [i, j] (gD2 i j) := by
  intro X env σ H x d Q Qd rp hd he q
  unfold gD2 at he
  split at he
  · obtain ⟨p, vs, rfl, h1, a⟩ := hd.tupI
    cases a with
    | @cons v1 _ _ _ a1 a =>
      cases a with
      | @cons v2 _ _ _ a2 a =>
        cases a
        refine ⟨p, _, rfl, .inl (.inl (vis_sub _ _ h1)), rfl, v1, _, rfl, v2, _, rfl, rfl, ?_⟩
        refine q _ _ ((rp.set i a1).set j a2) he (by rw [List.length_set, List.length_set]) (fun k hk => ?_) (fun k xs e => by
          obtain ⟨a1, b1⟩ := own_set (σ := σ.set i (some v1)) (o := some v2) k xs e
          obtain ⟨a2, b2⟩ := own_set (σ := σ) (o := some v1) k xs a1
          exact ⟨a2, b1.trans b2⟩)
        have e1 : i ≠ k := fun z => hk (by simp [z])
        have e2 : j ≠ k := fun z => hk (by simp [z])
        rw [List.getElem?_set, if_neg e2, List.getElem?_set, if_neg e1]
  · exact he.elim
theorem dg_three (i j l : Nat) : DG C (gTup C.K 3 (gCons (gName i) (gCons (gName j) (gCons (gName l) gNil)))) [i, j, l] (gD3 i j l) := by
  intro X env σ H x d Q Qd rp hd he q
  unfold gD3 at he
  split at he
  · obtain ⟨p, vs, rfl, h1, a⟩ := hd.tupI
    cases a with
    | @cons v1 _ _ _ a1 a =>
      cases a with
      | @cons v2 _ _ _ a2 a =>
        cases a with
        | @cons v3 _ _ _ a3 a =>
          cases a
          refine ⟨p, _, rfl, .inl (.inl (vis_sub _ _ h1)), rfl, v1, _, rfl, v2, _, rfl, v3, _, rfl, rfl, ?_⟩
          refine q _ _ (((rp.set i a1).set j a2).set l a3) he (by rw [List.length_set, List.length_set, List.length_set]) (fun k hk => ?_) (fun k xs e => by
            obtain ⟨a1, b1⟩ := own_set (σ := (σ.set i (some v1)).set j (some v2)) (o := some v3) k xs e
            obtain ⟨a2, b2⟩ := own_set (σ := σ.set i (some v1)) (o := some v2) k xs a1
            obtain ⟨a3, b3⟩ := own_set (σ := σ) (o := some v1) k xs a2
            exact ⟨a3, b1.trans (b2.trans b3)⟩)
          have e1 : i ≠ k := fun z => hk (by simp [z])
          have e2 : j ≠ k := fun z => hk (by simp [z])
          have e3 : l ≠ k := fun z => hk (by simp [z])
          rw [List.getElem?_set, if_neg e3, List.getElem?_set, if_neg e2, List.getElem?_set, if_neg e1]
  · exact he.elim
/-! ### comprehensions -/
def wipeS (env : List Sl) : List Nat → List Sl
  | [] => env
  | v :: vs => (wipeS env vs).set v .no
theorem Rep.unset (r : Rep C X env σ H) (j : Nat) (o : Option V) : Rep C X (env.set j .no) (σ.set j o) H where
  len := by rw [List.length_set, List.length_set, r.len]
  sup := r.sup
  new := r.new
  al := r.al
  frm := r.frm
  hands := r.hands
  slot := fun i s e => by
    rw [List.getElem?_set] at e ⊢
    by_cases c : j = i
    · subst c
      rw [if_pos rfl] at e ⊢
      by_cases hl : j < env.length
      · rw [if_pos hl] at e
        rw [if_pos (r.len ▸ hl)]
        cases e
        exact ⟨_, rfl, trivial⟩
      · rw [if_neg hl] at e; cases e
    · rw [if_neg c] at e ⊢
      exact r.slot i s e
  inj := fun i k xs ys n e1 e2 => by
    rw [List.getElem?_set] at e1 e2
    have a : j ≠ i := fun c => by
      subst c
      rw [if_pos rfl] at e1
      split at e1 <;> cases e1
    have b : j ≠ k := fun c => by
      subst c
      rw [if_pos rfl] at e2
      split at e2 <;> cases e2
    rw [if_neg a] at e1
    rw [if_neg b] at e2
    rw [List.getElem?_set, List.getElem?_set, if_neg a, if_neg b]
    exact r.inj i k xs ys n e1 e2
  one := r.one.set fun _ _ _ z => by cases z
theorem Rep.wiped (r : Rep C X env σ H) : ∀ vs : List Nat, Rep C X (wipeS env vs) (wipe σ vs) H
  | [] => r
  | v :: vs => (r.wiped vs).unset v none
theorem wipe_at (σ : L2.St) : ∀ (vs : List Nat) (k : Nat), (wipe σ vs)[k]? = if k ∈ vs ∧ k < σ.length then some none else σ[k]?
  | [], k => by simp [wipe]
  | v :: vs, k => by
    show ((wipe σ vs).set v none)[k]? = _
    rw [List.getElem?_set, wipe_length, wipe_at σ vs k]
    by_cases c : v = k
    · subst c
      by_cases hl : v < σ.length
      · rw [if_pos rfl, if_pos hl, if_pos ⟨List.mem_cons_self, hl⟩]
      · rw [if_pos rfl, if_neg hl, if_neg fun z => hl z.2]
        exact (List.getElem?_eq_none_iff.mpr (by omega)).symm
    · rw [if_neg c]
      have e : (k ∈ v :: vs ∧ k < σ.length) ↔ (k ∈ vs ∧ k < σ.length) := by
        rw [List.mem_cons]
        constructor
        · rintro ⟨z | z, h⟩
          · exact absurd z.symm c
          · exact ⟨z, h⟩
        · rintro ⟨z, h⟩; exact ⟨.inr z, h⟩
      simp only [e]
theorem wipe_of {σ σ' : L2.St} {vs : List Nat} (hl : σ'.length = (wipe σ vs).length) (hk : ∀ k, k ∉ vs → σ'[k]? = (wipe σ vs)[k]?) : wipe σ' vs = wipe σ vs := by
  refine List.ext_getElem? fun k => ?_
  rw [wipe_length] at hl
  rw [wipe_at, wipe_at]
  by_cases c : k ∈ vs
  · by_cases h : k < σ.length
    · rw [if_pos ⟨c, by omega⟩, if_pos ⟨c, h⟩]
    · rw [if_neg fun z => h (by omega), if_neg fun z => h z.2, List.getElem?_eq_none_iff.mpr (by omega), List.getElem?_eq_none_iff.mpr (by omega)]
  · rw [if_neg fun z => c z.1, if_neg fun z => c z.1, hk k c, wipe_at, if_neg fun z => c z.1]
/-- a new thing is hidden -/
theorem Rep.hide {D : Addr} {H2 : Hp} (r : Rep C X env σ H) (n : H D = none) (f : Frm C.hd H H2) (t : ∃ o, H2 D = some o) : Rep C (fun a => X a ∨ a = D) env σ H2 := by
  have r2 := r.step f
  have nD : ∀ a o, H a = some o → a ≠ D := fun a o e => ne_of_none e n
  have sm : Same (Mine.vis H X) (Mine.vis H2 fun a => X a ∨ a = D) := fun a o e => by
    obtain ⟨n1, e1⟩ := vis_of e
    exact vis_mk (fun z => z.elim n1 (nD a o e1)) (f.1 a o e1 fun h c e' q => n1 (q ▸ r.hX h c e'))
  refine ⟨r.len, fun a z => .inl (r.sup a z), fun a z => ?_, fun a z => ?_, r2.frm, r2.hands, fun i s e => ?_, r.inj, r.one⟩
  · rcases z with z | rfl
    · exact r.new a z
    · exact .inr (r.h0 n)
  · rcases z with z | rfl
    · exact r2.al a z
    · exact t
  · obtain ⟨o, e1, q⟩ := r.slot i s e
    refine ⟨o, e1, ?_⟩
    cases s with
    | no => trivial
    | d x => obtain ⟨v, e2, h⟩ := q; exact ⟨v, e2, h.mono sm⟩
    | own xs =>
      obtain ⟨p, vs, e2, x1, x2, h1, h2⟩ := q
      exact ⟨p, vs, e2, .inl x1, x2, f.1 p _ h1 (r.nh x2), h2.mono sm⟩
    | hand => exact q
    | exc c fs => exact q.exc sm
    | ins C0 ns ds =>
      obtain ⟨p, dx, vs, e2, x1, x2, h1, l, h2⟩ := q
      exact ⟨p, dx, vs, e2, .inl x1, x2, f.1 p _ h1 (r.nh x2), l, h2.mono sm⟩
end
def lcGo (f : DGX) (tt : DTX) (te : DX) (env : List Sl) (Q : Dt → Prop) : List Dt → List Dt → Prop
  | [], acc => Q (.lst acc)
  | x :: xs, acc => f x env fun env' => tt env' (fun b => if b = true then te env' (fun y => acc.length < LINE ∧ lcGo f tt te env Q xs (acc ++ [y])) (fun _ => False) else lcGo f tt te env Q xs acc) fun _ => False
def eLc (src : DAX) (f : DGX) (tt : DTX) (te : DX) (vs : List Nat) : DX := fun env Q E => src env (fun ds => lcGo f tt te (wipeS env vs) Q ds []) E
theorem xok_no {C : Bc} {X : Addr → Prop} {σ : L2.St} {H : Hp} : XOk C X σ H fun _ => False := fun _ _ _ _ _ _ z => z.elim
theorem frm_put {C : Bc} {X : Addr → Prop} {env : List Sl} {σ : L2.St} {H1 H : Hp} {D : Addr} {o : HO} (r : Rep C X env σ H1) (n : H1 D = none) (f : Frm C.hd H1 H) : Frm C.hd H1 (upd H D o) := by
  refine ⟨fun a u e k => ?_, fun h c e x => ?_⟩
  · rw [upd_ne (ne_of_none e n)]; exact f.1 a u e k
  · have x2 := f.2 h c e x
    obtain ⟨_, _, _, _, a1, a2, _⟩ := x
    obtain ⟨cells, at_, big, mix, b1, b2, b3⟩ := x2
    exact ⟨cells, at_, big, mix, by rw [upd_ne (ne_of_none a1 n)]; exact b1, by rw [upd_ne (ne_of_none a2 n)]; exact b2, b3⟩
theorem df_lc {C : Bc} {wi : TI} {g : TG} {tt : TT} {te : TE} {vs : List Nat} {src : DAX} {f : DGX} {et : DTX} {ee : DX} (hi : DIg Weak C wi src) (hg : DG C g vs f) (ht : DT C tt et) (he : DE C te ee) : DF C (tLc wi g tt te vs) (eLc src f et ee vs) := by
  intro X env σ H Q Qd Qx rp h q x
  refine hi X env σ H _ _ Qx rp h (fun ds J H1 f1 w h1 => ?_) x
  show ∀ D, H1 D = none → Lc J g tt te vs D σ H1 Q
  intro D hD
  have rp1 := rp.step f1
  let W : Nat → Nat → Hp → Prop := fun i m H2 => m + i = ds.length ∧ Frm C.hd H1 H2 ∧ ∃ acc us, H2 D = some (.lst us) ∧ DenAll C.K (vis H2 fun a => X a ∨ a = D) us acc ∧ lcGo f et ee (wipeS env vs) Qd (ds.drop i) acc
  refine ⟨W, ⟨ds.length, rfl, .upd hD, [], [], upd_same, .nil, h1⟩, fun i m H2 ⟨hm, f2, acc, us, hD2, a2, go⟩ => ?_⟩
  have rpY : Rep C (fun a => X a ∨ a = D) env σ H2 := rp1.hide hD f2 ⟨_, hD2⟩
  have rpW := rpY.wiped vs
  have sW : Weak C X H1 (fun a => X a ∨ a = D) H2 := ⟨f2, rp1.hX, fun a z => z.imp id fun (e : a = D) => by rw [e]; exact hD, rpY.al⟩
  have hw := w _ i H2 sW
  have nh : ∀ h c, C.hd = some (h, c) → D ≠ h := fun h c e z => by
    obtain ⟨_, _, _, _, q, _⟩ := (rp1.hands h c e).2.2
    rw [z, q] at hD; cases hD
  by_cases c : i < ds.length
  · obtain ⟨g1, g2⟩ := hw.1 c
    refine .inr ⟨g1, W (i + 1) (m - 1), fun H' hW => ⟨m - 1, by omega, hW⟩, fun y H3 hy => ?_⟩
    obtain ⟨s3, d, hd, den⟩ := g2 y H3 hy
    have ed : ds.drop i = d :: ds.drop (i + 1) := by
      rw [List.drop_eq_getElem_cons c]
      congr 1
      rw [List.getElem?_eq_getElem c] at hd
      exact Option.some.inj hd
    rw [ed] at go
    have step : ∀ H5, Frm C.hd H3 H5 → Frm C.hd H1 H5 ∧ H5 D = some (.lst us) ∧ DenAll C.K (vis H5 fun a => X a ∨ a = D) us acc := fun H5 f5 => by
      have f25 : Frm C.hd H2 H5 := (Frm.same s3).trans f5
      exact ⟨f2.trans f25, f25.1 D _ hD2 nh, a2.mono (rpY.vs f25)⟩
    refine hg _ _ _ H3 y d _ _ (rpW.step (.same s3)) den go fun env' σ' rp' he' hl hk _ => ⟨wipe_of hl hk, ?_⟩
    refine ht _ env' σ' H3 _ _ _ rp' he' (fun b H4 f4 hb => ?_) xok_no
    cases b with
    | false =>
      rw [if_neg (by decide)] at hb ⊢
      obtain ⟨k1, k2, k3⟩ := step H4 f4
      exact ⟨by omega, k1, acc, us, k2, k3, hb⟩
    | true =>
      rw [if_pos rfl] at hb ⊢
      refine he _ env' σ' H4 _ _ _ (rp'.step f4) hb (fun y2 v2 H5 f5 den5 hb5 => ?_) xok_no
      obtain ⟨k1, k2, k3⟩ := step H5 (f4.trans f5)
      have sv : Same (vis H5 fun a => X a ∨ a = D) (vis (upd H5 D (.lst (us ++ [v2]))) fun a => X a ∨ a = D) := fun a o e => by
        obtain ⟨n1, e1⟩ := vis_of e
        exact vis_mk n1 (by rw [upd_ne fun z => n1 (.inr z)]; exact e1)
      refine ⟨us, k2, by rw [k3.length, sizeLine_eq]; exact hb5.1, by omega, frm_put rp1 hD k1, acc ++ [y2], us ++ [v2], upd_same, (k3.snoc den5).mono sv, hb5.2⟩
  · have e : ds.drop i = [] := List.drop_eq_nil_of_le (by omega)
    rw [e] at go
    exact .inl ⟨hw.2 (by omega), q _ _ H2 (f1.trans f2) ⟨D, us, acc, rfl, rfl, f1.free (fun h c e => (rp.hands h c e).2.2) hD, hD2, a2⟩ go⟩
def eYes : DTX := fun _ Q _ => Q true
theorem dt_yes {C : Bc} : DT C tYes eYes := fun X env σ H Q Qd Qx rp he q x => q true H (.refl H) he
/-! ### calls of defs of one's own -/
abbrev DFn := List Sl → (Dt → Prop) → (Xc → Prop) → Prop
def spD (K : PySem.W.Frag) (F : DFn) : Sp := fun vs H Q E => ∃ (X : Addr → Prop) (hd : Hnd) (args : List Sl) (Qd : Dt → Prop) (Qx : Xc → Prop), (∀ a, X a → ∃ o, H a = some o) ∧ (∀ h c, hd = some (h, c) → X h ∧ HandC H h c) ∧ SlAll K hd X H vs args ∧ F args Qd Qx ∧
  (∀ d v H', Frm hd H H' → Den K (vis H' X) v d → Qd d → Q v H') ∧ (∀ x cls dx H', Frm hd H H' → XRep K (vis H' X) cls dx x → Qx x → E cls dx H')
def Dvs (dvs : List V) (dd : List Sl) : Prop := ∀ (K : PySem.W.Frag) (hd : Hnd) (X : Addr → Prop) (H : Hp), SlAll K hd X H dvs dd
theorem dv_nil : Dvs [] [] := fun _ _ _ _ => .nil
theorem dv_cons {v : V} {d : Dt} {vs : List V} {dd : List Sl} (e : d.flat = some v) (r : Dvs vs dd) : Dvs (v :: vs) (.d d :: dd) := fun K hd X H => .d (.of_flat e) (r K hd X H)
def eCall (F : DFn) (dd : List Sl) (a : DSX) : DX := fun env Q E => a env (fun ss => F (ss ++ dd) Q E) E
def eCall0 (F : DFn) (dd : List Sl) (a : DSX) : DX := fun env Q E => a env (fun ss => F (ss ++ dd) Q fun _ => False) E
section
variable {C : Bc} {F : DFn} {dvs : List V} {dd : List Sl} {t : TA} {a : DSX}
theorem spD_use {X : Addr → Prop} {env : List Sl} {σ : L2.St} {H : Hp} {vs : List V} {ss : List Sl} {Q : VK} {E : XK} {Qd : Dt → Prop} {Qx : Xc → Prop} (rp : Rep C X env σ H) (r : SlAll C.K C.hd X H vs ss) (h : F ss Qd Qx)
    (q : ∀ d v H', Frm C.hd H H' → Den C.K (vis H' X) v d → Qd d → Q v H') (x : ∀ x cls dx H', Frm C.hd H H' → XRep C.K (vis H' X) cls dx x → Qx x → E cls dx H') : spD C.K F vs H Q E :=
  ⟨X, C.hd, ss, Qd, Qx, rp.al, fun h c e => ⟨rp.hX h c e, (rp.hands h c e).2.2⟩, r, h, q, x⟩
theorem de_call0 (hd : Dvs dvs dd) (ha : DAs C t a) : DE C (tCall (spD C.K F) dvs E0 t) (eCall0 F dd a) := by
  intro X env σ H Q Qd Qx rp he q x
  refine ha X env σ H _ _ Qx rp he (fun ss vs H1 f1 r1 he1 => ?_) x
  exact spD_use (rp.step f1) (SlAll.append r1 (hd C.K C.hd X H1)) he1 (fun d v H' f h => q d v H' (f1.trans f) h) fun _ _ _ _ _ _ z => z.elim
theorem de_call {E : XK} (hE : C.E = fun _ => E) (hd : Dvs dvs dd) (ha : DAs C t a) : DE C (tCall (spD C.K F) dvs E t) (eCall F dd a) := by
  intro X env σ H Q Qd Qx rp he q x
  refine ha X env σ H _ _ Qx rp he (fun ss vs H1 f1 r1 he1 => ?_) x
  exact spD_use (rp.step f1) (SlAll.append r1 (hd C.K C.hd X H1)) he1 (fun d v H' f h => q d v H' (f1.trans f) h) fun y cls dx H' f r z => by
    have := x y cls dx H' (f1.trans f) r z
    rw [hE] at this
    exact this
theorem de_callSD {E : L2.St → XK} (hE : C.E = E) (hd : Dvs dvs dd) (ha : DAs C t a) : DE C (tCallSD (spD C.K F) dvs E t) (eCall F dd a) := by
  intro X env σ H Q Qd Qx rp he q x
  refine ha X env σ H _ _ Qx rp he (fun ss vs H1 f1 r1 he1 => ?_) x
  exact spD_use (rp.step f1) (SlAll.append r1 (hd C.K C.hd X H1)) he1 (fun d v H' f h => q d v H' (f1.trans f) h) fun y cls dx H' f r z => by
    have := x y cls dx H' (f1.trans f) r z
    rw [hE] at this
    exact this
theorem de_callS {E : L2.St → XK} (hE : C.E = E) (ha : DAs C t a) : DE C (tCallS (spD C.K F) E t) (eCall F [] a) := by
  intro X env σ H Q Qd Qx rp he q x
  refine ha X env σ H _ _ Qx rp he (fun ss vs H1 f1 r1 he1 => ?_) x
  rw [List.append_nil] at he1
  exact spD_use (rp.step f1) r1 he1 (fun d v H' f h => q d v H' (f1.trans f) h) fun y cls dx H' f r z => by
    have := x y cls dx H' (f1.trans f) r z
    rw [hE] at this
    exact this
end
end Mine

namespace Mine
open PySem PySem.Spec PyProof.Rows L2
/-! ### statements, by data -/
structure DEn where
  nx : List Sl → Prop
  rt : Dt → Prop
  bk : List Sl → Prop
  ct : List Sl → Prop
  xc : List Sl → Xc → Prop
abbrev DSt := DEn → List Sl → Prop
/-- what is wanted at the ends, from a place on -/
structure Lnk (C : Bc) (X : Addr → Prop) (H : Hp) (D : Ends) (d : DEn) : Prop where
  nx : ∀ X' env σ H', Rep C X' env σ H' → Same (vis H X) (vis H' X') → d.nx env → D.nx σ H'
  rt : ∀ X' env σ H' v x, Rep C X' env σ H' → Same (vis H X) (vis H' X') → Den C.K (vis H' X') v x → d.rt x → D.rt v H'
  bk : ∀ X' env σ H', Rep C X' env σ H' → Same (vis H X) (vis H' X') → d.bk env → D.bk σ H'
  ct : ∀ X' env σ H', Rep C X' env σ H' → Same (vis H X) (vis H' X') → d.ct env → D.ct σ H'
  xc : ∀ X' env σ H' x cls dx, Rep C X' env σ H' → Same (vis H X) (vis H' X') → XRep C.K (vis H' X') cls dx x → d.xc env x → C.E σ cls dx H'
def DS (C : Bc) (t : TS) (s : DSt) : Prop := ∀ X env σ H D d, Rep C X env σ H → Lnk C X H D d → s d env → t D σ H
section
variable {C : Bc} {X X1 : Addr → Prop} {env : List Sl} {σ : L2.St} {H H1 : Hp} {D : Ends} {d : DEn}
theorem Lnk.step (l : Lnk C X H D d) (s : Same (vis H X) (vis H1 X1)) : Lnk C X1 H1 D d where
  nx := fun X' env σ H' r k h => l.nx X' env σ H' r (s.trans k) h
  rt := fun X' env σ H' v x r k a h => l.rt X' env σ H' v x r (s.trans k) a h
  bk := fun X' env σ H' r k h => l.bk X' env σ H' r (s.trans k) h
  ct := fun X' env σ H' r k h => l.ct X' env σ H' r (s.trans k) h
  xc := fun X' env σ H' x cls dx r k a h => l.xc X' env σ H' x cls dx r (s.trans k) a h
theorem Lnk.xok (l : Lnk C X H D d) (r : Rep C X env σ H) : XOk C X σ H (d.xc env) := fun x cls dx H' f a h => l.xc X env σ H' x cls dx (r.step f) (r.vs f) a h
end
def sNext : DSt := fun d env => d.nx env
def sSeq (a b : DSt) : DSt := fun d env => a { d with nx := b d } env
def sDrop (e : DX) : DSt := fun d env => e env (fun _ => d.nx env) (d.xc env)
def sRet (e : DX) : DSt := fun d env => e env d.rt (d.xc env)
def sRetN : DSt := fun d _ => d.rt .non
def sIf (c : DTX) (a b : DSt) : DSt := fun d env => c env (fun k => if k = true then a d env else b d env) (d.xc env)
def sBreak : DSt := fun d env => d.bk env
def sCont : DSt := fun d env => d.ct env
def sAsg (e : DX) (f : DGX) : DSt := fun d env => e env (fun x => f x env d.nx) (d.xc env)
/-- name = a new list, a list of one's own from now on -/
def sOwn (j : Nat) (e : DX) : DSt := fun d env => e env (fun x => match x with
  | .lst xs => d.nx (env.set j (.own (.lst xs)))
  | _ => False) (d.xc env)
def sPar (i j : Nat) (a : DAX) : DSt := fun d env => a env (fun ds => match ds with
  | [x, y] => d.nx ((env.set i (.d x)).set j (.d y))
  | _ => False) (d.xc env)
def sPar3 (i j l : Nat) (a : DAX) : DSt := fun d env => a env (fun ds => match ds with
  | [x, y, z] => d.nx (((env.set i (.d x)).set j (.d y)).set l (.d z))
  | _ => False) (d.xc env)
def frz (env : List Sl) (i : Nat) : List Sl := match env[i]? with
  | some (.own w) => env.set i (.d w.fz)
  | _ => env
def sFrz (i : Nat) (s : DSt) : DSt := fun d env => s d (frz env i)
section
variable {C : Bc} {t u : TS} {a b : DSt} {te : TE} {e : DX} {c : TT} {ec : DTX} {ta : TA} {ea : DAX} {g : TG} {f : DGX} {js : List Nat}
theorem dst_next : DS C tNext sNext := fun X env σ H D d r l h => l.nx X env σ H r (Same.refl _) h
theorem dst_seq (ha : DS C t a) (hb : DS C u b) : DS C (tSeq t u) (sSeq a b) := by
  intro X env σ H D d r l h
  refine ha X env σ H { D with nx := u D } { d with nx := b d } r ⟨fun X' env' σ' H' r' k h' => ?_, l.rt, l.bk, l.ct, l.xc⟩ h
  exact hb X' env' σ' H' D d r' (l.step k) h'
theorem dst_drop (he : DE C te e) : DS C (tDrop te) (sDrop e) := fun X env σ H D d r l h =>
  he X env σ H _ _ _ r h (fun x v H1 f1 _ h1 => l.nx X env σ H1 (r.step f1) (r.vs f1) h1) (l.xok r)
theorem dst_ret (he : DE C te e) : DS C (tRet te) (sRet e) := fun X env σ H D d r l h =>
  he X env σ H _ _ _ r h (fun x v H1 f1 r1 h1 => l.rt X env σ H1 v x (r.step f1) (r.vs f1) r1 h1) (l.xok r)
theorem dst_retN : DS C tRetN sRetN := fun X env σ H D d r l h => l.rt X env σ H .non .non r (Same.refl _) .non h
theorem dst_if (hc : DT C c ec) (ha : DS C t a) (hb : DS C u b) : DS C (tIfS c t u) (sIf ec a b) := by
  intro X env σ H D d r l h
  refine hc X env σ H _ _ _ r h (fun k H1 f1 h1 => ?_) (l.xok r)
  cases k with
  | true => rw [if_pos rfl] at h1 ⊢; exact ha X env σ H1 D d (r.step f1) (l.step (r.vs f1)) h1
  | false => rw [if_neg (by decide)] at h1 ⊢; exact hb X env σ H1 D d (r.step f1) (l.step (r.vs f1)) h1
theorem dst_break : DS C tBreak sBreak := fun X env σ H D d r l h => l.bk X env σ H r (Same.refl _) h
theorem dst_cont : DS C tCont sCont := fun X env σ H D d r l h => l.ct X env σ H r (Same.refl _) h
theorem dst_asg (he : DE C te e) (hg : DG C g js f) : DS C (tAsg te g) (sAsg e f) := by
  intro X env σ H D d r l h
  refine he X env σ H _ _ _ r h (fun x v H1 f1 r1 h1 => ?_) (l.xok r)
  exact hg X env σ H1 v x _ _ (r.step f1) r1 h1 fun env' σ' r' h' _ _ _ => l.nx X env' σ' H1 r' (r.vs f1) h'
theorem dst_par {i j : Nat} (ha : DA C ta ea) : DS C (tPar i j ta) (sPar i j ea) := by
  intro X env σ H D d r l h
  refine ha X env σ H _ _ _ r h (fun ds vs H1 f1 r1 h1 => ?_) (l.xok r)
  split at h1
  · have r1 : DenAll C.K (vis H1 X) vs _ := r1
    cases r1 with
    | cons a1 r1 =>
      cases r1 with
      | cons a2 r1 =>
        cases r1
        exact ⟨_, _, rfl, l.nx X _ _ H1 (((r.step f1).set i a1).set j a2) (r.vs f1) h1⟩
  · exact h1.elim
theorem dst_par3 {i j k : Nat} (ha : DA C ta ea) : DS C (tPar3 i j k ta) (sPar3 i j k ea) := by
  intro X env σ H D d r l h
  refine ha X env σ H _ _ _ r h (fun ds vs H1 f1 r1 h1 => ?_) (l.xok r)
  split at h1
  · have r1 : DenAll C.K (vis H1 X) vs _ := r1
    cases r1 with
    | cons a1 r1 =>
      cases r1 with
      | cons a2 r1 =>
        cases r1 with
        | cons a3 r1 =>
          cases r1
          exact ⟨_, _, _, rfl, l.nx X _ _ H1 ((((r.step f1).set i a1).set j a2).set k a3) (r.vs f1) h1⟩
  · exact h1.elim
end
/-! ### lists of one's own -/
section
variable {C : Bc} {X : Addr → Prop} {env : List Sl} {σ : L2.St} {H : Hp}
/-- slot j holds the new list p -/
theorem Rep.setOwn {H1 : Hp} {p : Addr} {vs : HO} {xs : Ow} (r : Rep C X env σ H) (f : Frm C.hd H H1) (n : H p = none) (j : Nat) (h1 : H1 p = some vs) (h2 : DenO C.K (vis H1 fun a => X a ∨ a = p) vs xs) :
    Rep C (fun a => X a ∨ a = p) (env.set j (.own xs)) (σ.set j (some (.ref p))) H1 := by
  have r0 := r.hide n f ⟨_, h1⟩
  refine ⟨by rw [List.length_set, List.length_set, r.len], r0.sup, r0.new, r0.al, r0.frm, r0.hands, fun i s e => ?_, fun i k xs' ys' ne e1 e2 => ?_, r0.one.set fun _ _ _ z => by cases z⟩
  · rw [List.getElem?_set] at e ⊢
    by_cases c : j = i
    · subst c
      rw [if_pos rfl] at e ⊢
      by_cases hl : j < env.length
      · rw [if_pos hl] at e
        rw [if_pos (r.len ▸ hl)]
        cases e
        refine ⟨_, rfl, p, vs, rfl, .inr rfl, fun z => ?_, h1, h2⟩
        obtain ⟨o, e⟩ := r.al p (r.sup p z)
        rw [n] at e; cases e
      · rw [if_neg hl] at e; cases e
    · rw [if_neg c] at e ⊢
      exact r0.slot i s e
  · rw [List.getElem?_set] at e1 e2 ⊢
    rw [List.getElem?_set]
    have other : ∀ i zs, j ≠ i → env[i]? = some (Sl.own zs) → σ[i]? ≠ some (some (.ref p)) := fun i zs c e z => by
      obtain ⟨o, q, p', vs', rfl, x1, x2, y1, y2⟩ := r.slot i _ e
      rw [q] at z
      have : p' = p := by injection z with z; injection z with z; injection z
      subst this
      rw [n] at y1; cases y1
    by_cases c : j = i
    · subst c
      have c2 : j ≠ k := ne
      rw [if_neg c2] at e2
      rw [if_pos rfl, if_neg c2]
      by_cases hl : j < env.length
      · rw [if_pos (r.len ▸ hl)]
        exact fun z => other k ys' c2 e2 z.symm
      · rw [if_pos rfl, if_neg hl] at e1; cases e1
    · rw [if_neg c] at e1 ⊢
      by_cases c2 : j = k
      · subst c2
        by_cases hl : j < env.length
        · rw [if_pos rfl, if_pos (r.len ▸ hl)]
          exact other i xs' c e1
        · rw [if_pos rfl, if_neg hl] at e2; cases e2
      · rw [if_neg c2] at e2 ⊢
        exact r.inj i k xs' ys' ne e1 e2
/-- the list in slot i is changed -/
theorem Rep.own {i : Nat} {p : Addr} {vs' : HO} {xs xs' : Ow} (r : Rep C X env σ H) (e : env[i]? = some (.own xs)) (es : σ[i]? = some (some (.ref p))) (x1 : X p) (x2 : ¬ C.X0 p) (h2 : DenO C.K (vis H X) vs' xs') :
    Rep C X (env.set i (.own xs')) σ (upd H p vs') ∧ Same (vis H X) (vis (upd H p vs') X) := by
  have sm : Same (vis H X) (vis (upd H p vs') X) := fun a o q => by
    obtain ⟨n1, e1⟩ := vis_of q
    exact vis_mk n1 (by rw [upd_ne (fun (z : a = p) => n1 (by rw [z]; exact x1))]; exact e1)
  have h0 : C.H0 p = none := (r.new p x1).resolve_left x2
  have fm : Frm C.hd C.H0 (upd H p vs') := by
    refine ⟨fun a u q k => ?_, fun h c q x => ?_⟩
    · rw [upd_ne (ne_of_none q h0)]; exact r.frm.1 a u q k
    · have y := r.frm.2 h c q x
      obtain ⟨_, _, _, _, a1, a2, _⟩ := x
      obtain ⟨cells, at_, big, mix, b1, b2, b3⟩ := y
      exact ⟨cells, at_, big, mix, by rw [upd_ne (ne_of_none a1 h0)]; exact b1, by rw [upd_ne (ne_of_none a2 h0)]; exact b2, b3⟩
  refine ⟨⟨by rw [List.length_set, r.len], r.sup, r.new, fun a z => ?_, fm, fun h c q => ⟨(r.hands h c q).1, (r.hands h c q).2.1, fm.2 h c q (r.hands h c q).2.1⟩, fun j s q => ?_, fun j k ys zs ne e1 e2 => ?_, r.one.set fun _ _ _ z => by cases z⟩, sm⟩
  · by_cases c : a = p
    · subst c; exact ⟨_, upd_same⟩
    · obtain ⟨o, q⟩ := r.al a z
      exact ⟨o, by rw [upd_ne c]; exact q⟩
  · rw [List.getElem?_set] at q
    by_cases c : i = j
    · subst c
      have hl : i < env.length := (List.getElem?_eq_some_iff.mp e).1
      rw [if_pos rfl, if_pos hl] at q
      cases q
      exact ⟨_, es, p, vs', rfl, x1, x2, upd_same, h2.mono sm⟩
    · rw [if_neg c] at q
      obtain ⟨o, e1, w⟩ := r.slot j s q
      refine ⟨o, e1, ?_⟩
      cases s with
      | no => trivial
      | d x => obtain ⟨v, e2, h⟩ := w; exact ⟨v, e2, h.mono sm⟩
      | own ys =>
        obtain ⟨p', us, rfl, y1, y2, y3, y4⟩ := w
        have ne : p' ≠ p := fun z => r.inj i j xs ys c e q (by rw [es, e1, z])
        exact ⟨p', us, rfl, y1, y2, by rw [upd_ne ne]; exact y3, y4.mono sm⟩
      | hand => exact w
      | exc c' fs => exact w.exc sm
      | ins C0 ns ds =>
        obtain ⟨p', dx, us, rfl, y1, y2, y3, yl, y4⟩ := w
        have ne : p' ≠ p := fun z => by
          obtain ⟨o2, es2, p2, us2, rfl, _, _, k2, k3⟩ := r.slot i _ e
          rw [es] at es2; cases es2
          rw [z, k2] at y3; cases y3; exact k3.noins
        exact ⟨p', dx, us, rfl, y1, y2, by rw [upd_ne ne]; exact y3, yl, y4.mono sm⟩
  · rw [List.getElem?_set] at e1 e2
    have hl : i < env.length := (List.getElem?_eq_some_iff.mp e).1
    by_cases c : i = j
    · subst c
      rw [if_neg ne] at e2
      exact r.inj i k xs zs ne e e2
    · rw [if_neg c] at e1
      by_cases c2 : i = k
      · subst c2
        exact r.inj j i ys xs ne e1 e
      · rw [if_neg c2] at e2
        exact r.inj j k ys zs ne e1 e2
/-- the list in slot i is no longer one's own -/
theorem Rep.frz (r : Rep C X env σ H) (i : Nat) : ∃ X', Rep C X' (frz env i) σ H ∧ Same (vis H X) (vis H X') := by
  unfold Mine.frz
  split
  · rename_i xs e
    obtain ⟨o, es, p, vs, rfl, x1, x2, h1, h2⟩ := r.slot i _ e
    have hl : i < env.length := (List.getElem?_eq_some_iff.mp e).1
    have sm : Same (vis H X) (vis H fun a => X a ∧ a ≠ p) := vis_anti fun a z => z.1
    refine ⟨fun a => X a ∧ a ≠ p, ⟨by rw [List.length_set, r.len], fun a z => ⟨r.sup a z, fun q => x2 (q ▸ z)⟩, fun a z => r.new a z.1, fun a z => r.al a z.1, r.frm, r.hands, fun j s q => ?_, fun j k ys zs ne e1 e2 => ?_, r.one.set fun _ _ _ z => by cases z⟩, sm⟩
    · rw [List.getElem?_set] at q
      by_cases c : i = j
      · subst c
        rw [if_pos rfl, if_pos hl] at q
        cases q
        exact ⟨_, es, _, rfl, (h2.mono sm).fz (vis_mk (fun z => z.2 rfl) h1)⟩
      · rw [if_neg c] at q
        obtain ⟨o, e1, w⟩ := r.slot j s q
        refine ⟨o, e1, ?_⟩
        cases s with
        | no => trivial
        | d x => obtain ⟨v, e2, h⟩ := w; exact ⟨v, e2, h.mono sm⟩
        | own ys =>
          obtain ⟨p', us, rfl, y1, y2, y3, y4⟩ := w
          have ne : p' ≠ p := fun z => r.inj i j xs ys c e q (by rw [es, e1, z])
          exact ⟨p', us, rfl, ⟨y1, ne⟩, y2, y3, y4.mono sm⟩
        | hand => exact w
        | exc c' fs => exact w.exc sm
        | ins C0 ns ds =>
          obtain ⟨p', dx, us, rfl, y1, y2, y3, yl, y4⟩ := w
          have ne : p' ≠ p := fun z => by rw [z, h1] at y3; cases y3; exact h2.noins
          exact ⟨p', dx, us, rfl, ⟨y1, ne⟩, y2, y3, yl, y4.mono sm⟩
    · rw [List.getElem?_set] at e1 e2
      by_cases c : i = j
      · subst c
        rw [if_pos rfl, if_pos hl] at e1; cases e1
      · rw [if_neg c] at e1
        by_cases c2 : i = k
        · subst c2
          rw [if_pos rfl, if_pos hl] at e2; cases e2
        · rw [if_neg c2] at e2
          exact r.inj j k ys zs ne e1 e2
  · exact ⟨X, r, Same.refl _⟩
theorem Rep.ownAt (r : Rep C X env σ H) {i : Nat} {xs : List Dt} (e : env[i]? = some (.own (.lst xs))) : ∃ p vs, σ[i]? = some (some (.ref p)) ∧ X p ∧ ¬ C.X0 p ∧ H p = some (.lst vs) ∧ DenAll C.K (vis H X) vs xs := by
  obtain ⟨o, es, p, u, rfl, x1, x2, h1, h2⟩ := r.slot i _ e
  cases h2 with
  | @lst vs _ a => exact ⟨p, vs, es, x1, x2, h1, a⟩
theorem Rep.ownAtO (r : Rep C X env σ H) {i : Nat} {w : Ow} (e : env[i]? = some (.own w)) : ∃ p u, σ[i]? = some (some (.ref p)) ∧ X p ∧ ¬ C.X0 p ∧ H p = some u ∧ DenO C.K (vis H X) u w := by
  obtain ⟨o, es, p, u, rfl, x1, x2, h1, h2⟩ := r.slot i _ e
  exact ⟨p, u, es, x1, x2, h1, h2⟩
end
/-- x.append(e) -/
def sApp (i : Nat) (e : DX) : DSt := fun d env => match env[i]? with
  | some (.own (.lst xs)) => e env (fun y => xs.length < LINE ∧ d.nx (env.set i (.own (.lst (xs ++ [y]))))) (d.xc env)
  | _ => False
/-- x.extend(e), e a list -/
def sExt (i : Nat) (e : DX) : DSt := fun d env => match env[i]? with
  | some (.own (.lst xs)) => e env (fun y => match y with
    | .lst ys => xs.length + ys.length ≤ LINE ∧ d.nx (env.set i (.own (.lst (xs ++ ys))))
    | _ => False) (d.xc env)
  | _ => False
/-- x.pop() -/
def sPop (i : Nat) : DSt := fun d env => match env[i]? with
  | some (.own (.lst xs)) => xs ≠ [] ∧ d.nx (env.set i (.own (.lst xs.dropLast)))
  | _ => False
/-- y = x.pop() -/
def sPopTo (i j : Nat) : DSt := fun d env => match env[i]? with
  | some (.own (.lst xs)) => ∃ y, xs[xs.length - 1]? = some y ∧ d.nx ((env.set i (.own (.lst xs.dropLast))).set j (.d y))
  | _ => False
/-- x[k] = e -/
def sPut (i : Nat) (ek e : DX) : DSt := fun d env => match env[i]? with
  | some (.own (.lst xs)) => e env (fun y => ek env (fun k => match k with
    | .int k => ∃ j, ixN xs.length k = some j ∧ d.nx (env.set i (.own (.lst (xs.set j y))))
    | _ => False) (d.xc env)) (d.xc env)
  | _ => False
/-- x[k] += e -/
def sAugP (f : Int → Int → Int) (i : Nat) (ek e : DX) : DSt := fun d env => match env[i]? with
  | some (.own (.lst xs)) => ek env (fun k => match k with
    | .int k => ∃ j z, ixN xs.length k = some j ∧ xs[j]? = some (.int z) ∧ e env (fun y => match y with
      | .int y => d.nx (env.set i (.own (.lst (xs.set j (.int (f z y))))))
      | _ => False) (d.xc env)
    | _ => False) (d.xc env)
  | _ => False
/-- x += e at a name that holds a whole number -/
def sAug (f : Int → Int → Int) (i : Nat) (e : DX) : DSt := fun d env => match env[i]? with
  | some (.d (.int x)) => e env (fun y => match y with
    | .int y => d.nx (env.set i (.d (.int (f x y))))
    | _ => False) (d.xc env)
  | _ => False
section
variable {C : Bc} {te tk : TE} {e ek : DX} {i : Nat}
theorem dst_own {j : Nat} (he : DF C te e) : DS C (tAsg te (gName j)) (sOwn j e) := by
  intro X env σ H D d r l h
  refine he X env σ H _ _ _ r h (fun x v H1 f1 r1 h1 => ?_) (l.xok r)
  obtain ⟨p, vs, ds, rfl, rfl, n, h2, h3⟩ := r1
  refine l.nx _ _ _ H1 (r.setOwn f1 n j h2 (.lst h3)) (fun a o q => ?_) h1
  obtain ⟨n1, e1⟩ := vis_of q
  exact vis_mk (fun z => z.elim n1 (ne_of_none e1 n)) (vis_of (r.vs f1 _ _ q)).2
theorem dst_frz {t : TS} {s : DSt} (i : Nat) (h : DS C t s) : DS C t (sFrz i s) := by
  intro X env σ H D d r l q
  obtain ⟨X', r', sm⟩ := r.frz i
  exact h X' _ σ H D d r' (l.step sm) q
theorem tyv_lst {K : PySem.W.Frag} {H : Hp} {p : Addr} {xs : List V} (h : H p = some (.lst xs)) : tyV K "list" (.ref p) H := .inl ⟨rfl, xs, .inl (.inl h)⟩
theorem dst_app (he : DE C te e) : DS C (tDrop (tBM C.K "list" rAppend (tVar i) (tCons te tNil))) (sApp i e) := by
  intro X env σ H D d r l h
  unfold sApp at h
  split at h
  · rename_i xs e1
    obtain ⟨p, vs, es, x1, x2, h1, h2⟩ := r.ownAt e1
    refine ⟨.ref p, es, tyv_lst h1, ?_⟩
    refine he X env σ H _ _ _ r h (fun y v H1 f1 r1 hy => ?_) (l.xok r)
    have k2 := h2.mono (r.vs f1)
    refine ⟨p, vs, v, rfl, rfl, f1.1 p _ h1 (r.nh x2), by rw [h2.length, sizeLine_eq]; exact hy.1, ?_⟩
    obtain ⟨r3, sm⟩ := (r.step f1).own e1 es x1 x2 (.lst (k2.snoc r1))
    exact l.nx _ _ _ _ r3 ((r.vs f1).trans sm) hy.2
  · exact h.elim
theorem dst_ext (he : DB C te e) : DS C (tDrop (tBM C.K "list" rExtend (tVar i) (tCons te tNil))) (sExt i e) := by
  intro X env σ H D d r l h
  unfold sExt at h
  split at h
  · rename_i xs e1
    obtain ⟨p, vs, es, x1, x2, h1, h2⟩ := r.ownAt e1
    refine ⟨.ref p, es, tyv_lst h1, ?_⟩
    refine he X env σ H _ _ _ r h (fun y v H1 f1 r1 hy => ?_) (l.xok r)
    split at hy
    · obtain ⟨b, us, rfl, h3, a3⟩ := r1.lst
      have k2 := h2.mono (r.vs f1)
      refine ⟨p, b, vs, us, rfl, rfl, f1.1 p _ h1 (r.nh x2), h3, by rw [h2.length, a3.length, sizeLine_eq]; exact hy.1, ?_⟩
      obtain ⟨r3, sm⟩ := (r.step f1).own e1 es x1 x2 (.lst (k2.append a3))
      exact l.nx _ _ _ _ r3 ((r.vs f1).trans sm) hy.2
    · exact hy.elim
  · exact h.elim
theorem dst_pop : DS C (tDrop (tBM0 C.K "list" rPop (tVar i))) (sPop i) := by
  intro X env σ H D d r l h
  unfold sPop at h
  split at h
  · rename_i xs e1
    obtain ⟨p, vs, es, x1, x2, h1, h2⟩ := r.ownAt e1
    have hn : vs ≠ [] := fun z => by subst z; cases h2; exact h.1 rfl
    refine ⟨.ref p, es, tyv_lst h1, p, vs, vs.getLast hn, rfl, rfl, h1, ?_, ?_⟩
    · have := List.length_pos_iff.mpr hn
      rw [List.getLast_eq_getElem, List.getElem?_eq_getElem (by omega)]
    · obtain ⟨r3, sm⟩ := r.own e1 es x1 x2 (.lst h2.dropLast)
      exact l.nx _ _ _ _ r3 sm h.2
  · exact h.elim
theorem dst_popTo {j : Nat} : DS C (tAsg (tBM0 C.K "list" rPop (tVar i)) (gName j)) (sPopTo i j) := by
  intro X env σ H D d r l h
  unfold sPopTo at h
  split at h
  · rename_i xs e1
    obtain ⟨y, hy, h⟩ := h
    obtain ⟨p, vs, es, x1, x2, h1, h2⟩ := r.ownAt e1
    obtain ⟨v, hv, dv⟩ := h2.get hy
    rw [← h2.length] at hv
    refine ⟨.ref p, es, tyv_lst h1, p, vs, v, rfl, rfl, h1, hv, ?_⟩
    obtain ⟨r3, sm⟩ := r.own e1 es x1 x2 (.lst h2.dropLast)
    exact l.nx _ _ _ _ (r3.set j (dv.mono sm)) sm h
  · exact h.elim
theorem dst_put (he : DE C te e) (hk : DE C tk ek) : DS C (tAsg te (gSub (tVar i) tk rSetL)) (sPut i ek e) := by
  intro X env σ H D d r l h
  unfold sPut at h
  split at h
  · rename_i xs e1
    refine he X env σ H _ _ _ r h (fun y v H1 f1 r1 hy => ?_) (l.xok r)
    have rp1 := r.step f1
    obtain ⟨p, vs, es, x1, x2, h1, h2⟩ := rp1.ownAt e1
    refine ⟨.ref p, es, ?_⟩
    refine hk X env σ H1 _ _ _ rp1 hy (fun k u H2 f2 r2 hk2 => ?_) ((l.xok r).step f1)
    split at hk2
    · obtain ⟨j, hj, hk2⟩ := hk2
      have k2 := h2.mono (rp1.vs f2)
      refine ⟨p, vs, _, j, rfl, r2.flat rfl, f2.1 p _ h1 (rp1.nh x2), by rw [h2.length]; exact hj, ?_⟩
      obtain ⟨r3, sm⟩ := (rp1.step f2).own e1 es x1 x2 (.lst (k2.set j (Den.mono (rp1.vs f2) r1)))
      exact l.nx _ _ _ _ r3 ((r.vs f1).trans ((rp1.vs f2).trans sm)) hk2
    · exact hk2.elim
  · exact h.elim
theorem dst_augP {f : Int → Int → Int} (hk : DE C tk ek) (he : DE C te e) : DS C (tAugS (tVar i) tk te rIxH (ipI f) rSetL) (sAugP f i ek e) := by
  intro X env σ H D d r l h
  unfold sAugP at h
  split at h
  · rename_i xs e1
    obtain ⟨p, vs, es, x1, x2, h1, h2⟩ := r.ownAt e1
    refine ⟨.ref p, es, ?_⟩
    refine hk X env σ H _ _ _ r h (fun k u H1 f1 r1 hk2 => ?_) (l.xok r)
    split at hk2
    · rename_i kk
      obtain ⟨j, z, hj, hz, hk2⟩ := hk2
      have rp1 := r.step f1
      have k1 := f1.1 p _ h1 (r.nh x2)
      have k2 := h2.mono (r.vs f1)
      obtain ⟨w, hw, dw⟩ := k2.get hz
      have ew : w = .int z := dw.flat rfl
      subst ew
      have hj' : ixN vs.length kk = some j := by rw [h2.length]; exact hj
      refine ⟨p, kk, vs, .int z, rfl, r1.flat rfl, k1, by unfold atI; rw [hj']; exact hw, ?_⟩
      refine he X env σ H1 _ _ _ rp1 hk2 (fun y v H2 f2 r2 hy => ?_) ((l.xok r).step f1)
      split at hy
      · have k3 := k2.mono (rp1.vs f2)
        refine ⟨z, _, rfl, r2.flat rfl, p, vs, _, j, rfl, r1.flat rfl, f2.1 p _ k1 (rp1.nh x2), hj', ?_⟩
        obtain ⟨r3, sm⟩ := (rp1.step f2).own e1 es x1 x2 (.lst (k3.set j (.int _)))
        exact l.nx _ _ _ _ r3 ((r.vs f1).trans ((rp1.vs f2).trans sm)) hy
      · exact hy.elim
    · exact hk2.elim
  · exact h.elim
theorem dst_aug {f : Int → Int → Int} (he : DE C te e) : DS C (tAug i te (ipI f)) (sAug f i e) := by
  intro X env σ H D d r l h
  unfold sAug at h
  split at h
  · rename_i x e1
    obtain ⟨v, es, dv⟩ := r.at e1
    have ev : v = .int x := dv.flat rfl
    subst ev
    refine ⟨_, es, ?_⟩
    refine he X env σ H _ _ _ r h (fun y v H1 f1 r1 hy => ?_) (l.xok r)
    split at hy
    · exact ⟨x, _, rfl, r1.flat rfl, l.nx _ _ _ _ ((r.step f1).set i (.int _)) (r.vs f1) hy⟩
    · exact hy.elim
  · exact h.elim
end
/-! ### loops -/
def dFor (f : DGX) (b : DSt) (d : DEn) : List Dt → List Sl → Prop
  | [], env => d.nx env
  | x :: xs, env => f x env fun env' => b { d with nx := dFor f b d xs, ct := dFor f b d xs, bk := d.nx } env'
def sFor (src : DAX) (f : DGX) (b : DSt) : DSt := fun d env => src env (fun ds => dFor f b d ds env) (d.xc env)
/-- what a while is asked: an invariant that falls -/
def sWhile (c : DTX) (b : DSt) : DSt := fun d env => ∃ (I : Nat → List Sl → Prop) (m0 : Nat), I m0 env ∧ ∀ m env, I m env → c env (fun k => if k = true then b { d with nx := fun e => ∃ m', m' < m ∧ I m' e, ct := fun e => ∃ m', m' < m ∧ I m' e, bk := d.nx } env else d.nx env) (d.xc env)
section
variable {C : Bc} {wi : TI} {g : TG} {tb : TS} {src : DAX} {f : DGX} {b : DSt} {js : List Nat} {tc : TT} {ec : DTX}
theorem dst_for (hi : DIg Strong C wi src) (hg : DG C g js f) (hb : DS C tb b) : DS C (tFor wi g tb) (sFor src f b) := by
  intro X env σ H D d r l h
  refine hi X env σ H _ _ _ r h (fun ds J H1 f1 w h1 => ?_) (l.xok r)
  have rp1 := r.step f1
  have l1 := l.step (r.vs f1)
  let W : Nat → Nat → L2.St → Hp → Prop := fun i m σ2 H2 => m + i = ds.length ∧ ∃ X2 env2, Rep C X2 env2 σ2 H2 ∧ Same (vis H1 X) (vis H2 X2) ∧ dFor f b d (ds.drop i) env2
  refine ⟨W, ⟨ds.length, rfl, X, env, rp1, Same.refl _, h1⟩, fun i m σ2 H2 ⟨hm, X2, env2, r2, s2, go⟩ => ?_⟩
  have hw := w X2 i H2 ⟨s2, r2.al⟩
  by_cases c : i < ds.length
  · obtain ⟨g1, g2⟩ := hw.1 c
    refine .inr ⟨g1, W (i + 1) (m - 1), fun σ' H' hW => ⟨m - 1, by omega, hW⟩, fun y H3 hy => ?_⟩
    obtain ⟨s3, x, hx, den⟩ := g2 y H3 hy
    have ed : ds.drop i = x :: ds.drop (i + 1) := by
      rw [List.drop_eq_getElem_cons c]
      congr 1
      rw [List.getElem?_eq_getElem c] at hx
      exact Option.some.inj hx
    rw [ed] at go
    have r3 := r2.step (.same s3)
    have s13 : Same (vis H1 X) (vis H3 X2) := s2.trans (r2.vs (.same s3))
    refine hg X2 env2 σ2 H3 y x _ _ r3 den go fun env' σ' r' h' _ _ _ => ?_
    refine hb X2 env' σ' H3 _ { d with nx := dFor f b d (ds.drop (i + 1)), ct := dFor f b d (ds.drop (i + 1)), bk := d.nx } r' ⟨fun X4 env4 σ4 H4 r4 s4 h4 => ⟨by omega, X4, env4, r4, s13.trans s4, h4⟩, fun X4 env4 σ4 H4 v z r4 s4 a h4 => l1.rt X4 env4 σ4 H4 v z r4 (s13.trans s4) a h4,
      fun X4 env4 σ4 H4 r4 s4 h4 => l1.nx X4 env4 σ4 H4 r4 (s13.trans s4) h4, fun X4 env4 σ4 H4 r4 s4 h4 => ⟨by omega, X4, env4, r4, s13.trans s4, h4⟩, fun X4 env4 σ4 H4 z cls dx r4 s4 a h4 => l1.xc X4 env4 σ4 H4 z cls dx r4 (s13.trans s4) a h4⟩ h'
  · have e : ds.drop i = [] := List.drop_eq_nil_of_le (by omega)
    rw [e] at go
    exact .inl ⟨hw.2 (by omega), l1.nx X2 env2 σ2 H2 r2 s2 go⟩
theorem dst_while (hc : DT C tc ec) (hb : DS C tb b) : DS C (tWhile tc tb) (sWhile ec b) := by
  intro X env σ H D d r l ⟨I, m0, i0, turn⟩
  let W : Nat → L2.St → Hp → Prop := fun m σ2 H2 => ∃ X2 env2, Rep C X2 env2 σ2 H2 ∧ Same (vis H X) (vis H2 X2) ∧ I m env2
  refine ⟨W, ⟨m0, X, env, r, Same.refl _, i0⟩, fun m σ2 H2 ⟨X2, env2, r2, s2, i2⟩ => ?_⟩
  have l2 := l.step s2
  refine hc X2 env2 σ2 H2 _ _ _ r2 (turn m env2 i2) (fun k H3 f3 h3 => ?_) (l2.xok r2)
  have r3 := r2.step f3
  have s13 : Same (vis H X) (vis H3 X2) := s2.trans (r2.vs f3)
  cases k with
  | false => rw [if_neg (by decide)] at h3 ⊢; exact l.nx X2 env2 σ2 H3 r3 s13 h3
  | true =>
    rw [if_pos rfl] at h3 ⊢
    refine ⟨fun σ' H' => ∃ m', m' < m ∧ W m' σ' H', fun σ' H' h => h, ?_⟩
    exact hb X2 env2 σ2 H3 _ { d with nx := fun e => ∃ m', m' < m ∧ I m' e, ct := fun e => ∃ m', m' < m ∧ I m' e, bk := d.nx } r3 ⟨fun X4 env4 σ4 H4 r4 s4 ⟨m', a, h4⟩ => ⟨m', a, X4, env4, r4, s13.trans s4, h4⟩, fun X4 env4 σ4 H4 v z r4 s4 a h4 => l.rt X4 env4 σ4 H4 v z r4 (s13.trans s4) a h4,
      fun X4 env4 σ4 H4 r4 s4 h4 => l.nx X4 env4 σ4 H4 r4 (s13.trans s4) h4, fun X4 env4 σ4 H4 r4 s4 ⟨m', a, h4⟩ => ⟨m', a, X4, env4, r4, s13.trans s4, h4⟩, fun X4 env4 σ4 H4 z cls dx r4 s4 a h4 => l.xc X4 env4 σ4 H4 z cls dx r4 (s13.trans s4) a h4⟩ h3
end
end Mine

namespace Mine
open PySem PySem.Spec PyProof.Rows L2
/-! ### raise -/
def sRaise (c : Str) : DSt := fun d env => d.xc env ⟨c, []⟩
def sRaise1 (c f : Str) (e : DX) : DSt := fun d env => e env (fun x => match x.flat with
  | some u => d.xc env ⟨c, [(f, u)]⟩
  | none => False) (d.xc env)
section
variable {C : Bc} {W : WX} {te : TE} {e : DX} {c f : Str}
theorem dst_raise (hW : C.E = WE W) : DS C (fun _ σ H => W (.ref (He.ga C.K c)) none σ H) (sRaise c) := by
  intro X env σ H D d r l h
  have := l.xc X env σ H ⟨c, []⟩ (.ref (He.ga C.K c)) none r (Same.refl _) ⟨rfl, rfl⟩ h
  rw [hW] at this
  exact this
theorem dst_raise1 (hW : C.E = WE W) (he : DE C te e) : DS C (fun _ σ H => tMk1 (He.ga C.K c) f te σ H fun cls d H' => W cls d σ H') (sRaise1 c f e) := by
  intro X env σ H D d r l h
  refine he X env σ H _ _ _ r h (fun x v H1 f1 r1 h1 => ?_) (l.xok r)
  split at h1
  · rename_i u eu
    have ev : v = u := Den.flat r1 eu
    subst ev
    intro dd H' s n hd
    have r2 := r.step f1
    have r3 : Rep C X env σ H' := r2.step (.same s)
    have := l.xc X env σ H' ⟨c, [(f, v)]⟩ (.ref (He.ga C.K c)) (some dd) r3 ((r.vs f1).trans (r2.vs (.same s))) ⟨rfl, dd, rfl, vis_mk (r2.free n) hd⟩ h1
    rw [hW] at this
    exact this
  · exact h1.elim
end
/-! ### try -/
def clr : Sl → Sl
  | .exc _ _ => .no
  | s => s
def bindS (env : List Sl) (o : Option Nat) (x : Xc) : List Sl := match o with
  | none => env.map clr
  | some i => (env.map clr).set i (.exc x.cls x.fs)
def endS (d : DEn) : Option Nat → DEn
  | none => { d with xc := fun _ _ => False }
  | some i => { nx := fun e => d.nx (e.set i .no), rt := d.rt, bk := fun e => d.bk (e.set i .no), ct := fun e => d.ct (e.set i .no), xc := fun _ _ => False }
/-- the clauses; mt: what is an instance of what -/
def dHs (mt : Str → Str → Option Bool) : List (Str × Option Nat × DSt) → DEn → List Sl → Xc → Prop
  | [], d, env, x => d.xc env x
  | (c, o, s) :: r, d, env, x => ∃ b, mt x.cls c = some b ∧ (if b = true then s (endS d o) (bindS env o x) else dHs mt r d env x)
def sTry (mt : Str → Str → Option Bool) (b : DSt) (hs : List (Str × Option Nat × DSt)) : DSt := fun d env => b { d with xc := fun e x => dHs mt hs d e x } env
abbrev Bc.wE (C : Bc) (E : L2.St → XK) : Bc := { C with E := E }
abbrev Bc.wX (C : Bc) (a : Addr) (cls : Value) (d : Option Addr) : Bc := { C with ex := some (a, cls, d) }
inductive HsOk (C : Bc) : List (Value × Option Nat × Suit) → List (Str × Option Nat × DSt) → Prop
  | nil : HsOk C [] []
  | cons {c : Str} {o : Option Nat} {ts : Suit} {s : DSt} {l : List (Value × Option Nat × Suit)} {hs : List (Str × Option Nat × DSt)} (h : ∀ a cls d, DS (C.wX a cls d) (ts a cls d) s) (r : HsOk C l hs) : HsOk C ((.ref (He.ga C.K c), o, ts) :: l) ((c, o, s) :: hs)
section
variable {C : Bc} {X : Addr → Prop} {env : List Sl} {σ : L2.St} {H : Hp}
theorem Rep.inE (r : Rep C X env σ H) (E : L2.St → XK) : Rep (C.wE E) X env σ H := ⟨r.len, r.sup, r.new, r.al, r.frm, r.hands, r.slot, r.inj, r.one⟩
theorem Rep.outE {E : L2.St → XK} (r : Rep (C.wE E) X env σ H) : Rep C X env σ H := ⟨r.len, r.sup, r.new, r.al, r.frm, r.hands, r.slot, r.inj, r.one⟩
theorem Rep.outX {a : Addr} {cls : Value} {d : Option Addr} (hex : C.ex = none) (r : Rep (C.wX a cls d) X env σ H) : Rep C X env σ H := by
  refine ⟨r.len, r.sup, r.new, r.al, r.frm, r.hands, fun i s e => ?_, r.inj, r.one⟩
  obtain ⟨o, e1, q⟩ := r.slot i s e
  refine ⟨o, e1, ?_⟩
  cases s with
  | exc c fs => unfold SlRep; rw [hex]; trivial
  | no => trivial
  | d x => exact q
  | own xs => exact q
  | hand => exact q
  | ins _ _ _ => exact q
theorem Rep.inX (r : Rep C X env σ H) (a : Addr) (cls : Value) (d : Option Addr) : Rep (C.wX a cls d) X (env.map clr) σ H := by
  refine ⟨by rw [List.length_map]; exact r.len, r.sup, r.new, r.al, r.frm, r.hands, fun i s e => ?_, fun i j xs ys n e1 e2 => ?_, r.one.map fun s C ns ds z => by cases s <;> first | exact z | cases z⟩
  · rw [List.getElem?_map, Option.map_eq_some_iff] at e
    obtain ⟨s0, e, rfl⟩ := e
    obtain ⟨o, e1, q⟩ := r.slot i s0 e
    refine ⟨o, e1, ?_⟩
    cases s0 with
    | exc c fs => trivial
    | no => trivial
    | d x => exact q
    | own xs => exact q
    | hand => exact q
    | ins _ _ _ => exact q
  · rw [List.getElem?_map, Option.map_eq_some_iff] at e1 e2
    obtain ⟨s1, e1, q1⟩ := e1
    obtain ⟨s2, e2, q2⟩ := e2
    cases s1 <;> simp [clr] at q1
    cases s2 <;> simp [clr] at q2
    subst q1 q2
    exact r.inj i j _ _ n e1 e2
theorem Rep.excAt {a : Addr} {cls : Value} {d : Option Addr} (r : Rep (C.wX a cls d) X env σ H) (j : Nat) {c : Str} {fs : List (Str × V)} (h : SlRep (C.wX a cls d) X H (.exc c fs) (some (.ref a))) : Rep (C.wX a cls d) X (env.set j (.exc c fs)) (σ.set j (some (.ref a))) H where
  len := by rw [List.length_set, List.length_set, r.len]
  sup := r.sup
  new := r.new
  al := r.al
  frm := r.frm
  hands := r.hands
  slot := fun i s e => by
    rw [List.getElem?_set] at e ⊢
    by_cases c : j = i
    · subst c
      rw [if_pos rfl] at e ⊢
      by_cases hl : j < env.length
      · rw [if_pos hl] at e
        rw [if_pos (r.len ▸ hl)]
        cases e
        exact ⟨_, rfl, h⟩
      · rw [if_neg hl] at e; cases e
    · rw [if_neg c] at e ⊢
      exact r.slot i s e
  inj := fun i k xs ys n e1 e2 => by
    rw [List.getElem?_set] at e1 e2
    have a : j ≠ i := fun c => by
      subst c
      rw [if_pos rfl] at e1
      split at e1 <;> cases e1
    have b : j ≠ k := fun c => by
      subst c
      rw [if_pos rfl] at e2
      split at e2 <;> cases e2
    rw [if_neg a] at e1
    rw [if_neg b] at e2
    rw [List.getElem?_set, List.getElem?_set, if_neg a, if_neg b]
    exact r.inj i k xs ys n e1 e2
  one := r.one.set fun _ _ _ z => by cases z
theorem hs_run {Wout : WX} {D : Ends} {d : DEn} {mt : Str → Str → Option Bool} (hW : C.E = WE Wout) (hex : C.ex = none) (hm : ∀ a b r, mt a b = some r → PySem.W.exmOne C.K (.ref (He.ga C.K a)) (.ref (He.ga C.K b)) = some r) :
    ∀ {l : List (Value × Option Nat × Suit)} {hs : List (Str × Option Nat × DSt)}, HsOk C l hs → ∀ {x : Xc} {cls : Value} {dx : Option Addr}, Rep C X env σ H → Lnk C X H D d → XRep C.K (vis H X) cls dx x → dHs mt hs d env x → wNamed C.K Wout D l cls dx σ H
  | _, _, .nil, x, cls, dx, r, k, xr, h => by
    have := k.xc X env σ H x cls dx r (Same.refl _) xr h
    rw [hW] at this
    exact this
  | _, _, @HsOk.cons _ c o ts s l hs hts rest, x, cls, dx, r, k, xr, ⟨b, hb, h⟩ => by
    obtain ⟨ec, ed⟩ := xr
    refine ⟨b, by rw [ec]; exact hm _ _ _ hb, fun eb a na => ?_, fun eb => ?_⟩
    · rw [if_pos eb] at h
      have rx := r.inX a cls dx
      cases o with
      | none =>
        refine hts a cls dx X _ σ H D (endS d none) rx ⟨fun X' env' σ' H' r' s' h' => k.nx X' env' σ' H' (r'.outX hex) s' h', fun X' env' σ' H' v z r' s' w h' => k.rt X' env' σ' H' v z (r'.outX hex) s' w h',
          fun X' env' σ' H' r' s' h' => k.bk X' env' σ' H' (r'.outX hex) s' h', fun X' env' σ' H' r' s' h' => k.ct X' env' σ' H' (r'.outX hex) s' h', fun _ _ _ _ _ _ _ _ _ _ h' => h'.elim⟩ h
      | some i =>
        have re : Rep (C.wX a cls dx) X (bindS env (some i) x) (σ.set i (some (.ref a))) H := by
          refine rx.excAt i ⟨rfl, ec, ?_⟩
          obtain ⟨xc, xf⟩ := x
          cases xf with
          | nil => exact .inl ⟨rfl, ed⟩
          | cons f fr => obtain ⟨a, e1, e2⟩ := ed; exact .inr ⟨a, e1, e2⟩
        refine hts a cls dx X _ (σ.set i (some (.ref a))) H _ (endS d (some i)) re ⟨fun X' env' σ' H' r' s' h' => k.nx X' _ _ H' ((r'.outX hex).unset i none) s' h', fun X' env' σ' H' v z r' s' w h' => k.rt X' env' σ' H' v z (r'.outX hex) s' w h',
          fun X' env' σ' H' r' s' h' => k.bk X' _ _ H' ((r'.outX hex).unset i none) s' h', fun X' env' σ' H' r' s' h' => k.ct X' _ _ H' ((r'.outX hex).unset i none) s' h', fun _ _ _ _ _ _ _ _ _ _ h' => h'.elim⟩ h
    · rw [if_neg (by rw [eb]; decide)] at h
      exact hs_run hW hex hm rest r k ⟨ec, ed⟩ h
theorem dst_try {Wout : WX} {tb : WX → TS} {l : List (Value × Option Nat × Suit)} {sb : DSt} {hs : List (Str × Option Nat × DSt)} {mt : Str → Str → Option Bool} (hW : C.E = WE Wout) (hex : C.ex = none)
    (hm : ∀ a b r, mt a b = some r → PySem.W.exmOne C.K (.ref (He.ga C.K a)) (.ref (He.ga C.K b)) = some r) (hb : ∀ W, DS (C.wE (WE W)) (tb W) sb) (hh : HsOk C l hs) : DS C (fun D σ H => tb (wNamed C.K Wout D l) D σ H) (sTry mt sb hs) := by
  intro X env σ H D d r k h
  refine hb _ X env σ H D { d with xc := fun e x => dHs mt hs d e x } (r.inE _) ⟨fun X' env' σ' H' r' s' h' => k.nx X' env' σ' H' r'.outE s' h', fun X' env' σ' H' v z r' s' w h' => k.rt X' env' σ' H' v z r'.outE s' w h',
    fun X' env' σ' H' r' s' h' => k.bk X' env' σ' H' r'.outE s' h', fun X' env' σ' H' r' s' h' => k.ct X' env' σ' H' r'.outE s' h', fun X' env' σ' H' x cls dx r' s' w h' => ?_⟩ h
  exact hs_run hW hex hm hh r'.outE (k.step s') w h'
/-! ### the exception in hand -/
def Dt.ofV : V → Dt
  | .non => .non
  | .bl b => .bl b
  | .int i => .int i
  | .str x => .str x
  | v => .raw v
theorem den_ofV {K : PySem.W.Frag} {H : Hp} : ∀ v : V, Den K H v (Dt.ofV v)
  | .non => .non
  | .bl b => .bl b
  | .int i => .int i
  | .str x => .str x
  | .byt b => .raw _
  | .flt b => .raw _
  | .ref b => .raw _
  | .ty b => .raw _
/-- e.f, e of the class c -/
def eXf (i : Nat) (c f : Str) : DX := fun env Q _ => match env[i]? with
  | some (.exc c' fs) => c' = c ∧ ∃ u, fs.lookup f = some u ∧ Q (Dt.ofV u)
  | _ => False
theorem de_xf {i : Nat} {c f : Str} {a : Addr} {cls : Value} {d : Option Addr} : DE (C.wX a cls d) (tXf a cls d (He.ga C.K c) f (tVar i)) (eXf i c f) := by
  intro X env σ H Q Qd Qx r he q x
  unfold eXf at he
  split at he
  · rename_i c' fs e
    obtain ⟨rfl, u, hu, he⟩ := he
    obtain ⟨o, e1, rfl, e2, e3⟩ := r.slot i _ e
    rcases e3 with ⟨rfl, _⟩ | ⟨dd, e4, e5⟩
    · cases hu
    · exact ⟨_, e1, rfl, e2, dd, fs, u, e4, vis_sub _ _ e5, hu, q _ _ H (.refl H) (den_ofV u) he⟩
  · exact he.elim
/-- isinstance(e, C) -/
def eIsX (i : Nat) (tab : Str → Option Bool) : DX := fun env Q _ => match env[i]? with
  | some (.exc c fs) => ∃ b, tab c = some b ∧ Q (.bl b)
  | _ => False
theorem de_isX {i : Nat} {cn : Str} {a : Addr} {cls : Value} {d : Option Addr} {tab : Str → Option Bool} (ht : ∀ c b, tab c = some b → ExcC C.K (He.ga C.K c) ∧ PySem.W.kitOne C.K (.ref (He.ga C.K c)) (.ref (He.ga C.K cn)) = some b) :
    DE (C.wX a cls d) (tCB (rIsX C.K a cls d) (tCons (tVar i) (tCons (tC (.ref (He.ga C.K cn))) tNil))) (eIsX i tab) := by
  intro X env σ H Q Qd Qx r he q x
  unfold eIsX at he
  split at he
  · rename_i c' fs e
    obtain ⟨b, hb, he⟩ := he
    obtain ⟨o, e1, rfl, e2, e3⟩ := r.slot i _ e
    obtain ⟨h1, h2⟩ := ht _ _ hb
    refine ⟨_, e1, He.ga C.K c', _, _, b, rfl, e2, h1, fun u ru => ru, h2, fun dd hd => ?_, q _ _ H (.refl H) (.bl b) he⟩
    rcases e3 with ⟨_, e4⟩ | ⟨d2, e4, e5⟩
    · have e4 : d = none := e4
      rw [e4] at hd; cases hd
    · have e4 : d = some d2 := e4
      rw [e4] at hd; cases hd
      exact ⟨fs, vis_sub _ _ e5⟩
  · exact he.elim
end
/-! ### a def by its data -/
/-- np parameters, N names in all -/
def mkD (np N : Nat) (s : DSt) : DFn := fun args Q E => args.length = np ∧ s ⟨fun _ => Q .non, Q, fun _ => False, fun _ => False, fun _ x => E x⟩ (args ++ List.replicate (N - np) .no)
def mkD0 (np N : Nat) (s : DSt) : DFn := fun args Q E => args.length = np ∧ s ⟨fun _ => Q .non, Q, fun _ => False, fun _ => False, fun _ _ => False⟩ (args ++ List.replicate (N - np) .no)
theorem spD_len {K : PySem.W.Frag} {F : DFn} {np : Nat} (hF : ∀ args Q E, F args Q E → args.length = np) : ∀ vs H Q E, spD K F vs H Q E → vs.length = np := by
  rintro vs H Q E ⟨X, hd, args, Qd, Qx, _, _, sl, h, _⟩
  rw [sl.length]; exact hF _ _ _ h
/-- where a body begins -/
theorem rep_start {K : PySem.W.Frag} {X : Addr → Prop} {hd : Hnd} {H : Hp} {E : L2.St → XK} {vs : List V} {args : List Sl} {N : List Str} (al : ∀ a, X a → ∃ o, H a = some o) (hh : ∀ h c, hd = some (h, c) → X h ∧ HandC H h c) (sl : SlAll K hd X H vs args) :
    Rep ⟨K, H, X, hd, none, E, none⟩ X (args ++ List.replicate (N.length - args.length) .no) (L2.start N vs) H := by
  have hl := sl.length
  have slots : ∀ {vs : List V} {args : List Sl}, SlAll K hd X H vs args → ∀ (i : Nat) (s : Sl), args[i]? = some s → (∃ o, (vs.map some)[i]? = some o ∧ SlRep ⟨K, H, X, hd, none, E, none⟩ X H s o) ∧ ∀ xs, s ≠ .own xs := by
    intro vs args sl
    induction sl with
    | nil => intro i s e; simp at e
    | d a r ih =>
      intro i s e
      cases i with
      | zero => simp at e; subst e; exact ⟨⟨_, rfl, _, rfl, a⟩, fun _ z => by cases z⟩
      | succ i =>
        obtain ⟨⟨o, q⟩, n⟩ := ih i s (by simpa using e)
        exact ⟨⟨o, by simpa using q⟩, n⟩
    | hand a r ih =>
      intro i s e
      cases i with
      | zero => simp at e; subst e; exact ⟨⟨_, rfl, _, _, rfl, a⟩, fun _ z => by cases z⟩
      | succ i =>
        obtain ⟨⟨o, q⟩, n⟩ := ih i s (by simpa using e)
        exact ⟨⟨o, by simpa using q⟩, n⟩
  have slotsI : ∀ {vs : List V} {args : List Sl}, SlAll K hd X H vs args → ∀ (i : Nat) (C0 : Str) (ns : List Str) (ds : List Dt), args[i]? ≠ some (.ins C0 ns ds) := by
    intro vs args sl
    induction sl with
    | nil => intro i C0 ns ds e; simp at e
    | d a r ih =>
      intro i C0 ns ds e
      cases i with
      | zero => simp at e
      | succ i => exact ih i C0 ns ds (by simpa using e)
    | hand a r ih =>
      intro i C0 ns ds e
      cases i with
      | zero => simp at e
      | succ i => exact ih i C0 ns ds (by simpa using e)
  have noins : ∀ (i : Nat) (C0 : Str) (ns : List Str) (ds : List Dt), (args ++ List.replicate (N.length - args.length) Sl.no)[i]? ≠ some (.ins C0 ns ds) := fun i C0 ns ds e => by
    rw [List.getElem?_append] at e
    split at e
    · exact slotsI sl i C0 ns ds e
    · rw [List.getElem?_replicate] at e
      split at e <;> cases e
  have noown : ∀ (i : Nat) (xs : Ow), (args ++ List.replicate (N.length - args.length) Sl.no)[i]? ≠ some (.own xs) := fun i xs e => by
    rw [List.getElem?_append] at e
    split at e
    · exact (slots sl i _ e).2 xs rfl
    · rw [List.getElem?_replicate] at e
      split at e <;> cases e
  refine ⟨?_, fun a z => z, fun a z => .inl z, al, .refl H, fun h c e => ⟨(hh h c e).1, (hh h c e).2, (hh h c e).2⟩, fun i s e => ?_, fun i j xs ys n e1 e2 => absurd e1 (noown i xs), fun i ⟨C0, ns, ds, e⟩ => absurd e (noins i C0 ns ds)⟩
  · unfold L2.start
    rw [List.length_append, List.length_append, List.length_replicate, List.length_replicate, List.length_map, hl]
  · unfold L2.start
    rw [List.getElem?_append] at e ⊢
    rw [List.length_map, hl]
    split at e
    · rename_i c
      rw [if_pos c]
      obtain ⟨⟨o, q⟩, _⟩ := slots sl i s e
      exact ⟨o, q⟩
    · rename_i c
      rw [if_neg c]
      rw [List.getElem?_replicate] at e ⊢
      split at e
      · rename_i c2
        cases e
        rw [if_pos c2]
        exact ⟨_, rfl, trivial⟩
      · cases e
/-- the reading of a whole body -/
theorem body_of {K : PySem.W.Frag} {N : List Str} {np n : Nat} {sb : DSt} {t : TS} {vs : List V} {H : Hp} {Q : VK} {E : XK} (hn : N.length = n) (h : spD K (mkD np n sb) vs H Q E)
    (hb : ∀ X hd, DS ⟨K, H, X, hd, none, fun _ => E, none⟩ t sb) : t { nx := fun _ H' => Q .non H', rt := Q } (L2.start N vs) H := by
  obtain ⟨X, hd, args, Qd, Qx, al, hh, sl, ⟨ha, h⟩, q, x⟩ := h
  have r := rep_start (N := N) (E := fun _ => E) al hh sl
  rw [ha, hn] at r
  refine hb X hd X _ _ H _ _ r ⟨fun X' env σ H' r' s' h' => q _ _ H' r'.frm .non h', fun X' env σ H' v z r' s' w h' => q z v H' r'.frm (w.mono (vis_anti r'.sup)) h', fun _ _ _ _ _ _ (h' : False) => h'.elim, fun _ _ _ _ _ _ (h' : False) => h'.elim, fun X' env σ H' z cls dx r' s' w h' => x z cls dx H' r'.frm (w.mono (vis_anti r'.sup)) h'⟩ h
theorem body_of0 {K : PySem.W.Frag} {N : List Str} {np n : Nat} {sb : DSt} {t : TS} {vs : List V} {H : Hp} {Q : VK} {E : XK} (hn : N.length = n) (h : spD K (mkD0 np n sb) vs H Q E)
    (hb : ∀ X hd, DS ⟨K, H, X, hd, none, fun _ _ _ _ => False, none⟩ t sb) : t { nx := fun _ H' => Q .non H', rt := Q } (L2.start N vs) H := by
  obtain ⟨X, hd, args, Qd, Qx, al, hh, sl, ⟨ha, h⟩, q, x⟩ := h
  have r := rep_start (N := N) (E := fun _ _ _ _ => False) al hh sl
  rw [ha, hn] at r
  refine hb X hd X _ _ H _ _ r ⟨fun X' env σ H' r' s' h' => q _ _ H' r'.frm .non h', fun X' env σ H' v z r' s' w h' => q z v H' r'.frm (w.mono (vis_anti r'.sup)) h', fun _ _ _ _ _ _ (h' : False) => h'.elim, fun _ _ _ _ _ _ (h' : False) => h'.elim, fun _ _ _ _ _ _ _ _ _ _ (h' : False) => h'.elim⟩ h
end Mine

namespace Mine
open PySem PySem.Spec PyProof.Rows L2
/-! ### comprehensions of two clauses -/
def lcIn (f : DGX) (tt : DTX) (te : DX) (env : List Sl) (K : List Dt → Prop) : List Dt → List Dt → Prop
  | [], acc => K acc
  | x :: xs, acc => f x env fun env' => tt env' (fun b => if b = true then te env' (fun y => acc.length < LINE ∧ lcIn f tt te env K xs (acc ++ [y])) (fun _ => False) else lcIn f tt te env K xs acc) fun _ => False
def lcGo2 (f : DGX) (tt : DTX) (src1 : DAX) (f1 : DGX) (tt1 : DTX) (te : DX) (vs1 : List Nat) (env : List Sl) (Q : Dt → Prop) : List Dt → List Dt → Prop
  | [], acc => Q (.lst acc)
  | x :: xs, acc => f x env fun env' => tt env' (fun b => if b = true then src1 env' (fun ds1 => lcIn f1 tt1 te (wipeS env' vs1) (fun acc' => lcGo2 f tt src1 f1 tt1 te vs1 env Q xs acc') ds1 acc) (fun _ => False)
      else lcGo2 f tt src1 f1 tt1 te vs1 env Q xs acc) fun _ => False
def eLc2 (src : DAX) (f : DGX) (tt : DTX) (src1 : DAX) (f1 : DGX) (tt1 : DTX) (te : DX) (vs1 vs : List Nat) : DX := fun env Q E => src env (fun ds => lcGo2 f tt src1 f1 tt1 te vs1 (wipeS env vs) Q ds []) E
section
variable {C : Bc} {X : Addr → Prop} {env : List Sl} {σ : L2.St} {H : Hp}
theorem Rep.updHid {D : Addr} (r : Rep C X env σ H) (xD : X D) (h0 : C.H0 D = none) (no : ∀ (i : Nat) (xs : Ow), env[i]? = some (Sl.own xs) → σ[i]? ≠ some (some (.ref D))) {us0 : List V} (hD : H D = some (.lst us0)) (o : HO) :
    Rep C X env σ (upd H D o) ∧ Same (vis H X) (vis (upd H D o) X) := by
  have sm : Same (vis H X) (vis (upd H D o) X) := fun a u q => by
    obtain ⟨n1, e1⟩ := vis_of q
    exact vis_mk n1 (by rw [upd_ne (fun (z : a = D) => n1 (by rw [z]; exact xD))]; exact e1)
  have fm : Frm C.hd C.H0 (upd H D o) := by
    refine ⟨fun a u q k => ?_, fun h c q x => ?_⟩
    · rw [upd_ne (ne_of_none q h0)]; exact r.frm.1 a u q k
    · have y := r.frm.2 h c q x
      obtain ⟨_, _, _, _, a1, a2, _⟩ := x
      obtain ⟨cells, at_, big, mix, b1, b2, b3⟩ := y
      exact ⟨cells, at_, big, mix, by rw [upd_ne (ne_of_none a1 h0)]; exact b1, by rw [upd_ne (ne_of_none a2 h0)]; exact b2, b3⟩
  refine ⟨⟨r.len, r.sup, r.new, fun a z => ?_, fm, fun h c q => ⟨(r.hands h c q).1, (r.hands h c q).2.1, fm.2 h c q (r.hands h c q).2.1⟩, fun j s q => ?_, r.inj, r.one⟩, sm⟩
  · by_cases c : a = D
    · subst c; exact ⟨_, upd_same⟩
    · obtain ⟨u, q⟩ := r.al a z
      exact ⟨u, by rw [upd_ne c]; exact q⟩
  · obtain ⟨u, e1, w⟩ := r.slot j s q
    refine ⟨u, e1, ?_⟩
    cases s with
    | no => trivial
    | d x => obtain ⟨v, e2, h⟩ := w; exact ⟨v, e2, h.mono sm⟩
    | own ys =>
      obtain ⟨p', us, rfl, y1, y2, y3, y4⟩ := w
      have ne : p' ≠ D := fun z => no j ys q (by rw [e1, z])
      exact ⟨p', us, rfl, y1, y2, by rw [upd_ne ne]; exact y3, y4.mono sm⟩
    | hand => exact w
    | exc c' fs => exact w.exc sm
    | ins C0 ns ds =>
      obtain ⟨p', dx, us, rfl, y1, y2, y3, yl, y4⟩ := w
      have ne : p' ≠ D := fun z => by rw [z, hD] at y3; cases y3
      exact ⟨p', dx, us, rfl, y1, y2, by rw [upd_ne ne]; exact y3, yl, y4.mono sm⟩
theorem own_wiped : ∀ (vs : List Nat) (k : Nat) (xs : Ow), (wipeS env vs)[k]? = some (Sl.own xs) → env[k]? = some (Sl.own xs) ∧ (wipe σ vs)[k]? = σ[k]?
  | [], k, xs, e => ⟨e, rfl⟩
  | v :: vs, k, xs, e => by
    have e : ((wipeS env vs).set v .no)[k]? = some (Sl.own xs) := e
    rw [List.getElem?_set] at e
    have a : v ≠ k := fun c => by
      subst c
      rw [if_pos rfl] at e
      split at e <;> cases e
    rw [if_neg a] at e
    obtain ⟨h1, h2⟩ := own_wiped vs k xs e
    refine ⟨h1, ?_⟩
    show ((wipe σ vs).set v none)[k]? = _
    rw [List.getElem?_set, if_neg a]; exact h2
end
theorem df_lc2 {C : Bc} {wi wi1 : TI} {g g1 : TG} {tt tt1 : TT} {te : TE} {vs vs1 js : List Nat} {src src1 : DAX} {f f1 : DGX} {et et1 : DTX} {ee : DX} (hi : DIg Weak C wi src) (hg : DG C g js f) (ht : DT C tt et)
    (hi1 : DIg Strong C wi1 src1) (hg1 : DG C g1 vs1 f1) (ht1 : DT C tt1 et1) (he : DE C te ee) (hjs : ∀ k ∈ js, k ∈ vs) : DF C (tLc2 wi g tt wi1 g1 tt1 te vs vs1) (eLc2 src f et src1 f1 et1 ee vs1 vs) := by
  intro X env σ H Q Qd Qx rp h q x
  refine hi X env σ H _ _ Qx rp h (fun ds J H1 f1' w h1 => ?_) x
  show ∀ D, H1 D = none → _
  intro D hD
  have rp1 := rp.step f1'
  let go := lcGo2 f et src1 f1 et1 ee vs1 (wipeS env vs) Qd
  let W : Nat → Nat → Hp → Prop := fun i m H2 => m + i = ds.length ∧ Frm C.hd H1 H2 ∧ ∃ acc us, H2 D = some (.lst us) ∧ DenAll C.K (vis H2 fun a => X a ∨ a = D) us acc ∧ go (ds.drop i) acc
  refine ⟨W, ⟨ds.length, rfl, .upd hD, [], [], upd_same, .nil, h1⟩, fun i m H2 ⟨hm, f2, acc, us, hD2, a2, hgo⟩ => ?_⟩
  have rpY : Rep C (fun a => X a ∨ a = D) env σ H2 := rp1.hide hD f2 ⟨_, hD2⟩
  have rpW := rpY.wiped vs
  have sW : Weak C X H1 (fun a => X a ∨ a = D) H2 := ⟨f2, rp1.hX, fun a z => z.imp id fun (e : a = D) => by rw [e]; exact hD, rpY.al⟩
  have hw := w _ i H2 sW
  have nh : ∀ h c, C.hd = some (h, c) → D ≠ h := fun h c e z => by
    obtain ⟨_, _, _, _, q, _⟩ := (rp1.hands h c e).2.2
    rw [z, q] at hD; cases hD
  have h0D : C.H0 D = none := rp1.h0 hD
  have noD : ∀ (i : Nat) (xs : Ow), (wipeS env vs)[i]? = some (Sl.own xs) → (wipe σ vs)[i]? ≠ some (some (.ref D)) := fun i xs e z => by
    obtain ⟨e1, e2⟩ := own_wiped (σ := σ) vs i xs e
    rw [e2] at z
    obtain ⟨p, vs', es, x1, x2, y1, y2⟩ := rp1.ownAtO e1
    rw [es] at z
    injection z with z; injection z with z; injection z with z
    rw [z, hD] at y1; cases y1
  by_cases c : i < ds.length
  · obtain ⟨g1', g2⟩ := hw.1 c
    refine .inr ⟨g1', W (i + 1) (m - 1), fun H' hW => ⟨m - 1, by omega, hW⟩, fun y H3 hy => ?_⟩
    obtain ⟨s3, d, hd, den⟩ := g2 y H3 hy
    have ed : ds.drop i = d :: ds.drop (i + 1) := by
      rw [List.drop_eq_getElem_cons c]
      congr 1
      rw [List.getElem?_eq_getElem c] at hd
      exact Option.some.inj hd
    rw [ed] at hgo
    have step : ∀ H5, Frm C.hd H3 H5 → Frm C.hd H1 H5 ∧ H5 D = some (.lst us) ∧ DenAll C.K (vis H5 fun a => X a ∨ a = D) us acc := fun H5 f5 => by
      have f25 : Frm C.hd H2 H5 := (Frm.same s3).trans f5
      exact ⟨f2.trans f25, f25.1 D _ hD2 nh, a2.mono (rpY.vs f25)⟩
    refine hg _ _ _ H3 y d _ _ (rpW.step (.same s3)) den hgo fun env' σ' rp' he' hl hk ho => ⟨wipe_of hl fun k nk => hk k fun z => nk (hjs k z), ?_⟩
    have noD' : ∀ (i : Nat) (xs : Ow), env'[i]? = some (Sl.own xs) → σ'[i]? ≠ some (some (.ref D)) := fun i xs e => by
      obtain ⟨e1, e2⟩ := ho i xs e
      rw [e2]; exact noD i xs e1
    refine ht _ env' σ' H3 _ _ _ rp' he' (fun b H4 f4 hb => ?_) xok_no
    cases b with
    | false =>
      rw [if_neg (by decide)] at hb ⊢
      obtain ⟨k1, k2, k3⟩ := step H4 f4
      exact ⟨by omega, k1, acc, us, k2, k3, hb⟩
    | true =>
      rw [if_pos rfl] at hb ⊢
      refine hi1 _ env' σ' H4 _ _ _ (rp'.step f4) hb (fun ds1 J1 H5 f5 w1 hb5 => ?_) xok_no
      obtain ⟨k1, k2, k3⟩ := step H5 (f4.trans f5)
      have rp5 := (rp'.step f4).step f5
      let W1 : Nat → Nat → Hp → Prop := fun j k H6 => k + j = ds1.length ∧ Rep C (fun a => X a ∨ a = D) env' σ' H6 ∧ Same (vis H5 fun a => X a ∨ a = D) (vis H6 fun a => X a ∨ a = D) ∧ Frm C.hd H1 H6 ∧
        ∃ acc us, H6 D = some (.lst us) ∧ DenAll C.K (vis H6 fun a => X a ∨ a = D) us acc ∧ lcIn f1 et1 ee (wipeS env' vs1) (fun acc' => go (ds.drop (i + 1)) acc') (ds1.drop j) acc
      refine ⟨W1, ⟨ds1.length, rfl, rp5, Same.refl _, k1, acc, us, k2, k3, hb5⟩, fun j k H6 ⟨hk', rp6, sm6, f6, acc, us, hD6, a6, hin⟩ => ?_⟩
      have hw1 := w1 _ j H6 ⟨sm6, rp6.al⟩
      by_cases c1 : j < ds1.length
      · obtain ⟨q1, q2⟩ := hw1.1 c1
        refine .inr ⟨q1, W1 (j + 1) (k - 1), fun H' hW => ⟨k - 1, by omega, hW⟩, fun y1 H7 hy1 => ?_⟩
        obtain ⟨s7, d1, hd1, den1⟩ := q2 y1 H7 hy1
        have ed1 : ds1.drop j = d1 :: ds1.drop (j + 1) := by
          rw [List.drop_eq_getElem_cons c1]
          congr 1
          rw [List.getElem?_eq_getElem c1] at hd1
          exact Option.some.inj hd1
        rw [ed1] at hin
        have rp7 := rp6.step (.same s7)
        have rpV := rp7.wiped vs1
        refine hg1 _ _ _ H7 y1 d1 _ _ rpV den1 hin fun env2 σ2 rp2 he2 hl2 hk2 ho2 => ⟨wipe_of hl2 hk2, ?_⟩
        have step1 : ∀ H8, Frm C.hd H7 H8 → Frm C.hd H1 H8 ∧ H8 D = some (.lst us) ∧ DenAll C.K (vis H8 fun a => X a ∨ a = D) us acc ∧ Rep C (fun a => X a ∨ a = D) env' σ' H8 ∧ Same (vis H5 fun a => X a ∨ a = D) (vis H8 fun a => X a ∨ a = D) := fun H8 f8 => by
          have f68 : Frm C.hd H6 H8 := (Frm.same s7).trans f8
          exact ⟨f6.trans f68, f68.1 D _ hD6 nh, a6.mono (rp6.vs f68), rp6.step f68, sm6.trans (rp6.vs f68)⟩
        refine ht1 _ env2 σ2 H7 _ _ _ rp2 he2 (fun b1 H8 f8 hb8 => ?_) xok_no
        cases b1 with
        | false =>
          rw [if_neg (by decide)] at hb8 ⊢
          obtain ⟨l1, l2, l3, l4, l5⟩ := step1 H8 f8
          exact ⟨by omega, l4, l5, l1, acc, us, l2, l3, hb8⟩
        | true =>
          rw [if_pos rfl] at hb8 ⊢
          refine he _ env2 σ2 H8 _ _ _ (rp2.step f8) hb8 (fun y2 v2 H9 f9 den9 hb9 => ?_) xok_no
          obtain ⟨l1, l2, l3, l4, l5⟩ := step1 H9 (f8.trans f9)
          obtain ⟨r10, sv⟩ := l4.updHid (D := D) (.inr rfl) h0D noD' l2 (.lst (us ++ [v2]))
          have den9 : Den C.K (vis H9 fun a => X a ∨ a = D) v2 y2 := den9
          refine ⟨us, l2, by rw [l3.length, sizeLine_eq]; exact hb9.1, by omega, r10, l5.trans sv, frm_put rp1 hD l1, acc ++ [y2], us ++ [v2], upd_same, (l3.snoc den9).mono sv, hb9.2⟩
      · have e : ds1.drop j = [] := List.drop_eq_nil_of_le (by omega)
        rw [e] at hin
        exact .inl ⟨hw1.2 (by omega), by omega, f6, acc, us, hD6, a6, hin⟩
  · have e : ds.drop i = [] := List.drop_eq_nil_of_le (by omega)
    rw [e] at hgo
    exact .inl ⟨hw.2 (by omega), q _ _ H2 (f1'.trans f2) ⟨D, us, acc, rfl, rfl, f1'.free (fun h c e => (rp.hands h c e).2.2) hD, hD2, a2⟩ hgo⟩
/-! ### not, by truth -/
def eNotVT (a : DX) : DX := fun env Q E => a env (fun d => dTru d fun c => Q (.bl (!c))) E
def tNotVT (K : PySem.W.Frag) (ta : TE) : TE := L2.tNotT K ta
theorem pe_notVT {X : Cx} {K : PySem.W.Frag} {a : Expr} {ta : TE} {pos : Pos} (e : X.K = K) (ha : PE X a ta) : PE X (.UnaryOp .Not a pos) (tNotVT K ta) := e ▸ pe_notT ha
theorem de_notVT {C : Bc} {ta : TE} {ea : DX} (h : DB C ta ea) : DE C (tNotVT C.K ta) (eNotVT ea) := by
  intro X env σ H Q Qd Qx rp he q x
  refine h X env σ H _ _ Qx rp he (fun d v H1 f1 r1 he1 => ?_) x
  obtain ⟨k, h1, h2⟩ := r1.tru (rp.step f1) he1
  exact ⟨k, h1, q _ _ _ f1 (.bl _) h2⟩
end Mine

namespace Mine
open PySem PySem.Spec PyProof.Rows L2
/-! ### the hand -/
/-- the hand at h: its cells at c -/
def HandAt (H : Hp) (h : Addr) : Prop := ∃ (c : Addr) (cells : List Int) (at_ : Nat) (big mix : Int), H h = some (.lst [.ref c, .int at_, .int big, .int mix]) ∧ H c = some (.lst (cells.map V.int)) ∧
  (∀ z ∈ cells, 0 ≤ z) ∧ at_ ≤ cells.length ∧ cells.length ≤ 63 ∧ 0 ≤ big ∧ 0 ≤ mix ∧ mix < 2147483563
def sp_hand (K : PySem.W.Frag) : Sp := fun vs H Q _ => ∃ (a : Addr) (ns : List Int), vs = [.ref a] ∧ SqL K H a (ns.map V.int) ∧ ns.length ≤ 63 ∧ ∀ H' h, Same H H' → H h = none → HandAt H' h → Q (.ref h) H'
def i_hand (H : Hp) (a c : Addr) (i : Nat) (σ : L2.St) (H' : Hp) : Prop := ∃ (tot : Int) (v3 : Option V) (cells : List Int), σ = [some (.ref a), some (.int tot), some (.ref c), v3] ∧ cells.length = i ∧ H' c = some (.lst (cells.map V.int)) ∧
  (∀ z ∈ cells, 0 ≤ z) ∧ Same H H' ∧ 0 ≤ tot ∧ tot < 2147483563
def mixedN (n t : Int) : Int :=
  ((((n * 39373 + t * 6151 + 50021) % 2147483399 * ((n * 39373 + t * 6151 + 50021) % 2147483399) + t * 81071 + (n * 39373 + t * 6151 + 50021) % 2147483399 / 137) % 2147483629 * 62089 +
    (n * 39373 + t * 6151 + 50021) % 2147483399 / 11) % 2147483587) / 64
theorem mixedN_pos (n t : Int) : 0 ≤ mixedN n t := Int.ediv_nonneg (Int.emod_nonneg _ (by decide)) (by decide)
def sp_mixed : Sp := fun vs H Q _ => ∃ n t : Int, vs = [.int n, .int t] ∧ (-(2 ^ 40) < n ∧ n < 2 ^ 40 ∧ -(2 ^ 40) < t ∧ t < 2 ^ 40) ∧ ∀ r, 0 ≤ r → Q (.int r) H
/-- what a drawing may make of the hand -/
def HandN (H : Hp) (h : Addr) (o : HO) : Prop := HandAt (upd H h o) h ∧ ∃ c r r', H h = some (.lst (V.ref c :: r)) ∧ o = .lst (V.ref c :: r')
def sp_take : Sp := fun vs H Q _ => ∃ (h : Addr) (m : Int), vs = [.ref h, .int m] ∧ HandAt H h ∧ 0 < m ∧ m < 1073741824 ∧ ∀ r o, 0 ≤ r → r < m → HandN H h o → Q (.int r) (upd H h o)
/-- a drawing, by data: any number below m -/
def F_law_take : DFn := fun args Q _ => match args with
  | [.hand, .d (.int m)] => (0 < m ∧ m < 1073741824) ∧ ∀ r : Nat, (r : Int) < m → Q (.int r)
  | _ => False
theorem take_spD {K : PySem.W.Frag} : ∀ vs H Q E, spD K F_law_take vs H Q E → sp_take vs H Q E := by
  rintro vs H Q E ⟨X, hd, args, Qd, Qx, al, hh, sl, hF, q, _⟩
  unfold F_law_take at hF
  split at hF
  · obtain ⟨⟨h1, h2⟩, hr⟩ := hF
    cases sl with
    | @hand h c vs ss e sl =>
      cases sl with
      | d den sl =>
        cases sl
        have ev := den.flat rfl
        subst ev
        obtain ⟨xh, cells, at_, big, mix, hH, hC, r⟩ := hh h c e
        refine ⟨h, _, rfl, ⟨c, cells, at_, big, mix, hH, hC, r⟩, h1, h2, fun z o z1 z2 hn => ?_⟩
        obtain ⟨⟨c2, cells2, at2, big2, mix2, hH2, hC2, rr⟩, c3, r1, r2, e1, rfl⟩ := hn
        rw [hH] at e1
        rw [upd_same] at hH2
        cases e1
        cases hH2
        have := q (.int z) (.int z) (upd H h (.lst [V.ref c, .int at2, .int big2, .int mix2])) ⟨fun b u eb nb => by rw [upd_ne (nb h c e)]; exact eb, fun h' c' e' _ => by
          rw [e] at e'
          cases e'
          exact ⟨cells2, at2, big2, mix2, upd_same, hC2, rr⟩⟩ (.int _) (by have := hr z.toNat (by omega); rwa [Int.toNat_of_nonneg z1] at this)
        exact this
  · exact hF.elim
/-! ### the law itself -/
def sp_law (K : PySem.W.Frag) : Sp := fun vs H Q _ => ∃ (a : Addr) (ns : List Int), vs = [.ref a] ∧ SqL K H a (ns.map V.int) ∧ ns.length ≤ 63 ∧ ∀ H', Q (.bl true) H'
/-- what is left of a law: its text behind the hand's making gives True, whatever is drawn -/
def LawGoal (n : Nat) (s : DSt) : Prop := s ⟨fun _ => False, fun d => d = .bl true, fun _ => False, fun _ => False, fun _ _ => False⟩ (.no :: .hand :: List.replicate n .no)
theorem body_law {K : PySem.W.Frag} {N : List Str} {n : Nat} {sb : DSt} {t : TS} {vs : List V} {H : Hp} {Q : VK} {E : XK} (hn : N.length = n + 2) (h : sp_law K vs H Q E) (g : LawGoal n sb)
    (hb : ∀ H X hd, DS ⟨K, H, X, hd, none, fun _ _ _ _ => False, none⟩ t sb) : tSeq (tAsg (tCall (sp_hand K) [] E0 (tCons (tVar 0) tNil)) (gName 1)) t { nx := fun _ H' => Q .non H', rt := Q } (L2.start N vs) H := by
  obtain ⟨a, ns, rfl, hS, hl, q⟩ := h
  refine ⟨.ref a, rfl, a, ns, rfl, hS, hl, fun H' h s hn' hA => ?_⟩
  obtain ⟨c, cells, at_, big, mix, hH, hC, r⟩ := hA
  have hc : HandC H' h c := ⟨cells, at_, big, mix, hH, hC, r⟩
  have es : (L2.start N [V.ref a]).set 1 (some (.ref h)) = some (.ref a) :: some (.ref h) :: List.replicate n none := by
    unfold L2.start
    have e : N.length - 1 = n + 1 := by omega
    show (some (V.ref a) :: List.replicate (N.length - 1) none).set 1 _ = _
    rw [e]
    rfl
  have rp : Rep ⟨K, H', fun z => z = h, some (h, c), none, fun _ _ _ _ => False, none⟩ (fun z => z = h) (.no :: .hand :: List.replicate n .no) ((L2.start N [V.ref a]).set 1 (some (.ref h))) H' := by
    rw [es]
    refine ⟨by simp, fun z e => e, fun z e => .inl e, fun z e => ⟨.lst [V.ref c, V.int ↑at_, V.int big, V.int mix], by rw [show z = h from e]; exact hH⟩, .refl _, fun h' c' e => ?_, fun i sl e => ?_, fun i j xs ys _ e1 _ => ?_, fun i ⟨C0, ns0, ds0, e1⟩ => ?_⟩
    · cases e; exact ⟨rfl, hc, hc⟩
    · match i, e with
      | 0, e => cases e; exact ⟨_, rfl, trivial⟩
      | 1, e => cases e; exact ⟨_, rfl, h, c, rfl, rfl⟩
      | i + 2, e =>
        have e : (List.replicate n Sl.no)[i]? = some sl := e
        rw [List.getElem?_replicate] at e
        split at e
        · rename_i hi
          cases e
          exact ⟨none, by show (List.replicate n none)[i]? = _; rw [List.getElem?_replicate, if_pos hi], trivial⟩
        · cases e
    · match i, e1 with
      | 0, e1 => cases e1
      | 1, e1 => cases e1
      | i + 2, e1 =>
        have e1 : (List.replicate n Sl.no)[i]? = some (.own xs) := e1
        rw [List.getElem?_replicate] at e1
        split at e1 <;> cases e1
    · match i, e1 with
      | 0, e1 => rfl
      | 1, e1 => cases e1
      | i + 2, e1 =>
        have e1 : (List.replicate n Sl.no)[i]? = some (.ins C0 ns0 ds0) := e1
        rw [List.getElem?_replicate] at e1
        split at e1 <;> cases e1
  refine hb _ _ _ _ _ _ _ { nx := fun _ H' => Q .non H', rt := Q } _ rp ⟨fun _ _ _ _ _ _ (h' : False) => h'.elim, fun X' env σ H2 v z r' s' w h' => ?_, fun _ _ _ _ _ _ (h' : False) => h'.elim, fun _ _ _ _ _ _ (h' : False) => h'.elim, fun _ _ _ _ _ _ _ _ _ _ (h' : False) => h'.elim⟩ g
  have h' : z = .bl true := h'
  subst h'
  have ev := w.flat rfl
  subst ev
  exact q H2
/-! ### monotone, for errors' fields -/
theorem mon_call {K : PySem.W.Frag} {F : DFn} {dvs : List V} {E : XK} {t : TA} (m : ∀ σ H (Q Q' : List V → Hp → Prop), (∀ v H', Q v H' → Q' v H') → t σ H Q → t σ H Q') : Mon (tCall (spD K F) dvs E t) := fun σ H Q Q' h q =>
  m σ H _ _ (fun vs H1 ⟨X, hd, args, Qd, Qx, a, b, c, d, e, f⟩ => ⟨X, hd, args, Qd, Qx, a, b, c, d, fun d v H' fr de qd => h _ _ (e d v H' fr de qd), f⟩) q
end Mine

namespace Mine
open PySem PySem.Spec PyProof.Rows L2
/-! ### zip of two lists, two tuples, a tuple and a list -/
def iZipU (K : PySem.W.Frag) (ta : TA) : TI := fun σ H R => ta σ H fun vs H1 => ∃ a b xs ys, vs = [.ref a, .ref b] ∧ ((SqL K H1 a xs ∧ SqL K H1 b ys ∧ R (Itz K a b) H1) ∨ ((SqT K H1 a xs ∧ SqL K H1 b ys ∧ R (ItzM K a b) H1) ∨ (SqT K H1 a xs ∧ SqT K H1 b ys ∧ R (RZ.ItzT K a b) H1)))
theorem pi_zipU {X : Cx} {e e2 : Expr} {ta : TA} {p pos tpos : Pos} {elts : List Expr} {kk : Nat} (hg : Gl X "zip") (hm : X.mg "zip" = none) (ha : PA X [e, e2] ta)
    (hs : starEach [e, e2] X.env = (false, eval e X.env) :: starEach [e2] X.env := by rfl) (hpl : (backTo pos (starEach [e2] X.env)).any (·.1) = false := by rfl) :
    PI X (.Tuple elts kk tpos) (.Call (.Name "zip" p) [e, e2] [] pos) (iZipU X.K ta) := by
  refine ⟨fun pins s σ H R I h => ?_⟩
  refine Call_ (ld_blt I hg hm PyProof.Rows.boot_zip (PyProof.Rows.callWith_type1 (thn (ha.run pos pins s σ H _ I h) fun us s1 ⟨vs, H1, I1, r1, q1⟩ => ?_) hs hpl))
  obtain ⟨a, b, xs, ys, rfl, q1⟩ := q1
  cases r1 with
  | cons r rr =>
    cases rr with
    | cons r' rr =>
      cases rr
      cases r
      cases r'
      have fresh : ∀ c, c ∈ [s1.heap.objs.size + 4, s1.heap.objs.size + 2, s1.heap.objs.size + 3, s1.heap.objs.size, s1.heap.objs.size + 1] → FpOk X pins H1 c := fun c hc => by
        have le : s1.heap.objs.size ≤ c := by
          have e' : c = s1.heap.objs.size + 4 ∨ c = s1.heap.objs.size + 2 ∨ c = s1.heap.objs.size + 3 ∨ c = s1.heap.objs.size ∨ c = s1.heap.objs.size + 1 := by simpa using hc
          have : ∀ k : Nat, s1.heap.objs.size ≤ s1.heap.objs.size + k := fun k => Nat.le_add_right _ _
          rcases e' with rfl | rfl | rfl | rfl | rfl
          · exact this 4
          · exact this 2
          · exact this 3
          · exact Nat.le_refl _
          · exact this 1
        exact I1.fpOk le (I1.hok.fresh le)
      rcases q1 with ⟨hqx, hqy, q⟩ | ⟨hqx, hqy, q⟩ | ⟨hqx, hqy, q⟩
      · obtain ⟨its, rv, p1, _⟩ := I1.list hqx
        obtain ⟨its2, rv2, p2, _⟩ := I1.list hqy
        have la : a < s1.heap.objs.size := p1.lt
        have lb : b < s1.heap.objs.size := p2.lt
        refine call_zip_2 p1.isList p2.isList fun h' hz hTI hTO h1 h2 hsz hk => wpAny_pyIter_zip hz ?_
        exact ⟨s1.heap.objs.size + 4, [s1.heap.objs.size + 4, s1.heap.objs.size + 2, s1.heap.objs.size + 3, s1.heap.objs.size, s1.heap.objs.size + 1], _, _, H1, rfl, I1.kept (t' := s1.toks) hk, turn_zip (PySem.W.ktu_apart s1.heap.objs.size a b la lb), ⟨hz, hTI, ⟨_, _, hTO⟩, h1, h2⟩, fresh, q⟩
      · obtain ⟨its, rv, p1, _⟩ := I1.tuple hqx
        have lta : a < s1.heap.objs.size := by obtain ⟨o, ho, _⟩ := id p1; exact Heap.lt_size ho
        obtain ⟨its2, rv2, p2, _⟩ := I1.list hqy
        have ltb := p2.lt
        refine zip_begins2 (begins_tuple a its.toArray) (begins_list b its2.toArray) p1 p2.isList fun h' hz hTI hTO g1 g2 hsz hk => wpAny_pyIter_zip hz ?_
        have S := zip_sep2 (N := s1.heap.objs.size) (fp1 := [a]) (fp2 := [b]) (fun c hc => by rw [List.mem_singleton.mp hc]; exact lta) (fun c hc => by rw [List.mem_singleton.mp hc]; exact ltb)
        exact ⟨s1.heap.objs.size + 4, [s1.heap.objs.size + 4, s1.heap.objs.size + 2, s1.heap.objs.size + 3, s1.heap.objs.size, s1.heap.objs.size + 1], _, _, H1, rfl, I1.kept (t' := s1.toks) hk,
          turn_zipM S (Nat.ne_of_lt lta) (Nat.ne_of_lt (Nat.lt_succ_of_lt ltb)), ⟨hz, hTI, ⟨_, _, hTO⟩, ⟨_, g1, rfl, rfl⟩, ⟨_, g2, rfl, rfl⟩⟩, fresh, q⟩
      · obtain ⟨its, rv, p1, _⟩ := I1.tuple hqx
        have lta : a < s1.heap.objs.size := by obtain ⟨o, ho, _⟩ := id p1; exact Heap.lt_size ho
        obtain ⟨its2, rv2, p2, _⟩ := I1.tuple hqy
        have ltb : b < s1.heap.objs.size := by obtain ⟨o, ho, _⟩ := id p2; exact Heap.lt_size ho
        refine zip_begins2 (begins_tuple a its.toArray) (begins_tuple b its2.toArray) p1 p2 fun h' hz hTI hTO g1 g2 hsz hk => wpAny_pyIter_zip hz ?_
        exact ⟨s1.heap.objs.size + 4, [s1.heap.objs.size + 4, s1.heap.objs.size + 2, s1.heap.objs.size + 3, s1.heap.objs.size, s1.heap.objs.size + 1], _, _, H1, rfl, I1.kept (t' := s1.toks) hk,
          RZ.turn_zipT (PySem.W.ktu_apart s1.heap.objs.size a b lta ltb), ⟨hz, hTI, ⟨_, _, hTO⟩, ⟨_, g1, rfl, rfl⟩, ⟨_, g2, rfl, rfl⟩⟩, fresh, q⟩
/-- by data; two lists, two tuples, a tuple and a list -/
def eZip (a b : DX) : DAX := fun env Q E => a env (fun d1 => b env (fun d2 => match d1, d2 with
  | .lst xs, .lst ys => Q (List.zipWith (fun x y => .tup [x, y]) xs ys)
  | .tup xs, .lst ys => xs.length = ys.length ∧ Q (List.zipWith (fun x y => .tup [x, y]) xs ys)
  | .tup xs, .tup ys => xs.length = ys.length ∧ Q (List.zipWith (fun x y => .tup [x, y]) xs ys)
  | _, _ => False) E) E
section
variable {C : Bc}
theorem walk_pair2 {S : SS} {X : Addr → Prop} {H1 : Hp} {J : It} {n : Nat} {G : Hp → Prop} {xs ys : List V} {ds es : List Dt} (hal : ∀ {Y : Addr → Prop} {H : Hp}, S C X H1 Y H → ∀ a, Y a → ∃ o, H a = some o) (hn : (List.zipWith (fun x y => Dt.tup [x, y]) ds es).length = n)
    (w : Walk J n G (YPair (fun i => xs[i]?) (fun i => ys[i]?))) (hs : ∀ i H, i = n → G H → J.stop i H) (k : ∀ Y H, S C X H1 Y H → G H ∧ DenAll C.K (vis H Y) xs ds ∧ DenAll C.K (vis H Y) ys es) :
    WalkD S C X H1 J (List.zipWith (fun x y => Dt.tup [x, y]) ds es) := by
  intro Y i H s
  obtain ⟨g, a, b⟩ := k Y H s
  refine ⟨fun hi => ⟨w.goes i H (hn ▸ hi) g, fun x H' hy => ?_⟩, fun hi => hs i H (by omega) g⟩
  obtain ⟨T, v, y, rfl, hT, rfl, ev, ey⟩ := w.yields i H x H' (hn ▸ hi) g hy
  dsimp only at ev ey
  obtain ⟨d, e, den⟩ := a.getV ev
  obtain ⟨d2, e2, den2⟩ := b.getV ey
  have nT : ¬ Y T := fun y => by
    obtain ⟨o, q⟩ := hal s T y
    rw [hT] at q; cases q
  have mv : Same (vis H Y) (vis (upd H T (.tup [v, y])) Y) := fun c o e => by
    obtain ⟨n1, e1⟩ := vis_of e
    exact vis_mk n1 (same_upd hT _ _ e1)
  refine ⟨same_upd hT, .tup [d, d2], by rw [List.getElem?_zipWith, e, e2], .tup (vis_mk nT upd_same) (.cons (den.mono mv) (.cons (den2.mono mv) .nil))⟩
theorem di_zip {R R2 : RR} {S : SS} [Src R S] [Src R2 S] {t1 t2 : TE} {a b : DX} (h1 : DEg R C t1 a) (h2 : DEg R2 C t2 b) (fr : ∀ {X : Addr → Prop} {env : List Sl} {σ : L2.St} {H0 H H' : Hp} {v : V} {d : Dt}, Rep C X env σ H → Frm C.hd H H' → R C X H0 H v d → R C X H0 H' v d) :
    DIg S C (iZipU C.K (tCons t1 (tCons t2 tNil))) (eZip a b) := by
  intro X env σ H Rr Qd Qx rp he q x
  refine h1 X env σ H _ _ Qx rp he (fun d1 v1 H1 f1 r1 he1 => ?_) x
  refine h2 X env σ H1 _ _ Qx (rp.step f1) he1 (fun d2 v2 H2 f2 r2 he2 => ?_) (x.step f1)
  have r1 := fr (rp.step f1) f2 r1
  have mn : ∀ {α β γ : Type} (f : α → β → γ) (xs : List α) (ys : List β), (List.zipWith f xs ys).length = min xs.length ys.length := fun f xs ys => by simp
  show ∃ a b xs ys, [v1, v2] = [.ref a, .ref b] ∧ _
  split at he2
  · obtain ⟨p, vs, rfl, h3, k⟩ := Src.lst (S := S) r1
    obtain ⟨p2, vs2, rfl, h4, k2⟩ := Src.lst (S := S) r2
    refine ⟨p, p2, vs, vs2, rfl, .inl ⟨.inl (.inl h3), .inl (.inl h4), q _ _ H2 (f1.trans f2) ?_ he2⟩⟩
    intro Y i H3 s
    have l1 := (k Y H3 s).2.length
    have l2 := (k2 Y H3 s).2.length
    exact walk_pair2 (n := min vs.length vs2.length) (G := fun H => SqL C.K H p vs ∧ SqL C.K H p2 vs2) (fun s => Src.al (R := R) s) (by rw [mn, l1, l2]) (walk_zip rfl) (fun i H hi g => ⟨vs, vs2, g.1, g.2, by omega⟩)
      (fun Y H s => ⟨⟨.inl (.inl (k Y H s).1), .inl (.inl (k2 Y H s).1)⟩, (k Y H s).2, (k2 Y H s).2⟩) Y i H3 s
  · obtain ⟨hl, he2⟩ := he2
    obtain ⟨p, vs, rfl, h3, k⟩ := Src.tup (S := S) r1
    obtain ⟨p2, vs2, rfl, h4, k2⟩ := Src.lst (S := S) r2
    refine ⟨p, p2, vs, vs2, rfl, .inr (.inl ⟨.inl (.inl h3), .inl (.inl h4), q _ _ H2 (f1.trans f2) ?_ he2⟩)⟩
    intro Y i H3 s
    have l1 := (k Y H3 s).2.length
    have l2 := (k2 Y H3 s).2.length
    exact walk_pair2 (n := vs.length) (G := fun H => SqT C.K H p vs ∧ SqL C.K H p2 vs2) (fun s => Src.al (R := R) s) (by rw [mn, l1, hl]; omega) (walk_zipM (by omega)) (fun i H hi g => ⟨vs, vs2, g.1, g.2, by first | exact .inl (by omega) | exact ⟨.inl (by omega), by omega, by omega⟩ | omega⟩)
      (fun Y H s => ⟨⟨.inl (.inl (k Y H s).1), .inl (.inl (k2 Y H s).1)⟩, (k Y H s).2, (k2 Y H s).2⟩) Y i H3 s
  · obtain ⟨hl, he2⟩ := he2
    obtain ⟨p, vs, rfl, h3, k⟩ := Src.tup (S := S) r1
    obtain ⟨p2, vs2, rfl, h4, k2⟩ := Src.tup (S := S) r2
    refine ⟨p, p2, vs, vs2, rfl, .inr (.inr ⟨.inl (.inl h3), .inl (.inl h4), q _ _ H2 (f1.trans f2) ?_ he2⟩)⟩
    intro Y i H3 s
    have l1 := (k Y H3 s).2.length
    have l2 := (k2 Y H3 s).2.length
    exact walk_pair2 (n := vs.length) (G := fun H => SqT C.K H p vs ∧ SqT C.K H p2 vs2) (fun s => Src.al (R := R) s) (by rw [mn, l1, hl]; omega) (walk_zipTT (by omega)) (fun i H hi g => ⟨vs, vs2, g.1, g.2, by first | exact .inl (by omega) | exact ⟨.inl (by omega), by omega, by omega⟩ | omega⟩)
      (fun Y H s => ⟨⟨.inl (.inl (k Y H s).1), .inl (.inl (k2 Y H s).1)⟩, (k Y H s).2, (k2 Y H s).2⟩) Y i H3 s
  · exact he2.elim
end
end Mine
namespace Mine
open PySem PySem.Spec PyProof.Rows L2
theorem ix_U {X : Cx} {K : PySem.W.Frag} (e : X.K = K) : IxR X (rIx K) := e ▸ ix_seq
end Mine
namespace Mine
open PySem PySem.Spec PyProof.Rows L2
theorem op_eqU {X : Cx} {K : PySem.W.Frag} (e : X.K = K) (hu : X.A.units + 64 < cLine) : OpR X (compareOp .Eq) (rEqD K) := e ▸ op_eqD hu
theorem op_neU {X : Cx} {K : PySem.W.Frag} (e : X.K = K) (hu : X.A.units + 64 < cLine) : OpR X (compareOp .NotEq) (rNeD K) := e ▸ op_neD hu
end Mine
namespace Mine
open PySem PySem.Spec PyProof.Rows L2
theorem dst_of {C : Bc} {t : TS} {s s' : DSt} (e : s = s') (h : DS C t s') : DS C t s := e ▸ h
end Mine

namespace L2
open PySem PySem.Spec PyProof.Rows
theorem mine_evalArgs_kw {M : Model} {A : Around} {E : Value → Shared → Prop} {s : Shared} {f : Value} {x : Sem Value} {rest : List (Bool × Sem Value)} {keywords : List (Option Str × Sem Value)} {Q : Args → Shared → Prop}
    (hall : keywords.all (·.1.isSome) = true)
    (h : wpAny M A (spliced ((false, x) :: rest)) (fun vs s₁ => wpAny M A (evalAll (keywords.map (·.2))) (fun kvs s₂ => Q ⟨vs, (keywords.filterMap (·.1)).zip kvs⟩ s₂) E s₁) E s) :
    wpAny M A (evalArgs f true ((false, x) :: rest) keywords) Q E s := by
  unfold evalArgs
  show wpAny M A (spliced ((false, x) :: rest) >>= _) Q E s
  refine wpAny_bind (wpAny_mono h (fun vs s' h' => ?_) fun _ _ x => x)
  refine wpAny_holding ?_
  rw [if_pos hall]
  refine wpAny_bind (wpAny_mono h' (fun kvs s₂ h₂ => ?_) fun _ _ x => x)
  exact wpAny_bind (wpAny_pure (wpAny_pure h₂))
theorem mine_callWith_type_kw {M : Model} {A : Around} {E : Value → Shared → Prop} {s : Shared} {env : Env} {pos : Pos} {T : String} {e : Expr} {rest : List Expr} {kws : List Keyword} {Q : Value → Shared → Prop}
    (h : wpAny M A (spliced (backTo pos (starEach (e :: rest) env))) (fun vs s₁ => wpAny M A (evalAll ((backToKw pos (keywordEach kws env)).map (·.2)))
      (fun kvs s₂ => wpAny M A (call (.type T) vs (((backToKw pos (keywordEach kws env)).filterMap (·.1)).zip kvs)) Q E s₂) E s₁) E s)
    (he : backTo pos (starEach (e :: rest) env) = (false, eval e env) :: backTo pos (starEach rest env) := by rfl)
    (hplain : (backTo pos (starEach (e :: rest) env)).any (·.1) = false := by rfl)
    (hall : (backToKw pos (keywordEach kws env)).all (·.1.isSome) = true := by rfl)
    (hkw : (backToKw pos (keywordEach kws env)).any (·.1.isNone) = false := by rfl) :
    wpAny M A (callWith pos (.type T) [] (backTo pos (starEach (e :: rest) env)) (backToKw pos (keywordEach kws env))) Q E s := by
  unfold callWith
  rw [he] at h ⊢
  refine wpAny_bind (wpAny_holding (mine_evalArgs_kw hall (wpAny_mono h (fun vs s₁ h₁ => wpAny_mono h₁ (fun kvs s₂ h₂ => wpAny_bind (wpAny_standAt ?_)) fun _ _ x => x) fun _ _ x => x)))
  rw [← he]
  simp only [hplain, hkw, Bool.or_false]
  refine wpAny_bind (wpAny_pure ?_)
  exact wpAny_bind (wpAny_mono h₂ (fun r s₂ hr => wpAny_bind (wpAny_holding (wpAny_point (wpAny_pure hr)))) fun _ _ x => x)
end L2
namespace Mine
open PySem PySem.Spec PyProof.Rows L2
/-! ### enumerate(t, start=k), t a tuple -/
def IteTk (K : PySem.W.Frag) (k : Int) (a : Addr) : It :=
  ⟨fun i H => ∃ (xs : List V) (x : V), SqT K H a xs ∧ xs[i]? = some x, fun i H v H' => ∃ T x, v = .ref T ∧ H T = none ∧ H' = upd H T (.tup [.int (k + (i : Nat)), x]) ∧ ∀ xs, SqT K H a xs → xs[i]? = some x, fun i H => ∃ xs : List V, SqT K H a xs ∧ xs.length ≤ i⟩
theorem turn_enumTk {P : Program} {w : World} {K : PySem.W.Frag} {elts : List Expr} {kk : Nat} {tpos : Pos} (k : Int) (a e it : Addr) (ha : a ≠ it) (hae : e ≠ a) :
    Turn P w K (.Tuple elts kk tpos) (IteTk K k a) [e, it] e (fun i h => (∃ old, IsEnum h e it (k + ((i : Nat) : Int)) old) ∧ h.IsTupleIter it a i ∧ e ≠ it) where
  mem := by simp
  obj := fun i h st b hb => by
    obtain ⟨⟨old, he⟩, ⟨o, ho, hc, hd⟩, _⟩ := st
    have e' : b = e ∨ b = it := by simpa using hb
    rcases e' with z | z
    · rw [z]; exact ⟨_, he, fun v q => nomatch q⟩
    · rw [z]; exact ⟨o, ho, fun v q => by rw [hd] at q; cases q⟩
  keep := fun i h h' st k => let ⟨⟨old, he⟩, hi, hne⟩ := st; ⟨⟨old, k e (by simp) _ he⟩, hi.at fun o q => k it (by simp) o q, hne⟩
  item := by
    intro X hP hw hK hc i pins s σ H E I hf st hg
    subst hP hw hK
    obtain ⟨⟨old, he⟩, hit, hne⟩ := st
    obtain ⟨xs, x, hq, hx⟩ := hg
    obtain ⟨its, rv, p, hz⟩ := I.tuple hq
    obtain ⟨u, hu, ru⟩ := rv.get hx
    have hel : e < s.heap.objs.size := Heap.lt_size he
    have hil : it < s.heap.objs.size := by obtain ⟨_, q, _⟩ := hit; exact Heap.lt_size q
    have pt : s.heap.IsTuple a its.toArray := p
    have hlt : i < its.toArray.size := by
      have := List.getElem?_eq_some_iff.mp hu
      obtain ⟨h, _⟩ := this
      simpa using h
    refine wpAny_pyNext_enum_itemC (i := i) (c := k + (i : Int)) (Draws.tuple (A := X.A.in1) (I.ok.hd hc) it a ha its.toArray) he ⟨hit, pt⟩ hlt hne (by simp [hne, hae]) fun x' h' tk hP ho hs' hT hsz hk => ?_
    have ex : x' = u := by
      have z : its.toArray[i]? = some u := by simpa using hu
      rw [hP] at z; exact Option.some.inj z
    subst ex
    refine ⟨_, rfl, wpAny_letOwnedTupleGo_enum (s := { s with heap := h', toks := tk + 1 }) ho fun h'' he' sb => ?_⟩
    have hT2 : h''.get? s.heap.objs.size = some { cls := .type "tuple", data := .seq #[.int (k + (i : Int)) tk, x'] } := (sb.2 _ (Nat.ne_of_gt hel)).trans hT
    have new : ObjOk X.prog X.w (upd H s.heap.objs.size (.tup [.int (k + (i : Nat)), x])) h'' s.heap.objs.size (.tup [.int (k + (i : Nat)), x]) :=
      ⟨by show 2 ≤ sizeLine; decide, [.int (k + (i : Int)) tk, x'], .cons ⟨_, rfl⟩ (.cons ru .nil), ⟨_, hT2, rfl, _, rfl⟩⟩
    have I1 : Inv X pins σ (upd H s.heap.objs.size (.tup [.int (k + (i : Nat)), x])) { s with heap := h'', toks := tk + 1 } :=
      I.turnedNew (ch := [e, it]) (fun b ob hb q => (sb.2 b (fun z => hb (by simp [z]))).trans (hk b ob (fun z => hb (by simp [z])) (fun z => hb (by simp [z])) q)) hf (Nat.le_refl _) new
    refine ⟨.ref s.heap.objs.size, _, I1, rfl, ⟨_, x, rfl, I.hok.fresh (Nat.le_refl _), rfl, fun ys hy => by rw [I.tuple_inj hy hq]; exact hx⟩, ⟨⟨x', ?_⟩, hs'.1.at fun o q => (sb.2 it (Ne.symm hne)).trans q, hne⟩, fun b hb => ?_⟩
    · have e1 : k + ((i + 1 : Nat) : Int) = k + (i : Int) + 1 := by omega
      rw [e1]; exact he'
    · have hb' : b < s.heap.objs.size := by
        have e' : b = e ∨ b = it := by simpa using hb
        rcases e' with z | z
        · rw [z]; exact hel
        · rw [z]; exact hil
      rw [upd_ne (Nat.ne_of_lt hb')]
      exact (hf b hb).1
  done := by
    intro X hP hw hK hc i pins s σ H E I hf st hg
    subst hP hw hK
    obtain ⟨⟨old, he⟩, hit, hne⟩ := st
    obtain ⟨xs, hq, hx⟩ := hg
    obtain ⟨its, rv, p, hz⟩ := I.tuple hq
    obtain ⟨f0, f1, f2, f3, f4, f5⟩ := hf it (by simp)
    have hl := rv.length
    have pt : s.heap.IsTuple a its.toArray := p
    have hT : s.TypeIs (.ref e) "enumerate" := ⟨_, he, rfl⟩
    unfold pyNext
    refine wpAny_bind (wpAny_attempt (wpAny_callSpecial?_slot (name := Str.ofString "__next__") hT F.slot_enumerate_next
      (wpAny_call_entry F.slot_enumerate_next hT F.entry_enumerate_next ?_ (F.args_enumerate_next_1 _))))
    show wpAny _ _ (field (.ref e) 2 >>= _) _ _ _
    refine wpAny_bind (wpAny_field he rfl (x := .ref it) rfl ?_)
    refine wpAny_bind (wpAny_nextOf_tuple_end (I.ok.hd hc) hit pt (by simp; omega) fun h' x he' hx' => ?_)
    obtain ⟨o, ho, hc⟩ := hx'
    refine wpAny_bind (wpAny_isInstance (T := "StopIteration") (b := true) ⟨o, ho, hc⟩ isSubtype_stop ?_)
    exact wpAny_pure ⟨rfl, I.turned (t' := s.toks) (fun b o hb q => he' b o hb q) f0 f1 f3 f4 f5⟩
  self := fun A i s Q E st h => let ⟨⟨_, he⟩, _⟩ := st; wpAny_pyIter_enum he h
def iEnumTk (K : PySem.W.Frag) (k : Int) (ta : TA) : TI := fun σ H R => ta σ H fun vs H1 => ∃ a xs, vs = [.ref a] ∧ SqT K H1 a xs ∧ R (IteTk K k a) H1
theorem pi_enumTk {X : Cx} {e : Expr} {ta : TA} {p pos tpos kp kp2 : Pos} {elts : List Expr} {kk kj : Nat} {k : Nat} (hk : k < 1000) (hg : Gl X "enumerate") (hm : X.mg "enumerate" = none) (ha : PA X [e] ta) (hs : starEach [e] X.env = [(false, eval e X.env)] := by rfl)
    (hpl : (backTo pos (starEach [e] X.env)).any (·.1) = false := by rfl) :
    PI X (.Tuple elts kk tpos) (.Call (.Name "enumerate" p) [e] [⟨some "start", .Constant (.int (k : Int)) kj kp, kp2⟩] pos) (iEnumTk X.K k ta) := by
  refine ⟨fun pins s σ H R I h => ?_⟩
  refine wpAny_Call_Name_kw (ld_blt I hg hm boot_enumerate (mine_callWith_type_kw (thn (ha.run pos pins s σ H _ I h) fun us s1 ⟨vs, H1, I1, r1, q1⟩ => ?_) (by rw [hs]; rfl) hpl))
  refine thn ((pk_cons (nm := some "start") (kpos := kp2) (pe_int (X := X) (pos := kp) (j := kj) (i := (k : Int))) pk_nil).run pos pins s1 σ H1 (fun zs H2 => zs = [.int (k : Int)] ∧ H2 = H1) I1 ⟨rfl, rfl⟩) fun kvs s2 ⟨zs, H2, I2, r2, ez, eh⟩ => ?_
  subst ez eh
  obtain ⟨a, xs, ex, hq, q⟩ := q1
  subst ex
  cases r2 with
  | cons rk rr2 =>
  cases rr2
  obtain ⟨tk, rfl⟩ := rk
  cases r1 with
  | cons r rr =>
    cases rr
    cases r
    have fp2 : ∀ b ∈ [s2.heap.objs.size + 1, s2.heap.objs.size], FpOk X pins H2 b := fun b hb => by
      have e' : b = s2.heap.objs.size + 1 ∨ b = s2.heap.objs.size := by simpa using hb
      have hle : s2.heap.objs.size ≤ b := by
        rcases e' with z | z
        · rw [z]; exact Nat.le_add_right _ _
        · rw [z]; exact Nat.le_refl _
      exact I2.fpOk hle (I2.hok.fresh hle)
    obtain ⟨its, rv, p', hz⟩ := I2.tuple hq
    have pt : s2.heap.IsTuple a its.toArray := p'
    have hlt : a < s2.heap.objs.size := by
      obtain ⟨o, ho, _⟩ := id pt
      exact Heap.lt_size ho
    show wpAny _ _ (call (.type "enumerate") [.ref a] [(Str.ofString "start", .int (k : Int) tk)]) _ _ _
    refine enum_begins_start (begins_tuple a its.toArray) pt (by omega) (by omega) fun h' he hit hsz hk => wpAny_pyIter_enum he ?_
    have I3 : Inv X pins σ H2 { s2 with heap := h' } := I2.kept (t' := s2.toks) hk
    exact ⟨s2.heap.objs.size + 1, [s2.heap.objs.size + 1, s2.heap.objs.size], _, _, H2, rfl, I3, turn_enumTk (k : Int) a (s2.heap.objs.size + 1) s2.heap.objs.size (Nat.ne_of_lt hlt) (Nat.ne_of_gt (Nat.lt_succ_of_lt hlt)),
      ⟨⟨.none, by simpa using he⟩, ⟨_, hit, rfl, rfl⟩, Nat.succ_ne_self _⟩, fp2, q⟩
end Mine
namespace Mine
open PySem PySem.Spec PyProof.Rows L2
def eEnumK (k : Nat) (a : DAX) : DAX := fun env Q E => a env (fun ds => match ds with
  | [.tup xs] => Q (xs.mapIdx fun i x => .tup [.int ((k : Int) + (i : Nat)), x])
  | _ => False) E
theorem walk_enumTk {K : PySem.W.Frag} {k : Int} {a : Addr} {xs : List V} : Walk (IteTk K k a) xs.length (fun H => SqT K H a xs) (YPair (fun i => some (.int (k + (i : Nat)))) (fun i => xs[i]?)) := by
  refine ⟨fun i _ hi q => ⟨xs, xs[i], q, by simp [hi]⟩, fun _ q => ⟨xs, q, Nat.le_refl _⟩, fun i H v H' _ q y => ?_⟩
  obtain ⟨T, x, h1, h2, h3, h4⟩ := y
  exact ⟨T, .int (k + (i : Nat)), x, h1, h2, h3, rfl, h4 xs q⟩
section
variable {C : Bc} {R : RR} {S : SS} {tl : TE} {el : DX}
theorem walk_pairk {X : Addr → Prop} {H1 : Hp} {J : It} {n : Nat} {k : Int} {G : Hp → Prop} {xs : List V} {ds : List Dt} (hal : ∀ {Y : Addr → Prop} {H : Hp}, S C X H1 Y H → ∀ a, Y a → ∃ o, H a = some o) (hn : ds.length = n)
    (w : Walk J n G (YPair (fun i => some (.int (k + (i : Nat)))) (fun i => xs[i]?))) (hs : ∀ i H, n ≤ i → G H → J.stop i H) (kk : ∀ Y H, S C X H1 Y H → G H ∧ DenAll C.K (vis H Y) xs ds) :
    WalkD S C X H1 J (ds.mapIdx fun i x => .tup [.int (k + (i : Nat)), x]) := by
  intro Y i H s
  obtain ⟨g, a⟩ := kk Y H s
  rw [List.length_mapIdx]
  refine ⟨fun hi => ⟨w.goes i H (hn ▸ hi) g, fun x H' hy => ?_⟩, fun hi => hs i H (by omega) g⟩
  obtain ⟨T, v, y, rfl, hT, rfl, ev, ey⟩ := w.yields i H x H' (hn ▸ hi) g hy
  dsimp only at ev ey
  cases ev
  obtain ⟨d, e, den⟩ := a.getV ey
  have nT : ¬ Y T := fun y => by
    obtain ⟨o, q⟩ := hal s T y
    rw [hT] at q; cases q
  refine ⟨same_upd hT, _, by rw [List.getElem?_mapIdx, e]; rfl, .tup (vis_mk nT upd_same) (.cons (.int _) (.cons (den.mono fun b o e => ?_) .nil))⟩
  obtain ⟨n1, e1⟩ := vis_of e
  exact vis_mk n1 (same_upd hT _ _ e1)
theorem di_enumK [Src R S] {k : Nat} (h : DEg R C tl el) : DIg S C (iEnumTk C.K (k : Int) (tCons tl tNil)) (eEnumK k (eCons el eNil)) := by
  intro X env σ H Rr Qd Qx rp he q x
  refine h X env σ H _ _ Qx rp he (fun d v H1 f1 r1 he1 => ?_) x
  show ∃ a xs, [v] = [.ref a] ∧ _
  have he1 : (match [d] with
    | [.tup xs] => Qd (xs.mapIdx fun i x => .tup [.int ((k : Int) + (i : Nat)), x])
    | _ => False) := he1
  split at he1
  · rename_i e
    cases e
    obtain ⟨p, vs, rfl, h1, kk⟩ := Src.tup (S := S) r1
    refine ⟨p, vs, rfl, .inl (.inl h1), q _ _ H1 f1 ?_ he1⟩
    intro Y i H2 s
    exact walk_pairk (G := fun H => SqT C.K H p vs) (fun s => Src.al (R := R) s) (kk Y H2 s).2.length.symm walk_enumTk (fun i H hi g => ⟨vs, g, hi⟩) (fun Y H s => ⟨.inl (.inl (kk Y H s).1), (kk Y H s).2⟩) Y i H2 s
  · exact he1.elim
end
/-! ### all, any -/
def rAllU (K : PySem.W.Frag) : List V → Hp → VK → Prop := rAll K
theorem call_allU {X : Cx} {K : PySem.W.Frag} (hc : X.calm = true) (e : X.K = K) : CallR X (.builtin "all") (rAllU K) := e ▸ cr_all hc
def rAnyU (K : PySem.W.Frag) : List V → Hp → VK → Prop := rAny K
theorem call_anyU {X : Cx} {K : PySem.W.Frag} (hc : X.calm = true) (e : X.K = K) : CallR X (.builtin "any") (rAnyU K) := e ▸ cr_any hc
def dAll : DL := fun ds Q => match ds with
  | [.lst xs] => ∃ bs : List Bool, xs = bs.map .bl ∧ Q (.bl (bs.all id))
  | _ => False
def dAny : DL := fun ds Q => match ds with
  | [.lst xs] => ∃ bs : List Bool, xs = bs.map .bl ∧ Q (.bl (bs.any id))
  | _ => False
theorem DenAll.bls_of {K : PySem.W.Frag} {H : Hp} : ∀ {vs : List V} {bs : List Bool}, DenAll K H vs (bs.map .bl) → vs = bs.map V.bl
  | _, [], .nil => rfl
  | _, n :: ns, .cons a b => by rw [List.map_cons, a.flat rfl, DenAll.bls_of b]
section
variable {C : Bc}
theorem cg_all : CallG Cln C (rAllU C.K) dAll := by
  intro X env σ H vs ds Q Qd rp ra he q
  unfold dAll at he
  split at he
  · obtain ⟨v, rfl, r1⟩ := ra.one
    obtain ⟨bs, rfl, he⟩ := he
    obtain ⟨p, vs, rfl, h1, a1⟩ := r1.lst
    rw [a1.bls_of] at h1
    exact ⟨p, bs, rfl, .inl (.inl h1), q _ _ H (.refl H) (.bl _) he⟩
  · exact he.elim
theorem cg_any : CallG Cln C (rAnyU C.K) dAny := by
  intro X env σ H vs ds Q Qd rp ra he q
  unfold dAny at he
  split at he
  · obtain ⟨v, rfl, r1⟩ := ra.one
    obtain ⟨bs, rfl, he⟩ := he
    obtain ⟨p, vs, rfl, h1, a1⟩ := r1.lst
    rw [a1.bls_of] at h1
    exact ⟨p, bs, rfl, .inl (.inl h1), q _ _ H (.refl H) (.bl _) he⟩
  · exact he.elim
end
/-! ### a written dict of one pair of whole numbers -/
def eDk1 (k v : Int) : DX := fun _ Q _ => Q (.dk [.inl k] [.int v])
theorem de_dk1 {C : Bc} (k v : Int) : DE C (tDisp [(tC (.int k), tC (.int v))]) (eDk1 k v) := by
  intro X env σ H Q Qd Qx rp he q x p hp
  refine ⟨upd_same, [(.inl k, .int v)], rfl, by show 1 ≤ 15; decide, ?_⟩
  have e : upd (upd H p (.dK [])) p (.dK (mergeK [] [(Sum.inl k, V.int v)])) = upd H p (.dK [(Sum.inl k, V.int v)]) := by
    funext a
    by_cases c : a = p
    · subst c; rw [upd_same, upd_same]; rfl
    · rw [upd_ne c, upd_ne c, upd_ne c]
  rw [e]
  refine q _ _ _ (.upd hp) ?_ he
  exact .dk (ks := [.inl k]) (vs := [.int v]) (vis_mk (rp.free hp) upd_same) rfl (.cons (.int v) .nil)
/-! ### sorted(set(rows)), sorted(rows): words of one length -/
def rSortedR (K : PySem.W.Frag) : List V → Hp → VK → Prop := fun vs H Q => ∃ (a : Addr) (L : List (Addr × List Int)) (d : Nat) (B : Int), vs = [V.ref a] ∧ SqL K H a (L.map fun q => V.ref q.1) ∧ (∀ p ∈ L, SqT K H p.1 (p.2.map V.int)) ∧ 1 ≤ d ∧
  (∀ p ∈ L, p.2.length = d ∧ TS.Bd B p.2) ∧ L.length < 64 ∧
  ∀ (L' : List (Addr × List Int)) (p : Addr), (∀ q, q ∈ L' → q ∈ L) → (L'.map fun q => V.ref q.1).Perm (L.map fun q => V.ref q.1) → L'.Pairwise (fun q r => TS.code B q.2 ≤ TS.code B r.2) → H p = none → Q (.ref p) (upd H p (.lst (L'.map fun q => V.ref q.1)))
theorem cr_sortedR {X : Cx} : CallR X (.builtin "sorted") (rSortedR X.K) := by
  intro pins s σ H vs us Q I r h
  obtain ⟨a, L, d, B, rfl, ha, hk, hd, hB, few, q⟩ := h
  obtain ⟨its, rv, pl, hz⟩ := I.list ha
  have ei := refs_of_vals rv
  rw [Vals.ref1 r]
  have tk : ∀ q ∈ L, TS.TupInts s.heap (.ref q.1) q.2 := fun q hq => tupInts_of (P := X.prog) (w := X.w) (I.isT (hk q hq))
  have x : TS.TupsOk s.heap d B its := fun v hv => by
    rw [ei] at hv
    obtain ⟨q, hq, e⟩ := List.mem_map.mp hv
    rw [← e]
    exact ⟨q.2, tk q hq, (hB q hq).1, (hB q hq).2⟩
  refine TS.sorted_tups (d := d) (B := B) (by simpa using pl.isList) (by rw [ei, List.length_map]; exact few) hd x fun out a1 a2 => ?_
  have ord : ∀ vs : List Value, (∀ v ∈ vs, ∃ q ∈ L, v = Value.ref q.1) → ∃ L1 : List (Addr × List Int), vs = L1.map (fun q => Value.ref q.1) ∧ ∀ q ∈ L1, q ∈ L := by
    intro vs
    induction vs with
    | nil => intro _; exact ⟨[], rfl, fun q hq => (by cases hq)⟩
    | cons v vs ih =>
      intro hv
      obtain ⟨q, hq, e⟩ := hv v List.mem_cons_self
      obtain ⟨L1, e1, hs⟩ := ih fun u hu => hv u (List.mem_cons_of_mem _ hu)
      refine ⟨q :: L1, by rw [List.map_cons, e, e1], fun r hr => ?_⟩
      rcases List.mem_cons.mp hr with z | z
      · rw [z]; exact hq
      · exact hs r z
  obtain ⟨L', e', hs'⟩ := ord out.toList fun v hv => by
    have := a1.mem_iff.mp hv
    rw [ei] at this
    obtain ⟨q, hq, e⟩ := List.mem_map.mp this
    exact ⟨q, hq, e.symm⟩
  have pw : L'.Pairwise (fun q r => TS.code B q.2 ≤ TS.code B r.2) := by
    rw [e'] at a2
    refine List.Pairwise.imp_of_mem (fun {q r} hq hr hle => ?_) (List.pairwise_map.mp a2)
    have f1 : TS.intsOf s.heap (.ref q.1) = q.2 := (tk q (hs' q hq)).ints
    have f2 : TS.intsOf s.heap (.ref r.1) = r.2 := (tk r (hs' r hr)).ints
    rw [← f1, ← f2]
    exact hle
  have pm : (L'.map fun q => V.ref q.1).Perm (L.map fun q => V.ref q.1) := by
    have : (L'.map fun q => Value.ref q.1).Perm (L.map fun q => Value.ref q.1) := by rw [← e', ← ei]; exact a1
    have := this.map (fun v : Value => match v with | .ref a => V.ref a | _ => V.non)
    rw [List.map_map, List.map_map] at this
    exact this
  obtain ⟨ep, he'⟩ := PyProof.Rows.sortedAll_at s.heap its out
  have hlen : (L'.map fun q => V.ref q.1).length ≤ sizeLine := by rw [pm.length_eq, List.length_map, sizeLine_eq]; omega
  exact ⟨.ref _, upd H (s.heap.objs.size + 1) (.lst (L'.map fun q => V.ref q.1)), I.laid (t' := s.toks) (fun _ _ => PyProof.Rows.sortedAll_old) (Nat.le_succ _) ⟨hlen, out.toList, ep, by rw [e']; exact vals_of_refs L', he'⟩, rfl, q L' _ hs' pm pw (I.hok.fresh (Nat.le_succ _))⟩
end Mine
namespace Mine
open PySem PySem.Spec PyProof.Rows L2
theorem map_int_inj : ∀ {x y : List Int}, x.map V.int = y.map V.int → x = y
  | [], [], _ => rfl
  | [], _ :: _, h => by cases h
  | _ :: _, [], h => by cases h
  | a :: x, b :: y, h => by
    rw [List.map_cons, List.map_cons] at h
    injection h with h1 h2
    injection h1 with h1
    rw [h1, map_int_inj h2]
theorem DenAll.rows {K : PySem.W.Frag} {H : Hp} : ∀ {vs : List V} {ws : List (List Int)}, DenAll K H vs (ws.map fun w => Dt.tup (w.map .int)) → ∃ L : List (Addr × List Int), vs = L.map (fun q => V.ref q.1) ∧ L.map (·.2) = ws ∧ ∀ q ∈ L, H q.1 = some (.tup (q.2.map V.int))
  | _, [], .nil => ⟨[], rfl, rfl, fun _ h => by cases h⟩
  | _, w :: ws, .cons a b => by
    obtain ⟨L, e1, e2, h⟩ := DenAll.rows b
    obtain ⟨p, vs, rfl, hp, av⟩ := a.tupI
    rw [av.ints_of] at hp
    exact ⟨(p, w) :: L, by rw [List.map_cons, e1], by rw [List.map_cons, e2], fun q hq => by
      rcases List.mem_cons.mp hq with e | e
      · rw [e]; exact hp
      · exact h q e⟩
theorem DenAll.of_rows {K : PySem.W.Frag} {H : Hp} : ∀ {L : List (Addr × List Int)}, (∀ q ∈ L, H q.1 = some (.tup (q.2.map V.int))) → DenAll K H (L.map fun q => V.ref q.1) ((L.map (·.2)).map fun w => Dt.tup (w.map .int))
  | [], _ => .nil
  | q :: L, h => .cons (.tup (h q List.mem_cons_self) (DenAll.ints _)) (DenAll.of_rows fun r hr => h r (List.mem_cons_of_mem _ hr))
def intV : V → Int
  | .int i => i
  | _ => 0
noncomputable def rowAt (H : Hp) : V → List Int
  | .ref a => match H a with | some (.tup vs) => vs.map intV | _ => []
  | _ => []
def eSortedSet (a : DX) : DX := fun env Q E => a env (fun d => match d with
  | .lst xs => ∃ (ws : List (List Int)) (d : Nat) (B : Int), xs = ws.map (fun w => Dt.tup (w.map .int)) ∧ ws.length < 64 ∧ Even d B ws ∧ ∀ ws' : List (List Int), (∀ x, x ∈ ws' ↔ x ∈ ws) → Rising B ws' → Q (.lst (ws'.map fun w => Dt.tup (w.map .int)))
  | _ => False) E
def dSortedR : DL := fun ds Q => match ds with
  | [.lst xs] => ∃ (ws : List (List Int)) (d : Nat) (B : Int), xs = ws.map (fun w => Dt.tup (w.map .int)) ∧ ws.length < 64 ∧ 1 ≤ d ∧ Even d B ws ∧ ∀ ws' : List (List Int), ws'.Perm ws → ws'.Pairwise (fun x y => TS.code B x ≤ TS.code B y) → Q (.lst (ws'.map fun w => Dt.tup (w.map .int)))
  | _ => False
section
variable {C : Bc} {X : Addr → Prop} {env : List Sl} {σ : L2.St} {H H1 : Hp}
/-- a new list of tuples that were there -/
theorem fsh_rows {p : Addr} {L L' : List (Addr × List Int)} (rp : Rep C X env σ H) (hp : H1 p = none) (f : Frm C.hd H H1) (hL : ∀ q ∈ L, vis H X q.1 = some (.tup (q.2.map V.int))) (hs : ∀ q ∈ L', q ∈ L) :
    Fsh C X H (upd H1 p (.lst (L'.map fun q => V.ref q.1))) (.ref p) (.lst ((L'.map (·.2)).map fun w => Dt.tup (w.map .int))) := by
  have rp1 := rp.step f
  exact (fsh_new rp1 hp (DenAll.of_rows fun q hq => rp.vs f _ _ (hL q (hs q hq)))).frm rp f
theorem Bor.rows {v : V} {ws : List (List Int)} {H0 : Hp} (h : Bor C X H0 H v (.lst (ws.map fun w => Dt.tup (w.map .int)))) : ∃ (p : Addr) (L : List (Addr × List Int)), v = .ref p ∧ H p = some (.lst (L.map fun q => V.ref q.1)) ∧ L.map (·.2) = ws ∧ ∀ q ∈ L, vis H X q.1 = some (.tup (q.2.map V.int)) := by
  obtain ⟨p, vs, rfl, h1, a⟩ := h.lst
  obtain ⟨L, rfl, e, hL⟩ := a.rows
  exact ⟨p, L, rfl, h1, e, hL⟩
theorem cg_sortedR : CallG Fsh C (rSortedR C.K) dSortedR := by
  intro X env σ H vs ds Q Qd rp ra he q
  unfold dSortedR at he
  split at he
  · obtain ⟨v, rfl, r1⟩ := ra.one
    obtain ⟨ws, d, B, rfl, few, hd, ev, he⟩ := he
    obtain ⟨p, L, rfl, h1, e, hL⟩ := r1.rows
    have hlen : L.length = ws.length := by rw [← e, List.length_map]
    refine ⟨p, L, d, B, rfl, .inl (.inl h1), fun q hq => .inl (.inl (vis_sub _ _ (hL q hq))), hd, fun q hq => ev q.2 (e ▸ List.mem_map.mpr ⟨q, hq, rfl⟩), by omega, fun L' p' hs pm pw hp => ?_⟩
    have dec : ∀ q ∈ L, rowAt (vis H X) (V.ref q.1) = q.2 := fun q hq => by
      show (match vis H X q.1 with | some (.tup vs) => vs.map intV | _ => []) = q.2
      rw [hL q hq]
      show (q.2.map V.int).map intV = q.2
      rw [List.map_map]
      exact List.map_id'' (fun _ => rfl) q.2
    have pw2 : (L'.map (·.2)).Perm ws := by
      have := pm.map (rowAt (vis H X))
      rw [List.map_map, List.map_map] at this
      rw [← e]
      have e1 : L'.map (rowAt (vis H X) ∘ fun q => V.ref q.1) = L'.map (·.2) := List.map_congr_left fun q hq => dec q (hs q hq)
      have e2 : L.map (rowAt (vis H X) ∘ fun q => V.ref q.1) = L.map (·.2) := List.map_congr_left fun q hq => dec q hq
      rw [e1, e2] at this
      exact this
    exact q _ _ _ (.upd hp) (fsh_rows rp hp (.refl H) hL hs) (he _ pw2 (List.pairwise_map.mpr pw))
  · exact he.elim
theorem df_sortedSet {P : Program} {w : World} {t : TE} {e : DX} (h : DB C t e) : DF C (tCB (rSortedA C.K P w) (tCons (tCB (rSetOfT C.K P w) (tCons t tNil)) tNil)) (eSortedSet e) := by
  intro X env σ H Q Qd Qx rp he q x
  refine h X env σ H _ _ Qx rp he (fun d v H1 f1 r1 he1 => ?_) x
  split at he1
  · obtain ⟨ws, d, B, rfl, few, ev, he1⟩ := he1
    obtain ⟨l, L, rfl, h1, e, hL⟩ := r1.rows
    have rp1 := rp.step f1
    have hlen : L.length = ws.length := by rw [← e, List.length_map]
    show rSetOfT C.K P w [V.ref l] H1 (fun x H1 => rSortedA C.K P w [x] H1 Q)
    refine ⟨l, L, rfl, .inl (.inl h1), fun k hk => .inl (.inl (vis_sub _ _ (hL k hk))), by omega, fun a L2 ha hsub hall => ?_⟩
    have sa := same_upd (o := SetTO P w a L2) ha
    have hev : ∀ p ∈ L2, p.2.length = d ∧ TS.Bd B p.2 := fun p hp => ev p.2 (e ▸ List.mem_map.mpr ⟨p, hsub p hp, rfl⟩)
    refine ⟨a, L2, d, B, rfl, upd_same, fun k hk => .inl (.inl (sa _ _ (vis_sub _ _ (hL k (hsub k hk))))), hev, fun L' p pm nd few pw hp => ?_⟩
    have f2 : Frm C.hd H1 (upd H1 a (SetTO P w a L2)) := .upd ha
    have fr := fsh_rows (L := L) (L' := L') rp1 hp f2 hL fun q hq => hsub q (pm.mem_iff.mp hq)
    refine q _ _ _ (f1.trans (f2.trans (.upd hp))) (fr.frm rp f1) (he1 _ (fun x => ?_) ?_)
    · constructor
      · intro hx
        obtain ⟨k, hk, e1⟩ := List.mem_map.mp hx
        rw [← e]
        exact List.mem_map.mpr ⟨k, hsub k (pm.mem_iff.mp hk), e1⟩
      · intro hx
        rw [← e] at hx
        obtain ⟨k, hk, e1⟩ := List.mem_map.mp hx
        obtain ⟨k2, hk2, e2⟩ := List.mem_map.mp (hall k hk)
        exact List.mem_map.mpr ⟨k2, pm.mem_iff.mpr hk2, e2.trans e1⟩
    · have pw2 : (L'.map (·.2)).Pairwise fun x y => TS.code B x ≤ TS.code B y := List.pairwise_map.mpr pw
      have mem : ∀ x ∈ L'.map (·.2), x.length = d ∧ TS.Bd B x := fun x hx => by
        obtain ⟨k, hk, e⟩ := List.mem_map.mp hx
        rw [← e]; exact hev k (pm.mem_iff.mp hk)
      refine List.Pairwise.imp_of_mem (fun {x y} hx hy h => ?_) (pw2.and nd)
      obtain ⟨le, ne⟩ := h
      rcases Int.lt_or_eq_of_le le with c | c
      · exact c
      · exact absurd (code_inj ((mem x hx).1.trans (mem y hy).1.symm) (mem x hx).2 (mem y hy).2 c) ne
  · exact he1.elim
end
end Mine
namespace Mine
open PySem PySem.Spec PyProof.Rows L2
/-! ### sorted(xs): whole numbers (any number of them), words of one length -/
def rSortedU (K : PySem.W.Frag) : List V → Hp → VK → Prop := fun xs H Q => rSortedI K xs H Q ∨ rSortedR K xs H Q
theorem call_sortedU {X : Cx} {K : PySem.W.Frag} (e : X.K = K) : CallR X (.builtin "sorted") (rSortedU K) := e ▸ cr_sortedI.or cr_sortedR
def dSortedI : DL := fun ds Q => match ds with
  | [.lst xs] => ∃ ns : List Int, xs = ns.map .int ∧ ∀ ns' : List Int, ns'.Perm ns → ns'.Pairwise (· ≤ ·) → Q (.lst (ns'.map .int))
  | _ => False
def dSortedU : DL := fun ds Q => dSortedI ds Q ∨ dSortedR ds Q
section
variable {C : Bc}
theorem cg_sortedI : CallG Fsh C (rSortedI C.K) dSortedI := by
  intro X env σ H vs ds Q Qd rp ra he q
  unfold dSortedI at he
  split at he
  · obtain ⟨v, rfl, r1⟩ := ra.one
    obtain ⟨ns, rfl, he⟩ := he
    obtain ⟨p, vs, rfl, h1, a1⟩ := r1.lst
    rw [a1.ints_of] at h1
    exact ⟨p, ns, rfl, .inl (.inl h1), fun ns' l h2 h3 hl => q _ _ _ (.upd hl) (fsh_new rp hl (DenAll.ints ns')) (he ns' h2 h3)⟩
  · exact he.elim
theorem cg_sortedU : CallG Fsh C (rSortedU C.K) dSortedU := by
  intro X env σ H vs ds Q Qd rp ra he q
  rcases he with he | he
  · exact .inl (cg_sortedI X env σ H vs ds Q Qd rp ra he q)
  · exact .inr (cg_sortedR X env σ H vs ds Q Qd rp ra he q)
end
end Mine
namespace Mine
open PySem PySem.Spec PyProof.Rows L2
theorem funD_inj {K : PySem.W.Frag} {name qual : Str} {params : Arguments} {body : List Stmt} {scope : Scope} {dvs dvs' : List V} {kws kws' : List (Str × V)} {f : Addr} {fd fd' : FuncData}
    (D : FunD K name qual params body scope dvs kws f fd) (D' : FunD K name qual params body scope dvs' kws' f fd') : fd = fd' := by
  obtain ⟨_, _, _, _, _, _, _, _, _, _, rfl, l1, _⟩ := D.ex
  obtain ⟨_, _, _, _, _, _, _, _, _, _, rfl, l0, _⟩ := D'.ex
  have z := l1.symm.trans l0
  injection z with z
  injection z with z1 z2 z3
  injection z3
end Mine
namespace Mine
open PySem PySem.Spec PyProof.Rows L2
/-- a written power -/
theorem de_powC {C : Bc} {a b c : Int} (h : CPow a b) (e : a ^ b.toNat = c) : DE C (tOp (rI CPow fun i j => .int (i ^ j.toNat)) (tC (.int a)) (tC (.int b))) (eC (.int c)) := by
  intro X env σ H Q Qd Qx rp he q x
  subst e
  exact ⟨_, _, rfl, rfl, h, q _ _ H (.refl H) (.int _) he⟩
theorem cpow_of {a b : Int} (h : decide (0 ≤ b) && decide (b ≤ 1000000) && decide (a.natAbs < 2 ^ 64) = true) : CPow a b := by
  simp only [Bool.and_eq_true, decide_eq_true_eq] at h
  exact ⟨h.1.1, h.1.2, h.2⟩
end Mine

namespace Mine
open PySem PySem.Spec PyProof.Rows L2
theorem mkD_W (np N : Nat) (s : DSt) {args} {Q} {E} : mkD np N s args Q E = (args.length = np ∧ s ⟨fun _ => Q .non, Q, fun _ => False, fun _ => False, fun _ x => E x⟩ (args ++ List.replicate (N - np) .no)) := rfl
theorem mkD0_W (np N : Nat) (s : DSt) {args} {Q} {E} : mkD0 np N s args Q E = (args.length = np ∧ s ⟨fun _ => Q .non, Q, fun _ => False, fun _ => False, fun _ _ => False⟩ (args ++ List.replicate (N - np) .no)) := rfl
theorem sSeq_W (a b : DSt) {d} {env} : sSeq a b d env = (a { d with nx := b d } env) := rfl
theorem sAsg_W (e : DX) (f : DGX) {d} {env} : sAsg e f d env = (e env (fun x => f x env d.nx) (d.xc env)) := rfl
theorem sRet_W (e : DX) {d} {env} : sRet e d env = (e env d.rt (d.xc env)) := rfl
theorem sRetN_W {d} {u1} : sRetN d u1 = (d.rt .non) := rfl
theorem sIf_W (c : DTX) (a b : DSt) {d} {env} : sIf c a b d env = (c env (fun k => if k = true then a d env else b d env) (d.xc env)) := rfl
theorem sNext_W {d} {env} : sNext d env = (d.nx env) := rfl
theorem sDrop_W (e : DX) {d} {env} : sDrop e d env = (e env (fun _ => d.nx env) (d.xc env)) := rfl
theorem sBreak_W {d} {env} : sBreak d env = (d.bk env) := rfl
theorem sCont_W {d} {env} : sCont d env = (d.ct env) := rfl
theorem sOwn_W (j : Nat) (e : DX) {d} {env} : sOwn j e d env = (e env (fun x => match x with
  | .lst xs => d.nx (env.set j (.own (.lst xs)))
  | _ => False) (d.xc env)) := rfl
theorem sPar_W (i j : Nat) (a : DAX) {d} {env} : sPar i j a d env = (a env (fun ds => match ds with
  | [x, y] => d.nx ((env.set i (.d x)).set j (.d y))
  | _ => False) (d.xc env)) := rfl
theorem sPar3_W (i j l : Nat) (a : DAX) {d} {env} : sPar3 i j l a d env = (a env (fun ds => match ds with
  | [x, y, z] => d.nx (((env.set i (.d x)).set j (.d y)).set l (.d z))
  | _ => False) (d.xc env)) := rfl
theorem sFrz_W (i : Nat) (s : DSt) {d} {env} : sFrz i s d env = (s d (frz env i)) := rfl
theorem sApp_W (i : Nat) (e : DX) {d} {env} : sApp i e d env = (match env[i]? with
  | some (.own (.lst xs)) => e env (fun y => xs.length < LINE ∧ d.nx (env.set i (.own (.lst (xs ++ [y]))))) (d.xc env)
  | _ => False) := rfl
theorem sExt_W (i : Nat) (e : DX) {d} {env} : sExt i e d env = (match env[i]? with
  | some (.own (.lst xs)) => e env (fun y => match y with
    | .lst ys => xs.length + ys.length ≤ LINE ∧ d.nx (env.set i (.own (.lst (xs ++ ys))))
    | _ => False) (d.xc env)
  | _ => False) := rfl
theorem sPop_W (i : Nat) {d} {env} : sPop i d env = (match env[i]? with
  | some (.own (.lst xs)) => xs ≠ [] ∧ d.nx (env.set i (.own (.lst xs.dropLast)))
  | _ => False) := rfl
theorem sPopTo_W (i j : Nat) {d} {env} : sPopTo i j d env = (match env[i]? with
  | some (.own (.lst xs)) => ∃ y, xs[xs.length - 1]? = some y ∧ d.nx ((env.set i (.own (.lst xs.dropLast))).set j (.d y))
  | _ => False) := rfl
theorem sPut_W (i : Nat) (ek e : DX) {d} {env} : sPut i ek e d env = (match env[i]? with
  | some (.own (.lst xs)) => e env (fun y => ek env (fun k => match k with
    | .int k => ∃ j, ixN xs.length k = some j ∧ d.nx (env.set i (.own (.lst (xs.set j y))))
    | _ => False) (d.xc env)) (d.xc env)
  | _ => False) := rfl
theorem sAugP_W (f : Int → Int → Int) (i : Nat) (ek e : DX) {d} {env} : sAugP f i ek e d env = (match env[i]? with
  | some (.own (.lst xs)) => ek env (fun k => match k with
    | .int k => ∃ j z, ixN xs.length k = some j ∧ xs[j]? = some (.int z) ∧ e env (fun y => match y with
      | .int y => d.nx (env.set i (.own (.lst (xs.set j (.int (f z y))))))
      | _ => False) (d.xc env)
    | _ => False) (d.xc env)
  | _ => False) := rfl
theorem sAug_W (f : Int → Int → Int) (i : Nat) (e : DX) {d} {env} : sAug f i e d env = (match env[i]? with
  | some (.d (.int x)) => e env (fun y => match y with
    | .int y => d.nx (env.set i (.d (.int (f x y))))
    | _ => False) (d.xc env)
  | _ => False) := rfl
theorem sFor_W (src : DAX) (f : DGX) (b : DSt) {d} {env} : sFor src f b d env = (src env (fun ds => dFor f b d ds env) (d.xc env)) := rfl
theorem sRaise_W (c : Str) {d} {env} : sRaise c d env = (d.xc env ⟨c, []⟩) := rfl
theorem sRaise1_W (c f : Str) (e : DX) {d} {env} : sRaise1 c f e d env = (e env (fun x => match x.flat with
  | some u => d.xc env ⟨c, [(f, u)]⟩
  | none => False) (d.xc env)) := rfl
theorem gD_W (j : Nat) {d} {env} {Q} : gD j d env Q = (Q (env.set j (.d d))) := rfl
theorem gD2_W (i j : Nat) {d} {env} {Q} : gD2 i j d env Q = (match d with
  | .tup [a, b] => Q ((env.set i (.d a)).set j (.d b))
  | _ => False) := rfl
theorem gD3_W (i j k : Nat) {d} {env} {Q} : gD3 i j k d env Q = (match d with
  | .tup [a, b, c] => Q (((env.set i (.d a)).set j (.d b)).set k (.d c))
  | _ => False) := rfl
theorem eVar_W (i : Nat) {env} {Q} {u2} : eVar i env Q u2 = (match env[i]? with
  | some (.d x) => Q x
  | _ => False) := rfl
theorem eVarB_W (i : Nat) {env} {Q} {u2} : eVarB i env Q u2 = (match env[i]? with
  | some (.d x) => Q x
  | some (.own (.lst xs)) => Q (.lst xs)
  | _ => False) := rfl
theorem eC_W (d : Dt) {u0} {Q} {u2} : eC d u0 Q u2 = (Q d) := rfl
theorem eOp_W (f : D2) (a b : DX) {env} {Q} {E} : eOp f a b env Q E = (a env (fun x => b env (fun y => f x y Q) E) E) := rfl
theorem eUn_W (f : D1) (a : DX) {env} {Q} {E} : eUn f a env Q E = (a env (fun x => f x Q) E) := rfl
theorem eCB_W (f : DL) (a : DAX) {env} {Q} {E} : eCB f a env Q E = (a env (fun ds => f ds Q) E) := rfl
theorem eCons_W (a : DX) (r : DAX) {env} {Q} {E} : eCons a r env Q E = (a env (fun d => r env (fun ds => Q (d :: ds)) E) E) := rfl
theorem eConsS_W (a : DX) (r : DSX) {env} {Q} {E} : eConsS a r env Q E = (a env (fun d => r env (fun ds => Q (.d d :: ds)) E) E) := rfl
theorem eConsH_W (i : Nat) (r : DSX) {env} {Q} {E} : eConsH i r env Q E = (match env[i]? with
  | some .hand => r env (fun ds => Q (.hand :: ds)) E
  | _ => False) := rfl
theorem eTup_W (r : DAX) {env} {Q} {E} : eTup r env Q E = (r env (fun ds => ds.length ≤ LINE ∧ Q (.tup ds)) E) := rfl
theorem eLst_W (r : DAX) {env} {Q} {E} : eLst r env Q E = (r env (fun ds => ds.length ≤ LINE ∧ Q (.lst ds)) E) := rfl
theorem eCall_W (F : DFn) (dd : List Sl) (a : DSX) {env} {Q} {E} : eCall F dd a env Q E = (a env (fun ss => F (ss ++ dd) Q E) E) := rfl
theorem eCall0_W (F : DFn) (dd : List Sl) (a : DSX) {env} {Q} {E} : eCall0 F dd a env Q E = (a env (fun ss => F (ss ++ dd) Q fun _ => False) E) := rfl
theorem eTest_W (e : DX) {env} {Q} {E} : eTest e env Q E = (e env (fun d => match d with
  | .bl b => Q b
  | _ => False) E) := rfl
theorem eNotT_W (t : DTX) {env} {Q} {E} : eNotT t env Q E = (t env (fun b => Q (!b)) E) := rfl
theorem eAndT_W (t u : DTX) {env} {Q} {E} : eAndT t u env Q E = (t env (fun b => if b = true then u env Q E else Q false) E) := rfl
theorem eOrT_W (t u : DTX) {env} {Q} {E} : eOrT t u env Q E = (t env (fun b => if b = true then Q true else u env Q E) E) := rfl
theorem eTru_W (e : DX) {env} {Q} {E} : eTru e env Q E = (e env (fun d => dTru d Q) E) := rfl
theorem eAndV_W (a b : DX) {env} {Q} {E} : eAndV a b env Q E = (a env (fun d => eBool d fun c => if c = true then b env Q E else Q (.bl false)) E) := rfl
theorem eOrV_W (a b : DX) {env} {Q} {E} : eOrV a b env Q E = (a env (fun d => eBool d fun c => if c = true then Q (.bl true) else b env Q E) E) := rfl
theorem eNotV_W (a : DX) {env} {Q} {E} : eNotV a env Q E = (a env (fun d => eBool d fun c => Q (.bl (!c))) E) := rfl
theorem eNotVT_W (a : DX) {env} {Q} {E} : eNotVT a env Q E = (a env (fun d => dTru d fun c => Q (.bl (!c))) E) := rfl
theorem eIf_W (t : DTX) (a b : DX) {env} {Q} {E} : eIf t a b env Q E = (t env (fun c => if c = true then a env Q E else b env Q E) E) := rfl
theorem eChain_W (f g : D2) (a b c : DX) {env} {Q} {E} : eChain f g a b c env Q E = (a env (fun x => b env (fun y => f x y fun d => eBool d fun k => if k = true then c env (fun z => g y z Q) E else Q (.bl false)) E) E) := rfl
theorem eLc_W (src : DAX) (f : DGX) (tt : DTX) (te : DX) (vs : List Nat) {env} {Q} {E} : eLc src f tt te vs env Q E = (src env (fun ds => lcGo f tt te (wipeS env vs) Q ds []) E) := rfl
theorem eLc2_W (src : DAX) (f : DGX) (tt : DTX) (src1 : DAX) (f1 : DGX) (tt1 : DTX) (te : DX) (vs1 vs : List Nat) {env} {Q} {E} : eLc2 src f tt src1 f1 tt1 te vs1 vs env Q E = (src env (fun ds => lcGo2 f tt src1 f1 tt1 te vs1 (wipeS env vs) Q ds []) E) := rfl
theorem eYes_W {u0} {Q} {u2} : eYes u0 Q u2 = (Q true) := rfl
theorem eSeq_W (a : DX) {env} {Q} {E} : eSeq a env Q E = (a env (fun d => match d with
  | .lst xs => Q xs
  | .tup xs => Q xs
  | _ => False) E) := rfl
theorem eRng1_W (a : DAX) {env} {Q} {E} : eRng1 a env Q E = (a env (fun ds => match ds with
  | [.int j] => (-(2 ^ 62) ≤ j ∧ j < 2 ^ 62) ∧ Q ((List.range j.toNat).map fun i => .int (i : Nat))
  | _ => False) E) := rfl
theorem eRng2_W (a : DAX) {env} {Q} {E} : eRng2 a env Q E = (a env (fun ds => match ds with
  | [.int i, .int j] => (-(2 ^ 62) ≤ i ∧ i < 2 ^ 62 ∧ -(2 ^ 62) ≤ j ∧ j < 2 ^ 62) ∧ Q ((List.range (j - i).toNat).map fun k => .int (i + (k : Nat)))
  | _ => False) E) := rfl
theorem eEnum_W (a : DAX) {env} {Q} {E} : eEnum a env Q E = (a env (fun ds => match ds with
  | [.lst xs] => Q (xs.mapIdx fun i x => .tup [.int (i : Nat), x])
  | [.tup xs] => Q (xs.mapIdx fun i x => .tup [.int (i : Nat), x])
  | _ => False) E) := rfl
theorem eEnumK_W (k : Nat) (a : DAX) {env} {Q} {E} : eEnumK k a env Q E = (a env (fun ds => match ds with
  | [.tup xs] => Q (xs.mapIdx fun i x => .tup [.int ((k : Int) + (i : Nat)), x])
  | _ => False) E) := rfl
theorem eZip_W (a b : DX) {env} {Q} {E} : eZip a b env Q E = (a env (fun d1 => b env (fun d2 => match d1, d2 with
  | .lst xs, .lst ys => Q (List.zipWith (fun x y => .tup [x, y]) xs ys)
  | .tup xs, .lst ys => xs.length = ys.length ∧ Q (List.zipWith (fun x y => .tup [x, y]) xs ys)
  | .tup xs, .tup ys => xs.length = ys.length ∧ Q (List.zipWith (fun x y => .tup [x, y]) xs ys)
  | _, _ => False) E) E) := rfl
theorem eSl_W (f : D3) (a : DX) (lo hi : DOX) {env} {Q} {E} : eSl f a lo hi env Q E = (a env (fun d => lo env (fun l => hi env (fun u => f d l u Q) E) E) E) := rfl
theorem ePart_W (e : DX) {env} {Q} {E} : ePart e env Q E = (e env (fun d => match d with
  | .int i => Q (some i)
  | _ => False) E) := rfl
theorem eNoPart_W {u0} {Q} {u2} : eNoPart u0 Q u2 = (Q none) := rfl
theorem eRev_W (a : DX) {env} {Q} {E} : eRev a env Q E = (a env (fun d => match d with
  | .lst xs => Q (.lst xs.reverse)
  | .tup xs => Q (.tup xs.reverse)
  | _ => False) E) := rfl
theorem eRevL_W (a : DX) {env} {Q} {E} : eRevL a env Q E = (a env (fun d => match d with
  | .lst xs => Q (.lst xs.reverse)
  | _ => False) E) := rfl
theorem eDk0_W {u0} {Q} {u2} : eDk0 u0 Q u2 = (Q (.dk [] [])) := rfl
theorem eDk1_W (k v : Int) {u0} {Q} {u2} : eDk1 k v u0 Q u2 = (Q (.dk [.inl k] [.int v])) := rfl
theorem eXf_W (i : Nat) (c f : Str) {env} {Q} {u2} : eXf i c f env Q u2 = (match env[i]? with
  | some (.exc c' fs) => c' = c ∧ ∃ u, fs.lookup f = some u ∧ Q (Dt.ofV u)
  | _ => False) := rfl
theorem eIsX_W (i : Nat) (tab : Str → Option Bool) {env} {Q} {u2} : eIsX i tab env Q u2 = (match env[i]? with
  | some (.exc c fs) => ∃ b, tab c = some b ∧ Q (.bl b)
  | _ => False) := rfl
theorem dIsN_W {a} {b} {Q} : dIsN a b Q = (match b with
  | .non => Q (.bl a.isN)
  | _ => False) := rfl
theorem dNotN_W {a} {b} {Q} : dNotN a b Q = (match b with
  | .non => Q (.bl (!a.isN))
  | _ => False) := rfl
theorem dIx_W {a} {b} {Q} : dIx a b Q = (match a, b with
  | .lst xs, .int k => ∃ x, atI xs k = some x ∧ Q x
  | .tup xs, .int k => ∃ x, atI xs k = some x ∧ Q x
  | .str z, .int k => z.length ≤ LINE ∧ ∃ c, atI z.cps.toList k = some c ∧ Q (.str ⟨#[c]⟩)
  | _, _ => False) := rfl
theorem dSl_W {a} {lo} {hi} {Q} : dSl a lo hi Q = (match a with
  | .lst xs => Q (.lst (cutG xs lo hi))
  | .tup xs => Q (.tup (cutG xs lo hi))
  | .str z => z.length ≤ LINE ∧ Q (.str (cutS z lo hi))
  | _ => False) := rfl
theorem dSlL_W {a} {lo} {hi} {Q} : dSlL a lo hi Q = (match a with
  | .lst xs => Q (.lst (cutG xs lo hi))
  | _ => False) := rfl
theorem dLen_W {ds} {Q} : dLen ds Q = (match ds with
  | [.lst xs] => Q (.int xs.length)
  | [.tup xs] => Q (.int xs.length)
  | [.str z] => z.length ≤ LINE ∧ Q (.int z.length)
  | [.dk ks _] => Q (.int ks.length)
  | _ => False) := rfl
theorem dInt_W {ds} {Q} : dInt ds Q = (match ds with
  | [.int i] => Q (.int i)
  | [.bl k] => Q (.int (if k then 1 else 0))
  | [.str z] => z.length ≤ 640 ∧ ∃ n, PySem.intText? z = some n ∧ Q (.int n)
  | _ => False) := rfl
theorem dStr_W {ds} {Q} : dStr ds Q = (match ds with
  | [.int i] => i.natAbs.log2 < 1920 ∧ Q (.str (toString i))
  | _ => False) := rfl
theorem dAbs_W {ds} {Q} : dAbs ds Q = (match ds with
  | [.int i] => Q (.int (if i < 0 then -i else i))
  | _ => False) := rfl
theorem dMax2_W {ds} {Q} : dMax2 ds Q = (match ds with
  | [.int i, .int j] => Q (.int (if j > i then j else i))
  | _ => False) := rfl
theorem dMin2_W {ds} {Q} : dMin2 ds Q = (match ds with
  | [.int i, .int j] => Q (.int (if j < i then j else i))
  | _ => False) := rfl
theorem dTupOf_W {ds} {Q} : dTupOf ds Q = (match ds with
  | [.lst xs] => Q (.tup xs)
  | [.tup xs] => Q (.tup xs)
  | _ => False) := rfl
theorem dLstOf_W {ds} {Q} : dLstOf ds Q = (match ds with
  | [.lst xs] => Q (.lst xs)
  | [.tup xs] => Q (.lst xs)
  | _ => False) := rfl
theorem dIsi_W (T : String) {ds} {Q} : dIsi T ds Q = (match ds with
  | [x, .raw (.ty T')] => T' = T ∧ x.kind.isSome = true ∧ Q (.bl (x.isa T))
  | _ => False) := rfl
theorem dIsi2_W (T U : String) {ds} {Q} : dIsi2 T U ds Q = (match ds with
  | [x, .tup [.raw (.ty T'), .raw (.ty U')]] => T' = T ∧ U' = U ∧ x.kind.isSome = true ∧ Q (.bl (x.isa T || x.isa U))
  | _ => False) := rfl
theorem sTry_W (mt : Str → Str → Option Bool) (b : DSt) (hs : List (Str × Option Nat × DSt)) {d} {env} : sTry mt b hs d env = (b { d with xc := fun e x => dHs mt hs d e x } env) := rfl
theorem eStrs_W (a : DX) {env} {Q} {E} : eStrs a env Q E = (a env (fun d => match d with
  | .str z => Q (z.cps.toList.map fun c => .str ⟨#[c]⟩)
  | _ => False) E) := rfl
theorem eNil_W {δ : Type} {u0 : List Sl} {Q : List δ → Prop} {u2 : Xc → Prop} : (eNil (δ := δ)) u0 Q u2 = Q [] := rfl
theorem eBool_W {d : Dt} {Q : Bool → Prop} : eBool d Q = (match d with
  | .bl b => Q b
  | _ => False) := rfl
theorem frz_W {env : List Sl} {i : Nat} : frz env i = (match env[i]? with
  | some (.own w) => env.set i (.d w.fz)
  | _ => env) := rfl
theorem fz_lst {xs : List Dt} : (Ow.lst xs).fz = .lst xs := rfl
theorem fz_dk {ks : List Key} {xs : List Dt} : (Ow.dk ks xs).fz = .dk ks xs := rfl
theorem fz_dt {ks : List (List Key)} {xs : List Dt} : (Ow.dt ks xs).fz = .dt ks xs := rfl
theorem LINE_W : LINE = 16777216 := rfl
theorem take_W {m : Int} {Q : Dt → Prop} {E : Xc → Prop} : F_law_take [.hand, .d (.int m)] Q E = ((0 < m ∧ m < 1073741824) ∧ ∀ r : Nat, (r : Int) < m → Q (.int r)) := rfl
end Mine

namespace Mine
open PySem PySem.Spec PyProof.Rows L2
/-! ### instances of one's own classes: fields -/
/-- which attributes of which classes are plain -/
def FldOk (K : PySem.W.Frag) (tab : Str → Str → Bool) : Prop := ∀ C f, tab C f = true → Cls K (He.ga K C) ∧ NoAttr K (He.ga K C) f
theorem DenAll.look {K : PySem.W.Frag} {H : Hp} {f : Str} : ∀ {ns : List Str} {vs : List V} {ds : List Dt} {x : Dt}, DenAll K H vs ds → (ns.zip ds).lookup f = some x → ∃ v, (ns.zip vs).lookup f = some v ∧ Den K H v x
  | [], _, _, _, _, e => by simp at e
  | n :: ns, _, _, _, .nil, e => by simp at e
  | n :: ns, v :: vs, d :: ds, x, .cons a r, e => by
    rw [List.zip_cons_cons, List.lookup_cons] at e ⊢
    cases h : (f == n) with
    | true => rw [h] at e; cases e; exact ⟨v, rfl, a⟩
    | false => rw [h] at e; exact DenAll.look r e
theorem DenAll.lookN {K : PySem.W.Frag} {H : Hp} {f : Str} : ∀ {ns : List Str} {vs : List V} {ds : List Dt}, DenAll K H vs ds → (ns.zip ds).lookup f = none → (ns.zip vs).lookup f = none
  | [], _, _, _, _ => by simp
  | n :: ns, _, _, .nil, e => by simp
  | n :: ns, v :: vs, d :: ds, .cons a r, e => by
    rw [List.zip_cons_cons, List.lookup_cons] at e ⊢
    cases h : (f == n) with
    | true => rw [h] at e; cases e
    | false => rw [h] at e; exact DenAll.lookN r e
def eFld (tab : Str → Str → Bool) (f : Str) (a : DX) : DX := fun env Q E => a env (fun d => match d with
  | .ins C ns ds => tab C f = true ∧ ∃ x, (ns.zip ds).lookup f = some x ∧ Q x
  | _ => False) E
/-- self.f while self is made -/
def eFldS (tab : Str → Str → Bool) (f : Str) (i : Nat) : DX := fun env Q _ => match env[i]? with
  | some (.ins C ns ds) => tab C f = true ∧ ∃ x, (ns.zip ds).lookup f = some x ∧ Q x
  | _ => False
/-- self.f = e: a new field, or an old one anew -/
def putNs (f : Str) : List Str → List Str
  | [] => [f]
  | n :: ns => if n = f then n :: ns else n :: putNs f ns
def putDs (f : Str) (y : Dt) : List Str → List Dt → List Dt
  | n :: ns, d :: ds => if n = f then y :: ds else d :: putDs f y ns ds
  | _, _ => [y]
def sSetF (tab : Str → Str → Bool) (f : Str) (i : Nat) (e : DX) : DSt := fun d env => match env[i]? with
  | some (.ins C ns ds) => e env (fun y => tab C f = true ∧ i = 0 ∧ ns.length < 900 ∧ d.nx (env.set i (.ins C (putNs f ns) (putDs f y ns ds)))) (d.xc env)
  | _ => False
theorem putF_zip {K : PySem.W.Frag} {H : Hp} {f : Str} {v : V} {y : Dt} (hv : Den K H v y) : ∀ {ns : List Str} {vs : List V} {ds : List Dt}, ns.length = vs.length → DenAll K H vs ds →
    ∃ vs', putF f v (ns.zip vs) = (putNs f ns).zip vs' ∧ (putNs f ns).length = vs'.length ∧ DenAll K H vs' (putDs f y ns ds)
  | [], [], _, _, .nil => ⟨[v], rfl, rfl, .cons hv .nil⟩
  | n :: ns, u :: vs, d :: ds, l, .cons a r => by
    by_cases c : n = f
    · subst c
      refine ⟨v :: vs, ?_, ?_, ?_⟩
      · show (if n = n then _ else _) = (if n = n then _ else _ : List Str).zip _
        rw [if_pos rfl, if_pos rfl]; rfl
      · show (if n = n then _ else _ : List Str).length = _
        rw [if_pos rfl]; exact l
      · show DenAll K H _ (if n = n then _ else _)
        rw [if_pos rfl]; exact .cons hv r
    · obtain ⟨vs', h1, h2, h3⟩ := putF_zip (f := f) hv (ns := ns) (by simpa using l) r
      refine ⟨u :: vs', ?_, ?_, ?_⟩
      · show (if n = f then _ else _) = (if n = f then _ else _ : List Str).zip _
        rw [if_neg c, if_neg c]; exact congrArg ((n, u) :: ·) h1
      · show (if n = f then _ else _ : List Str).length = _
        rw [if_neg c, List.length_cons, List.length_cons, h2]
      · show DenAll K H _ (if n = f then _ else _)
        rw [if_neg c]; exact .cons a h3
section
variable {C : Bc} {X : Addr → Prop} {env : List Sl} {σ : L2.St} {H : Hp} {te : TE} {ea e : DX} {f : Str} {tab : Str → Str → Bool}
theorem de_fld (ht : FldOk C.K tab) (he : DB C te ea) : DE C (tFld C.K te f) (eFld tab f ea) := by
  intro X env σ H Q Qd Qx rp h q x
  refine he X env σ H _ _ Qx rp h (fun d v H1 f1 r1 h1 => ?_) x
  split at h1
  · obtain ⟨h2, y, h3, h4⟩ := h1
    obtain ⟨c1, c2⟩ := ht _ _ h2
    obtain ⟨p, dx, vs, rfl, hp, hl, al⟩ := r1.ins
    obtain ⟨u, hu, du⟩ := al.look h3
    exact ⟨p, _, dx, _, u, rfl, hp, c1, c2, hu, q _ _ _ f1 du h4⟩
  · exact h1.elim
theorem de_fldS {i : Nat} (ht : FldOk C.K tab) : DE C (tFld C.K (tVar i) f) (eFldS tab f i) := by
  intro X env σ H Q Qd Qx rp h q x
  unfold eFldS at h
  split at h
  · rename_i C0 ns ds e
    obtain ⟨h2, y, h3, h4⟩ := h
    obtain ⟨c1, c2⟩ := ht _ _ h2
    obtain ⟨o, e1, p, dx, vs, rfl, x1, x2, hp, hl, al⟩ := rp.slot i _ e
    obtain ⟨u, hu, du⟩ := al.look h3
    exact ⟨_, e1, p, _, dx, _, u, rfl, hp, c1, c2, hu, q _ _ _ (.refl H) du h4⟩
  · exact h.elim
/-- self, changed -/
theorem Rep.selfSet {p dx : Addr} {C0 C1 : Str} {ns ns' : List Str} {ds ds' : List Dt} {vs' : List V} (r : Rep C X env σ H) (e : env[0]? = some (.ins C0 ns ds)) (es : σ[0]? = some (some (.ref p))) (x1 : X p) (x2 : ¬ C.X0 p)
    (hl : ns'.length = vs'.length) (hme : C.me = some p) (h2 : DenAll C.K (vis H X) vs' ds') :
    Rep C X (env.set 0 (.ins C1 ns' ds')) σ (upd H p (.ins (He.ga C.K C1) dx (ns'.zip vs'))) ∧ Same (vis H X) (vis (upd H p (.ins (He.ga C.K C1) dx (ns'.zip vs'))) X) := by
  obtain ⟨o0, es0, p0, dx0, vs0, ep0, _, _, hp0, _, _⟩ := r.slot 0 _ e
  rw [es] at es0; cases es0; cases ep0
  have sm : Same (vis H X) (vis (upd H p (.ins (He.ga C.K C1) dx (ns'.zip vs'))) X) := fun a o q => by
    obtain ⟨n1, e1⟩ := vis_of q
    exact vis_mk n1 (by rw [upd_ne (fun (z : a = p) => n1 (by rw [z]; exact x1))]; exact e1)
  have h0 : C.H0 p = none := (r.new p x1).resolve_left x2
  have fm : Frm C.hd C.H0 (upd H p (.ins (He.ga C.K C1) dx (ns'.zip vs'))) := by
    refine ⟨fun a u q k => ?_, fun h c q x => ?_⟩
    · rw [upd_ne (ne_of_none q h0)]; exact r.frm.1 a u q k
    · have y := r.frm.2 h c q x
      obtain ⟨_, _, _, _, a1, a2, _⟩ := x
      obtain ⟨cells, at_, big, mix, b1, b2, b3⟩ := y
      exact ⟨cells, at_, big, mix, by rw [upd_ne (ne_of_none a1 h0)]; exact b1, by rw [upd_ne (ne_of_none a2 h0)]; exact b2, b3⟩
  have hlen : 0 < env.length := (List.getElem?_eq_some_iff.mp e).1
  refine ⟨⟨by rw [List.length_set, r.len], r.sup, r.new, fun a z => ?_, fm, fun h c q => ⟨(r.hands h c q).1, (r.hands h c q).2.1, fm.2 h c q (r.hands h c q).2.1⟩, fun j s q => ?_, fun j k ys zs ne e1 e2 => ?_, r.one.set0⟩, sm⟩
  · by_cases c : a = p
    · subst c; exact ⟨_, upd_same⟩
    · obtain ⟨o, q⟩ := r.al a z
      exact ⟨o, by rw [upd_ne c]; exact q⟩
  · rw [List.getElem?_set] at q
    by_cases c : 0 = j
    · subst c
      rw [if_pos rfl, if_pos hlen] at q
      cases q
      exact ⟨_, es, p, dx, vs', rfl, x1, x2, upd_same, ⟨hl, hme⟩, h2.mono sm⟩
    · rw [if_neg c] at q
      obtain ⟨o, e1, w⟩ := r.slot j s q
      refine ⟨o, e1, ?_⟩
      cases s with
      | no => trivial
      | d x => obtain ⟨v, e2, h⟩ := w; exact ⟨v, e2, h.mono sm⟩
      | own ys =>
        obtain ⟨p', us, rfl, y1, y2, y3, y4⟩ := w
        have ne : p' ≠ p := fun z => by rw [z, hp0] at y3; cases y3; exact y4.noins
        exact ⟨p', us, rfl, y1, y2, by rw [upd_ne ne]; exact y3, y4.mono sm⟩
      | hand => exact w
      | exc c' fs => exact w.exc sm
      | ins C2 ns2 ds2 => exact absurd (r.one j ⟨C2, ns2, ds2, q⟩).symm c
  · rw [List.getElem?_set] at e1 e2
    have a : 0 ≠ j := fun c => by
      subst c
      rw [if_pos rfl, if_pos hlen] at e1; cases e1
    have b : 0 ≠ k := fun c => by
      subst c
      rw [if_pos rfl, if_pos hlen] at e2; cases e2
    rw [if_neg a] at e1
    rw [if_neg b] at e2
    exact r.inj j k ys zs ne e1 e2
theorem dst_setF {i : Nat} (ht : FldOk C.K tab) (he : DE C te e) : DS C (sFld C.K (tVar i) te f) (sSetF tab f i e) := by
  intro X env σ H D d r l h
  unfold sSetF at h
  split at h
  · rename_i C0 ns ds ei
    refine he X env σ H _ _ _ r h (fun y v H1 f1 r1 hy => ?_) (l.xok r)
    obtain ⟨h2, rfl, h3, h4⟩ := hy
    obtain ⟨c1, c2⟩ := ht _ _ h2
    have rp1 := r.step f1
    obtain ⟨o, e1, p, dx, vs, rfl, x1, x2, hp, ⟨hl, hme⟩, al⟩ := rp1.slot 0 _ ei
    obtain ⟨vs', k1, k2, k3⟩ := putF_zip (f := f) r1 hl al
    refine ⟨_, e1, p, _, dx, _, rfl, hp, c1, c2, by rw [List.length_zip]; omega, ?_⟩
    rw [k1]
    obtain ⟨r3, sm⟩ := rp1.selfSet (C1 := C0) (dx := dx) ei e1 x1 x2 k2 hme k3
    exact l.nx _ _ _ _ r3 ((r.vs f1).trans sm) h4
  · exact h.elim
end
end Mine

namespace Mine
open PySem PySem.Spec PyProof.Rows L2
/-! ### C(..): __init__ by data; what it wants is the instance -/
def spI (K : PySem.W.Frag) (cls : Str) (F : DFn) : Sp := fun vs H Q E => ∃ (x dx : Addr) (us : List V) (H1 : Hp) (X : Addr → Prop) (hd : Hnd) (args : List Sl) (Qd : Dt → Prop) (Qx : Xc → Prop),
  vs = .ref x :: us ∧ H1 x = none ∧ H1 dx = none ∧ dx ≠ x ∧ H = upd (upd H1 dx (.own x)) x (.ins (He.ga K cls) dx []) ∧ (∀ a, X a → ∃ o, H1 a = some o) ∧ (∀ h c, hd = some (h, c) → X h ∧ HandC H1 h c) ∧ SlAll K hd X H1 us args ∧ F args Qd Qx ∧
  (∀ d H', Frm hd H1 H' → Den K (vis H' X) (.ref x) d → Qd d → Q .non H') ∧ (∀ y cls' dx' H', Frm hd H1 H' → XRep K (vis H' X) cls' dx' y → Qx y → E cls' dx' H')
/-- np parameters with self, N names in all -/
def mkI (cls : Str) (np N : Nat) (s : DSt) : DFn := fun args Q E => args.length + 1 = np ∧ s ⟨fun (env : List Sl) => match env[0]? with
  | some (Sl.ins C ns ds) => Q (.ins C ns ds)
  | _ => False, fun _ => False, fun _ => False, fun _ => False, fun _ x => E x⟩ (.ins cls [] [] :: (args ++ List.replicate (N - np) .no))
def mkI0 (cls : Str) (np N : Nat) (s : DSt) : DFn := fun args Q E => args.length + 1 = np ∧ s ⟨fun (env : List Sl) => match env[0]? with
  | some (Sl.ins C ns ds) => Q (.ins C ns ds)
  | _ => False, fun _ => False, fun _ => False, fun _ => False, fun _ _ => False⟩ (.ins cls [] [] :: (args ++ List.replicate (N - np) .no))
section
variable {C : Bc} {F : DFn} {cls : Str} {dvs : List V} {dd : List Sl} {t : TA} {a : DSX}
theorem de_make {E : XK} (hE : C.E = fun _ => E) (hd : Dvs dvs dd) (ha : DAs C t a) : DE C (tMake (He.ga C.K cls) (spI C.K cls F) dvs E t) (eCall F dd a) := by
  intro X env σ H Q Qd Qx rp he q x
  refine ha X env σ H _ _ Qx rp he (fun ss vs H1 f1 r1 he1 => ?_) x
  intro p dx np nd ne
  have rp1 := rp.step f1
  refine ⟨p, dx, vs ++ dvs, H1, X, C.hd, ss ++ dd, Qd, Qx, rfl, np, nd, ne, rfl, rp1.al, fun h c e => ⟨rp1.hX h c e, (rp1.hands h c e).2.2⟩, SlAll.append r1 (hd C.K C.hd X H1), he1, fun d H' f den qd => ⟨rfl, q d _ H' (f1.trans f) den qd⟩, fun y cls' dx' H' f r z => ?_⟩
  have := x y cls' dx' H' (f1.trans f) r z
  rw [hE] at this
  exact this
theorem de_make0 (hd : Dvs dvs dd) (ha : DAs C t a) : DE C (tMake (He.ga C.K cls) (spI C.K cls F) dvs E0 t) (eCall0 F dd a) := by
  intro X env σ H Q Qd Qx rp he q x
  refine ha X env σ H _ _ Qx rp he (fun ss vs H1 f1 r1 he1 => ?_) x
  intro p dx np nd ne
  have rp1 := rp.step f1
  exact ⟨p, dx, vs ++ dvs, H1, X, C.hd, ss ++ dd, Qd, fun _ => False, rfl, np, nd, ne, rfl, rp1.al, fun h c e => ⟨rp1.hX h c e, (rp1.hands h c e).2.2⟩, SlAll.append r1 (hd C.K C.hd X H1), he1, fun d H' f den qd => ⟨rfl, q d _ H' (f1.trans f) den qd⟩, fun _ _ _ _ _ _ z => z.elim⟩
end
theorem spI_len {K : PySem.W.Frag} {F : DFn} {cls : Str} {np : Nat} (hF : ∀ args Q E, F args Q E → args.length + 1 = np) : ∀ vs H Q E, spI K cls F vs H Q E → vs.length = np := by
  rintro vs H Q E ⟨x, dx, us, H1, X, hd, args, Qd, Qx, rfl, _, _, _, _, _, _, sl, h, _⟩
  rw [List.length_cons, sl.length]; exact hF _ _ _ h
/-- where the body of __init__ begins -/
theorem rep_startI {K : PySem.W.Frag} {X : Addr → Prop} {hd : Hnd} {H1 : Hp} {E : L2.St → XK} {cls : Str} {x dx : Addr} {us : List V} {args : List Sl} {N : List Str} (np : H1 x = none) (nd : H1 dx = none) (ne : dx ≠ x) (al : ∀ a, X a → ∃ o, H1 a = some o) (hh : ∀ h c, hd = some (h, c) → X h ∧ HandC H1 h c) (sl : SlAll K hd X H1 us args) :
    Rep ⟨K, H1, X, hd, none, E, some x⟩ (fun a => X a ∨ a = x) (.ins cls [] [] :: (args ++ List.replicate (N.length - (args.length + 1)) .no)) (L2.start N (.ref x :: us)) (upd (upd H1 dx (.own x)) x (.ins (He.ga K cls) dx [])) := by
  have hl := sl.length
  have nX : ¬ X x := fun z => by obtain ⟨o, e⟩ := al x z; rw [np] at e; cases e
  have f : Frm hd H1 (upd (upd H1 dx (.own x)) x (.ins (He.ga K cls) dx [])) := (Frm.upd nd).trans (.upd (by rw [upd_ne (Ne.symm ne)]; exact np))
  have sm : Same (vis H1 X) (vis (upd (upd H1 dx (.own x)) x (.ins (He.ga K cls) dx [])) fun a => X a ∨ a = x) := fun a o e => by
    obtain ⟨n1, e1⟩ := vis_of e
    have a1 : a ≠ x := ne_of_none e1 np
    have a2 : a ≠ dx := ne_of_none e1 nd
    exact vis_mk (fun z => z.elim n1 a1) (by rw [upd_ne a1, upd_ne a2]; exact e1)
  have slots : ∀ {us : List V} {args : List Sl}, SlAll K hd X H1 us args → ∀ (i : Nat) (s : Sl), args[i]? = some s → (∃ o, (us.map some)[i]? = some o ∧ SlRep ⟨K, H1, X, hd, none, E, some x⟩ (fun a => X a ∨ a = x) (upd (upd H1 dx (.own x)) x (.ins (He.ga K cls) dx [])) s o) ∧ (∀ xs, s ≠ .own xs) ∧ ∀ C0 ns ds, s ≠ .ins C0 ns ds := by
    intro us args sl
    induction sl with
    | nil => intro i s e; simp at e
    | d a r ih =>
      intro i s e
      cases i with
      | zero => simp at e; subst e; exact ⟨⟨_, rfl, _, rfl, a.mono sm⟩, (fun _ z => by cases z), fun _ _ _ z => by cases z⟩
      | succ i =>
        obtain ⟨⟨o, q⟩, n⟩ := ih i s (by simpa using e)
        exact ⟨⟨o, by simpa using q⟩, n⟩
    | hand a r ih =>
      intro i s e
      cases i with
      | zero => simp at e; subst e; exact ⟨⟨_, rfl, _, _, rfl, a⟩, (fun _ z => by cases z), fun _ _ _ z => by cases z⟩
      | succ i =>
        obtain ⟨⟨o, q⟩, n⟩ := ih i s (by simpa using e)
        exact ⟨⟨o, by simpa using q⟩, n⟩
  have rest : ∀ (i : Nat) (s : Sl), (args ++ List.replicate (N.length - (args.length + 1)) Sl.no)[i]? = some s → (∀ xs, s ≠ .own xs) ∧ ∀ C0 ns ds, s ≠ .ins C0 ns ds := fun i s e => by
    rw [List.getElem?_append] at e
    split at e
    · exact (slots sl i s e).2
    · rw [List.getElem?_replicate] at e
      split at e
      · cases e; exact ⟨(fun _ z => by cases z), fun _ _ _ z => by cases z⟩
      · cases e
  refine ⟨?_, fun a z => .inl z, fun a z => ?_, fun a z => ?_, f, fun h c e => ⟨(hh h c e).1, (hh h c e).2, f.2 h c e (hh h c e).2⟩, fun i s e => ?_, fun i j xs ys n e1 e2 => ?_, fun i ⟨C0, ns, ds, e⟩ => ?_⟩
  · unfold L2.start
    simp [hl]
  · rcases z with z | rfl
    · exact .inl z
    · exact .inr np
  · rcases z with z | rfl
    · obtain ⟨o, e⟩ := al a z
      exact ⟨o, by rw [upd_ne (ne_of_none e np), upd_ne (ne_of_none e nd)]; exact e⟩
    · exact ⟨_, upd_same⟩
  · cases i with
    | zero =>
      simp at e
      subst e
      exact ⟨some (.ref x), rfl, x, dx, [], rfl, .inr rfl, nX, upd_same, ⟨rfl, rfl⟩, .nil⟩
    | succ i =>
      have e : (args ++ List.replicate (N.length - (args.length + 1)) Sl.no)[i]? = some s := e
      unfold L2.start
      rw [List.getElem?_append] at e
      rw [List.map_cons, List.cons_append, List.getElem?_cons_succ, List.getElem?_append, List.length_map, hl]
      split at e
      · rename_i c
        rw [if_pos c]
        exact (slots sl i s e).1
      · rename_i c
        rw [if_neg c]
        rw [List.getElem?_replicate] at e ⊢
        split at e
        · rename_i c2
          cases e
          rw [List.length_cons, hl, if_pos c2]
          exact ⟨_, rfl, trivial⟩
        · cases e
  · cases i with
    | zero => simp at e1
    | succ i => exact absurd rfl ((rest i _ e1).1 xs)
  · cases i with
    | zero => rfl
    | succ i => exact absurd rfl ((rest i _ e).2 C0 ns ds)
theorem body_ofI {K : PySem.W.Frag} {N : List Str} {np n : Nat} {cls : Str} {sb : DSt} {t : TS} {vs : List V} {H : Hp} {Q : VK} {E : XK} (hn : N.length = n) (h : spI K cls (mkI cls np n sb) vs H Q E)
    (hb : ∀ H X hd x, DS ⟨K, H, X, hd, none, fun _ => E, some x⟩ t sb) : t { nx := fun _ H' => Q .non H', rt := Q } (L2.start N vs) H := by
  obtain ⟨x, dx, us, H1, X, hd, args, Qd, Qx, rfl, np', nd, ne, rfl, al, hh, sl, ⟨ha, h⟩, q, xx⟩ := h
  have r := rep_startI (N := N) (cls := cls) (E := fun _ => E) np' nd ne al hh sl
  rw [ha, hn] at r
  refine hb H1 X hd x _ _ _ _ _ _ r ⟨fun X' env σ H' r' s' h' => ?_, fun _ _ _ _ _ _ _ _ _ (h' : False) => h'.elim, fun _ _ _ _ _ _ (h' : False) => h'.elim, fun _ _ _ _ _ _ (h' : False) => h'.elim, fun X' env σ H' z cls dx r' s' w h' => xx z cls dx H' r'.frm (w.mono (vis_anti r'.sup)) h'⟩ h
  have h' : (match env[0]? with
    | some (Sl.ins C ns ds) => Qd (.ins C ns ds)
    | _ => False) := h'
  split at h'
  · rename_i C0 ns ds e
    obtain ⟨o, e1, p, dx2, vs2, rfl, x1, x2, hp, ⟨hl, hm⟩, al2⟩ := r'.slot 0 _ e
    have hm : some x = some p := hm
    obtain rfl : x = p := by injection hm
    refine q _ H' r'.frm ?_ h'
    exact .ins (vis_mk x2 hp) hl (al2.mono (vis_anti r'.sup))
  · exact h'.elim
theorem body_ofI0 {K : PySem.W.Frag} {N : List Str} {np n : Nat} {cls : Str} {sb : DSt} {t : TS} {vs : List V} {H : Hp} {Q : VK} {E : XK} (hn : N.length = n) (h : spI K cls (mkI0 cls np n sb) vs H Q E)
    (hb : ∀ H X hd x, DS ⟨K, H, X, hd, none, fun _ _ _ _ => False, some x⟩ t sb) : t { nx := fun _ H' => Q .non H', rt := Q } (L2.start N vs) H := by
  obtain ⟨x, dx, us, H1, X, hd, args, Qd, Qx, rfl, np', nd, ne, rfl, al, hh, sl, ⟨ha, h⟩, q, xx⟩ := h
  have r := rep_startI (N := N) (cls := cls) (E := fun _ _ _ _ => False) np' nd ne al hh sl
  rw [ha, hn] at r
  refine hb H1 X hd x _ _ _ _ _ _ r ⟨fun X' env σ H' r' s' h' => ?_, fun _ _ _ _ _ _ _ _ _ (h' : False) => h'.elim, fun _ _ _ _ _ _ (h' : False) => h'.elim, fun _ _ _ _ _ _ (h' : False) => h'.elim, fun _ _ _ _ _ _ _ _ _ _ (h' : False) => h'.elim⟩ h
  have h' : (match env[0]? with
    | some (Sl.ins C ns ds) => Qd (.ins C ns ds)
    | _ => False) := h'
  split at h'
  · rename_i C0 ns ds e
    obtain ⟨o, e1, p, dx2, vs2, rfl, x1, x2, hp, ⟨hl, hm⟩, al2⟩ := r'.slot 0 _ e
    have hm : some x = some p := hm
    obtain rfl : x = p := by injection hm
    refine q _ H' r'.frm ?_ h'
    exact .ins (vis_mk x2 hp) hl (al2.mono (vis_anti r'.sup))
  · exact h'.elim
/-! ### o.m(..), o.p -/
def eMeth (c m : Str) (F : DFn) (dd : List Sl) (a : DX) (r : DSX) : DX := fun env Q E => a env (fun d => match d with
  | .ins c' ns ds => c' = c ∧ (ns.zip ds).lookup m = none ∧ r env (fun ss => F (.d (.ins c' ns ds) :: (ss ++ dd)) Q E) E
  | _ => False) E
def eMeth0 (c m : Str) (F : DFn) (dd : List Sl) (a : DX) (r : DSX) : DX := fun env Q E => a env (fun d => match d with
  | .ins c' ns ds => c' = c ∧ (ns.zip ds).lookup m = none ∧ r env (fun ss => F (.d (.ins c' ns ds) :: (ss ++ dd)) Q fun _ => False) E
  | _ => False) E
def eProp (c : Str) (F : DFn) (a : DX) : DX := fun env Q E => a env (fun d => match d with
  | .ins c' ns ds => c' = c ∧ F [.d (.ins c' ns ds)] Q fun _ => False
  | _ => False) E
def eAlt (a b : DX) : DX := fun env Q E => a env Q E ∨ b env Q E
section
variable {C : Bc} {F : DFn} {c m : Str} {dvs : List V} {dd : List Sl} {te : TE} {ea : DX} {t : TA} {a : DSX}
theorem de_meth {E : XK} (hE : C.E = fun _ => E) (hd : Dvs dvs dd) (ho : DE C te ea) (ha : DAs C t a) : DE C (tMeth (He.ga C.K c) m (spD C.K F) dvs E te t) (eMeth c m F dd ea a) := by
  intro X env σ H Q Qd Qx rp he q x
  refine ho X env σ H _ _ Qx rp he (fun d v H1 f1 r1 h1 => ?_) x
  split at h1
  · rename_i c' ns ds
    obtain ⟨rfl, h2, h3⟩ := h1
    have rp1 := rp.step f1
    have r1 : Den C.K (vis H1 X) v (.ins c' ns ds) := r1
    have r1' := r1
    cases r1 with
    | @ins p dx _ _ vs _ hp hl al =>
      refine ⟨p, dx, _, rfl, vis_sub _ _ hp, al.lookN h2, ?_⟩
      refine ha X env σ H1 _ _ Qx rp1 h3 (fun ss us H2 f2 r2 h4 => ?_) (x.step f1)
      exact spD_use (rp1.step f2) (.d (r1'.mono (rp1.vs f2)) (SlAll.append r2 (hd C.K C.hd X H2))) h4 (fun d v H' f h => q d v H' (f1.trans (f2.trans f)) h) fun y cls dx H' f r z => by
        have := x y cls dx H' (f1.trans (f2.trans f)) r z
        rw [hE] at this
        exact this
  · exact h1.elim
theorem de_meth0 (hd : Dvs dvs dd) (ho : DE C te ea) (ha : DAs C t a) : DE C (tMeth (He.ga C.K c) m (spD C.K F) dvs E0 te t) (eMeth0 c m F dd ea a) := by
  intro X env σ H Q Qd Qx rp he q x
  refine ho X env σ H _ _ Qx rp he (fun d v H1 f1 r1 h1 => ?_) x
  split at h1
  · rename_i c' ns ds
    obtain ⟨rfl, h2, h3⟩ := h1
    have rp1 := rp.step f1
    have r1 : Den C.K (vis H1 X) v (.ins c' ns ds) := r1
    have r1' := r1
    cases r1 with
    | @ins p dx _ _ vs _ hp hl al =>
      refine ⟨p, dx, _, rfl, vis_sub _ _ hp, al.lookN h2, ?_⟩
      refine ha X env σ H1 _ _ Qx rp1 h3 (fun ss us H2 f2 r2 h4 => ?_) (x.step f1)
      exact spD_use (rp1.step f2) (.d (r1'.mono (rp1.vs f2)) (SlAll.append r2 (hd C.K C.hd X H2))) h4 (fun d v H' f h => q d v H' (f1.trans (f2.trans f)) h) fun _ _ _ _ _ _ z => z.elim
  · exact h1.elim
theorem de_prop (ho : DE C te ea) : DE C (tProp (He.ga C.K c) (spD C.K F) [] E0 te) (eProp c F ea) := by
  intro X env σ H Q Qd Qx rp he q x
  refine ho X env σ H _ _ Qx rp he (fun d v H1 f1 r1 h1 => ?_) x
  split at h1
  · rename_i c' ns ds
    obtain ⟨rfl, h3⟩ := h1
    have rp1 := rp.step f1
    have r1 : Den C.K (vis H1 X) v (.ins c' ns ds) := r1
    have r1' := r1
    cases r1 with
    | @ins p dx _ _ vs _ hp hl al =>
      refine ⟨p, dx, _, rfl, vis_sub _ _ hp, ?_⟩
      exact spD_use rp1 (.d r1' .nil) h3 (fun d v H' f h => q d v H' (f1.trans f) h) fun _ _ _ _ _ _ z => z.elim
  · exact h1.elim
end
/-! ### isinstance(x, C), C a class of one's own -/
def eIsI (tab : Str → Option Bool) (a : DX) : DX := fun env Q E => a env (fun d => match d with
  | .ins c _ _ => ∃ b, tab c = some b ∧ Q (.bl b)
  | d => d.kind.isSome = true ∧ Q (.bl false)) E
/-- what of the text isinstance asks: instances of the classes in the table, and the built-in kinds -/
structure IsOk (K : PySem.W.Frag) (cn : Str) (tab : Str → Option Bool) : Prop where
  ins : ∀ c b, tab c = some b → PySem.W.kitOne K (.ref (He.ga K c)) (.ref (He.ga K cn)) = some b ∧ ∀ (H : Hp) (a dx : Addr) (fs : List (Str × V)), H a = some (.ins (He.ga K c) dx fs) → TyX K H (.ref a) (.ref (He.ga K c))
  kin : ∀ n, n ∈ ["NoneType", "bool", "int", "str", "tuple", "list", "dict"] → PySem.W.kitOne K (.type n) (.ref (He.ga K cn)) = some false
section
variable {C : Bc} {te : TE} {ea : DX} {cn : Str} {tab : Str → Option Bool}
theorem de_isI (hk : IsOk C.K cn tab) (he : DB C te ea) : DE C (tCB (rIsi C.K) (tCons te (tCons (tC (.ref (He.ga C.K cn))) tNil))) (eIsI tab ea) := by
  intro X env σ H Q Qd Qx rp h q x
  refine he X env σ H _ _ Qx rp h (fun d v H1 f1 r1 h1 => ?_) x
  show ∃ (x c : V) (t u : Value) (b : Bool), [v, .ref (He.ga C.K cn)] = [x, c] ∧ _
  split at h1
  · obtain ⟨b, hb, h2⟩ := h1
    obtain ⟨k1, k2⟩ := hk.ins _ _ hb
    obtain ⟨p, dx, vs, rfl, hp, hl, al⟩ := r1.ins
    exact ⟨_, _, _, _, b, rfl, .own _, k2 _ _ _ _ hp, k1, q _ _ _ f1 (.bl _) h2⟩
  · obtain ⟨hn, h2⟩ := h1
    obtain ⟨n, hn⟩ := Option.isSome_iff_exists.mp hn
    exact ⟨_, _, _, _, false, rfl, .own _, r1.tyx hn, hk.kin n (Dt.kind_mem hn), q _ _ _ f1 (.bl _) h2⟩
end
end Mine

namespace Mine
open PySem PySem.Spec PyProof.Rows L2
/-! ### the head's own hook: defs at any address, facts, one more Bool -/
def obsN (n : Nat) (fa : List He.Fa) (fn : List He5.DefA) (ex : PySem.W.Frag → Bool) (g : Addr → Option Obj) : He.AlD × Bool := (He5.obsAG n fa fn g, ex (He.frG g (He5.asA g n)))
def hookN (n : Nat) (fa : List He.Fa) (fn : List He5.DefA) (ex : PySem.W.Frag → Bool) : PySem.W.Hook where
  α := He.AlD × Bool
  obs := fun s => obsN n fa fn ex s.heap.get?
  val := fun _ => (He5.valA fn, true)
  says := fun _ h => ∃ K : PySem.W.Frag, K.In h ∧ He5.SaysA fa fn K ∧ ex K = true
  of := fun _ _ e => ⟨_, He.frG_in, congrArg (fun z : He.AlD × Bool => z.1) e, congrArg (fun z : He.AlD × Bool => z.2) e⟩
  keeps := fun _ _ _ ⟨K, hK, c⟩ k => ⟨K, PySem.W.Frag.In.keeps hK k, c⟩
theorem obsN_eq {n : Nat} {fa : List He.Fa} {fn : List He5.DefA} {ex : PySem.W.Frag → Bool} {g : Addr → Option Obj} {s : Shared} (h : ∀ a, g a = s.heap.get? a) : obsN n fa fn ex g = (hookN n fa fn ex).obs s := by
  have e : g = s.heap.get? := funext h
  rw [e] <;> rfl
/-! ### a property: its record, its getter -/
def gA (K : PySem.W.Frag) (C m : Str) : Addr := match PySem.W.recIn K (He.ma K (He.ga K C) m) "property" with
  | some (.ref g :: _) => g
  | _ => 0
def propB (C m : Str) (K : PySem.W.Frag) : Bool := He.eqO (PySem.W.findIn K (.ref (He.ga K C)) m) (some (some (.ref (He.ma K (He.ga K C) m)))) &&
  (He.eqO (PySem.W.specialIn K (.ref (He.ma K (He.ga K C) m)) "__get__") (some (some (.builtin "property.__get__"))) && (decide (PySem.W.takesIn K (.ref (He.ma K (He.ga K C) m)) = some true) && (match PySem.W.recIn K (He.ma K (He.ga K C) m) "property" with
    | some (.ref _ :: _) => true
    | _ => false)))
theorem propB_ok {K : PySem.W.Frag} {C m : Str} (h : propB C m K = true) : PropOf K (He.ga K C) m (He.ma K (He.ga K C) m) (gA K C m) := by
  obtain ⟨h1, h⟩ := He.ba h
  obtain ⟨h2, h⟩ := He.ba h
  obtain ⟨h3, h4⟩ := He.ba h
  refine ⟨He.eqO_ok h1, He.eqO_ok h2, of_decide_eq_true h3, ?_⟩
  unfold gA
  split at h4
  · rename_i g r e
    exact ⟨r, by rw [e]⟩
  · cases h4
end Mine

namespace Mine
open PySem PySem.Spec PyProof.Rows L2
/-! ### dicts: keys whole numbers and texts, or tuples of them -/
section
variable {κ : Type} [DecidableEq κ]
def valD : List κ → List Dt → κ → Option Dt
  | k :: ks, d :: ds, j => if k = j then some d else valD ks ds j
  | _, _, _ => none
def putKs : List κ → κ → List κ
  | [], j => [j]
  | k :: ks, j => if k = j then k :: ks else k :: putKs ks j
def putVs : List κ → List Dt → κ → Dt → List Dt
  | k :: ks, d :: ds, j, y => if k = j then y :: ds else d :: putVs ks ds j y
  | _, _, _, y => [y]
theorem DenAll.val {K : PySem.W.Frag} {H : Hp} {j : κ} : ∀ {ks : List κ} {vs : List V} {ds : List Dt}, ks.length = vs.length → DenAll K H vs ds →
    (valD ks ds j = none ∧ valV (ks.zip vs) j = none) ∨ ∃ d v, valD ks ds j = some d ∧ valV (ks.zip vs) j = some v ∧ Den K H v d
  | [], [], _, _, .nil => .inl ⟨rfl, rfl⟩
  | k :: ks, v :: vs, d :: ds, l, .cons a r => by
    rw [List.zip_cons_cons]
    unfold valD
    by_cases c : k = j
    · rw [if_pos c, valV_pos (p := (k, v)) c]
      exact .inr ⟨d, v, rfl, rfl, a⟩
    · rw [if_neg c, valV_neg (p := (k, v)) c]
      exact DenAll.val (by simpa using l) r
theorem putK_nil (j : κ) (v : V) : putK [] j v = [(j, v)] := rfl
theorem putK_pos {k j : κ} {u v : V} {r : List (κ × V)} (c : k = j) (nd : ∀ p ∈ r, p.1 ≠ j) : putK ((k, u) :: r) j v = (k, v) :: r := by
  unfold putK
  rw [if_pos (by simp [c]), List.map_cons]
  simp only [c, if_true]
  congr 1
  refine (List.map_congr_left fun p hp => ?_).trans (List.map_id r)
  rw [if_neg (nd p hp)]; rfl
theorem putK_neg {k j : κ} {u v : V} {r : List (κ × V)} (c : ¬ k = j) : putK ((k, u) :: r) j v = (k, u) :: putK r j v := by
  unfold putK
  rw [List.any_cons]
  simp only [c, decide_false, Bool.false_or, List.map_cons, if_false]
  split <;> rfl
/-- what stands in a dict of one's own: no key twice -/
theorem putF_K {K : PySem.W.Frag} {H : Hp} {j : κ} {v : V} {y : Dt} (hv : Den K H v y) : ∀ {ks : List κ} {vs : List V} {ds : List Dt}, ks.Nodup → ks.length = vs.length → DenAll K H vs ds →
    ∃ vs', putK (ks.zip vs) j v = (putKs ks j).zip vs' ∧ (putKs ks j).length = vs'.length ∧ DenAll K H vs' (putVs ks ds j y)
  | [], [], _, _, _, .nil => ⟨[v], rfl, rfl, .cons hv .nil⟩
  | k :: ks, u :: vs, d :: ds, nd, l, .cons a r => by
    have nd2 := List.nodup_cons.mp nd
    by_cases c : k = j
    · refine ⟨v :: vs, ?_, ?_, ?_⟩
      · unfold putKs
        rw [if_pos c, List.zip_cons_cons, List.zip_cons_cons]
        exact putK_pos c fun p hp z => nd2.1 (by rw [c, ← z]; exact (List.of_mem_zip hp).1)
      · unfold putKs; rw [if_pos c]; exact l
      · unfold putVs; rw [if_pos c]; exact .cons hv r
    · obtain ⟨vs', h1, h2, h3⟩ := putF_K (j := j) hv (ks := ks) nd2.2 (by simpa using l) r
      refine ⟨u :: vs', ?_, ?_, ?_⟩
      · unfold putKs
        rw [if_neg c, List.zip_cons_cons, putK_neg c, h1]; rfl
      · unfold putKs; rw [if_neg c, List.length_cons, List.length_cons, h2]
      · unfold putVs; rw [if_neg c]; exact .cons a h3
end
def keyOf : Dt → Option Key
  | .int i => some (.inl i)
  | .str x => some (.inr x)
  | _ => none
def keysOf : List Dt → Option (List Key)
  | [] => some []
  | d :: ds => match keyOf d, keysOf ds with
    | some k, some ks => some (k :: ks)
    | _, _ => none
theorem Den.key {K : PySem.W.Frag} {H : Hp} {v : V} {d : Dt} {k : Key} (h : Den K H v d) (e : keyOf d = some k) : v = kV k := by
  cases d <;> first
    | (injection e with e; subst e; exact h.flat rfl)
    | cases e
theorem DenAll.keys {K : PySem.W.Frag} {H : Hp} : ∀ {ds : List Dt} {vs : List V} {ks : List Key}, DenAll K H vs ds → keysOf ds = some ks → vs = ks.map kV
  | [], _, _, .nil, e => by cases e; rfl
  | d :: ds, _, ks, .cons a r, e => by
    unfold keysOf at e
    split at e
    · rename_i k ks' e1 e2
      cases e
      rw [List.map_cons, a.key e1, r.keys e2]
    · cases e
/-- a dict's thing at a key; a dict with a thing more -/
def Ow.get : Ow → Dt → Option (Option Dt)
  | .dk ks ds, y => (keyOf y).map fun k => valD ks ds k
  | .dt ks ds, .tup xs => (keysOf xs).map fun k => valD ks ds k
  | _, _ => none
def Ow.put : Ow → Dt → Dt → Option Ow
  | .dk ks ds, y, z => (keyOf y).map fun k => .dk (putKs ks k) (putVs ks ds k z)
  | .dt ks ds, .tup xs, z => (keysOf xs).map fun k => .dt (putKs ks k) (putVs ks ds k z)
  | _, _, _ => none
def Ow.keysN : Ow → Prop
  | .lst _ => True
  | .dk ks _ => ks.Nodup ∧ ks.length < LINE
  | .dt ks _ => ks.Nodup ∧ ks.length < LINE
/-- data that is a dict -/
def Dt.ow : Dt → Option Ow
  | .dk ks ds => some (.dk ks ds)
  | .dt ks ds => some (.dt ks ds)
  | _ => none
theorem DenO.get {K : PySem.W.Frag} {H H' : Hp} {p : Addr} {u : HO} {w : Ow} {v : V} {y : Dt} {r : Option Dt} (h : DenO K H' u w) (s : Same H' H) (e : H p = some u) (hy : Den K H' v y) (g : w.get y = some r) :
    IsD H p ∧ ((r = none ∧ DGet H p v none) ∨ ∃ d x, r = some d ∧ DGet H p v (some x) ∧ Den K H' x d) := by
  cases h with
  | lst a => cases g
  | @dk ks vs ds l a =>
    obtain ⟨k, e1, rfl⟩ := Option.map_eq_some_iff.mp g
    have ev := hy.key e1
    subst ev
    refine ⟨.inl ⟨_, .inl e⟩, ?_⟩
    rcases a.val (j := k) l with ⟨h1, h2⟩ | ⟨d, x, h1, h2, h3⟩
    · exact .inl ⟨h1, by rw [← h2]; exact .k e⟩
    · exact .inr ⟨d, x, h1, by rw [← h2]; exact .k e, h3⟩
  | @dt ks vs ds l a =>
    cases y with
    | tup xs =>
      obtain ⟨k, e1, rfl⟩ := Option.map_eq_some_iff.mp g
      cases hy with
      | tup hb ax =>
        have ev := ax.keys e1
        subst ev
        refine ⟨.inr ⟨_, .inl e⟩, ?_⟩
        rcases a.val (j := k) l with ⟨h1, h2⟩ | ⟨d, x, h1, h2, h3⟩
        · exact .inl ⟨h1, by rw [← h2]; exact .t e (s _ _ hb)⟩
        · exact .inr ⟨d, x, h1, by rw [← h2]; exact .t e (s _ _ hb), h3⟩
    | _ => cases g
theorem DenO.put {K : PySem.W.Frag} {H H' : Hp} {p : Addr} {u : HO} {w w' : Ow} {v x : V} {y z : Dt} (h : DenO K H' u w) (s : Same H' H) (e : H p = some u) (hy : Den K H' v y) (hz : Den K H' x z) (hn : w.keysN) (g : w.put y z = some w') :
    ∃ u', DPut H p v x (upd H p u') ∧ DenO K H' u' w' := by
  cases h with
  | lst a => cases g
  | @dk ks vs ds l a =>
    obtain ⟨k, e1, rfl⟩ := Option.map_eq_some_iff.mp g
    have ev := hy.key e1
    subst ev
    obtain ⟨vs', h1, h2, h3⟩ := putF_K (j := k) hz hn.1 l a
    refine ⟨_, .k e (by rw [List.length_zip, sizeLine_eq]; exact Nat.lt_of_le_of_lt (Nat.min_le_left _ _) hn.2), ?_⟩
    rw [h1]; exact .dk h2 h3
  | @dt ks vs ds l a =>
    cases y with
    | tup xs =>
      obtain ⟨k, e1, rfl⟩ := Option.map_eq_some_iff.mp g
      cases hy with
      | tup hb ax =>
        have ev := ax.keys e1
        subst ev
        obtain ⟨vs', h1, h2, h3⟩ := putF_K (j := k) hz hn.1 l a
        refine ⟨_, .t e (s _ _ hb) (by rw [List.length_zip, sizeLine_eq]; exact Nat.lt_of_le_of_lt (Nat.min_le_left _ _) hn.2), ?_⟩
        rw [h1]; exact .dt h2 h3
    | _ => cases g
end Mine

namespace Mine
open PySem PySem.Spec PyProof.Rows L2
theorem units1 {k : Nat} {A : Around} (hr : Room k A) : A.units + 1 < cLine := by have := hr.units; omega
/-! ### dicts that are read -/
def BorD : RR := fun C X _ H v d => ∃ w p u, d.ow = some w ∧ v = .ref p ∧ (∀ h c, C.hd = some (h, c) → p ≠ h) ∧ H p = some u ∧ DenO C.K (vis H X) u w
theorem Dt.ow_fz {w : Ow} (h : w.fz.ow.isSome = true) : w.fz.ow = some w := by cases w <;> first | rfl | cases h
theorem Ow.isD {K : PySem.W.Frag} {H H' : Hp} {d : Dt} {w : Ow} {u : HO} {p : Addr} (e : d.ow = some w) (h : DenO K H' u w) (h1 : H p = some u) : IsD H p := by
  cases h with
  | lst a => cases d <;> cases e
  | dk l a => exact .inl ⟨_, .inl h1⟩
  | dt l a => exact .inr ⟨_, .inl h1⟩
/-- a dict by its name, one's own or not -/
def eVarD (i : Nat) : DX := fun env Q _ => match env[i]? with
  | some (.d x) => x.ow.isSome = true ∧ Q x
  | some (.own w) => w.fz.ow.isSome = true ∧ Q w.fz
  | _ => False
/-- any dict -/
def eDic (a : DX) : DX := fun env Q E => a env (fun x => x.ow.isSome = true ∧ Q x) E
def eGet1 (ed ek : DX) : DX := fun env Q E => ed env (fun d => ek env (fun k => ∃ w r, d.ow = some w ∧ w.get k = some r ∧ Q (r.getD .non)) E) E
def eGet2 (ed ek ez : DX) : DX := fun env Q E => ed env (fun d => ek env (fun k => ez env (fun z => ∃ w r, d.ow = some w ∧ w.get k = some r ∧ Q (r.getD z)) E) E) E
def eAtD (ed ek : DX) : DX := fun env Q E => ed env (fun d => ek env (fun k => ∃ w r, d.ow = some w ∧ w.get k = some (some r) ∧ Q r) E) E
def eInD (ek ed : DX) : DX := fun env Q E => ek env (fun k => ed env (fun d => ∃ w r, d.ow = some w ∧ w.get k = some r ∧ Q (.bl r.isSome)) E) E
def eNotInD (ek ed : DX) : DX := fun env Q E => ek env (fun k => ed env (fun d => ∃ w r, d.ow = some w ∧ w.get k = some r ∧ Q (.bl (!r.isSome))) E) E
/-- x = {} -/
def sOwnD (j : Nat) (t : Bool) : DSt := fun d env => d.nx (env.set j (.own (if t = true then .dt [] [] else .dk [] [])))
/-- x[k] = e -/
def sPutD (i : Nat) (ek e : DX) : DSt := fun d env => match env[i]? with
  | some (.own w) => e env (fun y => ek env (fun k => w.keysN ∧ ∃ w', w.put k y = some w' ∧ d.nx (env.set i (.own w'))) (d.xc env)) (d.xc env)
  | _ => False
theorem Den.ow {C : Bc} {X : Addr → Prop} {env : List Sl} {σ : L2.St} {H H1 : Hp} {v : V} {x : Dt} (rp : Rep C X env σ H) (h : Den C.K (vis H X) v x) (e : x.ow.isSome = true) : BorD C X H1 H v x := by
  cases h with
  | dk h l a => exact ⟨_, _, _, rfl, rfl, fun y c q z => (vis_of h).1 (z ▸ rp.hX y c q), vis_sub _ _ h, .dk l a⟩
  | dt h l a => exact ⟨_, _, _, rfl, rfl, fun y c q z => (vis_of h).1 (z ▸ rp.hX y c q), vis_sub _ _ h, .dt l a⟩
  | _ => cases e
section
variable {C : Bc} {td ty tx : TE} {ed ek ez : DX}
theorem dd_var (i : Nat) : DEg BorD C (tVar i) (eVarD i) := by
  intro X env σ H Q Qd Qx rp he q x
  unfold eVarD at he
  split at he
  · rename_i y e
    obtain ⟨h0, he⟩ := he
    obtain ⟨v, e1, h⟩ := rp.at e
    exact ⟨v, e1, q _ v H (.refl H) (h.ow rp h0) he⟩
  · rename_i w e
    obtain ⟨h0, he⟩ := he
    obtain ⟨p, u, es, x1, x2, h1, h2⟩ := rp.ownAtO e
    exact ⟨_, es, q _ _ H (.refl H) ⟨w, p, u, Dt.ow_fz h0, rfl, rp.nh x2, h1, h2⟩ he⟩
  · exact he.elim
theorem dd_of {t : TE} {e : DX} (h : DE C t e) : DEg BorD C t (eDic e) := fun X env σ H Q Qd Qx rp he q x =>
  h X env σ H _ _ Qx rp he (fun d v H1 f1 r1 h1 => q d v H1 f1 (Den.ow (rp.step f1) r1 h1.1) h1.2) x
theorem de_get1 (hd : DEg BorD C td ed) (hk : DE C ty ek) : DE C (tDGet1 td ty) (eGet1 ed ek) := by
  intro X env σ H Q Qd Qx rp he q x
  refine hd X env σ H _ _ Qx rp he (fun d v H1 f1 ⟨w, p, u, e1, ev, n, h1, h2⟩ he1 => ?_) x
  refine ⟨p, ev, Ow.isD e1 h2 h1, ?_⟩
  refine hk X env σ H1 _ _ Qx (rp.step f1) he1 (fun k y H2 f2 r2 he2 => ?_) (x.step f1)
  obtain ⟨w', r, e2, g, he2⟩ := he2
  rw [e1] at e2; cases e2
  have h3 := f2.1 p _ h1 n
  have h4 := h2.mono ((rp.step f1).vs f2)
  rcases (h4.get vis_sub h3 r2 g).2 with ⟨rfl, dg⟩ | ⟨d', x', rfl, dg, den⟩
  · exact ⟨none, dg, q _ _ H2 (f1.trans f2) .non he2⟩
  · exact ⟨some x', dg, q _ _ H2 (f1.trans f2) den he2⟩
theorem de_get2 (hd : DEg BorD C td ed) (hk : DE C ty ek) (hz : DE C tx ez) : DE C (tDGet2 td ty tx) (eGet2 ed ek ez) := by
  intro X env σ H Q Qd Qx rp he q x
  refine hd X env σ H _ _ Qx rp he (fun d v H1 f1 ⟨w, p, u, e1, ev, n, h1, h2⟩ he1 => ?_) x
  refine ⟨p, ev, Ow.isD e1 h2 h1, ?_⟩
  refine hk X env σ H1 _ _ Qx (rp.step f1) he1 (fun k y H2 f2 r2 he2 => ?_) (x.step f1)
  refine hz X env σ H2 _ _ Qx ((rp.step f1).step f2) he2 (fun z zv H3 f3 r3 he3 => ?_) ((x.step f1).step f2)
  obtain ⟨w', r, e2, g, he3⟩ := he3
  rw [e1] at e2; cases e2
  have h3 := f3.1 p _ (f2.1 p _ h1 n) n
  have h4 := (h2.mono ((rp.step f1).vs f2)).mono (((rp.step f1).step f2).vs f3)
  have r4 : Den C.K (vis H3 X) y k := Den.mono (((rp.step f1).step f2).vs f3) r2
  rcases (h4.get vis_sub h3 r4 g).2 with ⟨rfl, dg⟩ | ⟨d', x', rfl, dg, den⟩
  · exact ⟨none, dg, q _ _ H3 (f1.trans (f2.trans f3)) r3 he3⟩
  · exact ⟨some x', dg, q _ _ H3 (f1.trans (f2.trans f3)) den he3⟩
theorem de_atD (hd : DEg BorD C td ed) (hk : DE C ty ek) : DE C (tDGet td ty) (eAtD ed ek) := by
  intro X env σ H Q Qd Qx rp he q x
  refine hd X env σ H _ _ Qx rp he (fun d v H1 f1 ⟨w, p, u, e1, ev, n, h1, h2⟩ he1 => ?_) x
  refine hk X env σ H1 _ _ Qx (rp.step f1) he1 (fun k y H2 f2 r2 he2 => ?_) (x.step f1)
  obtain ⟨w', r, e2, g, he2⟩ := he2
  rw [e1] at e2; cases e2
  have h3 := f2.1 p _ h1 n
  have h4 := h2.mono ((rp.step f1).vs f2)
  rcases (h4.get vis_sub h3 r2 g).2 with ⟨c, _⟩ | ⟨d', x', c, dg, den⟩
  · cases c
  · cases c; exact ⟨p, x', ev, dg, q _ _ H2 (f1.trans f2) den he2⟩
theorem de_inD (hk : DE C ty ek) (hd : DEg BorD C td ed) : DE C (tDIn ty td) (eInD ek ed) := by
  intro X env σ H Q Qd Qx rp he q x
  refine hk X env σ H _ _ Qx rp he (fun k y H1 f1 r1 he1 => ?_) x
  refine hd X env σ H1 _ _ Qx (rp.step f1) he1 (fun d v H2 f2 ⟨w, p, u, e1, ev, n, h1, h2⟩ he2 => ?_) (x.step f1)
  obtain ⟨w', r, e2, g, he2⟩ := he2
  rw [e1] at e2; cases e2
  have r2 : Den C.K (vis H2 X) y k := Den.mono ((rp.step f1).vs f2) r1
  rcases (h2.get vis_sub h1 r2 g).2 with ⟨rfl, dg⟩ | ⟨d', x', rfl, dg, den⟩
  · exact ⟨p, none, ev, dg, q _ _ H2 (f1.trans f2) (.bl _) he2⟩
  · exact ⟨p, some x', ev, dg, q _ _ H2 (f1.trans f2) (.bl _) he2⟩
theorem de_notInD (hk : DE C ty ek) (hd : DEg BorD C td ed) : DE C (tDNotIn ty td) (eNotInD ek ed) := by
  intro X env σ H Q Qd Qx rp he q x
  refine hk X env σ H _ _ Qx rp he (fun k y H1 f1 r1 he1 => ?_) x
  refine hd X env σ H1 _ _ Qx (rp.step f1) he1 (fun d v H2 f2 ⟨w, p, u, e1, ev, n, h1, h2⟩ he2 => ?_) (x.step f1)
  obtain ⟨w', r, e2, g, he2⟩ := he2
  rw [e1] at e2; cases e2
  have r2 : Den C.K (vis H2 X) y k := Den.mono ((rp.step f1).vs f2) r1
  rcases (h2.get vis_sub h1 r2 g).2 with ⟨rfl, dg⟩ | ⟨d', x', rfl, dg, den⟩
  · exact ⟨p, none, ev, dg, q _ _ H2 (f1.trans f2) (.bl _) he2⟩
  · exact ⟨p, some x', ev, dg, q _ _ H2 (f1.trans f2) (.bl _) he2⟩
theorem dst_ownK {j : Nat} : DS C (tAsg tDNewK (gName j)) (sOwnD j false) := by
  intro X env σ H D d r l h p n
  refine l.nx _ _ _ _ (r.setOwn (.upd n) n j upd_same (.dk (ks := []) (vs := []) rfl .nil)) (fun a o q => ?_) h
  obtain ⟨n1, e1⟩ := vis_of q
  exact vis_mk (fun z => z.elim n1 (ne_of_none e1 n)) (by rw [upd_ne (ne_of_none e1 n)]; exact e1)
theorem dst_ownT {j : Nat} : DS C (tAsg tDNewT (gName j)) (sOwnD j true) := by
  intro X env σ H D d r l h p n
  refine l.nx _ _ _ _ (r.setOwn (.upd n) n j upd_same (.dt (ks := []) (vs := []) rfl .nil)) (fun a o q => ?_) h
  obtain ⟨n1, e1⟩ := vis_of q
  exact vis_mk (fun z => z.elim n1 (ne_of_none e1 n)) (by rw [upd_ne (ne_of_none e1 n)]; exact e1)
theorem dst_putD {i : Nat} (he : DE C tx ez) (hk : DE C ty ek) : DS C (sDPut (tVar i) ty tx) (sPutD i ek ez) := by
  intro X env σ H D d r l h
  unfold sPutD at h
  split at h
  · rename_i w ei
    refine he X env σ H _ _ _ r h (fun y v H1 f1 r1 hy => ?_) (l.xok r)
    obtain ⟨p, u, es, x1, x2, h1, h2⟩ := (r.step f1).ownAtO ei
    refine ⟨_, es, ?_⟩
    refine hk X env σ H1 _ _ _ (r.step f1) hy (fun k kv H2 f2 r2 hk2 => ?_) ((l.xok r).step f1)
    obtain ⟨kn, w', g, hn⟩ := hk2
    have rp2 := (r.step f1).step f2
    have h3 := f2.1 p _ h1 (r.nh x2)
    have h4 := h2.mono ((r.step f1).vs f2)
    obtain ⟨u', dp, dn⟩ := h4.put vis_sub h3 r2 (Den.mono ((r.step f1).vs f2) r1) kn g
    obtain ⟨r3, sm⟩ := rp2.own ei es x1 x2 dn
    exact ⟨p, _, rfl, dp, l.nx _ _ _ _ r3 ((r.vs f1).trans (((r.step f1).vs f2).trans sm)) hn⟩
  · exact h.elim
end
end Mine

namespace Mine
open PySem PySem.Spec PyProof.Rows L2
theorem mkI_W (cls : Str) (np N : Nat) (s : DSt) {args} {Q} {E} : mkI cls np N s args Q E = (args.length + 1 = np ∧ s ⟨fun (env : List Sl) => match env[0]? with
  | some (Sl.ins C ns ds) => Q (.ins C ns ds)
  | _ => False, fun _ => False, fun _ => False, fun _ => False, fun _ x => E x⟩ (.ins cls [] [] :: (args ++ List.replicate (N - np) .no))) := rfl
theorem mkI0_W (cls : Str) (np N : Nat) (s : DSt) {args} {Q} {E} : mkI0 cls np N s args Q E = (args.length + 1 = np ∧ s ⟨fun (env : List Sl) => match env[0]? with
  | some (Sl.ins C ns ds) => Q (.ins C ns ds)
  | _ => False, fun _ => False, fun _ => False, fun _ => False, fun _ _ => False⟩ (.ins cls [] [] :: (args ++ List.replicate (N - np) .no))) := rfl
theorem eFld_W (tab : Str → Str → Bool) (f : Str) (a : DX) {env} {Q} {E} : eFld tab f a env Q E = (a env (fun d => match d with
  | .ins C ns ds => tab C f = true ∧ ∃ x, (ns.zip ds).lookup f = some x ∧ Q x
  | _ => False) E) := rfl
theorem eFldS_W (tab : Str → Str → Bool) (f : Str) (i : Nat) {env} {Q} {u2} : eFldS tab f i env Q u2 = (match env[i]? with
  | some (.ins C ns ds) => tab C f = true ∧ ∃ x, (ns.zip ds).lookup f = some x ∧ Q x
  | _ => False) := rfl
theorem sSetF_W (tab : Str → Str → Bool) (f : Str) (i : Nat) (e : DX) {d} {env} : sSetF tab f i e d env = (match env[i]? with
  | some (.ins C ns ds) => e env (fun y => tab C f = true ∧ i = 0 ∧ ns.length < 900 ∧ d.nx (env.set i (.ins C (putNs f ns) (putDs f y ns ds)))) (d.xc env)
  | _ => False) := rfl
theorem eMeth_W (c m : Str) (F : DFn) (dd : List Sl) (a : DX) (r : DSX) {env} {Q} {E} : eMeth c m F dd a r env Q E = (a env (fun d => match d with
  | .ins c' ns ds => c' = c ∧ (ns.zip ds).lookup m = none ∧ r env (fun ss => F (.d (.ins c' ns ds) :: (ss ++ dd)) Q E) E
  | _ => False) E) := rfl
theorem eMeth0_W (c m : Str) (F : DFn) (dd : List Sl) (a : DX) (r : DSX) {env} {Q} {E} : eMeth0 c m F dd a r env Q E = (a env (fun d => match d with
  | .ins c' ns ds => c' = c ∧ (ns.zip ds).lookup m = none ∧ r env (fun ss => F (.d (.ins c' ns ds) :: (ss ++ dd)) Q fun _ => False) E
  | _ => False) E) := rfl
theorem eProp_W (c : Str) (F : DFn) (a : DX) {env} {Q} {E} : eProp c F a env Q E = (a env (fun d => match d with
  | .ins c' ns ds => c' = c ∧ F [.d (.ins c' ns ds)] Q fun _ => False
  | _ => False) E) := rfl
theorem eVarD_W (i : Nat) {env} {Q} {u2} : eVarD i env Q u2 = (match env[i]? with
  | some (.d x) => x.ow.isSome = true ∧ Q x
  | some (.own w) => w.fz.ow.isSome = true ∧ Q w.fz
  | _ => False) := rfl
theorem eDic_W (a : DX) {env} {Q} {E} : eDic a env Q E = (a env (fun x => x.ow.isSome = true ∧ Q x) E) := rfl
theorem eGet1_W (ed ek : DX) {env} {Q} {E} : eGet1 ed ek env Q E = (ed env (fun d => ek env (fun k => ∃ w r, d.ow = some w ∧ w.get k = some r ∧ Q (r.getD .non)) E) E) := rfl
theorem eGet2_W (ed ek ez : DX) {env} {Q} {E} : eGet2 ed ek ez env Q E = (ed env (fun d => ek env (fun k => ez env (fun z => ∃ w r, d.ow = some w ∧ w.get k = some r ∧ Q (r.getD z)) E) E) E) := rfl
theorem eAtD_W (ed ek : DX) {env} {Q} {E} : eAtD ed ek env Q E = (ed env (fun d => ek env (fun k => ∃ w r, d.ow = some w ∧ w.get k = some (some r) ∧ Q r) E) E) := rfl
theorem eInD_W (ek ed : DX) {env} {Q} {E} : eInD ek ed env Q E = (ek env (fun k => ed env (fun d => ∃ w r, d.ow = some w ∧ w.get k = some r ∧ Q (.bl r.isSome)) E) E) := rfl
theorem eNotInD_W (ek ed : DX) {env} {Q} {E} : eNotInD ek ed env Q E = (ek env (fun k => ed env (fun d => ∃ w r, d.ow = some w ∧ w.get k = some r ∧ Q (.bl (!r.isSome))) E) E) := rfl
theorem sOwnD_W (j : Nat) (t : Bool) {d} {env} : sOwnD j t d env = (d.nx (env.set j (.own (if t = true then .dt [] [] else .dk [] [])))) := rfl
theorem sPutD_W (i : Nat) (ek e : DX) {d} {env} : sPutD i ek e d env = (match env[i]? with
  | some (.own w) => e env (fun y => ek env (fun k => w.keysN ∧ ∃ w', w.put k y = some w' ∧ d.nx (env.set i (.own w'))) (d.xc env)) (d.xc env)
  | _ => False) := rfl
theorem eIsI_W (tab : Str → Option Bool) (a : DX) {env} {Q} {E} : eIsI tab a env Q E = (a env (fun d => match d with
  | .ins c _ _ => ∃ b, tab c = some b ∧ Q (.bl b)
  | d => d.kind.isSome = true ∧ Q (.bl false)) E) := rfl
end Mine

namespace Mine
open PySem PySem.Spec PyProof.Rows L2
/-! ### C.m(..), m a static method -/
/-- C's attributes are read the usual way; C.m is a static method, its def at g -/
structure StaOf (K : PySem.W.Frag) (C : Addr) (m : Str) (g : Addr) : Prop where
  rd : PySem.W.readsIn K C (.type "type") = true
  ga : PySem.W.specialIn K (.ref C) "__getattribute__" = some (some (.builtin "type.__getattribute__"))
  at_ : ∃ p, PySem.W.findCls K (.ref C) (.type "type") m = some (.get (.builtin "staticmethod.__get__") (.ref p) .none (.ref C)) ∧ ∃ rest, PySem.W.recIn K p "staticmethod" = some (.ref g :: rest)
def staB (C m : Str) (K : PySem.W.Frag) : Bool := PySem.W.readsIn K (He.ga K C) (.type "type") && (He.eqO (PySem.W.specialIn K (.ref (He.ga K C)) "__getattribute__") (some (some (.builtin "type.__getattribute__"))) && He5.wrapB K (He.ga K C) "staticmethod" "staticmethod.__get__" m)
theorem staB_ok {K : PySem.W.Frag} {C m : Str} (h : staB C m K = true) : StaOf K (He.ga K C) m (He5.wf K (He.ga K C) "staticmethod" m) := by
  obtain ⟨h1, h⟩ := He.ba h
  obtain ⟨h2, h3⟩ := He.ba h
  obtain ⟨h4, h5⟩ := He5.wrapB_ok h3
  exact ⟨h1, He.eqO_ok h2, _, h4, h5⟩
section
variable {X : Cx} {CX : CXT} {k : Nat} {C g : Addr} {sp : Sp} {E : XK} {e : Expr} {es : List Expr} {x m : Str} {pos apos p0 : Pos} {t : TA} {pl : Sem Bool} {fd : FuncData} {ps : List Str} {ds : List Value} {dvs : List V}
theorem pe_scall (so : StaOf X.K C m g) (hg : Gl X x) (hm : X.mg x = some (.ref C)) (F : FnOk X.prog X.w X.K X.mg X.base CX k g fd ps sp) (hr : Room k X.A) (hk : PySem.W.keepIn X.K (.ref g) = true) (hb : Binds X.K fd ps ds) (hd : Vals dvs ds) (hx : Passes CX X E) (ha : PA X (e :: es) t)
    (hdb : (x == ("__debug__" : Str)) = false := by decide)
    (hst : starEach (e :: es) X.env = (false, eval e X.env) :: starEach es X.env := by rfl) (hpl : (backTo pos (starEach es X.env)).any (·.1) = false := by rfl)
    (ht : eval (.Call (.Attribute (.Name x p0) m apos) (e :: es) [] pos) X.env = (do
      let ov ← eval (.Name x p0) X.env
      standAt apos.atName
      let (f, first) ← holding [ov] (getMethod ov m pl)
      callWith pos f first (backTo pos (starEach (e :: es) X.env)) (backToKw pos (keywordEach [] X.env))) := by rfl) :
    PE X (.Call (.Attribute (.Name x p0) m apos) (e :: es) [] pos) (tCall sp dvs E t) := by
  refine ⟨fun pins s σ H Q I h => ?_⟩
  refine PySem.W.methodCall_KW (pl := pl) (ld_glob I hg hm ?_ hdb) ht
  obtain ⟨pp, h1, rest, h2⟩ := so.at_
  refine PySem.W.method_cls I.kIn so.ga (PySem.W.cls_bind I.kIn so.rd h1 (wpAny_call (PySem.W.sm_get (s := { s with toks := s.toks + 1 }) I.kIn h2 (PySem.W.handed_on rfl ?_))))
  have I1 : Inv X pins σ H { s with toks := s.toks + 1 } := I.tok _
  refine PySem.W.callWith_K (h₀ := X.base) I.ok.mod.kin hk (thn (ha.run pos pins _ σ H _ I1 h) fun us s1 ⟨vs, H1, I2, r, q⟩ => ⟨I2.kIn, ?_⟩) hst hpl
  exact run_fn F hr hb hd hx I2 r q
end
end Mine

namespace Mine
open PySem PySem.Spec PyProof.Rows L2
/-! ### range(a, b, -1) -/
def eRngD (a : DAX) : DAX := fun env Q E => a env (fun ds => match ds with
  | [.int i, .int j, .int c] => c = -1 ∧ (-(2 ^ 62) ≤ i ∧ i < 2 ^ 62 ∧ -(2 ^ 62) ≤ j ∧ j < 2 ^ 62) ∧ Q ((List.range (i - j).toNat).map fun k => .int (i - (k : Nat)))
  | _ => False) E
theorem eRngD_W (a : DAX) {env} {Q} {E} : eRngD a env Q E = (a env (fun ds => match ds with
  | [.int i, .int j, .int c] => c = -1 ∧ (-(2 ^ 62) ≤ i ∧ i < 2 ^ 62 ∧ -(2 ^ 62) ≤ j ∧ j < 2 ^ 62) ∧ Q ((List.range (i - j).toNat).map fun k => .int (i - (k : Nat)))
  | _ => False) E) := rfl
section
variable {C : Bc} {S : SS} {ta : TA} {ea : DAX}
theorem walk_rngD {X : Addr → Prop} {H1 : Hp} (lo : Int) (n : Nat) : WalkD S C X H1 (Itc lo (-1) n) ((List.range n).map fun k => .int (lo - (k : Nat))) := by
  intro Y i H s
  rw [List.length_map, List.length_range]
  refine ⟨fun hi => ⟨hi, fun x H' ⟨e, hx⟩ => ?_⟩, fun hi => Nat.le_of_eq hi.symm⟩
  subst e hx
  refine ⟨Same.refl _, _, by rw [List.getElem?_map, List.getElem?_range hi]; rfl, ?_⟩
  rw [show lo + (i : Int) * (-1) = lo - (i : Int) by omega]
  exact .int _
theorem di_rngD (h : DAb C ta ea) : DIg S C (iRng3 ta) (eRngD ea) := by
  intro X env σ H Rr Qd Qx rp he q x
  refine h X env σ H _ _ Qx rp he (fun ds vs H1 f1 ra he1 => ?_) x
  split at he1
  · obtain ⟨rfl, ⟨b1, b2, b3, b4⟩, he1⟩ := he1
    cases ra with
    | cons r1 ra =>
      cases ra with
      | cons r2 ra =>
        cases ra with
        | cons r3 ra =>
          cases ra
          exact ⟨_, _, _, _, by rw [r1.int, r2.int, r3.int], RgC.neg b1 b2 b3 b4, q _ _ H1 f1 (walk_rngD _ _) he1⟩
  · exact he1.elim
end
/-! ### isinstance of one's own classes: what of the text it asks -/
structure InsK (K : PySem.W.Frag) (C : Addr) : Prop where
  ha : PySem.W.findIn K (.ref C) "__class__" = some (some (.builtin "object.__class__"))
  hn : PySem.W.specialIn K (.builtin "object.__class__") "__get__" = some (some (.builtin "getset_descriptor.__get__"))
  htk : PySem.W.takesIn K (.builtin "object.__class__") = some true
  hm : PySem.W.mroIn K C (.type "object") = some true
def insB (C : Str) (K : PySem.W.Frag) : Bool := He.eqO (PySem.W.findIn K (.ref (He.ga K C)) "__class__") (some (some (.builtin "object.__class__"))) && (He.eqO (PySem.W.specialIn K (.builtin "object.__class__") "__get__") (some (some (.builtin "getset_descriptor.__get__"))) &&
  (decide (PySem.W.takesIn K (.builtin "object.__class__") = some true) && decide (PySem.W.mroIn K (He.ga K C) (.type "object") = some true)))
theorem insB_ok {C : Str} {K : PySem.W.Frag} (h : insB C K = true) : InsK K (He.ga K C) := by
  obtain ⟨h1, h⟩ := He.ba h
  obtain ⟨h2, h⟩ := He.ba h
  obtain ⟨h3, h4⟩ := He.ba h
  exact ⟨He.eqO_ok h1, He.eqO_ok h2, of_decide_eq_true h3, of_decide_eq_true h4⟩
abbrev kinds7 : List Str := ["NoneType", "bool", "int", "str", "tuple", "list", "dict"]
def kinB (C : Str) (K : PySem.W.Frag) : Bool := decide (PySem.W.kitOne K (.type "NoneType") (.ref (He.ga K C)) = some false) && (decide (PySem.W.kitOne K (.type "bool") (.ref (He.ga K C)) = some false) && (decide (PySem.W.kitOne K (.type "int") (.ref (He.ga K C)) = some false) &&
  (decide (PySem.W.kitOne K (.type "str") (.ref (He.ga K C)) = some false) && (decide (PySem.W.kitOne K (.type "tuple") (.ref (He.ga K C)) = some false) && (decide (PySem.W.kitOne K (.type "list") (.ref (He.ga K C)) = some false) && decide (PySem.W.kitOne K (.type "dict") (.ref (He.ga K C)) = some false))))))
def KinOk (K : PySem.W.Frag) (C : Addr) : Prop := ∀ n, n ∈ ["NoneType", "bool", "int", "str", "tuple", "list", "dict"] → PySem.W.kitOne K (.type n) (.ref C) = some false
theorem kinB_ok {C : Str} {K : PySem.W.Frag} (h : kinB C K = true) : KinOk K (He.ga K C) := by
  obtain ⟨h1, h⟩ := He.ba h
  obtain ⟨h2, h⟩ := He.ba h
  obtain ⟨h3, h⟩ := He.ba h
  obtain ⟨h4, h⟩ := He.ba h
  obtain ⟨h5, h⟩ := He.ba h
  obtain ⟨h6, h7⟩ := He.ba h
  intro n hn
  simp only [List.mem_cons, List.not_mem_nil, or_false] at hn
  rcases hn with rfl | rfl | rfl | rfl | rfl | rfl | rfl
  · exact of_decide_eq_true h1
  · exact of_decide_eq_true h2
  · exact of_decide_eq_true h3
  · exact of_decide_eq_true h4
  · exact of_decide_eq_true h5
  · exact of_decide_eq_true h6
  · exact of_decide_eq_true h7
theorem tyx_ins {K : PySem.W.Frag} {C : Addr} (c : Cls K C) (i : InsK K C) (H : Hp) (a dx : Addr) (fs : List (Str × V)) (e : H a = some (.ins C dx fs)) : TyX K H (.ref a) (.ref C) := .base (.ins e c i.ha i.hn i.htk i.hm)
theorem pe_fldU {X : Cx} {K : PySem.W.Frag} {e : Expr} {f : Str} {pos : Pos} {ta : TE} (eK : X.K = K) (he : PE X e ta) (hb : attributeBase e f X.env (eval e X.env) = eval e X.env) : PE X (.Attribute e f pos) (tFld K ta f) := eK ▸ pe_fld he hb
/-! ### within a try: makings, methods, static methods -/
section
variable {X : Cx} {CX : CXT} {k : Nat} {f C g : Addr} {fd : FuncData} {ps : List Str} {sp : Sp} {dvs : List V} {ds : List Value} {E : L2.St → XK} {x m : Str} {p pos apos p0 : Pos} {e o : Expr} {es : List Expr} {ta : TE} {t : TA} {pl : Sem Bool}
def tMakeS (C : Addr) (sp : Sp) (dvs : List V) (E : L2.St → XK) (t : TA) : TE := fun σ H Q => t σ H fun vs H1 => ∀ x dx, H1 x = none → H1 dx = none → dx ≠ x →
  sp (.ref x :: (vs ++ dvs)) (upd (upd H1 dx (.own x)) x (.ins C dx [])) (fun v H2 => v = .non ∧ Q (.ref x) H2) (E σ)
def tMethS (C : Addr) (m : Str) (sp : Sp) (dvs : List V) (E : L2.St → XK) (ta : TE) (t : TA) : TE := fun σ H Q => ta σ H fun x H1 => ∃ a dx fs, x = .ref a ∧ H1 a = some (.ins C dx fs) ∧ fs.lookup m = none ∧
  t σ H1 fun vs H2 => sp (x :: (vs ++ dvs)) H2 Q (E σ)
theorem run_makeS {pins : List (Addr × Obj)} {σ : L2.St} {H : Hp} {s : Shared} {Q : VK} {us : List Value} {vs : List V} (M : Mk X.K C f) (F : FnOk X.prog X.w X.K X.mg X.base CX k f fd ps sp) (hr : Room (k + 1) X.A) (hb : Binds X.K fd ps ds) (hd : Vals dvs ds)
    (hx : PassesAt CX X σ (E σ)) (I : Inv X pins σ H s) (r : Vals vs us)
    (h : ∀ x dx, H x = none → H dx = none → dx ≠ x → sp (.ref x :: (vs ++ dvs)) (upd (upd H dx (.own x)) x (.ins C dx [])) (fun v H2 => v = .non ∧ Q (.ref x) H2) (E σ)) :
    wpAny (model X.prog X.w) X.A (call (.ref C) us) (EP X pins σ Q) X.xe s := by
  have hq := h (s.heap.objs.size + 1) s.heap.objs.size (I.hok.fresh (Nat.le_succ _)) (I.hok.fresh (Nat.le_refl _)) (Nat.ne_of_lt (Nat.lt_succ_self _))
  have I2 := Inv.made (C := C) I
  have r2 : Vals (V.ref (s.heap.objs.size + 1) :: (vs ++ dvs)) (Value.ref (s.heap.objs.size + 1) :: (us ++ ds)) := .cons rfl (r.append hd)
  have hl : (Value.ref (s.heap.objs.size + 1) :: us ++ ds).length = ps.length := by
    have e := r2.length
    rw [F.len _ _ _ _ hq] at e
    exact e.symm
  refine wpAny_call (make_map (f := f) I.kIn M.makes M.init (beq_iff_eq.mp M.fn) (codeAny_mono (F.run _ X.stack _ _ ⟨Value.ref (s.heap.objs.size + 1) :: us, []⟩ (Value.ref (s.heap.objs.size + 1) :: (us ++ ds)) _ _ (E σ) (hr.make C us [])
    (I2.env0.make C us []) (hb _ (Value.ref (s.heap.objs.size + 1) :: us) I2.kIn hl) r2 hq) fun r s' hq' => ?_))
  cases r with
  | error e => exact hx pins _ _ e s' I2 hq'
  | ok fl =>
    cases fl with
    | ret u =>
      obtain ⟨v, H', I3, rv, ev, q3⟩ := I2.after hq'
      subst ev
      exact ⟨rv, ⟨V.ref (s.heap.objs.size + 1), H', I3, rfl, q3⟩⟩
    | next => exact False.elim hq'
    | brk => exact False.elim hq'
    | cont => exact False.elim hq'
theorem pe_makeS (M : Mk X.K C f) (F : FnOk X.prog X.w X.K X.mg X.base CX k f fd ps sp) (hr : Room (k + 1) X.A) (hg : Gl X x) (hm : X.mg x = some (.ref C)) (hb : Binds X.K fd ps ds) (hd : Vals dvs ds) (hx : ∀ σ, PassesAt CX X σ (E σ))
    (ha : PA X (e :: es) t) (hdb : (x == ("__debug__" : Str)) = false := by decide) (he : starEach (e :: es) X.env = (false, eval e X.env) :: starEach es X.env := by rfl) (hpl : (backTo pos (starEach es X.env)).any (·.1) = false := by rfl) :
    PE X (.Call (.Name x p) (e :: es) [] pos) (tMakeS C sp dvs E t) := by
  refine ⟨fun pins s σ H Q I h => ?_⟩
  refine wpAny_Call_Name_kw (ld_glob I hg hm ?_ hdb)
  refine PySem.W.callWith_K (h₀ := X.base) I.ok.mod.kin M.kp (thn (ha.run pos pins s σ H _ I h) fun us s1 ⟨vs, H1, I1, r, q⟩ => ⟨I1.kIn, ?_⟩) he hpl
  exact run_makeS M F hr hb hd (hx σ) I1 r q
theorem pe_methS (he : PE X o ta) (c : Cls X.K C) (hm : Meth X.K C m f) (F : FnOk X.prog X.w X.K X.mg X.base CX k f fd ps sp) (hr : Room k X.A) (hb : Binds X.K fd ps ds) (hd : Vals dvs ds) (hx : ∀ σ, PassesAt CX X σ (E σ)) (ha : PA X (e :: es) t)
    (hst : starEach (e :: es) X.env = (false, eval e X.env) :: starEach es X.env := by rfl) (hpl : (backTo pos (starEach es X.env)).any (·.1) = false := by rfl)
    (ht : eval (.Call (.Attribute o m apos) (e :: es) [] pos) X.env = (do
      let ov ← eval o X.env
      standAt apos.atName
      let (f, first) ← holding [ov] (getMethod ov m pl)
      callWith pos f first (backTo pos (starEach (e :: es) X.env)) (backToKw pos (keywordEach [] X.env))) := by rfl) :
    PE X (.Call (.Attribute o m apos) (e :: es) [] pos) (tMethS C m sp dvs E ta t) := by
  refine ⟨fun pins s σ H Q I h => ?_⟩
  refine PySem.W.methodCall_KW (pl := pl) (thn (he.run pins s σ H _ I h) fun u s1 ⟨x, H1, I1, rx, a, dx, fs, ex, ea, l, q⟩ => ?_) ht
  subst ex
  obtain rfl : u = Value.ref a := rx
  refine getmeth_ok I1 ea c hm l ?_
  refine PySem.W.callWith_K (first := [.ref a]) (h₀ := X.base) I.ok.mod.kin hm.kp (thn (ha.run pos pins s1 σ H1 _ I1 q) fun us s2 ⟨vs, H2, I2, r, q2⟩ => ⟨I2.kIn, ?_⟩) hst hpl
  exact run_fnSD (us := .ref a :: us) (vs := .ref a :: vs) F hr hb hd (hx σ) I2 (.cons rfl r) q2
theorem pe_scallS (so : StaOf X.K C m g) (hg : Gl X x) (hm : X.mg x = some (.ref C)) (F : FnOk X.prog X.w X.K X.mg X.base CX k g fd ps sp) (hr : Room k X.A) (hk : PySem.W.keepIn X.K (.ref g) = true) (hb : Binds X.K fd ps []) (hx : ∀ σ, PassesAt CX X σ (E σ)) (ha : PA X (e :: es) t)
    (hdb : (x == ("__debug__" : Str)) = false := by decide)
    (hst : starEach (e :: es) X.env = (false, eval e X.env) :: starEach es X.env := by rfl) (hpl : (backTo pos (starEach es X.env)).any (·.1) = false := by rfl)
    (ht : eval (.Call (.Attribute (.Name x p0) m apos) (e :: es) [] pos) X.env = (do
      let ov ← eval (.Name x p0) X.env
      standAt apos.atName
      let (f, first) ← holding [ov] (getMethod ov m pl)
      callWith pos f first (backTo pos (starEach (e :: es) X.env)) (backToKw pos (keywordEach [] X.env))) := by rfl) :
    PE X (.Call (.Attribute (.Name x p0) m apos) (e :: es) [] pos) (tCallS sp E t) := by
  refine ⟨fun pins s σ H Q I h => ?_⟩
  refine PySem.W.methodCall_KW (pl := pl) (ld_glob I hg hm ?_ hdb) ht
  obtain ⟨pp, h1, rest, h2⟩ := so.at_
  refine PySem.W.method_cls I.kIn so.ga (PySem.W.cls_bind I.kIn so.rd h1 (wpAny_call (PySem.W.sm_get (s := { s with toks := s.toks + 1 }) I.kIn h2 (PySem.W.handed_on rfl ?_))))
  have I1 : Inv X pins σ H { s with toks := s.toks + 1 } := I.tok _
  refine PySem.W.callWith_K (h₀ := X.base) I.ok.mod.kin hk (thn (ha.run pos pins _ σ H _ I1 h) fun us s1 ⟨vs, H1, I2, r, q⟩ => ⟨I2.kIn, ?_⟩) hst hpl
  exact run_fnS F hr hb (hx σ) I2 r q
end
section
variable {C : Bc} {F : DFn} {cls c m : Str} {dvs : List V} {dd : List Sl} {t : TA} {a : DSX} {te : TE} {ea : DX}
theorem de_makeS {E : L2.St → XK} (hE : C.E = E) (hd : Dvs dvs dd) (ha : DAs C t a) : DE C (tMakeS (He.ga C.K cls) (spI C.K cls F) dvs E t) (eCall F dd a) := by
  intro X env σ H Q Qd Qx rp he q x
  refine ha X env σ H _ _ Qx rp he (fun ss vs H1 f1 r1 he1 => ?_) x
  intro p dx np nd ne
  have rp1 := rp.step f1
  refine ⟨p, dx, vs ++ dvs, H1, X, C.hd, ss ++ dd, Qd, Qx, rfl, np, nd, ne, rfl, rp1.al, fun h c e => ⟨rp1.hX h c e, (rp1.hands h c e).2.2⟩, SlAll.append r1 (hd C.K C.hd X H1), he1, fun d H' f den qd => ⟨rfl, q d _ H' (f1.trans f) den qd⟩, fun y cls' dx' H' f r z => ?_⟩
  have := x y cls' dx' H' (f1.trans f) r z
  rw [hE] at this
  exact this
theorem de_methS {E : L2.St → XK} (hE : C.E = E) (hd : Dvs dvs dd) (ho : DE C te ea) (ha : DAs C t a) : DE C (tMethS (He.ga C.K c) m (spD C.K F) dvs E te t) (eMeth c m F dd ea a) := by
  intro X env σ H Q Qd Qx rp he q x
  refine ho X env σ H _ _ Qx rp he (fun d v H1 f1 r1 h1 => ?_) x
  split at h1
  · rename_i c' ns ds
    obtain ⟨rfl, h2, h3⟩ := h1
    have rp1 := rp.step f1
    have r1 : Den C.K (vis H1 X) v (.ins c' ns ds) := r1
    have r1' := r1
    cases r1 with
    | @ins p dx _ _ vs _ hp hl al =>
      refine ⟨p, dx, _, rfl, vis_sub _ _ hp, al.lookN h2, ?_⟩
      refine ha X env σ H1 _ _ Qx rp1 h3 (fun ss us H2 f2 r2 h4 => ?_) (x.step f1)
      exact spD_use (rp1.step f2) (.d (r1'.mono (rp1.vs f2)) (SlAll.append r2 (hd C.K C.hd X H2))) h4 (fun d v H' f h => q d v H' (f1.trans (f2.trans f)) h) fun y cls dx H' f r z => by
        have := x y cls dx H' (f1.trans (f2.trans f)) r z
        rw [hE] at this
        exact this
  · exact h1.elim
end
end Mine

namespace Mine
open PySem PySem.Spec PyProof.Rows L2
/-! ### the pure part: rules -/
theorem iteQ {c : Prop} [Decidable c] {a b : Prop} (h : c → a) (k : ¬ c → b) : if c then a else b := by
  split
  · exact h (by assumption)
  · exact k (by assumption)
/-- a loop by an invariant over the number of turns; K: what is wanted behind the turn, B: behind a break -/
theorem dFor_inv {f : DGX} {b : DSt} {nx bk ct : List Sl → Prop} {rt : Dt → Prop} {xc : List Sl → Xc → Prop} (I : Nat → List Sl → Prop) : ∀ {xs : List Dt} {env : List Sl}, I 0 env →
    (∀ (i : Nat) (x : Dt) (e : List Sl) (K : List Sl → Prop) (B : { B : List Sl → Prop // ∀ e', nx e' → B e' }), xs[i]? = some x → I i e → (∀ e', I (i + 1) e' → K e') → f x e fun e' => b ⟨K, rt, B.1, K, xc⟩ e') → (∀ e, I xs.length e → nx e) → dFor f b ⟨nx, rt, bk, ct, xc⟩ xs env := by
  intro xs
  induction xs generalizing I with
  | nil => intro env h0 _ fin; exact fin _ h0
  | cons x xs ih =>
    intro env h0 step fin
    refine step 0 x env _ ⟨nx, fun _ h => h⟩ rfl h0 fun e' h1 => ?_
    exact ih (fun i => I (i + 1)) h1 (fun i y e K B e1 => step (i + 1) y e K B (by simpa using e1)) fin
/-- a loop that only looks: what it keeps is the same at each turn -/
theorem dFor_keep {f : DGX} {b : DSt} {nx bk ct : List Sl → Prop} {rt : Dt → Prop} {xc : List Sl → Xc → Prop} (I : List Sl → Prop) {xs : List Dt} {env : List Sl} (h0 : I env)
    (step : ∀ (x : Dt) (e : List Sl) (K : List Sl → Prop) (B : { B : List Sl → Prop // ∀ e', nx e' → B e' }), x ∈ xs → I e → (∀ e', I e' → K e') → f x e fun e' => b ⟨K, rt, B.1, K, xc⟩ e') (fin : ∀ e, I e → nx e) : dFor f b ⟨nx, rt, bk, ct, xc⟩ xs env :=
  dFor_inv (fun _ => I) h0 (fun i x e K B hx => step x e K B (List.mem_of_getElem? hx)) fin
/-- a comprehension: which items stay, what becomes of them -/
theorem lc_ok {α : Type} {f : DGX} {tt : DTX} {te : DX} {env : List Sl} {Q : Dt → Prop} (e : α → Dt) (p : α → Bool) (g : α → Dt) : ∀ {xs : List α} {acc : List Dt},
    (∀ x ∈ xs, ∀ (K1 : Dt → Prop) (K0 : Prop), (p x = true → K1 (g x)) → (p x = false → K0) → f (e x) env fun env' => tt env' (fun b => if b = true then te env' K1 (fun _ => False) else K0) fun _ => False) →
    acc.length + xs.length ≤ 16777216 → Q (.lst (acc ++ (xs.filter p).map g)) → lcGo f tt te env Q (xs.map e) acc := by
  intro xs
  induction xs with
  | nil => intro acc _ _ q; show Q (.lst acc); simpa using q
  | cons x xs ih =>
    intro acc step hl q
    refine step x List.mem_cons_self _ _ (fun hp => ?_) fun hp => ?_
    · rw [List.length_cons] at hl
      refine ⟨by show acc.length < 16777216; omega, ih (fun y hy => step y (List.mem_cons_of_mem _ hy)) (by rw [List.length_append]; show acc.length + 1 + _ ≤ _; omega) ?_⟩
      rw [List.filter_cons, if_pos hp, List.map_cons] at q
      simpa using q
    · rw [List.length_cons] at hl
      refine ih (fun y hy => step y (List.mem_cons_of_mem _ hy)) (by omega) ?_
      rw [List.filter_cons, if_neg (by rw [hp]; decide)] at q
      exact q
/-- without a test -/
theorem lc_map {α : Type} {f : DGX} {te : DX} {env : List Sl} {Q : Dt → Prop} (e : α → Dt) (g : α → Dt) {xs : List α}
    (step : ∀ x ∈ xs, ∀ K1 : Dt → Prop, K1 (g x) → f (e x) env fun env' => te env' K1 (fun _ => False)) (hl : xs.length ≤ 16777216) (q : Q (.lst (xs.map g))) : lcGo f eYes te env Q (xs.map e) [] := by
  refine lc_ok e (fun _ => true) g (fun x hx K1 K0 h1 _ => ?_) (by simpa using hl) (by rw [List.filter_eq_self.mpr fun _ _ => rfl]; exact q)
  exact step x hx K1 (h1 rfl)
/-- a comprehension whose items are any of their kind -/
theorem lc_any {f : DGX} {te : DX} {env : List Sl} {Q : Dt → Prop} (G : Dt → Prop) : ∀ {ds : List Dt} {acc : List Dt}, (∀ x ∈ ds, ∀ K1 : Dt → Prop, (∀ y, G y → K1 y) → f x env fun env' => te env' K1 (fun _ => False)) →
    acc.length + ds.length ≤ 16777216 → (∀ y ∈ acc, G y) → (∀ ys, ys.length = acc.length + ds.length → (∀ y ∈ ys, G y) → Q (.lst ys)) → lcGo f eYes te env Q ds acc := by
  intro ds
  induction ds with
  | nil => intro acc _ _ ha q; exact q acc rfl ha
  | cons x ds ih =>
    intro acc step hl ha q
    rw [List.length_cons] at hl q
    refine step x List.mem_cons_self _ fun y hy => ⟨by show acc.length < 16777216; omega, ih (fun z hz => step z (List.mem_cons_of_mem _ hz)) (by rw [List.length_append]; show acc.length + 1 + _ ≤ _; omega) (fun z hz => ?_) fun ys e h => q ys ?_ h⟩
    · rcases List.mem_append.mp hz with h | h
      · exact ha z h
      · rw [List.mem_singleton.mp h]; exact hy
    · rw [e, List.length_append]; show acc.length + 1 + _ = _; omega
/-! ### data of a type -/
abbrev iT (w : List Int) : Dt := .tup (w.map .int)
abbrev iL (w : List Int) : Dt := .lst (w.map .int)
def Dt.shN (n : Nat) (a : Dt) : Prop := ∃ p, a.py = some p ∧ p.canLay0 = true ∧ p.depth ≤ n
theorem Dt.shN.sh {n : Nat} {a : Dt} (h : a.shN n) (hn : n ≤ 64 := by decide) : a.sh := by
  obtain ⟨p, e, c, d⟩ := h
  exact ⟨p, e, by unfold SeqAt.shaped; rw [c, decide_eq_true (by omega)]; rfl⟩
theorem shN_mono {n m : Nat} {a : Dt} (h : a.shN n) (hn : n ≤ m) : a.shN m := let ⟨p, e, c, d⟩ := h; ⟨p, e, c, Nat.le_trans d hn⟩
theorem shN_non : (Dt.non).shN 0 := ⟨.none, by rw [Dt.py], by rw [PyData.canLay0], by rw [PyData.depth]; exact Nat.le_refl _⟩
theorem shN_bl (b : Bool) : (Dt.bl b).shN 0 := ⟨.bool b, by rw [Dt.py], by rw [PyData.canLay0], by rw [PyData.depth]; exact Nat.le_refl _⟩
theorem shN_int (i : Int) : (Dt.int i).shN 0 := ⟨.int i, by rw [Dt.py], by rw [PyData.canLay0], by rw [PyData.depth]; exact Nat.le_refl _⟩
theorem shN_all {n : Nat} : ∀ {xs : List Dt}, (∀ x ∈ xs, x.shN n) → ∃ ps, Dt.pys xs = some ps ∧ PyData.canLayAll0 ps = true ∧ PyData.depthAll ps ≤ n
  | [], _ => ⟨[], by rw [Dt.pys], by rw [PyData.canLayAll0], by rw [PyData.depthAll]; exact Nat.zero_le _⟩
  | x :: xs, h => by
    obtain ⟨p, e, c, d⟩ := h x List.mem_cons_self
    obtain ⟨ps, e2, c2, d2⟩ := shN_all fun y hy => h y (List.mem_cons_of_mem _ hy)
    exact ⟨p :: ps, by rw [Dt.pys, e, e2], by rw [PyData.canLayAll0, c, c2]; rfl, by rw [PyData.depthAll]; omega⟩
theorem shN_tup {n : Nat} {xs : List Dt} (h : ∀ x ∈ xs, x.shN n) : (Dt.tup xs).shN (n + 1) := by
  obtain ⟨ps, e, c, d⟩ := shN_all h
  exact ⟨.tuple ps, by rw [Dt.py, e]; rfl, by rw [PyData.canLay0]; exact c, by rw [PyData.depth]; omega⟩
theorem shN_lst {n : Nat} {xs : List Dt} (h : ∀ x ∈ xs, x.shN n) : (Dt.lst xs).shN (n + 1) := by
  obtain ⟨ps, e, c, d⟩ := shN_all h
  exact ⟨.list ps, by rw [Dt.py, e]; rfl, by rw [PyData.canLay0]; exact c, by rw [PyData.depth]; omega⟩
theorem shN_str {z : Str} (h : PyData.strOk z = true) : (Dt.str z).shN 0 := ⟨.str z, by rw [Dt.py], by rw [PyData.canLay0]; exact h, by rw [PyData.depth]; exact Nat.le_refl _⟩
/-! equality -/
def eqvL : List Dt → List Dt → Bool
  | [], [] => true
  | x :: xs, y :: ys => x.eqv y && eqvL xs ys
  | _, _ => false
theorem eqvL_of {n m : Nat} : ∀ {xs ys : List Dt} {ps qs : List PyData}, Dt.pys xs = some ps → Dt.pys ys = some qs → PyData.eqvAll ps qs = eqvL xs ys
  | [], [], _, _, e1, e2 => by
    rw [Dt.pys] at e1 e2; cases e1; cases e2; rw [PyData.eqvAll]; rfl
  | [], y :: ys, _, _, e1, e2 => by
    rw [Dt.pys] at e1
    rw [Dt.pys] at e2
    cases e1
    split at e2
    · cases e2; rw [PyData.eqvAll]; rfl
    · cases e2
  | x :: xs, [], _, _, e1, e2 => by
    rw [Dt.pys] at e1
    rw [Dt.pys] at e2
    cases e2
    split at e1
    · cases e1; rw [PyData.eqvAll]; rfl
    · cases e1
  | x :: xs, y :: ys, _, _, e1, e2 => by
    rw [Dt.pys] at e1
    rw [Dt.pys] at e2
    split at e1
    · rename_i p ps h1 h2
      cases e1
      split at e2
      · rename_i q qs h3 h4
        cases e2
        rw [PyData.eqvAll, eqvL_of (n := n) (m := m) h2 h4, ← Dt.eqv_of h1 h3]; rfl
      · cases e2
    · cases e1
theorem eqv_seq {xs ys : List Dt} (h1 : ∃ ps, Dt.pys xs = some ps) (h2 : ∃ ps, Dt.pys ys = some ps) : (Dt.tup xs).eqv (.tup ys) = eqvL xs ys ∧ (Dt.lst xs).eqv (.lst ys) = eqvL xs ys ∧ (Dt.tup xs).eqv (.lst ys) = false ∧ (Dt.lst xs).eqv (.tup ys) = false := by
  obtain ⟨ps, e1⟩ := h1
  obtain ⟨qs, e2⟩ := h2
  have a : (Dt.tup xs).py = some (.tuple ps) := by rw [Dt.py, e1]; rfl
  have b : (Dt.tup ys).py = some (.tuple qs) := by rw [Dt.py, e2]; rfl
  have c : (Dt.lst xs).py = some (.list ps) := by rw [Dt.py, e1]; rfl
  have d : (Dt.lst ys).py = some (.list qs) := by rw [Dt.py, e2]; rfl
  rw [Dt.eqv_of a b, Dt.eqv_of c d, Dt.eqv_of a d, Dt.eqv_of c b]
  refine ⟨?_, ?_, ?_, ?_⟩
  · rw [PyData.eqv]; exact eqvL_of (n := 0) (m := 0) e1 e2
  · rw [PyData.eqv]; exact eqvL_of (n := 0) (m := 0) e1 e2
  · rw [PyData.eqv]
  · rw [PyData.eqv]
theorem eqv_int (i j : Int) : (Dt.int i).eqv (.int j) = decide (i = j) := by
  rw [Dt.eqv_of (a := .int i) (b := .int j) (by rw [Dt.py]) (by rw [Dt.py]), PyData.eqv]; rfl
theorem eqv_bl (i j : Bool) : (Dt.bl i).eqv (.bl j) = decide (i = j) := by
  rw [Dt.eqv_of (a := .bl i) (b := .bl j) (by rw [Dt.py]) (by rw [Dt.py]), PyData.eqv]
  cases i <;> cases j <;> rfl
theorem eqv_str (i j : Str) : (Dt.str i).eqv (.str j) = decide (i = j) := by
  rw [Dt.eqv_of (a := .str i) (b := .str j) (by rw [Dt.py]) (by rw [Dt.py]), PyData.eqv]; rfl
/-- a type whose things are data, equal exactly if they are -/
structure EqE {α : Type} [DecidableEq α] (e : α → Dt) (n : Nat) : Prop where
  sh : ∀ a, (e a).shN n
  eq : ∀ a b, (e a).eqv (e b) = decide (a = b)
theorem eqE_int : EqE Dt.int 0 := ⟨shN_int, eqv_int⟩
theorem eqE_bl : EqE Dt.bl 0 := ⟨shN_bl, eqv_bl⟩
section
variable {α : Type} [DecidableEq α] {e : α → Dt} {n : Nat}
theorem EqE.pys (h : EqE e n) (xs : List α) : ∃ ps, Dt.pys (xs.map e) = some ps := by
  obtain ⟨ps, e1, _⟩ := shN_all (n := n) (xs := xs.map e) fun x hx => by
    obtain ⟨a, _, rfl⟩ := List.mem_map.mp hx
    exact h.sh a
  exact ⟨ps, e1⟩
theorem EqE.eqvL (h : EqE e n) : ∀ xs ys : List α, Mine.eqvL (xs.map e) (ys.map e) = decide (xs = ys)
  | [], [] => by simp [Mine.eqvL]
  | [], y :: ys => by simp [Mine.eqvL]
  | x :: xs, [] => by simp [Mine.eqvL]
  | x :: xs, y :: ys => by
    rw [List.map_cons, List.map_cons, Mine.eqvL, h.eq, EqE.eqvL h xs ys]
    by_cases a : x = y <;> by_cases b : xs = ys <;> simp [a, b]
theorem EqE.tup (h : EqE e n) : EqE (fun xs : List α => Dt.tup (xs.map e)) (n + 1) :=
  ⟨fun xs => shN_tup fun x hx => by obtain ⟨a, _, rfl⟩ := List.mem_map.mp hx; exact h.sh a, fun xs ys => by
    show (Dt.tup (xs.map e)).eqv (.tup (ys.map e)) = _
    rw [(eqv_seq (h.pys xs) (h.pys ys)).1]; exact h.eqvL xs ys⟩
theorem EqE.lst (h : EqE e n) : EqE (fun xs : List α => Dt.lst (xs.map e)) (n + 1) :=
  ⟨fun xs => shN_lst fun x hx => by obtain ⟨a, _, rfl⟩ := List.mem_map.mp hx; exact h.sh a, fun xs ys => by
    show (Dt.lst (xs.map e)).eqv (.lst (ys.map e)) = _
    rw [(eqv_seq (h.pys xs) (h.pys ys)).2.1]; exact h.eqvL xs ys⟩
theorem EqE.dEq (h : EqE e n) {a b : α} {Q : Dt → Prop} (q : Q (.bl (decide (a = b)))) (hn : n ≤ 64 := by decide) : dEq (e a) (e b) Q :=
  ⟨(h.sh a).sh hn, (h.sh b).sh hn, by rw [h.eq]; exact q⟩
theorem EqE.dNe (h : EqE e n) {a b : α} {Q : Dt → Prop} (q : Q (.bl (!decide (a = b)))) (hn : n ≤ 64 := by decide) : dNe (e a) (e b) Q :=
  ⟨(h.sh a).sh hn, (h.sh b).sh hn, by rw [h.eq]; exact q⟩
end
theorem eqE_T : EqE iT 1 := eqE_int.tup
theorem eqE_L : EqE iL 1 := eqE_int.lst
theorem dEq_int {i j : Int} {Q : Dt → Prop} : dEq (.int i) (.int j) Q = Q (.bl (decide (i = j))) := by
  refine propext ⟨fun h => ?_, fun h => eqE_int.dEq h⟩
  have := h.2.2
  rwa [eqv_int] at this
theorem dNe_int {i j : Int} {Q : Dt → Prop} : dNe (.int i) (.int j) Q = Q (.bl (!decide (i = j))) := by
  refine propext ⟨fun h => ?_, fun h => eqE_int.dNe h⟩
  have := h.2.2
  rwa [eqv_int] at this
/-! items -/
theorem ix_at {xs : List Dt} {k : Int} {n : Nat} {Q : Dt → Prop} (e : k = n) (h : n < xs.length) (q : Q xs[n]) : ∃ x, atI xs k = some x ∧ Q x :=
  ⟨xs[n], by rw [e]; exact atI_nat (by rw [List.getElem?_eq_getElem h]), q⟩
theorem ix_map {α : Type} {e : α → Dt} {xs : List α} {k : Int} {n : Nat} {Q : Dt → Prop} (hk : k = n) (h : n < xs.length) (q : Q (e xs[n])) : ∃ x, atI (xs.map e) k = some x ∧ Q x :=
  ix_at hk (by rw [List.length_map]; exact h) (by rw [List.getElem_map]; exact q)
theorem ix_last {xs : List Dt} {Q : Dt → Prop} (h : xs ≠ []) (q : Q (xs.getLast h)) : ∃ x, atI xs (-1) = some x ∧ Q x := by
  have hp := List.length_pos_iff.mpr h
  refine ⟨xs.getLast h, ?_, q⟩
  unfold atI
  rw [ixN_back hp, List.getLast_eq_getElem]
  show xs[xs.length - 1]? = _
  rw [List.getElem?_eq_getElem (by omega)]
end Mine
namespace Mine
open PySem PySem.Spec PyProof.Rows L2
/-- a comprehension by an invariant over what is made so far -/
theorem lc_inv {f : DGX} {tt : DTX} {te : DX} {env : List Sl} {Q : Dt → Prop} (I : Nat → List Dt → Prop) : ∀ {xs : List Dt} {acc : List Dt}, I 0 acc →
    (∀ (i : Nat) (x : Dt) (acc : List Dt) (K : List Dt → Prop), xs[i]? = some x → I i acc → (∀ a, I (i + 1) a → K a) → f x env fun env' => tt env' (fun b => if b = true then te env' (fun y => acc.length < 16777216 ∧ K (acc ++ [y])) (fun _ => False) else K acc) fun _ => False) →
    (∀ a, I xs.length a → Q (.lst a)) → lcGo f tt te env Q xs acc := by
  intro xs
  induction xs generalizing I with
  | nil => intro acc h0 _ fin; exact fin _ h0
  | cons x xs ih =>
    intro acc h0 step fin
    exact step 0 x acc (fun a => lcGo f tt te env Q xs a) rfl h0 fun a h1 => ih (fun i => I (i + 1)) h1 (fun i y acc K e1 => step (i + 1) y acc K (by simpa using e1)) fin
mutual
theorem Dt.eqv_self0 : ∀ {a : Dt} {p : PyData}, a.py = some p → PyData.eqv p p = true
  | .non, _, e => by rw [Dt.py] at e; cases e; rw [PyData.eqv]
  | .bl b, _, e => by rw [Dt.py] at e; cases e; rw [PyData.eqv]; simp
  | .int b, _, e => by rw [Dt.py] at e; cases e; rw [PyData.eqv]; simp
  | .str b, _, e => by rw [Dt.py] at e; cases e; rw [PyData.eqv]; simp
  | .tup xs, _, e => by
    rw [Dt.py, Option.map_eq_some_iff] at e
    obtain ⟨ps, e1, rfl⟩ := e
    rw [PyData.eqv]; exact Dt.eqv_selfs e1
  | .lst xs, _, e => by
    rw [Dt.py, Option.map_eq_some_iff] at e
    obtain ⟨ps, e1, rfl⟩ := e
    rw [PyData.eqv]; exact Dt.eqv_selfs e1
  | .dk _ _, _, e => by rw [Dt.py] at e <;> cases e
  | .ins _ _ _, _, e => by rw [Dt.py] at e <;> cases e
  | .raw _, _, e => by rw [Dt.py] at e <;> cases e
theorem Dt.eqv_selfs : ∀ {xs : List Dt} {ps : List PyData}, Dt.pys xs = some ps → PyData.eqvAll ps ps = true
  | [], _, e => by rw [Dt.pys] at e; cases e; rw [PyData.eqvAll]
  | x :: xs, _, e => by
    rw [Dt.pys] at e
    split at e
    · rename_i p ps h1 h2
      cases e
      rw [PyData.eqvAll, Dt.eqv_self0 h1, Dt.eqv_selfs h2]; rfl
    · cases e
end
theorem Dt.eqv_self {a : Dt} (h : a.sh) : a.eqv a = true := by
  obtain ⟨p, e, _⟩ := h
  rw [Dt.eqv_of e e]; exact Dt.eqv_self0 e
theorem dEq_self {a : Dt} {Q : Dt → Prop} (h : a.sh) (q : Q (.bl true)) : dEq a a Q := ⟨h, h, by rw [Dt.eqv_self h]; exact q⟩
theorem dNe_self {a : Dt} {Q : Dt → Prop} (h : a.sh) (q : Q (.bl false)) : dNe a a Q := ⟨h, h, by rw [Dt.eqv_self h]; exact q⟩
theorem rg_toNat (n : Nat) : ((n : Int)).toNat = n := by omega
theorem take_snoc {α : Type} {xs : List α} {i : Nat} {x : α} (h : xs[i]? = some x) : xs.take (i + 1) = xs.take i ++ [x] := by
  rw [List.take_add_one, h]; rfl
theorem map_get {α : Type} {e : α → Dt} {xs : List α} {i : Nat} {x : Dt} (h : (xs.map e)[i]? = some x) : ∃ a, xs[i]? = some a ∧ x = e a := by
  rw [List.getElem?_map, Option.map_eq_some_iff] at h
  obtain ⟨a, h1, h2⟩ := h
  exact ⟨a, h1, h2.symm⟩
theorem ix_get {xs : List Dt} {k : Int} {n : Nat} {x : Dt} {Q : Dt → Prop} (e : k = n) (h : xs[n]? = some x) (q : Q x) : ∃ x, atI xs k = some x ∧ Q x :=
  ⟨x, by rw [e]; exact atI_nat h, q⟩
theorem ix_mget {α : Type} {f : α → Dt} {xs : List α} {k : Int} {n : Nat} {a : α} {Q : Dt → Prop} (e : k = n) (h : xs[n]? = some a) (q : Q (f a)) : ∃ x, atI (xs.map f) k = some x ∧ Q x :=
  ix_get e (by rw [List.getElem?_map, h]; rfl) q
end Mine
namespace Mine
open PySem PySem.Spec PyProof.Rows L2
theorem cutG_take {α : Type} {xs : List α} {z : Int} {k : Nat} (e : z = k) : cutG xs none (some z) = xs.take k := by
  subst e
  unfold cutG
  rw [HT.sIx_none, HT.sIx_nat, List.drop_zero, Nat.sub_zero]
  by_cases h : k ≤ xs.length
  · rw [Nat.min_eq_left h]
  · rw [Nat.min_eq_right (by omega), List.take_length, List.take_of_length_le (by omega)]
theorem cutG_drop {α : Type} {xs : List α} {z : Int} {k : Nat} (e : z = k) : cutG xs (some z) none = xs.drop k := by
  subst e
  unfold cutG
  rw [HT.sIx_none, HT.sIx_nat]
  by_cases h : k ≤ xs.length
  · rw [Nat.min_eq_left h, List.take_of_length_le (by rw [List.length_drop]; omega)]
  · rw [Nat.min_eq_right (by omega), List.drop_of_length_le (Nat.le_refl _), List.drop_of_length_le (by omega), List.take_nil]
end Mine
namespace Mine
open PySem PySem.Spec PyProof.Rows L2
theorem ix_mem {xs : List Dt} {k : Nat} {Q : Dt → Prop} (h : k < xs.length) (q : ∀ x ∈ xs, Q x) : ∃ x, atI xs (k : Int) = some x ∧ Q x :=
  ix_get rfl (List.getElem?_eq_getElem h) (q _ (List.getElem_mem h))
end Mine

namespace Mine
open PySem PySem.Spec PyProof.Rows L2
/-! ### any thing: its kind -/
/-- a thing whose kind is known -/
def Dt.kn (a : Dt) : Prop := a.kind.isSome = true
theorem kn_int (i : Int) : (Dt.int i).kind.isSome = true := rfl
theorem kn_bl (i : Bool) : (Dt.bl i).kind.isSome = true := rfl
theorem kn_non : (Dt.non).kind.isSome = true := rfl
theorem kn_str (i : Str) : (Dt.str i).kind.isSome = true := rfl
theorem kn_tup (i : List Dt) : (Dt.tup i).kind.isSome = true := rfl
theorem kn_lst (i : List Dt) : (Dt.lst i).kind.isSome = true := rfl
theorem kn_dt (i : List (List Key)) (j : List Dt) : (Dt.dt i j).kind.isSome = true := rfl
theorem isN_dt (i : List (List Key)) (j : List Dt) : Dt.isN (.dt i j) = false := rfl
theorem kn_dk (i : List Key) (j : List Dt) : (Dt.dk i j).kind.isSome = true := rfl
def isW : Dt → Bool
  | .int _ => true
  | _ => false
def isSeq : Dt → Bool
  | .lst _ => true
  | .tup _ => true
  | _ => false
def isTp : Dt → Bool
  | .tup _ => true
  | _ => false
def isSt : Dt → Bool
  | .str _ => true
  | _ => false
def isLs : Dt → Bool
  | .lst _ => true
  | _ => false
def itemsOf : Dt → List Dt
  | .lst xs => xs
  | .tup xs => xs
  | _ => []
/-- a whole number within bounds -/
def inB (lo hi : Int) : Dt → Bool
  | .int i => decide (lo ≤ i) && decide (i ≤ hi)
  | _ => false
theorem isa_int (a : Dt) : a.isa "int" = (isW a || (match a with | .bl _ => true | _ => false)) := by cases a <;> (unfold Dt.isa; rfl)
theorem isa_bool (a : Dt) : a.isa "bool" = (match a with | .bl _ => true | _ => false) := by cases a <;> (unfold Dt.isa; rfl)
theorem isa_tup (a : Dt) : a.isa "tuple" = isTp a := by cases a <;> (unfold Dt.isa; rfl)
theorem isa_str (a : Dt) : a.isa "str" = isSt a := by cases a <;> (unfold Dt.isa; rfl)
theorem isa_lst (a : Dt) : a.isa "list" = isLs a := by cases a <;> (unfold Dt.isa; rfl)
theorem isa_seq (a : Dt) : (a.isa "list" || a.isa "tuple") = isSeq a := by cases a <;> (unfold Dt.isa; rfl)
theorem isa_int_int (i : Int) : (Dt.int i).isa "int" = true := rfl
theorem isa_int_bool (i : Int) : (Dt.int i).isa "bool" = false := rfl
theorem isa_tup_tup (i : List Dt) : (Dt.tup i).isa "tuple" = true := rfl
theorem isa_bl_bool (i : Bool) : (Dt.bl i).isa "bool" = true := rfl
theorem isa_seq_tup (i : List Dt) : ((Dt.tup i).isa "list" || (Dt.tup i).isa "tuple") = true := rfl
theorem isa_seq_lst (i : List Dt) : ((Dt.lst i).isa "list" || (Dt.lst i).isa "tuple") = true := rfl
theorem isa_seq2 (a : Dt) : (isLs a || isTp a) = isSeq a := by cases a <;> rfl
section
variable {i j : Int} {x y : List Dt} {u v : Str} {Q : Dt → Prop}
theorem dAdd_int : dAdd (.int i) (.int j) Q = Q (.int (i + j)) := rfl
theorem dAdd_lst : dAdd (.lst x) (.lst y) Q = (x.length + y.length ≤ 16777216 ∧ Q (.lst (x ++ y))) := rfl
theorem dAdd_tup : dAdd (.tup x) (.tup y) Q = (x.length + y.length ≤ 16777216 ∧ Q (.tup (x ++ y))) := rfl
theorem dAdd_str : dAdd (.str u) (.str v) Q = (u.length + v.length ≤ 16777216 ∧ Q (.str (u ++ v))) := rfl
theorem dAddL_lst : dAddL (.lst x) (.lst y) Q = (x.length + y.length ≤ 16777216 ∧ Q (.lst (x ++ y))) := rfl
theorem dSub_int : dSub (.int i) (.int j) Q = Q (.int (i - j)) := rfl
theorem dMul_int : dMul (.int i) (.int j) Q = (CMul i j ∧ Q (.int (i * j))) := rfl
theorem dMul_lst : dMul (.lst x) (.int j) Q = ((-(2 ^ 63) ≤ j ∧ j < 2 ^ 63 ∧ x.length * j.toNat ≤ 16777216) ∧ Q (.lst (List.replicate j.toNat x).flatten)) := rfl
theorem dMulL_lst : dMulL (.lst x) (.int j) Q = ((-(2 ^ 63) ≤ j ∧ j < 2 ^ 63 ∧ x.length * j.toNat ≤ 16777216) ∧ Q (.lst (List.replicate j.toNat x).flatten)) := rfl
theorem dMul_tup : dMul (.tup x) (.int j) Q = ((x ≠ [] ∧ -(2 ^ 62) ≤ j ∧ j ≤ 1000 ∧ x.length ≤ 1000) ∧ Q (.tup (List.replicate j.toNat x).flatten)) := rfl
theorem dFdiv_int : dFdiv (.int i) (.int j) Q = (CDiv i j ∧ Q (.int (i / j))) := rfl
theorem dMod_int : dMod (.int i) (.int j) Q = (0 < j ∧ Q (.int (i % j))) := rfl
theorem dPow_int : dPow (.int i) (.int j) Q = (CPow i j ∧ Q (.int (i ^ j.toNat))) := rfl
theorem dShl_int : dShl (.int i) (.int j) Q = (CPow i j ∧ Q (.int (i * 2 ^ j.toNat))) := rfl
theorem dShr_int : dShr (.int i) (.int j) Q = (0 ≤ j ∧ Q (.int (i / 2 ^ j.toNat))) := rfl
theorem dLe_int : dLe (.int i) (.int j) Q = Q (.bl (decide (i ≤ j))) := rfl
theorem dLt_int : dLt (.int i) (.int j) Q = Q (.bl (decide (i < j))) := rfl
theorem dGt_int : dGt (.int i) (.int j) Q = Q (.bl (decide (j < i))) := rfl
theorem dGe_int : dGe (.int i) (.int j) Q = Q (.bl (decide (j ≤ i))) := rfl
theorem dNeg_int : dNeg (.int i) Q = Q (.int (-i)) := rfl
end
theorem isSeq_lst (x : List Dt) : isSeq (.lst x) = true := rfl
theorem isSeq_tup (x : List Dt) : isSeq (.tup x) = true := rfl
theorem isTp_tup (x : List Dt) : isTp (.tup x) = true := rfl
theorem isTp_lst (x : List Dt) : isTp (.lst x) = false := rfl
theorem isLs_lst (x : List Dt) : isLs (.lst x) = true := rfl
theorem isLs_tup (x : List Dt) : isLs (.tup x) = false := rfl
theorem isN_non : Dt.isN .non = true := rfl
theorem isN_int (i : Int) : Dt.isN (.int i) = false := rfl
theorem isN_bl (i : Bool) : Dt.isN (.bl i) = false := rfl
theorem isN_str (i : Str) : Dt.isN (.str i) = false := rfl
theorem isN_tup (i : List Dt) : Dt.isN (.tup i) = false := rfl
theorem isN_lst (i : List Dt) : Dt.isN (.lst i) = false := rfl
theorem isN_dk (i : List Key) (j : List Dt) : Dt.isN (.dk i j) = false := rfl
theorem isN_ins (c : Str) (i : List Str) (j : List Dt) : Dt.isN (.ins c i j) = false := rfl
theorem line0 : ((0 : Nat) ≤ 16777216) = True := eq_true (by decide)
theorem line1 : ((1 : Nat) ≤ 16777216) = True := eq_true (by decide)
theorem line2 : ((2 : Nat) ≤ 16777216) = True := eq_true (by decide)
theorem line3 : ((3 : Nat) ≤ 16777216) = True := eq_true (by decide)
theorem line4 : ((4 : Nat) ≤ 16777216) = True := eq_true (by decide)
theorem line5 : ((5 : Nat) ≤ 16777216) = True := eq_true (by decide)
theorem line6 : ((6 : Nat) ≤ 16777216) = True := eq_true (by decide)
theorem line7 : ((7 : Nat) ≤ 16777216) = True := eq_true (by decide)
theorem line8 : ((8 : Nat) ≤ 16777216) = True := eq_true (by decide)
theorem line9 : ((9 : Nat) ≤ 16777216) = True := eq_true (by decide)
theorem line10 : ((10 : Nat) ≤ 16777216) = True := eq_true (by decide)
theorem line11 : ((11 : Nat) ≤ 16777216) = True := eq_true (by decide)
theorem line12 : ((12 : Nat) ≤ 16777216) = True := eq_true (by decide)
theorem dTru_non {Q : Bool → Prop} : dTru .non Q = Q false := rfl
theorem dTru_bl {b : Bool} {Q : Bool → Prop} : dTru (.bl b) Q = Q b := rfl
theorem dTru_int {i : Int} {Q : Bool → Prop} : dTru (.int i) Q = Q (i != 0) := rfl
theorem dTru_lst {x : List Dt} {Q : Bool → Prop} : dTru (.lst x) Q = Q (!x.isEmpty) := rfl
theorem dTru_tup {x : List Dt} {Q : Bool → Prop} : dTru (.tup x) Q = Q (!x.isEmpty) := rfl
theorem dTru_str {x : Str} {Q : Bool → Prop} : dTru (.str x) Q = (x.length ≤ 16777216 ∧ Q ((x.length : Int) != 0)) := rfl
theorem dTru_dk {x : List Key} {y : List Dt} {Q : Bool → Prop} : dTru (.dk x y) Q = Q (!x.isEmpty) := rfl
theorem isTp_non : isTp .non = false := rfl
theorem isTp_int (i : Int) : isTp (.int i) = false := rfl
theorem isTp_str (i : Str) : isTp (.str i) = false := rfl
theorem isW_int (i : Int) : isW (.int i) = true := rfl
/-- a thing that may be asked for its items -/
theorem seq_or {a : Dt} : (∃ xs, a = .lst xs) ∨ (∃ xs, a = .tup xs) ∨ isSeq a = false := by
  cases a <;> first | exact .inl ⟨_, rfl⟩ | exact .inr (.inl ⟨_, rfl⟩) | exact .inr (.inr rfl)
/-- the first place of an item that is not as it should be -/
def badAt (p : Dt → Bool) (xs : List Dt) : Option Nat := xs.findIdx? fun x => !p x
theorem badAt_none {p : Dt → Bool} {xs : List Dt} (h : ∀ (j : Nat) x, xs[j]? = some x → p x = true) : badAt p xs = none := by
  unfold badAt
  rw [List.findIdx?_eq_none_iff]
  intro x hx
  obtain ⟨j, hj⟩ := List.mem_iff_getElem?.mp hx
  rw [h j x hj]; rfl
theorem badAt_some {p : Dt → Bool} {xs : List Dt} {i : Nat} {y : Dt} (h : ∀ (j : Nat) x, j < i → xs[j]? = some x → p x = true) (hy : xs[i]? = some y) (hp : p y = false) : badAt p xs = some i := by
  unfold badAt
  rw [List.findIdx?_eq_some_iff_getElem]
  obtain ⟨hl, he⟩ := List.getElem?_eq_some_iff.mp hy
  refine ⟨hl, by rw [he, hp]; rfl, fun j hj => ?_⟩
  rw [h j _ hj (List.getElem?_eq_getElem (Nat.lt_trans hj hl))]; decide
theorem badAt_spec {p : Dt → Bool} {xs : List Dt} (h : badAt p xs = none) {x : Dt} (hx : x ∈ xs) : p x = true := by
  unfold badAt at h
  rw [List.findIdx?_eq_none_iff] at h
  have := h x hx
  cases e : p x with
  | true => rfl
  | false => rw [e] at this; cases this
theorem badAt_map {p : Dt → Bool} {α : Type} {e : α → Dt} {xs : List α} (h : ∀ a ∈ xs, p (e a) = true) : badAt p (xs.map e) = none :=
  badAt_none fun j x hx => by
    obtain ⟨a, ha, rfl⟩ := List.mem_map.mp (List.mem_of_getElem? hx)
    exact h a ha
/-- the index due of a word that is refused -/
def badWord (q : Int) (m : Nat) (a : Dt) : Option Int := match isSeq a with
  | false => some (-1)
  | true => if m < (itemsOf a).length then some (-1) else (badAt (inB 0 (q - 1)) (itemsOf a)).map fun i : Nat => (i : Int)
/-- an optional index as a value -/
def oD : Option Int → Dt
  | some i => .int i
  | none => .non
theorem oD_eqE : EqE oD 0 := by
  refine ⟨fun a => ?_, fun a b => ?_⟩
  · cases a
    · exact shN_non
    · exact shN_int _
  · cases a <;> cases b
    · rw [show oD none = .non from rfl, Dt.eqv_of (a := .non) (b := .non) (by rw [Dt.py]) (by rw [Dt.py]), PyData.eqv]; rfl
    · rename_i i
      rw [show oD none = .non from rfl, show oD (some i) = .int i from rfl, Dt.eqv_of (a := .non) (b := .int i) (by rw [Dt.py]) (by rw [Dt.py]), PyData.eqv]; simp
    · rename_i i
      rw [show oD none = .non from rfl, show oD (some i) = .int i from rfl, Dt.eqv_of (a := .int i) (b := .non) (by rw [Dt.py]) (by rw [Dt.py]), PyData.eqv]; simp
    · rename_i i j
      rw [show oD (some i) = .int i from rfl, show oD (some j) = .int j from rfl, eqv_int]
      simp
theorem enum_get {xs : List Dt} {i : Nat} {x : Dt} (h : (xs.mapIdx fun i x => Dt.tup [.int (i : Nat), x])[i]? = some x) : ∃ y, xs[i]? = some y ∧ x = .tup [.int (i : Nat), y] := by
  rw [List.getElem?_mapIdx, Option.map_eq_some_iff] at h
  obtain ⟨y, h1, h2⟩ := h
  exact ⟨y, h1, h2.symm⟩
theorem rng_get {n i : Nat} {x : Dt} (h : ((List.range n).map fun i => Dt.int (i : Nat))[i]? = some x) : i < n ∧ x = .int (i : Nat) := by
  rw [List.getElem?_map, Option.map_eq_some_iff] at h
  obtain ⟨y, h1, h2⟩ := h
  obtain ⟨hl, e⟩ := List.getElem?_eq_some_iff.mp h1
  rw [List.length_range] at hl
  rw [List.getElem_range] at e
  exact ⟨hl, by rw [← h2, e]⟩
end Mine

namespace Mine
open PySem PySem.Spec PyProof.Rows L2
/-! ### dicts as tables -/
section
variable {κ : Type} [DecidableEq κ]
theorem putKs_mem {j k : κ} : ∀ {ks : List κ}, k ∈ putKs ks j ↔ k ∈ ks ∨ k = j
  | [] => by simp [putKs]
  | a :: ks => by
    unfold putKs
    by_cases c : a = j
    · rw [if_pos c]
      refine ⟨.inl, fun h => h.elim id fun e => ?_⟩
      rw [e, ← c]; exact List.mem_cons_self
    · rw [if_neg c, List.mem_cons, List.mem_cons, putKs_mem (ks := ks), or_assoc]
theorem putKs_nodup {j : κ} : ∀ {ks : List κ}, ks.Nodup → (putKs ks j).Nodup
  | [], _ => by simp [putKs]
  | a :: ks, h => by
    have h2 := List.nodup_cons.mp h
    unfold putKs
    by_cases c : a = j
    · rw [if_pos c]; exact h
    · rw [if_neg c]
      refine List.nodup_cons.mpr ⟨fun m => ?_, putKs_nodup h2.2⟩
      rcases putKs_mem.mp m with m | m
      · exact h2.1 m
      · exact c m
theorem putKs_len {j : κ} : ∀ {ks : List κ}, (putKs ks j).length ≤ ks.length + 1
  | [] => Nat.le_refl _
  | a :: ks => by
    unfold putKs
    split
    · exact Nat.le_succ _
    · rw [List.length_cons, List.length_cons]; exact Nat.succ_le_succ putKs_len
theorem put_len {j : κ} {y : Dt} : ∀ {ks : List κ} {ds : List Dt}, ks.length = ds.length → (putKs ks j).length = (putVs ks ds j y).length
  | [], [], _ => rfl
  | a :: ks, d :: ds, h => by
    unfold putKs putVs
    split
    · simpa using h
    · rw [List.length_cons, List.length_cons, put_len (by simpa using h)]
theorem valD_put {j k : κ} {y : Dt} : ∀ {ks : List κ} {ds : List Dt}, ks.length = ds.length → valD (putKs ks j) (putVs ks ds j y) k = if k = j then some y else valD ks ds k
  | [], [], _ => by
    show (if j = k then some y else none) = if k = j then some y else none
    by_cases c : k = j
    · rw [if_pos c, if_pos c.symm]
    · rw [if_neg c, if_neg fun e => c e.symm]
  | a :: ks, d :: ds, h => by
    unfold putKs putVs
    by_cases c : a = j
    · rw [if_pos c, if_pos c]
      unfold valD
      by_cases c2 : a = k
      · rw [if_pos c2, if_pos (c2 ▸ c)]
      · rw [if_neg c2, if_neg fun e => c2 (c.trans e.symm), if_neg c2]
    · rw [if_neg c, if_neg c]
      show (if a = k then some d else valD (putKs ks j) (putVs ks ds j y) k) = _
      rw [valD_put (by simpa using h)]
      show _ = if k = j then some y else if a = k then some d else valD ks ds k
      by_cases c2 : a = k
      · rw [if_pos c2, if_pos c2, if_neg fun e => c (c2.trans e)]
      · rw [if_neg c2, if_neg c2]
/-- the dict ks, ds is this table, with at most n keys -/
structure Tb (ks : List κ) (ds : List Dt) (f : κ → Option Dt) (n : Nat) : Prop where
  nd : ks.Nodup
  len : ks.length = ds.length
  few : ks.length ≤ n
  val : ∀ k, valD ks ds k = f k
theorem Tb.nil : Tb ([] : List κ) [] (fun _ => none) 0 := ⟨List.nodup_nil, rfl, Nat.le_refl _, fun _ => rfl⟩
theorem Tb.put {ks : List κ} {ds : List Dt} {f : κ → Option Dt} {n : Nat} (h : Tb ks ds f n) (j : κ) (y : Dt) : Tb (putKs ks j) (putVs ks ds j y) (fun k => if k = j then some y else f k) (n + 1) :=
  ⟨putKs_nodup h.nd, put_len h.len, Nat.le_trans putKs_len (Nat.succ_le_succ h.few), fun k => by rw [valD_put h.len, h.val]⟩
theorem Tb.congr {ks : List κ} {ds : List Dt} {f g : κ → Option Dt} {n m : Nat} (h : Tb ks ds f n) (e : ∀ k, f k = g k) (l : n ≤ m) : Tb ks ds g m := ⟨h.nd, h.len, Nat.le_trans h.few l, fun k => (h.val k).trans (e k)⟩
end
theorem keysOf_ints : ∀ w : List Int, keysOf (w.map .int) = some (w.map .inl)
  | [] => rfl
  | x :: w => by
    rw [List.map_cons, List.map_cons]
    unfold keysOf
    rw [keysOf_ints w]; rfl
theorem get_dt {ks : List (List Key)} {ds : List Dt} {w : List Int} : (Ow.dt ks ds).get (.tup (w.map .int)) = some (valD ks ds (w.map .inl)) := by
  show (keysOf (w.map .int)).map _ = _
  rw [keysOf_ints]; rfl
theorem put_dt {ks : List (List Key)} {ds : List Dt} {w : List Int} {y : Dt} : (Ow.dt ks ds).put (.tup (w.map .int)) y = some (.dt (putKs ks (w.map .inl)) (putVs ks ds (w.map .inl) y)) := by
  show (keysOf (w.map .int)).map _ = _
  rw [keysOf_ints]; rfl
theorem get_dk {ks : List Key} {ds : List Dt} {i : Int} : (Ow.dk ks ds).get (.int i) = some (valD ks ds (.inl i)) := rfl
theorem put_dk {ks : List Key} {ds : List Dt} {i : Int} {y : Dt} : (Ow.dk ks ds).put (.int i) y = some (.dk (putKs ks (.inl i)) (putVs ks ds (.inl i) y)) := rfl
theorem ow_dk {ks : List Key} {ds : List Dt} : (Dt.dk ks ds).ow = some (.dk ks ds) := rfl
theorem ow_dt {ks : List (List Key)} {ds : List Dt} : (Dt.dt ks ds).ow = some (.dt ks ds) := rfl
theorem keysN_dk {ks : List Key} {ds : List Dt} : (Ow.dk ks ds).keysN = (ks.Nodup ∧ ks.length < 16777216) := rfl
theorem keysN_dt {ks : List (List Key)} {ds : List Dt} : (Ow.dt ks ds).keysN = (ks.Nodup ∧ ks.length < 16777216) := rfl
/-- words told apart by their keys -/
theorem inl_inj : ∀ {w v : List Int}, (w.map (Sum.inl : Int → Key) = v.map Sum.inl) ↔ w = v
  | [], [] => by simp
  | [], b :: v => by simp
  | a :: w, [] => by simp
  | a :: w, b :: v => by
    rw [List.map_cons, List.map_cons, List.cons.injEq, List.cons.injEq, inl_inj (w := w) (v := v), Sum.inl.injEq]
end Mine

namespace Mine
open PySem PySem.Spec PyProof.Rows L2
def mt (a b : Str) : Option Bool :=
  if a = "BadAmount" ∧ b = "BadModulus" then some false else
  if a = "BadAmount" ∧ b = "BadNumber" then some false else
  if a = "BadAmount" ∧ b = "BadRest" then some false else
  if a = "BadModulus" ∧ b = "BadModulus" then some true else
  if a = "BadModulus" ∧ b = "BadNumber" then some false else
  if a = "BadModulus" ∧ b = "BadRest" then some false else
  if a = "BadNumber" ∧ b = "BadModulus" then some false else
  if a = "BadNumber" ∧ b = "BadNumber" then some true else
  if a = "BadNumber" ∧ b = "BadRest" then some false else
  if a = "BadRest" ∧ b = "BadModulus" then some false else
  if a = "BadRest" ∧ b = "BadNumber" then some false else
  if a = "BadRest" ∧ b = "BadRest" then some true else
  if a = "BadWord" ∧ b = "BadModulus" then some false else
  if a = "BadWord" ∧ b = "BadNumber" then some false else
  if a = "BadWord" ∧ b = "BadRest" then some false else
  if a = "NotOneOff" ∧ b = "BadModulus" then some false else
  if a = "NotOneOff" ∧ b = "BadNumber" then some false else
  if a = "NotOneOff" ∧ b = "BadRest" then some false else
  none
theorem mt_BadAmount_BadModulus : mt "BadAmount" "BadModulus" = some false := by decide +kernel
theorem mt_BadAmount_BadNumber : mt "BadAmount" "BadNumber" = some false := by decide +kernel
theorem mt_BadAmount_BadRest : mt "BadAmount" "BadRest" = some false := by decide +kernel
theorem mt_BadModulus_BadModulus : mt "BadModulus" "BadModulus" = some true := by decide +kernel
theorem mt_BadModulus_BadNumber : mt "BadModulus" "BadNumber" = some false := by decide +kernel
theorem mt_BadModulus_BadRest : mt "BadModulus" "BadRest" = some false := by decide +kernel
theorem mt_BadNumber_BadModulus : mt "BadNumber" "BadModulus" = some false := by decide +kernel
theorem mt_BadNumber_BadNumber : mt "BadNumber" "BadNumber" = some true := by decide +kernel
theorem mt_BadNumber_BadRest : mt "BadNumber" "BadRest" = some false := by decide +kernel
theorem mt_BadRest_BadModulus : mt "BadRest" "BadModulus" = some false := by decide +kernel
theorem mt_BadRest_BadNumber : mt "BadRest" "BadNumber" = some false := by decide +kernel
theorem mt_BadRest_BadRest : mt "BadRest" "BadRest" = some true := by decide +kernel
theorem mt_BadWord_BadModulus : mt "BadWord" "BadModulus" = some false := by decide +kernel
theorem mt_BadWord_BadNumber : mt "BadWord" "BadNumber" = some false := by decide +kernel
theorem mt_BadWord_BadRest : mt "BadWord" "BadRest" = some false := by decide +kernel
theorem mt_NotOneOff_BadModulus : mt "NotOneOff" "BadModulus" = some false := by decide +kernel
theorem mt_NotOneOff_BadNumber : mt "NotOneOff" "BadNumber" = some false := by decide +kernel
theorem mt_NotOneOff_BadRest : mt "NotOneOff" "BadRest" = some false := by decide +kernel
def ftab (a f : Str) : Bool :=
  if a = "NearPair" ∧ f = "one" then true else
  if a = "NearPair" ∧ f = "other" then true else
  if a = "NearPair" ∧ f = "below" then true else
  if a = "NearPair" ∧ f = "above" then true else
  if a = "SumBook" ∧ f = "length" then true else
  if a = "SumBook" ∧ f = "modulus" then true else
  if a = "SumBook" ∧ f = "rest" then true else
  false
theorem ftab_NearPair_one : ftab "NearPair" "one" = true := by decide +kernel
theorem ftab_NearPair_other : ftab "NearPair" "other" = true := by decide +kernel
theorem ftab_NearPair_below : ftab "NearPair" "below" = true := by decide +kernel
theorem ftab_NearPair_above : ftab "NearPair" "above" = true := by decide +kernel
theorem ftab_SumBook_length : ftab "SumBook" "length" = true := by decide +kernel
theorem ftab_SumBook_modulus : ftab "SumBook" "modulus" = true := by decide +kernel
theorem ftab_SumBook_rest : ftab "SumBook" "rest" = true := by decide +kernel
theorem look_NearPair_one {x0 x1 x2 x3 : Dt} : (List.zip (["one", "other", "below", "above"] : List Str) [x0, x1, x2, x3]).lookup ("one" : Str) = some x0 := rfl
theorem putN_NearPair_one : putNs "one" ([] : List Str) = (["one"] : List Str) := by decide +kernel
theorem putD_NearPair_one { y : Dt} : putDs "one" y ([] : List Str) [] = [y] := rfl
theorem look_NearPair_other {x0 x1 x2 x3 : Dt} : (List.zip (["one", "other", "below", "above"] : List Str) [x0, x1, x2, x3]).lookup ("other" : Str) = some x1 := rfl
theorem putN_NearPair_other : putNs "other" (["one"] : List Str) = (["one", "other"] : List Str) := by decide +kernel
theorem putD_NearPair_other {x0 y : Dt} : putDs "other" y (["one"] : List Str) [x0] = [x0, y] := rfl
theorem look_NearPair_below {x0 x1 x2 x3 : Dt} : (List.zip (["one", "other", "below", "above"] : List Str) [x0, x1, x2, x3]).lookup ("below" : Str) = some x2 := rfl
theorem putN_NearPair_below : putNs "below" (["one", "other"] : List Str) = (["one", "other", "below"] : List Str) := by decide +kernel
theorem putD_NearPair_below {x0 x1 y : Dt} : putDs "below" y (["one", "other"] : List Str) [x0, x1] = [x0, x1, y] := rfl
theorem look_NearPair_above {x0 x1 x2 x3 : Dt} : (List.zip (["one", "other", "below", "above"] : List Str) [x0, x1, x2, x3]).lookup ("above" : Str) = some x3 := rfl
theorem putN_NearPair_above : putNs "above" (["one", "other", "below"] : List Str) = (["one", "other", "below", "above"] : List Str) := by decide +kernel
theorem putD_NearPair_above {x0 x1 x2 y : Dt} : putDs "above" y (["one", "other", "below"] : List Str) [x0, x1, x2] = [x0, x1, x2, y] := rfl
theorem look_SumBook_length {x0 x1 x2 : Dt} : (List.zip (["length", "modulus", "rest"] : List Str) [x0, x1, x2]).lookup ("length" : Str) = some x0 := rfl
theorem putN_SumBook_length : putNs "length" ([] : List Str) = (["length"] : List Str) := by decide +kernel
theorem putD_SumBook_length { y : Dt} : putDs "length" y ([] : List Str) [] = [y] := rfl
theorem look_SumBook_modulus {x0 x1 x2 : Dt} : (List.zip (["length", "modulus", "rest"] : List Str) [x0, x1, x2]).lookup ("modulus" : Str) = some x1 := rfl
theorem putN_SumBook_modulus : putNs "modulus" (["length"] : List Str) = (["length", "modulus"] : List Str) := by decide +kernel
theorem putD_SumBook_modulus {x0 y : Dt} : putDs "modulus" y (["length"] : List Str) [x0] = [x0, y] := rfl
theorem look_SumBook_rest {x0 x1 x2 : Dt} : (List.zip (["length", "modulus", "rest"] : List Str) [x0, x1, x2]).lookup ("rest" : Str) = some x2 := rfl
theorem putN_SumBook_rest : putNs "rest" (["length", "modulus"] : List Str) = (["length", "modulus", "rest"] : List Str) := by decide +kernel
theorem putD_SumBook_rest {x0 x1 y : Dt} : putDs "rest" y (["length", "modulus"] : List Str) [x0, x1] = [x0, x1, y] := rfl
theorem look_SumBook_has {x0 x1 x2 : Dt} : (List.zip (["length", "modulus", "rest"] : List Str) [x0, x1, x2]).lookup ("has" : Str) = none := rfl
theorem look_SumBook_contrary {x0 x1 x2 : Dt} : (List.zip (["length", "modulus", "rest"] : List Str) [x0, x1, x2]).lookup ("contrary" : Str) = none := rfl
theorem look_SumBook_turned {x0 x1 x2 : Dt} : (List.zip (["length", "modulus", "rest"] : List Str) [x0, x1, x2]).lookup ("turned" : Str) = none := rfl
def tabI_NearPair (a : Str) : Option Bool :=
  if a = "NearPair" then some true else
  if a = "SumBook" then some false else
  none
theorem tabI_NearPair_NearPair : tabI_NearPair "NearPair" = some true := by decide +kernel
theorem tabI_NearPair_SumBook : tabI_NearPair "SumBook" = some false := by decide +kernel
def tabI_SumBook (a : Str) : Option Bool :=
  if a = "NearPair" then some false else
  if a = "SumBook" then some true else
  none
theorem tabI_SumBook_NearPair : tabI_SumBook "NearPair" = some false := by decide +kernel
theorem tabI_SumBook_SumBook : tabI_SumBook "SumBook" = some true := by decide +kernel
def S_is_whole : DSt := (sSeq (sIf (eOrT (eNotT (eTru (eCB (dIsi "int") (eCons (eVarB 0) (eCons (eC (.raw (.ty "int"))) eNil))))) (eTru (eCB (dIsi "bool") (eCons (eVarB 0) (eCons (eC (.raw (.ty "bool"))) eNil)))))
    (sRet (eC (.bl false)))
    sNext)
    (sRet (eAndV (eOrV (eOp dIsN (eVarB 1) (eC .non)) (eOp dGe (eVarB 0) (eVarB 1))) (eOrV (eOp dIsN (eVarB 2) (eC .non)) (eOp dLe (eVarB 0) (eVarB 2))))))
theorem F_is_whole_ex : ∃ x : DFn, x = mkD0 3 3 S_is_whole := ⟨_, rfl⟩
noncomputable def F_is_whole : DFn := F_is_whole_ex.choose
theorem F_is_whole_eq : F_is_whole = mkD0 3 3 S_is_whole := F_is_whole_ex.choose_spec
def S_check_number : DSt := (sSeq (sIf (eNotT (eTru (eCall0 F_is_whole [] (eConsS (eVar 0) (eConsS (eVar 1) (eConsS (eVar 2) eNil))))))
    (sRaise "BadNumber")
    sNext)
    (sRet (eVar 0)))
theorem F_check_number_ex : ∃ x : DFn, x = mkD 3 3 S_check_number := ⟨_, rfl⟩
noncomputable def F_check_number : DFn := F_check_number_ex.choose
theorem F_check_number_eq : F_check_number = mkD 3 3 S_check_number := F_check_number_ex.choose_spec
def S_check_modulus : DSt := (sIf (eNotT (eTru (eCall0 F_is_whole [] (eConsS (eVar 0) (eConsS (eVar 1) (eConsS (eC (.int (1000000))) eNil))))))
    (sRaise "BadModulus")
    sNext)
theorem F_check_modulus_ex : ∃ x : DFn, x = mkD 2 2 S_check_modulus := ⟨_, rfl⟩
noncomputable def F_check_modulus : DFn := F_check_modulus_ex.choose
theorem F_check_modulus_eq : F_check_modulus = mkD 2 2 S_check_modulus := F_check_modulus_ex.choose_spec
def S_check_rest : DSt := (sIf (eNotT (eTru (eCall0 F_is_whole [] (eConsS (eVar 0) (eConsS (eC (.int 0)) (eConsS (eOp dSub (eVarB 1) (eC (.int 1))) eNil))))))
    (sRaise "BadRest")
    sNext)
theorem F_check_rest_ex : ∃ x : DFn, x = mkD 2 2 S_check_rest := ⟨_, rfl⟩
noncomputable def F_check_rest : DFn := F_check_rest_ex.choose
theorem F_check_rest_eq : F_check_rest = mkD 2 2 S_check_rest := F_check_rest_ex.choose_spec
def S_check_word : DSt := (sSeq (sIf (eOrT (eNotT (eTru (eCB (dIsi2 "list" "tuple") (eCons (eVarB 1) (eCons (eTup (eCons (eC (.raw (.ty "list"))) (eCons (eC (.raw (.ty "tuple"))) eNil))) eNil))))) (eTest (eOp dGt (eCB dLen (eCons (eVarB 1) eNil)) (eVarB 2))))
    (sRaise1 "BadWord" "index" (eUn dNeg (eC (.int 1))))
    sNext)
    (sSeq (sFor (eEnum (eCons (eVar 1) eNil)) (gD2 3 4)
    (sIf (eNotT (eTru (eCall0 F_is_whole [] (eConsS (eVar 4) (eConsS (eC (.int 0)) (eConsS (eOp dSub (eVarB 0) (eC (.int 1))) eNil))))))
    (sRaise1 "BadWord" "index" (eVar 3))
    sNext))
    (sRet (eCB dTupOf (eCons (eVarB 1) eNil)))))
theorem F_check_word_ex : ∃ x : DFn, x = mkD 3 5 S_check_word := ⟨_, rfl⟩
noncomputable def F_check_word : DFn := F_check_word_ex.choose
theorem F_check_word_eq : F_check_word = mkD 3 5 S_check_word := F_check_word_ex.choose_spec
def S_index_behind : DSt := (sSeq (sAsg (eC (.int 0)) (gD 3))
    (sSeq (sWhile (eTest (eOp dGt (eVarB 2) (eC (.int 0))))
    (sSeq (sIf (eTest (eOp dEq (eOp dIx (eVarB 0) (eVarB 3)) (eVarB 1)))
    (sAug (· - ·) 2 (eC (.int 1)))
    sNext)
    (sAug (· + ·) 3 (eC (.int 1)))))
    (sRet (eVar 3))))
theorem F_index_behind_ex : ∃ x : DFn, x = mkD0 3 4 S_index_behind := ⟨_, rfl⟩
noncomputable def F_index_behind : DFn := F_index_behind_ex.choose
theorem F_index_behind_eq : F_index_behind = mkD0 3 4 S_index_behind := F_index_behind_ex.choose_spec
def S_lifted_word : DSt := (sSeq (sAsg (eCall F_check_word [] (eConsS (eC (.int 2)) (eConsS (eVar 0) (eConsS (eC (.int (200))) eNil)))) (gD 0))
    (sSeq (sIf (eNotT (eTru (eCall0 F_is_whole [] (eConsS (eVar 1) (eConsS (eC (.int 0)) (eConsS (eOp dAdd (eCB dLen (eCons (eVarB 0) eNil)) (eC (.int 1))) eNil))))))
    (sRaise "BadAmount")
    sNext)
    (sSeq (sAsg (eCB dSum (eCons (eVarB 0) eNil)) (gD 2))
    (sSeq (sIf (eTest (eOp dLe (eVarB 1) (eVarB 2)))
    (sSeq (sAsg (eCall0 F_index_behind [] (eConsS (eVar 0) (eConsS (eC (.int 1)) (eConsS (eOp dSub (eVarB 2) (eVarB 1)) eNil)))) (gD 3))
    (sRet (eOp dAdd (eOp dAdd (eSl dSl (eVarB 0) eNoPart (ePart (eVar 3))) (eTup (eCons (eC (.int 0)) eNil))) (eSl dSl (eVarB 0) (ePart (eVar 3)) eNoPart))))
    sNext)
    (sSeq (sAsg (eCall0 F_index_behind [] (eConsS (eVar 0) (eConsS (eC (.int 0)) (eConsS (eOp dSub (eOp dSub (eVarB 1) (eVarB 2)) (eC (.int 1))) eNil)))) (gD 3))
    (sRet (eOp dAdd (eOp dAdd (eSl dSl (eVarB 0) eNoPart (ePart (eVar 3))) (eTup (eCons (eC (.int 1)) eNil))) (eSl dSl (eVarB 0) (ePart (eVar 3)) eNoPart))))))))
theorem F_lifted_word_ex : ∃ x : DFn, x = mkD 2 4 S_lifted_word := ⟨_, rfl⟩
noncomputable def F_lifted_word : DFn := F_lifted_word_ex.choose
theorem F_lifted_word_eq : F_lifted_word = mkD 2 4 S_lifted_word := F_lifted_word_ex.choose_spec
def S_NearPair___init : DSt := (sSeq (sSetF ftab "one" 0 (eVar 1))
    (sSeq (sSetF ftab "other" 0 (eVar 2))
    (sSeq (sSetF ftab "below" 0 (eVar 3))
    (sSetF ftab "above" 0 (eVar 4)))))
theorem F_NearPair___init_ex : ∃ x : DFn, x = mkI0 "NearPair" 5 5 S_NearPair___init := ⟨_, rfl⟩
noncomputable def F_NearPair___init : DFn := F_NearPair___init_ex.choose
theorem F_NearPair___init_eq : F_NearPair___init = mkI0 "NearPair" 5 5 S_NearPair___init := F_NearPair___init_ex.choose_spec
def S_modulus_clash : DSt := (sSeq (sDrop (eCall F_check_number [] (eConsS (eVar 0) (eConsS (eC (.int 0)) (eConsS (eC (.int (200))) eNil)))))
    (sSeq (sDrop (eCall F_check_modulus [] (eConsS (eVar 1) (eConsS (eC (.int 1)) eNil))))
    (sSeq (sDrop (eCall F_check_rest [] (eConsS (eVar 2) (eConsS (eVar 1) eNil))))
    (sSeq (sIf (eTest (eOp dGt (eVarB 1) (eVarB 0)))
    (sRet (eC .non))
    sNext)
    (sSeq (sAsg (eCB dTupOf (eCons (eLc (eRng2 (eCons (eC (.int 1)) (eCons (eVarB 0) eNil))) (gD 6) eYes (eIf (eTest (eOp dEq (eVarB 6) (eVarB 2))) (eC (.int 1)) (eC (.int 0))) [6]) eNil)) (gD 3))
    (sSeq (sAsg (eCall F_lifted_word [] (eConsS (eVar 3) (eConsS (eC (.int 0)) eNil))) (gD 4))
    (sSeq (sAsg (eCall F_lifted_word [] (eConsS (eVar 3) (eConsS (eVar 1) eNil))) (gD 5))
    (sRet (eCall0 F_NearPair___init [] (eConsS (eVar 4) (eConsS (eVar 5) (eConsS (eVar 3) (eConsS (eOp dAdd (eVarB 5) (eTup (eCons (eC (.int 0)) eNil))) eNil)))))))))))))
theorem F_modulus_clash_ex : ∃ x : DFn, x = mkD 3 7 S_modulus_clash := ⟨_, rfl⟩
noncomputable def F_modulus_clash : DFn := F_modulus_clash_ex.choose
theorem F_modulus_clash_eq : F_modulus_clash = mkD 3 7 S_modulus_clash := F_modulus_clash_ex.choose_spec
def S_law_sum : DSt := (sRet (eCB dSum (eCons (eLc (eRng1 (eCons (eCB dLen (eCons (eVarB 0) eNil)) eNil)) (gD 1) eYes (eOp dMul (eOp dAdd (eVarB 1) (eC (.int 1))) (eOp dIx (eVarB 0) (eVarB 1))) [1]) eNil)))
theorem F_law_sum_ex : ∃ x : DFn, x = mkD0 1 2 S_law_sum := ⟨_, rfl⟩
noncomputable def F_law_sum : DFn := F_law_sum_ex.choose
theorem F_law_sum_eq : F_law_sum = mkD0 1 2 S_law_sum := F_law_sum_ex.choose_spec
def S_law_whole : DSt := (sRet (eAndV (eCB (dIsi "int") (eCons (eVarB 0) (eCons (eC (.raw (.ty "int"))) eNil))) (eNotVT (eCB (dIsi "bool") (eCons (eVarB 0) (eCons (eC (.raw (.ty "bool"))) eNil))))))
theorem F_law_whole_ex : ∃ x : DFn, x = mkD0 1 1 S_law_whole := ⟨_, rfl⟩
noncomputable def F_law_whole : DFn := F_law_whole_ex.choose
theorem F_law_whole_eq : F_law_whole = mkD0 1 1 S_law_whole := F_law_whole_ex.choose_spec
def S_law_is_word : DSt := (sSeq (sIf (eOrT (eNotT (eTru (eCB (dIsi "tuple") (eCons (eVarB 0) (eCons (eC (.raw (.ty "tuple"))) eNil))))) (eTest (eOp dNe (eCB dLen (eCons (eVarB 0) eNil)) (eVarB 1))))
    (sRet (eC (.bl false)))
    sNext)
    (sRet (eCB dAll (eCons (eLc (eSeq (eVarB 0)) (gD 2) eYes (eAndV (eCall0 F_law_whole [] (eConsS (eVar 2) eNil)) (eChain dLe dLe (eC (.int 0)) (eVarB 2) (eC (.int 1)))) [2]) eNil))))
theorem F_law_is_word_ex : ∃ x : DFn, x = mkD0 2 3 S_law_is_word := ⟨_, rfl⟩
noncomputable def F_law_is_word : DFn := F_law_is_word_ex.choose
theorem F_law_is_word_eq : F_law_is_word = mkD0 2 3 S_law_is_word := F_law_is_word_ex.choose_spec
def S_law_is_below : DSt := (sSeq (sAsg (eC (.int 0)) (gD 2))
    (sSeq (sFor (eSeq (eVar 1)) (gD 3)
    (sIf (eAndT (eTest (eOp dLt (eVarB 2) (eCB dLen (eCons (eVarB 0) eNil)))) (eTest (eOp dEq (eOp dIx (eVarB 0) (eVarB 2)) (eVarB 3))))
    (sAsg (eOp dAdd (eVarB 2) (eC (.int 1))) (gD 2))
    sNext))
    (sRet (eOp dEq (eVarB 2) (eCB dLen (eCons (eVarB 0) eNil))))))
theorem F_law_is_below_ex : ∃ x : DFn, x = mkD0 2 4 S_law_is_below := ⟨_, rfl⟩
noncomputable def F_law_is_below : DFn := F_law_is_below_ex.choose
theorem F_law_is_below_eq : F_law_is_below = mkD0 2 4 S_law_is_below := F_law_is_below_ex.choose_spec
def S_law_clash_right : DSt := (sSeq (sIf (eNotT (eTru (eIsI tabI_NearPair (eVarB 3))))
    (sRet (eC (.bl false)))
    sNext)
    (sSeq (sAsg (eLst (eCons (eFld ftab "one" (eVarB 3)) (eCons (eFld ftab "other" (eVarB 3)) eNil))) (gD 4))
    (sSeq (sFor (eSeq (eVar 4)) (gD 5)
    (sIf (eOrT (eNotT (eTru (eCall0 F_law_is_word [] (eConsS (eVar 5) (eConsS (eVar 0) eNil))))) (eTest (eOp dNe (eOp dMod (eCB dInt (eCons (eCall0 F_law_sum [] (eConsS (eVar 5) eNil)) eNil)) (eVarB 1)) (eVarB 2))))
    (sRet (eC (.bl false)))
    sNext))
    (sSeq (sIf (eOrT (eTest (eOp dEq (eFld ftab "one" (eVarB 3)) (eFld ftab "other" (eVarB 3)))) (eOrT (eNotT (eTru (eCall0 F_law_is_word [] (eConsS (eFld ftab "below" (eVarB 3)) (eConsS (eOp dSub (eVarB 0) (eC (.int 1))) eNil))))) (eNotT (eTru (eCall0 F_law_is_word [] (eConsS (eFld ftab "above" (eVarB 3)) (eConsS (eOp dAdd (eVarB 0) (eC (.int 1))) eNil)))))))
    (sRet (eC (.bl false)))
    sNext)
    (sRet (eCB dAll (eCons (eLc (eSeq (eVarB 4)) (gD 5) eYes (eAndV (eCall0 F_law_is_below [] (eConsS (eFld ftab "below" (eVarB 3)) (eConsS (eVar 5) eNil))) (eCall0 F_law_is_below [] (eConsS (eVar 5) (eConsS (eFld ftab "above" (eVarB 3)) eNil)))) [5]) eNil)))))))
theorem F_law_clash_right_ex : ∃ x : DFn, x = mkD0 4 6 S_law_clash_right := ⟨_, rfl⟩
noncomputable def F_law_clash_right : DFn := F_law_clash_right_ex.choose
theorem F_law_clash_right_eq : F_law_clash_right = mkD0 4 6 S_law_clash_right := F_law_clash_right_ex.choose_spec
def S_law_modulus_right : DSt := (sSeq (sAsg (eCall0 F_modulus_clash [] (eConsS (eVar 0) (eConsS (eVar 1) (eConsS (eVar 2) eNil)))) (gD 3))
    (sSeq (sIf (eTest (eOp dIsN (eVarB 3) (eC .non)))
    (sRet (eOp dGt (eVarB 1) (eVarB 0)))
    sNext)
    (sRet (eAndV (eOp dLe (eVarB 1) (eVarB 0)) (eCall0 F_law_clash_right [] (eConsS (eVar 0) (eConsS (eVar 1) (eConsS (eVar 2) (eConsS (eVar 3) eNil)))))))))
theorem F_law_modulus_right_ex : ∃ x : DFn, x = mkD0 3 4 S_law_modulus_right := ⟨_, rfl⟩
noncomputable def F_law_modulus_right : DFn := F_law_modulus_right_ex.choose
theorem F_law_modulus_right_eq : F_law_modulus_right = mkD0 3 4 S_law_modulus_right := F_law_modulus_right_ex.choose_spec
def S_law_all_words : DSt := (sSeq (sAsg (eLst (eCons (eTup eNil) eNil)) (gD 2))
    (sSeq (sFor (eRng1 (eCons (eVarB 1) eNil)) (gD 3)
    (sSeq (sAsg (eLst eNil) (gD 4))
    (sSeq (sFor (eSeq (eVar 2)) (gD 5)
    (sAsg (eOp dAdd (eVarB 4) (eLc (eRng1 (eCons (eVarB 0) eNil)) (gD 6) eYes (eOp dAdd (eVarB 5) (eTup (eCons (eVar 6) eNil))) [6])) (gD 4)))
    (sAsg (eVar 4) (gD 2)))))
    (sRet (eVar 2))))
theorem F_law_all_words_ex : ∃ x : DFn, x = mkD0 2 7 S_law_all_words := ⟨_, rfl⟩
noncomputable def F_law_all_words : DFn := F_law_all_words_ex.choose
theorem F_law_all_words_eq : F_law_all_words = mkD0 2 7 S_law_all_words := F_law_all_words_ex.choose_spec
def S_law_has_clash : DSt := (sSeq (sOwnD 3 true)
    (sSeq (sFor (eSeq (eCall0 F_law_all_words [] (eConsS (eC (.int 2)) (eConsS (eVar 0) eNil)))) (gD 4)
    (sIf (eTest (eOp dEq (eOp dMod (eCB dInt (eCons (eOp dSub (eCall0 F_law_sum [] (eConsS (eVar 4) eNil)) (eVarB 2)) eNil)) (eVarB 1)) (eC (.int 0))))
    (sFor (eRng1 (eCons (eVarB 0) eNil)) (gD 5)
    (sSeq (sAsg (eOp dAdd (eSl dSl (eVarB 4) eNoPart (ePart (eVar 5))) (eSl dSl (eVarB 4) (ePart (eOp dAdd (eVarB 5) (eC (.int 1)))) eNoPart)) (gD 6))
    (sSeq (sIf (eTest (eOp dNe (eGet2 (eVarD 3) (eVar 6) (eVar 4)) (eVarB 4)))
    (sRet (eC (.bl true)))
    sNext)
    (sPutD 3 (eVar 6) (eVar 4)))))
    sNext))
    (sRet (eC (.bl false)))))
theorem F_law_has_clash_ex : ∃ x : DFn, x = mkD0 3 7 S_law_has_clash := ⟨_, rfl⟩
noncomputable def F_law_has_clash : DFn := F_law_has_clash_ex.choose
theorem F_law_has_clash_eq : F_law_has_clash = mkD0 3 7 S_law_has_clash := F_law_has_clash_ex.choose_spec
def S_law_book_of : DSt := (sSeq (sAsg (eOp dIx (eLst (eCons (eC (.int 0)) (eCons (eC (.int 0)) (eCons (eC (.int 0)) (eCons (eC (.int 0)) (eCons (eC (.int 1)) (eCons (eOp dAdd (eC (.int 1)) (eCall0 F_law_take [] (eConsH 0 (eConsS (eOp dAdd (eVarB 1) (eC (.int 2))) eNil)))) (eCons (eCall0 F_law_take [] (eConsH 0 (eConsS (eOp dSub (eC (.int (1000000))) (eVarB 1)) eNil))) eNil)))))))) (eCall0 F_law_take [] (eConsH 0 (eConsS (eC (.int 7)) eNil)))) (gD 2))
    (sSeq (sAsg (eOp dAdd (eOp dAdd (eVarB 1) (eC (.int 1))) (eVarB 2)) (gD 3))
    (sSeq (sAsg (eCall0 F_law_take [] (eConsH 0 (eConsS (eCB dMin2 (eCons (eVarB 3) (eCons (eOp dAdd (eOp dFdiv (eOp dMul (eVarB 1) (eOp dAdd (eVarB 1) (eC (.int 1)))) (eC (.int 2))) (eC (.int 1))) eNil))) eNil))) (gD 4))
    (sSeq (sIf (eTest (eOp dEq (eCall0 F_law_take [] (eConsH 0 (eConsS (eC (.int 2)) eNil))) (eC (.int 0))))
    (sAsg (eCall0 F_law_take [] (eConsH 0 (eConsS (eVar 3) eNil))) (gD 4))
    sNext)
    (sRet (eLst (eCons (eVar 1) (eCons (eVar 3) (eCons (eVar 4) eNil)))))))))
theorem F_law_book_of_ex : ∃ x : DFn, x = mkD0 2 5 S_law_book_of := ⟨_, rfl⟩
noncomputable def F_law_book_of : DFn := F_law_book_of_ex.choose
theorem F_law_book_of_eq : F_law_book_of = mkD0 2 5 S_law_book_of := F_law_book_of_ex.choose_spec
def S_SumBook___init : DSt := (sSeq (sDrop (eCall F_check_number [] (eConsS (eVar 1) (eConsS (eC (.int 0)) (eConsS (eC (.int (200))) eNil)))))
    (sSeq (sDrop (eCall F_check_modulus [] (eConsS (eVar 2) (eConsS (eOp dAdd (eVarB 1) (eC (.int 1))) eNil))))
    (sSeq (sDrop (eCall F_check_rest [] (eConsS (eVar 3) (eConsS (eVar 2) eNil))))
    (sSeq (sSetF ftab "length" 0 (eVar 1))
    (sSeq (sSetF ftab "modulus" 0 (eVar 2))
    (sSetF ftab "rest" 0 (eVar 3)))))))
theorem F_SumBook___init_ex : ∃ x : DFn, x = mkI "SumBook" 4 4 S_SumBook___init := ⟨_, rfl⟩
noncomputable def F_SumBook___init : DFn := F_SumBook___init_ex.choose
theorem F_SumBook___init_eq : F_SumBook___init = mkI "SumBook" 4 4 S_SumBook___init := F_SumBook___init_ex.choose_spec
def S_SumBook_is_full : DSt := (sRet (eOp dEq (eFld ftab "modulus" (eVarB 0)) (eOp dAdd (eFld ftab "length" (eVarB 0)) (eC (.int 1)))))
theorem F_SumBook_is_full_ex : ∃ x : DFn, x = mkD0 1 1 S_SumBook_is_full := ⟨_, rfl⟩
noncomputable def F_SumBook_is_full : DFn := F_SumBook_is_full_ex.choose
theorem F_SumBook_is_full_eq : F_SumBook_is_full = mkD0 1 1 S_SumBook_is_full := F_SumBook_is_full_ex.choose_spec
def S_word_of_sum : DSt := (sSeq (sOwn 2 (eLst eNil))
    (sSeq (sFor (eRngD (eCons (eVarB 0) (eCons (eC (.int 0)) (eCons (eUn dNeg (eC (.int 1))) eNil)))) (gD 3)
    (sIf (eTest (eOp dLe (eVarB 3) (eVarB 1)))
    (sSeq (sApp 2 (eVar 3))
    (sAug (· - ·) 1 (eVar 3)))
    sNext))
    (sRet (eCB dTupOf (eCons (eLc (eRng2 (eCons (eC (.int 1)) (eCons (eOp dAdd (eVarB 0) (eC (.int 1))) eNil))) (gD 3) eYes (eIf (eTest (eOp dIn (eVarB 3) (eVarB 2))) (eC (.int 1)) (eC (.int 0))) [3]) eNil)))))
theorem F_word_of_sum_ex : ∃ x : DFn, x = mkD0 2 4 S_word_of_sum := ⟨_, rfl⟩
noncomputable def F_word_of_sum : DFn := F_word_of_sum_ex.choose
theorem F_word_of_sum_eq : F_word_of_sum = mkD0 2 4 S_word_of_sum := F_word_of_sum_ex.choose_spec
def S_unread_word : DSt := (sSeq (sIf (eTest (eOp dEq (eFld ftab "length" (eVarB 0)) (eC (.int 0))))
    (sRaise "BadNumber")
    sNext)
    (sSeq (sAsg (eOp dFdiv (eOp dMul (eFld ftab "length" (eVarB 0)) (eOp dSub (eFld ftab "length" (eVarB 0)) (eC (.int 1)))) (eC (.int 2))) (gD 1))
    (sSeq (sIf (eTru (eProp "SumBook" F_SumBook_is_full (eVar 0)))
    (sRet (eC .non))
    sNext)
    (sSeq (sIf (eTest (eOp dGt (eFld ftab "rest" (eVarB 0)) (eFld ftab "length" (eVarB 0))))
    (sRet (eCall0 F_word_of_sum [] (eConsS (eOp dSub (eFld ftab "length" (eVarB 0)) (eC (.int 1))) (eConsS (eC (.int 0)) eNil))))
    sNext)
    (sSeq (sIf (eTest (eOp dLe (eOp dAdd (eFld ftab "rest" (eVarB 0)) (eC (.int 1))) (eVarB 1)))
    (sRet (eCall0 F_word_of_sum [] (eConsS (eOp dSub (eFld ftab "length" (eVarB 0)) (eC (.int 1))) (eConsS (eOp dAdd (eFld ftab "rest" (eVarB 0)) (eC (.int 1))) eNil))))
    sNext)
    (sRet (eC .non)))))))
theorem F_unread_word_ex : ∃ x : DFn, x = mkD 1 2 S_unread_word := ⟨_, rfl⟩
noncomputable def F_unread_word : DFn := F_unread_word_ex.choose
theorem F_unread_word_eq : F_unread_word = mkD 1 2 S_unread_word := F_unread_word_ex.choose_spec
def S_law_is_unread : DSt := (sRet (eOp dGt (eOp dMod (eCB dInt (eCons (eOp dSub (eOp dIx (eVarB 0) (eC (.int 2))) (eCall0 F_law_sum [] (eConsS (eVar 1) eNil))) eNil)) (eOp dIx (eVarB 0) (eC (.int 1)))) (eOp dIx (eVarB 0) (eC (.int 0)))))
theorem F_law_is_unread_ex : ∃ x : DFn, x = mkD0 2 2 S_law_is_unread := ⟨_, rfl⟩
noncomputable def F_law_is_unread : DFn := F_law_is_unread_ex.choose
theorem F_law_is_unread_eq : F_law_is_unread = mkD0 2 2 S_law_is_unread := F_law_is_unread_ex.choose_spec
def S_check_letters_of : DSt := (sSeq (sAsg (eCall F_check_word [] (eConsS (eC (.int 2)) (eConsS (eVar 0) (eConsS (eVar 2) eNil)))) (gD 0))
    (sSeq (sIf (eTest (eOp dNe (eCB dLen (eCons (eVarB 0) eNil)) (eVarB 1)))
    (sRaise "NotOneOff")
    sNext)
    (sRet (eVar 0))))
theorem F_check_letters_of_ex : ∃ x : DFn, x = mkD 3 3 S_check_letters_of := ⟨_, rfl⟩
noncomputable def F_check_letters_of : DFn := F_check_letters_of_ex.choose
theorem F_check_letters_of_eq : F_check_letters_of = mkD 3 3 S_check_letters_of := F_check_letters_of_ex.choose_spec
def S_sum_of : DSt := (sRet (eCB dSum (eCons (eLc (eEnumK 1 (eCons (eVarB 0) eNil)) (gD2 1 2) (eTest (eOp dEq (eVarB 2) (eC (.int 1)))) (eVar 1) [1, 2]) eNil)))
theorem F_sum_of_ex : ∃ x : DFn, x = mkD0 1 3 S_sum_of := ⟨_, rfl⟩
noncomputable def F_sum_of : DFn := F_sum_of_ex.choose
theorem F_sum_of_eq : F_sum_of = mkD0 1 3 S_sum_of := F_sum_of_ex.choose_spec
def S_place_sum : DSt := (sRet (eCall0 F_sum_of [] (eConsS (eCall F_check_word [] (eConsS (eC (.int 2)) (eConsS (eVar 0) (eConsS (eOp dAdd (eC (.int (200))) (eC (.int 1))) eNil)))) eNil)))
theorem F_place_sum_ex : ∃ x : DFn, x = mkD 1 1 S_place_sum := ⟨_, rfl⟩
noncomputable def F_place_sum : DFn := F_place_sum_ex.choose
theorem F_place_sum_eq : F_place_sum = mkD 1 1 S_place_sum := F_place_sum_ex.choose_spec
def S_read_lost : DSt := (sSeq (sAsg (eCall F_check_letters_of [.d (.int (201))] (eConsS (eVar 1) (eConsS (eOp dSub (eFld ftab "length" (eVarB 0)) (eC (.int 1))) eNil))) (gD 1))
    (sSeq (sAsg (eOp dMod (eOp dSub (eFld ftab "rest" (eVarB 0)) (eCall F_place_sum [] (eConsS (eVar 1) eNil))) (eFld ftab "modulus" (eVarB 0))) (gD 2))
    (sRet (eIf (eTest (eOp dLe (eVarB 2) (eFld ftab "length" (eVarB 0)))) (eCall F_lifted_word [] (eConsS (eVar 1) (eConsS (eVar 2) eNil))) (eC .non)))))
theorem F_read_lost_ex : ∃ x : DFn, x = mkD 2 3 S_read_lost := ⟨_, rfl⟩
noncomputable def F_read_lost : DFn := F_read_lost_ex.choose
theorem F_read_lost_eq : F_read_lost = mkD 2 3 S_read_lost := F_read_lost_ex.choose_spec
theorem S_law_unread_right_r8_ex : ∃ x : DSt, x = (sRet (eOp dIsN (eCall0 F_read_lost [] (eConsS (eVar 0) (eConsS (eVar 3) eNil))) (eC .non))) := ⟨_, rfl⟩
noncomputable def S_law_unread_right_r8 : DSt := S_law_unread_right_r8_ex.choose
theorem S_law_unread_right_r8_eq : S_law_unread_right_r8 = (sRet (eOp dIsN (eCall0 F_read_lost [] (eConsS (eVar 0) (eConsS (eVar 3) eNil))) (eC .non))) := S_law_unread_right_r8_ex.choose_spec
theorem S_law_unread_right_r6_ex : ∃ x : DSt, x = (sSeq (sIf (eOrT (eTru (eVarB 4)) (eOrT (eNotT (eTru (eCall0 F_law_is_word [] (eConsS (eVar 3) (eConsS (eOp dSub (eVarB 2) (eC (.int 1))) eNil))))) (eNotT (eTru (eCall0 F_law_is_unread [] (eConsS (eVar 1) (eConsS (eVar 3) eNil)))))))
    (sRet (eC (.bl false)))
    sNext)
    S_law_unread_right_r8) := ⟨_, rfl⟩
noncomputable def S_law_unread_right_r6 : DSt := S_law_unread_right_r6_ex.choose
theorem S_law_unread_right_r6_eq : S_law_unread_right_r6 = (sSeq (sIf (eOrT (eTru (eVarB 4)) (eOrT (eNotT (eTru (eCall0 F_law_is_word [] (eConsS (eVar 3) (eConsS (eOp dSub (eVarB 2) (eC (.int 1))) eNil))))) (eNotT (eTru (eCall0 F_law_is_unread [] (eConsS (eVar 1) (eConsS (eVar 3) eNil)))))))
    (sRet (eC (.bl false)))
    sNext)
    S_law_unread_right_r8) := S_law_unread_right_r6_ex.choose_spec
theorem S_law_unread_right_r4_ex : ∃ x : DSt, x = (sSeq (sIf (eTest (eOp dIsN (eVarB 3) (eC .non)))
    (sRet (eVar 4))
    sNext)
    S_law_unread_right_r6) := ⟨_, rfl⟩
noncomputable def S_law_unread_right_r4 : DSt := S_law_unread_right_r4_ex.choose
theorem S_law_unread_right_r4_eq : S_law_unread_right_r4 = (sSeq (sIf (eTest (eOp dIsN (eVarB 3) (eC .non)))
    (sRet (eVar 4))
    sNext)
    S_law_unread_right_r6) := S_law_unread_right_r4_ex.choose_spec
theorem S_law_unread_right_r3_ex : ∃ x : DSt, x = (sSeq (sAsg (eOrV (eOp dEq (eOp dIx (eVarB 1) (eC (.int 1))) (eOp dAdd (eVarB 2) (eC (.int 1)))) (eAndV (eOp dLt (eVarB 2) (eC (.int 4))) (eChain dLe dLe (eOp dFdiv (eOp dMul (eVarB 2) (eOp dSub (eVarB 2) (eC (.int 1)))) (eC (.int 2))) (eOp dIx (eVarB 1) (eC (.int 2))) (eVarB 2)))) (gD 4))
    S_law_unread_right_r4) := ⟨_, rfl⟩
noncomputable def S_law_unread_right_r3 : DSt := S_law_unread_right_r3_ex.choose
theorem S_law_unread_right_r3_eq : S_law_unread_right_r3 = (sSeq (sAsg (eOrV (eOp dEq (eOp dIx (eVarB 1) (eC (.int 1))) (eOp dAdd (eVarB 2) (eC (.int 1)))) (eAndV (eOp dLt (eVarB 2) (eC (.int 4))) (eChain dLe dLe (eOp dFdiv (eOp dMul (eVarB 2) (eOp dSub (eVarB 2) (eC (.int 1)))) (eC (.int 2))) (eOp dIx (eVarB 1) (eC (.int 2))) (eVarB 2)))) (gD 4))
    S_law_unread_right_r4) := S_law_unread_right_r3_ex.choose_spec
theorem S_law_unread_right_r2_ex : ∃ x : DSt, x = (sSeq (sAsg (eCall0 F_unread_word [] (eConsS (eVar 0) eNil)) (gD 3))
    S_law_unread_right_r3) := ⟨_, rfl⟩
noncomputable def S_law_unread_right_r2 : DSt := S_law_unread_right_r2_ex.choose
theorem S_law_unread_right_r2_eq : S_law_unread_right_r2 = (sSeq (sAsg (eCall0 F_unread_word [] (eConsS (eVar 0) eNil)) (gD 3))
    S_law_unread_right_r3) := S_law_unread_right_r2_ex.choose_spec
def S_law_unread_right : DSt := (sSeq (sAsg (eOp dIx (eVarB 1) (eC (.int 0))) (gD 2))
    S_law_unread_right_r2)
theorem F_law_unread_right_ex : ∃ x : DFn, x = mkD0 2 5 S_law_unread_right := ⟨_, rfl⟩
noncomputable def F_law_unread_right : DFn := F_law_unread_right_ex.choose
theorem F_law_unread_right_eq : F_law_unread_right = mkD0 2 5 S_law_unread_right := F_law_unread_right_ex.choose_spec
def S_law_more_one : DSt := (sSeq (sAsg (eLst eNil) (gD 2))
    (sSeq (sFor (eRng1 (eCons (eOp dAdd (eCB dLen (eCons (eVarB 1) eNil)) (eC (.int 1))) eNil)) (gD 3)
    (sAsg (eOp dAdd (eVarB 2) (eLc (eRng1 (eCons (eVarB 0) eNil)) (gD 4) eYes (eOp dAdd (eOp dAdd (eSl dSl (eVarB 1) eNoPart (ePart (eVar 3))) (eTup (eCons (eVar 4) eNil))) (eSl dSl (eVarB 1) (ePart (eVar 3)) eNoPart)) [4])) (gD 2)))
    (sRet (eSortedSet (eVarB 2)))))
theorem F_law_more_one_ex : ∃ x : DFn, x = mkD0 2 5 S_law_more_one := ⟨_, rfl⟩
noncomputable def F_law_more_one : DFn := F_law_more_one_ex.choose
theorem F_law_more_one_eq : F_law_more_one = mkD0 2 5 S_law_more_one := F_law_more_one_ex.choose_spec
theorem S_law_small_unread_b4_ex : ∃ x : DSt, x = (sIf (eTest (eOp dEq (eOp dMod (eCB dInt (eCons (eOp dSub (eCall0 F_law_sum [] (eConsS (eVar 3) eNil)) (eOp dIx (eVarB 0) (eC (.int 2)))) eNil)) (eOp dIx (eVarB 0) (eC (.int 1)))) (eC (.int 0))))
    (sPutD 2 (eVar 3) (eC (.bl true)))
    sNext) := ⟨_, rfl⟩
noncomputable def S_law_small_unread_b4 : DSt := S_law_small_unread_b4_ex.choose
theorem S_law_small_unread_b4_eq : S_law_small_unread_b4 = (sIf (eTest (eOp dEq (eOp dMod (eCB dInt (eCons (eOp dSub (eCall0 F_law_sum [] (eConsS (eVar 3) eNil)) (eOp dIx (eVarB 0) (eC (.int 2)))) eNil)) (eOp dIx (eVarB 0) (eC (.int 1)))) (eC (.int 0))))
    (sPutD 2 (eVar 3) (eC (.bl true)))
    sNext) := S_law_small_unread_b4_ex.choose_spec
theorem S_law_small_unread_b7_ex : ∃ x : DSt, x = (sIf (eTru (eCB dAll (eCons (eLc (eSeq (eCall0 F_law_more_one [] (eConsS (eC (.int 2)) (eConsS (eVar 4) eNil)))) (gD 3) eYes (eNotInD (eVar 3) (eVarD 2)) [3]) eNil)))
    (sRet (eC (.bl true)))
    sNext) := ⟨_, rfl⟩
noncomputable def S_law_small_unread_b7 : DSt := S_law_small_unread_b7_ex.choose
theorem S_law_small_unread_b7_eq : S_law_small_unread_b7 = (sIf (eTru (eCB dAll (eCons (eLc (eSeq (eCall0 F_law_more_one [] (eConsS (eC (.int 2)) (eConsS (eVar 4) eNil)))) (gD 3) eYes (eNotInD (eVar 3) (eVarD 2)) [3]) eNil)))
    (sRet (eC (.bl true)))
    sNext) := S_law_small_unread_b7_ex.choose_spec
theorem S_law_small_unread_r9_ex : ∃ x : DSt, x = (sRet (eC (.bl false))) := ⟨_, rfl⟩
noncomputable def S_law_small_unread_r9 : DSt := S_law_small_unread_r9_ex.choose
theorem S_law_small_unread_r9_eq : S_law_small_unread_r9 = (sRet (eC (.bl false))) := S_law_small_unread_r9_ex.choose_spec
theorem S_law_small_unread_r6_ex : ∃ x : DSt, x = (sSeq (sFor (eSeq (eCall0 F_law_all_words [] (eConsS (eC (.int 2)) (eConsS (eOp dSub (eVarB 1) (eC (.int 1))) eNil)))) (gD 4)
    S_law_small_unread_b7)
    S_law_small_unread_r9) := ⟨_, rfl⟩
noncomputable def S_law_small_unread_r6 : DSt := S_law_small_unread_r6_ex.choose
theorem S_law_small_unread_r6_eq : S_law_small_unread_r6 = (sSeq (sFor (eSeq (eCall0 F_law_all_words [] (eConsS (eC (.int 2)) (eConsS (eOp dSub (eVarB 1) (eC (.int 1))) eNil)))) (gD 4)
    S_law_small_unread_b7)
    S_law_small_unread_r9) := S_law_small_unread_r6_ex.choose_spec
theorem S_law_small_unread_r3_ex : ∃ x : DSt, x = (sSeq (sFor (eSeq (eCall0 F_law_all_words [] (eConsS (eC (.int 2)) (eConsS (eVar 1) eNil)))) (gD 3)
    S_law_small_unread_b4)
    S_law_small_unread_r6) := ⟨_, rfl⟩
noncomputable def S_law_small_unread_r3 : DSt := S_law_small_unread_r3_ex.choose
theorem S_law_small_unread_r3_eq : S_law_small_unread_r3 = (sSeq (sFor (eSeq (eCall0 F_law_all_words [] (eConsS (eC (.int 2)) (eConsS (eVar 1) eNil)))) (gD 3)
    S_law_small_unread_b4)
    S_law_small_unread_r6) := S_law_small_unread_r3_ex.choose_spec
theorem S_law_small_unread_r2_ex : ∃ x : DSt, x = (sSeq (sOwnD 2 true)
    S_law_small_unread_r3) := ⟨_, rfl⟩
noncomputable def S_law_small_unread_r2 : DSt := S_law_small_unread_r2_ex.choose
theorem S_law_small_unread_r2_eq : S_law_small_unread_r2 = (sSeq (sOwnD 2 true)
    S_law_small_unread_r3) := S_law_small_unread_r2_ex.choose_spec
def S_law_small_unread : DSt := (sSeq (sAsg (eOp dIx (eVarB 0) (eC (.int 0))) (gD 1))
    S_law_small_unread_r2)
theorem F_law_small_unread_ex : ∃ x : DFn, x = mkD0 1 5 S_law_small_unread := ⟨_, rfl⟩
noncomputable def F_law_small_unread : DFn := F_law_small_unread_ex.choose
theorem F_law_small_unread_eq : F_law_small_unread = mkD0 1 5 S_law_small_unread := F_law_small_unread_ex.choose_spec
def S_law_refused : DSt := (sSeq (sTry mt (sDrop (eCall F_modulus_clash [] (eConsS (eVar 0) (eConsS (eVar 1) (eConsS (eVar 2) eNil))))) (("BadNumber", none, (sRet (eC (.str "number")))) :: (("BadModulus", none, (sRet (eC (.str "modulus")))) :: (("BadRest", none, (sRet (eC (.str "rest")))) :: []))))
    (sRet (eC .non)))
theorem F_law_refused_ex : ∃ x : DFn, x = mkD0 3 3 S_law_refused := ⟨_, rfl⟩
noncomputable def F_law_refused : DFn := F_law_refused_ex.choose
theorem F_law_refused_eq : F_law_refused = mkD0 3 3 S_law_refused := F_law_refused_ex.choose_spec
def S_law_odd : DSt := (sRet (eOp dIx (eLst (eCons (eUn dNeg (eC (.int 1))) (eCons (eOp dAdd (eVarB 1) (eC (.int 1))) (eCons (eC (.bl true)) (eCons (eC .non) (eCons (eC (.str "1")) (eCons (eTup (eCons (eC (.int 0)) eNil)) (eCons (eOp dSub (eUn dNeg (eC (.int 1))) (eCall0 F_law_take [] (eConsH 0 (eConsS (eC (.int (1000000))) eNil)))) (eCons (eOp dAdd (eOp dAdd (eVarB 1) (eC (.int 1))) (eCall0 F_law_take [] (eConsH 0 (eConsS (eC (.int (1000000))) eNil)))) eNil))))))))) (eCall0 F_law_take [] (eConsH 0 (eConsS (eC (.int 8)) eNil)))))
theorem F_law_odd_ex : ∃ x : DFn, x = mkD0 2 2 S_law_odd := ⟨_, rfl⟩
noncomputable def F_law_odd : DFn := F_law_odd_ex.choose
theorem F_law_odd_eq : F_law_odd = mkD0 2 2 S_law_odd := F_law_odd_ex.choose_spec
theorem S_law_refusals_r12_ex : ∃ x : DSt, x = (sRet (eC (.bl false))) := ⟨_, rfl⟩
noncomputable def S_law_refusals_r12 : DSt := S_law_refusals_r12_ex.choose
theorem S_law_refusals_r12_eq : S_law_refusals_r12 = (sRet (eC (.bl false))) := S_law_refusals_r12_ex.choose_spec
theorem S_law_refusals_r8_ex : ∃ x : DSt, x = (sSeq (sTry mt (sDrop (eCall F_unread_word [] (eConsS (eCall F_SumBook___init [] (eConsS (eC (.int 0)) (eConsS (eOp dAdd (eC (.int 1)) (eCall0 F_law_take [] (eConsH 0 (eConsS (eC (.int 5)) eNil)))) (eConsS (eC (.int 0)) eNil)))) eNil))) (("BadNumber", none, (sRet (eC (.bl true)))) :: []))
    S_law_refusals_r12) := ⟨_, rfl⟩
noncomputable def S_law_refusals_r8 : DSt := S_law_refusals_r8_ex.choose
theorem S_law_refusals_r8_eq : S_law_refusals_r8 = (sSeq (sTry mt (sDrop (eCall F_unread_word [] (eConsS (eCall F_SumBook___init [] (eConsS (eC (.int 0)) (eConsS (eOp dAdd (eC (.int 1)) (eCall0 F_law_take [] (eConsH 0 (eConsS (eC (.int 5)) eNil)))) (eConsS (eC (.int 0)) eNil)))) eNil))) (("BadNumber", none, (sRet (eC (.bl true)))) :: []))
    S_law_refusals_r12) := S_law_refusals_r8_ex.choose_spec
theorem S_law_refusals_r6_ex : ∃ x : DSt, x = (sSeq (sIf (eOrT (eTest (eOp dNe (eCall0 F_law_refused [] (eConsS (eVar 1) (eConsS (eVar 3) (eConsS (eOp dIx (eLst (eCons (eC (.int 0)) (eCons (eC .non) eNil))) (eVarB 4)) eNil)))) (eC (.str "modulus")))) (eTest (eOp dNe (eCall0 F_law_refused [] (eConsS (eVar 1) (eConsS (eVar 2) (eConsS (eCall0 F_law_odd [] (eConsH 0 (eConsS (eOp dSub (eVarB 2) (eC (.int 1))) eNil))) eNil)))) (eC (.str "rest")))))
    (sRet (eC (.bl false)))
    sNext)
    S_law_refusals_r8) := ⟨_, rfl⟩
noncomputable def S_law_refusals_r6 : DSt := S_law_refusals_r6_ex.choose
theorem S_law_refusals_r6_eq : S_law_refusals_r6 = (sSeq (sIf (eOrT (eTest (eOp dNe (eCall0 F_law_refused [] (eConsS (eVar 1) (eConsS (eVar 3) (eConsS (eOp dIx (eLst (eCons (eC (.int 0)) (eCons (eC .non) eNil))) (eVarB 4)) eNil)))) (eC (.str "modulus")))) (eTest (eOp dNe (eCall0 F_law_refused [] (eConsS (eVar 1) (eConsS (eVar 2) (eConsS (eCall0 F_law_odd [] (eConsH 0 (eConsS (eOp dSub (eVarB 2) (eC (.int 1))) eNil))) eNil)))) (eC (.str "rest")))))
    (sRet (eC (.bl false)))
    sNext)
    S_law_refusals_r8) := S_law_refusals_r6_ex.choose_spec
theorem S_law_refusals_r4_ex : ∃ x : DSt, x = (sSeq (sIf (eTest (eOp dNe (eCall0 F_law_refused [] (eConsS (eCall0 F_law_odd [] (eConsH 0 (eConsS (eC (.int 200)) eNil))) (eConsS (eOp dIx (eLst (eCons (eVar 2) (eCons (eVar 3) eNil))) (eVarB 4)) (eConsS (eOp dIx (eLst (eCons (eC (.int 0)) (eCons (eUn dNeg (eC (.int 1))) eNil))) (eCall0 F_law_take [] (eConsH 0 (eConsS (eC (.int 2)) eNil)))) eNil)))) (eC (.str "number"))))
    (sRet (eC (.bl false)))
    sNext)
    S_law_refusals_r6) := ⟨_, rfl⟩
noncomputable def S_law_refusals_r4 : DSt := S_law_refusals_r4_ex.choose
theorem S_law_refusals_r4_eq : S_law_refusals_r4 = (sSeq (sIf (eTest (eOp dNe (eCall0 F_law_refused [] (eConsS (eCall0 F_law_odd [] (eConsH 0 (eConsS (eC (.int 200)) eNil))) (eConsS (eOp dIx (eLst (eCons (eVar 2) (eCons (eVar 3) eNil))) (eVarB 4)) (eConsS (eOp dIx (eLst (eCons (eC (.int 0)) (eCons (eUn dNeg (eC (.int 1))) eNil))) (eCall0 F_law_take [] (eConsH 0 (eConsS (eC (.int 2)) eNil)))) eNil)))) (eC (.str "number"))))
    (sRet (eC (.bl false)))
    sNext)
    S_law_refusals_r6) := S_law_refusals_r4_ex.choose_spec
theorem S_law_refusals_r3_ex : ∃ x : DSt, x = (sSeq (sAsg (eCall0 F_law_take [] (eConsH 0 (eConsS (eC (.int 2)) eNil))) (gD 4))
    S_law_refusals_r4) := ⟨_, rfl⟩
noncomputable def S_law_refusals_r3 : DSt := S_law_refusals_r3_ex.choose
theorem S_law_refusals_r3_eq : S_law_refusals_r3 = (sSeq (sAsg (eCall0 F_law_take [] (eConsH 0 (eConsS (eC (.int 2)) eNil))) (gD 4))
    S_law_refusals_r4) := S_law_refusals_r3_ex.choose_spec
theorem S_law_refusals_r2_ex : ∃ x : DSt, x = (sSeq (sAsg (eOp dIx (eLst (eCons (eC (.int 0)) (eCons (eC (.bl true)) (eCons (eUn dNeg (eCall0 F_law_take [] (eConsH 0 (eConsS (eC (.int (1000000))) eNil)))) (eCons (eOp dAdd (eC (.int (1000000))) (eC (.int 1))) (eCons (eC .non) eNil)))))) (eCall0 F_law_take [] (eConsH 0 (eConsS (eC (.int 5)) eNil)))) (gD 3))
    S_law_refusals_r3) := ⟨_, rfl⟩
noncomputable def S_law_refusals_r2 : DSt := S_law_refusals_r2_ex.choose
theorem S_law_refusals_r2_eq : S_law_refusals_r2 = (sSeq (sAsg (eOp dIx (eLst (eCons (eC (.int 0)) (eCons (eC (.bl true)) (eCons (eUn dNeg (eCall0 F_law_take [] (eConsH 0 (eConsS (eC (.int (1000000))) eNil)))) (eCons (eOp dAdd (eC (.int (1000000))) (eC (.int 1))) (eCons (eC .non) eNil)))))) (eCall0 F_law_take [] (eConsH 0 (eConsS (eC (.int 5)) eNil)))) (gD 3))
    S_law_refusals_r3) := S_law_refusals_r2_ex.choose_spec
def S_law_refusals : DSt := (sSeq (sAsg (eOp dAdd (eC (.int 1)) (eCall0 F_law_take [] (eConsH 0 (eConsS (eC (.int 300)) eNil)))) (gD 2))
    S_law_refusals_r2)
theorem F_law_refusals_ex : ∃ x : DFn, x = mkD0 2 5 S_law_refusals := ⟨_, rfl⟩
noncomputable def F_law_refusals : DFn := F_law_refusals_ex.choose
theorem F_law_refusals_eq : F_law_refusals = mkD0 2 5 S_law_refusals := F_law_refusals_ex.choose_spec
theorem S_law_r5_ex : ∃ x : DSt, x = (sIf (eOrT (eTest (eOp dNe (eCall0 F_law_has_clash [] (eConsS (eVar 2) (eConsS (eVar 3) (eConsS (eVar 4) eNil)))) (eOp dLe (eVarB 3) (eVarB 2)))) (eNotT (eTru (eCall0 F_law_modulus_right [] (eConsS (eVar 2) (eConsS (eVar 3) (eConsS (eVar 4) eNil)))))))
    (sRet (eC (.bl false)))
    sNext) := ⟨_, rfl⟩
noncomputable def S_law_r5 : DSt := S_law_r5_ex.choose
theorem S_law_r5_eq : S_law_r5 = (sIf (eOrT (eTest (eOp dNe (eCall0 F_law_has_clash [] (eConsS (eVar 2) (eConsS (eVar 3) (eConsS (eVar 4) eNil)))) (eOp dLe (eVarB 3) (eVarB 2)))) (eNotT (eTru (eCall0 F_law_modulus_right [] (eConsS (eVar 2) (eConsS (eVar 3) (eConsS (eVar 4) eNil)))))))
    (sRet (eC (.bl false)))
    sNext) := S_law_r5_ex.choose_spec
theorem S_law_b4_ex : ∃ x : DSt, x = (sSeq (sAsg (eCall0 F_law_take [] (eConsH 1 (eConsS (eVar 3) eNil))) (gD 4))
    S_law_r5) := ⟨_, rfl⟩
noncomputable def S_law_b4 : DSt := S_law_b4_ex.choose
theorem S_law_b4_eq : S_law_b4 = (sSeq (sAsg (eCall0 F_law_take [] (eConsH 1 (eConsS (eVar 3) eNil))) (gD 4))
    S_law_r5) := S_law_b4_ex.choose_spec
theorem S_law_r17_ex : ∃ x : DSt, x = (sIf (eAndT (eTest (eOp dLt (eVarB 5) (eC (.int 2)))) (eTest (eOp dNe (eCall0 F_law_small_unread [] (eConsS (eVar 6) eNil)) (eOp dNotN (eCall0 F_unread_word [] (eConsS (eVar 7) eNil)) (eC .non)))))
    (sRet (eC (.bl false)))
    sNext) := ⟨_, rfl⟩
noncomputable def S_law_r17 : DSt := S_law_r17_ex.choose
theorem S_law_r17_eq : S_law_r17 = (sIf (eAndT (eTest (eOp dLt (eVarB 5) (eC (.int 2)))) (eTest (eOp dNe (eCall0 F_law_small_unread [] (eConsS (eVar 6) eNil)) (eOp dNotN (eCall0 F_unread_word [] (eConsS (eVar 7) eNil)) (eC .non)))))
    (sRet (eC (.bl false)))
    sNext) := S_law_r17_ex.choose_spec
theorem S_law_r15_ex : ∃ x : DSt, x = (sSeq (sIf (eNotT (eTru (eCall0 F_law_unread_right [] (eConsS (eVar 7) (eConsS (eVar 6) eNil)))))
    (sRet (eC (.bl false)))
    sNext)
    S_law_r17) := ⟨_, rfl⟩
noncomputable def S_law_r15 : DSt := S_law_r15_ex.choose
theorem S_law_r15_eq : S_law_r15 = (sSeq (sIf (eNotT (eTru (eCall0 F_law_unread_right [] (eConsS (eVar 7) (eConsS (eVar 6) eNil)))))
    (sRet (eC (.bl false)))
    sNext)
    S_law_r17) := S_law_r15_ex.choose_spec
theorem S_law_r14_ex : ∃ x : DSt, x = (sSeq (sAsg (eCall0 F_SumBook___init [] (eConsS (eOp dIx (eVarB 6) (eC (.int 0))) (eConsS (eOp dIx (eVarB 6) (eC (.int 1))) (eConsS (eOp dIx (eVarB 6) (eC (.int 2))) eNil)))) (gD 7))
    S_law_r15) := ⟨_, rfl⟩
noncomputable def S_law_r14 : DSt := S_law_r14_ex.choose
theorem S_law_r14_eq : S_law_r14 = (sSeq (sAsg (eCall0 F_SumBook___init [] (eConsS (eOp dIx (eVarB 6) (eC (.int 0))) (eConsS (eOp dIx (eVarB 6) (eC (.int 1))) (eConsS (eOp dIx (eVarB 6) (eC (.int 2))) eNil)))) (gD 7))
    S_law_r15) := S_law_r14_ex.choose_spec
theorem S_law_r13_ex : ∃ x : DSt, x = (sSeq (sAsg (eCall0 F_law_book_of [] (eConsH 1 (eConsS (eOp dAdd (eC (.int 1)) (eCall0 F_law_take [] (eConsH 1 (eConsS (eOp dIx (eLst (eCons (eC (.int 5)) (eCons (eC (.int 200)) eNil))) (eOp dFdiv (eVarB 5) (eC (.int 2)))) eNil)))) eNil))) (gD 6))
    S_law_r14) := ⟨_, rfl⟩
noncomputable def S_law_r13 : DSt := S_law_r13_ex.choose
theorem S_law_r13_eq : S_law_r13 = (sSeq (sAsg (eCall0 F_law_book_of [] (eConsH 1 (eConsS (eOp dAdd (eC (.int 1)) (eCall0 F_law_take [] (eConsH 1 (eConsS (eOp dIx (eLst (eCons (eC (.int 5)) (eCons (eC (.int 200)) eNil))) (eOp dFdiv (eVarB 5) (eC (.int 2)))) eNil)))) eNil))) (gD 6))
    S_law_r14) := S_law_r13_ex.choose_spec
theorem S_law_r11_ex : ∃ x : DSt, x = (sSeq (sIf (eNotT (eTru (eCall0 F_law_modulus_right [] (eConsS (eVar 2) (eConsS (eVar 3) (eConsS (eVar 4) eNil))))))
    (sRet (eC (.bl false)))
    sNext)
    S_law_r13) := ⟨_, rfl⟩
noncomputable def S_law_r11 : DSt := S_law_r11_ex.choose
theorem S_law_r11_eq : S_law_r11 = (sSeq (sIf (eNotT (eTru (eCall0 F_law_modulus_right [] (eConsS (eVar 2) (eConsS (eVar 3) (eConsS (eVar 4) eNil))))))
    (sRet (eC (.bl false)))
    sNext)
    S_law_r13) := S_law_r11_ex.choose_spec
theorem S_law_r10_ex : ∃ x : DSt, x = (sSeq (sAsg (eOp dIx (eLst (eCons (eC (.int 0)) (eCons (eOp dSub (eVarB 3) (eC (.int 1))) (eCons (eCall0 F_law_take [] (eConsH 1 (eConsS (eVar 3) eNil))) eNil)))) (eCall0 F_law_take [] (eConsH 1 (eConsS (eC (.int 3)) eNil)))) (gD 4))
    S_law_r11) := ⟨_, rfl⟩
noncomputable def S_law_r10 : DSt := S_law_r10_ex.choose
theorem S_law_r10_eq : S_law_r10 = (sSeq (sAsg (eOp dIx (eLst (eCons (eC (.int 0)) (eCons (eOp dSub (eVarB 3) (eC (.int 1))) (eCons (eCall0 F_law_take [] (eConsH 1 (eConsS (eVar 3) eNil))) eNil)))) (eCall0 F_law_take [] (eConsH 1 (eConsS (eC (.int 3)) eNil)))) (gD 4))
    S_law_r11) := S_law_r10_ex.choose_spec
theorem S_law_r9_ex : ∃ x : DSt, x = (sSeq (sAsg (eOp dIx (eLst (eCons (eOp dAdd (eC (.int 1)) (eCall0 F_law_take [] (eConsH 1 (eConsS (eOp dAdd (eVarB 2) (eC (.int 2))) eNil)))) (eCons (eCB dMax2 (eCons (eC (.int 1)) (eCons (eVarB 2) eNil))) (eCons (eOp dAdd (eVarB 2) (eC (.int 1))) (eCons (eOp dAdd (eC (.int 1)) (eCall0 F_law_take [] (eConsH 1 (eConsS (eC (.int (1000000))) eNil)))) eNil))))) (eCall0 F_law_take [] (eConsH 1 (eConsS (eC (.int 4)) eNil)))) (gD 3))
    S_law_r10) := ⟨_, rfl⟩
noncomputable def S_law_r9 : DSt := S_law_r9_ex.choose
theorem S_law_r9_eq : S_law_r9 = (sSeq (sAsg (eOp dIx (eLst (eCons (eOp dAdd (eC (.int 1)) (eCall0 F_law_take [] (eConsH 1 (eConsS (eOp dAdd (eVarB 2) (eC (.int 2))) eNil)))) (eCons (eCB dMax2 (eCons (eC (.int 1)) (eCons (eVarB 2) eNil))) (eCons (eOp dAdd (eVarB 2) (eC (.int 1))) (eCons (eOp dAdd (eC (.int 1)) (eCall0 F_law_take [] (eConsH 1 (eConsS (eC (.int (1000000))) eNil)))) eNil))))) (eCall0 F_law_take [] (eConsH 1 (eConsS (eC (.int 4)) eNil)))) (gD 3))
    S_law_r10) := S_law_r9_ex.choose_spec
theorem S_law_b8_ex : ∃ x : DSt, x = (sSeq (sAsg (eCall0 F_law_take [] (eConsH 1 (eConsS (eOp dIx (eLst (eCons (eC (.int 9)) (eCons (eC (.int 201)) eNil))) (eOp dFdiv (eVarB 5) (eC (.int 2)))) eNil))) (gD 2))
    S_law_r9) := ⟨_, rfl⟩
noncomputable def S_law_b8 : DSt := S_law_b8_ex.choose
theorem S_law_b8_eq : S_law_b8 = (sSeq (sAsg (eCall0 F_law_take [] (eConsH 1 (eConsS (eOp dIx (eLst (eCons (eC (.int 9)) (eCons (eC (.int 201)) eNil))) (eOp dFdiv (eVarB 5) (eC (.int 2)))) eNil))) (gD 2))
    S_law_r9) := S_law_b8_ex.choose_spec
theorem S_law_r19_ex : ∃ x : DSt, x = (sRet (eCall0 F_law_refusals [] (eConsH 1 (eConsS (eVar 2) eNil)))) := ⟨_, rfl⟩
noncomputable def S_law_r19 : DSt := S_law_r19_ex.choose
theorem S_law_r19_eq : S_law_r19 = (sRet (eCall0 F_law_refusals [] (eConsH 1 (eConsS (eVar 2) eNil)))) := S_law_r19_ex.choose_spec
theorem S_law_r7_ex : ∃ x : DSt, x = (sSeq (sFor (eRng1 (eCons (eC (.int 4)) eNil)) (gD 5)
    S_law_b8)
    S_law_r19) := ⟨_, rfl⟩
noncomputable def S_law_r7 : DSt := S_law_r7_ex.choose
theorem S_law_r7_eq : S_law_r7 = (sSeq (sFor (eRng1 (eCons (eC (.int 4)) eNil)) (gD 5)
    S_law_b8)
    S_law_r19) := S_law_r7_ex.choose_spec
theorem S_law_r3_ex : ∃ x : DSt, x = (sSeq (sFor (eRng2 (eCons (eC (.int 1)) (eCons (eOp dAdd (eVarB 2) (eC (.int 3))) eNil))) (gD 3)
    S_law_b4)
    S_law_r7) := ⟨_, rfl⟩
noncomputable def S_law_r3 : DSt := S_law_r3_ex.choose
theorem S_law_r3_eq : S_law_r3 = (sSeq (sFor (eRng2 (eCons (eC (.int 1)) (eCons (eOp dAdd (eVarB 2) (eC (.int 3))) eNil))) (gD 3)
    S_law_b4)
    S_law_r7) := S_law_r3_ex.choose_spec
def S_law : DSt := (sSeq (sAsg (eCall0 F_law_take [] (eConsH 1 (eConsS (eC (.int 7)) eNil))) (gD 2))
    S_law_r3)
abbrev Goal : Prop := LawGoal 6 S_law
end Mine

namespace Mine
open PySem PySem.Spec PyProof.Rows L2
local macro_rules | `(tactic| walk_at "wp") => `(tactic| try simp -implicitDefEqProofs only [eFld_W, eFldS_W, sSetF_W, eMeth_W, eMeth0_W, eProp_W, mkI_W, mkI0_W, eVarD_W, eDic_W, eGet1_W, eGet2_W, eAtD_W, eInD_W, eNotInD_W, sOwnD_W, sPutD_W, Bool.false_eq_true, LINE_W, line0, line1, line2, line3, line4, line5, line6, line7, line8, line9, line10, line11, line12, take_W, Int.reduceLT, Int.reduceLE, Int.reduceNeg, mkD_W, mkD0_W, sSeq_W, sAsg_W, sRet_W, sRetN_W, sIf_W, sNext_W, sDrop_W, sBreak_W, sCont_W, sOwn_W, sPar_W, sPar3_W, sFrz_W, frz_W, fz_lst, fz_dk, fz_dt, sApp_W, sExt_W, sPop_W, sPopTo_W, sPut_W, sAugP_W, sAug_W, sFor_W, sRaise_W, sRaise1_W, gD_W, gD2_W, gD3_W, eVar_W, eVarB_W, eC_W, eOp_W, eUn_W, eCB_W, eNil_W, eCons_W, eConsS_W, eConsH_W, eTup_W, eLst_W, eCall_W, eCall0_W, eTest_W, eNotT_W, eAndT_W, eOrT_W, eTru_W, dTru_non, dTru_bl, dTru_int, dTru_lst, dTru_tup, dTru_str, dTru_dk, eBool_W, eAndV_W, eOrV_W, eNotV_W, eNotVT_W, eIf_W, eChain_W, eLc_W, eLc2_W, eYes_W, eSeq_W, eRng1_W, eRng2_W, eEnum_W, eZip_W, eSl_W, ePart_W, eNoPart_W, eRev_W, eRevL_W, eDk0_W, dAdd_int, dAdd_lst, dAdd_tup, dAdd_str, dAddL_lst, dSub_int, dMul_int, dMul_lst, dMulL_lst, dMul_tup, dFdiv_int, dMod_int, dPow_int, dShl_int, dShr_int, dLe_int, dLt_int, dGt_int, dGe_int, dNeg_int, isa_seq2, isLs_lst, isLs_tup, Bool.or_false, Bool.or_true, Bool.true_or, Bool.false_or, Bool.and_true, Bool.true_and, Bool.and_false, Bool.false_and, isSeq_lst, isSeq_tup, isTp_tup, isTp_lst, isTp_non, isTp_int, isTp_str, isW_int, dIsN_W, dNotN_W, isN_non, isN_int, isN_bl, isN_str, isN_tup, isN_lst, isN_dk, isN_dt, isN_ins, dIx_W, dSl_W, dSlL_W, dLen_W, dInt_W, dStr_W, dAbs_W, dMax2_W, dMin2_W, dTupOf_W, dLstOf_W, dIsi_W, dIsi2_W, kn_int, kn_bl, kn_non, kn_str, kn_tup, kn_lst, kn_dk, kn_dt, isa_int_int, isa_int_bool, isa_tup_tup, isa_bl_bool, isa_seq_tup, isa_seq_lst, isa_int, isa_bool, isa_seq, isa_tup, isa_str, isa_lst, dEq_int, dNe_int, Dt.flat, wipeS, List.getElem?_cons_zero, List.getElem?_cons_succ, List.set_cons_zero, List.set_cons_succ, List.replicate, List.append_nil, List.cons_append, List.nil_append, List.length_cons, List.length_nil, Nat.reduceAdd, Nat.reduceSub, Nat.zero_add, Option.isSome_some, Bool.true_eq_false, Bool.false_eq_true, if_true, if_false, ite_true, ite_false, eq_self, not_true_eq_false, not_false_eq_true, true_and, and_true, decide_eq_true_eq, Bool.not_true, Bool.not_false, Bool.not_eq_true', decide_eq_false_iff_not, decide_true, decide_false, List.length_map, List.map_cons, List.map_nil, Option.some.injEq, reduceCtorEq, Bool.not_eq_eq_eq_not, eEnumK_W, eDk1_W, eXf_W, eIsX_W, sTry_W])
theorem is_whole_ok {x : Dt} {lo hi : Int} {Q : Dt → Prop} {E : Xc → Prop} (hk : x.kind.isSome = true) (q : Q (.bl (inB lo hi x))) : F_is_whole [.d x, .d (.int lo), .d (.int hi)] Q E := by
  rw [F_is_whole_eq]; unfold S_is_whole
  cases x with
  | int i =>
    walk_at "wp"
    by_cases a : lo ≤ i <;> simpa [inB, a, isW] using q
  | raw v => cases hk
  | ins c ns vs => cases hk
  | _ => walk_at "wp"; simpa [isW, inB] using q
end Mine

namespace Mine
open PySem PySem.Spec PyProof.Rows L2
local macro_rules | `(tactic| walk_at "wp") => `(tactic| try simp -implicitDefEqProofs only [eFld_W, eFldS_W, sSetF_W, eMeth_W, eMeth0_W, eProp_W, mkI_W, mkI0_W, eVarD_W, eDic_W, eGet1_W, eGet2_W, eAtD_W, eInD_W, eNotInD_W, sOwnD_W, sPutD_W, Bool.false_eq_true, LINE_W, line0, line1, line2, line3, line4, line5, line6, line7, line8, line9, line10, line11, line12, take_W, Int.reduceLT, Int.reduceLE, Int.reduceNeg, mkD_W, mkD0_W, sSeq_W, sAsg_W, sRet_W, sRetN_W, sIf_W, sNext_W, sDrop_W, sBreak_W, sCont_W, sOwn_W, sPar_W, sPar3_W, sFrz_W, frz_W, fz_lst, fz_dk, fz_dt, sApp_W, sExt_W, sPop_W, sPopTo_W, sPut_W, sAugP_W, sAug_W, sFor_W, sRaise_W, sRaise1_W, gD_W, gD2_W, gD3_W, eVar_W, eVarB_W, eC_W, eOp_W, eUn_W, eCB_W, eNil_W, eCons_W, eConsS_W, eConsH_W, eTup_W, eLst_W, eCall_W, eCall0_W, eTest_W, eNotT_W, eAndT_W, eOrT_W, eTru_W, dTru_non, dTru_bl, dTru_int, dTru_lst, dTru_tup, dTru_str, dTru_dk, eBool_W, eAndV_W, eOrV_W, eNotV_W, eNotVT_W, eIf_W, eChain_W, eLc_W, eLc2_W, eYes_W, eSeq_W, eRng1_W, eRng2_W, eEnum_W, eZip_W, eSl_W, ePart_W, eNoPart_W, eRev_W, eRevL_W, eDk0_W, dAdd_int, dAdd_lst, dAdd_tup, dAdd_str, dAddL_lst, dSub_int, dMul_int, dMul_lst, dMulL_lst, dMul_tup, dFdiv_int, dMod_int, dPow_int, dShl_int, dShr_int, dLe_int, dLt_int, dGt_int, dGe_int, dNeg_int, isa_seq2, isLs_lst, isLs_tup, Bool.or_false, Bool.or_true, Bool.true_or, Bool.false_or, Bool.and_true, Bool.true_and, Bool.and_false, Bool.false_and, isSeq_lst, isSeq_tup, isTp_tup, isTp_lst, isTp_non, isTp_int, isTp_str, isW_int, dIsN_W, dNotN_W, isN_non, isN_int, isN_bl, isN_str, isN_tup, isN_lst, isN_dk, isN_dt, isN_ins, dIx_W, dSl_W, dSlL_W, dLen_W, dInt_W, dStr_W, dAbs_W, dMax2_W, dMin2_W, dTupOf_W, dLstOf_W, dIsi_W, dIsi2_W, kn_int, kn_bl, kn_non, kn_str, kn_tup, kn_lst, kn_dk, kn_dt, isa_int_int, isa_int_bool, isa_tup_tup, isa_bl_bool, isa_seq_tup, isa_seq_lst, isa_int, isa_bool, isa_seq, isa_tup, isa_str, isa_lst, dEq_int, dNe_int, Dt.flat, wipeS, List.getElem?_cons_zero, List.getElem?_cons_succ, List.set_cons_zero, List.set_cons_succ, List.replicate, List.append_nil, List.cons_append, List.nil_append, List.length_cons, List.length_nil, Nat.reduceAdd, Nat.reduceSub, Nat.zero_add, Option.isSome_some, Bool.true_eq_false, Bool.false_eq_true, if_true, if_false, ite_true, ite_false, eq_self, not_true_eq_false, not_false_eq_true, true_and, and_true, decide_eq_true_eq, Bool.not_true, Bool.not_false, Bool.not_eq_true', decide_eq_false_iff_not, decide_true, decide_false, List.length_map, List.map_cons, List.map_nil, Option.some.injEq, reduceCtorEq, Bool.not_eq_eq_eq_not, eEnumK_W, eDk1_W, eXf_W, eIsX_W, sTry_W])
theorem law_whole_ok {x : Dt} {Q : Dt → Prop} {E : Xc → Prop} (hk : x.kind.isSome = true) (q : Q (.bl (isW x))) : F_law_whole [.d x] Q E := by
  rw [F_law_whole_eq]; unfold S_law_whole
  cases x with
  | raw v => cases hk
  | ins c ns vs => cases hk
  | _ => walk_at "wp"; simpa [isW] using q
end Mine

namespace Mine
open PySem PySem.Spec PyProof.Rows L2
local macro_rules | `(tactic| walk_at "wp") => `(tactic| try simp -implicitDefEqProofs only [eFld_W, eFldS_W, sSetF_W, eMeth_W, eMeth0_W, eProp_W, mkI_W, mkI0_W, eVarD_W, eDic_W, eGet1_W, eGet2_W, eAtD_W, eInD_W, eNotInD_W, sOwnD_W, sPutD_W, Bool.false_eq_true, LINE_W, line0, line1, line2, line3, line4, line5, line6, line7, line8, line9, line10, line11, line12, take_W, Int.reduceLT, Int.reduceLE, Int.reduceNeg, mkD_W, mkD0_W, sSeq_W, sAsg_W, sRet_W, sRetN_W, sIf_W, sNext_W, sDrop_W, sBreak_W, sCont_W, sOwn_W, sPar_W, sPar3_W, sFrz_W, frz_W, fz_lst, fz_dk, fz_dt, sApp_W, sExt_W, sPop_W, sPopTo_W, sPut_W, sAugP_W, sAug_W, sFor_W, sRaise_W, sRaise1_W, gD_W, gD2_W, gD3_W, eVar_W, eVarB_W, eC_W, eOp_W, eUn_W, eCB_W, eNil_W, eCons_W, eConsS_W, eConsH_W, eTup_W, eLst_W, eCall_W, eCall0_W, eTest_W, eNotT_W, eAndT_W, eOrT_W, eTru_W, dTru_non, dTru_bl, dTru_int, dTru_lst, dTru_tup, dTru_str, dTru_dk, eBool_W, eAndV_W, eOrV_W, eNotV_W, eNotVT_W, eIf_W, eChain_W, eLc_W, eLc2_W, eYes_W, eSeq_W, eRng1_W, eRng2_W, eEnum_W, eZip_W, eSl_W, ePart_W, eNoPart_W, eRev_W, eRevL_W, eDk0_W, dAdd_int, dAdd_lst, dAdd_tup, dAdd_str, dAddL_lst, dSub_int, dMul_int, dMul_lst, dMulL_lst, dMul_tup, dFdiv_int, dMod_int, dPow_int, dShl_int, dShr_int, dLe_int, dLt_int, dGt_int, dGe_int, dNeg_int, isa_seq2, isLs_lst, isLs_tup, Bool.or_false, Bool.or_true, Bool.true_or, Bool.false_or, Bool.and_true, Bool.true_and, Bool.and_false, Bool.false_and, isSeq_lst, isSeq_tup, isTp_tup, isTp_lst, isTp_non, isTp_int, isTp_str, isW_int, dIsN_W, dNotN_W, isN_non, isN_int, isN_bl, isN_str, isN_tup, isN_lst, isN_dk, isN_dt, isN_ins, dIx_W, dSl_W, dSlL_W, dLen_W, dInt_W, dStr_W, dAbs_W, dMax2_W, dMin2_W, dTupOf_W, dLstOf_W, dIsi_W, dIsi2_W, kn_int, kn_bl, kn_non, kn_str, kn_tup, kn_lst, kn_dk, kn_dt, isa_int_int, isa_int_bool, isa_tup_tup, isa_bl_bool, isa_seq_tup, isa_seq_lst, isa_int, isa_bool, isa_seq, isa_tup, isa_str, isa_lst, dEq_int, dNe_int, Dt.flat, wipeS, List.getElem?_cons_zero, List.getElem?_cons_succ, List.set_cons_zero, List.set_cons_succ, List.replicate, List.append_nil, List.cons_append, List.nil_append, List.length_cons, List.length_nil, Nat.reduceAdd, Nat.reduceSub, Nat.zero_add, Option.isSome_some, Bool.true_eq_false, Bool.false_eq_true, if_true, if_false, ite_true, ite_false, eq_self, not_true_eq_false, not_false_eq_true, true_and, and_true, decide_eq_true_eq, Bool.not_true, Bool.not_false, Bool.not_eq_true', decide_eq_false_iff_not, decide_true, decide_false, List.length_map, List.map_cons, List.map_nil, Option.some.injEq, reduceCtorEq, Bool.not_eq_eq_eq_not, eEnumK_W, eDk1_W, eXf_W, eIsX_W, sTry_W])
/-- a word of letters below q -/
def Wd (q n : Nat) (w : List Int) : Prop := w.length = n ∧ ∀ x ∈ w, 0 ≤ x ∧ x < q
theorem ints_of_dts {P : Int → Prop} : ∀ {ys : List Dt}, (∀ y ∈ ys, ∃ i : Int, y = .int i ∧ P i) → ∃ w : List Int, ys = w.map .int ∧ ∀ x ∈ w, P x
  | [], _ => ⟨[], rfl, by simp⟩
  | y :: ys, h => by
    obtain ⟨i, e, p⟩ := h y List.mem_cons_self
    obtain ⟨w, e2, p2⟩ := ints_of_dts fun z hz => h z (List.mem_cons_of_mem _ hz)
    exact ⟨i :: w, by rw [e, e2]; rfl, fun x hx => by
      rcases List.mem_cons.mp hx with r | r
      · rw [r]; exact p
      · exact p2 x r⟩
end Mine

namespace Mine
open PySem PySem.Spec PyProof.Rows L2
local macro_rules | `(tactic| walk_at "wp") => `(tactic| try simp -implicitDefEqProofs only [eFld_W, eFldS_W, sSetF_W, eMeth_W, eMeth0_W, eProp_W, mkI_W, mkI0_W, eVarD_W, eDic_W, eGet1_W, eGet2_W, eAtD_W, eInD_W, eNotInD_W, sOwnD_W, sPutD_W, Bool.false_eq_true, LINE_W, line0, line1, line2, line3, line4, line5, line6, line7, line8, line9, line10, line11, line12, take_W, Int.reduceLT, Int.reduceLE, Int.reduceNeg, mkD_W, mkD0_W, sSeq_W, sAsg_W, sRet_W, sRetN_W, sIf_W, sNext_W, sDrop_W, sBreak_W, sCont_W, sOwn_W, sPar_W, sPar3_W, sFrz_W, frz_W, fz_lst, fz_dk, fz_dt, sApp_W, sExt_W, sPop_W, sPopTo_W, sPut_W, sAugP_W, sAug_W, sFor_W, sRaise_W, sRaise1_W, gD_W, gD2_W, gD3_W, eVar_W, eVarB_W, eC_W, eOp_W, eUn_W, eCB_W, eNil_W, eCons_W, eConsS_W, eConsH_W, eTup_W, eLst_W, eCall_W, eCall0_W, eTest_W, eNotT_W, eAndT_W, eOrT_W, eTru_W, dTru_non, dTru_bl, dTru_int, dTru_lst, dTru_tup, dTru_str, dTru_dk, eBool_W, eAndV_W, eOrV_W, eNotV_W, eNotVT_W, eIf_W, eChain_W, eLc_W, eLc2_W, eYes_W, eSeq_W, eRng1_W, eRng2_W, eEnum_W, eZip_W, eSl_W, ePart_W, eNoPart_W, eRev_W, eRevL_W, eDk0_W, dAdd_int, dAdd_lst, dAdd_tup, dAdd_str, dAddL_lst, dSub_int, dMul_int, dMul_lst, dMulL_lst, dMul_tup, dFdiv_int, dMod_int, dPow_int, dShl_int, dShr_int, dLe_int, dLt_int, dGt_int, dGe_int, dNeg_int, isa_seq2, isLs_lst, isLs_tup, Bool.or_false, Bool.or_true, Bool.true_or, Bool.false_or, Bool.and_true, Bool.true_and, Bool.and_false, Bool.false_and, isSeq_lst, isSeq_tup, isTp_tup, isTp_lst, isTp_non, isTp_int, isTp_str, isW_int, dIsN_W, dNotN_W, isN_non, isN_int, isN_bl, isN_str, isN_tup, isN_lst, isN_dk, isN_dt, isN_ins, dIx_W, dSl_W, dSlL_W, dLen_W, dInt_W, dStr_W, dAbs_W, dMax2_W, dMin2_W, dTupOf_W, dLstOf_W, dIsi_W, dIsi2_W, kn_int, kn_bl, kn_non, kn_str, kn_tup, kn_lst, kn_dk, kn_dt, isa_int_int, isa_int_bool, isa_tup_tup, isa_bl_bool, isa_seq_tup, isa_seq_lst, isa_int, isa_bool, isa_seq, isa_tup, isa_str, isa_lst, dEq_int, dNe_int, Dt.flat, wipeS, List.getElem?_cons_zero, List.getElem?_cons_succ, List.set_cons_zero, List.set_cons_succ, List.replicate, List.append_nil, List.cons_append, List.nil_append, List.length_cons, List.length_nil, Nat.reduceAdd, Nat.reduceSub, Nat.zero_add, Option.isSome_some, Bool.true_eq_false, Bool.false_eq_true, if_true, if_false, ite_true, ite_false, eq_self, not_true_eq_false, not_false_eq_true, true_and, and_true, decide_eq_true_eq, Bool.not_true, Bool.not_false, Bool.not_eq_true', decide_eq_false_iff_not, decide_true, decide_false, List.length_map, List.map_cons, List.map_nil, Option.some.injEq, reduceCtorEq, Bool.not_eq_eq_eq_not, eEnumK_W, eDk1_W, eXf_W, eIsX_W, sTry_W])
theorem badWord_lst {xs : List Dt} {q : Int} {m : Nat} : badWord q m (.lst xs) = if m < xs.length then some (-1) else (badAt (inB 0 (q - 1)) xs).map fun i : Nat => (i : Int) := rfl
theorem badWord_tup {xs : List Dt} {q : Int} {m : Nat} : badWord q m (.tup xs) = if m < xs.length then some (-1) else (badAt (inB 0 (q - 1)) xs).map fun i : Nat => (i : Int) := rfl
theorem check_word_ok {a : Dt} {q : Int} {m : Nat} {Q : Dt → Prop} {E : Xc → Prop} (hk : a.kind.isSome = true) (hi : ∀ x ∈ itemsOf a, x.kind.isSome = true)
    (h0 : badWord q m a = none → Q (.tup (itemsOf a))) (h1 : ∀ i, badWord q m a = some i → E ⟨"BadWord", [("index", .int i)]⟩) : F_check_word [.d (.int q), .d a, .d (.int m)] Q E := by
  rw [F_check_word_eq]; unfold S_check_word
  have loop : ∀ (xs : List Dt) (d : DEn), (∀ x ∈ xs, x.kind.isSome = true) → (badAt (inB 0 (q - 1)) xs = none → ∀ s t, d.nx [.d (.int q), .d a, .d (.int m), s, t]) → (∀ i, badAt (inB 0 (q - 1)) xs = some i → ∀ e, d.xc e ⟨"BadWord", [("index", .int (i : Nat))]⟩) →
      dFor (gD2 3 4) (sIf (eNotT (eTru (eCall0 F_is_whole [] (eConsS (eVar 4) (eConsS (eC (.int 0)) (eConsS (eOp dSub (eVarB 0) (eC (.int 1))) eNil)))))) (sRaise1 "BadWord" "index" (eVar 3)) sNext) d (xs.mapIdx fun i x => .tup [.int (i : Nat), x])
      [.d (.int q), .d a, .d (.int m), .no, .no] := by
    intro xs d hxs hd0 hd1
    refine dFor_inv (fun i e => ∃ s t, e = [.d (.int q), .d a, .d (.int m), s, t] ∧ ∀ (j : Nat) x, j < i → xs[j]? = some x → inB 0 (q - 1) x = true) ⟨_, _, rfl, fun j x hj => absurd hj (Nat.not_lt_zero _)⟩ ?_ ?_
    · rintro i x _ K B hx ⟨s, t, rfl, hp⟩ hK
      obtain ⟨y, hy, rfl⟩ := enum_get hx
      walk_at "wp"
      refine is_whole_ok (hxs y (List.mem_of_getElem? hy)) ?_
      show if inB 0 (q - 1) y = false then _ else _
      refine iteQ (fun e => hd1 i (badAt_some hp hy e) _) fun e => hK _ ⟨_, _, rfl, fun j z hj hz => ?_⟩
      by_cases c : j = i
      · subst c; rw [hy] at hz; cases hz
        cases e2 : inB 0 (q - 1) y
        · exact absurd e2 e
        · rfl
      · exact hp j z (by omega) hz
    · rintro _ ⟨s, t, rfl, hp⟩
      exact hd0 (badAt_none fun j x hx => hp j x (by rw [List.length_mapIdx]; exact (List.getElem?_eq_some_iff.mp hx).1) hx) s t
  rcases seq_or (a := a) with ⟨xs, rfl⟩ | ⟨xs, rfl⟩ | e
  · rw [badWord_lst] at h0
    simp only [badWord_lst] at h1
    walk_at "wp"
    refine iteQ (fun c => h1 (-1) (if_pos (by omega))) fun c => ?_
    rw [if_neg (by omega)] at h0
    simp only [if_neg (show ¬ m < xs.length by omega)] at h1
    exact loop xs _ hi (fun e s t => h0 (by rw [e]; rfl)) fun i e _ => h1 i (by rw [e]; rfl)
  · rw [badWord_tup] at h0
    simp only [badWord_tup] at h1
    walk_at "wp"
    refine iteQ (fun c => h1 (-1) (if_pos (by omega))) fun c => ?_
    rw [if_neg (by omega)] at h0
    simp only [if_neg (show ¬ m < xs.length by omega)] at h1
    exact loop xs _ hi (fun e s t => h0 (by rw [e]; rfl)) fun i e _ => h1 i (by rw [e]; rfl)
  · have e2 : badWord q m a = some (-1) := by unfold badWord; rw [e]
    walk_at "wp"
    refine ⟨hk, ?_⟩
    rw [e, if_pos rfl]
    exact h1 _ e2
end Mine

namespace Mine
open PySem PySem.Spec PyProof.Rows L2
local macro_rules | `(tactic| walk_at "wp") => `(tactic| try simp -implicitDefEqProofs only [eFld_W, eFldS_W, sSetF_W, eMeth_W, eMeth0_W, eProp_W, mkI_W, mkI0_W, eVarD_W, eDic_W, eGet1_W, eGet2_W, eAtD_W, eInD_W, eNotInD_W, sOwnD_W, sPutD_W, Bool.false_eq_true, LINE_W, line0, line1, line2, line3, line4, line5, line6, line7, line8, line9, line10, line11, line12, take_W, Int.reduceLT, Int.reduceLE, Int.reduceNeg, mkD_W, mkD0_W, sSeq_W, sAsg_W, sRet_W, sRetN_W, sIf_W, sNext_W, sDrop_W, sBreak_W, sCont_W, sOwn_W, sPar_W, sPar3_W, sFrz_W, frz_W, fz_lst, fz_dk, fz_dt, sApp_W, sExt_W, sPop_W, sPopTo_W, sPut_W, sAugP_W, sAug_W, sFor_W, sRaise_W, sRaise1_W, gD_W, gD2_W, gD3_W, eVar_W, eVarB_W, eC_W, eOp_W, eUn_W, eCB_W, eNil_W, eCons_W, eConsS_W, eConsH_W, eTup_W, eLst_W, eCall_W, eCall0_W, eTest_W, eNotT_W, eAndT_W, eOrT_W, eTru_W, dTru_non, dTru_bl, dTru_int, dTru_lst, dTru_tup, dTru_str, dTru_dk, eBool_W, eAndV_W, eOrV_W, eNotV_W, eNotVT_W, eIf_W, eChain_W, eLc_W, eLc2_W, eYes_W, eSeq_W, eRng1_W, eRng2_W, eEnum_W, eZip_W, eSl_W, ePart_W, eNoPart_W, eRev_W, eRevL_W, eDk0_W, dAdd_int, dAdd_lst, dAdd_tup, dAdd_str, dAddL_lst, dSub_int, dMul_int, dMul_lst, dMulL_lst, dMul_tup, dFdiv_int, dMod_int, dPow_int, dShl_int, dShr_int, dLe_int, dLt_int, dGt_int, dGe_int, dNeg_int, isa_seq2, isLs_lst, isLs_tup, Bool.or_false, Bool.or_true, Bool.true_or, Bool.false_or, Bool.and_true, Bool.true_and, Bool.and_false, Bool.false_and, isSeq_lst, isSeq_tup, isTp_tup, isTp_lst, isTp_non, isTp_int, isTp_str, isW_int, dIsN_W, dNotN_W, isN_non, isN_int, isN_bl, isN_str, isN_tup, isN_lst, isN_dk, isN_dt, isN_ins, dIx_W, dSl_W, dSlL_W, dLen_W, dInt_W, dStr_W, dAbs_W, dMax2_W, dMin2_W, dTupOf_W, dLstOf_W, dIsi_W, dIsi2_W, kn_int, kn_bl, kn_non, kn_str, kn_tup, kn_lst, kn_dk, kn_dt, isa_int_int, isa_int_bool, isa_tup_tup, isa_bl_bool, isa_seq_tup, isa_seq_lst, isa_int, isa_bool, isa_seq, isa_tup, isa_str, isa_lst, dEq_int, dNe_int, Dt.flat, wipeS, List.getElem?_cons_zero, List.getElem?_cons_succ, List.set_cons_zero, List.set_cons_succ, List.replicate, List.append_nil, List.cons_append, List.nil_append, List.length_cons, List.length_nil, Nat.reduceAdd, Nat.reduceSub, Nat.zero_add, Option.isSome_some, Bool.true_eq_false, Bool.false_eq_true, if_true, if_false, ite_true, ite_false, eq_self, not_true_eq_false, not_false_eq_true, true_and, and_true, decide_eq_true_eq, Bool.not_true, Bool.not_false, Bool.not_eq_true', decide_eq_false_iff_not, decide_true, decide_false, List.length_map, List.map_cons, List.map_nil, Option.some.injEq, reduceCtorEq, Bool.not_eq_eq_eq_not, eEnumK_W, eDk1_W, eXf_W, eIsX_W, sTry_W])
/-! ### letters put in and taken out, place sums -/
def ins (a : Int) : Nat → List Int → List Int
  | 0, w => a :: w
  | _ + 1, [] => [a]
  | k + 1, c :: w => c :: ins a k w
theorem ins_eq (a : Int) : ∀ (k : Nat) (w : List Int), k ≤ w.length → ins a k w = w.take k ++ a :: w.drop k
  | 0, w, _ => rfl
  | k + 1, [], h => absurd h (by simp)
  | k + 1, c :: w, h => by
    show c :: ins a k w = _
    rw [ins_eq a k w (by simpa using h)]; rfl
theorem ins_len (a : Int) : ∀ (k : Nat) (w : List Int), (ins a k w).length = w.length + 1
  | 0, w => rfl
  | k + 1, [] => rfl
  | k + 1, c :: w => by
    show (ins a k w).length + 1 = _
    rw [ins_len a k w]; rfl
theorem ins_ne (a : Int) (k : Nat) (w : List Int) : ins a k w ≠ [] := fun h => by
  have := ins_len a k w
  rw [h] at this; simp at this
def del : Nat → List Int → List Int
  | _, [] => []
  | 0, _ :: w => w
  | k + 1, c :: w => c :: del k w
theorem del_eq : ∀ (k : Nat) (w : List Int), del k w = w.take k ++ w.drop (k + 1)
  | 0, [] => rfl
  | k + 1, [] => rfl
  | 0, c :: w => rfl
  | k + 1, c :: w => by
    show c :: del k w = _
    rw [del_eq k w]; rfl
theorem del_len : ∀ (k : Nat) (w : List Int), k < w.length → (del k w).length = w.length - 1
  | _, [], h => absurd h (by simp)
  | 0, c :: w, _ => rfl
  | k + 1, c :: w, h => by
    have hk : k < w.length := by simpa using h
    show (del k w).length + 1 = w.length + 1 - 1
    rw [del_len k w hk]; omega
theorem del_ins (a : Int) : ∀ (k : Nat) (w : List Int), k ≤ w.length → del k (ins a k w) = w
  | 0, w, _ => rfl
  | k + 1, [], h => absurd h (by simp)
  | k + 1, c :: w, h => by
    show c :: del k (ins a k w) = c :: w
    rw [del_ins a k w (by simpa using h)]
theorem ins_del : ∀ (k : Nat) (w : List Int), k < w.length → ∃ a, ins a k (del k w) = w
  | _, [], h => absurd h (by simp)
  | 0, c :: w, _ => ⟨c, rfl⟩
  | k + 1, c :: w, h => by
    obtain ⟨a, e⟩ := ins_del k w (by simpa using h)
    exact ⟨a, by show c :: ins a k (del k w) = c :: w; rw [e]⟩
def Bits (y : List Int) : Prop := ∀ x ∈ y, x = 0 ∨ x = 1
theorem Bits.tail {c : Int} {y : List Int} (h : Bits (c :: y)) : Bits y := fun x hx => h x (List.mem_cons_of_mem _ hx)
theorem Bits.head {c : Int} {y : List Int} (h : Bits (c :: y)) : c = 0 ∨ c = 1 := h c List.mem_cons_self
/-- the sum of the places (the first is o + 1) -/
def wsum : Nat → List Int → Int
  | _, [] => 0
  | o, x :: r => ((o : Int) + 1) * x + wsum (o + 1) r
theorem wsum_shift : ∀ (o : Nat) (y : List Int), wsum (o + 1) y = wsum o y + y.sum
  | _, [] => rfl
  | o, x :: r => by
    show (((o + 1 : Nat) : Int) + 1) * x + wsum (o + 1 + 1) r = ((o : Int) + 1) * x + wsum (o + 1) r + (x :: r).sum
    rw [wsum_shift (o + 1) r, List.sum_cons]
    have e : (((o + 1 : Nat) : Int) + 1) * x = ((o : Int) + 1) * x + x := by
      have : ((o + 1 : Nat) : Int) = (o : Int) + 1 := by omega
      rw [this, Int.add_mul ((o : Int) + 1) 1 x, Int.one_mul]
    omega
theorem wsum_ins (b : Int) : ∀ (i o : Nat) (y : List Int), i ≤ y.length → wsum o (ins b i y) = wsum o y + ((o : Int) + i + 1) * b + (y.drop i).sum
  | 0, o, y, _ => by
    show ((o : Int) + 1) * b + wsum (o + 1) y = _
    rw [wsum_shift]
    simp only [Int.natCast_zero, Int.add_zero, List.drop_zero]
    omega
  | i + 1, o, [], h => absurd h (by simp)
  | i + 1, o, c :: y, h => by
    show ((o : Int) + 1) * c + wsum (o + 1) (ins b i y) = ((o : Int) + 1) * c + wsum (o + 1) y + _ + _
    rw [wsum_ins b i (o + 1) y (by simpa using h)]
    have e : (((o + 1 : Nat) : Int) + (i : Int) + 1) * b = ((o : Int) + ((i + 1 : Nat) : Int) + 1) * b := by
      congr 1
      omega
    rw [e, List.drop_succ_cons]
    omega
theorem bits_sum {y : List Int} (h : Bits y) : 0 ≤ y.sum ∧ y.sum ≤ y.length := by
  induction y with
  | nil => simp
  | cons c y ih =>
    have := ih h.tail
    have := h.head
    rw [List.sum_cons, List.length_cons]
    omega
theorem bits_drop {y : List Int} (h : Bits y) : ∀ i : Nat, Bits (y.drop i) := fun i x hx => h x (List.mem_of_mem_drop hx)
theorem sum_drop {y : List Int} (h : Bits y) (i : Nat) (hi : i ≤ y.length) : (y.drop i).sum ≤ y.sum ∧ y.sum ≤ i + (y.drop i).sum := by
  induction y generalizing i with
  | nil => simp
  | cons c y ih =>
    cases i with
    | zero => simp
    | succ i =>
      have := ih h.tail i (by simpa using hi)
      have := h.head
      rw [List.drop_succ_cons, List.sum_cons]
      omega
theorem ins_zero : ∀ (y : List Int) (i j : Nat), Bits y → i ≤ y.length → j ≤ y.length → (y.drop i).sum = (y.drop j).sum → ins 0 i y = ins 0 j y
  | [], i, j, _, hi, hj, _ => by
    have : i = 0 := by simpa using hi
    have : j = 0 := by simpa using hj
    subst i j; rfl
  | c :: y, 0, 0, _, _, _, _ => rfl
  | c :: y, 0, j + 1, h, _, hj, e => by
    have hj' : j ≤ y.length := by simpa using hj
    have e2 : c + y.sum = (y.drop j).sum := by simpa using e
    have := sum_drop h.tail j hj'
    have := h.head
    have c0 : c = 0 := by omega
    subst c0
    show 0 :: 0 :: y = 0 :: ins 0 j y
    rw [← ins_zero y 0 j h.tail (Nat.zero_le _) hj' (by rw [List.drop_zero]; omega)]; rfl
  | c :: y, i + 1, 0, h, hi, _, e => by
    have hi' : i ≤ y.length := by simpa using hi
    have e2 : (y.drop i).sum = c + y.sum := by simpa using e
    have := sum_drop h.tail i hi'
    have := h.head
    have c0 : c = 0 := by omega
    subst c0
    show 0 :: ins 0 i y = 0 :: 0 :: y
    rw [← ins_zero y 0 i h.tail (Nat.zero_le _) hi' (by rw [List.drop_zero]; omega)]; rfl
  | c :: y, i + 1, j + 1, h, hi, hj, e => by
    show c :: ins 0 i y = c :: ins 0 j y
    rw [ins_zero y i j h.tail (by simpa using hi) (by simpa using hj) (by simpa using e)]
theorem ins_one : ∀ (y : List Int) (i j : Nat), Bits y → i ≤ y.length → j ≤ y.length → (i : Int) + (y.drop i).sum = (j : Int) + (y.drop j).sum → ins 1 i y = ins 1 j y
  | [], i, j, _, hi, hj, _ => by
    have : i = 0 := by simpa using hi
    have : j = 0 := by simpa using hj
    subst i j; rfl
  | c :: y, 0, 0, _, _, _, _ => rfl
  | c :: y, 0, j + 1, h, _, hj, e => by
    have hj' : j ≤ y.length := by simpa using hj
    have e2 : 0 + (c + y.sum) = ((j + 1 : Nat) : Int) + (y.drop j).sum := by simpa using e
    have := sum_drop h.tail j hj'
    have := h.head
    have c0 : c = 1 := by omega
    subst c0
    show 1 :: 1 :: y = 1 :: ins 1 j y
    rw [← ins_one y 0 j h.tail (Nat.zero_le _) hj' (by rw [List.drop_zero]; omega)]; rfl
  | c :: y, i + 1, 0, h, hi, _, e => by
    have hi' : i ≤ y.length := by simpa using hi
    have e2 : ((i + 1 : Nat) : Int) + (y.drop i).sum = 0 + (c + y.sum) := by simpa using e
    have := sum_drop h.tail i hi'
    have := h.head
    have c0 : c = 1 := by omega
    subst c0
    show 1 :: ins 1 i y = 1 :: 1 :: y
    rw [← ins_one y 0 i h.tail (Nat.zero_le _) hi' (by rw [List.drop_zero]; omega)]; rfl
  | c :: y, i + 1, j + 1, h, hi, hj, e => by
    show c :: ins 1 i y = c :: ins 1 j y
    have e2 : ((i + 1 : Nat) : Int) + (y.drop i).sum = ((j + 1 : Nat) : Int) + (y.drop j).sum := by simpa using e
    rw [ins_one y i j h.tail (by simpa using hi) (by simpa using hj) (by omega)]
/-- the places of the rises -/
def dv (b : Int) (i : Nat) (y : List Int) : Int := ((i : Int) + 1) * b + (y.drop i).sum
theorem dv_inj {y : List Int} {b b' : Int} {i j : Nat} (h : Bits y) (hb : b = 0 ∨ b = 1) (hb' : b' = 0 ∨ b' = 1) (hi : i ≤ y.length) (hj : j ≤ y.length) (e : dv b i y = dv b' j y) : ins b i y = ins b' j y := by
  have s1 := sum_drop h i hi
  have s2 := sum_drop h j hj
  unfold dv at e
  rcases hb with rfl | rfl <;> rcases hb' with rfl | rfl
  · exact ins_zero y i j h hi hj (by omega)
  · omega
  · omega
  · exact ins_one y i j h hi hj (by omega)
theorem dv_bound {y : List Int} {b : Int} {i : Nat} (h : Bits y) (hb : b = 0 ∨ b = 1) (hi : i ≤ y.length) : 0 ≤ dv b i y ∧ dv b i y ≤ y.length + 1 := by
  have s1 := bits_sum h
  have s2 := bits_sum (bits_drop h i)
  have s3 := sum_drop h i hi
  rw [List.length_drop] at s2
  unfold dv
  rcases hb with rfl | rfl <;> omega
/-- two words that come of one by a bit put in, of one sum by the modulus, are one -/
theorem vt {y : List Int} {b b' : Int} {i j : Nat} (h : Bits y) (hb : b = 0 ∨ b = 1) (hb' : b' = 0 ∨ b' = 1) (hi : i ≤ y.length) (hj : j ≤ y.length)
    (e : wsum 0 (ins b i y) % ((y.length : Int) + 2) = wsum 0 (ins b' j y) % ((y.length : Int) + 2)) : ins b i y = ins b' j y := by
  refine dv_inj h hb hb' hi hj ?_
  have d1 := dv_bound h hb hi
  have d2 := dv_bound h hb' hj
  have w1 : wsum 0 (ins b i y) = wsum 0 y + dv b i y := by
    rw [wsum_ins b i 0 y hi]; unfold dv
    have : (((0 : Nat) : Int) + (i : Int) + 1) * b = ((i : Int) + 1) * b := by rw [Int.natCast_zero, Int.zero_add]
    rw [this]; omega
  have w2 : wsum 0 (ins b' j y) = wsum 0 y + dv b' j y := by
    rw [wsum_ins b' j 0 y hj]; unfold dv
    have : (((0 : Nat) : Int) + (j : Int) + 1) * b' = ((j : Int) + 1) * b' := by rw [Int.natCast_zero, Int.zero_add]
    rw [this]; omega
  rw [w1, w2] at e
  have e2 := Int.emod_emod_of_dvd (wsum 0 y + dv b i y) (Int.dvd_refl ((y.length : Int) + 2))
  have dvd : ((y.length : Int) + 2) ∣ (wsum 0 y + dv b i y) - (wsum 0 y + dv b' j y) := Int.dvd_of_emod_eq_zero (Int.emod_eq_emod_iff_emod_sub_eq_zero.mp e)
  have e3 : (wsum 0 y + dv b i y) - (wsum 0 y + dv b' j y) = dv b i y - dv b' j y := by omega
  rw [e3] at dvd
  rcases Int.lt_trichotomy (dv b i y) (dv b' j y) with c | c | c
  · have := Int.le_of_dvd (by omega) (Int.dvd_neg.mpr dvd)
    omega
  · exact c
  · have := Int.le_of_dvd (by omega) dvd
    omega
/-! the loss at i: how much it lowers the place sum -/
def dl (i : Nat) (u : List Int) : Int := ((i : Int) + 1) * u.getD i 0 + (u.drop (i + 1)).sum
theorem del_drop : ∀ (i : Nat) (u : List Int), i < u.length → (del i u).drop i = u.drop (i + 1)
  | _, [], h => absurd h (by simp)
  | 0, c :: u, _ => rfl
  | i + 1, c :: u, h => by
    show (c :: del i u).drop (i + 1) = _
    rw [List.drop_succ_cons, List.drop_succ_cons]
    exact del_drop i u (by simpa using h)
theorem ins_getD : ∀ (i : Nat) (u : List Int), i < u.length → ins (u.getD i 0) i (del i u) = u
  | _, [], h => absurd h (by simp)
  | 0, c :: u, _ => rfl
  | i + 1, c :: u, h => by
    show c :: ins ((c :: u).getD (i + 1) 0) i (del i u) = c :: u
    rw [List.getD_cons_succ, ins_getD i u (by simpa using h)]
theorem dl_dv {i : Nat} {u : List Int} (h : i < u.length) : dl i u = dv (u.getD i 0) i (del i u) := by
  unfold dl dv
  rw [del_drop i u h]
theorem dl_ins {b : Int} {i : Nat} {y : List Int} (h : i ≤ y.length) : dl i (ins b i y) = dv b i y := by
  have hl : i < (ins b i y).length := by rw [ins_len]; omega
  have e : (ins b i y).getD i 0 = b := by
    rw [ins_eq b i y h, List.getD_eq_getElem?_getD, List.getElem?_append_right (by rw [List.length_take]; omega), List.length_take, Nat.min_eq_left h, Nat.sub_self]; rfl
  rw [dl_dv hl, e, del_ins b i y h]
theorem bits_getD {u : List Int} (h : Bits u) (i : Nat) : u.getD i 0 = 0 ∨ u.getD i 0 = 1 := by
  rw [List.getD_eq_getElem?_getD]
  cases e : u[i]? with
  | none => exact .inl rfl
  | some x => exact h x (List.mem_of_getElem? e)
theorem bits_del {u : List Int} (h : Bits u) (i : Nat) : Bits (del i u) := fun x hx => by
  rw [del_eq] at hx
  rcases List.mem_append.mp hx with r | r
  · exact h x (List.mem_of_mem_take r)
  · exact h x (List.mem_of_mem_drop r)
theorem bits_ins {b : Int} {i : Nat} {u : List Int} (h : Bits u) (hb : b = 0 ∨ b = 1) (hi : i ≤ u.length) : Bits (ins b i u) := fun x hx => by
  rw [ins_eq b i u hi] at hx
  rcases List.mem_append.mp hx with r | r
  · exact h x (List.mem_of_mem_take r)
  · rcases List.mem_cons.mp r with r | r
    · rw [r]; exact hb
    · exact h x (List.mem_of_mem_drop r)
theorem dl_bound {u : List Int} {i : Nat} (h : Bits u) (hi : i < u.length) : 0 ≤ dl i u ∧ dl i u ≤ u.length := by
  rw [dl_dv hi]
  have := dv_bound (y := del i u) (i := i) (bits_del h i) (bits_getD h i) (by rw [del_len i u hi]; omega)
  rw [del_len i u hi] at this
  omega
/-- a letter behind one like it: lost alike -/
theorem dl_same {u : List Int} (i : Nat) (h : i + 1 < u.length) (e : u.getD i 0 = u.getD (i + 1) 0) : dl i u = dl (i + 1) u ∧ del i u = del (i + 1) u := by
  constructor
  · unfold dl
    have e2 : (u.drop (i + 1)).sum = u.getD (i + 1) 0 + (u.drop (i + 1 + 1)).sum := by
      rw [List.drop_eq_getElem_cons h, List.sum_cons, List.getD_eq_getElem?_getD, List.getElem?_eq_getElem h]; rfl
    rw [e2, e]
    have : (((i + 1 : Nat) : Int) + 1) * u.getD (i + 1) 0 = ((i : Int) + 1) * u.getD (i + 1) 0 + u.getD (i + 1) 0 := by
      have : (((i + 1 : Nat) : Int) + 1) = ((i : Int) + 1) + 1 := by omega
      rw [this, Int.add_mul, Int.one_mul]
    omega
  · induction u generalizing i with
    | nil => simp at h
    | cons c u ih =>
      cases i with
      | zero =>
        cases u with
        | nil => simp at h
        | cons d u =>
          have e : c = d := e
          show d :: u = c :: u
          rw [e]
      | succ i =>
        show c :: del i u = c :: del (i + 1) u
        rw [ih i (by simpa using h) (by simpa using e)]
theorem sum_dropS {u : List Int} {i : Nat} (h : i < u.length) : (u.drop i).sum = u.getD i 0 + (u.drop (i + 1)).sum := by
  rw [List.drop_eq_getElem_cons h, List.sum_cons, List.getD_eq_getElem?_getD, List.getElem?_eq_getElem h]; rfl
/-- between two places whose losses weigh alike all letters are alike -/
theorem dl_run {u : List Int} (h : Bits u) : ∀ (d i : Nat), i + d < u.length → dl i u = dl (i + d) u → ∀ t, t ≤ d → u.getD (i + t) 0 = u.getD i 0 := by
  -- the ones from i to j
  have ones : ∀ (d i : Nat), i + d ≤ u.length → 0 ≤ (u.drop i).sum - (u.drop (i + d)).sum ∧ (u.drop i).sum - (u.drop (i + d)).sum ≤ d ∧
      ((u.drop i).sum - (u.drop (i + d)).sum = 0 → ∀ t, t < d → u.getD (i + t) 0 = 0) ∧ ((u.drop i).sum - (u.drop (i + d)).sum = d → ∀ t, t < d → u.getD (i + t) 0 = 1) := by
    intro d
    induction d with
    | zero => intro i _; simp
    | succ d ih =>
      intro i hi
      obtain ⟨a1, a2, a3, a4⟩ := ih i (by omega)
      have e := sum_dropS (u := u) (i := i + d) (by omega)
      have b := bits_getD h (i + d)
      rw [show i + (d + 1) = i + d + 1 by omega]
      refine ⟨by omega, by omega, fun z t ht => ?_, fun z t ht => ?_⟩
      · by_cases c : t = d
        · subst c; omega
        · exact a3 (by omega) t (by omega)
      · by_cases c : t = d
        · subst c; omega
        · exact a4 (by omega) t (by omega)
  intro d i hd e t ht
  by_cases d0 : d = 0
  · subst d0
    rw [show t = 0 by omega]; rfl
  obtain ⟨a1, a2, a3, a4⟩ := ones d (i + 1) (by omega)
  rw [show i + 1 + d = i + d + 1 by omega] at a1 a2 a3 a4
  unfold dl at e
  have ci : (((i + d : Nat) : Int) + 1) = (i : Int) + 1 + d := by omega
  rw [ci] at e
  have low : ∀ t, t < d → i + (t + 1) = i + 1 + t := fun t _ => by omega
  rcases bits_getD h i with b | b <;> rcases bits_getD h (i + d) with b2 | b2 <;> rw [b, b2] at e
  · rw [b]
    by_cases c : t = 0
    · subst c; exact b
    · have := a3 (by omega) (t - 1) (by omega)
      rwa [show i + 1 + (t - 1) = i + t by omega] at this
  · omega
  · omega
  · rw [b]
    by_cases c : t = 0
    · subst c; exact b
    · have := a4 (by omega) (t - 1) (by omega)
      rwa [show i + 1 + (t - 1) = i + t by omega] at this
theorem del_run {u : List Int} : ∀ (d i : Nat), i + d < u.length → (∀ t, t ≤ d → u.getD (i + t) 0 = u.getD i 0) → del i u = del (i + d) u
  | 0, i, _, _ => rfl
  | d + 1, i, hd, h => by
    rw [del_run d i (by omega) fun t ht => h t (by omega)]
    have a := h d (by omega)
    have b := h (d + 1) (by omega)
    rw [show i + (d + 1) = i + d + 1 by omega] at b ⊢
    exact (dl_same (i + d) (by omega) (a.trans b.symm)).2
theorem del_inj {u : List Int} (h : Bits u) {i j : Nat} (hi : i < u.length) (hj : j < u.length) (e : dl i u = dl j u) : del i u = del j u := by
  by_cases c : i ≤ j
  · have := dl_run h (j - i) i (by omega) (by rw [e, show i + (j - i) = j by omega])
    have := del_run (j - i) i (by omega) this
    rwa [show i + (j - i) = j by omega] at this
  · have := dl_run h (i - j) j (by omega) (by rw [← e, show j + (i - j) = i by omega])
    have := del_run (i - j) j (by omega) this
    rw [show j + (i - j) = i by omega] at this
    exact this.symm
theorem wsum_ins0 {b : Int} {i : Nat} {y : List Int} (h : i ≤ y.length) : wsum 0 (ins b i y) = wsum 0 y + dv b i y := by
  rw [wsum_ins b i 0 y h]; unfold dv
  have : (((0 : Nat) : Int) + (i : Int) + 1) * b = ((i : Int) + 1) * b := by rw [Int.natCast_zero, Int.zero_add]
  rw [this]; omega
theorem wsum_take (o : Nat) : ∀ (i : Nat) (u : List Int), (h : i < u.length) → wsum o (u.take (i + 1)) = wsum o (u.take i) + ((o : Int) + i + 1) * u[i]
  | _, [], h => absurd h (by simp)
  | 0, c :: u, _ => by
    show ((o : Int) + 1) * c + 0 = 0 + _
    simp
  | i + 1, c :: u, h => by
    show ((o : Int) + 1) * c + wsum (o + 1) (u.take (i + 1)) = ((o : Int) + 1) * c + wsum (o + 1) (u.take i) + _
    rw [wsum_take (o + 1) i u (by simpa using h), List.getElem_cons_succ]
    have : (((o + 1 : Nat) : Int) + (i : Int) + 1) = ((o : Int) + ((i + 1 : Nat) : Int) + 1) := by omega
    rw [this]; omega
end Mine

namespace Mine
open PySem PySem.Spec PyProof.Rows L2
local macro_rules | `(tactic| walk_at "wp") => `(tactic| try simp -implicitDefEqProofs only [eFld_W, eFldS_W, sSetF_W, eMeth_W, eMeth0_W, eProp_W, mkI_W, mkI0_W, eVarD_W, eDic_W, eGet1_W, eGet2_W, eAtD_W, eInD_W, eNotInD_W, sOwnD_W, sPutD_W, Bool.false_eq_true, LINE_W, line0, line1, line2, line3, line4, line5, line6, line7, line8, line9, line10, line11, line12, take_W, Int.reduceLT, Int.reduceLE, Int.reduceNeg, mkD_W, mkD0_W, sSeq_W, sAsg_W, sRet_W, sRetN_W, sIf_W, sNext_W, sDrop_W, sBreak_W, sCont_W, sOwn_W, sPar_W, sPar3_W, sFrz_W, frz_W, fz_lst, fz_dk, fz_dt, sApp_W, sExt_W, sPop_W, sPopTo_W, sPut_W, sAugP_W, sAug_W, sFor_W, sRaise_W, sRaise1_W, gD_W, gD2_W, gD3_W, eVar_W, eVarB_W, eC_W, eOp_W, eUn_W, eCB_W, eNil_W, eCons_W, eConsS_W, eConsH_W, eTup_W, eLst_W, eCall_W, eCall0_W, eTest_W, eNotT_W, eAndT_W, eOrT_W, eTru_W, dTru_non, dTru_bl, dTru_int, dTru_lst, dTru_tup, dTru_str, dTru_dk, eBool_W, eAndV_W, eOrV_W, eNotV_W, eNotVT_W, eIf_W, eChain_W, eLc_W, eLc2_W, eYes_W, eSeq_W, eRng1_W, eRng2_W, eEnum_W, eZip_W, eSl_W, ePart_W, eNoPart_W, eRev_W, eRevL_W, eDk0_W, dAdd_int, dAdd_lst, dAdd_tup, dAdd_str, dAddL_lst, dSub_int, dMul_int, dMul_lst, dMulL_lst, dMul_tup, dFdiv_int, dMod_int, dPow_int, dShl_int, dShr_int, dLe_int, dLt_int, dGt_int, dGe_int, dNeg_int, isa_seq2, isLs_lst, isLs_tup, Bool.or_false, Bool.or_true, Bool.true_or, Bool.false_or, Bool.and_true, Bool.true_and, Bool.and_false, Bool.false_and, isSeq_lst, isSeq_tup, isTp_tup, isTp_lst, isTp_non, isTp_int, isTp_str, isW_int, dIsN_W, dNotN_W, isN_non, isN_int, isN_bl, isN_str, isN_tup, isN_lst, isN_dk, isN_dt, isN_ins, dIx_W, dSl_W, dSlL_W, dLen_W, dInt_W, dStr_W, dAbs_W, dMax2_W, dMin2_W, dTupOf_W, dLstOf_W, dIsi_W, dIsi2_W, kn_int, kn_bl, kn_non, kn_str, kn_tup, kn_lst, kn_dk, kn_dt, isa_int_int, isa_int_bool, isa_tup_tup, isa_bl_bool, isa_seq_tup, isa_seq_lst, isa_int, isa_bool, isa_seq, isa_tup, isa_str, isa_lst, dEq_int, dNe_int, Dt.flat, wipeS, List.getElem?_cons_zero, List.getElem?_cons_succ, List.set_cons_zero, List.set_cons_succ, List.replicate, List.append_nil, List.cons_append, List.nil_append, List.length_cons, List.length_nil, Nat.reduceAdd, Nat.reduceSub, Nat.zero_add, Option.isSome_some, Bool.true_eq_false, Bool.false_eq_true, if_true, if_false, ite_true, ite_false, eq_self, not_true_eq_false, not_false_eq_true, true_and, and_true, decide_eq_true_eq, Bool.not_true, Bool.not_false, Bool.not_eq_true', decide_eq_false_iff_not, decide_true, decide_false, List.length_map, List.map_cons, List.map_nil, Option.some.injEq, reduceCtorEq, Bool.not_eq_eq_eq_not, eEnumK_W, eDk1_W, eXf_W, eIsX_W, sTry_W])
theorem enumk_get {xs : List Dt} {k i : Nat} {x : Dt} (h : (xs.mapIdx fun i x => Dt.tup [.int ((k : Int) + (i : Nat)), x])[i]? = some x) : ∃ y, xs[i]? = some y ∧ x = .tup [.int ((k : Int) + (i : Nat)), y] := by
  rw [List.getElem?_mapIdx, Option.map_eq_some_iff] at h
  obtain ⟨y, h1, h2⟩ := h
  exact ⟨y, h1, h2.symm⟩
theorem bits_01 {w : List Int} (h : Bits w) : ∀ x ∈ w, 0 ≤ x ∧ x < 2 := fun x hx => by have := h x hx; omega
theorem bits_of_wd {n : Nat} {w : List Int} (h : Wd 2 n w) : Bits w := fun x hx => by have := h.2 x hx; omega
theorem sum_of_ok {w : List Int} {Q : Dt → Prop} {E : Xc → Prop} (hb : Bits w) (hl : w.length < 1000) (q : Q (.int (wsum 0 w))) : F_sum_of [.d (iT w)] Q E := by
  rw [F_sum_of_eq]; unfold S_sum_of
  walk_at "wp"
  refine lc_inv (fun i acc => ∃ ns : List Int, acc = ns.map .int ∧ ns.sum = wsum 0 (w.take i) ∧ ns.length ≤ i) ⟨[], rfl, rfl, Nat.le_refl _⟩ ?_ ?_
  · rintro i x _ K hx ⟨ns, rfl, e, hn⟩ hK
    obtain ⟨y, hy, rfl⟩ := enumk_get hx
    obtain ⟨z, hz, rfl⟩ := map_get hy
    obtain ⟨hi, ez⟩ := List.getElem?_eq_some_iff.mp hz
    have st := wsum_take 0 i w hi
    rw [ez] at st
    walk_at "wp"
    rcases hb z (List.mem_of_getElem? hz) with rfl | rfl
    · rw [if_neg (by decide)]
      exact hK _ ⟨ns, rfl, by omega, by omega⟩
    · rw [if_pos rfl]
      exact ⟨by omega, hK _ ⟨ns ++ [1 + (i : Int)], by rw [List.map_append]; rfl, by rw [List.sum_append]; simp; omega, by rw [List.length_append]; show _ + 1 ≤ _; omega⟩⟩
  · rintro _ ⟨ns, rfl, e, hn⟩
    unfold dSum
    refine ⟨ns, rfl, ?_⟩
    rw [e, List.length_mapIdx, List.length_map, List.take_length]; exact q
theorem badWord_bits {w : List Int} {m : Nat} (hb : Bits w) (hm : w.length ≤ m) : badWord 2 m (.tup (w.map .int)) = none ∧ badWord 2 m (.lst (w.map .int)) = none := by
  have e : badAt (inB 0 (2 - 1)) (w.map .int) = none := badAt_map fun a ha => by have := bits_01 hb a ha; simp [inB]; omega
  rw [badWord_tup, badWord_lst, e, List.length_map, if_neg (by omega)]
  exact ⟨rfl, rfl⟩
/-- what passes the check for a word of bits -/
theorem bits_of_good {a : Dt} {m : Nat} (h : badWord 2 m a = none) : ∃ w, itemsOf a = w.map .int ∧ Bits w ∧ w.length ≤ m := by
  unfold badWord at h
  split at h
  · cases h
  · split at h
    · cases h
    · rename_i hl
      rw [Option.map_eq_none_iff] at h
      obtain ⟨w, e, hw⟩ := ints_of_dts (P := fun x => x = 0 ∨ x = 1) (ys := itemsOf a) fun y hy => by
        have := badAt_spec h hy
        cases y <;> simp [inB] at this
        exact ⟨_, rfl, by omega⟩
      refine ⟨w, e, hw, ?_⟩
      rw [e, List.length_map] at hl; omega
/-- a thing that is asked: its kind and its items' are known -/
def Kn (a : Dt) : Prop := a.kind.isSome = true ∧ ∀ x ∈ itemsOf a, x.kind.isSome = true
theorem kn_iT (w : List Int) : Kn (iT w) := ⟨rfl, fun x hx => by obtain ⟨i, _, rfl⟩ := List.mem_map.mp hx; rfl⟩
theorem kn_iL (w : List Int) : Kn (iL w) := ⟨rfl, fun x hx => by obtain ⟨i, _, rfl⟩ := List.mem_map.mp hx; rfl⟩
theorem place_sum_ok {a : Dt} {Q : Dt → Prop} {E : Xc → Prop} (hk : Kn a) (h0 : ∀ w, itemsOf a = w.map .int → Bits w → badWord 2 201 a = none → Q (.int (wsum 0 w))) (h1 : ∀ i, badWord 2 201 a = some i → E ⟨"BadWord", [("index", .int i)]⟩) : F_place_sum [.d a] Q E := by
  rw [F_place_sum_eq]; unfold S_place_sum
  walk_at "wp"
  refine check_word_ok (q := 2) (m := 201) hk.1 hk.2 (fun hb => ?_) h1
  obtain ⟨w, e, hw, hl⟩ := bits_of_good hb
  rw [e]
  walk_at "wp"
  exact sum_of_ok hw (by omega) (h0 w e hw hb)
theorem law_sum_ok {w : List Int} {Q : Dt → Prop} {E : Xc → Prop} (hb : Bits w) (hl : w.length < 1000) (q : Q (.int (wsum 0 w))) : F_law_sum [.d (iT w)] Q E := by
  rw [F_law_sum_eq]; unfold S_law_sum
  walk_at "wp"
  refine ⟨by omega, ?_⟩
  refine lc_inv (fun i acc => ∃ ns : List Int, acc = ns.map .int ∧ ns.sum = wsum 0 (w.take i) ∧ ns.length ≤ i) ⟨[], rfl, rfl, Nat.le_refl _⟩ ?_ ?_
  · rintro i x _ K hx ⟨ns, rfl, e, hn⟩ hK
    obtain ⟨hi, rfl⟩ := rng_get hx
    have hi : i < w.length := by omega
    have st := wsum_take 0 i w hi
    walk_at "wp"
    refine ix_map (n := i) rfl hi ?_
    walk_at "wp"
    refine ⟨.inl (by omega), by omega, hK _ ⟨ns ++ [((i : Int) + 1) * w[i]], by rw [List.map_append]; rfl, ?_, by rw [List.length_append]; show _ + 1 ≤ _; omega⟩⟩
    rw [List.sum_append, st, e]; simp
  · rintro _ ⟨ns, rfl, e, hn⟩
    unfold dSum
    refine ⟨ns, rfl, ?_⟩
    rw [e, List.length_map, List.length_range, rg_toNat, List.take_length]; exact q
end Mine

namespace Mine
open PySem PySem.Spec PyProof.Rows L2
local macro_rules | `(tactic| walk_at "wp") => `(tactic| try simp -implicitDefEqProofs only [eFld_W, eFldS_W, sSetF_W, eMeth_W, eMeth0_W, eProp_W, mkI_W, mkI0_W, eVarD_W, eDic_W, eGet1_W, eGet2_W, eAtD_W, eInD_W, eNotInD_W, sOwnD_W, sPutD_W, Bool.false_eq_true, LINE_W, line0, line1, line2, line3, line4, line5, line6, line7, line8, line9, line10, line11, line12, take_W, Int.reduceLT, Int.reduceLE, Int.reduceNeg, mkD_W, mkD0_W, sSeq_W, sAsg_W, sRet_W, sRetN_W, sIf_W, sNext_W, sDrop_W, sBreak_W, sCont_W, sOwn_W, sPar_W, sPar3_W, sFrz_W, frz_W, fz_lst, fz_dk, fz_dt, sApp_W, sExt_W, sPop_W, sPopTo_W, sPut_W, sAugP_W, sAug_W, sFor_W, sRaise_W, sRaise1_W, gD_W, gD2_W, gD3_W, eVar_W, eVarB_W, eC_W, eOp_W, eUn_W, eCB_W, eNil_W, eCons_W, eConsS_W, eConsH_W, eTup_W, eLst_W, eCall_W, eCall0_W, eTest_W, eNotT_W, eAndT_W, eOrT_W, eTru_W, dTru_non, dTru_bl, dTru_int, dTru_lst, dTru_tup, dTru_str, dTru_dk, eBool_W, eAndV_W, eOrV_W, eNotV_W, eNotVT_W, eIf_W, eChain_W, eLc_W, eLc2_W, eYes_W, eSeq_W, eRng1_W, eRng2_W, eEnum_W, eZip_W, eSl_W, ePart_W, eNoPart_W, eRev_W, eRevL_W, eDk0_W, dAdd_int, dAdd_lst, dAdd_tup, dAdd_str, dAddL_lst, dSub_int, dMul_int, dMul_lst, dMulL_lst, dMul_tup, dFdiv_int, dMod_int, dPow_int, dShl_int, dShr_int, dLe_int, dLt_int, dGt_int, dGe_int, dNeg_int, isa_seq2, isLs_lst, isLs_tup, Bool.or_false, Bool.or_true, Bool.true_or, Bool.false_or, Bool.and_true, Bool.true_and, Bool.and_false, Bool.false_and, isSeq_lst, isSeq_tup, isTp_tup, isTp_lst, isTp_non, isTp_int, isTp_str, isW_int, dIsN_W, dNotN_W, isN_non, isN_int, isN_bl, isN_str, isN_tup, isN_lst, isN_dk, isN_dt, isN_ins, dIx_W, dSl_W, dSlL_W, dLen_W, dInt_W, dStr_W, dAbs_W, dMax2_W, dMin2_W, dTupOf_W, dLstOf_W, dIsi_W, dIsi2_W, kn_int, kn_bl, kn_non, kn_str, kn_tup, kn_lst, kn_dk, kn_dt, isa_int_int, isa_int_bool, isa_tup_tup, isa_bl_bool, isa_seq_tup, isa_seq_lst, isa_int, isa_bool, isa_seq, isa_tup, isa_str, isa_lst, dEq_int, dNe_int, Dt.flat, wipeS, List.getElem?_cons_zero, List.getElem?_cons_succ, List.set_cons_zero, List.set_cons_succ, List.replicate, List.append_nil, List.cons_append, List.nil_append, List.length_cons, List.length_nil, Nat.reduceAdd, Nat.reduceSub, Nat.zero_add, Option.isSome_some, Bool.true_eq_false, Bool.false_eq_true, if_true, if_false, ite_true, ite_false, eq_self, not_true_eq_false, not_false_eq_true, true_and, and_true, decide_eq_true_eq, Bool.not_true, Bool.not_false, Bool.not_eq_true', decide_eq_false_iff_not, decide_true, decide_false, List.length_map, List.map_cons, List.map_nil, Option.some.injEq, reduceCtorEq, Bool.not_eq_eq_eq_not, eEnumK_W, eDk1_W, eXf_W, eIsX_W, sTry_W])
theorem nf {b : Bool} (h : ¬ b = false) : b = true := by cases b <;> simp_all
theorem bits_count {w : List Int} (h : Bits w) : (w.count 1 : Int) = w.sum ∧ w.count 0 + w.count 1 = w.length := by
  induction w with
  | nil => exact ⟨rfl, rfl⟩
  | cons c w ih =>
    obtain ⟨h1, h2⟩ := ih h.tail
    rcases h.head with rfl | rfl
    · rw [List.count_cons, List.count_cons, List.sum_cons, List.length_cons]
      simp; omega
    · rw [List.count_cons, List.count_cons, List.sum_cons, List.length_cons]
      simp; omega
theorem bits_take {w : List Int} (h : Bits w) (i : Nat) : Bits (w.take i) := fun x hx => h x (List.mem_of_mem_take hx)
theorem index_behind_ok {w : List Int} {l : Int} {m : Nat} {Q : Dt → Prop} {E : Xc → Prop} (hl : w.length < 1000) (hm : m ≤ w.count l) (q : ∀ a : Nat, a ≤ w.length → (w.take a).count l = m → Q (.int a)) : F_index_behind [.d (iT w), .d (.int l), .d (.int m)] Q E := by
  rw [F_index_behind_eq]; unfold S_index_behind
  walk_at "wp"
  refine ⟨fun t e => ∃ (a r : Nat), e = [.d (iT w), .d (.int l), .d (.int r), .d (.int a)] ∧ a ≤ w.length ∧ (w.take a).count l + r = m ∧ t = w.length - a, w.length, ⟨0, m, rfl, Nat.zero_le _, by simp, rfl⟩, ?_⟩
  rintro t _ ⟨a, r, rfl, ha, hr, rfl⟩
  walk_at "wp"
  refine iteQ (fun c => ?_) fun c => ?_
  · have al : a < w.length := by
      by_cases h : a < w.length
      · exact h
      · rw [List.take_of_length_le (by omega)] at hr; omega
    refine ix_map (n := a) rfl al ?_
    rw [dEq_int]
    walk_at "wp"
    have st : (w.take (a + 1)).count l = (w.take a).count l + if w[a] = l then 1 else 0 := by
      rw [take_snoc (List.getElem?_eq_getElem al), List.count_append, List.count_cons, List.count_nil]
      by_cases e : w[a] = l <;> simp [e]
    refine iteQ (fun e => ?_) fun e => ?_
    · rw [if_pos e] at st
      exact ⟨w.length - (a + 1), by omega, a + 1, r - 1, by rw [show ((r - 1 : Nat) : Int) = (r : Int) - 1 by omega]; rfl, by omega, by omega, rfl⟩
    · rw [if_neg e] at st
      exact ⟨w.length - (a + 1), by omega, a + 1, r, rfl, by omega, by omega, rfl⟩
  · exact q a ha (by omega)
/-- a good amount -/
theorem amount_of {lo hi : Int} {a : Dt} (h : inB lo hi a = true) : ∃ z, a = .int z ∧ lo ≤ z ∧ z ≤ hi := by
  cases a <;> first | cases h | skip
  rename_i z
  simp [inB] at h
  exact ⟨z, rfl, h⟩
theorem cat_ins {w : List Int} {b : Int} {a : Nat} {z : Int} (hz : z = a) (ha : a ≤ w.length) : cutG (w.map Dt.int) none (some z) ++ [.int b] ++ cutG (w.map Dt.int) (some z) none = (ins b a w).map Dt.int := by
  rw [cutG_take hz, cutG_drop hz, ins_eq b a w ha, List.map_append, List.map_cons, List.map_take, List.map_drop]; simp
theorem cat_del {w : List Int} {a : Nat} {z y : Int} (hz : z = a) (hy : y = a + 1) : cutG (w.map Dt.int) none (some z) ++ cutG (w.map Dt.int) (some y) none = (del a w).map Dt.int := by
  rw [cutG_take hz, cutG_drop (k := a + 1) (by omega), del_eq, List.map_append, List.map_take, List.map_drop]
theorem cut_len {xs : List Dt} (lo hi : Option Int) : (cutG xs lo hi).length ≤ xs.length := by
  unfold cutG
  rw [List.length_take, List.length_drop]; omega
theorem lifted_word_ok {a y : Dt} {Q : Dt → Prop} {E : Xc → Prop} (hk : Kn a) (hy : y.kind.isSome = true)
    (h0 : ∀ (w : List Int) (z b : Int) (i : Nat), itemsOf a = w.map .int → Bits w → badWord 2 200 a = none → y = .int z → 0 ≤ z → z ≤ w.length + 1 → (b = 0 ∨ b = 1) → i ≤ w.length → dv b i w = z → Q (iT (ins b i w)))
    (h1 : ∀ i, badWord 2 200 a = some i → E ⟨"BadWord", [("index", .int i)]⟩) (h2 : badWord 2 200 a = none → inB 0 ((itemsOf a).length + 1) y = false → E ⟨"BadAmount", []⟩) : F_lifted_word [.d a, .d y] Q E := by
  rw [F_lifted_word_eq]; unfold S_lifted_word
  walk_at "wp"
  refine check_word_ok (q := 2) (m := 200) hk.1 hk.2 (fun hb => ?_) h1
  obtain ⟨w, e, hw, hl⟩ := bits_of_good hb
  rw [e, List.length_map] at h2
  rw [e]
  walk_at "wp"
  refine is_whole_ok hy ?_
  walk_at "wp"
  refine iteQ (fun c => ?_) fun c => ?_
  · exact h2 hb c
  obtain ⟨z, rfl, hz0, hz1⟩ := amount_of (nf c)
  obtain ⟨cs, cl⟩ := bits_count hw
  unfold dSum
  refine ⟨w, rfl, ?_⟩
  walk_at "wp"
  have fin : ∀ (b : Int) (at_ : Nat), (b = 0 ∨ b = 1) → at_ ≤ w.length → dv b at_ w = z → Q (iT (ins b at_ w)) := fun b at_ hb2 ha hd => h0 w z b at_ e hw hb rfl hz0 (by omega) hb2 ha hd
  have sumS : ∀ at_ : Nat, (w.drop at_).sum = w.sum - (w.take at_).sum := fun at_ => by
    have := congrArg List.sum (List.take_append_drop at_ w)
    rw [List.sum_append] at this; omega
  refine iteQ (fun c => ?_) fun c => ?_
  · rw [show w.sum - z = (((w.sum - z).toNat : Nat) : Int) by omega]
    refine index_behind_ok (by omega) (by omega) fun at_ ha hc => ?_
    walk_at "wp"
    have l1 := cut_len (xs := w.map Dt.int) none (some (at_ : Int))
    have l2 := cut_len (xs := w.map Dt.int) (some (at_ : Int)) none
    rw [List.length_map] at l1 l2
    refine ⟨by omega, by rw [List.length_append]; show _ + 1 + _ ≤ _; omega, ?_⟩
    rw [cat_ins rfl ha]
    refine fin 0 at_ (.inl rfl) ha ?_
    obtain ⟨c1, _⟩ := bits_count (bits_take hw at_)
    unfold dv
    rw [sumS, ← c1, hc]; omega
  · rw [show z - w.sum - 1 = (((z - w.sum - 1).toNat : Nat) : Int) by omega]
    refine index_behind_ok (by omega) (by omega) fun at_ ha hc => ?_
    walk_at "wp"
    have l1 := cut_len (xs := w.map Dt.int) none (some (at_ : Int))
    have l2 := cut_len (xs := w.map Dt.int) (some (at_ : Int)) none
    rw [List.length_map] at l1 l2
    refine ⟨by omega, by rw [List.length_append]; show _ + 1 + _ ≤ _; omega, ?_⟩
    rw [cat_ins rfl ha]
    refine fin 1 at_ (.inr rfl) ha ?_
    obtain ⟨c1, c2⟩ := bits_count (bits_take hw at_)
    rw [List.length_take, Nat.min_eq_left ha] at c2
    unfold dv
    rw [sumS, ← c1]; omega
/-- the first loss of this weight -/
def lossAt (z : Int) (u : List Int) : Option Nat := (List.range u.length).find? fun i => decide (dl i u = z)
theorem lossAt_none {z : Int} {u : List Int} (h : ∀ i, i < u.length → dl i u ≠ z) : lossAt z u = none := by
  unfold lossAt
  rw [List.find?_eq_none]
  intro i hi
  simpa using h i (List.mem_range.mp hi)
theorem lossAt_some {z : Int} {u : List Int} {i : Nat} (hi : i < u.length) (h : ∀ j, j < i → dl j u ≠ z) (e : dl i u = z) : lossAt z u = some i := by
  unfold lossAt
  rw [List.find?_range_eq_some]
  exact ⟨by simpa using e, List.mem_range.mpr hi, fun j hj => by simpa using h j hj⟩
theorem lossAt_spec {z : Int} {u : List Int} {i : Nat} (h : lossAt z u = some i) : i < u.length ∧ dl i u = z ∧ ∀ j, j < i → dl j u ≠ z := by
  unfold lossAt at h
  rw [List.find?_range_eq_some] at h
  exact ⟨List.mem_range.mp h.2.1, by simpa using h.1, fun j hj => by simpa using h.2.2 j hj⟩
def lowD (z : Int) (u : List Int) : Dt := match lossAt z u with
  | some i => iT (del i u)
  | none => .non
end Mine

namespace Mine
open PySem PySem.Spec PyProof.Rows L2
local macro_rules | `(tactic| walk_at "wp") => `(tactic| try simp -implicitDefEqProofs only [eFld_W, eFldS_W, sSetF_W, eMeth_W, eMeth0_W, eProp_W, mkI_W, mkI0_W, eVarD_W, eDic_W, eGet1_W, eGet2_W, eAtD_W, eInD_W, eNotInD_W, sOwnD_W, sPutD_W, Bool.false_eq_true, LINE_W, line0, line1, line2, line3, line4, line5, line6, line7, line8, line9, line10, line11, line12, take_W, Int.reduceLT, Int.reduceLE, Int.reduceNeg, mkD_W, mkD0_W, sSeq_W, sAsg_W, sRet_W, sRetN_W, sIf_W, sNext_W, sDrop_W, sBreak_W, sCont_W, sOwn_W, sPar_W, sPar3_W, sFrz_W, frz_W, fz_lst, fz_dk, fz_dt, sApp_W, sExt_W, sPop_W, sPopTo_W, sPut_W, sAugP_W, sAug_W, sFor_W, sRaise_W, sRaise1_W, gD_W, gD2_W, gD3_W, eVar_W, eVarB_W, eC_W, eOp_W, eUn_W, eCB_W, eNil_W, eCons_W, eConsS_W, eConsH_W, eTup_W, eLst_W, eCall_W, eCall0_W, eTest_W, eNotT_W, eAndT_W, eOrT_W, eTru_W, dTru_non, dTru_bl, dTru_int, dTru_lst, dTru_tup, dTru_str, dTru_dk, eBool_W, eAndV_W, eOrV_W, eNotV_W, eNotVT_W, eIf_W, eChain_W, eLc_W, eLc2_W, eYes_W, eSeq_W, eRng1_W, eRng2_W, eEnum_W, eZip_W, eSl_W, ePart_W, eNoPart_W, eRev_W, eRevL_W, eDk0_W, dAdd_int, dAdd_lst, dAdd_tup, dAdd_str, dAddL_lst, dSub_int, dMul_int, dMul_lst, dMulL_lst, dMul_tup, dFdiv_int, dMod_int, dPow_int, dShl_int, dShr_int, dLe_int, dLt_int, dGt_int, dGe_int, dNeg_int, isa_seq2, isLs_lst, isLs_tup, Bool.or_false, Bool.or_true, Bool.true_or, Bool.false_or, Bool.and_true, Bool.true_and, Bool.and_false, Bool.false_and, isSeq_lst, isSeq_tup, isTp_tup, isTp_lst, isTp_non, isTp_int, isTp_str, isW_int, dIsN_W, dNotN_W, isN_non, isN_int, isN_bl, isN_str, isN_tup, isN_lst, isN_dk, isN_dt, isN_ins, dIx_W, dSl_W, dSlL_W, dLen_W, dInt_W, dStr_W, dAbs_W, dMax2_W, dMin2_W, dTupOf_W, dLstOf_W, dIsi_W, dIsi2_W, kn_int, kn_bl, kn_non, kn_str, kn_tup, kn_lst, kn_dk, kn_dt, isa_int_int, isa_int_bool, isa_tup_tup, isa_bl_bool, isa_seq_tup, isa_seq_lst, isa_int, isa_bool, isa_seq, isa_tup, isa_str, isa_lst, dEq_int, dNe_int, Dt.flat, wipeS, List.getElem?_cons_zero, List.getElem?_cons_succ, List.set_cons_zero, List.set_cons_succ, List.replicate, List.append_nil, List.cons_append, List.nil_append, List.length_cons, List.length_nil, Nat.reduceAdd, Nat.reduceSub, Nat.zero_add, Option.isSome_some, Bool.true_eq_false, Bool.false_eq_true, if_true, if_false, ite_true, ite_false, eq_self, not_true_eq_false, not_false_eq_true, true_and, and_true, decide_eq_true_eq, Bool.not_true, Bool.not_false, Bool.not_eq_true', decide_eq_false_iff_not, decide_true, decide_false, List.length_map, List.map_cons, List.map_nil, Option.some.injEq, reduceCtorEq, Bool.not_eq_eq_eq_not, eEnumK_W, eDk1_W, eXf_W, eIsX_W, sTry_W])
/-- the sum book of length n, modulus m and rest r -/
def bk (n m r : Int) : Dt := .ins "SumBook" ["length", "modulus", "rest"] [.int n, .int m, .int r]
local macro_rules | `(tactic| walk_at "fl") => `(tactic| try simp only [bk, ftab_SumBook_length, ftab_SumBook_modulus, ftab_SumBook_rest, look_SumBook_length, look_SumBook_modulus, look_SumBook_rest, true_and, Option.some.injEq, exists_eq_left'])
theorem dts_inj2 : ∀ {x y : List Int}, x.map Dt.int = y.map Dt.int → x = y
  | [], [], _ => rfl
  | [], _ :: _, h => by cases h
  | _ :: _, [], h => by cases h
  | a :: x, b :: y, h => by
    rw [List.map_cons, List.map_cons] at h
    injection h with h1 h2
    injection h1 with h1
    rw [h1, dts_inj2 h2]
theorem check_number_ok {x : Dt} {lo hi : Int} {Q : Dt → Prop} {E : Xc → Prop} (hk : x.kind.isSome = true) (q : inB lo hi x = true → Q x) (h1 : inB lo hi x = false → E ⟨"BadNumber", []⟩) : F_check_number [.d x, .d (.int lo), .d (.int hi)] Q E := by
  rw [F_check_number_eq]; unfold S_check_number
  walk_at "wp"
  refine is_whole_ok hk ?_
  walk_at "wp"
  cases h : inB lo hi x with
  | true => simpa using q h
  | false => simpa using h1 h
theorem check_modulus_ok {x : Dt} {lo : Int} {Q : Dt → Prop} {E : Xc → Prop} (hk : x.kind.isSome = true) (q : inB lo 1000000 x = true → Q .non) (h1 : inB lo 1000000 x = false → E ⟨"BadModulus", []⟩) : F_check_modulus [.d x, .d (.int lo)] Q E := by
  rw [F_check_modulus_eq]; unfold S_check_modulus
  walk_at "wp"
  refine is_whole_ok hk ?_
  walk_at "wp"
  cases h : inB lo 1000000 x with
  | true => simpa using q h
  | false => simpa using h1 h
theorem check_rest_ok {x : Dt} {m : Int} {Q : Dt → Prop} {E : Xc → Prop} (hk : x.kind.isSome = true) (q : inB 0 (m - 1) x = true → Q .non) (h1 : inB 0 (m - 1) x = false → E ⟨"BadRest", []⟩) : F_check_rest [.d x, .d (.int m)] Q E := by
  rw [F_check_rest_eq]; unfold S_check_rest
  walk_at "wp"
  refine is_whole_ok hk ?_
  walk_at "wp"
  cases h : inB 0 (m - 1) x with
  | true => simpa using q h
  | false => simpa using h1 h
theorem inB_int {lo hi i : Int} (a : lo ≤ i) (b : i ≤ hi) : inB lo hi (.int i) = true := by
  unfold inB; simp [a, b, isW]
theorem make_ok {n m r : Int} {Q : Dt → Prop} {E : Xc → Prop} (hn : 0 ≤ n) (hn2 : n ≤ 200) (hm : n + 1 ≤ m) (hm2 : m ≤ 1000000) (hr : 0 ≤ r) (hr2 : r < m) (q : Q (bk n m r)) : F_SumBook___init [.d (.int n), .d (.int m), .d (.int r)] Q E := by
  rw [F_SumBook___init_eq]; unfold S_SumBook___init
  walk_at "wp"
  refine check_number_ok rfl (fun _ => ?_) fun h => by rw [inB_int hn hn2] at h; cases h
  refine check_modulus_ok rfl (fun _ => ?_) fun h => by rw [inB_int hm hm2] at h; cases h
  refine check_rest_ok rfl (fun _ => ?_) fun h => by rw [inB_int hr (by omega)] at h; cases h
  simp only [ftab_SumBook_length, ftab_SumBook_modulus, ftab_SumBook_rest, putN_SumBook_length, putN_SumBook_modulus, putN_SumBook_rest, putD_SumBook_length, putD_SumBook_modulus, putD_SumBook_rest, List.getElem?_cons_zero, List.set_cons_zero, true_and, List.length_nil, List.length_cons]
  exact ⟨by decide, by decide, by decide, q⟩
theorem is_full_ok {n m r : Int} {Q : Dt → Prop} {E : Xc → Prop} (q : Q (.bl (decide (m = n + 1)))) : F_SumBook_is_full [.d (bk n m r)] Q E := by
  rw [F_SumBook_is_full_eq]; unfold S_SumBook_is_full bk
  walk_at "wp"
  simp only [ftab_SumBook_length, ftab_SumBook_modulus, look_SumBook_length, look_SumBook_modulus, true_and, Option.some.injEq, exists_eq_left']
  walk_at "wp"
  exact q
end Mine

namespace Mine
open PySem PySem.Spec PyProof.Rows L2
local macro_rules | `(tactic| walk_at "wp") => `(tactic| try simp -implicitDefEqProofs only [eFld_W, eFldS_W, sSetF_W, eMeth_W, eMeth0_W, eProp_W, mkI_W, mkI0_W, eVarD_W, eDic_W, eGet1_W, eGet2_W, eAtD_W, eInD_W, eNotInD_W, sOwnD_W, sPutD_W, Bool.false_eq_true, LINE_W, line0, line1, line2, line3, line4, line5, line6, line7, line8, line9, line10, line11, line12, take_W, Int.reduceLT, Int.reduceLE, Int.reduceNeg, mkD_W, mkD0_W, sSeq_W, sAsg_W, sRet_W, sRetN_W, sIf_W, sNext_W, sDrop_W, sBreak_W, sCont_W, sOwn_W, sPar_W, sPar3_W, sFrz_W, frz_W, fz_lst, fz_dk, fz_dt, sApp_W, sExt_W, sPop_W, sPopTo_W, sPut_W, sAugP_W, sAug_W, sFor_W, sRaise_W, sRaise1_W, gD_W, gD2_W, gD3_W, eVar_W, eVarB_W, eC_W, eOp_W, eUn_W, eCB_W, eNil_W, eCons_W, eConsS_W, eConsH_W, eTup_W, eLst_W, eCall_W, eCall0_W, eTest_W, eNotT_W, eAndT_W, eOrT_W, eTru_W, dTru_non, dTru_bl, dTru_int, dTru_lst, dTru_tup, dTru_str, dTru_dk, eBool_W, eAndV_W, eOrV_W, eNotV_W, eNotVT_W, eIf_W, eChain_W, eLc_W, eLc2_W, eYes_W, eSeq_W, eRng1_W, eRng2_W, eEnum_W, eZip_W, eSl_W, ePart_W, eNoPart_W, eRev_W, eRevL_W, eDk0_W, dAdd_int, dAdd_lst, dAdd_tup, dAdd_str, dAddL_lst, dSub_int, dMul_int, dMul_lst, dMulL_lst, dMul_tup, dFdiv_int, dMod_int, dPow_int, dShl_int, dShr_int, dLe_int, dLt_int, dGt_int, dGe_int, dNeg_int, isa_seq2, isLs_lst, isLs_tup, Bool.or_false, Bool.or_true, Bool.true_or, Bool.false_or, Bool.and_true, Bool.true_and, Bool.and_false, Bool.false_and, isSeq_lst, isSeq_tup, isTp_tup, isTp_lst, isTp_non, isTp_int, isTp_str, isW_int, dIsN_W, dNotN_W, isN_non, isN_int, isN_bl, isN_str, isN_tup, isN_lst, isN_dk, isN_dt, isN_ins, dIx_W, dSl_W, dSlL_W, dLen_W, dInt_W, dStr_W, dAbs_W, dMax2_W, dMin2_W, dTupOf_W, dLstOf_W, dIsi_W, dIsi2_W, kn_int, kn_bl, kn_non, kn_str, kn_tup, kn_lst, kn_dk, kn_dt, isa_int_int, isa_int_bool, isa_tup_tup, isa_bl_bool, isa_seq_tup, isa_seq_lst, isa_int, isa_bool, isa_seq, isa_tup, isa_str, isa_lst, dEq_int, dNe_int, Dt.flat, wipeS, List.getElem?_cons_zero, List.getElem?_cons_succ, List.set_cons_zero, List.set_cons_succ, List.replicate, List.append_nil, List.cons_append, List.nil_append, List.length_cons, List.length_nil, Nat.reduceAdd, Nat.reduceSub, Nat.zero_add, Option.isSome_some, Bool.true_eq_false, Bool.false_eq_true, if_true, if_false, ite_true, ite_false, eq_self, not_true_eq_false, not_false_eq_true, true_and, and_true, decide_eq_true_eq, Bool.not_true, Bool.not_false, Bool.not_eq_true', decide_eq_false_iff_not, decide_true, decide_false, List.length_map, List.map_cons, List.map_nil, Option.some.injEq, reduceCtorEq, Bool.not_eq_eq_eq_not, eEnumK_W, eDk1_W, eXf_W, eIsX_W, sTry_W])
local macro_rules | `(tactic| walk_at "fl") => `(tactic| try simp only [bk, ftab_SumBook_length, ftab_SumBook_modulus, ftab_SumBook_rest, look_SumBook_length, look_SumBook_modulus, look_SumBook_rest, true_and, Option.some.injEq, exists_eq_left'])
theorem check_letters_of_ok {a : Dt} {n : Int} {Q : Dt → Prop} {E : Xc → Prop} (hk : Kn a) (q : ∀ w, itemsOf a = w.map .int → Bits w → w.length ≤ 201 → badWord 2 201 a = none → (w.length : Int) = n → Q (iT w))
    (h1 : ∀ i, badWord 2 201 a = some i → E ⟨"BadWord", [("index", .int i)]⟩) (h2 : badWord 2 201 a = none → ((itemsOf a).length : Int) ≠ n → E ⟨"NotOneOff", []⟩) : F_check_letters_of [.d a, .d (.int n), .d (.int 201)] Q E := by
  rw [F_check_letters_of_eq]; unfold S_check_letters_of
  walk_at "wp"
  refine check_word_ok (q := 2) (m := 201) hk.1 hk.2 (fun hb => ?_) h1
  obtain ⟨w, e, hw, hl⟩ := bits_of_good hb
  have h2 := h2 hb
  rw [e, List.length_map] at h2
  rw [e]
  walk_at "wp"
  refine iteQ (fun c => ?_) fun c => ?_
  · exact h2 (by simpa using c)
  · exact q w e hw hl hb (by simpa using c)
end Mine

namespace Mine
open PySem PySem.Spec PyProof.Rows L2
local macro_rules | `(tactic| walk_at "wp") => `(tactic| try simp -implicitDefEqProofs only [eFld_W, eFldS_W, sSetF_W, eMeth_W, eMeth0_W, eProp_W, mkI_W, mkI0_W, eVarD_W, eDic_W, eGet1_W, eGet2_W, eAtD_W, eInD_W, eNotInD_W, sOwnD_W, sPutD_W, Bool.false_eq_true, LINE_W, line0, line1, line2, line3, line4, line5, line6, line7, line8, line9, line10, line11, line12, take_W, Int.reduceLT, Int.reduceLE, Int.reduceNeg, mkD_W, mkD0_W, sSeq_W, sAsg_W, sRet_W, sRetN_W, sIf_W, sNext_W, sDrop_W, sBreak_W, sCont_W, sOwn_W, sPar_W, sPar3_W, sFrz_W, frz_W, fz_lst, fz_dk, fz_dt, sApp_W, sExt_W, sPop_W, sPopTo_W, sPut_W, sAugP_W, sAug_W, sFor_W, sRaise_W, sRaise1_W, gD_W, gD2_W, gD3_W, eVar_W, eVarB_W, eC_W, eOp_W, eUn_W, eCB_W, eNil_W, eCons_W, eConsS_W, eConsH_W, eTup_W, eLst_W, eCall_W, eCall0_W, eTest_W, eNotT_W, eAndT_W, eOrT_W, eTru_W, dTru_non, dTru_bl, dTru_int, dTru_lst, dTru_tup, dTru_str, dTru_dk, eBool_W, eAndV_W, eOrV_W, eNotV_W, eNotVT_W, eIf_W, eChain_W, eLc_W, eLc2_W, eYes_W, eSeq_W, eRng1_W, eRng2_W, eEnum_W, eZip_W, eSl_W, ePart_W, eNoPart_W, eRev_W, eRevL_W, eDk0_W, dAdd_int, dAdd_lst, dAdd_tup, dAdd_str, dAddL_lst, dSub_int, dMul_int, dMul_lst, dMulL_lst, dMul_tup, dFdiv_int, dMod_int, dPow_int, dShl_int, dShr_int, dLe_int, dLt_int, dGt_int, dGe_int, dNeg_int, isa_seq2, isLs_lst, isLs_tup, Bool.or_false, Bool.or_true, Bool.true_or, Bool.false_or, Bool.and_true, Bool.true_and, Bool.and_false, Bool.false_and, isSeq_lst, isSeq_tup, isTp_tup, isTp_lst, isTp_non, isTp_int, isTp_str, isW_int, dIsN_W, dNotN_W, isN_non, isN_int, isN_bl, isN_str, isN_tup, isN_lst, isN_dk, isN_dt, isN_ins, dIx_W, dSl_W, dSlL_W, dLen_W, dInt_W, dStr_W, dAbs_W, dMax2_W, dMin2_W, dTupOf_W, dLstOf_W, dIsi_W, dIsi2_W, kn_int, kn_bl, kn_non, kn_str, kn_tup, kn_lst, kn_dk, kn_dt, isa_int_int, isa_int_bool, isa_tup_tup, isa_bl_bool, isa_seq_tup, isa_seq_lst, isa_int, isa_bool, isa_seq, isa_tup, isa_str, isa_lst, dEq_int, dNe_int, Dt.flat, wipeS, List.getElem?_cons_zero, List.getElem?_cons_succ, List.set_cons_zero, List.set_cons_succ, List.replicate, List.append_nil, List.cons_append, List.nil_append, List.length_cons, List.length_nil, Nat.reduceAdd, Nat.reduceSub, Nat.zero_add, Option.isSome_some, Bool.true_eq_false, Bool.false_eq_true, if_true, if_false, ite_true, ite_false, eq_self, not_true_eq_false, not_false_eq_true, true_and, and_true, decide_eq_true_eq, Bool.not_true, Bool.not_false, Bool.not_eq_true', decide_eq_false_iff_not, decide_true, decide_false, List.length_map, List.map_cons, List.map_nil, Option.some.injEq, reduceCtorEq, Bool.not_eq_eq_eq_not, eEnumK_W, eDk1_W, eXf_W, eIsX_W, sTry_W])
/-- the words of the book -/
def Mem (n m r : Int) (u : List Int) : Prop := Bits u ∧ (u.length : Int) = n ∧ (wsum 0 u - r) % m = 0
theorem wsum_del {w : List Int} {k : Nat} (h : k < w.length) : wsum 0 w = wsum 0 (del k w) + dl k w := by
  have e := ins_getD k w h
  rw [dl_dv h]
  conv => lhs; rw [← e]
  exact wsum_ins0 (by rw [del_len k w h]; omega)
theorem dl_clash {w : List Int} {i k : Nat} (hb : Bits w) (hi : i < w.length) (hk : k < w.length) (h0 : dl i w = 0) (h1 : dl k w = w.length) : False := by
  have a := bits_getD hb i
  have b := bits_getD hb k
  have s1 := bits_sum (bits_drop hb (i + 1))
  have s2 := bits_sum (bits_drop hb (k + 1))
  unfold dl at h0 h1
  rw [List.length_drop] at s1 s2
  have ai : w.getD i 0 = 0 := by
    rcases a with a | a
    · exact a
    · rw [a] at h0; omega
  rw [ai] at h0
  have bk : w.getD k 0 = 1 := by
    rcases b with b | b
    · rw [b] at h1; omega
    · exact b
  rw [bk] at h1
  have hd : (w.drop i).sum = 0 := by rw [sum_dropS hi, ai]; omega
  rcases Nat.lt_trichotomy i k with c | c | c
  · have z := sum_drop (bits_drop hb i) (k - i) (by rw [List.length_drop]; omega)
    rw [List.drop_drop, show i + (k - i) = k by omega, sum_dropS hk, bk] at z
    omega
  · rw [c] at ai; omega
  · have z := sum_drop (bits_drop hb (k + 1)) (i - (k + 1)) (by rw [List.length_drop]; omega)
    rw [List.drop_drop, show k + 1 + (i - (k + 1)) = i by omega] at z
    omega
theorem mem_del {n m r : Int} {w : List Int} {k : Nat} (hb : Bits w) (hl : (w.length : Int) = n + 1) (h : k < w.length) : Mem n m r (del k w) ↔ (wsum 0 w - r - dl k w) % m = 0 := by
  have e := wsum_del h
  unfold Mem
  rw [show wsum 0 (del k w) - r = wsum 0 w - r - dl k w by omega]
  exact ⟨fun h => h.2.2, fun q => ⟨bits_del hb k, by rw [del_len k w h]; omega, q⟩⟩
end Mine

namespace Mine
open PySem PySem.Spec PyProof.Rows L2
local macro_rules | `(tactic| walk_at "wp") => `(tactic| try simp -implicitDefEqProofs only [eFld_W, eFldS_W, sSetF_W, eMeth_W, eMeth0_W, eProp_W, mkI_W, mkI0_W, eVarD_W, eDic_W, eGet1_W, eGet2_W, eAtD_W, eInD_W, eNotInD_W, sOwnD_W, sPutD_W, Bool.false_eq_true, LINE_W, line0, line1, line2, line3, line4, line5, line6, line7, line8, line9, line10, line11, line12, take_W, Int.reduceLT, Int.reduceLE, Int.reduceNeg, mkD_W, mkD0_W, sSeq_W, sAsg_W, sRet_W, sRetN_W, sIf_W, sNext_W, sDrop_W, sBreak_W, sCont_W, sOwn_W, sPar_W, sPar3_W, sFrz_W, frz_W, fz_lst, fz_dk, fz_dt, sApp_W, sExt_W, sPop_W, sPopTo_W, sPut_W, sAugP_W, sAug_W, sFor_W, sRaise_W, sRaise1_W, gD_W, gD2_W, gD3_W, eVar_W, eVarB_W, eC_W, eOp_W, eUn_W, eCB_W, eNil_W, eCons_W, eConsS_W, eConsH_W, eTup_W, eLst_W, eCall_W, eCall0_W, eTest_W, eNotT_W, eAndT_W, eOrT_W, eTru_W, dTru_non, dTru_bl, dTru_int, dTru_lst, dTru_tup, dTru_str, dTru_dk, eBool_W, eAndV_W, eOrV_W, eNotV_W, eNotVT_W, eIf_W, eChain_W, eLc_W, eLc2_W, eYes_W, eSeq_W, eRng1_W, eRng2_W, eEnum_W, eZip_W, eSl_W, ePart_W, eNoPart_W, eRev_W, eRevL_W, eDk0_W, dAdd_int, dAdd_lst, dAdd_tup, dAdd_str, dAddL_lst, dSub_int, dMul_int, dMul_lst, dMulL_lst, dMul_tup, dFdiv_int, dMod_int, dPow_int, dShl_int, dShr_int, dLe_int, dLt_int, dGt_int, dGe_int, dNeg_int, isa_seq2, isLs_lst, isLs_tup, Bool.or_false, Bool.or_true, Bool.true_or, Bool.false_or, Bool.and_true, Bool.true_and, Bool.and_false, Bool.false_and, isSeq_lst, isSeq_tup, isTp_tup, isTp_lst, isTp_non, isTp_int, isTp_str, isW_int, dIsN_W, dNotN_W, isN_non, isN_int, isN_bl, isN_str, isN_tup, isN_lst, isN_dk, isN_dt, isN_ins, dIx_W, dSl_W, dSlL_W, dLen_W, dInt_W, dStr_W, dAbs_W, dMax2_W, dMin2_W, dTupOf_W, dLstOf_W, dIsi_W, dIsi2_W, kn_int, kn_bl, kn_non, kn_str, kn_tup, kn_lst, kn_dk, kn_dt, isa_int_int, isa_int_bool, isa_tup_tup, isa_bl_bool, isa_seq_tup, isa_seq_lst, isa_int, isa_bool, isa_seq, isa_tup, isa_str, isa_lst, dEq_int, dNe_int, Dt.flat, wipeS, List.getElem?_cons_zero, List.getElem?_cons_succ, List.set_cons_zero, List.set_cons_succ, List.replicate, List.append_nil, List.cons_append, List.nil_append, List.length_cons, List.length_nil, Nat.reduceAdd, Nat.reduceSub, Nat.zero_add, Option.isSome_some, Bool.true_eq_false, Bool.false_eq_true, if_true, if_false, ite_true, ite_false, eq_self, not_true_eq_false, not_false_eq_true, true_and, and_true, decide_eq_true_eq, Bool.not_true, Bool.not_false, Bool.not_eq_true', decide_eq_false_iff_not, decide_true, decide_false, List.length_map, List.map_cons, List.map_nil, Option.some.injEq, reduceCtorEq, Bool.not_eq_eq_eq_not, eEnumK_W, eDk1_W, eXf_W, eIsX_W, sTry_W])
local macro_rules | `(tactic| walk_at "fl") => `(tactic| try simp only [bk, ftab_SumBook_length, ftab_SumBook_modulus, ftab_SumBook_rest, look_SumBook_length, look_SumBook_modulus, look_SumBook_rest, look_SumBook_has, true_and, Option.some.injEq, exists_eq_left'])
/-- what read_lost tells of a word one too short -/
def LostD (n m r : Int) (w : List Int) (d : Dt) : Prop := (n < (r - wsum 0 w) % m ∧ d = .non) ∨ ((r - wsum 0 w) % m ≤ n ∧ ∃ (b : Int) (i : Nat), (b = 0 ∨ b = 1) ∧ i ≤ w.length ∧ dv b i w = (r - wsum 0 w) % m ∧ d = iT (ins b i w))
theorem read_lost_ok {a : Dt} {n m r : Int} {Q : Dt → Prop} {E : Xc → Prop} (hk : Kn a) (hn : 0 ≤ n) (hn2 : n ≤ 200) (hm : n + 1 ≤ m) (q : ∀ w d, itemsOf a = w.map .int → Bits w → badWord 2 201 a = none → (w.length : Int) = n - 1 → LostD n m r w d → Q d)
    (h1 : ∀ i, badWord 2 201 a = some i → E ⟨"BadWord", [("index", .int i)]⟩) (h2 : badWord 2 201 a = none → ((itemsOf a).length : Int) ≠ n - 1 → E ⟨"NotOneOff", []⟩) : F_read_lost [.d (bk n m r), .d a] Q E := by
  rw [F_read_lost_eq]; unfold S_read_lost
  walk_at "wp"
  walk_at "fl"
  walk_at "wp"
  refine check_letters_of_ok hk (fun w e hw hw2 hgood hl => ?_) h1 h2
  have q := fun d => q w d e hw hgood hl
  have gw := (badWord_bits hw hw2).1
  refine place_sum_ok (kn_iT w) (fun w' e' hw' hb' => ?_) fun i h => by rw [show badWord 2 201 (iT w) = none from gw] at h; cases h
  obtain rfl : w' = w := (dts_inj2 e').symm
  walk_at "wp"
  refine ⟨by omega, ?_⟩
  have hz := Int.emod_nonneg (r - wsum 0 w') (show m ≠ 0 by omega)
  unfold LostD at q
  generalize hZ : (r - wsum 0 w') % m = z at *
  walk_at "wp"
  refine iteQ (fun c => ?_) fun c => ?_
  · have c : z ≤ n := by simpa using c
    have g2 : badWord 2 200 (iT w') = none := (badWord_bits hw (by omega)).1
    refine lifted_word_ok (kn_iT w') rfl (fun v y b i e2 hv _ ey hy0 hy1 hb hi hd => ?_) (fun i h => by rw [g2] at h; cases h) fun _ h => by
      rw [inB_int hz (by show z ≤ ((w'.map Dt.int).length : Int) + 1; rw [List.length_map]; omega)] at h; cases h
    obtain rfl : v = w' := (dts_inj2 e2).symm
    cases ey
    exact q _ (.inr ⟨c, b, i, hb, hi, hd, rfl⟩)
  · exact q _ (.inl ⟨by simpa using c, rfl⟩)
theorem drop_all : ∀ (y : List Int) (z : Int), Bits y → 0 ≤ z → z ≤ y.sum → ∃ i, i ≤ y.length ∧ (y.drop i).sum = z
  | [], z, _, h0, h1 => ⟨0, Nat.le_refl _, by simp at h1 ⊢; omega⟩
  | c :: y, z, h, h0, h1 => by
    rw [List.sum_cons] at h1
    by_cases q : z ≤ y.sum
    · obtain ⟨i, hi, e⟩ := drop_all y z h.tail h0 q
      exact ⟨i + 1, by simpa using hi, by rw [List.drop_succ_cons]; exact e⟩
    · have := h.head
      exact ⟨0, Nat.zero_le _, by rw [List.drop_zero, List.sum_cons]; omega⟩
theorem drop_all1 : ∀ (y : List Int) (z : Int), Bits y → y.sum + 1 ≤ z → z ≤ y.length + 1 → ∃ i, i ≤ y.length ∧ (i : Int) + 1 + (y.drop i).sum = z
  | [], z, _, h0, h1 => ⟨0, Nat.le_refl _, by simp at h0 h1 ⊢; omega⟩
  | c :: y, z, h, h0, h1 => by
    rw [List.sum_cons] at h0; rw [List.length_cons] at h1
    by_cases q : z = c + y.sum + 1
    · exact ⟨0, Nat.zero_le _, by rw [List.drop_zero, List.sum_cons]; omega⟩
    · obtain ⟨i, hi, e⟩ := drop_all1 y (z - 1) h.tail (by have := h.head; omega) (by omega)
      exact ⟨i + 1, by simpa using hi, by rw [List.drop_succ_cons]; omega⟩
theorem dv_all {y : List Int} {z : Int} (h : Bits y) (h0 : 0 ≤ z) (h1 : z ≤ y.length + 1) : ∃ (b : Int) (i : Nat), (b = 0 ∨ b = 1) ∧ i ≤ y.length ∧ dv b i y = z := by
  by_cases c : z ≤ y.sum
  · obtain ⟨i, hi, e⟩ := drop_all y z h h0 c
    exact ⟨0, i, .inl rfl, hi, by unfold dv; omega⟩
  · obtain ⟨i, hi, e⟩ := drop_all1 y z h (by omega) h1
    exact ⟨1, i, .inr rfl, hi, by unfold dv; omega⟩
theorem mem_ins {n m r : Int} {w : List Int} {b : Int} {i : Nat} (hb : Bits w) (hl : (w.length : Int) = n - 1) (h : b = 0 ∨ b = 1) (hi : i ≤ w.length) (hd : dv b i w = (r - wsum 0 w) % m) : Mem n m r (ins b i w) := by
  refine ⟨bits_ins hb h hi, by rw [ins_len]; omega, ?_⟩
  rw [wsum_ins0 hi, show wsum 0 w + dv b i w - r = -((r - wsum 0 w) - dv b i w) by omega, hd]
  exact Int.emod_eq_zero_of_dvd (Int.dvd_neg.mpr (Int.dvd_self_sub_of_emod_eq rfl))
theorem above_dv {n m r : Int} {u w : List Int} {k : Nat} (hm : n + 1 ≤ m) (h : Mem n m r u) (hk : k < u.length) (e : del k u = w) : dv (u.getD k 0) k w = (r - wsum 0 w) % m ∧ k ≤ w.length ∧ (u.getD k 0 = 0 ∨ u.getD k 0 = 1) ∧ ins (u.getD k 0) k w = u ∧ Bits w ∧ (w.length : Int) = n - 1 := by
  obtain ⟨hb, hl, hs⟩ := h
  have hlw : w.length + 1 = u.length := by rw [← e, del_len k u hk]; omega
  have eu : ins (u.getD k 0) k w = u := by rw [← e]; exact ins_getD k u hk
  have bw : Bits w := by rw [← e]; exact bits_del hb k
  have b01 := bits_getD hb k
  have kw : k ≤ w.length := by omega
  have d := dv_bound bw b01 kw
  have ws := wsum_ins0 (b := u.getD k 0) (i := k) (y := w) kw
  rw [eu] at ws
  refine ⟨?_, kw, b01, eu, bw, by omega⟩
  rw [ws] at hs
  have e2 : dv (u.getD k 0) k w % m = (r - wsum 0 w) % m := Int.emod_eq_emod_iff_emod_sub_eq_zero.mpr (by rw [show dv (u.getD k 0) k w - (r - wsum 0 w) = wsum 0 w + dv (u.getD k 0) k w - r by omega]; exact hs)
  rw [← e2, Int.emod_eq_of_lt d.1 (by omega)]
theorem above_inj {n m r : Int} {u v : List Int} {k j : Nat} (hm : n + 1 ≤ m) (h : Mem n m r u) (hk : k < u.length) (h2 : Mem n m r v) (hj : j < v.length) (e : del k u = del j v) : u = v := by
  obtain ⟨a1, a2, a3, a4, a5, a6⟩ := above_dv hm h hk e
  obtain ⟨b1, b2, b3, b4, b5, b6⟩ := above_dv hm h2 hj rfl
  have z := dv_inj a5 a3 b3 a2 b2 (a1.trans b1.symm)
  exact (a4.symm.trans z).trans b4
theorem lost_none {n m r : Int} {w : List Int} {d : Dt} (hb : Bits w) (hl : (w.length : Int) = n - 1) (h : ∀ u k, Mem n m r u → k < u.length → del k u ≠ w) (hd : LostD n m r w d) : d = .non := by
  rcases hd with ⟨_, e⟩ | ⟨_, b, i, h1, h2, h3, _⟩
  · exact e
  · exact absurd (del_ins b i w h2) (h _ i (mem_ins hb hl h1 h2 h3) (by rw [ins_len]; omega))
theorem lost_some {n m r : Int} {u w : List Int} {k : Nat} {d : Dt} (hm : n + 1 ≤ m) (h : Mem n m r u) (hk : k < u.length) (e : del k u = w) (hd : LostD n m r w d) : d = iT u := by
  obtain ⟨a1, a2, a3, a4, a5, a6⟩ := above_dv hm h hk e
  have b := dv_bound a5 a3 a2
  rcases hd with ⟨c, _⟩ | ⟨_, b, i, h1, h2, h3, rfl⟩
  · omega
  · rw [← dv_inj a5 a3 h1 a2 h2 (a1.trans h3.symm), a4]
theorem lost_full {n m r : Int} {w : List Int} (hb : Bits w) (hl : (w.length : Int) = n - 1) (hm : m = n + 1) (hm0 : 0 < m) : ∃ u k, Mem n m r u ∧ k < u.length ∧ del k u = w := by
  have z0 := Int.emod_nonneg (r - wsum 0 w) (show m ≠ 0 by omega)
  have z1 := Int.emod_lt_of_pos (r - wsum 0 w) hm0
  obtain ⟨b, i, h1, h2, h3⟩ := dv_all (z := (r - wsum 0 w) % m) hb z0 (by omega)
  exact ⟨_, i, mem_ins hb hl h1 h2 h3, by rw [ins_len]; omega, del_ins b i w h2⟩
end Mine

namespace Mine
open PySem PySem.Spec PyProof.Rows L2
local macro_rules | `(tactic| walk_at "wp") => `(tactic| try simp -implicitDefEqProofs only [eFld_W, eFldS_W, sSetF_W, eMeth_W, eMeth0_W, eProp_W, mkI_W, mkI0_W, eVarD_W, eDic_W, eGet1_W, eGet2_W, eAtD_W, eInD_W, eNotInD_W, sOwnD_W, sPutD_W, Bool.false_eq_true, LINE_W, line0, line1, line2, line3, line4, line5, line6, line7, line8, line9, line10, line11, line12, take_W, Int.reduceLT, Int.reduceLE, Int.reduceNeg, mkD_W, mkD0_W, sSeq_W, sAsg_W, sRet_W, sRetN_W, sIf_W, sNext_W, sDrop_W, sBreak_W, sCont_W, sOwn_W, sPar_W, sPar3_W, sFrz_W, frz_W, fz_lst, fz_dk, fz_dt, sApp_W, sExt_W, sPop_W, sPopTo_W, sPut_W, sAugP_W, sAug_W, sFor_W, sRaise_W, sRaise1_W, gD_W, gD2_W, gD3_W, eVar_W, eVarB_W, eC_W, eOp_W, eUn_W, eCB_W, eNil_W, eCons_W, eConsS_W, eConsH_W, eTup_W, eLst_W, eCall_W, eCall0_W, eTest_W, eNotT_W, eAndT_W, eOrT_W, eTru_W, dTru_non, dTru_bl, dTru_int, dTru_lst, dTru_tup, dTru_str, dTru_dk, eBool_W, eAndV_W, eOrV_W, eNotV_W, eNotVT_W, eIf_W, eChain_W, eLc_W, eLc2_W, eYes_W, eSeq_W, eRng1_W, eRng2_W, eEnum_W, eZip_W, eSl_W, ePart_W, eNoPart_W, eRev_W, eRevL_W, eDk0_W, dAdd_int, dAdd_lst, dAdd_tup, dAdd_str, dAddL_lst, dSub_int, dMul_int, dMul_lst, dMulL_lst, dMul_tup, dFdiv_int, dMod_int, dPow_int, dShl_int, dShr_int, dLe_int, dLt_int, dGt_int, dGe_int, dNeg_int, isa_seq2, isLs_lst, isLs_tup, Bool.or_false, Bool.or_true, Bool.true_or, Bool.false_or, Bool.and_true, Bool.true_and, Bool.and_false, Bool.false_and, isSeq_lst, isSeq_tup, isTp_tup, isTp_lst, isTp_non, isTp_int, isTp_str, isW_int, dIsN_W, dNotN_W, isN_non, isN_int, isN_bl, isN_str, isN_tup, isN_lst, isN_dk, isN_dt, isN_ins, dIx_W, dSl_W, dSlL_W, dLen_W, dInt_W, dStr_W, dAbs_W, dMax2_W, dMin2_W, dTupOf_W, dLstOf_W, dIsi_W, dIsi2_W, kn_int, kn_bl, kn_non, kn_str, kn_tup, kn_lst, kn_dk, kn_dt, isa_int_int, isa_int_bool, isa_tup_tup, isa_bl_bool, isa_seq_tup, isa_seq_lst, isa_int, isa_bool, isa_seq, isa_tup, isa_str, isa_lst, dEq_int, dNe_int, Dt.flat, wipeS, List.getElem?_cons_zero, List.getElem?_cons_succ, List.set_cons_zero, List.set_cons_succ, List.replicate, List.append_nil, List.cons_append, List.nil_append, List.length_cons, List.length_nil, Nat.reduceAdd, Nat.reduceSub, Nat.zero_add, Option.isSome_some, Bool.true_eq_false, Bool.false_eq_true, if_true, if_false, ite_true, ite_false, eq_self, not_true_eq_false, not_false_eq_true, true_and, and_true, decide_eq_true_eq, Bool.not_true, Bool.not_false, Bool.not_eq_true', decide_eq_false_iff_not, decide_true, decide_false, List.length_map, List.map_cons, List.map_nil, Option.some.injEq, reduceCtorEq, Bool.not_eq_eq_eq_not, eEnumK_W, eDk1_W, eXf_W, eIsX_W, sTry_W])
/-- all words of n letters below q, in their order -/
def longer (q : Nat) (u : List Int) : List (List Int) := (List.range q).map fun k : Nat => u ++ [(k : Int)]
def allW (q : Nat) : Nat → List (List Int)
  | 0 => [[]]
  | n + 1 => (allW q n).flatMap (longer q)
theorem flat_len (q : Nat) : ∀ ws : List (List Int), (ws.flatMap (longer q)).length = ws.length * q
  | [] => by simp
  | w :: ws => by
    rw [List.flatMap_cons, List.length_append, flat_len q ws, List.length_cons, Nat.add_mul]
    unfold longer
    rw [List.length_map, List.length_range]; omega
theorem allW_len (q : Nat) : ∀ n, (allW q n).length = q ^ n
  | 0 => rfl
  | n + 1 => by
    show ((allW q n).flatMap (longer q)).length = _
    rw [flat_len, allW_len q n, Nat.pow_succ]
theorem mem_allW {q : Nat} : ∀ {n : Nat} {u : List Int}, u ∈ allW q n ↔ u.length = n ∧ ∀ x ∈ u, 0 ≤ x ∧ x < q
  | 0, u => by
    show u ∈ [[]] ↔ _
    rw [List.mem_singleton]
    constructor
    · rintro rfl; exact ⟨rfl, by simp⟩
    · rintro ⟨h, _⟩; exact List.length_eq_zero_iff.mp h
  | n + 1, u => by
    show u ∈ (allW q n).flatMap (longer q) ↔ _
    rw [List.mem_flatMap]
    constructor
    · rintro ⟨w, hw, hu⟩
      obtain ⟨k, hk, rfl⟩ := List.mem_map.mp hu
      obtain ⟨h1, h2⟩ := mem_allW.mp hw
      refine ⟨by rw [List.length_append, h1]; rfl, fun x hx => ?_⟩
      rcases List.mem_append.mp hx with hx | hx
      · exact h2 x hx
      · rw [List.mem_singleton.mp hx]
        have := List.mem_range.mp hk
        omega
    · rintro ⟨h1, h2⟩
      have ne : u ≠ [] := fun e => by rw [e] at h1; cases h1
      have hl := h2 _ (List.getLast_mem ne)
      refine ⟨u.dropLast, mem_allW.mpr ⟨by rw [List.length_dropLast]; omega, fun x hx => h2 x (List.dropLast_subset u hx)⟩, List.mem_map.mpr ⟨(u.getLast ne).toNat, List.mem_range.mpr (by omega), ?_⟩⟩
      rw [Int.toNat_of_nonneg hl.1]
      exact List.dropLast_concat_getLast ne
theorem law_all_words_ok {q n : Nat} {Q : Dt → Prop} {E : Xc → Prop} (hq : 0 < q) (hq2 : q < 1000) (hn : n < 1000) (hp : q ^ n ≤ 1000000) (h : Q (.lst ((allW q n).map iT))) : F_law_all_words [.d (.int q), .d (.int n)] Q E := by
  rw [F_law_all_words_eq]; unfold S_law_all_words
  walk_at "wp"
  refine ⟨by omega, ?_⟩
  refine dFor_inv (fun i e => ∃ s3 s4 s5 s6, e = [.d (.int q), .d (.int n), .d (.lst ((allW q i).map iT)), s3, s4, s5, s6]) ⟨_, _, _, _, rfl⟩ ?_ ?_
  · rintro i x _ K B hx ⟨s3, s4, s5, s6, rfl⟩ hK
    obtain ⟨hi, rfl⟩ := rng_get hx
    have hi : i < n := by simpa using hi
    walk_at "wp"
    refine dFor_inv (fun j e => ∃ s5 s6, e = [.d (.int q), .d (.int n), .d (.lst ((allW q i).map iT)), .d (.int (i : Nat)), .d (.lst ((((allW q i).take j).flatMap (longer q)).map iT)), s5, s6]) ⟨_, _, rfl⟩ ?_ ?_
    · rintro j x _ K2 B2 hx2 ⟨s5, s6, rfl⟩ hK2
      obtain ⟨u, hu, rfl⟩ := map_get hx2
      have hlen := flat_len q ((allW q i).take (j + 1))
      have hj : j < (allW q i).length := (List.getElem?_eq_some_iff.mp hu).1
      have hle : ((allW q i).take (j + 1)).length * q ≤ q ^ n := by
        rw [List.length_take, Nat.min_eq_left (by omega)]
        rw [allW_len] at hj
        calc (j + 1) * q ≤ q ^ i * q := Nat.mul_le_mul_right q hj
          _ = q ^ (i + 1) := (Nat.pow_succ ..).symm
          _ ≤ q ^ n := Nat.pow_le_pow_right hq hi
      have hul : u.length < 1000 := by
        have := (mem_allW.mp (List.mem_of_getElem? hu)).1
        omega
      have ts : ((allW q i).take (j + 1)).flatMap (longer q) = ((allW q i).take j).flatMap (longer q) ++ longer q u := by
        rw [take_snoc hu, List.flatMap_append]; simp
      walk_at "wp"
      refine ⟨by omega, ?_⟩
      refine lc_map (fun k : Nat => Dt.int (k : Nat)) (fun k : Nat => iT (u ++ [(k : Int)])) (fun k hk K1 h1 => ?_) (by rw [List.length_range]; omega) ?_
      · walk_at "wp"
        refine ⟨by omega, ?_⟩
        rw [show (iT (u ++ [(k : Int)])) = .tup (u.map .int ++ [.int k]) by rw [iT, List.map_append]; rfl] at h1
        exact h1
      · walk_at "wp"
        have l2 : (longer q u).length = q := by unfold longer; rw [List.length_map, List.length_range]
        have l3 := congrArg List.length ts
        rw [List.length_append] at l3
        refine ⟨by rw [List.length_range]; simp only [Int.toNat_natCast]; omega, hK2 _ ⟨.d (iT u), s6, ?_⟩⟩
        rw [ts, List.map_append, show (longer q u).map iT = (List.range ((q : Int)).toNat).map fun k : Nat => iT (u ++ [(k : Int)]) by unfold longer; rw [List.map_map, Int.toNat_natCast]; rfl]
    · rintro _ ⟨s5, s6, rfl⟩
      walk_at "wp"
      rw [List.take_length]
      exact hK _ ⟨_, _, _, _, rfl⟩
  · rintro _ ⟨s3, s4, s5, s6, rfl⟩
    walk_at "wp"
    rw [List.length_range, Int.toNat_natCast]
    exact h
end Mine

namespace Mine
open PySem PySem.Spec PyProof.Rows L2
local macro_rules | `(tactic| walk_at "wp") => `(tactic| try simp -implicitDefEqProofs only [eFld_W, eFldS_W, sSetF_W, eMeth_W, eMeth0_W, eProp_W, mkI_W, mkI0_W, eVarD_W, eDic_W, eGet1_W, eGet2_W, eAtD_W, eInD_W, eNotInD_W, sOwnD_W, sPutD_W, Bool.false_eq_true, LINE_W, line0, line1, line2, line3, line4, line5, line6, line7, line8, line9, line10, line11, line12, take_W, Int.reduceLT, Int.reduceLE, Int.reduceNeg, mkD_W, mkD0_W, sSeq_W, sAsg_W, sRet_W, sRetN_W, sIf_W, sNext_W, sDrop_W, sBreak_W, sCont_W, sOwn_W, sPar_W, sPar3_W, sFrz_W, frz_W, fz_lst, fz_dk, fz_dt, sApp_W, sExt_W, sPop_W, sPopTo_W, sPut_W, sAugP_W, sAug_W, sFor_W, sRaise_W, sRaise1_W, gD_W, gD2_W, gD3_W, eVar_W, eVarB_W, eC_W, eOp_W, eUn_W, eCB_W, eNil_W, eCons_W, eConsS_W, eConsH_W, eTup_W, eLst_W, eCall_W, eCall0_W, eTest_W, eNotT_W, eAndT_W, eOrT_W, eTru_W, dTru_non, dTru_bl, dTru_int, dTru_lst, dTru_tup, dTru_str, dTru_dk, eBool_W, eAndV_W, eOrV_W, eNotV_W, eNotVT_W, eIf_W, eChain_W, eLc_W, eLc2_W, eYes_W, eSeq_W, eRng1_W, eRng2_W, eEnum_W, eZip_W, eSl_W, ePart_W, eNoPart_W, eRev_W, eRevL_W, eDk0_W, dAdd_int, dAdd_lst, dAdd_tup, dAdd_str, dAddL_lst, dSub_int, dMul_int, dMul_lst, dMulL_lst, dMul_tup, dFdiv_int, dMod_int, dPow_int, dShl_int, dShr_int, dLe_int, dLt_int, dGt_int, dGe_int, dNeg_int, isa_seq2, isLs_lst, isLs_tup, Bool.or_false, Bool.or_true, Bool.true_or, Bool.false_or, Bool.and_true, Bool.true_and, Bool.and_false, Bool.false_and, isSeq_lst, isSeq_tup, isTp_tup, isTp_lst, isTp_non, isTp_int, isTp_str, isW_int, dIsN_W, dNotN_W, isN_non, isN_int, isN_bl, isN_str, isN_tup, isN_lst, isN_dk, isN_dt, isN_ins, dIx_W, dSl_W, dSlL_W, dLen_W, dInt_W, dStr_W, dAbs_W, dMax2_W, dMin2_W, dTupOf_W, dLstOf_W, dIsi_W, dIsi2_W, kn_int, kn_bl, kn_non, kn_str, kn_tup, kn_lst, kn_dk, kn_dt, isa_int_int, isa_int_bool, isa_tup_tup, isa_bl_bool, isa_seq_tup, isa_seq_lst, isa_int, isa_bool, isa_seq, isa_tup, isa_str, isa_lst, dEq_int, dNe_int, Dt.flat, wipeS, List.getElem?_cons_zero, List.getElem?_cons_succ, List.set_cons_zero, List.set_cons_succ, List.replicate, List.append_nil, List.cons_append, List.nil_append, List.length_cons, List.length_nil, Nat.reduceAdd, Nat.reduceSub, Nat.zero_add, Option.isSome_some, Bool.true_eq_false, Bool.false_eq_true, if_true, if_false, ite_true, ite_false, eq_self, not_true_eq_false, not_false_eq_true, true_and, and_true, decide_eq_true_eq, Bool.not_true, Bool.not_false, Bool.not_eq_true', decide_eq_false_iff_not, decide_true, decide_false, List.length_map, List.map_cons, List.map_nil, Option.some.injEq, reduceCtorEq, Bool.not_eq_eq_eq_not, eEnumK_W, eDk1_W, eXf_W, eIsX_W, sTry_W])
theorem bits_allW {n : Nat} {u : List Int} : u ∈ allW 2 n ↔ u.length = n ∧ Bits u := by
  rw [mem_allW]
  refine and_congr_right fun _ => ⟨fun h x hx => ?_, fun h x hx => ?_⟩
  · have := h x hx
    have e : ((2 : Nat) : Int) = 2 := rfl
    omega
  · have e : ((2 : Nat) : Int) = 2 := rfl
    rcases h x hx with c | c <;> omega
end Mine

namespace Mine
open PySem PySem.Spec PyProof.Rows L2
local macro_rules | `(tactic| walk_at "wp") => `(tactic| try simp -implicitDefEqProofs only [eFld_W, eFldS_W, sSetF_W, eMeth_W, eMeth0_W, eProp_W, mkI_W, mkI0_W, eVarD_W, eDic_W, eGet1_W, eGet2_W, eAtD_W, eInD_W, eNotInD_W, sOwnD_W, sPutD_W, Bool.false_eq_true, LINE_W, line0, line1, line2, line3, line4, line5, line6, line7, line8, line9, line10, line11, line12, take_W, Int.reduceLT, Int.reduceLE, Int.reduceNeg, mkD_W, mkD0_W, sSeq_W, sAsg_W, sRet_W, sRetN_W, sIf_W, sNext_W, sDrop_W, sBreak_W, sCont_W, sOwn_W, sPar_W, sPar3_W, sFrz_W, frz_W, fz_lst, fz_dk, fz_dt, sApp_W, sExt_W, sPop_W, sPopTo_W, sPut_W, sAugP_W, sAug_W, sFor_W, sRaise_W, sRaise1_W, gD_W, gD2_W, gD3_W, eVar_W, eVarB_W, eC_W, eOp_W, eUn_W, eCB_W, eNil_W, eCons_W, eConsS_W, eConsH_W, eTup_W, eLst_W, eCall_W, eCall0_W, eTest_W, eNotT_W, eAndT_W, eOrT_W, eTru_W, dTru_non, dTru_bl, dTru_int, dTru_lst, dTru_tup, dTru_str, dTru_dk, eBool_W, eAndV_W, eOrV_W, eNotV_W, eNotVT_W, eIf_W, eChain_W, eLc_W, eLc2_W, eYes_W, eSeq_W, eRng1_W, eRng2_W, eEnum_W, eZip_W, eSl_W, ePart_W, eNoPart_W, eRev_W, eRevL_W, eDk0_W, dAdd_int, dAdd_lst, dAdd_tup, dAdd_str, dAddL_lst, dSub_int, dMul_int, dMul_lst, dMulL_lst, dMul_tup, dFdiv_int, dMod_int, dPow_int, dShl_int, dShr_int, dLe_int, dLt_int, dGt_int, dGe_int, dNeg_int, isa_seq2, isLs_lst, isLs_tup, Bool.or_false, Bool.or_true, Bool.true_or, Bool.false_or, Bool.and_true, Bool.true_and, Bool.and_false, Bool.false_and, isSeq_lst, isSeq_tup, isTp_tup, isTp_lst, isTp_non, isTp_int, isTp_str, isW_int, dIsN_W, dNotN_W, isN_non, isN_int, isN_bl, isN_str, isN_tup, isN_lst, isN_dk, isN_dt, isN_ins, dIx_W, dSl_W, dSlL_W, dLen_W, dInt_W, dStr_W, dAbs_W, dMax2_W, dMin2_W, dTupOf_W, dLstOf_W, dIsi_W, dIsi2_W, kn_int, kn_bl, kn_non, kn_str, kn_tup, kn_lst, kn_dk, kn_dt, isa_int_int, isa_int_bool, isa_tup_tup, isa_bl_bool, isa_seq_tup, isa_seq_lst, isa_int, isa_bool, isa_seq, isa_tup, isa_str, isa_lst, dEq_int, dNe_int, Dt.flat, wipeS, List.getElem?_cons_zero, List.getElem?_cons_succ, List.set_cons_zero, List.set_cons_succ, List.replicate, List.append_nil, List.cons_append, List.nil_append, List.length_cons, List.length_nil, Nat.reduceAdd, Nat.reduceSub, Nat.zero_add, Option.isSome_some, Bool.true_eq_false, Bool.false_eq_true, if_true, if_false, ite_true, ite_false, eq_self, not_true_eq_false, not_false_eq_true, true_and, and_true, decide_eq_true_eq, Bool.not_true, Bool.not_false, Bool.not_eq_true', decide_eq_false_iff_not, decide_true, decide_false, List.length_map, List.map_cons, List.map_nil, Option.some.injEq, reduceCtorEq, Bool.not_eq_eq_eq_not, eEnumK_W, eDk1_W, eXf_W, eIsX_W, sTry_W])
theorem law_book_of_ok {n : Nat} {Q : Dt → Prop} {E : Xc → Prop} (hn : n < 1000) (q : ∀ m r : Int, (n : Int) + 1 ≤ m → m ≤ 1000000 → 0 ≤ r → r < m → Q (.lst [.int n, .int m, .int r])) : F_law_book_of [.hand, .d (.int n)] Q E := by
  rw [F_law_book_of_eq]; unfold S_law_book_of
  walk_at "wp"
  refine ⟨by omega, fun r0 h0 => ⟨by omega, fun r1 h1 r2 h2 => ix_mem (by show r2 < 7; omega) fun d hd => ?_⟩⟩
  obtain ⟨e, rfl, e0, e1⟩ : ∃ e : Int, d = .int e ∧ 0 ≤ e ∧ e + n + 1 ≤ 1000000 := by
    simp only [List.mem_cons, List.not_mem_nil, or_false] at hd
    rcases hd with h | h | h | h | h | h | h <;> exact ⟨_, h, by omega, by omega⟩
  walk_at "wp"
  have t0 : 0 ≤ (n : Int) * (n + 1) := Int.mul_nonneg (by omega) (by omega)
  have t1 : (n : Int) * (n + 1) ≤ 1000 * 1000 := Int.mul_le_mul (by omega) (by omega) (by omega) (by omega)
  refine ⟨by unfold CMul; omega, by unfold CDiv; omega, ?_⟩
  have q := q (n + 1 + e)
  generalize (n : Int) * (n + 1) = t at *
  refine ⟨by split <;> omega, fun r3 h3 r4 h4 => iteQ (fun c => ?_) fun c => ?_⟩
  · exact ⟨by omega, fun r5 h5 => q r5 (by omega) (by omega) (by omega) h5⟩
  · exact q r3 (by omega) (by omega) (by omega) (by split at h3 <;> omega)
end Mine

namespace Mine
open PySem PySem.Spec PyProof.Rows L2
local macro_rules | `(tactic| walk_at "wp") => `(tactic| try simp -implicitDefEqProofs only [eFld_W, eFldS_W, sSetF_W, eMeth_W, eMeth0_W, eProp_W, mkI_W, mkI0_W, eVarD_W, eDic_W, eGet1_W, eGet2_W, eAtD_W, eInD_W, eNotInD_W, sOwnD_W, sPutD_W, Bool.false_eq_true, LINE_W, line0, line1, line2, line3, line4, line5, line6, line7, line8, line9, line10, line11, line12, take_W, Int.reduceLT, Int.reduceLE, Int.reduceNeg, mkD_W, mkD0_W, sSeq_W, sAsg_W, sRet_W, sRetN_W, sIf_W, sNext_W, sDrop_W, sBreak_W, sCont_W, sOwn_W, sPar_W, sPar3_W, sFrz_W, frz_W, fz_lst, fz_dk, fz_dt, sApp_W, sExt_W, sPop_W, sPopTo_W, sPut_W, sAugP_W, sAug_W, sFor_W, sRaise_W, sRaise1_W, gD_W, gD2_W, gD3_W, eVar_W, eVarB_W, eC_W, eOp_W, eUn_W, eCB_W, eNil_W, eCons_W, eConsS_W, eConsH_W, eTup_W, eLst_W, eCall_W, eCall0_W, eTest_W, eNotT_W, eAndT_W, eOrT_W, eTru_W, dTru_non, dTru_bl, dTru_int, dTru_lst, dTru_tup, dTru_str, dTru_dk, eBool_W, eAndV_W, eOrV_W, eNotV_W, eNotVT_W, eIf_W, eChain_W, eLc_W, eLc2_W, eYes_W, eSeq_W, eRng1_W, eRng2_W, eEnum_W, eZip_W, eSl_W, ePart_W, eNoPart_W, eRev_W, eRevL_W, eDk0_W, dAdd_int, dAdd_lst, dAdd_tup, dAdd_str, dAddL_lst, dSub_int, dMul_int, dMul_lst, dMulL_lst, dMul_tup, dFdiv_int, dMod_int, dPow_int, dShl_int, dShr_int, dLe_int, dLt_int, dGt_int, dGe_int, dNeg_int, isa_seq2, isLs_lst, isLs_tup, Bool.or_false, Bool.or_true, Bool.true_or, Bool.false_or, Bool.and_true, Bool.true_and, Bool.and_false, Bool.false_and, isSeq_lst, isSeq_tup, isTp_tup, isTp_lst, isTp_non, isTp_int, isTp_str, isW_int, dIsN_W, dNotN_W, isN_non, isN_int, isN_bl, isN_str, isN_tup, isN_lst, isN_dk, isN_dt, isN_ins, dIx_W, dSl_W, dSlL_W, dLen_W, dInt_W, dStr_W, dAbs_W, dMax2_W, dMin2_W, dTupOf_W, dLstOf_W, dIsi_W, dIsi2_W, kn_int, kn_bl, kn_non, kn_str, kn_tup, kn_lst, kn_dk, kn_dt, isa_int_int, isa_int_bool, isa_tup_tup, isa_bl_bool, isa_seq_tup, isa_seq_lst, isa_int, isa_bool, isa_seq, isa_tup, isa_str, isa_lst, dEq_int, dNe_int, Dt.flat, wipeS, List.getElem?_cons_zero, List.getElem?_cons_succ, List.set_cons_zero, List.set_cons_succ, List.replicate, List.append_nil, List.cons_append, List.nil_append, List.length_cons, List.length_nil, Nat.reduceAdd, Nat.reduceSub, Nat.zero_add, Option.isSome_some, Bool.true_eq_false, Bool.false_eq_true, if_true, if_false, ite_true, ite_false, eq_self, not_true_eq_false, not_false_eq_true, true_and, and_true, decide_eq_true_eq, Bool.not_true, Bool.not_false, Bool.not_eq_true', decide_eq_false_iff_not, decide_true, decide_false, List.length_map, List.map_cons, List.map_nil, Option.some.injEq, reduceCtorEq, Bool.not_eq_eq_eq_not, eEnumK_W, eDk1_W, eXf_W, eIsX_W, sTry_W])
theorem law_is_word_ok {w : List Int} {n : Int} {Q : Dt → Prop} {E : Xc → Prop} (hb : Bits w) (hl : w.length < 1000) (hn : (w.length : Int) = n) (q : Q (.bl true)) : F_law_is_word [.d (iT w), .d (.int n)] Q E := by
  rw [F_law_is_word_eq]; unfold S_law_is_word
  walk_at "wp"
  rw [if_neg fun c => c hn]
  refine lc_map (e := Dt.int) (fun _ => Dt.bl true) (fun x hx K hK => ?_) (by omega) ?_
  · have := hb x hx
    walk_at "wp"
    refine law_whole_ok rfl ?_
    walk_at "wp"
    rw [if_pos (by omega), decide_eq_true (by omega)]
    exact hK
  · unfold dAll
    refine ⟨w.map fun _ => true, by rw [List.map_map]; rfl, ?_⟩
    rw [show (w.map fun _ => true).all id = true by simp]
    exact q
end Mine

namespace Mine
open PySem PySem.Spec PyProof.Rows L2
local macro_rules | `(tactic| walk_at "wp") => `(tactic| try simp -implicitDefEqProofs only [eFld_W, eFldS_W, sSetF_W, eMeth_W, eMeth0_W, eProp_W, mkI_W, mkI0_W, eVarD_W, eDic_W, eGet1_W, eGet2_W, eAtD_W, eInD_W, eNotInD_W, sOwnD_W, sPutD_W, Bool.false_eq_true, LINE_W, line0, line1, line2, line3, line4, line5, line6, line7, line8, line9, line10, line11, line12, take_W, Int.reduceLT, Int.reduceLE, Int.reduceNeg, mkD_W, mkD0_W, sSeq_W, sAsg_W, sRet_W, sRetN_W, sIf_W, sNext_W, sDrop_W, sBreak_W, sCont_W, sOwn_W, sPar_W, sPar3_W, sFrz_W, frz_W, fz_lst, fz_dk, fz_dt, sApp_W, sExt_W, sPop_W, sPopTo_W, sPut_W, sAugP_W, sAug_W, sFor_W, sRaise_W, sRaise1_W, gD_W, gD2_W, gD3_W, eVar_W, eVarB_W, eC_W, eOp_W, eUn_W, eCB_W, eNil_W, eCons_W, eConsS_W, eConsH_W, eTup_W, eLst_W, eCall_W, eCall0_W, eTest_W, eNotT_W, eAndT_W, eOrT_W, eTru_W, dTru_non, dTru_bl, dTru_int, dTru_lst, dTru_tup, dTru_str, dTru_dk, eBool_W, eAndV_W, eOrV_W, eNotV_W, eNotVT_W, eIf_W, eChain_W, eLc_W, eLc2_W, eYes_W, eSeq_W, eRng1_W, eRng2_W, eEnum_W, eZip_W, eSl_W, ePart_W, eNoPart_W, eRev_W, eRevL_W, eDk0_W, dAdd_int, dAdd_lst, dAdd_tup, dAdd_str, dAddL_lst, dSub_int, dMul_int, dMul_lst, dMulL_lst, dMul_tup, dFdiv_int, dMod_int, dPow_int, dShl_int, dShr_int, dLe_int, dLt_int, dGt_int, dGe_int, dNeg_int, isa_seq2, isLs_lst, isLs_tup, Bool.or_false, Bool.or_true, Bool.true_or, Bool.false_or, Bool.and_true, Bool.true_and, Bool.and_false, Bool.false_and, isSeq_lst, isSeq_tup, isTp_tup, isTp_lst, isTp_non, isTp_int, isTp_str, isW_int, dIsN_W, dNotN_W, isN_non, isN_int, isN_bl, isN_str, isN_tup, isN_lst, isN_dk, isN_dt, isN_ins, dIx_W, dSl_W, dSlL_W, dLen_W, dInt_W, dStr_W, dAbs_W, dMax2_W, dMin2_W, dTupOf_W, dLstOf_W, dIsi_W, dIsi2_W, kn_int, kn_bl, kn_non, kn_str, kn_tup, kn_lst, kn_dk, kn_dt, isa_int_int, isa_int_bool, isa_tup_tup, isa_bl_bool, isa_seq_tup, isa_seq_lst, isa_int, isa_bool, isa_seq, isa_tup, isa_str, isa_lst, dEq_int, dNe_int, Dt.flat, wipeS, List.getElem?_cons_zero, List.getElem?_cons_succ, List.set_cons_zero, List.set_cons_succ, List.replicate, List.append_nil, List.cons_append, List.nil_append, List.length_cons, List.length_nil, Nat.reduceAdd, Nat.reduceSub, Nat.zero_add, Option.isSome_some, Bool.true_eq_false, Bool.false_eq_true, if_true, if_false, ite_true, ite_false, eq_self, not_true_eq_false, not_false_eq_true, true_and, and_true, decide_eq_true_eq, Bool.not_true, Bool.not_false, Bool.not_eq_true', decide_eq_false_iff_not, decide_true, decide_false, List.length_map, List.map_cons, List.map_nil, Option.some.injEq, reduceCtorEq, Bool.not_eq_eq_eq_not, eEnumK_W, eDk1_W, eXf_W, eIsX_W, sTry_W])
theorem law_is_below_ok {u v : List Int} {Q : Dt → Prop} {E : Xc → Prop} (h : u.Sublist v) (q : Q (.bl true)) : F_law_is_below [.d (iT u), .d (iT v)] Q E := by
  rw [F_law_is_below_eq]; unfold S_law_is_below
  walk_at "wp"
  refine dFor_inv (fun i e => ∃ (a : Nat) (s3 : Sl), e = [.d (iT u), .d (iT v), .d (.int a), s3] ∧ a ≤ u.length ∧ (u.drop a).Sublist (v.drop i)) ⟨0, _, rfl, Nat.zero_le _, h⟩ ?_ ?_
  · rintro i x _ K B hx ⟨a, s3, rfl, ha, hs⟩ hK
    obtain ⟨c, hc, rfl⟩ := map_get hx
    obtain ⟨hi, ec⟩ := List.getElem?_eq_some_iff.mp hc
    rw [List.drop_eq_getElem_cons hi, ec] at hs
    walk_at "wp"
    refine iteQ (fun h1 => ?_) fun h1 => hK _ ⟨a, _, rfl, ha, ?_⟩
    · have h1 : a < u.length := by omega
      refine ix_map (n := a) rfl h1 ?_
      rw [dEq_int]
      walk_at "wp"
      rw [List.drop_eq_getElem_cons h1] at hs
      refine iteQ (fun h2 => ?_) fun h2 => hK _ ⟨a, _, rfl, ha, ?_⟩
      · have h2 : u[a] = c := by simpa using h2
        rw [h2] at hs
        exact hK _ ⟨a + 1, _, rfl, h1, List.cons_sublist_cons.mp hs⟩
      · have h2 : u[a] ≠ c := by simpa using h2
        rw [List.drop_eq_getElem_cons h1]
        rcases List.sublist_cons_iff.mp hs with z | ⟨r, z, _⟩
        · exact z
        · exact absurd (by injection z) h2
    · rw [List.drop_of_length_le (by omega)]; exact List.nil_sublist _
  · rintro _ ⟨a, s3, rfl, ha, hs⟩
    rw [List.length_map, List.drop_length] at hs
    have := List.drop_eq_nil_iff.mp (List.sublist_nil.mp hs)
    walk_at "wp"
    rw [decide_eq_true (by omega)]
    exact q
end Mine

namespace Mine
open PySem PySem.Spec PyProof.Rows L2
local macro_rules | `(tactic| walk_at "wp") => `(tactic| try simp -implicitDefEqProofs only [eFld_W, eFldS_W, sSetF_W, eMeth_W, eMeth0_W, eProp_W, mkI_W, mkI0_W, eVarD_W, eDic_W, eGet1_W, eGet2_W, eAtD_W, eInD_W, eNotInD_W, sOwnD_W, sPutD_W, Bool.false_eq_true, LINE_W, line0, line1, line2, line3, line4, line5, line6, line7, line8, line9, line10, line11, line12, take_W, Int.reduceLT, Int.reduceLE, Int.reduceNeg, mkD_W, mkD0_W, sSeq_W, sAsg_W, sRet_W, sRetN_W, sIf_W, sNext_W, sDrop_W, sBreak_W, sCont_W, sOwn_W, sPar_W, sPar3_W, sFrz_W, frz_W, fz_lst, fz_dk, fz_dt, sApp_W, sExt_W, sPop_W, sPopTo_W, sPut_W, sAugP_W, sAug_W, sFor_W, sRaise_W, sRaise1_W, gD_W, gD2_W, gD3_W, eVar_W, eVarB_W, eC_W, eOp_W, eUn_W, eCB_W, eNil_W, eCons_W, eConsS_W, eConsH_W, eTup_W, eLst_W, eCall_W, eCall0_W, eTest_W, eNotT_W, eAndT_W, eOrT_W, eTru_W, dTru_non, dTru_bl, dTru_int, dTru_lst, dTru_tup, dTru_str, dTru_dk, eBool_W, eAndV_W, eOrV_W, eNotV_W, eNotVT_W, eIf_W, eChain_W, eLc_W, eLc2_W, eYes_W, eSeq_W, eRng1_W, eRng2_W, eEnum_W, eZip_W, eSl_W, ePart_W, eNoPart_W, eRev_W, eRevL_W, eDk0_W, dAdd_int, dAdd_lst, dAdd_tup, dAdd_str, dAddL_lst, dSub_int, dMul_int, dMul_lst, dMulL_lst, dMul_tup, dFdiv_int, dMod_int, dPow_int, dShl_int, dShr_int, dLe_int, dLt_int, dGt_int, dGe_int, dNeg_int, isa_seq2, isLs_lst, isLs_tup, Bool.or_false, Bool.or_true, Bool.true_or, Bool.false_or, Bool.and_true, Bool.true_and, Bool.and_false, Bool.false_and, isSeq_lst, isSeq_tup, isTp_tup, isTp_lst, isTp_non, isTp_int, isTp_str, isW_int, dIsN_W, dNotN_W, isN_non, isN_int, isN_bl, isN_str, isN_tup, isN_lst, isN_dk, isN_dt, isN_ins, dIx_W, dSl_W, dSlL_W, dLen_W, dInt_W, dStr_W, dAbs_W, dMax2_W, dMin2_W, dTupOf_W, dLstOf_W, dIsi_W, dIsi2_W, kn_int, kn_bl, kn_non, kn_str, kn_tup, kn_lst, kn_dk, kn_dt, isa_int_int, isa_int_bool, isa_tup_tup, isa_bl_bool, isa_seq_tup, isa_seq_lst, isa_int, isa_bool, isa_seq, isa_tup, isa_str, isa_lst, dEq_int, dNe_int, Dt.flat, wipeS, List.getElem?_cons_zero, List.getElem?_cons_succ, List.set_cons_zero, List.set_cons_succ, List.replicate, List.append_nil, List.cons_append, List.nil_append, List.length_cons, List.length_nil, Nat.reduceAdd, Nat.reduceSub, Nat.zero_add, Option.isSome_some, Bool.true_eq_false, Bool.false_eq_true, if_true, if_false, ite_true, ite_false, eq_self, not_true_eq_false, not_false_eq_true, true_and, and_true, decide_eq_true_eq, Bool.not_true, Bool.not_false, Bool.not_eq_true', decide_eq_false_iff_not, decide_true, decide_false, List.length_map, List.map_cons, List.map_nil, Option.some.injEq, reduceCtorEq, Bool.not_eq_eq_eq_not, eEnumK_W, eDk1_W, eXf_W, eIsX_W, sTry_W])
theorem iT_sh (w : List Int) : (iT w).sh := (shN_tup (n := 0) fun x hx => by obtain ⟨i, _, rfl⟩ := List.mem_map.mp hx; exact shN_int i).sh
end Mine

namespace Mine
open PySem PySem.Spec PyProof.Rows L2
local macro_rules | `(tactic| walk_at "wp") => `(tactic| try simp -implicitDefEqProofs only [eFld_W, eFldS_W, sSetF_W, eMeth_W, eMeth0_W, eProp_W, mkI_W, mkI0_W, eVarD_W, eDic_W, eGet1_W, eGet2_W, eAtD_W, eInD_W, eNotInD_W, sOwnD_W, sPutD_W, Bool.false_eq_true, LINE_W, line0, line1, line2, line3, line4, line5, line6, line7, line8, line9, line10, line11, line12, take_W, Int.reduceLT, Int.reduceLE, Int.reduceNeg, mkD_W, mkD0_W, sSeq_W, sAsg_W, sRet_W, sRetN_W, sIf_W, sNext_W, sDrop_W, sBreak_W, sCont_W, sOwn_W, sPar_W, sPar3_W, sFrz_W, frz_W, fz_lst, fz_dk, fz_dt, sApp_W, sExt_W, sPop_W, sPopTo_W, sPut_W, sAugP_W, sAug_W, sFor_W, sRaise_W, sRaise1_W, gD_W, gD2_W, gD3_W, eVar_W, eVarB_W, eC_W, eOp_W, eUn_W, eCB_W, eNil_W, eCons_W, eConsS_W, eConsH_W, eTup_W, eLst_W, eCall_W, eCall0_W, eTest_W, eNotT_W, eAndT_W, eOrT_W, eTru_W, dTru_non, dTru_bl, dTru_int, dTru_lst, dTru_tup, dTru_str, dTru_dk, eBool_W, eAndV_W, eOrV_W, eNotV_W, eNotVT_W, eIf_W, eChain_W, eLc_W, eLc2_W, eYes_W, eSeq_W, eRng1_W, eRng2_W, eEnum_W, eZip_W, eSl_W, ePart_W, eNoPart_W, eRev_W, eRevL_W, eDk0_W, dAdd_int, dAdd_lst, dAdd_tup, dAdd_str, dAddL_lst, dSub_int, dMul_int, dMul_lst, dMulL_lst, dMul_tup, dFdiv_int, dMod_int, dPow_int, dShl_int, dShr_int, dLe_int, dLt_int, dGt_int, dGe_int, dNeg_int, isa_seq2, isLs_lst, isLs_tup, Bool.or_false, Bool.or_true, Bool.true_or, Bool.false_or, Bool.and_true, Bool.true_and, Bool.and_false, Bool.false_and, isSeq_lst, isSeq_tup, isTp_tup, isTp_lst, isTp_non, isTp_int, isTp_str, isW_int, dIsN_W, dNotN_W, isN_non, isN_int, isN_bl, isN_str, isN_tup, isN_lst, isN_dk, isN_dt, isN_ins, dIx_W, dSl_W, dSlL_W, dLen_W, dInt_W, dStr_W, dAbs_W, dMax2_W, dMin2_W, dTupOf_W, dLstOf_W, dIsi_W, dIsi2_W, kn_int, kn_bl, kn_non, kn_str, kn_tup, kn_lst, kn_dk, kn_dt, isa_int_int, isa_int_bool, isa_tup_tup, isa_bl_bool, isa_seq_tup, isa_seq_lst, isa_int, isa_bool, isa_seq, isa_tup, isa_str, isa_lst, dEq_int, dNe_int, Dt.flat, wipeS, List.getElem?_cons_zero, List.getElem?_cons_succ, List.set_cons_zero, List.set_cons_succ, List.replicate, List.append_nil, List.cons_append, List.nil_append, List.length_cons, List.length_nil, Nat.reduceAdd, Nat.reduceSub, Nat.zero_add, Option.isSome_some, Bool.true_eq_false, Bool.false_eq_true, if_true, if_false, ite_true, ite_false, eq_self, not_true_eq_false, not_false_eq_true, true_and, and_true, decide_eq_true_eq, Bool.not_true, Bool.not_false, Bool.not_eq_true', decide_eq_false_iff_not, decide_true, decide_false, List.length_map, List.map_cons, List.map_nil, Option.some.injEq, reduceCtorEq, Bool.not_eq_eq_eq_not, eEnumK_W, eDk1_W, eXf_W, eIsX_W, sTry_W])
/-- the table word with a letter less -> word, of the losses in D -/
def Met (ks : List (List Key)) (ds : List Dt) (D : List Int → Nat → Prop) : Prop := ∀ y : List Int, (valD ks ds (y.map .inl) = none ∧ ∀ u k, D u k → del k u ≠ y) ∨
  ∃ u k, valD ks ds (y.map .inl) = some (iT u) ∧ D u k ∧ del k u = y ∧ ∀ v j, D v j → del j v = y → v = u
theorem Met.congr {ks : List (List Key)} {ds : List Dt} {D D' : List Int → Nat → Prop} (h : Met ks ds D) (e : ∀ u k, D u k ↔ D' u k) : Met ks ds D' := by
  have : D = D' := funext fun u => funext fun k => propext (e u k)
  rw [← this]; exact h
theorem Met.put {ks : List (List Key)} {ds : List Dt} {D : List Int → Nat → Prop} {u : List Int} {j : Nat} (h : Met ks ds D) (hl : ks.length = ds.length) (hu : ∀ v k, D v k → del k v = del j u → v = u) :
    Met (putKs ks ((del j u).map .inl)) (putVs ks ds ((del j u).map .inl) (iT u)) fun v k => D v k ∨ (v = u ∧ k = j) := by
  intro y
  rw [valD_put hl]
  by_cases c : y = del j u
  · subst c
    rw [if_pos rfl]
    refine .inr ⟨u, j, rfl, .inr ⟨rfl, rfl⟩, rfl, ?_⟩
    rintro v k (d | ⟨rfl, _⟩) e
    · exact hu v k d e
    · rfl
  · rw [if_neg fun e => c (inl_inj.mp e)]
    rcases h y with ⟨e, hn⟩ | ⟨u', k', e, d1, d2, d3⟩
    · refine .inl ⟨e, ?_⟩
      rintro v k (d | ⟨rfl, rfl⟩)
      · exact hn v k d
      · exact fun z => c z.symm
    · refine .inr ⟨u', k', e, .inl d1, d2, ?_⟩
      rintro v k (d | ⟨rfl, rfl⟩) z
      · exact d3 v k d z
      · exact absurd z.symm c
theorem cat_del71 {w : List Int} {a : Nat} : cutG (w.map Dt.int) none (some (a : Int)) ++ cutG (w.map Dt.int) (some ((a : Int) + 1)) none = (del a w).map Dt.int := cat_del rfl rfl
theorem law_has_clash_ok {n : Nat} {m r : Int} {Q : Dt → Prop} {E : Xc → Prop} (hn : n < 15) (hm : 0 < m)
    (h1 : ∀ u v k j, Mem n m r u → Mem n m r v → k < n → j < n → del k u = del j v → u ≠ v → Q (.bl true))
    (h0 : (∀ u v k j, Mem n m r u → Mem n m r v → k < n → j < n → del k u = del j v → u = v) → Q (.bl false)) : F_law_has_clash [.d (.int n), .d (.int m), .d (.int r)] Q E := by
  rw [F_law_has_clash_eq]; unfold S_law_has_clash
  walk_at "wp"
  have hp : 2 ^ n ≤ 100000 := Nat.le_trans (Nat.pow_le_pow_right (by decide) (show n ≤ 16 by omega)) (by decide)
  refine law_all_words_ok (q := 2) (by decide) (by decide) (by omega) (by omega) ?_
  walk_at "wp"
  have hlen := allW_len 2 n
  refine dFor_inv (fun i e => ∃ ks ds s4 s5 s6, e = [.d (.int n), .d (.int m), .d (.int r), .own (.dt ks ds), s4, s5, s6] ∧ ks.Nodup ∧ ks.length = ds.length ∧ ks.length ≤ i * n ∧ Met ks ds fun v k => (v ∈ (allW 2 n).take i ∧ Mem n m r v) ∧ k < n) ⟨[], [], _, _, _, rfl, List.nodup_nil, rfl, Nat.zero_le _, fun y => .inl ⟨rfl, fun u k h => by simp at h⟩⟩ ?_ ?_
  · rintro i x _ K B hx ⟨ks, ds, s4, s5, s6, rfl, q1, q2, q3, q4⟩ hK
    obtain ⟨u, hu, rfl⟩ := map_get hx
    have um := List.mem_of_getElem? hu
    have hi : i < (allW 2 n).length := (List.getElem?_eq_some_iff.mp hu).1
    obtain ⟨ul, ub⟩ := bits_allW.mp um
    have tk := take_snoc hu
    walk_at "wp"
    refine law_sum_ok ub (by omega) ?_
    walk_at "wp"
    refine ⟨hm, ?_⟩
    walk_at "wp"
    refine iteQ (fun c => ?_) fun c => ?_
    · have mu : Mem n m r u := ⟨ub, by omega, c⟩
      refine ⟨by omega, ?_⟩
      refine dFor_inv (fun j e => ∃ ks ds s5 s6, e = [.d (.int n), .d (.int m), .d (.int r), .own (.dt ks ds), .d (iT u), s5, s6] ∧ ks.Nodup ∧ ks.length = ds.length ∧ ks.length ≤ i * n + j ∧ Met ks ds fun v k => ((v ∈ (allW 2 n).take i ∧ Mem n m r v) ∧ k < n) ∨ (v = u ∧ k < j)) ⟨ks, ds, _, _, rfl, q1, q2, q3, q4.congr fun v k => ⟨.inl, fun h => h.elim id fun z => absurd z.2 (Nat.not_lt_zero _)⟩⟩ ?_ ?_
      · rintro j x _ K2 B2 hx2 ⟨ks, ds, s5, s6, rfl, q1, q2, q3, q4⟩ hK2
        obtain ⟨hj, rfl⟩ := rng_get hx2
        have hj : j < n := by simpa using hj
        walk_at "wp"
        have l1 := cut_len (xs := u.map Dt.int) none (some (j : Int))
        have l2 := cut_len (xs := u.map Dt.int) (some ((j : Int) + 1)) none
        rw [List.length_map] at l1 l2
        refine ⟨by omega, ?_⟩
        rw [cat_del71]
        walk_at "wp"
        refine ⟨rfl, _, _, rfl, get_dt, ?_⟩
        have hkl : ks.length < 16777216 := by
          have : i * n ≤ 100000 * 15 := Nat.mul_le_mul (by omega) (by omega)
          omega
        have fin : (∀ v k, ((v ∈ (allW 2 n).take i ∧ Mem n m r v) ∧ k < n) ∨ (v = u ∧ k < j) → del k v = del j u → v = u) → (Ow.dt ks ds).keysN ∧ ∃ w', (Ow.dt ks ds).put (.tup ((del j u).map .int)) (iT u) = some w' ∧ K2 [.d (.int n), .d (.int m), .d (.int r), .own w', .d (iT u), .d (.int j), .d (iT (del j u))] := fun h =>
          ⟨⟨q1, hkl⟩, _, put_dt, hK2 _ ⟨_, _, _, _, rfl, putKs_nodup q1, put_len q2, Nat.le_trans putKs_len (by omega), (q4.put q2 h).congr fun v k => ⟨fun h => by
            rcases h with (h | ⟨h, h'⟩) | ⟨h, h'⟩
            · exact .inl h
            · exact .inr ⟨h, by omega⟩
            · exact .inr ⟨h, by omega⟩, fun h => by
            rcases h with h | ⟨h, h'⟩
            · exact .inl (.inl h)
            · by_cases z : k = j
              · exact .inr ⟨h, z⟩
              · exact .inl (.inr ⟨h, by omega⟩)⟩⟩⟩
        rcases q4 (del j u) with ⟨e, hno⟩ | ⟨u', k', e, d1, d2, d3⟩
        · rw [e]
          dsimp only [Option.getD]
          refine dNe_self (iT_sh u) ?_
          walk_at "wp"
          exact fin fun v k d z => absurd z (hno v k d)
        · rw [e]
          dsimp only [Option.getD]
          refine eqE_T.dNe ?_
          walk_at "wp"
          by_cases z : u' = u
          · rw [if_neg fun h => h z]
            subst z
            exact fin fun v k d y => d3 v k d y
          · rw [if_pos z]
            rcases d1 with ⟨⟨_, m'⟩, k1⟩ | ⟨h, _⟩
            · exact h1 u' u k' j m' mu k1 hj d2 z
            · exact absurd h z
      · rintro _ ⟨ks, ds, s5, s6, rfl, q1, q2, q3, q4⟩
        refine hK _ ⟨ks, ds, _, _, _, rfl, q1, q2, ?_, q4.congr fun v k => ?_⟩
        · rw [List.length_map, List.length_range] at q3
          rw [Nat.add_mul]; omega
        · rw [List.length_map, List.length_range, tk, List.mem_append, List.mem_singleton]
          constructor
          · rintro (h | ⟨h, h'⟩)
            · exact ⟨⟨.inl h.1.1, h.1.2⟩, h.2⟩
            · exact ⟨⟨.inr h, by rw [h]; exact mu⟩, by omega⟩
          · rintro ⟨⟨h | h, h'⟩, h2⟩
            · exact .inl ⟨⟨h, h'⟩, h2⟩
            · exact .inr ⟨h, by omega⟩
    · refine hK _ ⟨ks, ds, _, _, _, rfl, q1, q2, by rw [Nat.add_mul]; omega, q4.congr fun v k => ?_⟩
      rw [tk, List.mem_append, List.mem_singleton]
      constructor
      · rintro ⟨⟨h, h'⟩, h2⟩
        exact ⟨⟨.inl h, h'⟩, h2⟩
      · rintro ⟨⟨h | h, h'⟩, h2⟩
        · exact ⟨⟨h, h'⟩, h2⟩
        · subst h
          exact absurd h'.2.2 c
  · rintro _ ⟨ks, ds, s4, s5, s6, rfl, q1, q2, q3, q4⟩
    walk_at "wp"
    rw [List.length_map, List.take_length] at q4
    refine h0 fun u v k j mu mv hk hj e => ?_
    have inn : ∀ u, Mem n m r u → u ∈ allW 2 n := fun u h => bits_allW.mpr ⟨by have := h.2.1; omega, h.1⟩
    rcases q4 (del k u) with ⟨_, hno⟩ | ⟨x, _, _, _, _, d3⟩
    · exact absurd rfl (hno u k ⟨⟨inn u mu, mu⟩, hk⟩)
    · exact (d3 u k ⟨⟨inn u mu, mu⟩, hk⟩ rfl).trans (d3 v j ⟨⟨inn v mv, mv⟩, hj⟩ e.symm).symm
end Mine

namespace Mine
open PySem PySem.Spec PyProof.Rows L2
local macro_rules | `(tactic| walk_at "wp") => `(tactic| try simp -implicitDefEqProofs only [eFld_W, eFldS_W, sSetF_W, eMeth_W, eMeth0_W, eProp_W, mkI_W, mkI0_W, eVarD_W, eDic_W, eGet1_W, eGet2_W, eAtD_W, eInD_W, eNotInD_W, sOwnD_W, sPutD_W, Bool.false_eq_true, LINE_W, line0, line1, line2, line3, line4, line5, line6, line7, line8, line9, line10, line11, line12, take_W, Int.reduceLT, Int.reduceLE, Int.reduceNeg, mkD_W, mkD0_W, sSeq_W, sAsg_W, sRet_W, sRetN_W, sIf_W, sNext_W, sDrop_W, sBreak_W, sCont_W, sOwn_W, sPar_W, sPar3_W, sFrz_W, frz_W, fz_lst, fz_dk, fz_dt, sApp_W, sExt_W, sPop_W, sPopTo_W, sPut_W, sAugP_W, sAug_W, sFor_W, sRaise_W, sRaise1_W, gD_W, gD2_W, gD3_W, eVar_W, eVarB_W, eC_W, eOp_W, eUn_W, eCB_W, eNil_W, eCons_W, eConsS_W, eConsH_W, eTup_W, eLst_W, eCall_W, eCall0_W, eTest_W, eNotT_W, eAndT_W, eOrT_W, eTru_W, dTru_non, dTru_bl, dTru_int, dTru_lst, dTru_tup, dTru_str, dTru_dk, eBool_W, eAndV_W, eOrV_W, eNotV_W, eNotVT_W, eIf_W, eChain_W, eLc_W, eLc2_W, eYes_W, eSeq_W, eRng1_W, eRng2_W, eEnum_W, eZip_W, eSl_W, ePart_W, eNoPart_W, eRev_W, eRevL_W, eDk0_W, dAdd_int, dAdd_lst, dAdd_tup, dAdd_str, dAddL_lst, dSub_int, dMul_int, dMul_lst, dMulL_lst, dMul_tup, dFdiv_int, dMod_int, dPow_int, dShl_int, dShr_int, dLe_int, dLt_int, dGt_int, dGe_int, dNeg_int, isa_seq2, isLs_lst, isLs_tup, Bool.or_false, Bool.or_true, Bool.true_or, Bool.false_or, Bool.and_true, Bool.true_and, Bool.and_false, Bool.false_and, isSeq_lst, isSeq_tup, isTp_tup, isTp_lst, isTp_non, isTp_int, isTp_str, isW_int, dIsN_W, dNotN_W, isN_non, isN_int, isN_bl, isN_str, isN_tup, isN_lst, isN_dk, isN_dt, isN_ins, dIx_W, dSl_W, dSlL_W, dLen_W, dInt_W, dStr_W, dAbs_W, dMax2_W, dMin2_W, dTupOf_W, dLstOf_W, dIsi_W, dIsi2_W, kn_int, kn_bl, kn_non, kn_str, kn_tup, kn_lst, kn_dk, kn_dt, isa_int_int, isa_int_bool, isa_tup_tup, isa_bl_bool, isa_seq_tup, isa_seq_lst, isa_int, isa_bool, isa_seq, isa_tup, isa_str, isa_lst, dEq_int, dNe_int, Dt.flat, wipeS, List.getElem?_cons_zero, List.getElem?_cons_succ, List.set_cons_zero, List.set_cons_succ, List.replicate, List.append_nil, List.cons_append, List.nil_append, List.length_cons, List.length_nil, Nat.reduceAdd, Nat.reduceSub, Nat.zero_add, Option.isSome_some, Bool.true_eq_false, Bool.false_eq_true, if_true, if_false, ite_true, ite_false, eq_self, not_true_eq_false, not_false_eq_true, true_and, and_true, decide_eq_true_eq, Bool.not_true, Bool.not_false, Bool.not_eq_true', decide_eq_false_iff_not, decide_true, decide_false, List.length_map, List.map_cons, List.map_nil, Option.some.injEq, reduceCtorEq, Bool.not_eq_eq_eq_not, eEnumK_W, eDk1_W, eXf_W, eIsX_W, sTry_W])
theorem wsum_snoc : ∀ (o : Nat) (u : List Int) (x : Int), wsum o (u ++ [x]) = wsum o u + ((o : Int) + u.length + 1) * x
  | o, [], x => by
    show ((o : Int) + 1) * x + 0 = 0 + _
    simp
  | o, c :: u, x => by
    show ((o : Int) + 1) * c + wsum (o + 1) (u ++ [x]) = ((o : Int) + 1) * c + wsum (o + 1) u + _
    rw [wsum_snoc (o + 1) u x, List.length_cons]
    have : (((o + 1 : Nat) : Int) + u.length + 1) = ((o : Int) + ((u.length + 1 : Nat) : Int) + 1) := by omega
    rw [this]; omega
/-- the sum of (k + 1) * f k, k below n -/
def wfun (f : Nat → Int) : Nat → Int
  | 0 => 0
  | n + 1 => wfun f n + ((n : Int) + 1) * f n
theorem wsum_map (f : Nat → Int) : ∀ n, wsum 0 ((List.range n).map f) = wfun f n
  | 0 => rfl
  | n + 1 => by
    rw [List.range_succ, List.map_append, List.map_cons, List.map_nil, wsum_snoc, wsum_map f n, List.length_map, List.length_range]
    show _ = wfun f n + ((n : Int) + 1) * f n
    rw [show (((0 : Nat) : Int) + (n : Int) + 1) = (n : Int) + 1 by omega]
theorem wfun_congr {f g : Nat → Int} : ∀ n, (∀ k, k < n → f k = g k) → wfun f n = wfun g n
  | 0, _ => rfl
  | n + 1, h => by
    show wfun f n + _ = wfun g n + _
    rw [wfun_congr n fun k hk => h k (by omega), h n (by omega)]
/-- one place more -/
theorem wfun_put {f g : Nat → Int} {p : Nat} (hp : g p = f p + 1) (h : ∀ k, k ≠ p → g k = f k) : ∀ n, wfun g n = wfun f n + if p < n then (p : Int) + 1 else 0
  | 0 => by simp [wfun]
  | n + 1 => by
    show wfun g n + ((n : Int) + 1) * g n = wfun f n + ((n : Int) + 1) * f n + _
    rw [wfun_put hp h n]
    by_cases c : n = p
    · subst c
      rw [hp, if_neg (by omega), if_pos (by omega), Int.mul_add, Int.mul_one]; omega
    · rw [h n c]
      by_cases c2 : p < n
      · rw [if_pos c2, if_pos (by omega)]; omega
      · rw [if_neg c2, if_neg (by omega)]; omega
theorem wfun_zero : ∀ n, wfun (fun _ => 0) n = 0
  | 0 => rfl
  | n + 1 => by
    show wfun (fun _ => 0) n + ((n : Int) + 1) * 0 = 0
    rw [wfun_zero n]; simp
end Mine

namespace Mine
open PySem PySem.Spec PyProof.Rows L2
local macro_rules | `(tactic| walk_at "wp") => `(tactic| try simp -implicitDefEqProofs only [eFld_W, eFldS_W, sSetF_W, eMeth_W, eMeth0_W, eProp_W, mkI_W, mkI0_W, eVarD_W, eDic_W, eGet1_W, eGet2_W, eAtD_W, eInD_W, eNotInD_W, sOwnD_W, sPutD_W, Bool.false_eq_true, LINE_W, line0, line1, line2, line3, line4, line5, line6, line7, line8, line9, line10, line11, line12, take_W, Int.reduceLT, Int.reduceLE, Int.reduceNeg, mkD_W, mkD0_W, sSeq_W, sAsg_W, sRet_W, sRetN_W, sIf_W, sNext_W, sDrop_W, sBreak_W, sCont_W, sOwn_W, sPar_W, sPar3_W, sFrz_W, frz_W, fz_lst, fz_dk, fz_dt, sApp_W, sExt_W, sPop_W, sPopTo_W, sPut_W, sAugP_W, sAug_W, sFor_W, sRaise_W, sRaise1_W, gD_W, gD2_W, gD3_W, eVar_W, eVarB_W, eC_W, eOp_W, eUn_W, eCB_W, eNil_W, eCons_W, eConsS_W, eConsH_W, eTup_W, eLst_W, eCall_W, eCall0_W, eTest_W, eNotT_W, eAndT_W, eOrT_W, eTru_W, dTru_non, dTru_bl, dTru_int, dTru_lst, dTru_tup, dTru_str, dTru_dk, eBool_W, eAndV_W, eOrV_W, eNotV_W, eNotVT_W, eIf_W, eChain_W, eLc_W, eLc2_W, eYes_W, eSeq_W, eRng1_W, eRng2_W, eEnum_W, eZip_W, eSl_W, ePart_W, eNoPart_W, eRev_W, eRevL_W, eDk0_W, dAdd_int, dAdd_lst, dAdd_tup, dAdd_str, dAddL_lst, dSub_int, dMul_int, dMul_lst, dMulL_lst, dMul_tup, dFdiv_int, dMod_int, dPow_int, dShl_int, dShr_int, dLe_int, dLt_int, dGt_int, dGe_int, dNeg_int, isa_seq2, isLs_lst, isLs_tup, Bool.or_false, Bool.or_true, Bool.true_or, Bool.false_or, Bool.and_true, Bool.true_and, Bool.and_false, Bool.false_and, isSeq_lst, isSeq_tup, isTp_tup, isTp_lst, isTp_non, isTp_int, isTp_str, isW_int, dIsN_W, dNotN_W, isN_non, isN_int, isN_bl, isN_str, isN_tup, isN_lst, isN_dk, isN_dt, isN_ins, dIx_W, dSl_W, dSlL_W, dLen_W, dInt_W, dStr_W, dAbs_W, dMax2_W, dMin2_W, dTupOf_W, dLstOf_W, dIsi_W, dIsi2_W, kn_int, kn_bl, kn_non, kn_str, kn_tup, kn_lst, kn_dk, kn_dt, isa_int_int, isa_int_bool, isa_tup_tup, isa_bl_bool, isa_seq_tup, isa_seq_lst, isa_int, isa_bool, isa_seq, isa_tup, isa_str, isa_lst, dEq_int, dNe_int, Dt.flat, wipeS, List.getElem?_cons_zero, List.getElem?_cons_succ, List.set_cons_zero, List.set_cons_succ, List.replicate, List.append_nil, List.cons_append, List.nil_append, List.length_cons, List.length_nil, Nat.reduceAdd, Nat.reduceSub, Nat.zero_add, Option.isSome_some, Bool.true_eq_false, Bool.false_eq_true, if_true, if_false, ite_true, ite_false, eq_self, not_true_eq_false, not_false_eq_true, true_and, and_true, decide_eq_true_eq, Bool.not_true, Bool.not_false, Bool.not_eq_true', decide_eq_false_iff_not, decide_true, decide_false, List.length_map, List.map_cons, List.map_nil, Option.some.injEq, reduceCtorEq, Bool.not_eq_eq_eq_not, eEnumK_W, eDk1_W, eXf_W, eIsX_W, sTry_W])
/-- a near pair -/
def np (a b c d : List Int) : Dt := .ins "NearPair" ["one", "other", "below", "above"] [iT a, iT b, iT c, iT d]
theorem near_make {a b c d : List Int} {Q : Dt → Prop} {E : Xc → Prop} (q : Q (np a b c d)) : F_NearPair___init [.d (iT a), .d (iT b), .d (iT c), .d (iT d)] Q E := by
  rw [F_NearPair___init_eq]; unfold S_NearPair___init
  walk_at "wp"
  simp only [ftab_NearPair_one, ftab_NearPair_other, ftab_NearPair_below, ftab_NearPair_above, putN_NearPair_one, putN_NearPair_other, putN_NearPair_below, putN_NearPair_above, putD_NearPair_one, putD_NearPair_other, putD_NearPair_below, putD_NearPair_above, List.getElem?_cons_zero, List.set_cons_zero, true_and, List.length_nil, List.length_cons]
  exact ⟨by decide, by decide, by decide, by decide, q⟩
/-- what is told of two words of one rest -/
structure Clash (n : Nat) (m r : Int) (a b c d : List Int) : Prop where
  bc : Bits c
  lc : (c.length : Int) = n - 1
  ba : Bits a
  la : a.length = n
  sa : wsum 0 a = r
  bb : Bits b
  lb : b.length = n
  sb : wsum 0 b = r + m
  ca : c.Sublist a
  cb : c.Sublist b
  ed : d = b ++ [0]
  ad : a.Sublist d
  bd : b.Sublist d
theorem sub_ins {b : Int} {i : Nat} {w : List Int} (h : i ≤ w.length) : w.Sublist (ins b i w) := by
  rw [ins_eq b i w h]
  conv => lhs; rw [← List.take_append_drop i w]
  exact (List.Sublist.refl _).append (List.sublist_cons_self _ _)
theorem modulus_clash_ok {n : Nat} {m r : Int} {Q : Dt → Prop} {E : Xc → Prop} (hn : n ≤ 200) (hm : 1 ≤ m) (hm2 : m ≤ 1000000) (hr : 0 ≤ r) (hr2 : r < m)
    (q0 : (n : Int) < m → Q .non) (q1 : ∀ a b c d, m ≤ n → Clash n m r a b c d → Q (np a b c d)) : F_modulus_clash [.d (.int n), .d (.int m), .d (.int r)] Q E := by
  rw [F_modulus_clash_eq]; unfold S_modulus_clash
  walk_at "wp"
  refine check_number_ok rfl (fun _ => ?_) fun h => by rw [inB_int (by omega) (by omega)] at h; cases h
  refine check_modulus_ok rfl (fun _ => ?_) fun h => by rw [inB_int hm hm2] at h; cases h
  refine check_rest_ok rfl (fun _ => ?_) fun h => by rw [inB_int hr (by omega)] at h; cases h
  walk_at "wp"
  refine iteQ (fun c => q0 (by simpa using c)) fun c => ?_
  have c : m ≤ n := by simpa using c
  refine ⟨⟨by decide, by decide, by omega, by omega⟩, ?_⟩
  have en : ((n : Int) - 1).toNat = n - 1 := by omega
  rw [en]
  let f : Nat → Int := fun k => if 1 + (k : Int) = r then 1 else 0
  refine lc_map (e := fun k : Nat => Dt.int (1 + (k : Nat))) (fun k : Nat => Dt.int (f k)) (fun k hk K hK => ?_) (by rw [List.length_range]; omega) ?_
  · walk_at "wp"
    show if 1 + (k : Int) = r then K (.int 1) else K (.int 0)
    by_cases z : 1 + (k : Int) = r
    · rw [if_pos z]
      have : f k = 1 := if_pos z
      rw [← this]; exact hK
    · rw [if_neg z]
      have : f k = 0 := if_neg z
      rw [← this]; exact hK
  have hw : ((List.range (n - 1)).map fun k : Nat => Dt.int (f k)) = (((List.range (n - 1)).map f).map Dt.int) := by rw [List.map_map]; rfl
  rw [hw]
  have bw : Bits ((List.range (n - 1)).map f) := fun x hx => by
    obtain ⟨k, _, rfl⟩ := List.mem_map.mp hx
    show f k = 0 ∨ f k = 1
    by_cases z : 1 + (k : Int) = r
    · exact .inr (if_pos z)
    · exact .inl (if_neg z)
  have sw : wsum 0 ((List.range (n - 1)).map f) = r := by
    rw [wsum_map]
    by_cases z : r = 0
    · rw [wfun_congr (g := fun _ => 0) _ fun k _ => if_neg (by omega), wfun_zero, z]
    · have := wfun_put (f := fun _ => 0) (g := f) (p := (r - 1).toNat) (if_pos (by omega)) (fun k hk => if_neg (by omega)) (n - 1)
      rw [this, wfun_zero, if_pos (by omega)]; omega
  have lw : ((List.range (n - 1)).map f).length = n - 1 := by rw [List.length_map, List.length_range]
  generalize (List.range (n - 1)).map f = w at bw sw lw ⊢
  walk_at "wp"
  have g : badWord 2 200 (iT w) = none := (badWord_bits bw (by omega)).1
  refine lifted_word_ok (kn_iT w) rfl (fun v y b1 i1 e2 _ _ ey _ _ hb1 hi1 hd1 => ?_) (fun i h => by rw [g] at h; cases h) fun _ h => by
    rw [inB_int (by omega) (by show (0 : Int) ≤ ((w.map Dt.int).length : Int) + 1; rw [List.length_map]; omega)] at h; cases h
  obtain rfl := dts_inj2 e2
  cases ey
  refine lifted_word_ok (kn_iT w) rfl (fun v y b2 i2 e2 _ _ ey _ _ hb2 hi2 hd2 => ?_) (fun i h => by rw [g] at h; cases h) fun _ h => by
    rw [inB_int (by omega) (by show m ≤ ((w.map Dt.int).length : Int) + 1; rw [List.length_map]; omega)] at h; cases h
  obtain rfl := dts_inj2 e2
  cases ey
  walk_at "wp"
  refine ⟨by rw [ins_len]; show _ + 1 ≤ 16777216; omega, ?_⟩
  rw [show (ins b2 i2 w).map Dt.int ++ [Dt.int 0] = (ins b2 i2 w ++ [0]).map Dt.int by rw [List.map_append]; rfl]
  refine near_make (q1 _ _ _ _ c ?_)
  have one : ins b1 i1 w = w ++ [0] := by
    have s1 := bits_sum (bits_drop bw i1)
    have b0 : b1 = 0 := by
      rcases hb1 with h | h
      · exact h
      · rw [h] at hd1; unfold dv at hd1; omega
    subst b0
    have d0 : (w.drop i1).sum = 0 := by unfold dv at hd1; omega
    rw [ins_zero w i1 w.length bw hi1 (Nat.le_refl _) (by rw [d0, List.drop_length]; rfl), ins_eq 0 w.length w (Nat.le_refl _), List.take_length, List.drop_length]
  refine { bc := bw, lc := by omega, ba := bits_ins bw hb1 hi1, la := by rw [ins_len]; omega, sa := by rw [wsum_ins0 hi1, hd1, sw]; omega, bb := bits_ins bw hb2 hi2, lb := by rw [ins_len]; omega, sb := by rw [wsum_ins0 hi2, hd2, sw], ca := sub_ins hi1, cb := sub_ins hi2, ed := rfl, ad := ?_, bd := List.sublist_append_left _ _ }
  rw [one]
  exact (sub_ins hi2).append (List.Sublist.refl _)
local macro_rules | `(tactic| walk_at "np") => `(tactic| try simp only [np, ftab_NearPair_one, ftab_NearPair_other, ftab_NearPair_below, ftab_NearPair_above, look_NearPair_one, look_NearPair_other, look_NearPair_below, look_NearPair_above, true_and, Option.some.injEq, exists_eq_left'])
theorem law_clash_right_ok {n : Nat} {m r : Int} {a b c d : List Int} {Q : Dt → Prop} {E : Xc → Prop} (hn : n ≤ 200) (hm : 1 ≤ m) (hr : 0 ≤ r) (hr2 : r < m) (h : Clash n m r a b c d) (q : Q (.bl true)) : F_law_clash_right [.d (.int n), .d (.int m), .d (.int r), .d (np a b c d)] Q E := by
  have ab : a ≠ b := fun e => by have := h.sa; rw [e, h.sb] at this; omega
  have dl : d.length = n + 1 := by rw [h.ed, List.length_append, h.lb]; rfl
  have db : Bits d := fun x hx => by
    rw [h.ed] at hx
    rcases List.mem_append.mp hx with hx | hx
    · exact h.bb x hx
    · exact .inl (List.mem_singleton.mp hx)
  have lc := h.lc
  have la := h.la
  have lb := h.lb
  rw [F_law_clash_right_eq]; unfold S_law_clash_right
  walk_at "wp"
  walk_at "np"
  refine ⟨true, tabI_NearPair_NearPair, ?_⟩
  walk_at "wp"
  walk_at "np"
  walk_at "wp"
  refine dFor_inv (fun i e => ∃ s5, e = [.d (.int n), .d (.int m), .d (.int r), .d (np a b c d), .d (.lst ([a, b].map iT)), s5]) ⟨_, rfl⟩ ?_ ?_
  · rintro i x _ K B hx ⟨s5, rfl⟩ hK
    obtain ⟨u, hu, rfl⟩ := map_get (e := iT) (xs := [a, b]) hx
    have um := List.mem_of_getElem? hu
    simp only [List.mem_cons, List.not_mem_nil, or_false] at um
    obtain ⟨ub, ul, us⟩ : Bits u ∧ u.length = n ∧ wsum 0 u % m = r := by
      rcases um with e | e
      · rw [e]; exact ⟨h.ba, h.la, by rw [h.sa]; exact Int.emod_eq_of_lt hr hr2⟩
      · rw [e]; exact ⟨h.bb, h.lb, by rw [h.sb, Int.add_emod_right]; exact Int.emod_eq_of_lt hr hr2⟩
    walk_at "wp"
    refine law_is_word_ok ub (by omega) (by omega) ?_
    walk_at "wp"
    refine law_sum_ok ub (by omega) ?_
    walk_at "wp"
    refine ⟨by omega, ?_⟩
    rw [us]
    walk_at "wp"
    exact hK _ ⟨_, rfl⟩
  · rintro _ ⟨s5, rfl⟩
    walk_at "wp"
    walk_at "np"
    walk_at "wp"
    refine eqE_T.dEq ?_
    walk_at "wp"
    rw [if_neg ab]
    refine law_is_word_ok h.bc (by omega) (by omega) ?_
    walk_at "wp"
    refine law_is_word_ok db (by omega) (by omega) ?_
    walk_at "wp"
    refine lc_map (e := iT) (xs := [a, b]) (fun _ => Dt.bl true) (fun u hu K hK => ?_) (by show 2 ≤ 16777216; decide) ?_
    · simp only [List.mem_cons, List.not_mem_nil, or_false] at hu
      have ⟨cu, ud⟩ : c.Sublist u ∧ u.Sublist d := by
        rcases hu with e | e
        · rw [e]; exact ⟨h.ca, h.ad⟩
        · rw [e]; exact ⟨h.cb, h.bd⟩
      walk_at "wp"
      walk_at "np"
      refine law_is_below_ok cu ?_
      walk_at "wp"
      walk_at "np"
      exact law_is_below_ok ud hK
    · unfold dAll
      exact ⟨[true, true], rfl, q⟩
theorem law_modulus_right_ok {n : Nat} {m r : Int} {Q : Dt → Prop} {E : Xc → Prop} (hn : n ≤ 200) (hm : 1 ≤ m) (hm2 : m ≤ 1000000) (hr : 0 ≤ r) (hr2 : r < m) (q : Q (.bl true)) : F_law_modulus_right [.d (.int n), .d (.int m), .d (.int r)] Q E := by
  rw [F_law_modulus_right_eq]; unfold S_law_modulus_right
  walk_at "wp"
  refine modulus_clash_ok hn hm hm2 hr hr2 (fun c => ?_) fun a b c d hc h => ?_
  · walk_at "wp"
    rw [decide_eq_true c]
    exact q
  · unfold np
    walk_at "wp"
    rw [if_pos hc]
    exact law_clash_right_ok hn hm hr hr2 h q
end Mine

namespace Mine
open PySem PySem.Spec PyProof.Rows L2
local macro_rules | `(tactic| walk_at "wp") => `(tactic| try simp -implicitDefEqProofs only [eFld_W, eFldS_W, sSetF_W, eMeth_W, eMeth0_W, eProp_W, mkI_W, mkI0_W, eVarD_W, eDic_W, eGet1_W, eGet2_W, eAtD_W, eInD_W, eNotInD_W, sOwnD_W, sPutD_W, Bool.false_eq_true, LINE_W, line0, line1, line2, line3, line4, line5, line6, line7, line8, line9, line10, line11, line12, take_W, Int.reduceLT, Int.reduceLE, Int.reduceNeg, mkD_W, mkD0_W, sSeq_W, sAsg_W, sRet_W, sRetN_W, sIf_W, sNext_W, sDrop_W, sBreak_W, sCont_W, sOwn_W, sPar_W, sPar3_W, sFrz_W, frz_W, fz_lst, fz_dk, fz_dt, sApp_W, sExt_W, sPop_W, sPopTo_W, sPut_W, sAugP_W, sAug_W, sFor_W, sRaise_W, sRaise1_W, gD_W, gD2_W, gD3_W, eVar_W, eVarB_W, eC_W, eOp_W, eUn_W, eCB_W, eNil_W, eCons_W, eConsS_W, eConsH_W, eTup_W, eLst_W, eCall_W, eCall0_W, eTest_W, eNotT_W, eAndT_W, eOrT_W, eTru_W, dTru_non, dTru_bl, dTru_int, dTru_lst, dTru_tup, dTru_str, dTru_dk, eBool_W, eAndV_W, eOrV_W, eNotV_W, eNotVT_W, eIf_W, eChain_W, eLc_W, eLc2_W, eYes_W, eSeq_W, eRng1_W, eRng2_W, eEnum_W, eZip_W, eSl_W, ePart_W, eNoPart_W, eRev_W, eRevL_W, eDk0_W, dAdd_int, dAdd_lst, dAdd_tup, dAdd_str, dAddL_lst, dSub_int, dMul_int, dMul_lst, dMulL_lst, dMul_tup, dFdiv_int, dMod_int, dPow_int, dShl_int, dShr_int, dLe_int, dLt_int, dGt_int, dGe_int, dNeg_int, isa_seq2, isLs_lst, isLs_tup, Bool.or_false, Bool.or_true, Bool.true_or, Bool.false_or, Bool.and_true, Bool.true_and, Bool.and_false, Bool.false_and, isSeq_lst, isSeq_tup, isTp_tup, isTp_lst, isTp_non, isTp_int, isTp_str, isW_int, dIsN_W, dNotN_W, isN_non, isN_int, isN_bl, isN_str, isN_tup, isN_lst, isN_dk, isN_dt, isN_ins, dIx_W, dSl_W, dSlL_W, dLen_W, dInt_W, dStr_W, dAbs_W, dMax2_W, dMin2_W, dTupOf_W, dLstOf_W, dIsi_W, dIsi2_W, kn_int, kn_bl, kn_non, kn_str, kn_tup, kn_lst, kn_dk, kn_dt, isa_int_int, isa_int_bool, isa_tup_tup, isa_bl_bool, isa_seq_tup, isa_seq_lst, isa_int, isa_bool, isa_seq, isa_tup, isa_str, isa_lst, dEq_int, dNe_int, Dt.flat, wipeS, List.getElem?_cons_zero, List.getElem?_cons_succ, List.set_cons_zero, List.set_cons_succ, List.replicate, List.append_nil, List.cons_append, List.nil_append, List.length_cons, List.length_nil, Nat.reduceAdd, Nat.reduceSub, Nat.zero_add, Option.isSome_some, Bool.true_eq_false, Bool.false_eq_true, if_true, if_false, ite_true, ite_false, eq_self, not_true_eq_false, not_false_eq_true, true_and, and_true, decide_eq_true_eq, Bool.not_true, Bool.not_false, Bool.not_eq_true', decide_eq_false_iff_not, decide_true, decide_false, List.length_map, List.map_cons, List.map_nil, Option.some.injEq, reduceCtorEq, Bool.not_eq_eq_eq_not, eEnumK_W, eDk1_W, eXf_W, eIsX_W, sTry_W])
/-- 0 + 1 + .. + n -/
def tri (n : Nat) : Int := (n : Int) * (n + 1) / 2
theorem tri_step (n : Nat) : tri (n + 1) = tri n + (n + 1) := by
  unfold tri
  have : ((n + 1 : Nat) : Int) * (((n + 1 : Nat) : Int) + 1) = (n : Int) * (n + 1) + ((n : Int) + 1) * 2 := by
    rw [show ((n + 1 : Nat) : Int) = (n : Int) + 1 by omega]
    rw [show (n : Int) + 1 + 1 = (n : Int) + 2 by omega, Int.mul_add, Int.mul_comm ((n : Int) + 1) n]
  rw [this, Int.add_mul_ediv_right _ _ (by decide)]
theorem tri_zero : tri 0 = 0 := rfl
theorem tri_ge : ∀ n : Nat, (n : Int) ≤ tri n
  | 0 => by decide
  | n + 1 => by
    have := tri_ge n
    rw [tri_step]; omega
theorem wsum_le : ∀ (o : Nat) (w : List Int), Bits w → 0 ≤ wsum o w ∧ wsum o w ≤ tri (o + w.length) - tri o
  | o, [], _ => by
    show (0 : Int) ≤ 0 ∧ (0 : Int) ≤ tri (o + 0) - tri o
    rw [Nat.add_zero]; omega
  | o, c :: w, h => by
    have ih := wsum_le (o + 1) w h.tail
    have hd := h.head
    have ts := tri_step o
    rw [List.length_cons, show o + (w.length + 1) = o + 1 + w.length by omega]
    show 0 ≤ ((o : Int) + 1) * c + wsum (o + 1) w ∧ ((o : Int) + 1) * c + wsum (o + 1) w ≤ _
    rcases hd with rfl | rfl
    · rw [Int.mul_zero]; omega
    · rw [Int.mul_one]; omega
/-- one place in a list of places -/
def ind (ps : List Int) (k : Nat) : Int := if ((k : Int) + 1) ∈ ps then 1 else 0
theorem word_of_sum_ok {n : Nat} {t : Int} {Q : Dt → Prop} {E : Xc → Prop} (hn : n ≤ 200) (ht : 0 ≤ t) (ht2 : t ≤ tri n) (q : ∀ w, Bits w → w.length = n → wsum 0 w = t → Q (iT w)) : F_word_of_sum [.d (.int n), .d (.int t)] Q E := by
  rw [F_word_of_sum_eq]; unfold S_word_of_sum
  walk_at "wp"
  unfold eRngD
  walk_at "wp"
  refine ⟨⟨by omega, by omega, by omega, by omega⟩, ?_⟩
  refine dFor_inv (fun i e => ∃ (ps : List Int) (z : Int) (s3 : Sl), e = [.d (.int n), .d (.int z), .own (.lst (ps.map .int)), s3] ∧ ps.length ≤ i ∧ (∀ p ∈ ps, (n : Int) - i < p) ∧ 0 ≤ z ∧ z ≤ tri (n - i) ∧ wfun (ind ps) n = t - z)
    ⟨[], t, _, rfl, Nat.le_refl _, fun p hp => by simp at hp, ht, ht2, by rw [wfun_congr (f := ind []) (g := fun _ => 0) n fun k _ => by unfold ind; exact if_neg (by simp), wfun_zero]; omega⟩ ?_ ?_
  · rintro i x _ K B hx ⟨ps, z, s3, rfl, h1, h2, h3, h4, h5⟩ hK
    rw [List.getElem?_map, Option.map_eq_some_iff] at hx
    obtain ⟨k, hk, rfl⟩ := hx
    obtain ⟨hi, ek⟩ := List.getElem?_eq_some_iff.mp hk
    rw [List.length_range] at hi
    rw [List.getElem_range] at ek
    subst ek
    have hi : i < n := by omega
    have ts := tri_step (n - (i + 1))
    rw [show n - (i + 1) + 1 = n - i by omega] at ts
    have tg := tri_ge (n - (i + 1))
    walk_at "wp"
    refine iteQ (fun c => ?_) fun c => ?_
    · refine ⟨by show _ < 16777216; omega, hK _ ⟨ps ++ [(n : Int) - i], z - (n - i), _, by rw [List.map_append]; rfl, by rw [List.length_append]; show _ + 1 ≤ _; omega, fun p hp => ?_, by omega, by omega, ?_⟩⟩
      · rcases List.mem_append.mp hp with hp | hp
        · have := h2 p hp; omega
        · rw [List.mem_singleton.mp hp]; omega
      · have nin : ((n : Int) - i) ∉ ps := fun hm => by have := h2 _ hm; omega
        have := wfun_put (f := ind ps) (g := ind (ps ++ [(n : Int) - i])) (p := n - (i + 1)) (by
          unfold ind
          have e : (((n - (i + 1) : Nat) : Int) + 1) = (n : Int) - i := by omega
          rw [e, if_pos (by simp), if_neg nin]; omega) (fun k hk => by
          unfold ind
          have e : ((k : Int) + 1) ∈ ps ++ [(n : Int) - i] ↔ ((k : Int) + 1) ∈ ps := by
            rw [List.mem_append, List.mem_singleton]
            exact ⟨fun h => h.elim id fun h => absurd h (by omega), .inl⟩
          simp only [e]) n
        rw [this, if_pos (by omega), h5]; omega
    · refine hK _ ⟨ps, z, _, rfl, by omega, fun p hp => by have := h2 p hp; omega, h3, ?_, h5⟩
      have tl := tri_ge (n - (i + 1))
      omega
  · rintro _ ⟨ps, z, s3, rfl, h1, h2, h3, h4, h5⟩
    rw [List.length_map, List.length_range] at h1 h2 h4
    rw [show n - ((n : Int) - 0).toNat = 0 by omega, tri_zero] at h4
    walk_at "wp"
    refine ⟨⟨by decide, by decide, by omega, by omega⟩, ?_⟩
    rw [show ((n : Int) + 1 - 1).toNat = n by omega]
    refine lc_map (e := fun k : Nat => Dt.int (1 + (k : Nat))) (fun k : Nat => Dt.int (ind ps k)) (fun k hk K hK => ?_) (by rw [List.length_range]; omega) ?_
    · walk_at "wp"
      have e : (List.map Dt.int ps).any (fun y => y.eqv (Dt.int (1 + (k : Int)))) = decide ((k : Int) + 1 ∈ ps) := by
        rw [List.any_map, Bool.eq_iff_iff, List.any_eq_true, decide_eq_true_iff]
        constructor
        · rintro ⟨p, hp, he⟩
          have he : (Dt.int p).eqv (.int (1 + (k : Int))) = true := he
          rw [eqv_int, decide_eq_true_iff] at he
          rw [show (k : Int) + 1 = p by omega]; exact hp
        · intro hp
          refine ⟨_, hp, ?_⟩
          show (Dt.int ((k : Int) + 1)).eqv (.int (1 + (k : Int))) = true
          rw [eqv_int, decide_eq_true_iff]; omega
      refine ⟨(shN_int _).sh, (shN_lst (n := 0) fun x hx => by obtain ⟨i, _, rfl⟩ := List.mem_map.mp hx; exact shN_int i).sh, ?_⟩
      rw [e]
      walk_at "wp"
      unfold ind at hK
      by_cases c : (k : Int) + 1 ∈ ps
      · rw [if_pos c] at hK
        simpa [c] using hK
      · rw [if_neg c] at hK
        simpa [c] using hK
    · walk_at "wp"
      have hw : ((List.range n).map fun k : Nat => Dt.int (ind ps k)) = (((List.range n).map (ind ps)).map Dt.int) := by rw [List.map_map]; rfl
      rw [hw]
      refine q _ (fun x hx => ?_) (by rw [List.length_map, List.length_range]) (by rw [wsum_map, h5]; omega)
      obtain ⟨k, _, rfl⟩ := List.mem_map.mp hx
      unfold ind
      split
      · exact .inr rfl
      · exact .inl rfl
end Mine

namespace Mine
open PySem PySem.Spec PyProof.Rows L2
local macro_rules | `(tactic| walk_at "wp") => `(tactic| try simp -implicitDefEqProofs only [eFld_W, eFldS_W, sSetF_W, eMeth_W, eMeth0_W, eProp_W, mkI_W, mkI0_W, eVarD_W, eDic_W, eGet1_W, eGet2_W, eAtD_W, eInD_W, eNotInD_W, sOwnD_W, sPutD_W, Bool.false_eq_true, LINE_W, line0, line1, line2, line3, line4, line5, line6, line7, line8, line9, line10, line11, line12, take_W, Int.reduceLT, Int.reduceLE, Int.reduceNeg, mkD_W, mkD0_W, sSeq_W, sAsg_W, sRet_W, sRetN_W, sIf_W, sNext_W, sDrop_W, sBreak_W, sCont_W, sOwn_W, sPar_W, sPar3_W, sFrz_W, frz_W, fz_lst, fz_dk, fz_dt, sApp_W, sExt_W, sPop_W, sPopTo_W, sPut_W, sAugP_W, sAug_W, sFor_W, sRaise_W, sRaise1_W, gD_W, gD2_W, gD3_W, eVar_W, eVarB_W, eC_W, eOp_W, eUn_W, eCB_W, eNil_W, eCons_W, eConsS_W, eConsH_W, eTup_W, eLst_W, eCall_W, eCall0_W, eTest_W, eNotT_W, eAndT_W, eOrT_W, eTru_W, dTru_non, dTru_bl, dTru_int, dTru_lst, dTru_tup, dTru_str, dTru_dk, eBool_W, eAndV_W, eOrV_W, eNotV_W, eNotVT_W, eIf_W, eChain_W, eLc_W, eLc2_W, eYes_W, eSeq_W, eRng1_W, eRng2_W, eEnum_W, eZip_W, eSl_W, ePart_W, eNoPart_W, eRev_W, eRevL_W, eDk0_W, dAdd_int, dAdd_lst, dAdd_tup, dAdd_str, dAddL_lst, dSub_int, dMul_int, dMul_lst, dMulL_lst, dMul_tup, dFdiv_int, dMod_int, dPow_int, dShl_int, dShr_int, dLe_int, dLt_int, dGt_int, dGe_int, dNeg_int, isa_seq2, isLs_lst, isLs_tup, Bool.or_false, Bool.or_true, Bool.true_or, Bool.false_or, Bool.and_true, Bool.true_and, Bool.and_false, Bool.false_and, isSeq_lst, isSeq_tup, isTp_tup, isTp_lst, isTp_non, isTp_int, isTp_str, isW_int, dIsN_W, dNotN_W, isN_non, isN_int, isN_bl, isN_str, isN_tup, isN_lst, isN_dk, isN_dt, isN_ins, dIx_W, dSl_W, dSlL_W, dLen_W, dInt_W, dStr_W, dAbs_W, dMax2_W, dMin2_W, dTupOf_W, dLstOf_W, dIsi_W, dIsi2_W, kn_int, kn_bl, kn_non, kn_str, kn_tup, kn_lst, kn_dk, kn_dt, isa_int_int, isa_int_bool, isa_tup_tup, isa_bl_bool, isa_seq_tup, isa_seq_lst, isa_int, isa_bool, isa_seq, isa_tup, isa_str, isa_lst, dEq_int, dNe_int, Dt.flat, wipeS, List.getElem?_cons_zero, List.getElem?_cons_succ, List.set_cons_zero, List.set_cons_succ, List.replicate, List.append_nil, List.cons_append, List.nil_append, List.length_cons, List.length_nil, Nat.reduceAdd, Nat.reduceSub, Nat.zero_add, Option.isSome_some, Bool.true_eq_false, Bool.false_eq_true, if_true, if_false, ite_true, ite_false, eq_self, not_true_eq_false, not_false_eq_true, true_and, and_true, decide_eq_true_eq, Bool.not_true, Bool.not_false, Bool.not_eq_true', decide_eq_false_iff_not, decide_true, decide_false, List.length_map, List.map_cons, List.map_nil, Option.some.injEq, reduceCtorEq, Bool.not_eq_eq_eq_not, eEnumK_W, eDk1_W, eXf_W, eIsX_W, sTry_W])
local macro_rules | `(tactic| walk_at "fl") => `(tactic| try simp only [bk, ftab_SumBook_length, ftab_SumBook_modulus, ftab_SumBook_rest, look_SumBook_length, look_SumBook_modulus, look_SumBook_rest, true_and, Option.some.injEq, exists_eq_left'])
/-- no word is left unread -/
def NoneC (n : Nat) (m r : Int) : Prop := m = n + 1 ∨ (n < 4 ∧ (n : Int) * (n - 1) / 2 ≤ r ∧ r ≤ n)
theorem tri_pred {n : Nat} (h : 1 ≤ n) : (n : Int) * (n - 1) / 2 = tri (n - 1) := by
  unfold tri
  rw [show ((n - 1 : Nat) : Int) = (n : Int) - 1 by omega, show (n : Int) - 1 + 1 = n by omega, Int.mul_comm]
theorem all_read {n : Nat} {m r : Int} {w : List Int} (h1 : 1 ≤ n) (hm : (n : Int) + 1 ≤ m) (hr : 0 ≤ r) (hr2 : r < m) (h : NoneC n m r) (hb : Bits w) (hl : w.length = n - 1) : (r - wsum 0 w) % m ≤ n := by
  rcases h with h | ⟨_, h2, h3⟩
  · have := Int.emod_lt_of_pos (r - wsum 0 w) (show 0 < m by omega)
    omega
  · have := wsum_le 0 w hb
    rw [Nat.zero_add, hl, tri_zero, ← tri_pred h1] at this
    rw [Int.emod_eq_of_lt (by omega) (by omega)]; omega
theorem unread_word_ok {n : Nat} {m r : Int} {Q : Dt → Prop} {E : Xc → Prop} (h1 : 1 ≤ n) (hn : n ≤ 200) (hm : (n : Int) + 1 ≤ m) (hr : 0 ≤ r) (hr2 : r < m)
    (q0 : NoneC n m r → Q .non) (q1 : ∀ w, ¬ NoneC n m r → Bits w → w.length = n - 1 → (n : Int) < (r - wsum 0 w) % m → Q (iT w)) : F_unread_word [.d (bk n m r)] Q E := by
  have tp := tri_pred h1
  have en : (n : Int) - 1 = ((n - 1 : Nat) : Int) := by omega
  have t0 : 0 ≤ (n : Int) * (n - 1) := Int.mul_nonneg (by omega) (by omega)
  have t1 : (n : Int) * (n - 1) ≤ 200 * 200 := Int.mul_le_mul (by omega) (by omega) (by omega) (by omega)
  rw [F_unread_word_eq]; unfold S_unread_word
  walk_at "wp"
  walk_at "fl"
  walk_at "wp"
  rw [if_neg (by omega)]
  refine ⟨by unfold CMul; omega, by unfold CDiv; omega, ?_⟩
  refine is_full_ok (n := n) (m := m) (r := r) ?_
  walk_at "wp"
  rw [tp]
  refine iteQ (fun c => q0 (.inl (by simpa using c))) fun c => ?_
  have c : ¬ m = n + 1 := by simpa using c
  walk_at "fl"
  walk_at "wp"
  refine iteQ (fun c2 => ?_) fun c2 => ?_
  · rw [en]
    refine word_of_sum_ok (n := n - 1) (by omega) (by decide) (by have := tri_ge (n - 1); omega) fun w hb hl hs => q1 w (fun h => ?_) hb hl ?_
    · rcases h with h | ⟨_, _, h⟩ <;> omega
    · rw [hs, show r - 0 = r by omega, Int.emod_eq_of_lt hr hr2]; omega
  · refine iteQ (fun c3 => ?_) fun c3 => ?_
    · rw [en]
      refine word_of_sum_ok (n := n - 1) (by omega) (by omega) (by omega) fun w hb hl hs => q1 w (fun h => ?_) hb hl ?_
      · rcases h with h | ⟨_, h, _⟩ <;> omega
      · rw [hs, show r - (r + 1) = (m - 1) + m * (-1) by omega, Int.add_mul_emod_self_left, Int.emod_eq_of_lt (by omega) (by omega)]; omega
    · refine q0 (.inr ⟨?_, by omega, by omega⟩)
      by_cases z : n < 4
      · exact z
      · have a := tri_step (n - 2)
        have b := tri_ge (n - 2)
        rw [show n - 2 + 1 = n - 1 by omega] at a
        omega
theorem law_is_unread_ok {n m r : Int} {w : List Int} {Q : Dt → Prop} {E : Xc → Prop} (hb : Bits w) (hl : w.length < 1000) (hm : 0 < m) (q : Q (.bl (decide (n < (r - wsum 0 w) % m)))) : F_law_is_unread [.d (.lst [.int n, .int m, .int r]), .d (iT w)] Q E := by
  rw [F_law_is_unread_eq]; unfold S_law_is_unread
  walk_at "wp"
  refine ix_get (n := 2) rfl rfl (law_sum_ok hb hl ?_)
  walk_at "wp"
  refine ix_get (n := 1) rfl rfl ?_
  walk_at "wp"
  refine ⟨hm, ix_get (n := 0) rfl rfl ?_⟩
  walk_at "wp"
  exact q
open Classical in
theorem law_unread_right_ok {n : Nat} {m r : Int} {Q : Dt → Prop} {E : Xc → Prop} (h1 : 1 ≤ n) (hn : n ≤ 200) (hm : (n : Int) + 1 ≤ m) (hr : 0 ≤ r) (hr2 : r < m) (q : Q (.bl true)) : F_law_unread_right [.d (bk n m r), .d (.lst [.int n, .int m, .int r])] Q E := by
  have t0 : 0 ≤ (n : Int) * (n - 1) := Int.mul_nonneg (by omega) (by omega)
  have t1 : (n : Int) * (n - 1) ≤ 200 * 200 := Int.mul_le_mul (by omega) (by omega) (by omega) (by omega)
  have row3 : ∀ (D : DEn) (d : Dt), (∀ b : Bool, (b = true ↔ NoneC n m r) → S_law_unread_right_r4 D [.d (bk n m r), .d (.lst [.int n, .int m, .int r]), .d (.int n), .d d, .d (.bl b)]) → S_law_unread_right_r3 D [.d (bk n m r), .d (.lst [.int n, .int m, .int r]), .d (.int n), .d d, .no] := fun D d h => by
    rw [S_law_unread_right_r3_eq]
    walk_at "wp"
    refine ix_get (n := 1) rfl rfl ?_
    walk_at "wp"
    refine iteQ (fun c => h true ⟨fun _ => .inl c, fun _ => rfl⟩) fun c => iteQ (fun c2 => ?_) fun c2 => ?_
    · refine ⟨by unfold CMul; omega, by unfold CDiv; omega, ix_get (n := 2) rfl rfl ?_⟩
      walk_at "wp"
      refine iteQ (fun c3 => h _ ?_) fun c3 => h false ?_
      · rw [decide_eq_true_iff]
        exact ⟨fun k => .inr ⟨by omega, c3, k⟩, fun k => k.elim (fun k => absurd k c) fun k => k.2.2⟩
      · exact ⟨fun k => (by cases k), fun k => k.elim (fun k => absurd k c) fun k => absurd k.2.1 c3⟩
    · exact h false ⟨fun k => (by cases k), fun k => k.elim (fun k => absurd k c) fun k => absurd k.1 (by omega)⟩
  rw [F_law_unread_right_eq]; unfold S_law_unread_right
  walk_at "wp"
  refine ix_get (n := 0) rfl rfl ?_
  rw [S_law_unread_right_r2_eq]
  walk_at "wp"
  refine unread_word_ok h1 hn hm hr hr2 (fun hc => row3 _ _ fun b hb => ?_) fun w hc wb wl wu => row3 _ _ fun b hb => ?_
  · obtain rfl := hb.mpr hc
    rw [S_law_unread_right_r4_eq]
    walk_at "wp"
    exact q
  · have b0 : b = false := by
      cases b with
      | false => rfl
      | true => exact absurd (hb.mp rfl) hc
    subst b0
    have wl' : (w.length : Int) = n - 1 := by omega
    rw [S_law_unread_right_r4_eq]
    walk_at "wp"
    rw [S_law_unread_right_r6_eq]
    walk_at "wp"
    refine law_is_word_ok wb (by omega) (by omega) ?_
    walk_at "wp"
    refine law_is_unread_ok wb (by omega) (by omega) ?_
    rw [decide_eq_true wu]
    walk_at "wp"
    rw [S_law_unread_right_r8_eq]
    walk_at "wp"
    refine read_lost_ok (a := iT w) (kn_iT w) (by omega) (by omega) (by omega) (fun w' d e _ _ _ hd => ?_) (fun i h => by rw [show badWord 2 201 (iT w) = none from (badWord_bits wb (by omega)).1] at h; cases h) fun _ h => absurd wl' (by simpa [itemsOf] using h)
    rw [← dts_inj2 e] at hd
    rcases hd with ⟨_, rfl⟩ | ⟨h, _⟩
    · walk_at "wp"
      exact q
    · omega
end Mine

namespace Mine
open PySem PySem.Spec PyProof.Rows L2
local macro_rules | `(tactic| walk_at "wp") => `(tactic| try simp -implicitDefEqProofs only [eFld_W, eFldS_W, sSetF_W, eMeth_W, eMeth0_W, eProp_W, mkI_W, mkI0_W, eVarD_W, eDic_W, eGet1_W, eGet2_W, eAtD_W, eInD_W, eNotInD_W, sOwnD_W, sPutD_W, Bool.false_eq_true, LINE_W, line0, line1, line2, line3, line4, line5, line6, line7, line8, line9, line10, line11, line12, take_W, Int.reduceLT, Int.reduceLE, Int.reduceNeg, mkD_W, mkD0_W, sSeq_W, sAsg_W, sRet_W, sRetN_W, sIf_W, sNext_W, sDrop_W, sBreak_W, sCont_W, sOwn_W, sPar_W, sPar3_W, sFrz_W, frz_W, fz_lst, fz_dk, fz_dt, sApp_W, sExt_W, sPop_W, sPopTo_W, sPut_W, sAugP_W, sAug_W, sFor_W, sRaise_W, sRaise1_W, gD_W, gD2_W, gD3_W, eVar_W, eVarB_W, eC_W, eOp_W, eUn_W, eCB_W, eNil_W, eCons_W, eConsS_W, eConsH_W, eTup_W, eLst_W, eCall_W, eCall0_W, eTest_W, eNotT_W, eAndT_W, eOrT_W, eTru_W, dTru_non, dTru_bl, dTru_int, dTru_lst, dTru_tup, dTru_str, dTru_dk, eBool_W, eAndV_W, eOrV_W, eNotV_W, eNotVT_W, eIf_W, eChain_W, eLc_W, eLc2_W, eYes_W, eSeq_W, eRng1_W, eRng2_W, eEnum_W, eZip_W, eSl_W, ePart_W, eNoPart_W, eRev_W, eRevL_W, eDk0_W, dAdd_int, dAdd_lst, dAdd_tup, dAdd_str, dAddL_lst, dSub_int, dMul_int, dMul_lst, dMulL_lst, dMul_tup, dFdiv_int, dMod_int, dPow_int, dShl_int, dShr_int, dLe_int, dLt_int, dGt_int, dGe_int, dNeg_int, isa_seq2, isLs_lst, isLs_tup, Bool.or_false, Bool.or_true, Bool.true_or, Bool.false_or, Bool.and_true, Bool.true_and, Bool.and_false, Bool.false_and, isSeq_lst, isSeq_tup, isTp_tup, isTp_lst, isTp_non, isTp_int, isTp_str, isW_int, dIsN_W, dNotN_W, isN_non, isN_int, isN_bl, isN_str, isN_tup, isN_lst, isN_dk, isN_dt, isN_ins, dIx_W, dSl_W, dSlL_W, dLen_W, dInt_W, dStr_W, dAbs_W, dMax2_W, dMin2_W, dTupOf_W, dLstOf_W, dIsi_W, dIsi2_W, kn_int, kn_bl, kn_non, kn_str, kn_tup, kn_lst, kn_dk, kn_dt, isa_int_int, isa_int_bool, isa_tup_tup, isa_bl_bool, isa_seq_tup, isa_seq_lst, isa_int, isa_bool, isa_seq, isa_tup, isa_str, isa_lst, dEq_int, dNe_int, Dt.flat, wipeS, List.getElem?_cons_zero, List.getElem?_cons_succ, List.set_cons_zero, List.set_cons_succ, List.replicate, List.append_nil, List.cons_append, List.nil_append, List.length_cons, List.length_nil, Nat.reduceAdd, Nat.reduceSub, Nat.zero_add, Option.isSome_some, Bool.true_eq_false, Bool.false_eq_true, if_true, if_false, ite_true, ite_false, eq_self, not_true_eq_false, not_false_eq_true, true_and, and_true, decide_eq_true_eq, Bool.not_true, Bool.not_false, Bool.not_eq_true', decide_eq_false_iff_not, decide_true, decide_false, List.length_map, List.map_cons, List.map_nil, Option.some.injEq, reduceCtorEq, Bool.not_eq_eq_eq_not, eEnumK_W, eDk1_W, eXf_W, eIsX_W, sTry_W])
/-- a dict whose keys are these words -/
def KeysAre (ks : List (List Key)) (ds : List Dt) (P : List Int → Prop) : Prop := ∀ u : List Int, (valD ks ds (u.map .inl)).isSome = true ↔ P u
end Mine

namespace Mine
open PySem PySem.Spec PyProof.Rows L2
local macro_rules | `(tactic| walk_at "wp") => `(tactic| try simp -implicitDefEqProofs only [eFld_W, eFldS_W, sSetF_W, eMeth_W, eMeth0_W, eProp_W, mkI_W, mkI0_W, eVarD_W, eDic_W, eGet1_W, eGet2_W, eAtD_W, eInD_W, eNotInD_W, sOwnD_W, sPutD_W, Bool.false_eq_true, LINE_W, line0, line1, line2, line3, line4, line5, line6, line7, line8, line9, line10, line11, line12, take_W, Int.reduceLT, Int.reduceLE, Int.reduceNeg, mkD_W, mkD0_W, sSeq_W, sAsg_W, sRet_W, sRetN_W, sIf_W, sNext_W, sDrop_W, sBreak_W, sCont_W, sOwn_W, sPar_W, sPar3_W, sFrz_W, frz_W, fz_lst, fz_dk, fz_dt, sApp_W, sExt_W, sPop_W, sPopTo_W, sPut_W, sAugP_W, sAug_W, sFor_W, sRaise_W, sRaise1_W, gD_W, gD2_W, gD3_W, eVar_W, eVarB_W, eC_W, eOp_W, eUn_W, eCB_W, eNil_W, eCons_W, eConsS_W, eConsH_W, eTup_W, eLst_W, eCall_W, eCall0_W, eTest_W, eNotT_W, eAndT_W, eOrT_W, eTru_W, dTru_non, dTru_bl, dTru_int, dTru_lst, dTru_tup, dTru_str, dTru_dk, eBool_W, eAndV_W, eOrV_W, eNotV_W, eNotVT_W, eIf_W, eChain_W, eLc_W, eLc2_W, eYes_W, eSeq_W, eRng1_W, eRng2_W, eEnum_W, eZip_W, eSl_W, ePart_W, eNoPart_W, eRev_W, eRevL_W, eDk0_W, dAdd_int, dAdd_lst, dAdd_tup, dAdd_str, dAddL_lst, dSub_int, dMul_int, dMul_lst, dMulL_lst, dMul_tup, dFdiv_int, dMod_int, dPow_int, dShl_int, dShr_int, dLe_int, dLt_int, dGt_int, dGe_int, dNeg_int, isa_seq2, isLs_lst, isLs_tup, Bool.or_false, Bool.or_true, Bool.true_or, Bool.false_or, Bool.and_true, Bool.true_and, Bool.and_false, Bool.false_and, isSeq_lst, isSeq_tup, isTp_tup, isTp_lst, isTp_non, isTp_int, isTp_str, isW_int, dIsN_W, dNotN_W, isN_non, isN_int, isN_bl, isN_str, isN_tup, isN_lst, isN_dk, isN_dt, isN_ins, dIx_W, dSl_W, dSlL_W, dLen_W, dInt_W, dStr_W, dAbs_W, dMax2_W, dMin2_W, dTupOf_W, dLstOf_W, dIsi_W, dIsi2_W, kn_int, kn_bl, kn_non, kn_str, kn_tup, kn_lst, kn_dk, kn_dt, isa_int_int, isa_int_bool, isa_tup_tup, isa_bl_bool, isa_seq_tup, isa_seq_lst, isa_int, isa_bool, isa_seq, isa_tup, isa_str, isa_lst, dEq_int, dNe_int, Dt.flat, wipeS, List.getElem?_cons_zero, List.getElem?_cons_succ, List.set_cons_zero, List.set_cons_succ, List.replicate, List.append_nil, List.cons_append, List.nil_append, List.length_cons, List.length_nil, Nat.reduceAdd, Nat.reduceSub, Nat.zero_add, Option.isSome_some, Bool.true_eq_false, Bool.false_eq_true, if_true, if_false, ite_true, ite_false, eq_self, not_true_eq_false, not_false_eq_true, true_and, and_true, decide_eq_true_eq, Bool.not_true, Bool.not_false, Bool.not_eq_true', decide_eq_false_iff_not, decide_true, decide_false, List.length_map, List.map_cons, List.map_nil, Option.some.injEq, reduceCtorEq, Bool.not_eq_eq_eq_not, eEnumK_W, eDk1_W, eXf_W, eIsX_W, sTry_W])
theorem cat_ins2 {w : List Int} {b : Int} {a : Nat} (ha : a ≤ w.length) : cutG (w.map Dt.int) none (some (a : Int)) ++ [.int b] ++ cutG (w.map Dt.int) (some (a : Int)) none = (ins b a w).map Dt.int := cat_ins rfl ha
theorem law_more_one_ok {w : List Int} {Q : Dt → Prop} {E : Xc → Prop} (hb : Bits w) (hl : w.length ≤ 24)
    (q : ∀ ws : List (List Int), (∀ x, x ∈ ws ↔ ∃ (b : Int) (j : Nat), (b = 0 ∨ b = 1) ∧ j ≤ w.length ∧ x = ins b j w) → Rising 2 ws → Q (.lst (ws.map fun w => Dt.tup (w.map .int)))) : F_law_more_one [.d (.int 2), .d (iT w)] Q E := by
  rw [F_law_more_one_eq]; unfold S_law_more_one
  walk_at "wp"
  refine ⟨by omega, ?_⟩
  refine dFor_inv (fun i e => ∃ (rows : List (List Int)) (s t : Sl), e = [.d (.int 2), .d (iT w), .d (.lst (rows.map fun w => Dt.tup (w.map .int))), s, t] ∧ rows.length = 2 * i ∧ ∀ x, x ∈ rows ↔ ∃ (b : Int) (j : Nat), (b = 0 ∨ b = 1) ∧ j < i ∧ x = ins b j w)
    ⟨[], _, _, rfl, rfl, fun x => ⟨fun h => (by cases h), fun ⟨b, j, _, h, _⟩ => absurd h (Nat.not_lt_zero _)⟩⟩ ?_ ?_
  · rintro i x _ K B hx ⟨rows, s, t, rfl, hr, hm⟩ hK
    obtain ⟨hi, rfl⟩ := rng_get hx
    have hi : i ≤ w.length := by omega
    walk_at "wp"
    refine ⟨by decide, ?_⟩
    refine lc_map (e := fun l : Nat => Dt.int (l : Nat)) (fun l => iT (ins (l : Nat) i w)) (fun l hl2 K2 hK2 => ?_) (by decide) ?_
    · have l1 := cut_len (xs := w.map Dt.int) none (some (i : Int))
      have l2 := cut_len (xs := w.map Dt.int) (some (i : Int)) none
      rw [List.length_map] at l1 l2
      walk_at "wp"
      refine ⟨by omega, by rw [List.length_append]; show _ + 1 + _ ≤ _; omega, ?_⟩
      rw [cat_ins2 hi]; exact hK2
    · show dAdd (.lst _) (.lst [iT (ins (0 : Nat) i w), iT (ins (1 : Nat) i w)]) _
      walk_at "wp"
      refine ⟨by omega, hK _ ⟨rows ++ [ins 0 i w, ins 1 i w], _, _, by rw [List.map_append]; rfl, by rw [List.length_append, hr]; show _ + 2 = _; omega, fun x => ?_⟩⟩
      rw [List.mem_append, hm]
      constructor
      · rintro (⟨b, j, h1, h2, h3⟩ | h)
        · exact ⟨b, j, h1, by omega, h3⟩
        · simp only [List.mem_cons, List.not_mem_nil, or_false] at h
          rcases h with h | h
          · exact ⟨0, i, .inl rfl, by omega, h⟩
          · exact ⟨1, i, .inr rfl, by omega, h⟩
      · rintro ⟨b, j, h1, h2, h3⟩
        by_cases c : j < i
        · exact .inl ⟨b, j, h1, c, h3⟩
        · have : j = i := by omega
          subst this
          refine .inr ?_
          rcases h1 with rfl | rfl <;> simp [h3]
  · rintro _ ⟨rows, s, t, rfl, hr, hm⟩
    rw [List.length_map, List.length_range] at hr hm
    have e : ((w.length : Int) + 1).toNat = w.length + 1 := by omega
    rw [e] at hr hm
    walk_at "wp"
    unfold eSortedSet
    walk_at "wp"
    refine ⟨rows, w.length + 1, 2, rfl, by omega, fun x hx => ?_, fun ws' h1 h2 => q ws' (fun x => ?_) h2⟩
    · obtain ⟨b, j, h1, h2, rfl⟩ := (hm x).mp hx
      refine ⟨ins_len b j w, ?_⟩
      exact fun y hy => by have := bits_ins hb h1 (show j ≤ w.length by omega) y hy; omega
    · rw [h1 x, hm x]
      constructor
      · rintro ⟨b, j, h1, h2, h3⟩; exact ⟨b, j, h1, by omega, h3⟩
      · rintro ⟨b, j, h1, h2, h3⟩; exact ⟨b, j, h1, by omega, h3⟩
end Mine

namespace Mine
open PySem PySem.Spec PyProof.Rows L2
local macro_rules | `(tactic| walk_at "wp") => `(tactic| try simp -implicitDefEqProofs only [eFld_W, eFldS_W, sSetF_W, eMeth_W, eMeth0_W, eProp_W, mkI_W, mkI0_W, eVarD_W, eDic_W, eGet1_W, eGet2_W, eAtD_W, eInD_W, eNotInD_W, sOwnD_W, sPutD_W, Bool.false_eq_true, LINE_W, line0, line1, line2, line3, line4, line5, line6, line7, line8, line9, line10, line11, line12, take_W, Int.reduceLT, Int.reduceLE, Int.reduceNeg, mkD_W, mkD0_W, sSeq_W, sAsg_W, sRet_W, sRetN_W, sIf_W, sNext_W, sDrop_W, sBreak_W, sCont_W, sOwn_W, sPar_W, sPar3_W, sFrz_W, frz_W, fz_lst, fz_dk, fz_dt, sApp_W, sExt_W, sPop_W, sPopTo_W, sPut_W, sAugP_W, sAug_W, sFor_W, sRaise_W, sRaise1_W, gD_W, gD2_W, gD3_W, eVar_W, eVarB_W, eC_W, eOp_W, eUn_W, eCB_W, eNil_W, eCons_W, eConsS_W, eConsH_W, eTup_W, eLst_W, eCall_W, eCall0_W, eTest_W, eNotT_W, eAndT_W, eOrT_W, eTru_W, dTru_non, dTru_bl, dTru_int, dTru_lst, dTru_tup, dTru_str, dTru_dk, eBool_W, eAndV_W, eOrV_W, eNotV_W, eNotVT_W, eIf_W, eChain_W, eLc_W, eLc2_W, eYes_W, eSeq_W, eRng1_W, eRng2_W, eEnum_W, eZip_W, eSl_W, ePart_W, eNoPart_W, eRev_W, eRevL_W, eDk0_W, dAdd_int, dAdd_lst, dAdd_tup, dAdd_str, dAddL_lst, dSub_int, dMul_int, dMul_lst, dMulL_lst, dMul_tup, dFdiv_int, dMod_int, dPow_int, dShl_int, dShr_int, dLe_int, dLt_int, dGt_int, dGe_int, dNeg_int, isa_seq2, isLs_lst, isLs_tup, Bool.or_false, Bool.or_true, Bool.true_or, Bool.false_or, Bool.and_true, Bool.true_and, Bool.and_false, Bool.false_and, isSeq_lst, isSeq_tup, isTp_tup, isTp_lst, isTp_non, isTp_int, isTp_str, isW_int, dIsN_W, dNotN_W, isN_non, isN_int, isN_bl, isN_str, isN_tup, isN_lst, isN_dk, isN_dt, isN_ins, dIx_W, dSl_W, dSlL_W, dLen_W, dInt_W, dStr_W, dAbs_W, dMax2_W, dMin2_W, dTupOf_W, dLstOf_W, dIsi_W, dIsi2_W, kn_int, kn_bl, kn_non, kn_str, kn_tup, kn_lst, kn_dk, kn_dt, isa_int_int, isa_int_bool, isa_tup_tup, isa_bl_bool, isa_seq_tup, isa_seq_lst, isa_int, isa_bool, isa_seq, isa_tup, isa_str, isa_lst, dEq_int, dNe_int, Dt.flat, wipeS, List.getElem?_cons_zero, List.getElem?_cons_succ, List.set_cons_zero, List.set_cons_succ, List.replicate, List.append_nil, List.cons_append, List.nil_append, List.length_cons, List.length_nil, Nat.reduceAdd, Nat.reduceSub, Nat.zero_add, Option.isSome_some, Bool.true_eq_false, Bool.false_eq_true, if_true, if_false, ite_true, ite_false, eq_self, not_true_eq_false, not_false_eq_true, true_and, and_true, decide_eq_true_eq, Bool.not_true, Bool.not_false, Bool.not_eq_true', decide_eq_false_iff_not, decide_true, decide_false, List.length_map, List.map_cons, List.map_nil, Option.some.injEq, reduceCtorEq, Bool.not_eq_eq_eq_not, eEnumK_W, eDk1_W, eXf_W, eIsX_W, sTry_W])
theorem nodup_len {α : Type} [DecidableEq α] : ∀ {xs ys : List α}, xs.Nodup → (∀ x ∈ xs, x ∈ ys) → xs.length ≤ ys.length
  | [], ys, _, _ => Nat.zero_le _
  | x :: xs, ys, h, s => by
    obtain ⟨h1, h2⟩ := List.nodup_cons.mp h
    have hx := s x List.mem_cons_self
    have := nodup_len (xs := xs) (ys := ys.erase x) h2 fun y hy => (List.mem_erase_of_ne (a := y) (b := x) fun e => h1 (by rw [← e]; exact hy)).mpr (s y (List.mem_cons_of_mem _ hy))
    rw [List.length_erase_of_mem hx] at this
    have := List.length_pos_of_mem hx
    rw [List.length_cons]; omega
theorem rising_nodup {B : Int} {ws : List (List Int)} (h : Rising B ws) : ws.Nodup := by
  unfold Rising at h
  exact h.imp fun {a b} c e => by
    rw [e] at c
    first
    | exact Nat.lt_irrefl _ c
    | exact Int.lt_irrefl _ c
end Mine

namespace Mine
open PySem PySem.Spec PyProof.Rows L2
local macro_rules | `(tactic| walk_at "wp") => `(tactic| try simp -implicitDefEqProofs only [eFld_W, eFldS_W, sSetF_W, eMeth_W, eMeth0_W, eProp_W, mkI_W, mkI0_W, eVarD_W, eDic_W, eGet1_W, eGet2_W, eAtD_W, eInD_W, eNotInD_W, sOwnD_W, sPutD_W, Bool.false_eq_true, LINE_W, line0, line1, line2, line3, line4, line5, line6, line7, line8, line9, line10, line11, line12, take_W, Int.reduceLT, Int.reduceLE, Int.reduceNeg, mkD_W, mkD0_W, sSeq_W, sAsg_W, sRet_W, sRetN_W, sIf_W, sNext_W, sDrop_W, sBreak_W, sCont_W, sOwn_W, sPar_W, sPar3_W, sFrz_W, frz_W, fz_lst, fz_dk, fz_dt, sApp_W, sExt_W, sPop_W, sPopTo_W, sPut_W, sAugP_W, sAug_W, sFor_W, sRaise_W, sRaise1_W, gD_W, gD2_W, gD3_W, eVar_W, eVarB_W, eC_W, eOp_W, eUn_W, eCB_W, eNil_W, eCons_W, eConsS_W, eConsH_W, eTup_W, eLst_W, eCall_W, eCall0_W, eTest_W, eNotT_W, eAndT_W, eOrT_W, eTru_W, dTru_non, dTru_bl, dTru_int, dTru_lst, dTru_tup, dTru_str, dTru_dk, eBool_W, eAndV_W, eOrV_W, eNotV_W, eNotVT_W, eIf_W, eChain_W, eLc_W, eLc2_W, eYes_W, eSeq_W, eRng1_W, eRng2_W, eEnum_W, eZip_W, eSl_W, ePart_W, eNoPart_W, eRev_W, eRevL_W, eDk0_W, dAdd_int, dAdd_lst, dAdd_tup, dAdd_str, dAddL_lst, dSub_int, dMul_int, dMul_lst, dMulL_lst, dMul_tup, dFdiv_int, dMod_int, dPow_int, dShl_int, dShr_int, dLe_int, dLt_int, dGt_int, dGe_int, dNeg_int, isa_seq2, isLs_lst, isLs_tup, Bool.or_false, Bool.or_true, Bool.true_or, Bool.false_or, Bool.and_true, Bool.true_and, Bool.and_false, Bool.false_and, isSeq_lst, isSeq_tup, isTp_tup, isTp_lst, isTp_non, isTp_int, isTp_str, isW_int, dIsN_W, dNotN_W, isN_non, isN_int, isN_bl, isN_str, isN_tup, isN_lst, isN_dk, isN_dt, isN_ins, dIx_W, dSl_W, dSlL_W, dLen_W, dInt_W, dStr_W, dAbs_W, dMax2_W, dMin2_W, dTupOf_W, dLstOf_W, dIsi_W, dIsi2_W, kn_int, kn_bl, kn_non, kn_str, kn_tup, kn_lst, kn_dk, kn_dt, isa_int_int, isa_int_bool, isa_tup_tup, isa_bl_bool, isa_seq_tup, isa_seq_lst, isa_int, isa_bool, isa_seq, isa_tup, isa_str, isa_lst, dEq_int, dNe_int, Dt.flat, wipeS, List.getElem?_cons_zero, List.getElem?_cons_succ, List.set_cons_zero, List.set_cons_succ, List.replicate, List.append_nil, List.cons_append, List.nil_append, List.length_cons, List.length_nil, Nat.reduceAdd, Nat.reduceSub, Nat.zero_add, Option.isSome_some, Bool.true_eq_false, Bool.false_eq_true, if_true, if_false, ite_true, ite_false, eq_self, not_true_eq_false, not_false_eq_true, true_and, and_true, decide_eq_true_eq, Bool.not_true, Bool.not_false, Bool.not_eq_true', decide_eq_false_iff_not, decide_true, decide_false, List.length_map, List.map_cons, List.map_nil, Option.some.injEq, reduceCtorEq, Bool.not_eq_eq_eq_not, eEnumK_W, eDk1_W, eXf_W, eIsX_W, sTry_W])
/-- whether some word is read as none -/
def Unread (n : Nat) (m r : Int) : Prop := ∃ w, Bits w ∧ w.length = n - 1 ∧ (n : Int) < (r - wsum 0 w) % m
theorem unread_iff {n : Nat} {m r : Int} {w : List Int} (hm : (n : Int) + 1 ≤ m) (hb : Bits w) (hl : (w.length : Int) = n - 1) : (n : Int) < (r - wsum 0 w) % m ↔ ∀ (b : Int) (j : Nat), (b = 0 ∨ b = 1) → j ≤ w.length → ¬ Mem n m r (ins b j w) := by
  constructor
  · intro h b j hb1 hj hmem
    have e := (above_dv (k := j) hm hmem (by rw [ins_len]; omega) (del_ins b j w hj)).1
    have := dv_bound hb (bits_getD (bits_ins hb hb1 hj) j) hj
    omega
  · intro h
    by_cases c : (n : Int) < (r - wsum 0 w) % m
    · exact c
    · have z0 := Int.emod_nonneg (r - wsum 0 w) (show m ≠ 0 by omega)
      obtain ⟨b, i, h1, h2, h3⟩ := dv_all (z := (r - wsum 0 w) % m) hb z0 (by omega)
      exact absurd (mem_ins hb hl h1 h2 h3) (h b i h1 h2)
theorem law_small_unread_ok {n : Nat} {m r : Int} {Q : Dt → Prop} {E : Xc → Prop} (h1 : 1 ≤ n) (hn : n ≤ 5) (hm : (n : Int) + 1 ≤ m) (qt : Unread n m r → Q (.bl true)) (qf : ¬ Unread n m r → Q (.bl false)) : F_law_small_unread [.d (.lst [.int n, .int m, .int r])] Q E := by
  have hp : 2 ^ n ≤ 100 := Nat.le_trans (Nat.pow_le_pow_right (by decide) (show n ≤ 6 by omega)) (by decide)
  have hp2 : 2 ^ (n - 1) ≤ 100 := Nat.le_trans (Nat.pow_le_pow_right (by decide) (show n - 1 ≤ 6 by omega)) (by decide)
  have tail : ∀ (ks : List (List Key)) (ds : List Dt) (s3 s4 : Sl) (D : DEn), D.rt = Q → KeysAre ks ds (Mem n m r) → S_law_small_unread_r6 D [.d (.lst [.int n, .int m, .int r]), .d (.int n), .own (.dt ks ds), s3, s4] := fun ks ds s3 s4 D hD hk => by
    rw [S_law_small_unread_r6_eq]
    walk_at "wp"
    rw [show (n : Int) - 1 = ((n - 1 : Nat) : Int) by omega]
    refine law_all_words_ok (q := 2) (by decide) (by decide) (by omega) (by omega) ?_
    walk_at "wp"
    refine dFor_inv (fun i e => ∃ s3 s4, e = [.d (.lst [.int n, .int m, .int r]), .d (.int n), .own (.dt ks ds), s3, s4] ∧ ∀ w ∈ (allW 2 (n - 1)).take i, ¬ (n : Int) < (r - wsum 0 w) % m) ⟨_, _, rfl, fun w hw => by simp at hw⟩ ?_ ?_
    · rintro i x _ K B hx ⟨s3, s4, rfl, hno⟩ hK
      obtain ⟨w, hw, rfl⟩ := map_get hx
      obtain ⟨wl, wb⟩ := bits_allW.mp (List.mem_of_getElem? hw)
      have ui := unread_iff (r := r) hm wb (by omega)
      walk_at "wp"
      rw [S_law_small_unread_b7_eq]
      walk_at "wp"
      refine law_more_one_ok wb (by omega) fun ws hws hrise => ?_
      walk_at "wp"
      refine lc_map (e := iT) (xs := ws) (fun u => Dt.bl (!(valD ks ds (u.map .inl)).isSome)) (fun u hu K1 h1 => ?_) (by
        have hw2 : 2 ^ (w.length + 1) ≤ 1000 := Nat.le_trans (Nat.pow_le_pow_right (by decide) (show w.length + 1 ≤ 9 by omega)) (by decide)
        have := nodup_len (rising_nodup hrise) (ys := allW 2 (w.length + 1)) fun u hu => by
          obtain ⟨b, j, hb, hj, rfl⟩ := (hws u).mp hu
          exact bits_allW.mpr ⟨ins_len b j w, bits_ins wb hb hj⟩
        rw [allW_len] at this
        omega) ?_
      · walk_at "wp"
        refine ⟨rfl, _, _, rfl, get_dt, h1⟩
      · walk_at "wp"
        unfold dAll
        refine ⟨ws.map fun u => !(valD ks ds (u.map .inl)).isSome, by rw [List.map_map]; rfl, ?_⟩
        have e : ((ws.map fun u => !(valD ks ds (u.map .inl)).isSome).all id = true) ↔ (n : Int) < (r - wsum 0 w) % m := by
          rw [ui, List.all_eq_true]
          constructor
          · intro h b j hb hj hmem
            have := h _ (List.mem_map.mpr ⟨ins b j w, (hws _).mpr ⟨b, j, hb, hj, rfl⟩, rfl⟩)
            rw [(hk (ins b j w)).mpr hmem] at this
            cases this
          · intro h x hx
            obtain ⟨u, hu, rfl⟩ := List.mem_map.mp hx
            obtain ⟨b, j, hb, hj, rfl⟩ := (hws u).mp hu
            have nm := h b j hb hj
            cases z : (valD ks ds ((ins b j w).map .inl)).isSome with
            | false => rfl
            | true => exact absurd ((hk _).mp z) nm
        walk_at "wp"
        cases z : (ws.map fun u => !(valD ks ds (u.map .inl)).isSome).all id with
        | true =>
          walk_at "wp"
          rw [hD]
          exact qt ⟨w, wb, wl, e.mp z⟩
        | false =>
          walk_at "wp"
          refine hK _ ⟨_, _, rfl, fun u hu => ?_⟩
          rw [take_snoc hw] at hu
          rcases List.mem_append.mp hu with hu | hu
          · exact hno u hu
          · rw [List.mem_singleton.mp hu]
            exact fun c => by rw [e.mpr c] at z; cases z
    · rintro _ ⟨s3, s4, rfl, hno⟩
      rw [List.length_map, List.take_length] at hno
      rw [S_law_small_unread_r9_eq]
      walk_at "wp"
      rw [hD]
      exact qf fun ⟨w, wb, wl, c⟩ => hno w (bits_allW.mpr ⟨wl, wb⟩) c
  rw [F_law_small_unread_eq]; unfold S_law_small_unread
  walk_at "wp"
  refine ix_get (n := 0) rfl rfl ?_
  rw [S_law_small_unread_r2_eq]
  walk_at "wp"
  rw [S_law_small_unread_r3_eq]
  walk_at "wp"
  refine law_all_words_ok (q := 2) (by decide) (by decide) (by omega) (by omega) ?_
  walk_at "wp"
  have hlen := allW_len 2 n
  refine dFor_inv (fun i e => ∃ ks ds s3 s4, e = [.d (.lst [.int n, .int m, .int r]), .d (.int n), .own (.dt ks ds), s3, s4] ∧ ks.Nodup ∧ ks.length = ds.length ∧ ks.length ≤ i ∧ KeysAre ks ds fun u => u ∈ (allW 2 n).take i ∧ Mem n m r u) ⟨[], [], _, _, rfl, List.nodup_nil, rfl, Nat.zero_le _, fun u => ⟨fun h => (by cases h), fun h => (by simp at h)⟩⟩ ?_ ?_
  · rintro i x _ K B hx ⟨ks, ds, s3, s4, rfl, q1, q2, q3, q4⟩ hK
    obtain ⟨u, hu, rfl⟩ := map_get hx
    have um := List.mem_of_getElem? hu
    have hi : i < (allW 2 n).length := (List.getElem?_eq_some_iff.mp hu).1
    obtain ⟨ul, ub⟩ := bits_allW.mp um
    have tk := take_snoc hu
    walk_at "wp"
    rw [S_law_small_unread_b4_eq]
    walk_at "wp"
    refine law_sum_ok ub (by omega) ?_
    walk_at "wp"
    refine ix_get (n := 2) rfl rfl ?_
    walk_at "wp"
    refine ix_get (n := 1) rfl rfl ?_
    walk_at "wp"
    refine ⟨by omega, ?_⟩
    walk_at "wp"
    refine iteQ (fun c => ?_) fun c => ?_
    · refine ⟨⟨q1, by show ks.length < 16777216; omega⟩, _, put_dt, hK _ ⟨_, _, _, _, rfl, putKs_nodup q1, put_len q2, Nat.le_trans putKs_len (Nat.succ_le_succ q3), fun v => ?_⟩⟩
      rw [valD_put q2, tk]
      show _ ↔ v ∈ (allW 2 n).take i ++ [u] ∧ Mem n m r v
      rw [List.mem_append, List.mem_singleton]
      by_cases z : v.map (Sum.inl : Int → Key) = u.map .inl
      · rw [if_pos z]
        have z := inl_inj.mp z
        exact ⟨fun _ => ⟨.inr z, by rw [z]; exact ⟨ub, by omega, c⟩⟩, fun _ => rfl⟩
      · rw [if_neg z]
        refine (q4 v).trans ⟨fun h => ⟨.inl h.1, h.2⟩, fun h => ⟨h.1.elim id fun e => absurd (by rw [e]) z, h.2⟩⟩
    · refine hK _ ⟨ks, ds, _, _, rfl, q1, q2, by omega, fun v => ?_⟩
      rw [tk]
      show _ ↔ v ∈ (allW 2 n).take i ++ [u] ∧ Mem n m r v
      rw [List.mem_append, List.mem_singleton]
      refine (q4 v).trans ⟨fun h => ⟨.inl h.1, h.2⟩, fun h => ⟨h.1.elim id fun e => absurd (by rw [← e]; exact h.2.2.2) c, h.2⟩⟩
  · rintro _ ⟨ks, ds, s3, s4, rfl, q1, q2, q3, q4⟩
    rw [List.length_map, List.take_length] at q4
    refine tail ks ds _ _ _ rfl fun u => (q4 u).trans ⟨fun h => h.2, fun h => ⟨bits_allW.mpr ⟨by have := h.2.1; omega, h.1⟩, h⟩⟩
end Mine

namespace Mine
open PySem PySem.Spec PyProof.Rows L2
local macro_rules | `(tactic| walk_at "wp") => `(tactic| try simp -implicitDefEqProofs only [eFld_W, eFldS_W, sSetF_W, eMeth_W, eMeth0_W, eProp_W, mkI_W, mkI0_W, eVarD_W, eDic_W, eGet1_W, eGet2_W, eAtD_W, eInD_W, eNotInD_W, sOwnD_W, sPutD_W, Bool.false_eq_true, LINE_W, line0, line1, line2, line3, line4, line5, line6, line7, line8, line9, line10, line11, line12, take_W, Int.reduceLT, Int.reduceLE, Int.reduceNeg, mkD_W, mkD0_W, sSeq_W, sAsg_W, sRet_W, sRetN_W, sIf_W, sNext_W, sDrop_W, sBreak_W, sCont_W, sOwn_W, sPar_W, sPar3_W, sFrz_W, frz_W, fz_lst, fz_dk, fz_dt, sApp_W, sExt_W, sPop_W, sPopTo_W, sPut_W, sAugP_W, sAug_W, sFor_W, sRaise_W, sRaise1_W, gD_W, gD2_W, gD3_W, eVar_W, eVarB_W, eC_W, eOp_W, eUn_W, eCB_W, eNil_W, eCons_W, eConsS_W, eConsH_W, eTup_W, eLst_W, eCall_W, eCall0_W, eTest_W, eNotT_W, eAndT_W, eOrT_W, eTru_W, dTru_non, dTru_bl, dTru_int, dTru_lst, dTru_tup, dTru_str, dTru_dk, eBool_W, eAndV_W, eOrV_W, eNotV_W, eNotVT_W, eIf_W, eChain_W, eLc_W, eLc2_W, eYes_W, eSeq_W, eRng1_W, eRng2_W, eEnum_W, eZip_W, eSl_W, ePart_W, eNoPart_W, eRev_W, eRevL_W, eDk0_W, dAdd_int, dAdd_lst, dAdd_tup, dAdd_str, dAddL_lst, dSub_int, dMul_int, dMul_lst, dMulL_lst, dMul_tup, dFdiv_int, dMod_int, dPow_int, dShl_int, dShr_int, dLe_int, dLt_int, dGt_int, dGe_int, dNeg_int, isa_seq2, isLs_lst, isLs_tup, Bool.or_false, Bool.or_true, Bool.true_or, Bool.false_or, Bool.and_true, Bool.true_and, Bool.and_false, Bool.false_and, isSeq_lst, isSeq_tup, isTp_tup, isTp_lst, isTp_non, isTp_int, isTp_str, isW_int, dIsN_W, dNotN_W, isN_non, isN_int, isN_bl, isN_str, isN_tup, isN_lst, isN_dk, isN_dt, isN_ins, dIx_W, dSl_W, dSlL_W, dLen_W, dInt_W, dStr_W, dAbs_W, dMax2_W, dMin2_W, dTupOf_W, dLstOf_W, dIsi_W, dIsi2_W, kn_int, kn_bl, kn_non, kn_str, kn_tup, kn_lst, kn_dk, kn_dt, isa_int_int, isa_int_bool, isa_tup_tup, isa_bl_bool, isa_seq_tup, isa_seq_lst, isa_int, isa_bool, isa_seq, isa_tup, isa_str, isa_lst, dEq_int, dNe_int, Dt.flat, wipeS, List.getElem?_cons_zero, List.getElem?_cons_succ, List.set_cons_zero, List.set_cons_succ, List.replicate, List.append_nil, List.cons_append, List.nil_append, List.length_cons, List.length_nil, Nat.reduceAdd, Nat.reduceSub, Nat.zero_add, Option.isSome_some, Bool.true_eq_false, Bool.false_eq_true, if_true, if_false, ite_true, ite_false, eq_self, not_true_eq_false, not_false_eq_true, true_and, and_true, decide_eq_true_eq, Bool.not_true, Bool.not_false, Bool.not_eq_true', decide_eq_false_iff_not, decide_true, decide_false, List.length_map, List.map_cons, List.map_nil, Option.some.injEq, reduceCtorEq, Bool.not_eq_eq_eq_not, eEnumK_W, eDk1_W, eXf_W, eIsX_W, sTry_W])
theorem law_odd_ok {n : Int} {Q : Dt → Prop} {E : Xc → Prop} (hn : 0 ≤ n) (q : ∀ d : Dt, d.kind.isSome = true → inB 0 n d = false → Q d) : F_law_odd [.hand, .d (.int n)] Q E := by
  rw [F_law_odd_eq]; unfold S_law_odd
  walk_at "wp"
  refine fun r1 _ r2 _ k hk => ix_mem (by show k < 8; omega) fun d hd => ?_
  simp only [List.mem_cons, List.not_mem_nil, or_false] at hd
  rcases hd with h | h | h | h | h | h | h | h <;> subst h <;> refine q _ rfl ?_ <;> simp [inB] <;> omega
end Mine

namespace Mine
open PySem PySem.Spec PyProof.Rows L2
local macro_rules | `(tactic| walk_at "wp") => `(tactic| try simp -implicitDefEqProofs only [eFld_W, eFldS_W, sSetF_W, eMeth_W, eMeth0_W, eProp_W, mkI_W, mkI0_W, eVarD_W, eDic_W, eGet1_W, eGet2_W, eAtD_W, eInD_W, eNotInD_W, sOwnD_W, sPutD_W, Bool.false_eq_true, LINE_W, line0, line1, line2, line3, line4, line5, line6, line7, line8, line9, line10, line11, line12, take_W, Int.reduceLT, Int.reduceLE, Int.reduceNeg, mkD_W, mkD0_W, sSeq_W, sAsg_W, sRet_W, sRetN_W, sIf_W, sNext_W, sDrop_W, sBreak_W, sCont_W, sOwn_W, sPar_W, sPar3_W, sFrz_W, frz_W, fz_lst, fz_dk, fz_dt, sApp_W, sExt_W, sPop_W, sPopTo_W, sPut_W, sAugP_W, sAug_W, sFor_W, sRaise_W, sRaise1_W, gD_W, gD2_W, gD3_W, eVar_W, eVarB_W, eC_W, eOp_W, eUn_W, eCB_W, eNil_W, eCons_W, eConsS_W, eConsH_W, eTup_W, eLst_W, eCall_W, eCall0_W, eTest_W, eNotT_W, eAndT_W, eOrT_W, eTru_W, dTru_non, dTru_bl, dTru_int, dTru_lst, dTru_tup, dTru_str, dTru_dk, eBool_W, eAndV_W, eOrV_W, eNotV_W, eNotVT_W, eIf_W, eChain_W, eLc_W, eLc2_W, eYes_W, eSeq_W, eRng1_W, eRng2_W, eEnum_W, eZip_W, eSl_W, ePart_W, eNoPart_W, eRev_W, eRevL_W, eDk0_W, dAdd_int, dAdd_lst, dAdd_tup, dAdd_str, dAddL_lst, dSub_int, dMul_int, dMul_lst, dMulL_lst, dMul_tup, dFdiv_int, dMod_int, dPow_int, dShl_int, dShr_int, dLe_int, dLt_int, dGt_int, dGe_int, dNeg_int, isa_seq2, isLs_lst, isLs_tup, Bool.or_false, Bool.or_true, Bool.true_or, Bool.false_or, Bool.and_true, Bool.true_and, Bool.and_false, Bool.false_and, isSeq_lst, isSeq_tup, isTp_tup, isTp_lst, isTp_non, isTp_int, isTp_str, isW_int, dIsN_W, dNotN_W, isN_non, isN_int, isN_bl, isN_str, isN_tup, isN_lst, isN_dk, isN_dt, isN_ins, dIx_W, dSl_W, dSlL_W, dLen_W, dInt_W, dStr_W, dAbs_W, dMax2_W, dMin2_W, dTupOf_W, dLstOf_W, dIsi_W, dIsi2_W, kn_int, kn_bl, kn_non, kn_str, kn_tup, kn_lst, kn_dk, kn_dt, isa_int_int, isa_int_bool, isa_tup_tup, isa_bl_bool, isa_seq_tup, isa_seq_lst, isa_int, isa_bool, isa_seq, isa_tup, isa_str, isa_lst, dEq_int, dNe_int, Dt.flat, wipeS, List.getElem?_cons_zero, List.getElem?_cons_succ, List.set_cons_zero, List.set_cons_succ, List.replicate, List.append_nil, List.cons_append, List.nil_append, List.length_cons, List.length_nil, Nat.reduceAdd, Nat.reduceSub, Nat.zero_add, Option.isSome_some, Bool.true_eq_false, Bool.false_eq_true, if_true, if_false, ite_true, ite_false, eq_self, not_true_eq_false, not_false_eq_true, true_and, and_true, decide_eq_true_eq, Bool.not_true, Bool.not_false, Bool.not_eq_true', decide_eq_false_iff_not, decide_true, decide_false, List.length_map, List.map_cons, List.map_nil, Option.some.injEq, reduceCtorEq, Bool.not_eq_eq_eq_not, eEnumK_W, eDk1_W, eXf_W, eIsX_W, sTry_W])
theorem str_sh (z : Str) (h : PyData.strOk z = true) : (Dt.str z).sh := (shN_str h).sh
theorem unread_zero {m r : Int} {Q : Dt → Prop} {E : Xc → Prop} (q : E ⟨"BadNumber", []⟩) : F_unread_word [.d (bk 0 m r)] Q E := by
  rw [F_unread_word_eq]; unfold S_unread_word
  walk_at "wp"
  simp only [bk, ftab_SumBook_length, ftab_SumBook_modulus, ftab_SumBook_rest, look_SumBook_length, look_SumBook_modulus, look_SumBook_rest, true_and, Option.some.injEq, exists_eq_left']
  walk_at "wp"
  exact q
theorem refused_number {x y z : Dt} {Q : Dt → Prop} {E : Xc → Prop} (hx : x.kind.isSome = true) (h : inB 0 200 x = false) (q : Q (.str "number")) : F_law_refused [.d x, .d y, .d z] Q E := by
  rw [F_law_refused_eq]; unfold S_law_refused
  walk_at "wp"
  rw [F_modulus_clash_eq]; unfold S_modulus_clash
  walk_at "wp"
  refine check_number_ok hx (fun b => by rw [h] at b; cases b) fun _ => ?_
  refine ⟨true, mt_BadNumber_BadNumber, ?_⟩
  rw [if_pos rfl]
  exact q
theorem refused_modulus {x y z : Dt} {Q : Dt → Prop} {E : Xc → Prop} (hx : x.kind.isSome = true) (hx2 : inB 0 200 x = true) (hy : y.kind.isSome = true) (h : inB 1 1000000 y = false) (q : Q (.str "modulus")) : F_law_refused [.d x, .d y, .d z] Q E := by
  rw [F_law_refused_eq]; unfold S_law_refused
  walk_at "wp"
  rw [F_modulus_clash_eq]; unfold S_modulus_clash
  walk_at "wp"
  refine check_number_ok hx (fun _ => ?_) fun b => by rw [hx2] at b; cases b
  refine check_modulus_ok hy (fun b => by rw [h] at b; cases b) fun _ => ?_
  refine ⟨false, mt_BadModulus_BadNumber, ?_⟩
  rw [if_neg (by decide)]
  refine ⟨true, mt_BadModulus_BadModulus, ?_⟩
  rw [if_pos rfl]
  exact q
theorem refused_rest {x z : Dt} {m : Int} {Q : Dt → Prop} {E : Xc → Prop} (hx : x.kind.isSome = true) (hx2 : inB 0 200 x = true) (hm : 1 ≤ m) (hm2 : m ≤ 1000000) (hz : z.kind.isSome = true) (h : inB 0 (m - 1) z = false) (q : Q (.str "rest")) : F_law_refused [.d x, .d (.int m), .d z] Q E := by
  rw [F_law_refused_eq]; unfold S_law_refused
  walk_at "wp"
  rw [F_modulus_clash_eq]; unfold S_modulus_clash
  walk_at "wp"
  refine check_number_ok hx (fun _ => ?_) fun b => by rw [hx2] at b; cases b
  refine check_modulus_ok rfl (fun _ => ?_) fun b => by rw [inB_int hm hm2] at b; cases b
  refine check_rest_ok hz (fun b => by rw [h] at b; cases b) fun _ => ?_
  refine ⟨false, mt_BadRest_BadNumber, ?_⟩
  rw [if_neg (by decide)]
  refine ⟨false, mt_BadRest_BadModulus, ?_⟩
  rw [if_neg (by decide)]
  refine ⟨true, mt_BadRest_BadRest, ?_⟩
  rw [if_pos rfl]
  exact q
theorem law_refusals_ok {n : Nat} {Q : Dt → Prop} {E : Xc → Prop} (hn : n ≤ 200) (q : Q (.bl true)) : F_law_refusals [.hand, .d (.int n)] Q E := by
  rw [F_law_refusals_eq]; unfold S_law_refusals
  walk_at "wp"
  intro t ht
  rw [S_law_refusals_r2_eq]
  walk_at "wp"
  refine fun a ha k hk => ix_mem (by show k < 5; omega) fun d hd => ?_
  obtain ⟨dk, db⟩ : d.kind.isSome = true ∧ inB 1 1000000 d = false := by
    simp only [List.mem_cons, List.not_mem_nil, or_false] at hd
    rcases hd with h | h | h | h | h <;> subst h <;> refine ⟨rfl, ?_⟩ <;> simp [inB] <;> omega
  rw [S_law_refusals_r3_eq]
  walk_at "wp"
  intro w hw
  rw [S_law_refusals_r4_eq]
  walk_at "wp"
  refine law_odd_ok (n := 200) (by decide) fun o ok ob => ?_
  refine ix_mem (by show w < 2; omega) fun y hy => ?_
  refine fun k2 hk2 => ix_mem (by show k2 < 2; omega) fun z hz => ?_
  refine refused_number ok ob (dNe_self (str_sh _ (by decide +kernel)) ?_)
  walk_at "wp"
  rw [S_law_refusals_r6_eq]
  walk_at "wp"
  refine ix_mem (by show w < 2; omega) fun z2 hz2 => ?_
  refine refused_modulus rfl (inB_int (by omega) (by omega)) dk db (dNe_self (str_sh _ (by decide +kernel)) ?_)
  walk_at "wp"
  refine law_odd_ok (by omega) fun o2 ok2 ob2 => ?_
  refine refused_rest rfl (inB_int (by omega) (by omega)) (by omega) (by omega) ok2 ob2 (dNe_self (str_sh _ (by decide +kernel)) ?_)
  walk_at "wp"
  rw [S_law_refusals_r8_eq]
  walk_at "wp"
  refine fun s hs => make_ok (by decide) (by decide) (by omega) (by omega) (by decide) (by omega) ?_
  refine unread_zero ?_
  refine ⟨true, mt_BadNumber_BadNumber, ?_⟩
  rw [if_pos rfl]
  exact q
theorem low_word {n : Nat} {r : Int} (hr : 0 ≤ r) (hr2 : r < n) : ∃ w, Bits w ∧ w.length = n - 1 ∧ wsum 0 w = r := by
  let f : Nat → Int := fun k => if 1 + (k : Int) = r then 1 else 0
  refine ⟨(List.range (n - 1)).map f, fun x hx => ?_, by rw [List.length_map, List.length_range], ?_⟩
  · obtain ⟨k, _, rfl⟩ := List.mem_map.mp hx
    show f k = 0 ∨ f k = 1
    by_cases z : 1 + (k : Int) = r
    · exact .inr (if_pos z)
    · exact .inl (if_neg z)
  · rw [wsum_map]
    by_cases z : r = 0
    · rw [wfun_congr (g := fun _ => 0) _ fun k _ => if_neg (by omega), wfun_zero, z]
    · have := wfun_put (f := fun _ => 0) (g := f) (p := (r - 1).toNat) (if_pos (by omega)) (fun k hk => if_neg (by omega)) (n - 1)
      rw [this, wfun_zero, if_pos (by omega)]; omega
theorem clash_of {n : Nat} {m r : Int} (hm : 1 ≤ m) (hmn : m ≤ n) (hr : 0 ≤ r) (hr2 : r < m) : ∃ u v k j, Mem n m r u ∧ Mem n m r v ∧ k < n ∧ j < n ∧ del k u = del j v ∧ u ≠ v := by
  obtain ⟨w, wb, wl, ws⟩ := low_word (n := n) hr (by omega)
  obtain ⟨b1, i1, h1, h2, h3⟩ := dv_all (z := 0) wb (by decide) (by omega)
  obtain ⟨b2, i2, g1, g2, g3⟩ := dv_all (z := m) wb (by omega) (by omega)
  have s1 := wsum_ins0 (b := b1) (i := i1) (y := w) h2
  have s2 := wsum_ins0 (b := b2) (i := i2) (y := w) g2
  refine ⟨ins b1 i1 w, ins b2 i2 w, i1, i2, ⟨bits_ins wb h1 h2, by rw [ins_len]; omega, ?_⟩, ⟨bits_ins wb g1 g2, by rw [ins_len]; omega, ?_⟩, by omega, by omega, ?_, fun e => ?_⟩
  · rw [s1, ws, h3, show r + 0 - r = 0 by omega]; exact Int.zero_emod m
  · rw [s2, ws, g3, show r + m - r = m by omega]; exact Int.emod_self
  · rw [del_ins b1 i1 w h2, del_ins b2 i2 w g2]
  · rw [e] at s1; omega
end Mine

namespace Mine
open PySem PySem.Spec PyProof.Rows L2
local macro_rules | `(tactic| walk_at "wp") => `(tactic| try simp -implicitDefEqProofs only [eFld_W, eFldS_W, sSetF_W, eMeth_W, eMeth0_W, eProp_W, mkI_W, mkI0_W, eVarD_W, eDic_W, eGet1_W, eGet2_W, eAtD_W, eInD_W, eNotInD_W, sOwnD_W, sPutD_W, Bool.false_eq_true, LINE_W, line0, line1, line2, line3, line4, line5, line6, line7, line8, line9, line10, line11, line12, take_W, Int.reduceLT, Int.reduceLE, Int.reduceNeg, mkD_W, mkD0_W, sSeq_W, sAsg_W, sRet_W, sRetN_W, sIf_W, sNext_W, sDrop_W, sBreak_W, sCont_W, sOwn_W, sPar_W, sPar3_W, sFrz_W, frz_W, fz_lst, fz_dk, fz_dt, sApp_W, sExt_W, sPop_W, sPopTo_W, sPut_W, sAugP_W, sAug_W, sFor_W, sRaise_W, sRaise1_W, gD_W, gD2_W, gD3_W, eVar_W, eVarB_W, eC_W, eOp_W, eUn_W, eCB_W, eNil_W, eCons_W, eConsS_W, eConsH_W, eTup_W, eLst_W, eCall_W, eCall0_W, eTest_W, eNotT_W, eAndT_W, eOrT_W, eTru_W, dTru_non, dTru_bl, dTru_int, dTru_lst, dTru_tup, dTru_str, dTru_dk, eBool_W, eAndV_W, eOrV_W, eNotV_W, eNotVT_W, eIf_W, eChain_W, eLc_W, eLc2_W, eYes_W, eSeq_W, eRng1_W, eRng2_W, eEnum_W, eZip_W, eSl_W, ePart_W, eNoPart_W, eRev_W, eRevL_W, eDk0_W, dAdd_int, dAdd_lst, dAdd_tup, dAdd_str, dAddL_lst, dSub_int, dMul_int, dMul_lst, dMulL_lst, dMul_tup, dFdiv_int, dMod_int, dPow_int, dShl_int, dShr_int, dLe_int, dLt_int, dGt_int, dGe_int, dNeg_int, isa_seq2, isLs_lst, isLs_tup, Bool.or_false, Bool.or_true, Bool.true_or, Bool.false_or, Bool.and_true, Bool.true_and, Bool.and_false, Bool.false_and, isSeq_lst, isSeq_tup, isTp_tup, isTp_lst, isTp_non, isTp_int, isTp_str, isW_int, dIsN_W, dNotN_W, isN_non, isN_int, isN_bl, isN_str, isN_tup, isN_lst, isN_dk, isN_dt, isN_ins, dIx_W, dSl_W, dSlL_W, dLen_W, dInt_W, dStr_W, dAbs_W, dMax2_W, dMin2_W, dTupOf_W, dLstOf_W, dIsi_W, dIsi2_W, kn_int, kn_bl, kn_non, kn_str, kn_tup, kn_lst, kn_dk, kn_dt, isa_int_int, isa_int_bool, isa_tup_tup, isa_bl_bool, isa_seq_tup, isa_seq_lst, isa_int, isa_bool, isa_seq, isa_tup, isa_str, isa_lst, dEq_int, dNe_int, Dt.flat, wipeS, List.getElem?_cons_zero, List.getElem?_cons_succ, List.set_cons_zero, List.set_cons_succ, List.replicate, List.append_nil, List.cons_append, List.nil_append, List.length_cons, List.length_nil, Nat.reduceAdd, Nat.reduceSub, Nat.zero_add, Option.isSome_some, Bool.true_eq_false, Bool.false_eq_true, if_true, if_false, ite_true, ite_false, eq_self, not_true_eq_false, not_false_eq_true, true_and, and_true, decide_eq_true_eq, Bool.not_true, Bool.not_false, Bool.not_eq_true', decide_eq_false_iff_not, decide_true, decide_false, List.length_map, List.map_cons, List.map_nil, Option.some.injEq, reduceCtorEq, Bool.not_eq_eq_eq_not, eEnumK_W, eDk1_W, eXf_W, eIsX_W, sTry_W])
theorem law_b4 {n : Nat} {m : Int} {D : DEn} {s0 s4 s5 s6 s7 : Sl} (hn : n ≤ 6) (hm : 1 ≤ m) (hm2 : m ≤ 1000) (q : ∀ s4, D.nx [s0, .hand, .d (.int n), .d (.int m), s4, s5, s6, s7]) : S_law_b4 D [s0, .hand, .d (.int n), .d (.int m), s4, s5, s6, s7] := by
  rw [S_law_b4_eq]
  walk_at "wp"
  refine ⟨by omega, fun r hr => ?_⟩
  rw [S_law_r5_eq]
  walk_at "wp"
  refine law_has_clash_ok (by omega) (by omega) (fun u v k j mu mv hk hj e ne => ?_) fun h => ?_
  · by_cases c : m ≤ n
    · rw [decide_eq_true c]
      refine eqE_bl.dNe ?_
      walk_at "wp"
      refine law_modulus_right_ok (by omega) hm (by omega) (by omega) hr ?_
      walk_at "wp"
      exact q _
    · exact absurd (above_inj (by omega) mu (by have := mu.2.1; omega) mv (by have := mv.2.1; omega) e) ne
  · by_cases c : m ≤ n
    · obtain ⟨u, v, k, j, mu, mv, hk, hj, e, ne⟩ := clash_of (r := (r : Int)) hm c (by omega) hr
      exact absurd (h u v k j mu mv hk hj e) ne
    · rw [decide_eq_false c]
      refine eqE_bl.dNe ?_
      walk_at "wp"
      refine law_modulus_right_ok (by omega) hm (by omega) (by omega) hr ?_
      walk_at "wp"
      exact q _
theorem law_r15 {n t : Nat} {m r : Int} {D : DEn} {s0 s2 s3 s4 : Sl} (h1 : 1 ≤ n) (hn : n ≤ 200) (ht : t < 2 → n ≤ 5) (hm : (n : Int) + 1 ≤ m) (hr : 0 ≤ r) (hr2 : r < m) (q : D.nx [s0, .hand, s2, s3, s4, .d (.int t), .d (.lst [.int n, .int m, .int r]), .d (bk n m r)]) :
    S_law_r15 D [s0, .hand, s2, s3, s4, .d (.int t), .d (.lst [.int n, .int m, .int r]), .d (bk n m r)] := by
  rw [S_law_r15_eq]
  walk_at "wp"
  refine law_unread_right_ok h1 hn hm hr hr2 ?_
  walk_at "wp"
  rw [S_law_r17_eq]
  walk_at "wp"
  refine iteQ (fun c => ?_) fun _ => q
  refine law_small_unread_ok h1 (ht (by omega)) hm (fun hu => ?_) fun hu => ?_
  · obtain ⟨w, wb, wl, wu⟩ := hu
    refine unread_word_ok h1 hn hm hr hr2 (fun hc => by have := all_read h1 hm hr hr2 hc wb wl; omega) fun u _ _ _ _ => ?_
    walk_at "wp"
    refine eqE_bl.dNe ?_
    walk_at "wp"
    exact q
  · refine unread_word_ok h1 hn hm hr hr2 (fun hc => ?_) fun u _ ub ul uu => absurd ⟨u, ub, ul, uu⟩ hu
    walk_at "wp"
    refine eqE_bl.dNe ?_
    walk_at "wp"
    exact q
theorem law_r9 {n t : Nat} {D : DEn} {s0 s3 s4 s6 s7 : Sl} (hn : n ≤ 200) (ht : t < 4) (q : ∀ s3 s4 s6 s7, D.nx [s0, .hand, .d (.int n), s3, s4, .d (.int t), s6, s7]) : S_law_r9 D [s0, .hand, .d (.int n), s3, s4, .d (.int t), s6, s7] := by
  rw [S_law_r9_eq]
  walk_at "wp"
  refine ⟨by omega, fun a ha b hb c hc => ix_mem (by show c < 4; omega) fun d hd => ?_⟩
  obtain ⟨m, rfl, hm, hm2⟩ : ∃ m : Int, d = .int m ∧ 1 ≤ m ∧ m ≤ 1000000 := by
    simp only [List.mem_cons, List.not_mem_nil, or_false] at hd
    rcases hd with h | h | h | h
    · exact ⟨_, h, by omega, by omega⟩
    · refine ⟨_, h, ?_, ?_⟩ <;> split <;> omega
    · exact ⟨_, h, by omega, by omega⟩
    · exact ⟨_, h, by omega, by omega⟩
  rw [S_law_r10_eq]
  walk_at "wp"
  refine ⟨by omega, fun r0 hr0 c2 hc2 => ix_mem (by show c2 < 3; omega) fun d hd => ?_⟩
  obtain ⟨r, rfl, hr, hr2⟩ : ∃ r : Int, d = .int r ∧ 0 ≤ r ∧ r < m := by
    simp only [List.mem_cons, List.not_mem_nil, or_false] at hd
    rcases hd with h | h | h <;> exact ⟨_, h, by omega, by omega⟩
  rw [S_law_r11_eq]
  walk_at "wp"
  refine law_modulus_right_ok hn hm hm2 hr hr2 ?_
  walk_at "wp"
  rw [S_law_r13_eq]
  walk_at "wp"
  refine ⟨by unfold CDiv; omega, ?_⟩
  rw [show (t : Int) / 2 = ((t / 2 : Nat) : Int) by omega]
  obtain ⟨x, hx, hx2⟩ : ∃ x : Nat, [Dt.int 5, Dt.int 200][t / 2]? = some (Dt.int x) ∧ 1 ≤ x ∧ x ≤ 200 ∧ (t < 2 → x ≤ 5) := by
    by_cases z : t < 2
    · rw [show t / 2 = 0 by omega]; exact ⟨5, rfl, by omega⟩
    · rw [show t / 2 = 1 by omega]; exact ⟨200, rfl, by omega⟩
  refine ix_get rfl hx ?_
  walk_at "wp"
  refine ⟨by omega, fun y hy => ?_⟩
  rw [show 1 + (y : Int) = ((1 + y : Nat) : Int) by omega]
  refine law_book_of_ok (by omega) fun m' r' k1 k2 k3 k4 => ?_
  rw [S_law_r14_eq]
  walk_at "wp"
  refine ix_get (n := 0) rfl rfl (ix_get (n := 1) rfl rfl (ix_get (n := 2) rfl rfl ?_))
  refine make_ok (by omega) (by omega) k1 k2 k3 k4 ?_
  exact law_r15 (by omega) (by omega) (fun z => by omega) k1 k3 k4 (q _ _ _ _)
theorem goal : Goal := by
  unfold Goal LawGoal S_law
  walk_at "wp"
  intro n hn
  rw [S_law_r3_eq]
  walk_at "wp"
  refine ⟨⟨by decide, by decide, by omega, by omega⟩, ?_⟩
  refine dFor_inv (fun i e => ∃ s3 s4, e = [.no, .hand, .d (.int n), s3, s4, .no, .no, .no]) ⟨_, _, rfl⟩ ?_ ?_
  · rintro i x _ K B hx ⟨s3, s4, rfl⟩ hK
    rw [List.getElem?_map, Option.map_eq_some_iff] at hx
    obtain ⟨k, hk, rfl⟩ := hx
    obtain ⟨hi, ek⟩ := List.getElem?_eq_some_iff.mp hk
    rw [List.length_range] at hi
    rw [List.getElem_range] at ek
    subst ek
    exact law_b4 (by omega) (by omega) (by omega) fun s4 => hK _ ⟨_, _, rfl⟩
  · rintro _ ⟨s3, s4, rfl⟩
    rw [S_law_r7_eq]
    walk_at "wp"
    refine ⟨by decide, ?_⟩
    refine dFor_inv (fun i e => ∃ (n : Nat) (s3 s4 s5 s6 s7 : Sl), e = [.no, .hand, .d (.int n), s3, s4, s5, s6, s7] ∧ n ≤ 200) ⟨n, _, _, _, _, _, rfl, by omega⟩ ?_ ?_
    · rintro i x _ K B hx ⟨n, s3, s4, s5, s6, s7, rfl, hn⟩ hK
      obtain ⟨hi, rfl⟩ := rng_get hx
      have hi : i < 4 := by simpa using hi
      walk_at "wp"
      rw [S_law_b8_eq]
      walk_at "wp"
      refine ⟨by unfold CDiv; omega, ?_⟩
      rw [show (i : Int) / 2 = ((i / 2 : Nat) : Int) by omega]
      obtain ⟨x, hx, hx2⟩ : ∃ x : Nat, [Dt.int 9, Dt.int 201][i / 2]? = some (Dt.int x) ∧ 1 ≤ x ∧ x ≤ 201 := by
        by_cases z : i < 2
        · rw [show i / 2 = 0 by omega]; exact ⟨9, rfl, by omega⟩
        · rw [show i / 2 = 1 by omega]; exact ⟨201, rfl, by omega⟩
      refine ix_get rfl hx ?_
      walk_at "wp"
      refine ⟨by omega, fun n' hn' => ?_⟩
      exact law_r9 (by omega) hi fun s3 s4 s6 s7 => hK _ ⟨_, _, _, _, _, _, rfl, by omega⟩
    · rintro _ ⟨n, s3, s4, s5, s6, s7, rfl, hn⟩
      rw [S_law_r19_eq]
      walk_at "wp"
      exact law_refusals_ok hn rfl
end Mine

namespace Mine
open PySem PySem.Spec PyProof.Rows L2
abbrev PG : Program := PySem.Challenge.pw_lostplaces_k71_whole_moduli_that_bear_on
def top (i : Nat) : Stmt := PG.main.body.getD i (.Pass ⟨0, 0, 0, 0⟩)
abbrev s_wall : Stmt := top 0
abbrev N_wall : List Str := ["k"]
abbrev P_wall : List Str := ["k"]
theorem sc_wall : FnScope N_wall P_wall (defScope s_wall) := ⟨rfl, rfl, rfl, by decide +kernel, rfl, by decide +kernel, by decide +kernel⟩
abbrev D_wall (K : PySem.W.Frag) (f : Addr) (fd : FuncData) : Prop := FunD K "_wall" "_wall" (defArgs s_wall) (defBody s_wall) (defScope s_wall) [] [] f fd
abbrev s_BadWord___init : Stmt := inClass (top 4) 0
abbrev N_BadWord___init : List Str := ["self", "index"]
abbrev P_BadWord___init : List Str := ["self", "index"]
theorem sc_BadWord___init : FnScope N_BadWord___init P_BadWord___init (defScope s_BadWord___init) := ⟨rfl, rfl, rfl, by decide +kernel, rfl, by decide +kernel, by decide +kernel⟩
abbrev D_BadWord___init (K : PySem.W.Frag) (f : Addr) (fd : FuncData) : Prop := FunD K "__init__" "BadWord.__init__" (defArgs s_BadWord___init) (defBody s_BadWord___init) (defScope s_BadWord___init) [] [] f fd
abbrev s_is_whole : Stmt := top 10
abbrev N_is_whole : List Str := ["thing", "low", "high"]
abbrev P_is_whole : List Str := ["thing", "low", "high"]
theorem sc_is_whole : FnScope N_is_whole P_is_whole (defScope s_is_whole) := ⟨rfl, rfl, rfl, by decide +kernel, rfl, by decide +kernel, by decide +kernel⟩
abbrev D_is_whole (K : PySem.W.Frag) (f : Addr) (fd : FuncData) : Prop := FunD K "is_whole" "is_whole" (defArgs s_is_whole) (defBody s_is_whole) (defScope s_is_whole) [.non, .non] [] f fd
abbrev s_check_number : Stmt := top 11
abbrev N_check_number : List Str := ["thing", "low", "high"]
abbrev P_check_number : List Str := ["thing", "low", "high"]
theorem sc_check_number : FnScope N_check_number P_check_number (defScope s_check_number) := ⟨rfl, rfl, rfl, by decide +kernel, rfl, by decide +kernel, by decide +kernel⟩
abbrev D_check_number (K : PySem.W.Frag) (f : Addr) (fd : FuncData) : Prop := FunD K "check_number" "check_number" (defArgs s_check_number) (defBody s_check_number) (defScope s_check_number) [] [] f fd
abbrev s_check_word : Stmt := top 12
abbrev N_check_word : List Str := ["letters", "word", "most", "index", "letter"]
abbrev P_check_word : List Str := ["letters", "word", "most"]
theorem sc_check_word : FnScope N_check_word P_check_word (defScope s_check_word) := ⟨rfl, rfl, rfl, by decide +kernel, rfl, by decide +kernel, by decide +kernel⟩
abbrev D_check_word (K : PySem.W.Frag) (f : Addr) (fd : FuncData) : Prop := FunD K "check_word" "check_word" (defArgs s_check_word) (defBody s_check_word) (defScope s_check_word) [.int (24)] [] f fd
abbrev s_NearPair___init : Stmt := inClass (top 14) 0
abbrev N_NearPair___init : List Str := ["self", "one", "other", "below", "above"]
abbrev P_NearPair___init : List Str := ["self", "one", "other", "below", "above"]
theorem sc_NearPair___init : FnScope N_NearPair___init P_NearPair___init (defScope s_NearPair___init) := ⟨rfl, rfl, rfl, by decide +kernel, rfl, by decide +kernel, by decide +kernel⟩
abbrev D_NearPair___init (K : PySem.W.Frag) (f : Addr) (fd : FuncData) : Prop := FunD K "__init__" "NearPair.__init__" (defArgs s_NearPair___init) (defBody s_NearPair___init) (defScope s_NearPair___init) [] [] f fd
abbrev s_NearPair___eq : Stmt := inClass (top 14) 1
abbrev N_NearPair___eq : List Str := ["self", "other"]
abbrev P_NearPair___eq : List Str := ["self", "other"]
theorem sc_NearPair___eq : FnScope N_NearPair___eq P_NearPair___eq (defScope s_NearPair___eq) := ⟨rfl, rfl, rfl, by decide +kernel, rfl, by decide +kernel, by decide +kernel⟩
abbrev D_NearPair___eq (K : PySem.W.Frag) (f : Addr) (fd : FuncData) : Prop := FunD K "__eq__" "NearPair.__eq__" (defArgs s_NearPair___eq) (defBody s_NearPair___eq) (defScope s_NearPair___eq) [] [] f fd
abbrev s_place_sum : Stmt := top 18
abbrev N_place_sum : List Str := ["word"]
abbrev P_place_sum : List Str := ["word"]
theorem sc_place_sum : FnScope N_place_sum P_place_sum (defScope s_place_sum) := ⟨rfl, rfl, rfl, by decide +kernel, rfl, by decide +kernel, by decide +kernel⟩
abbrev D_place_sum (K : PySem.W.Frag) (f : Addr) (fd : FuncData) : Prop := FunD K "place_sum" "place_sum" (defArgs s_place_sum) (defBody s_place_sum) (defScope s_place_sum) [] [] f fd
abbrev s_sum_of : Stmt := top 19
abbrev N_sum_of : List Str := ["word", "place", "letter"]
abbrev P_sum_of : List Str := ["word"]
theorem sc_sum_of : FnScope N_sum_of P_sum_of (defScope s_sum_of) := ⟨rfl, rfl, rfl, by decide +kernel, rfl, by decide +kernel, by decide +kernel⟩
abbrev D_sum_of (K : PySem.W.Frag) (f : Addr) (fd : FuncData) : Prop := FunD K "_sum_of" "_sum_of" (defArgs s_sum_of) (defBody s_sum_of) (defScope s_sum_of) [] [] f fd
abbrev s_lifted_word : Stmt := top 20
abbrev N_lifted_word : List Str := ["word", "amount", "ones", "at"]
abbrev P_lifted_word : List Str := ["word", "amount"]
theorem sc_lifted_word : FnScope N_lifted_word P_lifted_word (defScope s_lifted_word) := ⟨rfl, rfl, rfl, by decide +kernel, rfl, by decide +kernel, by decide +kernel⟩
abbrev D_lifted_word (K : PySem.W.Frag) (f : Addr) (fd : FuncData) : Prop := FunD K "lifted_word" "lifted_word" (defArgs s_lifted_word) (defBody s_lifted_word) (defScope s_lifted_word) [] [] f fd
abbrev s_index_behind : Stmt := top 21
abbrev N_index_behind : List Str := ["word", "letter", "many", "at"]
abbrev P_index_behind : List Str := ["word", "letter", "many"]
theorem sc_index_behind : FnScope N_index_behind P_index_behind (defScope s_index_behind) := ⟨rfl, rfl, rfl, by decide +kernel, rfl, by decide +kernel, by decide +kernel⟩
abbrev D_index_behind (K : PySem.W.Frag) (f : Addr) (fd : FuncData) : Prop := FunD K "_index_behind" "_index_behind" (defArgs s_index_behind) (defBody s_index_behind) (defScope s_index_behind) [] [] f fd
abbrev s_SumBook___init : Stmt := inClass (top 22) 0
abbrev N_SumBook___init : List Str := ["self", "length", "modulus", "rest"]
abbrev P_SumBook___init : List Str := ["self", "length", "modulus", "rest"]
theorem sc_SumBook___init : FnScope N_SumBook___init P_SumBook___init (defScope s_SumBook___init) := ⟨rfl, rfl, rfl, by decide +kernel, rfl, by decide +kernel, by decide +kernel⟩
abbrev D_SumBook___init (K : PySem.W.Frag) (f : Addr) (fd : FuncData) : Prop := FunD K "__init__" "SumBook.__init__" (defArgs s_SumBook___init) (defBody s_SumBook___init) (defScope s_SumBook___init) [] [] f fd
abbrev s_SumBook___eq : Stmt := inClass (top 22) 1
abbrev N_SumBook___eq : List Str := ["self", "other"]
abbrev P_SumBook___eq : List Str := ["self", "other"]
theorem sc_SumBook___eq : FnScope N_SumBook___eq P_SumBook___eq (defScope s_SumBook___eq) := ⟨rfl, rfl, rfl, by decide +kernel, rfl, by decide +kernel, by decide +kernel⟩
abbrev D_SumBook___eq (K : PySem.W.Frag) (f : Addr) (fd : FuncData) : Prop := FunD K "__eq__" "SumBook.__eq__" (defArgs s_SumBook___eq) (defBody s_SumBook___eq) (defScope s_SumBook___eq) [] [] f fd
abbrev s_SumBook_is_full : Stmt := inClass (top 22) 2
abbrev N_SumBook_is_full : List Str := ["self"]
abbrev P_SumBook_is_full : List Str := ["self"]
theorem sc_SumBook_is_full : FnScope N_SumBook_is_full P_SumBook_is_full (defScope s_SumBook_is_full) := ⟨rfl, rfl, rfl, by decide +kernel, rfl, by decide +kernel, by decide +kernel⟩
abbrev D_SumBook_is_full (K : PySem.W.Frag) (f : Addr) (fd : FuncData) : Prop := FunD K "is_full" "SumBook.is_full" (defArgs s_SumBook_is_full) (defBody s_SumBook_is_full) (defScope s_SumBook_is_full) [] [] f fd
abbrev s_SumBook_holding : Stmt := inClass (top 22) 3
abbrev N_SumBook_holding : List Str := ["word", "modulus"]
abbrev P_SumBook_holding : List Str := ["word", "modulus"]
theorem sc_SumBook_holding : FnScope N_SumBook_holding P_SumBook_holding (defScope s_SumBook_holding) := ⟨rfl, rfl, rfl, by decide +kernel, rfl, by decide +kernel, by decide +kernel⟩
abbrev D_SumBook_holding (K : PySem.W.Frag) (f : Addr) (fd : FuncData) : Prop := FunD K "holding" "SumBook.holding" (defArgs s_SumBook_holding) (defBody s_SumBook_holding) (defScope s_SumBook_holding) [] [] f fd
abbrev s_SumBook_has : Stmt := inClass (top 22) 4
abbrev N_SumBook_has : List Str := ["self", "word"]
abbrev P_SumBook_has : List Str := ["self", "word"]
theorem sc_SumBook_has : FnScope N_SumBook_has P_SumBook_has (defScope s_SumBook_has) := ⟨rfl, rfl, rfl, by decide +kernel, rfl, by decide +kernel, by decide +kernel⟩
abbrev D_SumBook_has (K : PySem.W.Frag) (f : Addr) (fd : FuncData) : Prop := FunD K "has" "SumBook.has" (defArgs s_SumBook_has) (defBody s_SumBook_has) (defScope s_SumBook_has) [] [] f fd
abbrev s_SumBook_contrary : Stmt := inClass (top 22) 5
abbrev N_SumBook_contrary : List Str := ["self"]
abbrev P_SumBook_contrary : List Str := ["self"]
theorem sc_SumBook_contrary : FnScope N_SumBook_contrary P_SumBook_contrary (defScope s_SumBook_contrary) := ⟨rfl, rfl, rfl, by decide +kernel, rfl, by decide +kernel, by decide +kernel⟩
abbrev D_SumBook_contrary (K : PySem.W.Frag) (f : Addr) (fd : FuncData) : Prop := FunD K "contrary" "SumBook.contrary" (defArgs s_SumBook_contrary) (defBody s_SumBook_contrary) (defScope s_SumBook_contrary) [] [] f fd
abbrev s_SumBook_turned : Stmt := inClass (top 22) 6
abbrev N_SumBook_turned : List Str := ["self"]
abbrev P_SumBook_turned : List Str := ["self"]
theorem sc_SumBook_turned : FnScope N_SumBook_turned P_SumBook_turned (defScope s_SumBook_turned) := ⟨rfl, rfl, rfl, by decide +kernel, rfl, by decide +kernel, by decide +kernel⟩
abbrev D_SumBook_turned (K : PySem.W.Frag) (f : Addr) (fd : FuncData) : Prop := FunD K "turned" "SumBook.turned" (defArgs s_SumBook_turned) (defBody s_SumBook_turned) (defScope s_SumBook_turned) [] [] f fd
abbrev s_check_modulus : Stmt := top 23
abbrev N_check_modulus : List Str := ["modulus", "least"]
abbrev P_check_modulus : List Str := ["modulus", "least"]
theorem sc_check_modulus : FnScope N_check_modulus P_check_modulus (defScope s_check_modulus) := ⟨rfl, rfl, rfl, by decide +kernel, rfl, by decide +kernel, by decide +kernel⟩
abbrev D_check_modulus (K : PySem.W.Frag) (f : Addr) (fd : FuncData) : Prop := FunD K "_check_modulus" "_check_modulus" (defArgs s_check_modulus) (defBody s_check_modulus) (defScope s_check_modulus) [] [] f fd
abbrev s_check_rest : Stmt := top 24
abbrev N_check_rest : List Str := ["rest", "modulus"]
abbrev P_check_rest : List Str := ["rest", "modulus"]
theorem sc_check_rest : FnScope N_check_rest P_check_rest (defScope s_check_rest) := ⟨rfl, rfl, rfl, by decide +kernel, rfl, by decide +kernel, by decide +kernel⟩
abbrev D_check_rest (K : PySem.W.Frag) (f : Addr) (fd : FuncData) : Prop := FunD K "_check_rest" "_check_rest" (defArgs s_check_rest) (defBody s_check_rest) (defScope s_check_rest) [] [] f fd
abbrev s_modulus_clash : Stmt := top 25
abbrev N_modulus_clash : List Str := ["length", "modulus", "rest", "below", "one", "other", "place"]
abbrev P_modulus_clash : List Str := ["length", "modulus", "rest"]
theorem sc_modulus_clash : FnScope N_modulus_clash P_modulus_clash (defScope s_modulus_clash) := ⟨rfl, rfl, rfl, by decide +kernel, rfl, by decide +kernel, by decide +kernel⟩
abbrev D_modulus_clash (K : PySem.W.Frag) (f : Addr) (fd : FuncData) : Prop := FunD K "modulus_clash" "modulus_clash" (defArgs s_modulus_clash) (defBody s_modulus_clash) (defScope s_modulus_clash) [] [] f fd
abbrev s_read_lost : Stmt := top 28
abbrev N_read_lost : List Str := ["book", "word", "amount"]
abbrev P_read_lost : List Str := ["book", "word"]
theorem sc_read_lost : FnScope N_read_lost P_read_lost (defScope s_read_lost) := ⟨rfl, rfl, rfl, by decide +kernel, rfl, by decide +kernel, by decide +kernel⟩
abbrev D_read_lost (K : PySem.W.Frag) (f : Addr) (fd : FuncData) : Prop := FunD K "read_lost" "read_lost" (defArgs s_read_lost) (defBody s_read_lost) (defScope s_read_lost) [] [] f fd
abbrev s_check_letters_of : Stmt := top 29
abbrev N_check_letters_of : List Str := ["word", "length", "most"]
abbrev P_check_letters_of : List Str := ["word", "length", "most"]
theorem sc_check_letters_of : FnScope N_check_letters_of P_check_letters_of (defScope s_check_letters_of) := ⟨rfl, rfl, rfl, by decide +kernel, rfl, by decide +kernel, by decide +kernel⟩
abbrev D_check_letters_of (K : PySem.W.Frag) (f : Addr) (fd : FuncData) : Prop := FunD K "_check_letters_of" "_check_letters_of" (defArgs s_check_letters_of) (defBody s_check_letters_of) (defScope s_check_letters_of) [.int (201)] [] f fd
abbrev s_unread_word : Stmt := top 30
abbrev N_unread_word : List Str := ["book", "greatest"]
abbrev P_unread_word : List Str := ["book"]
theorem sc_unread_word : FnScope N_unread_word P_unread_word (defScope s_unread_word) := ⟨rfl, rfl, rfl, by decide +kernel, rfl, by decide +kernel, by decide +kernel⟩
abbrev D_unread_word (K : PySem.W.Frag) (f : Addr) (fd : FuncData) : Prop := FunD K "unread_word" "unread_word" (defArgs s_unread_word) (defBody s_unread_word) (defScope s_unread_word) [] [] f fd
abbrev s_word_of_sum : Stmt := top 31
abbrev N_word_of_sum : List Str := ["length", "total", "places", "place"]
abbrev P_word_of_sum : List Str := ["length", "total"]
theorem sc_word_of_sum : FnScope N_word_of_sum P_word_of_sum (defScope s_word_of_sum) := ⟨rfl, rfl, rfl, by decide +kernel, rfl, by decide +kernel, by decide +kernel⟩
abbrev D_word_of_sum (K : PySem.W.Frag) (f : Addr) (fd : FuncData) : Prop := FunD K "_word_of_sum" "_word_of_sum" (defArgs s_word_of_sum) (defBody s_word_of_sum) (defScope s_word_of_sum) [] [] f fd
abbrev s_law_hand : Stmt := top 33
abbrev N_law_hand : List Str := ["_law_script", "_law_total", "_law_cells", "_law_cell"]
abbrev P_law_hand : List Str := ["_law_script"]
theorem sc_law_hand : FnScope N_law_hand P_law_hand (defScope s_law_hand) := ⟨rfl, rfl, rfl, by decide +kernel, rfl, by decide +kernel, by decide +kernel⟩
abbrev D_law_hand (K : PySem.W.Frag) (f : Addr) (fd : FuncData) : Prop := FunD K "_law_hand" "_law_hand" (defArgs s_law_hand) (defBody s_law_hand) (defScope s_law_hand) [] [] f fd
abbrev s_law_mixed : Stmt := top 34
abbrev N_law_mixed : List Str := ["_law_number", "_law_turn", "_law_once", "_law_twice"]
abbrev P_law_mixed : List Str := ["_law_number", "_law_turn"]
theorem sc_law_mixed : FnScope N_law_mixed P_law_mixed (defScope s_law_mixed) := ⟨rfl, rfl, rfl, by decide +kernel, rfl, by decide +kernel, by decide +kernel⟩
abbrev D_law_mixed (K : PySem.W.Frag) (f : Addr) (fd : FuncData) : Prop := FunD K "_law_mixed" "_law_mixed" (defArgs s_law_mixed) (defBody s_law_mixed) (defScope s_law_mixed) [] [] f fd
abbrev s_law_take : Stmt := top 35
abbrev N_law_take : List Str := ["_law_hand_here", "_law_many", "_law_cell", "_law_rest"]
abbrev P_law_take : List Str := ["_law_hand_here", "_law_many"]
theorem sc_law_take : FnScope N_law_take P_law_take (defScope s_law_take) := ⟨rfl, rfl, rfl, by decide +kernel, rfl, by decide +kernel, by decide +kernel⟩
abbrev D_law_take (K : PySem.W.Frag) (f : Addr) (fd : FuncData) : Prop := FunD K "_law_take" "_law_take" (defArgs s_law_take) (defBody s_law_take) (defScope s_law_take) [] [] f fd
abbrev s_law_whole : Stmt := top 36
abbrev N_law_whole : List Str := ["_law_thing"]
abbrev P_law_whole : List Str := ["_law_thing"]
theorem sc_law_whole : FnScope N_law_whole P_law_whole (defScope s_law_whole) := ⟨rfl, rfl, rfl, by decide +kernel, rfl, by decide +kernel, by decide +kernel⟩
abbrev D_law_whole (K : PySem.W.Frag) (f : Addr) (fd : FuncData) : Prop := FunD K "_law_whole" "_law_whole" (defArgs s_law_whole) (defBody s_law_whole) (defScope s_law_whole) [] [] f fd
abbrev s_law_all_words : Stmt := top 37
abbrev N_law_all_words : List Str := ["_law_q", "_law_n", "_law_told", "_law_k", "_law_longer", "_law_word", "_law_letter"]
abbrev P_law_all_words : List Str := ["_law_q", "_law_n"]
theorem sc_law_all_words : FnScope N_law_all_words P_law_all_words (defScope s_law_all_words) := ⟨rfl, rfl, rfl, by decide +kernel, rfl, by decide +kernel, by decide +kernel⟩
abbrev D_law_all_words (K : PySem.W.Frag) (f : Addr) (fd : FuncData) : Prop := FunD K "_law_all_words" "_law_all_words" (defArgs s_law_all_words) (defBody s_law_all_words) (defScope s_law_all_words) [] [] f fd
abbrev s_law_is_below : Stmt := top 38
abbrev N_law_is_below : List Str := ["_law_short", "_law_long", "_law_at", "_law_letter"]
abbrev P_law_is_below : List Str := ["_law_short", "_law_long"]
theorem sc_law_is_below : FnScope N_law_is_below P_law_is_below (defScope s_law_is_below) := ⟨rfl, rfl, rfl, by decide +kernel, rfl, by decide +kernel, by decide +kernel⟩
abbrev D_law_is_below (K : PySem.W.Frag) (f : Addr) (fd : FuncData) : Prop := FunD K "_law_is_below" "_law_is_below" (defArgs s_law_is_below) (defBody s_law_is_below) (defScope s_law_is_below) [] [] f fd
abbrev s_law_more_one : Stmt := top 39
abbrev N_law_more_one : List Str := ["_law_q", "_law_word", "_law_told", "_law_k", "_law_letter"]
abbrev P_law_more_one : List Str := ["_law_q", "_law_word"]
theorem sc_law_more_one : FnScope N_law_more_one P_law_more_one (defScope s_law_more_one) := ⟨rfl, rfl, rfl, by decide +kernel, rfl, by decide +kernel, by decide +kernel⟩
abbrev D_law_more_one (K : PySem.W.Frag) (f : Addr) (fd : FuncData) : Prop := FunD K "_law_more_one" "_law_more_one" (defArgs s_law_more_one) (defBody s_law_more_one) (defScope s_law_more_one) [] [] f fd
abbrev s_law_sum : Stmt := top 40
abbrev N_law_sum : List Str := ["_law_word", "_law_k"]
abbrev P_law_sum : List Str := ["_law_word"]
theorem sc_law_sum : FnScope N_law_sum P_law_sum (defScope s_law_sum) := ⟨rfl, rfl, rfl, by decide +kernel, rfl, by decide +kernel, by decide +kernel⟩
abbrev D_law_sum (K : PySem.W.Frag) (f : Addr) (fd : FuncData) : Prop := FunD K "_law_sum" "_law_sum" (defArgs s_law_sum) (defBody s_law_sum) (defScope s_law_sum) [] [] f fd
abbrev s_law_is_word : Stmt := top 41
abbrev N_law_is_word : List Str := ["_law_thing", "_law_n", "_law_letter"]
abbrev P_law_is_word : List Str := ["_law_thing", "_law_n"]
theorem sc_law_is_word : FnScope N_law_is_word P_law_is_word (defScope s_law_is_word) := ⟨rfl, rfl, rfl, by decide +kernel, rfl, by decide +kernel, by decide +kernel⟩
abbrev D_law_is_word (K : PySem.W.Frag) (f : Addr) (fd : FuncData) : Prop := FunD K "_law_is_word" "_law_is_word" (defArgs s_law_is_word) (defBody s_law_is_word) (defScope s_law_is_word) [] [] f fd
abbrev s_law_odd : Stmt := top 42
abbrev N_law_odd : List Str := ["_law_hand_here", "_law_good"]
abbrev P_law_odd : List Str := ["_law_hand_here", "_law_good"]
theorem sc_law_odd : FnScope N_law_odd P_law_odd (defScope s_law_odd) := ⟨rfl, rfl, rfl, by decide +kernel, rfl, by decide +kernel, by decide +kernel⟩
abbrev D_law_odd (K : PySem.W.Frag) (f : Addr) (fd : FuncData) : Prop := FunD K "_law_odd" "_law_odd" (defArgs s_law_odd) (defBody s_law_odd) (defScope s_law_odd) [] [] f fd
abbrev s_law_book_of : Stmt := top 43
abbrev N_law_book_of : List Str := ["_law_hand_here", "_law_n", "_law_extra", "_law_modulus", "_law_rest"]
abbrev P_law_book_of : List Str := ["_law_hand_here", "_law_n"]
theorem sc_law_book_of : FnScope N_law_book_of P_law_book_of (defScope s_law_book_of) := ⟨rfl, rfl, rfl, by decide +kernel, rfl, by decide +kernel, by decide +kernel⟩
abbrev D_law_book_of (K : PySem.W.Frag) (f : Addr) (fd : FuncData) : Prop := FunD K "_law_book_of" "_law_book_of" (defArgs s_law_book_of) (defBody s_law_book_of) (defScope s_law_book_of) [] [] f fd
abbrev s_law_clash_right : Stmt := top 44
abbrev N_law_clash_right : List Str := ["_law_n", "_law_modulus", "_law_rest", "_law_pair", "_law_words", "_law_word"]
abbrev P_law_clash_right : List Str := ["_law_n", "_law_modulus", "_law_rest", "_law_pair"]
theorem sc_law_clash_right : FnScope N_law_clash_right P_law_clash_right (defScope s_law_clash_right) := ⟨rfl, rfl, rfl, by decide +kernel, rfl, by decide +kernel, by decide +kernel⟩
abbrev D_law_clash_right (K : PySem.W.Frag) (f : Addr) (fd : FuncData) : Prop := FunD K "_law_clash_right" "_law_clash_right" (defArgs s_law_clash_right) (defBody s_law_clash_right) (defScope s_law_clash_right) [] [] f fd
abbrev s_law_has_clash : Stmt := top 45
abbrev N_law_has_clash : List Str := ["_law_n", "_law_modulus", "_law_rest", "_law_met", "_law_word", "_law_k", "_law_less"]
abbrev P_law_has_clash : List Str := ["_law_n", "_law_modulus", "_law_rest"]
theorem sc_law_has_clash : FnScope N_law_has_clash P_law_has_clash (defScope s_law_has_clash) := ⟨rfl, rfl, rfl, by decide +kernel, rfl, by decide +kernel, by decide +kernel⟩
abbrev D_law_has_clash (K : PySem.W.Frag) (f : Addr) (fd : FuncData) : Prop := FunD K "_law_has_clash" "_law_has_clash" (defArgs s_law_has_clash) (defBody s_law_has_clash) (defScope s_law_has_clash) [] [] f fd
abbrev s_law_modulus_right : Stmt := top 46
abbrev N_law_modulus_right : List Str := ["_law_n", "_law_modulus", "_law_rest", "_law_pair"]
abbrev P_law_modulus_right : List Str := ["_law_n", "_law_modulus", "_law_rest"]
theorem sc_law_modulus_right : FnScope N_law_modulus_right P_law_modulus_right (defScope s_law_modulus_right) := ⟨rfl, rfl, rfl, by decide +kernel, rfl, by decide +kernel, by decide +kernel⟩
abbrev D_law_modulus_right (K : PySem.W.Frag) (f : Addr) (fd : FuncData) : Prop := FunD K "_law_modulus_right" "_law_modulus_right" (defArgs s_law_modulus_right) (defBody s_law_modulus_right) (defScope s_law_modulus_right) [] [] f fd
abbrev s_law_is_unread : Stmt := top 47
abbrev N_law_is_unread : List Str := ["_law_facts", "_law_word"]
abbrev P_law_is_unread : List Str := ["_law_facts", "_law_word"]
theorem sc_law_is_unread : FnScope N_law_is_unread P_law_is_unread (defScope s_law_is_unread) := ⟨rfl, rfl, rfl, by decide +kernel, rfl, by decide +kernel, by decide +kernel⟩
abbrev D_law_is_unread (K : PySem.W.Frag) (f : Addr) (fd : FuncData) : Prop := FunD K "_law_is_unread" "_law_is_unread" (defArgs s_law_is_unread) (defBody s_law_is_unread) (defScope s_law_is_unread) [] [] f fd
abbrev s_law_unread_right : Stmt := top 48
abbrev N_law_unread_right : List Str := ["_law_book", "_law_facts", "_law_n", "_law_word", "_law_none"]
abbrev P_law_unread_right : List Str := ["_law_book", "_law_facts"]
theorem sc_law_unread_right : FnScope N_law_unread_right P_law_unread_right (defScope s_law_unread_right) := ⟨rfl, rfl, rfl, by decide +kernel, rfl, by decide +kernel, by decide +kernel⟩
abbrev D_law_unread_right (K : PySem.W.Frag) (f : Addr) (fd : FuncData) : Prop := FunD K "_law_unread_right" "_law_unread_right" (defArgs s_law_unread_right) (defBody s_law_unread_right) (defScope s_law_unread_right) [] [] f fd
abbrev s_law_small_unread : Stmt := top 49
abbrev N_law_small_unread : List Str := ["_law_facts", "_law_n", "_law_members", "_law_word", "_law_row"]
abbrev P_law_small_unread : List Str := ["_law_facts"]
theorem sc_law_small_unread : FnScope N_law_small_unread P_law_small_unread (defScope s_law_small_unread) := ⟨rfl, rfl, rfl, by decide +kernel, rfl, by decide +kernel, by decide +kernel⟩
abbrev D_law_small_unread (K : PySem.W.Frag) (f : Addr) (fd : FuncData) : Prop := FunD K "_law_small_unread" "_law_small_unread" (defArgs s_law_small_unread) (defBody s_law_small_unread) (defScope s_law_small_unread) [] [] f fd
abbrev s_law_refused : Stmt := top 50
abbrev N_law_refused : List Str := ["_law_n", "_law_modulus", "_law_rest"]
abbrev P_law_refused : List Str := ["_law_n", "_law_modulus", "_law_rest"]
theorem sc_law_refused : FnScope N_law_refused P_law_refused (defScope s_law_refused) := ⟨rfl, rfl, rfl, by decide +kernel, rfl, by decide +kernel, by decide +kernel⟩
abbrev D_law_refused (K : PySem.W.Frag) (f : Addr) (fd : FuncData) : Prop := FunD K "_law_refused" "_law_refused" (defArgs s_law_refused) (defBody s_law_refused) (defScope s_law_refused) [] [] f fd
abbrev s_law_refusals : Stmt := top 51
abbrev N_law_refusals : List Str := ["_law_hand_here", "_law_n", "_law_modulus", "_law_odds", "_law_wild"]
abbrev P_law_refusals : List Str := ["_law_hand_here", "_law_n"]
theorem sc_law_refusals : FnScope N_law_refusals P_law_refusals (defScope s_law_refusals) := ⟨rfl, rfl, rfl, by decide +kernel, rfl, by decide +kernel, by decide +kernel⟩
abbrev D_law_refusals (K : PySem.W.Frag) (f : Addr) (fd : FuncData) : Prop := FunD K "_law_refusals" "_law_refusals" (defArgs s_law_refusals) (defBody s_law_refusals) (defScope s_law_refusals) [] [] f fd
abbrev s_law : Stmt := top 52
abbrev N_law : List Str := ["_law_script", "_law_hand_here", "_law_n", "_law_modulus", "_law_rest", "_law_turn", "_law_facts", "_law_book"]
abbrev P_law : List Str := ["_law_script"]
theorem sc_law : FnScope N_law P_law (defScope s_law) := ⟨rfl, rfl, rfl, by decide +kernel, rfl, by decide +kernel, by decide +kernel⟩
abbrev D_law (K : PySem.W.Frag) (f : Addr) (fd : FuncData) : Prop := FunD K "law" "law" (defArgs s_law) (defBody s_law) (defScope s_law) [] [] f fd
structure Txt (K : PySem.W.Frag) (mg : Str → Option Value) : Prop where
  x_BadWord : FldExc K (He.ga K "BadWord") (He.ma K (He.ga K "BadWord") "__init__")
  n_BadWord_is_index : PySem.W.findIn K (.ref (He.ga K "BadWord")) "index" = some none
  z_isinstance : mg "isinstance" = none
  z_bool : mg "bool" = none
  z_int : mg "int" = none
  g_is_whole : mg "is_whole" = some (.ref (He.ga K "is_whole"))
  g_BadNumber : mg "BadNumber" = some (.ref (He.ga K "BadNumber"))
  e_BadNumber : OwnExc K (He.ga K "BadNumber")
  z_len : mg "len" = none
  z_tuple : mg "tuple" = none
  z_list : mg "list" = none
  g_BadWord : mg "BadWord" = some (.ref (He.ga K "BadWord"))
  z_enumerate : mg "enumerate" = none
  g_NearPair : mg "NearPair" = some (.ref (He.ga K "NearPair"))
  g__sum_of : mg "_sum_of" = some (.ref (He.ga K "_sum_of"))
  g_check_word : mg "check_word" = some (.ref (He.ga K "check_word"))
  c_MOST_HERE : ∃ t, mg "MOST_HERE" = some (.int 200 t)
  z_sum : mg "sum" = none
  g_BadAmount : mg "BadAmount" = some (.ref (He.ga K "BadAmount"))
  e_BadAmount : OwnExc K (He.ga K "BadAmount")
  g__index_behind : mg "_index_behind" = some (.ref (He.ga K "_index_behind"))
  g_check_number : mg "check_number" = some (.ref (He.ga K "check_number"))
  g__check_modulus : mg "_check_modulus" = some (.ref (He.ga K "_check_modulus"))
  g__check_rest : mg "_check_rest" = some (.ref (He.ga K "_check_rest"))
  g_SumBook : mg "SumBook" = some (.ref (He.ga K "SumBook"))
  g__wall : mg "_wall" = some (.ref (He.ga K "_wall"))
  c_MOST_MODULUS : ∃ t, mg "MOST_MODULUS" = some (.int 1000000 t)
  g_BadModulus : mg "BadModulus" = some (.ref (He.ga K "BadModulus"))
  e_BadModulus : OwnExc K (He.ga K "BadModulus")
  g_BadRest : mg "BadRest" = some (.ref (He.ga K "BadRest"))
  e_BadRest : OwnExc K (He.ga K "BadRest")
  z_range : mg "range" = none
  g_lifted_word : mg "lifted_word" = some (.ref (He.ga K "lifted_word"))
  r_NearPair : Mk K (He.ga K "NearPair") (He.ma K (He.ga K "NearPair") "__init__")
  g__check_letters_of : mg "_check_letters_of" = some (.ref (He.ga K "_check_letters_of"))
  g_place_sum : mg "place_sum" = some (.ref (He.ga K "place_sum"))
  g_NotOneOff : mg "NotOneOff" = some (.ref (He.ga K "NotOneOff"))
  e_NotOneOff : OwnExc K (He.ga K "NotOneOff")
  l_SumBook : Cls K (He.ga K "SumBook")
  p_SumBook_is_is_full : PropOf K (He.ga K "SumBook") "is_full" (He.ma K (He.ga K "SumBook") "is_full") (gA K "SumBook" "is_full")
  g__word_of_sum : mg "_word_of_sum" = some (.ref (He.ga K "_word_of_sum"))
  z_abs : mg "abs" = none
  g__law_mixed : mg "_law_mixed" = some (.ref (He.ga K "_law_mixed"))
  z_sorted : mg "sorted" = none
  z_set : mg "set" = none
  z_all : mg "all" = none
  g__law_whole : mg "_law_whole" = some (.ref (He.ga K "_law_whole"))
  g__law_take : mg "_law_take" = some (.ref (He.ga K "_law_take"))
  z_min : mg "min" = none
  g__law_sum : mg "_law_sum" = some (.ref (He.ga K "_law_sum"))
  g__law_is_word : mg "_law_is_word" = some (.ref (He.ga K "_law_is_word"))
  g__law_is_below : mg "_law_is_below" = some (.ref (He.ga K "_law_is_below"))
  g__law_all_words : mg "_law_all_words" = some (.ref (He.ga K "_law_all_words"))
  g_modulus_clash : mg "modulus_clash" = some (.ref (He.ga K "modulus_clash"))
  g__law_clash_right : mg "_law_clash_right" = some (.ref (He.ga K "_law_clash_right"))
  g_unread_word : mg "unread_word" = some (.ref (He.ga K "unread_word"))
  g__law_is_unread : mg "_law_is_unread" = some (.ref (He.ga K "_law_is_unread"))
  g_read_lost : mg "read_lost" = some (.ref (He.ga K "read_lost"))
  g__law_more_one : mg "_law_more_one" = some (.ref (He.ga K "_law_more_one"))
  g__law_refused : mg "_law_refused" = some (.ref (He.ga K "_law_refused"))
  g__law_odd : mg "_law_odd" = some (.ref (He.ga K "_law_odd"))
  r_SumBook : Mk K (He.ga K "SumBook") (He.ma K (He.ga K "SumBook") "__init__")
  g__law_hand : mg "_law_hand" = some (.ref (He.ga K "_law_hand"))
  g__law_modulus_right : mg "_law_modulus_right" = some (.ref (He.ga K "_law_modulus_right"))
  g__law_has_clash : mg "_law_has_clash" = some (.ref (He.ga K "_law_has_clash"))
  z_max : mg "max" = none
  g__law_book_of : mg "_law_book_of" = some (.ref (He.ga K "_law_book_of"))
  g__law_unread_right : mg "_law_unread_right" = some (.ref (He.ga K "_law_unread_right"))
  g__law_small_unread : mg "_law_small_unread" = some (.ref (He.ga K "_law_small_unread"))
  g__law_refusals : mg "_law_refusals" = some (.ref (He.ga K "_law_refusals"))
  m_BadAmount_is_BadModulus : PySem.W.exmOne K (.ref (He.ga K "BadAmount")) (.ref (He.ga K "BadModulus")) = some false
  m_BadAmount_is_BadNumber : PySem.W.exmOne K (.ref (He.ga K "BadAmount")) (.ref (He.ga K "BadNumber")) = some false
  m_BadAmount_is_BadRest : PySem.W.exmOne K (.ref (He.ga K "BadAmount")) (.ref (He.ga K "BadRest")) = some false
  m_BadModulus_is_BadModulus : PySem.W.exmOne K (.ref (He.ga K "BadModulus")) (.ref (He.ga K "BadModulus")) = some true
  m_BadModulus_is_BadNumber : PySem.W.exmOne K (.ref (He.ga K "BadModulus")) (.ref (He.ga K "BadNumber")) = some false
  m_BadModulus_is_BadRest : PySem.W.exmOne K (.ref (He.ga K "BadModulus")) (.ref (He.ga K "BadRest")) = some false
  m_BadNumber_is_BadModulus : PySem.W.exmOne K (.ref (He.ga K "BadNumber")) (.ref (He.ga K "BadModulus")) = some false
  m_BadNumber_is_BadNumber : PySem.W.exmOne K (.ref (He.ga K "BadNumber")) (.ref (He.ga K "BadNumber")) = some true
  m_BadNumber_is_BadRest : PySem.W.exmOne K (.ref (He.ga K "BadNumber")) (.ref (He.ga K "BadRest")) = some false
  m_BadRest_is_BadModulus : PySem.W.exmOne K (.ref (He.ga K "BadRest")) (.ref (He.ga K "BadModulus")) = some false
  m_BadRest_is_BadNumber : PySem.W.exmOne K (.ref (He.ga K "BadRest")) (.ref (He.ga K "BadNumber")) = some false
  m_BadRest_is_BadRest : PySem.W.exmOne K (.ref (He.ga K "BadRest")) (.ref (He.ga K "BadRest")) = some true
  m_BadWord_is_BadModulus : PySem.W.exmOne K (.ref (He.ga K "BadWord")) (.ref (He.ga K "BadModulus")) = some false
  m_BadWord_is_BadNumber : PySem.W.exmOne K (.ref (He.ga K "BadWord")) (.ref (He.ga K "BadNumber")) = some false
  m_BadWord_is_BadRest : PySem.W.exmOne K (.ref (He.ga K "BadWord")) (.ref (He.ga K "BadRest")) = some false
  m_NotOneOff_is_BadModulus : PySem.W.exmOne K (.ref (He.ga K "NotOneOff")) (.ref (He.ga K "BadModulus")) = some false
  m_NotOneOff_is_BadNumber : PySem.W.exmOne K (.ref (He.ga K "NotOneOff")) (.ref (He.ga K "BadNumber")) = some false
  m_NotOneOff_is_BadRest : PySem.W.exmOne K (.ref (He.ga K "NotOneOff")) (.ref (He.ga K "BadRest")) = some false
  l_NearPair : Cls K (He.ga K "NearPair")
  a_NearPair_is_one : NoAttr K (He.ga K "NearPair") "one"
  a_NearPair_is_other : NoAttr K (He.ga K "NearPair") "other"
  a_NearPair_is_below : NoAttr K (He.ga K "NearPair") "below"
  a_NearPair_is_above : NoAttr K (He.ga K "NearPair") "above"
  a_SumBook_is_length : NoAttr K (He.ga K "SumBook") "length"
  a_SumBook_is_modulus : NoAttr K (He.ga K "SumBook") "modulus"
  a_SumBook_is_rest : NoAttr K (He.ga K "SumBook") "rest"
  j_NearPair : KinOk K (He.ga K "NearPair")
  o_NearPair : InsK K (He.ga K "NearPair")
  k_NearPair_is_NearPair : PySem.W.kitOne K (.ref (He.ga K "NearPair")) (.ref (He.ga K "NearPair")) = some true
  o_SumBook : InsK K (He.ga K "SumBook")
  k_SumBook_is_NearPair : PySem.W.kitOne K (.ref (He.ga K "SumBook")) (.ref (He.ga K "NearPair")) = some false
  j_SumBook : KinOk K (He.ga K "SumBook")
  k_NearPair_is_SumBook : PySem.W.kitOne K (.ref (He.ga K "NearPair")) (.ref (He.ga K "SumBook")) = some false
  k_SumBook_is_SumBook : PySem.W.kitOne K (.ref (He.ga K "SumBook")) (.ref (He.ga K "SumBook")) = some true
  F_wall : ∃ fd, D_wall K (He.ga K "_wall") fd
  F_BadWord___init : ∃ fd, D_BadWord___init K (He.ma K (He.ga K "BadWord") "__init__") fd
  F_is_whole : ∃ fd, D_is_whole K (He.ga K "is_whole") fd
  F_check_number : ∃ fd, D_check_number K (He.ga K "check_number") fd
  F_check_word : ∃ fd, D_check_word K (He.ga K "check_word") fd
  F_NearPair___init : ∃ fd, D_NearPair___init K (He.ma K (He.ga K "NearPair") "__init__") fd
  F_NearPair___eq : ∃ fd, D_NearPair___eq K (He.ma K (He.ga K "NearPair") "__eq__") fd
  F_place_sum : ∃ fd, D_place_sum K (He.ga K "place_sum") fd
  F_sum_of : ∃ fd, D_sum_of K (He.ga K "_sum_of") fd
  F_lifted_word : ∃ fd, D_lifted_word K (He.ga K "lifted_word") fd
  F_index_behind : ∃ fd, D_index_behind K (He.ga K "_index_behind") fd
  F_SumBook___init : ∃ fd, D_SumBook___init K (He.ma K (He.ga K "SumBook") "__init__") fd
  F_SumBook___eq : ∃ fd, D_SumBook___eq K (He.ma K (He.ga K "SumBook") "__eq__") fd
  F_SumBook_is_full : ∃ fd, D_SumBook_is_full K (gA K "SumBook" "is_full") fd
  F_SumBook_holding : ∃ fd, D_SumBook_holding K (He5.wf K (He.ga K "SumBook") "staticmethod" "holding") fd
  F_SumBook_has : ∃ fd, D_SumBook_has K (He.ma K (He.ga K "SumBook") "has") fd
  F_SumBook_contrary : ∃ fd, D_SumBook_contrary K (He.ma K (He.ga K "SumBook") "contrary") fd
  F_SumBook_turned : ∃ fd, D_SumBook_turned K (He.ma K (He.ga K "SumBook") "turned") fd
  F_check_modulus : ∃ fd, D_check_modulus K (He.ga K "_check_modulus") fd
  F_check_rest : ∃ fd, D_check_rest K (He.ga K "_check_rest") fd
  F_modulus_clash : ∃ fd, D_modulus_clash K (He.ga K "modulus_clash") fd
  F_read_lost : ∃ fd, D_read_lost K (He.ga K "read_lost") fd
  F_check_letters_of : ∃ fd, D_check_letters_of K (He.ga K "_check_letters_of") fd
  F_unread_word : ∃ fd, D_unread_word K (He.ga K "unread_word") fd
  F_word_of_sum : ∃ fd, D_word_of_sum K (He.ga K "_word_of_sum") fd
  F_law_hand : ∃ fd, D_law_hand K (He.ga K "_law_hand") fd
  F_law_mixed : ∃ fd, D_law_mixed K (He.ga K "_law_mixed") fd
  F_law_take : ∃ fd, D_law_take K (He.ga K "_law_take") fd
  F_law_whole : ∃ fd, D_law_whole K (He.ga K "_law_whole") fd
  F_law_all_words : ∃ fd, D_law_all_words K (He.ga K "_law_all_words") fd
  F_law_is_below : ∃ fd, D_law_is_below K (He.ga K "_law_is_below") fd
  F_law_more_one : ∃ fd, D_law_more_one K (He.ga K "_law_more_one") fd
  F_law_sum : ∃ fd, D_law_sum K (He.ga K "_law_sum") fd
  F_law_is_word : ∃ fd, D_law_is_word K (He.ga K "_law_is_word") fd
  F_law_odd : ∃ fd, D_law_odd K (He.ga K "_law_odd") fd
  F_law_book_of : ∃ fd, D_law_book_of K (He.ga K "_law_book_of") fd
  F_law_clash_right : ∃ fd, D_law_clash_right K (He.ga K "_law_clash_right") fd
  F_law_has_clash : ∃ fd, D_law_has_clash K (He.ga K "_law_has_clash") fd
  F_law_modulus_right : ∃ fd, D_law_modulus_right K (He.ga K "_law_modulus_right") fd
  F_law_is_unread : ∃ fd, D_law_is_unread K (He.ga K "_law_is_unread") fd
  F_law_unread_right : ∃ fd, D_law_unread_right K (He.ga K "_law_unread_right") fd
  F_law_small_unread : ∃ fd, D_law_small_unread K (He.ga K "_law_small_unread") fd
  F_law_refused : ∃ fd, D_law_refused K (He.ga K "_law_refused") fd
  F_law_refusals : ∃ fd, D_law_refusals K (He.ga K "_law_refusals") fd
  F_law : ∃ fd, D_law K (He.ga K "law") fd
theorem bd_wall {K : PySem.W.Frag} {f : Addr} {fd : FuncData} (F : D_wall K f fd) : Binds K fd P_wall [] := F.bindsN fun _ _ _ _ _ _ us hl => match us, hl with | [_], _ => rfl
theorem bd_BadWord___init {K : PySem.W.Frag} {f : Addr} {fd : FuncData} (F : D_BadWord___init K f fd) : Binds K fd P_BadWord___init [] := F.bindsN fun _ _ _ _ _ _ us hl => match us, hl with | [_, _], _ => rfl
theorem bd_check_number {K : PySem.W.Frag} {f : Addr} {fd : FuncData} (F : D_check_number K f fd) : Binds K fd P_check_number [] := F.bindsN fun _ _ _ _ _ _ us hl => match us, hl with | [_, _, _], _ => rfl
theorem bd_NearPair___init {K : PySem.W.Frag} {f : Addr} {fd : FuncData} (F : D_NearPair___init K f fd) : Binds K fd P_NearPair___init [] := F.bindsN fun _ _ _ _ _ _ us hl => match us, hl with | [_, _, _, _, _], _ => rfl
theorem bd_NearPair___eq {K : PySem.W.Frag} {f : Addr} {fd : FuncData} (F : D_NearPair___eq K f fd) : Binds K fd P_NearPair___eq [] := F.bindsN fun _ _ _ _ _ _ us hl => match us, hl with | [_, _], _ => rfl
theorem bd_place_sum {K : PySem.W.Frag} {f : Addr} {fd : FuncData} (F : D_place_sum K f fd) : Binds K fd P_place_sum [] := F.bindsN fun _ _ _ _ _ _ us hl => match us, hl with | [_], _ => rfl
theorem bd_sum_of {K : PySem.W.Frag} {f : Addr} {fd : FuncData} (F : D_sum_of K f fd) : Binds K fd P_sum_of [] := F.bindsN fun _ _ _ _ _ _ us hl => match us, hl with | [_], _ => rfl
theorem bd_lifted_word {K : PySem.W.Frag} {f : Addr} {fd : FuncData} (F : D_lifted_word K f fd) : Binds K fd P_lifted_word [] := F.bindsN fun _ _ _ _ _ _ us hl => match us, hl with | [_, _], _ => rfl
theorem bd_index_behind {K : PySem.W.Frag} {f : Addr} {fd : FuncData} (F : D_index_behind K f fd) : Binds K fd P_index_behind [] := F.bindsN fun _ _ _ _ _ _ us hl => match us, hl with | [_, _, _], _ => rfl
theorem bd_SumBook___init {K : PySem.W.Frag} {f : Addr} {fd : FuncData} (F : D_SumBook___init K f fd) : Binds K fd P_SumBook___init [] := F.bindsN fun _ _ _ _ _ _ us hl => match us, hl with | [_, _, _, _], _ => rfl
theorem bd_SumBook___eq {K : PySem.W.Frag} {f : Addr} {fd : FuncData} (F : D_SumBook___eq K f fd) : Binds K fd P_SumBook___eq [] := F.bindsN fun _ _ _ _ _ _ us hl => match us, hl with | [_, _], _ => rfl
theorem bd_SumBook_is_full {K : PySem.W.Frag} {f : Addr} {fd : FuncData} (F : D_SumBook_is_full K f fd) : Binds K fd P_SumBook_is_full [] := F.bindsN fun _ _ _ _ _ _ us hl => match us, hl with | [_], _ => rfl
theorem bd_SumBook_holding {K : PySem.W.Frag} {f : Addr} {fd : FuncData} (F : D_SumBook_holding K f fd) : Binds K fd P_SumBook_holding [] := F.bindsN fun _ _ _ _ _ _ us hl => match us, hl with | [_, _], _ => rfl
theorem bd_SumBook_has {K : PySem.W.Frag} {f : Addr} {fd : FuncData} (F : D_SumBook_has K f fd) : Binds K fd P_SumBook_has [] := F.bindsN fun _ _ _ _ _ _ us hl => match us, hl with | [_, _], _ => rfl
theorem bd_SumBook_contrary {K : PySem.W.Frag} {f : Addr} {fd : FuncData} (F : D_SumBook_contrary K f fd) : Binds K fd P_SumBook_contrary [] := F.bindsN fun _ _ _ _ _ _ us hl => match us, hl with | [_], _ => rfl
theorem bd_SumBook_turned {K : PySem.W.Frag} {f : Addr} {fd : FuncData} (F : D_SumBook_turned K f fd) : Binds K fd P_SumBook_turned [] := F.bindsN fun _ _ _ _ _ _ us hl => match us, hl with | [_], _ => rfl
theorem bd_check_modulus {K : PySem.W.Frag} {f : Addr} {fd : FuncData} (F : D_check_modulus K f fd) : Binds K fd P_check_modulus [] := F.bindsN fun _ _ _ _ _ _ us hl => match us, hl with | [_, _], _ => rfl
theorem bd_check_rest {K : PySem.W.Frag} {f : Addr} {fd : FuncData} (F : D_check_rest K f fd) : Binds K fd P_check_rest [] := F.bindsN fun _ _ _ _ _ _ us hl => match us, hl with | [_, _], _ => rfl
theorem bd_modulus_clash {K : PySem.W.Frag} {f : Addr} {fd : FuncData} (F : D_modulus_clash K f fd) : Binds K fd P_modulus_clash [] := F.bindsN fun _ _ _ _ _ _ us hl => match us, hl with | [_, _, _], _ => rfl
theorem bd_read_lost {K : PySem.W.Frag} {f : Addr} {fd : FuncData} (F : D_read_lost K f fd) : Binds K fd P_read_lost [] := F.bindsN fun _ _ _ _ _ _ us hl => match us, hl with | [_, _], _ => rfl
theorem bd_unread_word {K : PySem.W.Frag} {f : Addr} {fd : FuncData} (F : D_unread_word K f fd) : Binds K fd P_unread_word [] := F.bindsN fun _ _ _ _ _ _ us hl => match us, hl with | [_], _ => rfl
theorem bd_word_of_sum {K : PySem.W.Frag} {f : Addr} {fd : FuncData} (F : D_word_of_sum K f fd) : Binds K fd P_word_of_sum [] := F.bindsN fun _ _ _ _ _ _ us hl => match us, hl with | [_, _], _ => rfl
theorem bd_law_hand {K : PySem.W.Frag} {f : Addr} {fd : FuncData} (F : D_law_hand K f fd) : Binds K fd P_law_hand [] := F.bindsN fun _ _ _ _ _ _ us hl => match us, hl with | [_], _ => rfl
theorem bd_law_mixed {K : PySem.W.Frag} {f : Addr} {fd : FuncData} (F : D_law_mixed K f fd) : Binds K fd P_law_mixed [] := F.bindsN fun _ _ _ _ _ _ us hl => match us, hl with | [_, _], _ => rfl
theorem bd_law_take {K : PySem.W.Frag} {f : Addr} {fd : FuncData} (F : D_law_take K f fd) : Binds K fd P_law_take [] := F.bindsN fun _ _ _ _ _ _ us hl => match us, hl with | [_, _], _ => rfl
theorem bd_law_whole {K : PySem.W.Frag} {f : Addr} {fd : FuncData} (F : D_law_whole K f fd) : Binds K fd P_law_whole [] := F.bindsN fun _ _ _ _ _ _ us hl => match us, hl with | [_], _ => rfl
theorem bd_law_all_words {K : PySem.W.Frag} {f : Addr} {fd : FuncData} (F : D_law_all_words K f fd) : Binds K fd P_law_all_words [] := F.bindsN fun _ _ _ _ _ _ us hl => match us, hl with | [_, _], _ => rfl
theorem bd_law_is_below {K : PySem.W.Frag} {f : Addr} {fd : FuncData} (F : D_law_is_below K f fd) : Binds K fd P_law_is_below [] := F.bindsN fun _ _ _ _ _ _ us hl => match us, hl with | [_, _], _ => rfl
theorem bd_law_more_one {K : PySem.W.Frag} {f : Addr} {fd : FuncData} (F : D_law_more_one K f fd) : Binds K fd P_law_more_one [] := F.bindsN fun _ _ _ _ _ _ us hl => match us, hl with | [_, _], _ => rfl
theorem bd_law_sum {K : PySem.W.Frag} {f : Addr} {fd : FuncData} (F : D_law_sum K f fd) : Binds K fd P_law_sum [] := F.bindsN fun _ _ _ _ _ _ us hl => match us, hl with | [_], _ => rfl
theorem bd_law_is_word {K : PySem.W.Frag} {f : Addr} {fd : FuncData} (F : D_law_is_word K f fd) : Binds K fd P_law_is_word [] := F.bindsN fun _ _ _ _ _ _ us hl => match us, hl with | [_, _], _ => rfl
theorem bd_law_odd {K : PySem.W.Frag} {f : Addr} {fd : FuncData} (F : D_law_odd K f fd) : Binds K fd P_law_odd [] := F.bindsN fun _ _ _ _ _ _ us hl => match us, hl with | [_, _], _ => rfl
theorem bd_law_book_of {K : PySem.W.Frag} {f : Addr} {fd : FuncData} (F : D_law_book_of K f fd) : Binds K fd P_law_book_of [] := F.bindsN fun _ _ _ _ _ _ us hl => match us, hl with | [_, _], _ => rfl
theorem bd_law_clash_right {K : PySem.W.Frag} {f : Addr} {fd : FuncData} (F : D_law_clash_right K f fd) : Binds K fd P_law_clash_right [] := F.bindsN fun _ _ _ _ _ _ us hl => match us, hl with | [_, _, _, _], _ => rfl
theorem bd_law_has_clash {K : PySem.W.Frag} {f : Addr} {fd : FuncData} (F : D_law_has_clash K f fd) : Binds K fd P_law_has_clash [] := F.bindsN fun _ _ _ _ _ _ us hl => match us, hl with | [_, _, _], _ => rfl
theorem bd_law_modulus_right {K : PySem.W.Frag} {f : Addr} {fd : FuncData} (F : D_law_modulus_right K f fd) : Binds K fd P_law_modulus_right [] := F.bindsN fun _ _ _ _ _ _ us hl => match us, hl with | [_, _, _], _ => rfl
theorem bd_law_is_unread {K : PySem.W.Frag} {f : Addr} {fd : FuncData} (F : D_law_is_unread K f fd) : Binds K fd P_law_is_unread [] := F.bindsN fun _ _ _ _ _ _ us hl => match us, hl with | [_, _], _ => rfl
theorem bd_law_unread_right {K : PySem.W.Frag} {f : Addr} {fd : FuncData} (F : D_law_unread_right K f fd) : Binds K fd P_law_unread_right [] := F.bindsN fun _ _ _ _ _ _ us hl => match us, hl with | [_, _], _ => rfl
theorem bd_law_small_unread {K : PySem.W.Frag} {f : Addr} {fd : FuncData} (F : D_law_small_unread K f fd) : Binds K fd P_law_small_unread [] := F.bindsN fun _ _ _ _ _ _ us hl => match us, hl with | [_], _ => rfl
theorem bd_law_refused {K : PySem.W.Frag} {f : Addr} {fd : FuncData} (F : D_law_refused K f fd) : Binds K fd P_law_refused [] := F.bindsN fun _ _ _ _ _ _ us hl => match us, hl with | [_, _, _], _ => rfl
theorem bd_law_refusals {K : PySem.W.Frag} {f : Addr} {fd : FuncData} (F : D_law_refusals K f fd) : Binds K fd P_law_refusals [] := F.bindsN fun _ _ _ _ _ _ us hl => match us, hl with | [_, _], _ => rfl
theorem bd_law {K : PySem.W.Frag} {f : Addr} {fd : FuncData} (F : D_law K f fd) : Binds K fd P_law [] := F.bindsN fun _ _ _ _ _ _ us hl => match us, hl with | [_], _ => rfl
theorem bd_is_whole_3 {K : PySem.W.Frag} {f : Addr} {fd : FuncData} (F : D_is_whole K f fd) : ∃ ds, Vals [] ds ∧ Binds K fd P_is_whole ds := F.binds1 3 2 (by simp) rfl fun _ _ _ _ _ _ _ us its h1 h2 => match us, its, h1, h2 with | [_, _, _], [_, _], _, _ => ⟨_, rfl, rfl⟩
theorem bd_check_word_3 {K : PySem.W.Frag} {f : Addr} {fd : FuncData} (F : D_check_word K f fd) : ∃ ds, Vals [] ds ∧ Binds K fd P_check_word ds := F.binds1 3 1 (by simp) rfl fun _ _ _ _ _ _ _ us its h1 h2 => match us, its, h1, h2 with | [_, _, _], [_], _, _ => ⟨_, rfl, rfl⟩
theorem bd_check_letters_of_2 {K : PySem.W.Frag} {f : Addr} {fd : FuncData} (F : D_check_letters_of K f fd) : ∃ ds, Vals [V.int (201)] ds ∧ Binds K fd P_check_letters_of ds := F.binds1 2 0 (by simp) rfl fun _ _ _ _ _ _ _ us its h1 h2 => match us, its, h1, h2 with | [_, _], [_], _, _ => ⟨_, rfl, rfl⟩
theorem mt_ok {K : PySem.W.Frag} {mg : Str → Option Value} (T : Txt K mg) : ∀ a b r, mt a b = some r → PySem.W.exmOne K (.ref (He.ga K a)) (.ref (He.ga K b)) = some r := by
  intro a b r h
  unfold mt at h
  by_cases c : a = "BadAmount" ∧ b = "BadModulus"
  · rw [if_pos c] at h; obtain ⟨rfl, rfl⟩ := c; cases h; exact T.m_BadAmount_is_BadModulus
  rw [if_neg c] at h; clear c
  by_cases c : a = "BadAmount" ∧ b = "BadNumber"
  · rw [if_pos c] at h; obtain ⟨rfl, rfl⟩ := c; cases h; exact T.m_BadAmount_is_BadNumber
  rw [if_neg c] at h; clear c
  by_cases c : a = "BadAmount" ∧ b = "BadRest"
  · rw [if_pos c] at h; obtain ⟨rfl, rfl⟩ := c; cases h; exact T.m_BadAmount_is_BadRest
  rw [if_neg c] at h; clear c
  by_cases c : a = "BadModulus" ∧ b = "BadModulus"
  · rw [if_pos c] at h; obtain ⟨rfl, rfl⟩ := c; cases h; exact T.m_BadModulus_is_BadModulus
  rw [if_neg c] at h; clear c
  by_cases c : a = "BadModulus" ∧ b = "BadNumber"
  · rw [if_pos c] at h; obtain ⟨rfl, rfl⟩ := c; cases h; exact T.m_BadModulus_is_BadNumber
  rw [if_neg c] at h; clear c
  by_cases c : a = "BadModulus" ∧ b = "BadRest"
  · rw [if_pos c] at h; obtain ⟨rfl, rfl⟩ := c; cases h; exact T.m_BadModulus_is_BadRest
  rw [if_neg c] at h; clear c
  by_cases c : a = "BadNumber" ∧ b = "BadModulus"
  · rw [if_pos c] at h; obtain ⟨rfl, rfl⟩ := c; cases h; exact T.m_BadNumber_is_BadModulus
  rw [if_neg c] at h; clear c
  by_cases c : a = "BadNumber" ∧ b = "BadNumber"
  · rw [if_pos c] at h; obtain ⟨rfl, rfl⟩ := c; cases h; exact T.m_BadNumber_is_BadNumber
  rw [if_neg c] at h; clear c
  by_cases c : a = "BadNumber" ∧ b = "BadRest"
  · rw [if_pos c] at h; obtain ⟨rfl, rfl⟩ := c; cases h; exact T.m_BadNumber_is_BadRest
  rw [if_neg c] at h; clear c
  by_cases c : a = "BadRest" ∧ b = "BadModulus"
  · rw [if_pos c] at h; obtain ⟨rfl, rfl⟩ := c; cases h; exact T.m_BadRest_is_BadModulus
  rw [if_neg c] at h; clear c
  by_cases c : a = "BadRest" ∧ b = "BadNumber"
  · rw [if_pos c] at h; obtain ⟨rfl, rfl⟩ := c; cases h; exact T.m_BadRest_is_BadNumber
  rw [if_neg c] at h; clear c
  by_cases c : a = "BadRest" ∧ b = "BadRest"
  · rw [if_pos c] at h; obtain ⟨rfl, rfl⟩ := c; cases h; exact T.m_BadRest_is_BadRest
  rw [if_neg c] at h; clear c
  by_cases c : a = "BadWord" ∧ b = "BadModulus"
  · rw [if_pos c] at h; obtain ⟨rfl, rfl⟩ := c; cases h; exact T.m_BadWord_is_BadModulus
  rw [if_neg c] at h; clear c
  by_cases c : a = "BadWord" ∧ b = "BadNumber"
  · rw [if_pos c] at h; obtain ⟨rfl, rfl⟩ := c; cases h; exact T.m_BadWord_is_BadNumber
  rw [if_neg c] at h; clear c
  by_cases c : a = "BadWord" ∧ b = "BadRest"
  · rw [if_pos c] at h; obtain ⟨rfl, rfl⟩ := c; cases h; exact T.m_BadWord_is_BadRest
  rw [if_neg c] at h; clear c
  by_cases c : a = "NotOneOff" ∧ b = "BadModulus"
  · rw [if_pos c] at h; obtain ⟨rfl, rfl⟩ := c; cases h; exact T.m_NotOneOff_is_BadModulus
  rw [if_neg c] at h; clear c
  by_cases c : a = "NotOneOff" ∧ b = "BadNumber"
  · rw [if_pos c] at h; obtain ⟨rfl, rfl⟩ := c; cases h; exact T.m_NotOneOff_is_BadNumber
  rw [if_neg c] at h; clear c
  by_cases c : a = "NotOneOff" ∧ b = "BadRest"
  · rw [if_pos c] at h; obtain ⟨rfl, rfl⟩ := c; cases h; exact T.m_NotOneOff_is_BadRest
  rw [if_neg c] at h; clear c
  cases h
theorem fld_ok {K : PySem.W.Frag} {mg : Str → Option Value} (T : Txt K mg) : FldOk K ftab := by
  intro a f h
  unfold ftab at h
  by_cases c : a = "NearPair" ∧ f = "one"
  · obtain ⟨rfl, rfl⟩ := c; exact ⟨T.l_NearPair, T.a_NearPair_is_one⟩
  rw [if_neg c] at h; clear c
  by_cases c : a = "NearPair" ∧ f = "other"
  · obtain ⟨rfl, rfl⟩ := c; exact ⟨T.l_NearPair, T.a_NearPair_is_other⟩
  rw [if_neg c] at h; clear c
  by_cases c : a = "NearPair" ∧ f = "below"
  · obtain ⟨rfl, rfl⟩ := c; exact ⟨T.l_NearPair, T.a_NearPair_is_below⟩
  rw [if_neg c] at h; clear c
  by_cases c : a = "NearPair" ∧ f = "above"
  · obtain ⟨rfl, rfl⟩ := c; exact ⟨T.l_NearPair, T.a_NearPair_is_above⟩
  rw [if_neg c] at h; clear c
  by_cases c : a = "SumBook" ∧ f = "length"
  · obtain ⟨rfl, rfl⟩ := c; exact ⟨T.l_SumBook, T.a_SumBook_is_length⟩
  rw [if_neg c] at h; clear c
  by_cases c : a = "SumBook" ∧ f = "modulus"
  · obtain ⟨rfl, rfl⟩ := c; exact ⟨T.l_SumBook, T.a_SumBook_is_modulus⟩
  rw [if_neg c] at h; clear c
  by_cases c : a = "SumBook" ∧ f = "rest"
  · obtain ⟨rfl, rfl⟩ := c; exact ⟨T.l_SumBook, T.a_SumBook_is_rest⟩
  rw [if_neg c] at h; clear c
  cases h
theorem isi_NearPair {K : PySem.W.Frag} {mg : Str → Option Value} (T : Txt K mg) : IsOk K "NearPair" tabI_NearPair := by
  refine ⟨fun a r h => ?_, T.j_NearPair⟩
  unfold tabI_NearPair at h
  by_cases c : a = "NearPair"
  · rw [if_pos c] at h; subst c; cases h; exact ⟨T.k_NearPair_is_NearPair, tyx_ins T.l_NearPair T.o_NearPair⟩
  rw [if_neg c] at h; clear c
  by_cases c : a = "SumBook"
  · rw [if_pos c] at h; subst c; cases h; exact ⟨T.k_SumBook_is_NearPair, tyx_ins T.l_SumBook T.o_SumBook⟩
  rw [if_neg c] at h; clear c
  cases h
theorem isi_SumBook {K : PySem.W.Frag} {mg : Str → Option Value} (T : Txt K mg) : IsOk K "SumBook" tabI_SumBook := by
  refine ⟨fun a r h => ?_, T.j_SumBook⟩
  unfold tabI_SumBook at h
  by_cases c : a = "NearPair"
  · rw [if_pos c] at h; subst c; cases h; exact ⟨T.k_NearPair_is_SumBook, tyx_ins T.l_NearPair T.o_NearPair⟩
  rw [if_neg c] at h; clear c
  by_cases c : a = "SumBook"
  · rw [if_pos c] at h; subst c; cases h; exact ⟨T.k_SumBook_is_SumBook, tyx_ins T.l_SumBook T.o_SumBook⟩
  rw [if_neg c] at h; clear c
  cases h
end Mine

namespace Mine
open PySem PySem.Spec PyProof.Rows L2
local macro_rules | `(tactic| walk_at "rd") => `(tactic| try simp only [tMk1, iEnumA, iSeq, tPar3, tAugS, ipI, rRepA, rIxA, tCallSD, rExtend, tDNewK, iZipS, tXf, tSeq, tAsg, tCB, tCons, tNil, tVar, tOp, tUn, rI, rI0, rU, gName, gNil, gCons, gSub, rSetL, tC, tRet, tRetN, tNext, tIfS, tTest, tB, tAnd, tOr, tNot, tAndV, tOrV, tNotV, tIf,
  tDrop, tCall, tCallS, tPar, tAug, ipI, tBreak, tCont, tTup, tLst, rEq_int, rNe_int, rEq_bl, rNe_bl, rEq_str, rNe_str, HO.lst.injEq, HO.tup.injEq, Bool.not_eq_true', decide_eq_false_iff_not, rIxH, rIxTH, rCat, tSl, tPart, tNoPart, tBM, rAppend, L2.start, tFor_eq, tLc_eq, iList, iTup, iRng1, iRng2, iEnum, iZip, cx_K, cx_prog, cx_w, cx_nK, forall_const, tYes, wipe, List.foldl_cons, List.foldl_nil, and_assoc, List.map_cons, List.map_nil, List.length_cons, List.length_nil, List.replicate, List.append_nil, List.cons_append, List.nil_append,
  List.getElem?_cons_zero, List.getElem?_cons_succ, List.set_cons_zero, List.set_cons_succ, Nat.zero_add, Nat.add_zero, Nat.reduceAdd, Nat.reduceSub, Option.some.injEq, V.int.injEq, V.bl.injEq, V.ref.injEq, V.str.injEq,
  List.cons.injEq, and_true, true_and, exists_eq_left, exists_eq_left', exists_eq_right, exists_const, exists_eq, exists_and_left, exists_and_right, upd_same, upd_upd, atI_0, atI_1, atI_2, atI_3, ixN_4_0, ixN_4_1, ixN_4_2, ixN_4_3, some_lst, some_tup, decide_eq_true_eq, reduceCtorEq,
  V.int.injEq, Bool.true_eq_false, Bool.false_eq_true, if_true, if_false, ite_true, ite_false, eq_self, not_true_eq_false, not_false_eq_true, decide_true, decide_false, Bool.not_true, Bool.not_false, false_and, and_false, exists_false])
local macro_rules | `(tactic| walk_at "mono") => `(tactic| repeat (first | with_reducible exact mon_var _ | with_reducible exact mon_c _ | with_reducible exact mon_rI _ _ | with_reducible exact mon_rI0 _ | with_reducible exact mon_rEq | with_reducible exact mon_rNe | with_reducible refine mon_test ?_ | with_reducible refine mon_op ?_ ?_ ?_ | with_reducible refine mon_and ?_ ?_ | with_reducible refine mon_or ?_ ?_ | with_reducible exact mon_rU _ | with_reducible refine mon_un ?_ ?_))
local macro_rules | `(tactic| walk_at "sd") => `(tactic| first | assumption | omega | (unfold CMul; omega) | (unfold CDiv; omega) | rfl | decide)
local macro_rules | `(tactic| walk_at "go") => `(tactic| repeat (refine And.intro (by first | assumption | omega | exact tyL (by assumption) | (unfold CMul; omega) | (unfold CDiv; omega) | rfl | decide) ?_))
theorem ok_law_hand {P : Program} {w : World} {K : PySem.W.Frag} {mg : Str → Option Value} {base : Heap} (T : Txt K mg) : ∃ fd, FnOk P w K mg base CX0 1 (He.ga K "_law_hand") fd P_law_hand (sp_hand K) ∧ D_law_hand K (He.ga K "_law_hand") fd := by
  obtain ⟨fd, F⟩ := T.F_law_hand
  refine ⟨fd, F.ok sc_law_hand (fun vs H Q E h => ?_) (fun cdv A outer s H vs Q E hr h => ?_), F⟩
  · obtain ⟨a, ns, rfl, _⟩ := h
    rfl
  ·
    obtain ⟨a, ns, rfl, hS, hl, q⟩ := h
    refine ⟨_, PSs.nox (pss_cons (ps_set (i := 1) sc_law_hand.nd rfl (by first | exact Or.inl rfl | exact Or.inr rfl) (pe_op op_add (pe_callB call_len_seq (by rfl) T.z_len (by decide +kernel) (pa_cons (pv 0) pa_nil)) pe_int))
    (pss_cons (ps_set (i := 2) sc_law_hand.nd rfl (by first | exact Or.inl rfl | exact Or.inr rfl) (pe_lst pa_nil))
    (pss_cons (ps_for PassesOwn.never rfl (pi_list (pv 0)) (pg_name (i := 3) sc_law_hand.nd rfl (by first | exact Or.inl rfl | exact Or.inr rfl))
    (pss_cons (ps_set (i := 1) sc_law_hand.nd rfl (by first | exact Or.inl rfl | exact Or.inr rfl) (pe_op op_mod (pe_callTy call_intI (by rfl) T.z_int (by decide +kernel) (pa_cons (pe_op op_add (pe_op op_mul (pv 1) pe_int) (pe_callTy call_intI (by rfl) T.z_int (by decide +kernel) (pa_cons (pv 3) pa_nil))) pa_nil)) pe_int))
    (pss_one (ps_expr (pe_bm PySem.F.plainAttrs_list PySem.F.slot_list_append PySem.F.type_list_append mt_append (pv 2) (pa_cons (pe_callB call_abs (by rfl) T.z_abs (by decide +kernel) (pa_cons (pe_callTy call_intI (by rfl) T.z_int (by decide +kernel) (pa_cons (pv 3) pa_nil)) pa_nil)) pa_nil))))))
    (pss_one (ps_ret (pe_lst (pa_cons (pv 2) (pa_cons pe_int (pa_cons pe_int (pa_cons (pv 1) pa_nil)))))))))), ?_⟩
    walk_at "rd"
    refine ⟨ns.map V.int, .inl hS, by decide, fun c hc => ⟨⟨_, (same_upd hc).seq hS⟩, ?_⟩⟩
    refine Loop.by (walk_list (xs := ns.map V.int)) (i_hand H a c) ⟨_, none, [], rfl, rfl, upd_same, by simp, same_upd hc, by omega, by rw [List.length_map]; omega⟩
      (fun i σ H' _ ⟨_, _, _, _, _, _, _, sm, _⟩ => sm.seq hS) ?_ ?_
    · rintro i x σ H' H'' hi ⟨tot, v3, cells, rfl, hz, hc', hp, sm, h0, h1⟩ ⟨rfl, hx⟩
      rw [List.length_map] at hi
      rw [List.getElem?_map, List.getElem?_eq_getElem hi] at hx
      obtain rfl := Option.some.inj hx
      walk_at "rd"
      walk_at "go"
      refine ⟨_, hc', by rw [List.length_map]; exact small1000 (by omega), _, _, cells ++ [if ns[i] < 0 then -ns[i] else ns[i]], rfl, by simp [hz], by rw [upd_same, List.map_append]; rfl, ?_, ?_, by omega, by omega⟩
      · intro z hz
        rcases List.mem_append.mp hz with h | h
        · exact hp z h
        · rw [List.mem_singleton] at h; rw [h]; split <;> omega
      · intro b o e
        rw [upd_ne (ne_of_none e hc)]; exact sm b o e
    · rintro σ H' ⟨tot, v3, cells, rfl, hz, hc', hp, sm, h0, h1⟩
      walk_at "rd"
      rw [List.length_map] at hz
      refine ⟨by decide, fun p hp' => q _ p (sm.trans (same_upd hp')) (sm.free hp') ⟨c, cells, 0, 0, tot, upd_same, ?_, hp, by omega, by omega, by omega, h0, h1⟩⟩
      rw [upd_ne (ne_of_none hc' hp')]; exact hc'
end Mine

namespace Mine
open PySem PySem.Spec PyProof.Rows L2
local macro_rules | `(tactic| walk_at "rd") => `(tactic| try simp only [tMk1, iEnumA, iSeq, tPar3, tAugS, ipI, rRepA, rIxA, tCallSD, rExtend, tDNewK, iZipS, tXf, tSeq, tAsg, tCB, tCons, tNil, tVar, tOp, tUn, rI, rI0, rU, gName, gNil, gCons, gSub, rSetL, tC, tRet, tRetN, tNext, tIfS, tTest, tB, tAnd, tOr, tNot, tAndV, tOrV, tNotV, tIf,
  tDrop, tCall, tCallS, tPar, tAug, ipI, tBreak, tCont, tTup, tLst, rEq_int, rNe_int, rEq_bl, rNe_bl, rEq_str, rNe_str, HO.lst.injEq, HO.tup.injEq, Bool.not_eq_true', decide_eq_false_iff_not, rIxH, rIxTH, rCat, tSl, tPart, tNoPart, tBM, rAppend, L2.start, tFor_eq, tLc_eq, iList, iTup, iRng1, iRng2, iEnum, iZip, cx_K, cx_prog, cx_w, cx_nK, forall_const, tYes, wipe, List.foldl_cons, List.foldl_nil, and_assoc, List.map_cons, List.map_nil, List.length_cons, List.length_nil, List.replicate, List.append_nil, List.cons_append, List.nil_append,
  List.getElem?_cons_zero, List.getElem?_cons_succ, List.set_cons_zero, List.set_cons_succ, Nat.zero_add, Nat.add_zero, Nat.reduceAdd, Nat.reduceSub, Option.some.injEq, V.int.injEq, V.bl.injEq, V.ref.injEq, V.str.injEq,
  List.cons.injEq, and_true, true_and, exists_eq_left, exists_eq_left', exists_eq_right, exists_const, exists_eq, exists_and_left, exists_and_right, upd_same, upd_upd, atI_0, atI_1, atI_2, atI_3, ixN_4_0, ixN_4_1, ixN_4_2, ixN_4_3, some_lst, some_tup, decide_eq_true_eq, reduceCtorEq,
  V.int.injEq, Bool.true_eq_false, Bool.false_eq_true, if_true, if_false, ite_true, ite_false, eq_self, not_true_eq_false, not_false_eq_true, decide_true, decide_false, Bool.not_true, Bool.not_false, false_and, and_false, exists_false])
local macro_rules | `(tactic| walk_at "mono") => `(tactic| repeat (first | with_reducible exact mon_var _ | with_reducible exact mon_c _ | with_reducible exact mon_rI _ _ | with_reducible exact mon_rI0 _ | with_reducible exact mon_rEq | with_reducible exact mon_rNe | with_reducible refine mon_test ?_ | with_reducible refine mon_op ?_ ?_ ?_ | with_reducible refine mon_and ?_ ?_ | with_reducible refine mon_or ?_ ?_ | with_reducible exact mon_rU _ | with_reducible refine mon_un ?_ ?_))
local macro_rules | `(tactic| walk_at "sd") => `(tactic| first | assumption | omega | (unfold CMul; omega) | (unfold CDiv; omega) | rfl | decide)
local macro_rules | `(tactic| walk_at "go") => `(tactic| repeat (refine And.intro (by first | assumption | omega | exact tyL (by assumption) | (unfold CMul; omega) | (unfold CDiv; omega) | rfl | decide) ?_))
theorem ok_law_mixed {P : Program} {w : World} {K : PySem.W.Frag} {mg : Str → Option Value} {base : Heap} (T : Txt K mg) : ∃ fd, FnOk P w K mg base CX0 1 (He.ga K "_law_mixed") fd P_law_mixed sp_mixed ∧ D_law_mixed K (He.ga K "_law_mixed") fd := by
  obtain ⟨fd, F⟩ := T.F_law_mixed
  refine ⟨fd, F.ok sc_law_mixed (fun vs H Q E h => ?_) (fun cdv A outer s H vs Q E hr h => ?_), F⟩
  · obtain ⟨n, t, rfl, _⟩ := h
    rfl
  ·
    obtain ⟨n, t, rfl, ⟨h1, h2, h3, h4⟩, q⟩ := h
    refine ⟨_, PSs.nox (pss_cons (ps_set (i := 2) sc_law_mixed.nd rfl (by first | exact Or.inl rfl | exact Or.inr rfl) (pe_op op_mod (pe_callTy call_intI (by rfl) T.z_int (by decide +kernel) (pa_cons (pe_op op_add (pe_op op_add (pe_op op_mul (pv 0) pe_int) (pe_op op_mul (pv 1) pe_int)) pe_int) pa_nil)) pe_int))
    (pss_cons (ps_set (i := 3) sc_law_mixed.nd rfl (by first | exact Or.inl rfl | exact Or.inr rfl) (pe_op op_mod (pe_callTy call_intI (by rfl) T.z_int (by decide +kernel) (pa_cons (pe_op op_add (pe_op op_add (pe_op op_mul (pv 2) (pv 2)) (pe_op op_mul (pv 1) pe_int)) (pe_op op_fdiv (pv 2) pe_int)) pa_nil)) pe_int))
    (pss_one (ps_ret (pe_op op_fdiv (pe_callTy call_intI (by rfl) T.z_int (by decide +kernel) (pa_cons (pe_op op_mod (pe_callTy call_intI (by rfl) T.z_int (by decide +kernel) (pa_cons (pe_op op_add (pe_op op_mul (pv 3) pe_int) (pe_op op_fdiv (pv 2) pe_int)) pa_nil)) pe_int) pa_nil)) pe_int))))), ?_⟩
    walk_at "rd"
    walk_at "go"
    exact q _ (mixedN_pos n t)
end Mine

namespace Mine
open PySem PySem.Spec PyProof.Rows L2
local macro_rules | `(tactic| walk_at "rd") => `(tactic| try simp only [tMk1, iEnumA, iSeq, tPar3, tAugS, ipI, rRepA, rIxA, tCallSD, rExtend, tDNewK, iZipS, tXf, tSeq, tAsg, tCB, tCons, tNil, tVar, tOp, tUn, rI, rI0, rU, gName, gNil, gCons, gSub, rSetL, tC, tRet, tRetN, tNext, tIfS, tTest, tB, tAnd, tOr, tNot, tAndV, tOrV, tNotV, tIf,
  tDrop, tCall, tCallS, tPar, tAug, ipI, tBreak, tCont, tTup, tLst, rEq_int, rNe_int, rEq_bl, rNe_bl, rEq_str, rNe_str, HO.lst.injEq, HO.tup.injEq, Bool.not_eq_true', decide_eq_false_iff_not, rIxH, rIxTH, rCat, tSl, tPart, tNoPart, tBM, rAppend, L2.start, tFor_eq, tLc_eq, iList, iTup, iRng1, iRng2, iEnum, iZip, cx_K, cx_prog, cx_w, cx_nK, forall_const, tYes, wipe, List.foldl_cons, List.foldl_nil, and_assoc, List.map_cons, List.map_nil, List.length_cons, List.length_nil, List.replicate, List.append_nil, List.cons_append, List.nil_append,
  List.getElem?_cons_zero, List.getElem?_cons_succ, List.set_cons_zero, List.set_cons_succ, Nat.zero_add, Nat.add_zero, Nat.reduceAdd, Nat.reduceSub, Option.some.injEq, V.int.injEq, V.bl.injEq, V.ref.injEq, V.str.injEq,
  List.cons.injEq, and_true, true_and, exists_eq_left, exists_eq_left', exists_eq_right, exists_const, exists_eq, exists_and_left, exists_and_right, upd_same, upd_upd, atI_0, atI_1, atI_2, atI_3, ixN_4_0, ixN_4_1, ixN_4_2, ixN_4_3, some_lst, some_tup, decide_eq_true_eq, reduceCtorEq,
  V.int.injEq, Bool.true_eq_false, Bool.false_eq_true, if_true, if_false, ite_true, ite_false, eq_self, not_true_eq_false, not_false_eq_true, decide_true, decide_false, Bool.not_true, Bool.not_false, false_and, and_false, exists_false])
local macro_rules | `(tactic| walk_at "mono") => `(tactic| repeat (first | with_reducible exact mon_var _ | with_reducible exact mon_c _ | with_reducible exact mon_rI _ _ | with_reducible exact mon_rI0 _ | with_reducible exact mon_rEq | with_reducible exact mon_rNe | with_reducible refine mon_test ?_ | with_reducible refine mon_op ?_ ?_ ?_ | with_reducible refine mon_and ?_ ?_ | with_reducible refine mon_or ?_ ?_ | with_reducible exact mon_rU _ | with_reducible refine mon_un ?_ ?_))
local macro_rules | `(tactic| walk_at "sd") => `(tactic| first | assumption | omega | (unfold CMul; omega) | (unfold CDiv; omega) | rfl | decide)
local macro_rules | `(tactic| walk_at "go") => `(tactic| repeat (refine And.intro (by first | assumption | omega | exact tyL (by assumption) | (unfold CMul; omega) | (unfold CDiv; omega) | rfl | decide) ?_))
theorem ok_law_take {P : Program} {w : World} {K : PySem.W.Frag} {mg : Str → Option Value} {base : Heap} (T : Txt K mg) : ∃ fd, FnOk P w K mg base CX0 2 (He.ga K "_law_take") fd P_law_take (spD K F_law_take) ∧ D_law_take K (He.ga K "_law_take") fd := by
  obtain ⟨fd, F⟩ := T.F_law_take
  obtain ⟨fd_law_mixed, G_law_mixed, D_law_mixed⟩ := ok_law_mixed (P := P) (w := w) (base := base) T
  have k_law_mixed := D_law_mixed.kp
  have b_law_mixed := bd_law_mixed D_law_mixed
  refine ⟨fd, F.ok sc_law_take (fun vs H Q E h => ?_) (fun cdv A outer s H vs Q E hr h => ?_), F⟩
  · obtain ⟨h, m, rfl, _⟩ := take_spD _ _ _ _ h -- := h
    rfl
  ·
    replace h := take_spD _ _ _ _ h
    obtain ⟨h, m, rfl, ⟨c, cells, at_, big, mix, hH, hC, hp, ha, hl, hb, hm, hm2⟩, h1, h2, q⟩ := h
    have hc : c ≠ h := ne_of hC hH (by
      intro z
      cases cells with
      | nil => cases z
      | cons x r => cases z)
    have k : ∀ xs, upd H h (.lst xs) c = some (.lst (cells.map V.int)) := fun xs => by rw [upd_ne hc]; exact hC
    have key : ∀ (ai : Int) (a2 : Nat) (b2 m2 : Int), ai = a2 → a2 ≤ cells.length → 0 ≤ b2 → 0 ≤ m2 → m2 < 2147483563 → HandN H h (.lst [.ref c, .int ai, .int b2, .int m2]) :=
      fun ai a2 b2 m2 e x1 x2 x3 x4 => ⟨⟨c, cells, a2, b2, m2, by rw [upd_same, e], k _, hp, x1, hl, x2, x3, x4⟩, c, _, _, hH, rfl⟩
    have emod : ∀ z : Int, 0 ≤ z % m ∧ z % m < m := fun z => ⟨Int.emod_nonneg _ (by omega), Int.emod_lt_of_pos _ h1⟩
    have ediv : ∀ z : Int, 0 ≤ z → 0 ≤ z / m := fun z hz => Int.ediv_nonneg hz (by omega)
    have fresh : ∀ (ai : Int) (a2 : Nat) (b2 : Int), ai = a2 → a2 ≤ cells.length → 0 ≤ b2 → (0 : Int) < 2147483549 ∧ sp_mixed [V.int ((mix + 1) % 2147483549), V.int ai] (upd H h (.lst [.ref c, .int ai, .int b2, .int ((mix + 1) % 2147483549)]))
        (fun x H1 => ∃ i, x = V.int i ∧ 0 < m ∧ Q (V.int (i % m)) H1) E0 := fun ai a2 b2 e x1 x2 => by
      refine ⟨by decide, _, _, rfl, by omega, fun r hr => ⟨r, rfl, h1, q _ _ (emod r).1 (emod r).2 (key ai a2 b2 _ e x1 x2 (by omega) (by omega))⟩⟩
    refine ⟨_, PSs.nox (pss_cons (ps_if (PW.pt (pw_and (pt_cmpR op_eq (pe_ix ix_H (pv 0) pe_int (fun _ _ => rfl)) pe_int (nomark _)) (pw_and1 (pt_cmpR op_lt (pe_ix ix_H (pv 0) pe_int (fun _ _ => rfl)) (pe_callB call_lenL (by rfl) T.z_len (by decide +kernel) (pa_cons (pe_ix ix_H (pv 0) pe_int (fun _ _ => rfl)) pa_nil)) (nomark _)))))
    (pss_cons (ps_set (i := 2) sc_law_take.nd rfl (by first | exact Or.inl rfl | exact Or.inr rfl) (pe_ix ix_H (pe_ix ix_H (pv 0) pe_int (fun _ _ => rfl)) (pe_ix ix_H (pv 0) pe_int (fun _ _ => rfl)) (fun _ _ => rfl)))
    (pss_cons (ps_asg (pe_op op_add (pe_ix ix_H (pv 0) pe_int (fun _ _ => rfl)) pe_int) (pg_sub (pv 0) pe_int set_list))
    (pss_cons (ps_if (pt_cmpR op_lt (pv 2) (pe_op op_pow pe_int pe_int) (nomark _))
    (pss_one (ps_ret (pe_op op_mod (pe_callTy call_intI (by rfl) T.z_int (by decide +kernel) (pa_cons (pe_call G_law_mixed (hr.mono (by decide)) rfl T.g__law_mixed k_law_mixed b_law_mixed .nil pass0 (pa_cons (pe_op op_mod (pe_callTy call_intI (by rfl) T.z_int (by decide +kernel) (pa_cons (pv 2) pa_nil)) pe_int) (pa_cons (pe_ix ix_H (pv 0) pe_int (fun _ _ => rfl)) pa_nil))) pa_nil)) (pv 1))))
    pss_nil)
    (pss_one (ps_asg (pv 2) (pg_sub (pv 0) pe_int set_list))))))
    pss_nil)
    (pss_cons (ps_if (pt_cmpR op_gt (pe_ix ix_H (pv 0) pe_int (fun _ _ => rfl)) pe_int (nomark _))
    (pss_cons (ps_set (i := 3) sc_law_take.nd rfl (by first | exact Or.inl rfl | exact Or.inr rfl) (pe_ix ix_H (pv 0) pe_int (fun _ _ => rfl)))
    (pss_cons (ps_asg (pe_op op_fdiv (pe_callTy call_intI (by rfl) T.z_int (by decide +kernel) (pa_cons (pv 3) pa_nil)) (pv 1)) (pg_sub (pv 0) pe_int set_list))
    (pss_one (ps_ret (pe_op op_mod (pe_callTy call_intI (by rfl) T.z_int (by decide +kernel) (pa_cons (pv 3) pa_nil)) (pv 1))))))
    pss_nil)
    (pss_cons (ps_asg (pe_op op_mod (pe_callTy call_intI (by rfl) T.z_int (by decide +kernel) (pa_cons (pe_op op_add (pe_ix ix_H (pv 0) pe_int (fun _ _ => rfl)) pe_int) pa_nil)) pe_int) (pg_sub (pv 0) pe_int set_list))
    (pss_one (ps_ret (pe_op op_mod (pe_callTy call_intI (by rfl) T.z_int (by decide +kernel) (pa_cons (pe_call G_law_mixed (hr.mono (by decide)) rfl T.g__law_mixed k_law_mixed b_law_mixed .nil pass0 (pa_cons (pe_ix ix_H (pv 0) pe_int (fun _ _ => rfl)) (pa_cons (pe_ix ix_H (pv 0) pe_int (fun _ _ => rfl)) pa_nil))) pa_nil)) (pv 1))))))), ?_⟩
    simp only [tMk1, iEnumA, iSeq, tPar3, tAugS, ipI, rRepA, rIxA, tCallSD, rExtend, tDNewK, iZipS, tXf, tSeq, tAsg, tCB, tCons, tNil, tVar, tOp, tUn, rI, rI0, rU, gName, gNil, gCons, gSub, rSetL, tC, tRet, tRetN, tNext, tIfS, tTest, tB, tAnd, tOr, tNot, tAndV, tOrV, tNotV, tIf,
  tDrop, tCall, tCallS, tPar, tAug, ipI, tBreak, tCont, tTup, tLst, rEq_int, rNe_int, rEq_bl, rNe_bl, rEq_str, rNe_str, HO.lst.injEq, HO.tup.injEq, Bool.not_eq_true', decide_eq_false_iff_not, rIxH, rIxTH, rCat, tSl, tPart, tNoPart, tBM, rAppend, L2.start, tFor_eq, tLc_eq, iList, iTup, iRng1, iRng2, iEnum, iZip, cx_K, cx_prog, cx_w, cx_nK, forall_const, tYes, wipe, List.foldl_cons, List.foldl_nil, and_assoc, List.map_cons, List.map_nil, List.length_cons, List.length_nil, List.replicate, List.append_nil, List.cons_append, List.nil_append,
  List.getElem?_cons_zero, List.getElem?_cons_succ, List.set_cons_zero, List.set_cons_succ, Nat.zero_add, Nat.add_zero, Nat.reduceAdd, Nat.reduceSub, Option.some.injEq, V.int.injEq, V.bl.injEq, V.ref.injEq, V.str.injEq,
  List.cons.injEq, and_true, true_and, exists_eq_left, exists_eq_left', exists_eq_right, exists_const, exists_eq, exists_and_left, exists_and_right, upd_same, upd_upd, atI_0, atI_1, atI_2, atI_3, ixN_4_0, ixN_4_1, ixN_4_2, ixN_4_3, some_lst, some_tup, decide_eq_true_eq, reduceCtorEq,
  V.int.injEq, Bool.true_eq_false, Bool.false_eq_true, if_true, if_false, ite_true, ite_false, eq_self, not_true_eq_false, not_false_eq_true, decide_true, decide_false, Bool.not_true, Bool.not_false, false_and, and_false, exists_false, hH, hC]
    have old : if 0 < big then CDiv big m ∧ 0 < m ∧ Q (V.int (big % m)) (upd H h (HO.lst [V.ref c, V.int ↑at_, V.int (big / m), V.int mix]))
        else (0 : Int) < 2147483549 ∧ sp_mixed [V.int ((mix + 1) % 2147483549), V.int ↑at_] (upd H h (HO.lst [V.ref c, V.int ↑at_, V.int big, V.int ((mix + 1) % 2147483549)])) (fun x H1 => ∃ i, x = V.int i ∧ 0 < m ∧ Q (V.int (i % m)) H1) E0 :=
      ite2 (fun _ => ⟨⟨h1, h2⟩, h1, q _ _ (emod big).1 (emod big).2 (key _ at_ _ _ rfl ha (ediv _ hb) hm hm2)⟩) (fun _ => fresh _ at_ _ rfl ha hb)
    refine ite2 (fun _ => ite2 (fun e => ?_) (fun _ => old)) (fun _ => old)
    have hlt : at_ < cells.length := by rw [List.length_map] at e; omega
    have hz := hp cells[at_] (List.getElem_mem hlt)
    refine ⟨.int cells[at_], atI_nat (by rw [List.getElem?_map, List.getElem?_eq_getElem hlt]; rfl), ⟨by decide, by decide, by decide⟩, _, rfl, ite2 (fun e2 => ?_) (fun e2 => ?_)⟩
    · refine ⟨_, rfl, by decide, _, _, rfl, by omega, fun r hr => ⟨r, rfl, h1, q _ _ (emod r).1 (emod r).2 (key _ (at_ + 1) _ _ (by omega) (by omega) hb hm hm2)⟩⟩
    · refine ⟨_, rfl, ite2 (fun e3 => ?_) (fun e3 => fresh _ (at_ + 1) _ (by omega) (by omega) hz)⟩
      exact ⟨_, rfl, ⟨h1, h2⟩, _, rfl, h1, q _ _ (emod _).1 (emod _).2 (key _ (at_ + 1) _ _ (by omega) (by omega) (ediv _ hz) hm hm2)⟩
end Mine

namespace Mine
open PySem PySem.Spec PyProof.Rows L2
theorem ok_is_whole {P : Program} {w : World} {K : PySem.W.Frag} {mg : Str → Option Value} {base : Heap} (T : Txt K mg) : ∃ fd, FnOk P w K mg base CX0 1 (He.ga K "is_whole") fd P_is_whole (spD K F_is_whole) ∧ D_is_whole K (He.ga K "is_whole") fd := by
  obtain ⟨fd, F⟩ := T.F_is_whole
  refine ⟨fd, F.ok sc_is_whole (fun vs H Q E h => ?_) (fun cdv A outer s H vs Q E hr h => ?_), F⟩
  · rw [F_is_whole_eq] at h
    exact spD_len (np := 3) (fun _ _ _ h => h.1) vs H Q E h
  · rw [F_is_whole_eq] at h
    refine ⟨_, PSs.nox (pss_cons (ps_if (PW.pt (pw_or (pt_not (pt_tru rfl (pe_callB (call_isiU (K := K) rfl) (by rfl) T.z_isinstance (by decide +kernel) (pa_cons (pv 0) (pa_cons (pe_bltn (v := .ty "int") (by rfl) T.z_int (by decide +kernel) rfl) pa_nil))) (by intro _; rfl))) (pw_or1 (pt_tru rfl (pe_callB (call_isiU (K := K) rfl) (by rfl) T.z_isinstance (by decide +kernel) (pa_cons (pv 0) (pa_cons (pe_bltn (v := .ty "bool") (by rfl) T.z_bool (by decide +kernel) rfl) pa_nil))) (by intro _; rfl)))))
    (pss_one (ps_ret pe_bl))
    pss_nil)
    (pss_one (ps_ret (pe_and (pe_or (pe_cmpR op_isN (pv 1) pe_non (by first | exact nomark _ | rfl)) (pe_one (pe_cmpR op_ge (pv 0) (pv 1) (by first | exact nomark _ | rfl)))) (pe_one (pe_or (pe_cmpR op_isN (pv 2) pe_non (by first | exact nomark _ | rfl)) (pe_one (pe_cmpR op_le (pv 0) (pv 2) (by first | exact nomark _ | rfl))))))))), ?_⟩
    exact body_of0 rfl h fun X hd => (dst_seq (dst_if (dt_or (dt_not (dt_tru (DEg.bor (dg_cb (cg_isi known_int) (db_cons (db_var 0) (db_cons (DEg.bor (de_raw (.ty "int"))) db_nil)))))) (dt_tru (DEg.bor (dg_cb (cg_isi known_bool) (db_cons (db_var 0) (db_cons (DEg.bor (de_raw (.ty "bool"))) db_nil))))))
    (dst_ret (de_bl false))
    dst_next)
    (dst_ret (de_andV (de_orV (dg_op od_isN (db_var 1) (DEg.bor de_non)) (dg_op od_ge (db_var 0) (db_var 1))) (de_orV (dg_op od_isN (db_var 2) (DEg.bor de_non)) (dg_op od_le (db_var 0) (db_var 2))))))
end Mine

namespace Mine
open PySem PySem.Spec PyProof.Rows L2
theorem ok_check_number {P : Program} {w : World} {K : PySem.W.Frag} {mg : Str → Option Value} {base : Heap} (T : Txt K mg) : ∃ fd, FnOk P w K mg base (L2.CX P w) 2 (He.ga K "check_number") fd P_check_number (spD K F_check_number) ∧ D_check_number K (He.ga K "check_number") fd := by
  obtain ⟨fd, F⟩ := T.F_check_number
  obtain ⟨fd_is_whole, G_is_whole, D_is_whole⟩ := ok_is_whole (P := P) (w := w) (base := base) T
  have k_is_whole := D_is_whole.kp
  obtain ⟨ds_is_whole_3, r_is_whole_3, b_is_whole_3⟩ := bd_is_whole_3 D_is_whole
  refine ⟨fd, F.ok sc_check_number (fun vs H Q E h => ?_) (fun cdv A outer s H vs Q E hr h => ?_), F⟩
  · rw [F_check_number_eq] at h
    exact spD_len (np := 3) (fun _ _ _ h => h.1) vs H Q E h
  · rw [F_check_number_eq] at h
    refine ⟨_, (pss_cons (ps_if (pt_not (pt_tru rfl (pe_call G_is_whole (hr.mono (by decide)) rfl T.g_is_whole k_is_whole b_is_whole_3 r_is_whole_3 pass0 (pa_cons (pv 0) (pa_cons (pv 1) (pa_cons (pv 2) pa_nil)))) (by intro _; rfl)))
    (pss_one (ps_raise rfl (takes_of rfl rfl rfl rfl) (mk0 T.e_BadNumber T.g_BadNumber rfl)))
    pss_nil)
    (pss_one (ps_ret (pv 0)))), ?_⟩
    exact body_of rfl h fun X hd => (dst_seq (dst_if (dt_not (dt_tru (DEg.bor (de_call0 dv_nil (ds_cons (de_var 0) (ds_cons (de_var 1) (ds_cons (de_var 2) ds_nil)))))))
    (dst_raise rfl)
    dst_next)
    (dst_ret (de_var 0)))
end Mine

namespace Mine
open PySem PySem.Spec PyProof.Rows L2
theorem ok_check_modulus {P : Program} {w : World} {K : PySem.W.Frag} {mg : Str → Option Value} {base : Heap} (T : Txt K mg) : ∃ fd, FnOk P w K mg base (L2.CX P w) 2 (He.ga K "_check_modulus") fd P_check_modulus (spD K F_check_modulus) ∧ D_check_modulus K (He.ga K "_check_modulus") fd := by
  obtain ⟨fd, F⟩ := T.F_check_modulus
  obtain ⟨fd_is_whole, G_is_whole, D_is_whole⟩ := ok_is_whole (P := P) (w := w) (base := base) T
  have k_is_whole := D_is_whole.kp
  obtain ⟨ds_is_whole_3, r_is_whole_3, b_is_whole_3⟩ := bd_is_whole_3 D_is_whole
  refine ⟨fd, F.ok sc_check_modulus (fun vs H Q E h => ?_) (fun cdv A outer s H vs Q E hr h => ?_), F⟩
  · rw [F_check_modulus_eq] at h
    exact spD_len (np := 2) (fun _ _ _ h => h.1) vs H Q E h
  · rw [F_check_modulus_eq] at h
    refine ⟨_, (pss_one (ps_if (pt_not (pt_tru rfl (pe_call G_is_whole (hr.mono (by decide)) rfl T.g_is_whole k_is_whole b_is_whole_3 r_is_whole_3 pass0 (pa_cons (pv 0) (pa_cons (pv 1) (pa_cons (pe_glob (v := .int (1000000)) rfl T.c_MOST_MODULUS.choose_spec ⟨_, rfl⟩) pa_nil)))) (by intro _; rfl)))
    (pss_one (ps_raise rfl (takes_of rfl rfl rfl rfl) (mk0 T.e_BadModulus T.g_BadModulus rfl)))
    pss_nil)), ?_⟩
    exact body_of rfl h fun X hd => (dst_if (dt_not (dt_tru (DEg.bor (de_call0 dv_nil (ds_cons (de_var 0) (ds_cons (de_var 1) (ds_cons (de_int (1000000)) ds_nil)))))))
    (dst_raise rfl)
    dst_next)
end Mine

namespace Mine
open PySem PySem.Spec PyProof.Rows L2
theorem ok_check_rest {P : Program} {w : World} {K : PySem.W.Frag} {mg : Str → Option Value} {base : Heap} (T : Txt K mg) : ∃ fd, FnOk P w K mg base (L2.CX P w) 2 (He.ga K "_check_rest") fd P_check_rest (spD K F_check_rest) ∧ D_check_rest K (He.ga K "_check_rest") fd := by
  obtain ⟨fd, F⟩ := T.F_check_rest
  obtain ⟨fd_is_whole, G_is_whole, D_is_whole⟩ := ok_is_whole (P := P) (w := w) (base := base) T
  have k_is_whole := D_is_whole.kp
  obtain ⟨ds_is_whole_3, r_is_whole_3, b_is_whole_3⟩ := bd_is_whole_3 D_is_whole
  refine ⟨fd, F.ok sc_check_rest (fun vs H Q E h => ?_) (fun cdv A outer s H vs Q E hr h => ?_), F⟩
  · rw [F_check_rest_eq] at h
    exact spD_len (np := 2) (fun _ _ _ h => h.1) vs H Q E h
  · rw [F_check_rest_eq] at h
    refine ⟨_, (pss_one (ps_if (pt_not (pt_tru rfl (pe_call G_is_whole (hr.mono (by decide)) rfl T.g_is_whole k_is_whole b_is_whole_3 r_is_whole_3 pass0 (pa_cons (pv 0) (pa_cons pe_int (pa_cons (pe_op op_sub (pv 1) pe_int) pa_nil)))) (by intro _; rfl)))
    (pss_one (ps_raise rfl (takes_of rfl rfl rfl rfl) (mk0 T.e_BadRest T.g_BadRest rfl)))
    pss_nil)), ?_⟩
    exact body_of rfl h fun X hd => (dst_if (dt_not (dt_tru (DEg.bor (de_call0 dv_nil (ds_cons (de_var 0) (ds_cons (de_int 0) (ds_cons (dg_op od_sub (db_var 1) (DEg.bor (de_int 1))) ds_nil)))))))
    (dst_raise rfl)
    dst_next)
end Mine

namespace Mine
open PySem PySem.Spec PyProof.Rows L2
local macro_rules | `(tactic| walk_at "rd") => `(tactic| try simp only [tMk1, iEnumA, iSeq, tPar3, tAugS, ipI, rRepA, rIxA, tCallSD, rExtend, tDNewK, iZipS, tXf, tSeq, tAsg, tCB, tCons, tNil, tVar, tOp, tUn, rI, rI0, rU, gName, gNil, gCons, gSub, rSetL, tC, tRet, tRetN, tNext, tIfS, tTest, tB, tAnd, tOr, tNot, tAndV, tOrV, tNotV, tIf,
  tDrop, tCall, tCallS, tPar, tAug, ipI, tBreak, tCont, tTup, tLst, rEq_int, rNe_int, rEq_bl, rNe_bl, rEq_str, rNe_str, HO.lst.injEq, HO.tup.injEq, Bool.not_eq_true', decide_eq_false_iff_not, rIxH, rIxTH, rCat, tSl, tPart, tNoPart, tBM, rAppend, L2.start, tFor_eq, tLc_eq, iList, iTup, iRng1, iRng2, iEnum, iZip, cx_K, cx_prog, cx_w, cx_nK, forall_const, tYes, wipe, List.foldl_cons, List.foldl_nil, and_assoc, List.map_cons, List.map_nil, List.length_cons, List.length_nil, List.replicate, List.append_nil, List.cons_append, List.nil_append,
  List.getElem?_cons_zero, List.getElem?_cons_succ, List.set_cons_zero, List.set_cons_succ, Nat.zero_add, Nat.add_zero, Nat.reduceAdd, Nat.reduceSub, Option.some.injEq, V.int.injEq, V.bl.injEq, V.ref.injEq, V.str.injEq,
  List.cons.injEq, and_true, true_and, exists_eq_left, exists_eq_left', exists_eq_right, exists_const, exists_eq, exists_and_left, exists_and_right, upd_same, upd_upd, atI_0, atI_1, atI_2, atI_3, ixN_4_0, ixN_4_1, ixN_4_2, ixN_4_3, some_lst, some_tup, decide_eq_true_eq, reduceCtorEq,
  V.int.injEq, Bool.true_eq_false, Bool.false_eq_true, if_true, if_false, ite_true, ite_false, eq_self, not_true_eq_false, not_false_eq_true, decide_true, decide_false, Bool.not_true, Bool.not_false, false_and, and_false, exists_false])
local macro_rules | `(tactic| walk_at "mono") => `(tactic| repeat (first | with_reducible exact mon_var _ | with_reducible exact mon_c _ | with_reducible exact mon_rI _ _ | with_reducible exact mon_rI0 _ | with_reducible exact mon_rEq | with_reducible exact mon_rNe | with_reducible refine mon_test ?_ | with_reducible refine mon_op ?_ ?_ ?_ | with_reducible refine mon_and ?_ ?_ | with_reducible refine mon_or ?_ ?_ | with_reducible exact mon_rU _ | with_reducible refine mon_un ?_ ?_))
local macro_rules | `(tactic| walk_at "sd") => `(tactic| first | assumption | omega | (unfold CMul; omega) | (unfold CDiv; omega) | rfl | decide)
local macro_rules | `(tactic| walk_at "go") => `(tactic| repeat (refine And.intro (by first | assumption | omega | exact tyL (by assumption) | (unfold CMul; omega) | (unfold CDiv; omega) | rfl | decide) ?_))
theorem ok_BadWord___init {P : Program} {w : World} {K : PySem.W.Frag} {mg : Str → Option Value} {base : Heap} (T : Txt K mg) : ∃ fd, FnOk P w K mg base CX0 1 (He.ma K (He.ga K "BadWord") "__init__") fd P_BadWord___init (spFld (He.ga K "BadWord") "index") ∧ D_BadWord___init K (He.ma K (He.ga K "BadWord") "__init__") fd := by
  obtain ⟨fd, F⟩ := T.F_BadWord___init
  refine ⟨fd, F.ok sc_BadWord___init (fun vs H Q E h => ?_) (fun cdv A outer s H vs Q E hr h => ?_), F⟩
  · obtain ⟨a, v, rfl, _⟩ := h
    rfl
  ·
    obtain ⟨a, v, rfl, ha, q⟩ := h
    refine ⟨_, PSs.nox (pss_one (ps_ost (pv 0) (pv 1))), ?_⟩
    simp only [tMk1, iEnumA, iSeq, tPar3, tAugS, ipI, rRepA, rIxA, tCallSD, rExtend, tDNewK, iZipS, tXf, tSeq, tAsg, tCB, tCons, tNil, tVar, tOp, tUn, rI, rI0, rU, gName, gNil, gCons, gSub, rSetL, tC, tRet, tRetN, tNext, tIfS, tTest, tB, tAnd, tOr, tNot, tAndV, tOrV, tNotV, tIf,
  tDrop, tCall, tCallS, tPar, tAug, ipI, tBreak, tCont, tTup, tLst, rEq_int, rNe_int, rEq_bl, rNe_bl, rEq_str, rNe_str, HO.lst.injEq, HO.tup.injEq, Bool.not_eq_true', decide_eq_false_iff_not, rIxH, rIxTH, rCat, tSl, tPart, tNoPart, tBM, rAppend, L2.start, tFor_eq, tLc_eq, iList, iTup, iRng1, iRng2, iEnum, iZip, cx_K, cx_prog, cx_w, cx_nK, forall_const, tYes, wipe, List.foldl_cons, List.foldl_nil, and_assoc, List.map_cons, List.map_nil, List.length_cons, List.length_nil, List.replicate, List.append_nil, List.cons_append, List.nil_append,
  List.getElem?_cons_zero, List.getElem?_cons_succ, List.set_cons_zero, List.set_cons_succ, Nat.zero_add, Nat.add_zero, Nat.reduceAdd, Nat.reduceSub, Option.some.injEq, V.int.injEq, V.bl.injEq, V.ref.injEq, V.str.injEq,
  List.cons.injEq, and_true, true_and, exists_eq_left, exists_eq_left', exists_eq_right, exists_const, exists_eq, exists_and_left, exists_and_right, upd_same, upd_upd, atI_0, atI_1, atI_2, atI_3, ixN_4_0, ixN_4_1, ixN_4_2, ixN_4_3, some_lst, some_tup, decide_eq_true_eq, reduceCtorEq,
  V.int.injEq, Bool.true_eq_false, Bool.false_eq_true, if_true, if_false, ite_true, ite_false, eq_self, not_true_eq_false, not_false_eq_true, decide_true, decide_false, Bool.not_true, Bool.not_false, false_and, and_false, exists_false, tOst]
    exact ⟨_, T.x_BadWord.o, T.n_BadWord_is_index, .inl ⟨ha, fun dx h1 h2 => q dx h1 h2⟩⟩
end Mine

namespace Mine
open PySem PySem.Spec PyProof.Rows L2
theorem ok_check_word {P : Program} {w : World} {K : PySem.W.Frag} {mg : Str → Option Value} {base : Heap} (T : Txt K mg) : ∃ fd, FnOk P w K mg base (L2.CX P w) 3 (He.ga K "check_word") fd P_check_word (spD K F_check_word) ∧ D_check_word K (He.ga K "check_word") fd := by
  obtain ⟨fd, F⟩ := T.F_check_word
  obtain ⟨fd_BadWord___init, G_BadWord___init, D_BadWord___init⟩ := ok_BadWord___init (P := P) (w := w) (base := base) T
  have k_BadWord___init := D_BadWord___init.kp
  have b_BadWord___init := bd_BadWord___init D_BadWord___init
  obtain ⟨fd_is_whole, G_is_whole, D_is_whole⟩ := ok_is_whole (P := P) (w := w) (base := base) T
  have k_is_whole := D_is_whole.kp
  obtain ⟨ds_is_whole_3, r_is_whole_3, b_is_whole_3⟩ := bd_is_whole_3 D_is_whole
  refine ⟨fd, F.ok sc_check_word (fun vs H Q E h => ?_) (fun cdv A outer s H vs Q E hr h => ?_), F⟩
  · rw [F_check_word_eq] at h
    exact spD_len (np := 3) (fun _ _ _ h => h.1) vs H Q E h
  · rw [F_check_word_eq] at h
    refine ⟨_, (pss_cons (ps_if (PW.pt (pw_or (pt_not (pt_tru rfl (pe_callB (call_isiTU (K := K) rfl) (by rfl) T.z_isinstance (by decide +kernel) (pa_cons (pv 1) (pa_cons (pe_tup (pa_cons (pe_bltn (v := .ty "list") (by rfl) T.z_list (by decide +kernel) rfl) (pa_cons (pe_bltn (v := .ty "tuple") (by rfl) T.z_tuple (by decide +kernel) rfl) pa_nil))) pa_nil))) (by intro _; rfl))) (pw_or1 (pt_cmpR op_gt (pe_callB (call_lenU (K := K) rfl) (by rfl) T.z_len (by decide +kernel) (pa_cons (pv 1) pa_nil)) (pv 2) (by first | exact nomark _ | rfl)))))
    (pss_one (ps_raise rfl (takes_of rfl rfl rfl rfl) (mk1 T.x_BadWord T.g_BadWord G_BadWord___init b_BadWord___init (hr.mono (by decide)) (mon_un (mon_rU _) (mon_c _)) (pe_un un_neg pe_int) rfl)))
    pss_nil)
    (pss_cons (ps_for (passes_of rfl) rfl (pi_enumA (by rfl) T.z_enumerate (pa_cons (pv 1) pa_nil)) (pg_tupK (K := K) (n := 2) rfl (by rfl) (pgs_cons (pg_name (i := 3) sc_check_word.nd rfl (by first | exact Or.inl rfl | exact Or.inr rfl)) (pgs_cons (pg_name (i := 4) sc_check_word.nd rfl (by first | exact Or.inl rfl | exact Or.inr rfl)) pgs_nil)))
    (pss_one (ps_if (pt_not (pt_tru rfl (pe_call G_is_whole (hr.mono (by decide)) rfl T.g_is_whole k_is_whole b_is_whole_3 r_is_whole_3 pass0 (pa_cons (pv 4) (pa_cons pe_int (pa_cons (pe_op op_sub (pv 0) pe_int) pa_nil)))) (by intro _; rfl)))
    (pss_one (ps_raise rfl (takes_of rfl rfl rfl rfl) (mk1 T.x_BadWord T.g_BadWord G_BadWord___init b_BadWord___init (hr.mono (by decide)) (mon_var _) (pv 3) rfl)))
    pss_nil)))
    (pss_one (ps_ret (pe_callTy (call_tupU (K := K) rfl) (by rfl) T.z_tuple (by decide +kernel) (pa_cons (pv 1) pa_nil)))))), ?_⟩
    exact body_of rfl h fun X hd => (dst_seq (dst_if (dt_or (dt_not (dt_tru (DEg.bor (dg_cb (cg_isi2 known_list known_tuple) (db_cons (db_var 1) (db_cons (DEg.bor (de_tup (da_cons (de_raw (.ty "list")) (da_cons (de_raw (.ty "tuple")) da_nil)))) db_nil)))))) (dt_test (dg_op od_gt (DEg.bor (dg_cb cg_len (db_cons (db_var 1) db_nil))) (db_var 2))))
    (dst_raise1 rfl (de_un ud_neg (DEg.bor (de_int 1))))
    dst_next)
    (dst_seq (dst_for (di_enum (R := Cln) (de_var 1)) (dg_two 3 4)
    (dst_if (dt_not (dt_tru (DEg.bor (de_call0 dv_nil (ds_cons (de_var 4) (ds_cons (de_int 0) (ds_cons (dg_op od_sub (db_var 0) (DEg.bor (de_int 1))) ds_nil)))))))
    (dst_raise1 rfl (de_var 3))
    dst_next))
    (dst_ret (dg_cb cg_tup (db_cons (db_var 1) db_nil)))))
end Mine

namespace Mine
open PySem PySem.Spec PyProof.Rows L2
theorem ok_index_behind {P : Program} {w : World} {K : PySem.W.Frag} {mg : Str → Option Value} {base : Heap} (T : Txt K mg) : ∃ fd, FnOk P w K mg base CX0 1 (He.ga K "_index_behind") fd P_index_behind (spD K F_index_behind) ∧ D_index_behind K (He.ga K "_index_behind") fd := by
  obtain ⟨fd, F⟩ := T.F_index_behind
  refine ⟨fd, F.ok sc_index_behind (fun vs H Q E h => ?_) (fun cdv A outer s H vs Q E hr h => ?_), F⟩
  · rw [F_index_behind_eq] at h
    exact spD_len (np := 3) (fun _ _ _ h => h.1) vs H Q E h
  · rw [F_index_behind_eq] at h
    refine ⟨_, PSs.nox (pss_cons (ps_set (i := 3) sc_index_behind.nd rfl (by first | exact Or.inl rfl | exact Or.inr rfl) pe_int)
    (pss_cons (ps_while PassesOwn.never (pt_cmpR op_gt (pv 2) pe_int (by first | exact nomark _ | rfl))
    (pss_cons (ps_if (pt_cmpR (op_eqU rfl hr.units) (pe_ix (ix_U (K := K) rfl) (pv 0) (pv 3) (fun _ _ => rfl)) (pv 1) (by first | exact nomark _ | rfl))
    (pss_one (ps_aug (i := 2) sc_index_behind.nd rfl (by first | exact Or.inl rfl | exact Or.inr rfl) pe_int ip_sub))
    pss_nil)
    (pss_one (ps_aug (i := 3) sc_index_behind.nd rfl (by first | exact Or.inl rfl | exact Or.inr rfl) pe_int ip_add))))
    (pss_one (ps_ret (pv 3))))), ?_⟩
    exact body_of0 rfl h fun X hd => (dst_seq (dst_asg (de_int 0) (dg_name 3))
    (dst_seq (dst_while (dt_test (dg_op od_gt (db_var 2) (DEg.bor (de_int 0))))
    (dst_seq (dst_if (dt_test (dg_op od_eq (DEg.bor (dg_op od_ix (db_var 0) (db_var 3))) (db_var 1)))
    (dst_aug (de_int 1))
    dst_next)
    (dst_aug (de_int 1))))
    (dst_ret (de_var 3))))
end Mine

namespace Mine
open PySem PySem.Spec PyProof.Rows L2
theorem ok_lifted_word {P : Program} {w : World} {K : PySem.W.Frag} {mg : Str → Option Value} {base : Heap} (T : Txt K mg) : ∃ fd, FnOk P w K mg base (L2.CX P w) 4 (He.ga K "lifted_word") fd P_lifted_word (spD K F_lifted_word) ∧ D_lifted_word K (He.ga K "lifted_word") fd := by
  obtain ⟨fd, F⟩ := T.F_lifted_word
  obtain ⟨fd_check_word, G_check_word, D_check_word⟩ := ok_check_word (P := P) (w := w) (base := base) T
  have k_check_word := D_check_word.kp
  obtain ⟨ds_check_word_3, r_check_word_3, b_check_word_3⟩ := bd_check_word_3 D_check_word
  obtain ⟨fd_is_whole, G_is_whole, D_is_whole⟩ := ok_is_whole (P := P) (w := w) (base := base) T
  have k_is_whole := D_is_whole.kp
  obtain ⟨ds_is_whole_3, r_is_whole_3, b_is_whole_3⟩ := bd_is_whole_3 D_is_whole
  obtain ⟨fd_index_behind, G_index_behind, D_index_behind⟩ := ok_index_behind (P := P) (w := w) (base := base) T
  have k_index_behind := D_index_behind.kp
  have b_index_behind := bd_index_behind D_index_behind
  refine ⟨fd, F.ok sc_lifted_word (fun vs H Q E h => ?_) (fun cdv A outer s H vs Q E hr h => ?_), F⟩
  · rw [F_lifted_word_eq] at h
    exact spD_len (np := 2) (fun _ _ _ h => h.1) vs H Q E h
  · rw [F_lifted_word_eq] at h
    refine ⟨_, (pss_cons (ps_set (i := 0) sc_lifted_word.nd rfl (by first | exact Or.inl rfl | exact Or.inr rfl) (pe_call G_check_word (hr.mono (by decide)) rfl T.g_check_word k_check_word b_check_word_3 r_check_word_3 (E := E) (passes_call (takes_of rfl rfl rfl rfl) fun _ _ _ _ h => h) (pa_cons pe_int (pa_cons (pv 0) (pa_cons (pe_glob (v := .int (200)) rfl T.c_MOST_HERE.choose_spec ⟨_, rfl⟩) pa_nil)))))
    (pss_cons (ps_if (pt_not (pt_tru rfl (pe_call G_is_whole (hr.mono (by decide)) rfl T.g_is_whole k_is_whole b_is_whole_3 r_is_whole_3 pass0 (pa_cons (pv 1) (pa_cons pe_int (pa_cons (pe_op (op_addU rfl) (pe_callB (call_lenU (K := K) rfl) (by rfl) T.z_len (by decide +kernel) (pa_cons (pv 0) pa_nil)) pe_int) pa_nil)))) (by intro _; rfl)))
    (pss_one (ps_raise rfl (takes_of rfl rfl rfl rfl) (mk0 T.e_BadAmount T.g_BadAmount rfl)))
    pss_nil)
    (pss_cons (ps_set (i := 2) sc_lifted_word.nd rfl (by first | exact Or.inl rfl | exact Or.inr rfl) (pe_callB (CallR.k (r := rSumA) (K := K) (cr_sumA rfl) rfl) (by rfl) T.z_sum (by decide +kernel) (pa_cons (pv 0) pa_nil)))
    (pss_cons (ps_if (pt_cmpR op_le (pv 1) (pv 2) (by first | exact nomark _ | rfl))
    (pss_cons (ps_set (i := 3) sc_lifted_word.nd rfl (by first | exact Or.inl rfl | exact Or.inr rfl) (pe_call G_index_behind (hr.mono (by decide)) rfl T.g__index_behind k_index_behind b_index_behind .nil pass0 (pa_cons (pv 0) (pa_cons pe_int (pa_cons (pe_op op_sub (pv 2) (pv 1)) pa_nil)))))
    (pss_one (ps_ret (pe_op (op_addU rfl) (pe_op (op_addU rfl) (pe_slice (sl_U rfl) (pv 0) po_none (po_some (pv 3))) (pe_tup (pa_cons pe_int pa_nil))) (pe_slice (sl_U rfl) (pv 0) (po_some (pv 3)) po_none)))))
    pss_nil)
    (pss_cons (ps_set (i := 3) sc_lifted_word.nd rfl (by first | exact Or.inl rfl | exact Or.inr rfl) (pe_call G_index_behind (hr.mono (by decide)) rfl T.g__index_behind k_index_behind b_index_behind .nil pass0 (pa_cons (pv 0) (pa_cons pe_int (pa_cons (pe_op op_sub (pe_op op_sub (pv 1) (pv 2)) pe_int) pa_nil)))))
    (pss_one (ps_ret (pe_op (op_addU rfl) (pe_op (op_addU rfl) (pe_slice (sl_U rfl) (pv 0) po_none (po_some (pv 3))) (pe_tup (pa_cons pe_int pa_nil))) (pe_slice (sl_U rfl) (pv 0) (po_some (pv 3)) po_none))))))))), ?_⟩
    exact body_of rfl h fun X hd => (dst_seq (dst_asg (de_call rfl dv_nil (ds_cons (de_int 2) (ds_cons (de_var 0) (ds_cons (de_int (200)) ds_nil)))) (dg_name 0))
    (dst_seq (dst_if (dt_not (dt_tru (DEg.bor (de_call0 dv_nil (ds_cons (de_var 1) (ds_cons (de_int 0) (ds_cons (dg_op od_add (DEg.bor (dg_cb cg_len (db_cons (db_var 0) db_nil))) (DEg.bor (de_int 1))) ds_nil)))))))
    (dst_raise rfl)
    dst_next)
    (dst_seq (dst_asg (dg_cb cg_sum (db_cons (db_var 0) db_nil)) (dg_name 2))
    (dst_seq (dst_if (dt_test (dg_op od_le (db_var 1) (db_var 2)))
    (dst_seq (dst_asg (de_call0 dv_nil (ds_cons (de_var 0) (ds_cons (de_int 1) (ds_cons (dg_op od_sub (db_var 2) (db_var 1)) ds_nil)))) (dg_name 3))
    (dst_ret (dg_op od_add (DEg.bor (dg_op od_add (DEg.bor (dg_sl sg_U (db_var 0) do_none (do_some (de_var 3)))) (DEg.bor (de_tup (da_cons (de_int 0) da_nil))))) (DEg.bor (dg_sl sg_U (db_var 0) (do_some (de_var 3)) do_none)))))
    dst_next)
    (dst_seq (dst_asg (de_call0 dv_nil (ds_cons (de_var 0) (ds_cons (de_int 0) (ds_cons (dg_op od_sub (DEg.bor (dg_op od_sub (db_var 1) (db_var 2))) (DEg.bor (de_int 1))) ds_nil)))) (dg_name 3))
    (dst_ret (dg_op od_add (DEg.bor (dg_op od_add (DEg.bor (dg_sl sg_U (db_var 0) do_none (do_some (de_var 3)))) (DEg.bor (de_tup (da_cons (de_int 1) da_nil))))) (DEg.bor (dg_sl sg_U (db_var 0) (do_some (de_var 3)) do_none)))))))))
end Mine

namespace Mine
open PySem PySem.Spec PyProof.Rows L2
theorem ok_NearPair___init {P : Program} {w : World} {K : PySem.W.Frag} {mg : Str → Option Value} {base : Heap} (T : Txt K mg) : ∃ fd, FnOk P w K mg base CX0 1 (He.ma K (He.ga K "NearPair") "__init__") fd P_NearPair___init (spI K "NearPair" F_NearPair___init) ∧ D_NearPair___init K (He.ma K (He.ga K "NearPair") "__init__") fd := by
  obtain ⟨fd, F⟩ := T.F_NearPair___init
  refine ⟨fd, F.ok sc_NearPair___init (fun vs H Q E h => ?_) (fun cdv A outer s H vs Q E hr h => ?_), F⟩
  · rw [F_NearPair___init_eq] at h
    exact spI_len (np := 5) (fun _ _ _ h => h.1) vs H Q E h
  · rw [F_NearPair___init_eq] at h
    refine ⟨_, PSs.nox (pss_cons (ps_fld (pv 0) (pv 1) (by rfl))
    (pss_cons (ps_fld (pv 0) (pv 2) (by rfl))
    (pss_cons (ps_fld (pv 0) (pv 3) (by rfl))
    (pss_one (ps_fld (pv 0) (pv 4) (by rfl)))))), ?_⟩
    exact body_ofI0 rfl h fun H X hd x => (dst_seq (dst_setF (fld_ok T) (de_var 1))
    (dst_seq (dst_setF (fld_ok T) (de_var 2))
    (dst_seq (dst_setF (fld_ok T) (de_var 3))
    (dst_setF (fld_ok T) (de_var 4)))))
end Mine

namespace Mine
open PySem PySem.Spec PyProof.Rows L2
theorem ok_modulus_clash {P : Program} {w : World} {K : PySem.W.Frag} {mg : Str → Option Value} {base : Heap} (T : Txt K mg) : ∃ fd, FnOk P w K mg base (L2.CX P w) 5 (He.ga K "modulus_clash") fd P_modulus_clash (spD K F_modulus_clash) ∧ D_modulus_clash K (He.ga K "modulus_clash") fd := by
  obtain ⟨fd, F⟩ := T.F_modulus_clash
  obtain ⟨fd_check_number, G_check_number, D_check_number⟩ := ok_check_number (P := P) (w := w) (base := base) T
  have k_check_number := D_check_number.kp
  have b_check_number := bd_check_number D_check_number
  obtain ⟨fd_check_modulus, G_check_modulus, D_check_modulus⟩ := ok_check_modulus (P := P) (w := w) (base := base) T
  have k_check_modulus := D_check_modulus.kp
  have b_check_modulus := bd_check_modulus D_check_modulus
  obtain ⟨fd_check_rest, G_check_rest, D_check_rest⟩ := ok_check_rest (P := P) (w := w) (base := base) T
  have k_check_rest := D_check_rest.kp
  have b_check_rest := bd_check_rest D_check_rest
  obtain ⟨fd_lifted_word, G_lifted_word, D_lifted_word⟩ := ok_lifted_word (P := P) (w := w) (base := base) T
  have k_lifted_word := D_lifted_word.kp
  have b_lifted_word := bd_lifted_word D_lifted_word
  obtain ⟨fd_NearPair___init, G_NearPair___init, D_NearPair___init⟩ := ok_NearPair___init (P := P) (w := w) (base := base) T
  have k_NearPair___init := D_NearPair___init.kp
  have b_NearPair___init := bd_NearPair___init D_NearPair___init
  refine ⟨fd, F.ok sc_modulus_clash (fun vs H Q E h => ?_) (fun cdv A outer s H vs Q E hr h => ?_), F⟩
  · rw [F_modulus_clash_eq] at h
    exact spD_len (np := 3) (fun _ _ _ h => h.1) vs H Q E h
  · rw [F_modulus_clash_eq] at h
    refine ⟨_, (pss_cons (ps_expr (pe_call G_check_number (hr.mono (by decide)) rfl T.g_check_number k_check_number b_check_number .nil (E := E) (passes_call (takes_of rfl rfl rfl rfl) fun _ _ _ _ h => h) (pa_cons (pv 0) (pa_cons pe_int (pa_cons (pe_glob (v := .int (200)) rfl T.c_MOST_HERE.choose_spec ⟨_, rfl⟩) pa_nil)))))
    (pss_cons (ps_expr (pe_call G_check_modulus (hr.mono (by decide)) rfl T.g__check_modulus k_check_modulus b_check_modulus .nil (E := E) (passes_call (takes_of rfl rfl rfl rfl) fun _ _ _ _ h => h) (pa_cons (pv 1) (pa_cons pe_int pa_nil))))
    (pss_cons (ps_expr (pe_call G_check_rest (hr.mono (by decide)) rfl T.g__check_rest k_check_rest b_check_rest .nil (E := E) (passes_call (takes_of rfl rfl rfl rfl) fun _ _ _ _ h => h) (pa_cons (pv 2) (pa_cons (pv 1) pa_nil))))
    (pss_cons (ps_if (pt_cmpR op_gt (pv 1) (pv 0) (by first | exact nomark _ | rfl))
    (pss_one (ps_ret pe_non))
    pss_nil)
    (pss_cons (ps_set (i := 3) sc_modulus_clash.nd rfl (by first | exact Or.inl rfl | exact Or.inr rfl) (pe_callTy (call_tupU (K := K) rfl) (by rfl) T.z_tuple (by decide +kernel) (pa_cons (pe_lc (own := [("place", 6)]) rfl sc_modulus_clash.nd (pi_range2 (by rfl) T.z_range (pa_cons pe_int (pa_cons (pv 0) pa_nil))) (blkOk_by (own := [("place", 6)]) (N := N_modulus_clash) (sc := defScope s_modulus_clash) (by decide +kernel)) (fun _ _ _ _ _ => (pg_name (i := 6) sc_modulus_clash.nd rfl (by first | exact Or.inl rfl | exact Or.inr rfl))) (fun _ _ _ _ _ => pts_nil) (fun _ _ _ _ _ => (pe_ifExp (pt_cmpR (op_eqU rfl hr.units) (pv 6) (pv 2) (by first | exact nomark _ | rfl)) pe_int pe_int))) pa_nil)))
    (pss_cons (ps_set (i := 4) sc_modulus_clash.nd rfl (by first | exact Or.inl rfl | exact Or.inr rfl) (pe_call G_lifted_word (hr.mono (by decide)) rfl T.g_lifted_word k_lifted_word b_lifted_word .nil (E := E) (passes_call (takes_of rfl rfl rfl rfl) fun _ _ _ _ h => h) (pa_cons (pv 3) (pa_cons pe_int pa_nil))))
    (pss_cons (ps_set (i := 5) sc_modulus_clash.nd rfl (by first | exact Or.inl rfl | exact Or.inr rfl) (pe_call G_lifted_word (hr.mono (by decide)) rfl T.g_lifted_word k_lifted_word b_lifted_word .nil (E := E) (passes_call (takes_of rfl rfl rfl rfl) fun _ _ _ _ h => h) (pa_cons (pv 3) (pa_cons (pv 1) pa_nil))))
    (pss_one (ps_ret (pe_make T.r_NearPair G_NearPair___init (hr.mono (by decide)) rfl T.g_NearPair b_NearPair___init .nil pass0 (pa_cons (pv 4) (pa_cons (pv 5) (pa_cons (pv 3) (pa_cons (pe_op (op_addU rfl) (pv 5) (pe_tup (pa_cons pe_int pa_nil))) pa_nil)))))))))))))), ?_⟩
    exact body_of rfl h fun X hd => (dst_seq (dst_drop (de_call rfl dv_nil (ds_cons (de_var 0) (ds_cons (de_int 0) (ds_cons (de_int (200)) ds_nil)))))
    (dst_seq (dst_drop (de_call rfl dv_nil (ds_cons (de_var 1) (ds_cons (de_int 1) ds_nil))))
    (dst_seq (dst_drop (de_call rfl dv_nil (ds_cons (de_var 2) (ds_cons (de_var 1) ds_nil))))
    (dst_seq (dst_if (dt_test (dg_op od_gt (db_var 1) (db_var 0)))
    (dst_ret de_non)
    dst_next)
    (dst_seq (dst_asg (dg_cb cg_tup (db_cons (DEg.bor (DEg.cln (df_lc (di_rng2 (db_cons (DEg.bor (de_int 1)) (db_cons (db_var 0) db_nil))) (dg_name 6) dt_yes (dg_if (dt_test (dg_op od_eq (db_var 6) (db_var 2))) (de_int 1) (de_int 0))))) db_nil)) (dg_name 3))
    (dst_seq (dst_asg (de_call rfl dv_nil (ds_cons (de_var 3) (ds_cons (de_int 0) ds_nil))) (dg_name 4))
    (dst_seq (dst_asg (de_call rfl dv_nil (ds_cons (de_var 3) (ds_cons (de_var 1) ds_nil))) (dg_name 5))
    (dst_ret (de_make0 dv_nil (ds_cons (de_var 4) (ds_cons (de_var 5) (ds_cons (de_var 3) (ds_cons (dg_op od_add (db_var 5) (DEg.bor (de_tup (da_cons (de_int 0) da_nil)))) ds_nil)))))))))))))
end Mine

namespace Mine
open PySem PySem.Spec PyProof.Rows L2
theorem ok_law_sum {P : Program} {w : World} {K : PySem.W.Frag} {mg : Str → Option Value} {base : Heap} (T : Txt K mg) : ∃ fd, FnOk P w K mg base CX0 1 (He.ga K "_law_sum") fd P_law_sum (spD K F_law_sum) ∧ D_law_sum K (He.ga K "_law_sum") fd := by
  obtain ⟨fd, F⟩ := T.F_law_sum
  refine ⟨fd, F.ok sc_law_sum (fun vs H Q E h => ?_) (fun cdv A outer s H vs Q E hr h => ?_), F⟩
  · rw [F_law_sum_eq] at h
    exact spD_len (np := 1) (fun _ _ _ h => h.1) vs H Q E h
  · rw [F_law_sum_eq] at h
    refine ⟨_, PSs.nox (pss_one (ps_ret (pe_callB (CallR.k (r := rSumA) (K := K) (cr_sumA rfl) rfl) (by rfl) T.z_sum (by decide +kernel) (pa_cons (pe_lc (own := [("_law_k", 1)]) rfl sc_law_sum.nd (pi_range1 (by rfl) T.z_range (pa_cons (pe_callB (call_lenU (K := K) rfl) (by rfl) T.z_len (by decide +kernel) (pa_cons (pv 0) pa_nil)) pa_nil)) (blkOk_by (own := [("_law_k", 1)]) (N := N_law_sum) (sc := defScope s_law_sum) (by decide +kernel)) (fun _ _ _ _ _ => (pg_name (i := 1) sc_law_sum.nd rfl (by first | exact Or.inl rfl | exact Or.inr rfl))) (fun _ _ _ _ _ => pts_nil) (fun _ _ _ _ _ => (pe_op op_mulU (pe_op (op_addU rfl) (pv 1) pe_int) (pe_ix (ix_U (K := K) rfl) (pv 0) (pv 1) (fun _ _ => rfl))))) pa_nil)))), ?_⟩
    exact body_of0 rfl h fun X hd => (dst_ret (dg_cb cg_sum (db_cons (DEg.bor (DEg.cln (df_lc (di_rng1 (db_cons (DEg.bor (dg_cb cg_len (db_cons (db_var 0) db_nil))) db_nil)) (dg_name 1) dt_yes (dg_op od_mul (DEg.bor (dg_op od_add (db_var 1) (DEg.bor (de_int 1)))) (DEg.bor (dg_op od_ix (db_var 0) (db_var 1))))))) db_nil)))
end Mine

namespace Mine
open PySem PySem.Spec PyProof.Rows L2
theorem ok_law_whole {P : Program} {w : World} {K : PySem.W.Frag} {mg : Str → Option Value} {base : Heap} (T : Txt K mg) : ∃ fd, FnOk P w K mg base CX0 1 (He.ga K "_law_whole") fd P_law_whole (spD K F_law_whole) ∧ D_law_whole K (He.ga K "_law_whole") fd := by
  obtain ⟨fd, F⟩ := T.F_law_whole
  refine ⟨fd, F.ok sc_law_whole (fun vs H Q E h => ?_) (fun cdv A outer s H vs Q E hr h => ?_), F⟩
  · rw [F_law_whole_eq] at h
    exact spD_len (np := 1) (fun _ _ _ h => h.1) vs H Q E h
  · rw [F_law_whole_eq] at h
    refine ⟨_, PSs.nox (pss_one (ps_ret (pe_and (pe_callB (call_isiU (K := K) rfl) (by rfl) T.z_isinstance (by decide +kernel) (pa_cons (pv 0) (pa_cons (pe_bltn (v := .ty "int") (by rfl) T.z_int (by decide +kernel) rfl) pa_nil))) (pe_one (pe_notVT (K := K) rfl (pe_callB (call_isiU (K := K) rfl) (by rfl) T.z_isinstance (by decide +kernel) (pa_cons (pv 0) (pa_cons (pe_bltn (v := .ty "bool") (by rfl) T.z_bool (by decide +kernel) rfl) pa_nil)))))))), ?_⟩
    exact body_of0 rfl h fun X hd => (dst_ret (de_andV (dg_cb (cg_isi known_int) (db_cons (db_var 0) (db_cons (DEg.bor (de_raw (.ty "int"))) db_nil))) (de_notVT (DEg.bor (dg_cb (cg_isi known_bool) (db_cons (db_var 0) (db_cons (DEg.bor (de_raw (.ty "bool"))) db_nil)))))))
end Mine

namespace Mine
open PySem PySem.Spec PyProof.Rows L2
theorem ok_law_is_word {P : Program} {w : World} {K : PySem.W.Frag} {mg : Str → Option Value} {base : Heap} (T : Txt K mg) : ∃ fd, FnOk P w K mg base CX0 2 (He.ga K "_law_is_word") fd P_law_is_word (spD K F_law_is_word) ∧ D_law_is_word K (He.ga K "_law_is_word") fd := by
  obtain ⟨fd, F⟩ := T.F_law_is_word
  obtain ⟨fd_law_whole, G_law_whole, D_law_whole⟩ := ok_law_whole (P := P) (w := w) (base := base) T
  have k_law_whole := D_law_whole.kp
  have b_law_whole := bd_law_whole D_law_whole
  refine ⟨fd, F.ok sc_law_is_word (fun vs H Q E h => ?_) (fun cdv A outer s H vs Q E hr h => ?_), F⟩
  · rw [F_law_is_word_eq] at h
    exact spD_len (np := 2) (fun _ _ _ h => h.1) vs H Q E h
  · rw [F_law_is_word_eq] at h
    refine ⟨_, PSs.nox (pss_cons (ps_if (PW.pt (pw_or (pt_not (pt_tru rfl (pe_callB (call_isiU (K := K) rfl) (by rfl) T.z_isinstance (by decide +kernel) (pa_cons (pv 0) (pa_cons (pe_bltn (v := .ty "tuple") (by rfl) T.z_tuple (by decide +kernel) rfl) pa_nil))) (by intro _; rfl))) (pw_or1 (pt_cmpR (op_neU rfl hr.units) (pe_callB (call_lenU (K := K) rfl) (by rfl) T.z_len (by decide +kernel) (pa_cons (pv 0) pa_nil)) (pv 1) (by first | exact nomark _ | rfl)))))
    (pss_one (ps_ret pe_bl))
    pss_nil)
    (pss_one (ps_ret (pe_callB (call_allU (K := K) rfl rfl) (by rfl) T.z_all (by decide +kernel) (pa_cons (pe_lc (own := [("_law_letter", 2)]) rfl sc_law_is_word.nd (pi_seq (pv 0)) (blkOk_by (own := [("_law_letter", 2)]) (N := N_law_is_word) (sc := defScope s_law_is_word) (by decide +kernel)) (fun _ _ _ _ _ => (pg_name (i := 2) sc_law_is_word.nd rfl (by first | exact Or.inl rfl | exact Or.inr rfl))) (fun _ _ _ _ _ => pts_nil) (fun _ _ _ _ _ => (pe_and (pe_call G_law_whole (hr.mono (by decide)) rfl T.g__law_whole k_law_whole b_law_whole .nil pass0 (pa_cons (pv 2) pa_nil)) (pe_one (pe_chain op_le op_le pe_int (pv 2) pe_int))))) pa_nil))))), ?_⟩
    exact body_of0 rfl h fun X hd => (dst_seq (dst_if (dt_or (dt_not (dt_tru (DEg.bor (dg_cb (cg_isi known_tuple) (db_cons (db_var 0) (db_cons (DEg.bor (de_raw (.ty "tuple"))) db_nil)))))) (dt_test (dg_op od_ne (DEg.bor (dg_cb cg_len (db_cons (db_var 0) db_nil))) (db_var 1))))
    (dst_ret (de_bl false))
    dst_next)
    (dst_ret (dg_cb cg_all (db_cons (DEg.bor (DEg.cln (df_lc (di_seq (R := Bor) (db_var 0)) (dg_name 2) dt_yes (de_andV (de_call0 dv_nil (ds_cons (de_var 2) ds_nil)) (de_chain od_le od_le (DEg.bor (de_int 0)) (db_var 2) (DEg.bor (de_int 1))))))) db_nil))))
end Mine

namespace Mine
open PySem PySem.Spec PyProof.Rows L2
theorem ok_law_is_below {P : Program} {w : World} {K : PySem.W.Frag} {mg : Str → Option Value} {base : Heap} (T : Txt K mg) : ∃ fd, FnOk P w K mg base CX0 1 (He.ga K "_law_is_below") fd P_law_is_below (spD K F_law_is_below) ∧ D_law_is_below K (He.ga K "_law_is_below") fd := by
  obtain ⟨fd, F⟩ := T.F_law_is_below
  refine ⟨fd, F.ok sc_law_is_below (fun vs H Q E h => ?_) (fun cdv A outer s H vs Q E hr h => ?_), F⟩
  · rw [F_law_is_below_eq] at h
    exact spD_len (np := 2) (fun _ _ _ h => h.1) vs H Q E h
  · rw [F_law_is_below_eq] at h
    refine ⟨_, PSs.nox (pss_cons (ps_set (i := 2) sc_law_is_below.nd rfl (by first | exact Or.inl rfl | exact Or.inr rfl) pe_int)
    (pss_cons (ps_for PassesOwn.never rfl (pi_seq (pv 1)) (pg_name (i := 3) sc_law_is_below.nd rfl (by first | exact Or.inl rfl | exact Or.inr rfl))
    (pss_one (ps_if (PW.pt (pw_and (pt_cmpR (op_ltU rfl hr.units0) (pv 2) (pe_callB (call_lenU (K := K) rfl) (by rfl) T.z_len (by decide +kernel) (pa_cons (pv 0) pa_nil)) (by first | exact nomark _ | rfl)) (pw_and1 (pt_cmpR (op_eqU rfl hr.units) (pe_ix (ix_U (K := K) rfl) (pv 0) (pv 2) (fun _ _ => rfl)) (pv 3) (by first | exact nomark _ | rfl)))))
    (pss_one (ps_set (i := 2) sc_law_is_below.nd rfl (by first | exact Or.inl rfl | exact Or.inr rfl) (pe_op (op_addU rfl) (pv 2) pe_int)))
    pss_nil)))
    (pss_one (ps_ret (pe_cmpR (op_eqU rfl hr.units) (pv 2) (pe_callB (call_lenU (K := K) rfl) (by rfl) T.z_len (by decide +kernel) (pa_cons (pv 0) pa_nil)) (by first | exact nomark _ | rfl)))))), ?_⟩
    exact body_of0 rfl h fun X hd => (dst_seq (dst_asg (de_int 0) (dg_name 2))
    (dst_seq (dst_for (di_seq (R := Cln) (de_var 1)) (dg_name 3)
    (dst_if (dt_and (dt_test (dg_op od_lt (db_var 2) (DEg.bor (dg_cb cg_len (db_cons (db_var 0) db_nil))))) (dt_test (dg_op od_eq (DEg.bor (dg_op od_ix (db_var 0) (db_var 2))) (db_var 3))))
    (dst_asg (dg_op od_add (db_var 2) (DEg.bor (de_int 1))) (dg_name 2))
    dst_next))
    (dst_ret (dg_op od_eq (db_var 2) (DEg.bor (dg_cb cg_len (db_cons (db_var 0) db_nil)))))))
end Mine

namespace Mine
open PySem PySem.Spec PyProof.Rows L2
theorem ok_law_clash_right {P : Program} {w : World} {K : PySem.W.Frag} {mg : Str → Option Value} {base : Heap} (T : Txt K mg) : ∃ fd, FnOk P w K mg base CX0 3 (He.ga K "_law_clash_right") fd P_law_clash_right (spD K F_law_clash_right) ∧ D_law_clash_right K (He.ga K "_law_clash_right") fd := by
  obtain ⟨fd, F⟩ := T.F_law_clash_right
  obtain ⟨fd_law_sum, G_law_sum, D_law_sum⟩ := ok_law_sum (P := P) (w := w) (base := base) T
  have k_law_sum := D_law_sum.kp
  have b_law_sum := bd_law_sum D_law_sum
  obtain ⟨fd_law_is_word, G_law_is_word, D_law_is_word⟩ := ok_law_is_word (P := P) (w := w) (base := base) T
  have k_law_is_word := D_law_is_word.kp
  have b_law_is_word := bd_law_is_word D_law_is_word
  obtain ⟨fd_law_is_below, G_law_is_below, D_law_is_below⟩ := ok_law_is_below (P := P) (w := w) (base := base) T
  have k_law_is_below := D_law_is_below.kp
  have b_law_is_below := bd_law_is_below D_law_is_below
  refine ⟨fd, F.ok sc_law_clash_right (fun vs H Q E h => ?_) (fun cdv A outer s H vs Q E hr h => ?_), F⟩
  · rw [F_law_clash_right_eq] at h
    exact spD_len (np := 4) (fun _ _ _ h => h.1) vs H Q E h
  · rw [F_law_clash_right_eq] at h
    refine ⟨_, PSs.nox (pss_cons (ps_if (pt_not (pt_tru rfl (pe_callB (call_isiU (K := K) rfl) (by rfl) T.z_isinstance (by decide +kernel) (pa_cons (pv 3) (pa_cons (pe_glob (v := .ref (He.ga _ "NearPair")) rfl T.g_NearPair rfl) pa_nil))) (by intro _; rfl)))
    (pss_one (ps_ret pe_bl))
    pss_nil)
    (pss_cons (ps_set (i := 4) sc_law_clash_right.nd rfl (by first | exact Or.inl rfl | exact Or.inr rfl) (pe_lst (pa_cons (pe_fldU (K := K) rfl (pv 3) (by rfl)) (pa_cons (pe_fldU (K := K) rfl (pv 3) (by rfl)) pa_nil))))
    (pss_cons (ps_for PassesOwn.never rfl (pi_seq (pv 4)) (pg_name (i := 5) sc_law_clash_right.nd rfl (by first | exact Or.inl rfl | exact Or.inr rfl))
    (pss_one (ps_if (PW.pt (pw_or (pt_not (pt_tru rfl (pe_call G_law_is_word (hr.mono (by decide)) rfl T.g__law_is_word k_law_is_word b_law_is_word .nil pass0 (pa_cons (pv 5) (pa_cons (pv 0) pa_nil))) (by intro _; rfl))) (pw_or1 (pt_cmpR (op_neU rfl hr.units) (pe_op op_mod (pe_callTy call_intU (by rfl) T.z_int (by decide +kernel) (pa_cons (pe_call G_law_sum (hr.mono (by decide)) rfl T.g__law_sum k_law_sum b_law_sum .nil pass0 (pa_cons (pv 5) pa_nil)) pa_nil)) (pv 1)) (pv 2) (by first | exact nomark _ | rfl)))))
    (pss_one (ps_ret pe_bl))
    pss_nil)))
    (pss_cons (ps_if (PW.pt (pw_or (pt_cmpR (op_eqU rfl hr.units) (pe_fldU (K := K) rfl (pv 3) (by rfl)) (pe_fldU (K := K) rfl (pv 3) (by rfl)) (by first | exact nomark _ | rfl)) (pw_or (pt_not (pt_tru rfl (pe_call G_law_is_word (hr.mono (by decide)) rfl T.g__law_is_word k_law_is_word b_law_is_word .nil pass0 (pa_cons (pe_fldU (K := K) rfl (pv 3) (by rfl)) (pa_cons (pe_op op_sub (pv 0) pe_int) pa_nil))) (by intro _; rfl))) (pw_or1 (pt_not (pt_tru rfl (pe_call G_law_is_word (hr.mono (by decide)) rfl T.g__law_is_word k_law_is_word b_law_is_word .nil pass0 (pa_cons (pe_fldU (K := K) rfl (pv 3) (by rfl)) (pa_cons (pe_op (op_addU rfl) (pv 0) pe_int) pa_nil))) (by intro _; rfl)))))))
    (pss_one (ps_ret pe_bl))
    pss_nil)
    (pss_one (ps_ret (pe_callB (call_allU (K := K) rfl rfl) (by rfl) T.z_all (by decide +kernel) (pa_cons (pe_lc (own := [("_law_word", 5)]) rfl sc_law_clash_right.nd (pi_seq (pv 4)) (blkOk_by (own := [("_law_word", 5)]) (N := N_law_clash_right) (sc := defScope s_law_clash_right) (by decide +kernel)) (fun _ _ _ _ _ => (pg_name (i := 5) sc_law_clash_right.nd rfl (by first | exact Or.inl rfl | exact Or.inr rfl))) (fun _ _ _ _ _ => pts_nil) (fun _ _ _ _ _ => (pe_and (pe_call G_law_is_below (hr.mono (by decide)) rfl T.g__law_is_below k_law_is_below b_law_is_below .nil pass0 (pa_cons (pe_fldU (K := K) rfl (pv 3) (by rfl)) (pa_cons (pv 5) pa_nil))) (pe_one (pe_call G_law_is_below (hr.mono (by decide)) rfl T.g__law_is_below k_law_is_below b_law_is_below .nil pass0 (pa_cons (pv 5) (pa_cons (pe_fldU (K := K) rfl (pv 3) (by rfl)) pa_nil))))))) pa_nil)))))))), ?_⟩
    exact body_of0 rfl h fun X hd => (dst_seq (dst_if (dt_not (dt_tru (DEg.bor (de_isI (isi_NearPair T) (db_var 3)))))
    (dst_ret (de_bl false))
    dst_next)
    (dst_seq (dst_asg (DEg.cln (df_lst (da_cons (de_fld (fld_ok T) (db_var 3)) (da_cons (de_fld (fld_ok T) (db_var 3)) da_nil)))) (dg_name 4))
    (dst_seq (dst_for (di_seq (R := Cln) (de_var 4)) (dg_name 5)
    (dst_if (dt_or (dt_not (dt_tru (DEg.bor (de_call0 dv_nil (ds_cons (de_var 5) (ds_cons (de_var 0) ds_nil)))))) (dt_test (dg_op od_ne (DEg.bor (dg_op od_mod (DEg.bor (dg_cb cg_int (db_cons (DEg.bor (de_call0 dv_nil (ds_cons (de_var 5) ds_nil))) db_nil))) (db_var 1))) (db_var 2))))
    (dst_ret (de_bl false))
    dst_next))
    (dst_seq (dst_if (dt_or (dt_test (dg_op od_eq (DEg.bor (de_fld (fld_ok T) (db_var 3))) (DEg.bor (de_fld (fld_ok T) (db_var 3))))) (dt_or (dt_not (dt_tru (DEg.bor (de_call0 dv_nil (ds_cons (de_fld (fld_ok T) (db_var 3)) (ds_cons (dg_op od_sub (db_var 0) (DEg.bor (de_int 1))) ds_nil)))))) (dt_not (dt_tru (DEg.bor (de_call0 dv_nil (ds_cons (de_fld (fld_ok T) (db_var 3)) (ds_cons (dg_op od_add (db_var 0) (DEg.bor (de_int 1))) ds_nil))))))))
    (dst_ret (de_bl false))
    dst_next)
    (dst_ret (dg_cb cg_all (db_cons (DEg.bor (DEg.cln (df_lc (di_seq (R := Bor) (db_var 4)) (dg_name 5) dt_yes (de_andV (de_call0 dv_nil (ds_cons (de_fld (fld_ok T) (db_var 3)) (ds_cons (de_var 5) ds_nil))) (de_call0 dv_nil (ds_cons (de_var 5) (ds_cons (de_fld (fld_ok T) (db_var 3)) ds_nil))))))) db_nil)))))))
end Mine

namespace Mine
open PySem PySem.Spec PyProof.Rows L2
theorem ok_law_modulus_right {P : Program} {w : World} {K : PySem.W.Frag} {mg : Str → Option Value} {base : Heap} (T : Txt K mg) : ∃ fd, FnOk P w K mg base CX0 6 (He.ga K "_law_modulus_right") fd P_law_modulus_right (spD K F_law_modulus_right) ∧ D_law_modulus_right K (He.ga K "_law_modulus_right") fd := by
  obtain ⟨fd, F⟩ := T.F_law_modulus_right
  obtain ⟨fd_modulus_clash, G_modulus_clash, D_modulus_clash⟩ := ok_modulus_clash (P := P) (w := w) (base := base) T
  have k_modulus_clash := D_modulus_clash.kp
  have b_modulus_clash := bd_modulus_clash D_modulus_clash
  obtain ⟨fd_law_clash_right, G_law_clash_right, D_law_clash_right⟩ := ok_law_clash_right (P := P) (w := w) (base := base) T
  have k_law_clash_right := D_law_clash_right.kp
  have b_law_clash_right := bd_law_clash_right D_law_clash_right
  refine ⟨fd, F.ok sc_law_modulus_right (fun vs H Q E h => ?_) (fun cdv A outer s H vs Q E hr h => ?_), F⟩
  · rw [F_law_modulus_right_eq] at h
    exact spD_len (np := 3) (fun _ _ _ h => h.1) vs H Q E h
  · rw [F_law_modulus_right_eq] at h
    refine ⟨_, PSs.nox (pss_cons (ps_set (i := 3) sc_law_modulus_right.nd rfl (by first | exact Or.inl rfl | exact Or.inr rfl) (pe_call G_modulus_clash (hr.mono (by decide)) rfl T.g_modulus_clash k_modulus_clash b_modulus_clash .nil passL (pa_cons (pv 0) (pa_cons (pv 1) (pa_cons (pv 2) pa_nil)))))
    (pss_cons (ps_if (pt_cmpR op_isN (pv 3) pe_non (by first | exact nomark _ | rfl))
    (pss_one (ps_ret (pe_cmpR op_gt (pv 1) (pv 0) (by first | exact nomark _ | rfl))))
    pss_nil)
    (pss_one (ps_ret (pe_and (pe_cmpR op_le (pv 1) (pv 0) (by first | exact nomark _ | rfl)) (pe_one (pe_call G_law_clash_right (hr.mono (by decide)) rfl T.g__law_clash_right k_law_clash_right b_law_clash_right .nil pass0 (pa_cons (pv 0) (pa_cons (pv 1) (pa_cons (pv 2) (pa_cons (pv 3) pa_nil))))))))))), ?_⟩
    exact body_of0 rfl h fun X hd => (dst_seq (dst_asg (de_call0 dv_nil (ds_cons (de_var 0) (ds_cons (de_var 1) (ds_cons (de_var 2) ds_nil)))) (dg_name 3))
    (dst_seq (dst_if (dt_test (dg_op od_isN (db_var 3) (DEg.bor de_non)))
    (dst_ret (dg_op od_gt (db_var 1) (db_var 0)))
    dst_next)
    (dst_ret (de_andV (dg_op od_le (db_var 1) (db_var 0)) (de_call0 dv_nil (ds_cons (de_var 0) (ds_cons (de_var 1) (ds_cons (de_var 2) (ds_cons (de_var 3) ds_nil)))))))))
end Mine

namespace Mine
open PySem PySem.Spec PyProof.Rows L2
theorem ok_law_all_words {P : Program} {w : World} {K : PySem.W.Frag} {mg : Str → Option Value} {base : Heap} (T : Txt K mg) : ∃ fd, FnOk P w K mg base CX0 1 (He.ga K "_law_all_words") fd P_law_all_words (spD K F_law_all_words) ∧ D_law_all_words K (He.ga K "_law_all_words") fd := by
  obtain ⟨fd, F⟩ := T.F_law_all_words
  refine ⟨fd, F.ok sc_law_all_words (fun vs H Q E h => ?_) (fun cdv A outer s H vs Q E hr h => ?_), F⟩
  · rw [F_law_all_words_eq] at h
    exact spD_len (np := 2) (fun _ _ _ h => h.1) vs H Q E h
  · rw [F_law_all_words_eq] at h
    refine ⟨_, PSs.nox (pss_cons (ps_set (i := 2) sc_law_all_words.nd rfl (by first | exact Or.inl rfl | exact Or.inr rfl) (pe_lst (pa_cons (pe_tup pa_nil) pa_nil)))
    (pss_cons (ps_for PassesOwn.never rfl (pi_range1 (by rfl) T.z_range (pa_cons (pv 1) pa_nil)) (pg_name (i := 3) sc_law_all_words.nd rfl (by first | exact Or.inl rfl | exact Or.inr rfl))
    (pss_cons (ps_set (i := 4) sc_law_all_words.nd rfl (by first | exact Or.inl rfl | exact Or.inr rfl) (pe_lst pa_nil))
    (pss_cons (ps_for PassesOwn.never rfl (pi_seq (pv 2)) (pg_name (i := 5) sc_law_all_words.nd rfl (by first | exact Or.inl rfl | exact Or.inr rfl))
    (pss_one (ps_set (i := 4) sc_law_all_words.nd rfl (by first | exact Or.inl rfl | exact Or.inr rfl) (pe_op (op_addU rfl) (pv 4) (pe_lc (own := [("_law_letter", 6)]) rfl sc_law_all_words.nd (pi_range1 (by rfl) T.z_range (pa_cons (pv 0) pa_nil)) (blkOk_by (own := [("_law_letter", 6)]) (N := N_law_all_words) (sc := defScope s_law_all_words) (by decide +kernel)) (fun _ _ _ _ _ => (pg_name (i := 6) sc_law_all_words.nd rfl (by first | exact Or.inl rfl | exact Or.inr rfl))) (fun _ _ _ _ _ => pts_nil) (fun _ _ _ _ _ => (pe_op (op_addU rfl) (pv 5) (pe_tup (pa_cons (pv 6) pa_nil)))))))))
    (pss_one (ps_set (i := 2) sc_law_all_words.nd rfl (by first | exact Or.inl rfl | exact Or.inr rfl) (pv 4))))))
    (pss_one (ps_ret (pv 2))))), ?_⟩
    exact body_of0 rfl h fun X hd => (dst_seq (dst_asg (DEg.cln (df_lst (da_cons (de_tup da_nil) da_nil))) (dg_name 2))
    (dst_seq (dst_for (di_rng1 (db_cons (db_var 1) db_nil)) (dg_name 3)
    (dst_seq (dst_asg (DEg.cln (df_lst da_nil)) (dg_name 4))
    (dst_seq (dst_for (di_seq (R := Cln) (de_var 2)) (dg_name 5)
    (dst_asg (dg_op od_add (db_var 4) (DEg.bor (DEg.cln (df_lc (di_rng1 (db_cons (db_var 0) db_nil)) (dg_name 6) dt_yes (dg_op od_add (db_var 5) (DEg.bor (de_tup (da_cons (de_var 6) da_nil)))))))) (dg_name 4)))
    (dst_asg (de_var 4) (dg_name 2)))))
    (dst_ret (de_var 2))))
end Mine

namespace Mine
open PySem PySem.Spec PyProof.Rows L2
theorem ok_law_has_clash {P : Program} {w : World} {K : PySem.W.Frag} {mg : Str → Option Value} {base : Heap} (T : Txt K mg) : ∃ fd, FnOk P w K mg base CX0 2 (He.ga K "_law_has_clash") fd P_law_has_clash (spD K F_law_has_clash) ∧ D_law_has_clash K (He.ga K "_law_has_clash") fd := by
  obtain ⟨fd, F⟩ := T.F_law_has_clash
  obtain ⟨fd_law_all_words, G_law_all_words, D_law_all_words⟩ := ok_law_all_words (P := P) (w := w) (base := base) T
  have k_law_all_words := D_law_all_words.kp
  have b_law_all_words := bd_law_all_words D_law_all_words
  obtain ⟨fd_law_sum, G_law_sum, D_law_sum⟩ := ok_law_sum (P := P) (w := w) (base := base) T
  have k_law_sum := D_law_sum.kp
  have b_law_sum := bd_law_sum D_law_sum
  refine ⟨fd, F.ok sc_law_has_clash (fun vs H Q E h => ?_) (fun cdv A outer s H vs Q E hr h => ?_), F⟩
  · rw [F_law_has_clash_eq] at h
    exact spD_len (np := 3) (fun _ _ _ h => h.1) vs H Q E h
  · rw [F_law_has_clash_eq] at h
    refine ⟨_, PSs.nox (pss_cons (ps_set (i := 3) sc_law_has_clash.nd rfl (by first | exact Or.inl rfl | exact Or.inr rfl) pe_dnewT)
    (pss_cons (ps_for PassesOwn.never rfl (pi_seq (pe_call G_law_all_words (hr.mono (by decide)) rfl T.g__law_all_words k_law_all_words b_law_all_words .nil pass0 (pa_cons pe_int (pa_cons (pv 0) pa_nil)))) (pg_name (i := 4) sc_law_has_clash.nd rfl (by first | exact Or.inl rfl | exact Or.inr rfl))
    (pss_one (ps_if (pt_cmpR (op_eqU rfl hr.units) (pe_op op_mod (pe_callTy call_intU (by rfl) T.z_int (by decide +kernel) (pa_cons (pe_op op_sub (pe_call G_law_sum (hr.mono (by decide)) rfl T.g__law_sum k_law_sum b_law_sum .nil pass0 (pa_cons (pv 4) pa_nil)) (pv 2)) pa_nil)) (pv 1)) pe_int (by first | exact nomark _ | rfl))
    (pss_one (ps_for PassesOwn.never rfl (pi_range1 (by rfl) T.z_range (pa_cons (pv 0) pa_nil)) (pg_name (i := 5) sc_law_has_clash.nd rfl (by first | exact Or.inl rfl | exact Or.inr rfl))
    (pss_cons (ps_set (i := 6) sc_law_has_clash.nd rfl (by first | exact Or.inl rfl | exact Or.inr rfl) (pe_op (op_addU rfl) (pe_slice (sl_U rfl) (pv 4) po_none (po_some (pv 5))) (pe_slice (sl_U rfl) (pv 4) (po_some (pe_op (op_addU rfl) (pv 5) pe_int)) po_none)))
    (pss_cons (ps_if (pt_cmpR (op_neU rfl hr.units) (pe_dget2 (units1 hr) (pv 3) (pv 6) (pv 4) ⟨by rfl, by rfl, by rfl, by rfl⟩) (pv 4) (by first | exact nomark _ | rfl))
    (pss_one (ps_ret pe_bl))
    pss_nil)
    (pss_one (ps_dput (units1 hr) (pv 3) (pv 6) (pv 4) (by rfl)))))))
    pss_nil)))
    (pss_one (ps_ret pe_bl)))), ?_⟩
    exact body_of0 rfl h fun X hd => (dst_seq dst_ownT
    (dst_seq (dst_for (di_seq (R := Cln) (de_call0 dv_nil (ds_cons (de_int 2) (ds_cons (de_var 0) ds_nil)))) (dg_name 4)
    (dst_if (dt_test (dg_op od_eq (DEg.bor (dg_op od_mod (DEg.bor (dg_cb cg_int (db_cons (DEg.bor (dg_op od_sub (DEg.bor (de_call0 dv_nil (ds_cons (de_var 4) ds_nil))) (db_var 2))) db_nil))) (db_var 1))) (DEg.bor (de_int 0))))
    (dst_for (di_rng1 (db_cons (db_var 0) db_nil)) (dg_name 5)
    (dst_seq (dst_asg (dg_op od_add (DEg.bor (dg_sl sg_U (db_var 4) do_none (do_some (de_var 5)))) (DEg.bor (dg_sl sg_U (db_var 4) (do_some (dg_op od_add (db_var 5) (DEg.bor (de_int 1)))) do_none))) (dg_name 6))
    (dst_seq (dst_if (dt_test (dg_op od_ne (DEg.bor (de_get2 (dd_var 3) (de_var 6) (de_var 4))) (db_var 4)))
    (dst_ret (de_bl true))
    dst_next)
    (dst_putD (de_var 4) (de_var 6)))))
    dst_next))
    (dst_ret (de_bl false))))
end Mine

namespace Mine
open PySem PySem.Spec PyProof.Rows L2
theorem ok_law_book_of {P : Program} {w : World} {K : PySem.W.Frag} {mg : Str → Option Value} {base : Heap} (T : Txt K mg) : ∃ fd, FnOk P w K mg base CX0 3 (He.ga K "_law_book_of") fd P_law_book_of (spD K F_law_book_of) ∧ D_law_book_of K (He.ga K "_law_book_of") fd := by
  obtain ⟨fd, F⟩ := T.F_law_book_of
  obtain ⟨fd_law_take, G_law_take, D_law_take⟩ := ok_law_take (P := P) (w := w) (base := base) T
  have k_law_take := D_law_take.kp
  have b_law_take := bd_law_take D_law_take
  refine ⟨fd, F.ok sc_law_book_of (fun vs H Q E h => ?_) (fun cdv A outer s H vs Q E hr h => ?_), F⟩
  · rw [F_law_book_of_eq] at h
    exact spD_len (np := 2) (fun _ _ _ h => h.1) vs H Q E h
  · rw [F_law_book_of_eq] at h
    refine ⟨_, PSs.nox (pss_cons (ps_set (i := 2) sc_law_book_of.nd rfl (by first | exact Or.inl rfl | exact Or.inr rfl) (pe_ix (ix_U (K := K) rfl) (pe_lst (pa_cons pe_int (pa_cons pe_int (pa_cons pe_int (pa_cons pe_int (pa_cons pe_int (pa_cons (pe_op (op_addU rfl) pe_int (pe_call G_law_take (hr.mono (by decide)) rfl T.g__law_take k_law_take b_law_take .nil pass0 (pa_cons (pv 0) (pa_cons (pe_op (op_addU rfl) (pv 1) pe_int) pa_nil)))) (pa_cons (pe_call G_law_take (hr.mono (by decide)) rfl T.g__law_take k_law_take b_law_take .nil pass0 (pa_cons (pv 0) (pa_cons (pe_op op_sub (pe_op op_pow pe_int pe_int) (pv 1)) pa_nil))) pa_nil)))))))) (pe_call G_law_take (hr.mono (by decide)) rfl T.g__law_take k_law_take b_law_take .nil pass0 (pa_cons (pv 0) (pa_cons pe_int pa_nil))) (fun _ _ => rfl)))
    (pss_cons (ps_set (i := 3) sc_law_book_of.nd rfl (by first | exact Or.inl rfl | exact Or.inr rfl) (pe_op (op_addU rfl) (pe_op (op_addU rfl) (pv 1) pe_int) (pv 2)))
    (pss_cons (ps_set (i := 4) sc_law_book_of.nd rfl (by first | exact Or.inl rfl | exact Or.inr rfl) (pe_call G_law_take (hr.mono (by decide)) rfl T.g__law_take k_law_take b_law_take .nil pass0 (pa_cons (pv 0) (pa_cons (pe_callB (call_min2U rfl) (by rfl) T.z_min (by decide +kernel) (pa_cons (pv 3) (pa_cons (pe_op (op_addU rfl) (pe_op op_fdiv (pe_op op_mulU (pv 1) (pe_op (op_addU rfl) (pv 1) pe_int)) pe_int) pe_int) pa_nil))) pa_nil))))
    (pss_cons (ps_if (pt_cmpR (op_eqU rfl hr.units) (pe_call G_law_take (hr.mono (by decide)) rfl T.g__law_take k_law_take b_law_take .nil pass0 (pa_cons (pv 0) (pa_cons pe_int pa_nil))) pe_int (by first | exact nomark _ | rfl))
    (pss_one (ps_set (i := 4) sc_law_book_of.nd rfl (by first | exact Or.inl rfl | exact Or.inr rfl) (pe_call G_law_take (hr.mono (by decide)) rfl T.g__law_take k_law_take b_law_take .nil pass0 (pa_cons (pv 0) (pa_cons (pv 3) pa_nil)))))
    pss_nil)
    (pss_one (ps_ret (pe_lst (pa_cons (pv 1) (pa_cons (pv 3) (pa_cons (pv 4) pa_nil)))))))))), ?_⟩
    exact body_of0 rfl h fun X hd => (dst_seq (dst_asg (dg_op od_ix (DEg.bor (DEg.cln (df_lst (da_cons (de_int 0) (da_cons (de_int 0) (da_cons (de_int 0) (da_cons (de_int 0) (da_cons (de_int 1) (da_cons (dg_op od_add (DEg.bor (de_int 1)) (DEg.bor (de_call0 dv_nil (ds_hand (i := 0) (ds_cons (dg_op od_add (db_var 1) (DEg.bor (de_int 2))) ds_nil))))) (da_cons (de_call0 dv_nil (ds_hand (i := 0) (ds_cons (dg_op od_sub (DEg.bor (de_powC (a := 10) (b := 6) (c := 1000000) (cpow_of (by decide +kernel)) (by decide +kernel))) (db_var 1)) ds_nil))) da_nil)))))))))) (DEg.bor (de_call0 dv_nil (ds_hand (i := 0) (ds_cons (de_int 7) ds_nil))))) (dg_name 2))
    (dst_seq (dst_asg (dg_op od_add (DEg.bor (dg_op od_add (db_var 1) (DEg.bor (de_int 1)))) (db_var 2)) (dg_name 3))
    (dst_seq (dst_asg (de_call0 dv_nil (ds_hand (i := 0) (ds_cons (dg_cb cg_min2 (db_cons (db_var 3) (db_cons (DEg.bor (dg_op od_add (DEg.bor (dg_op od_fdiv (DEg.bor (dg_op od_mul (db_var 1) (DEg.bor (dg_op od_add (db_var 1) (DEg.bor (de_int 1)))))) (DEg.bor (de_int 2)))) (DEg.bor (de_int 1)))) db_nil))) ds_nil))) (dg_name 4))
    (dst_seq (dst_if (dt_test (dg_op od_eq (DEg.bor (de_call0 dv_nil (ds_hand (i := 0) (ds_cons (de_int 2) ds_nil)))) (DEg.bor (de_int 0))))
    (dst_asg (de_call0 dv_nil (ds_hand (i := 0) (ds_cons (de_var 3) ds_nil))) (dg_name 4))
    dst_next)
    (dst_ret (DEg.cln (df_lst (da_cons (de_var 1) (da_cons (de_var 3) (da_cons (de_var 4) da_nil))))))))))
end Mine

namespace Mine
open PySem PySem.Spec PyProof.Rows L2
theorem ok_SumBook___init {P : Program} {w : World} {K : PySem.W.Frag} {mg : Str → Option Value} {base : Heap} (T : Txt K mg) : ∃ fd, FnOk P w K mg base (L2.CX P w) 3 (He.ma K (He.ga K "SumBook") "__init__") fd P_SumBook___init (spI K "SumBook" F_SumBook___init) ∧ D_SumBook___init K (He.ma K (He.ga K "SumBook") "__init__") fd := by
  obtain ⟨fd, F⟩ := T.F_SumBook___init
  obtain ⟨fd_check_number, G_check_number, D_check_number⟩ := ok_check_number (P := P) (w := w) (base := base) T
  have k_check_number := D_check_number.kp
  have b_check_number := bd_check_number D_check_number
  obtain ⟨fd_check_modulus, G_check_modulus, D_check_modulus⟩ := ok_check_modulus (P := P) (w := w) (base := base) T
  have k_check_modulus := D_check_modulus.kp
  have b_check_modulus := bd_check_modulus D_check_modulus
  obtain ⟨fd_check_rest, G_check_rest, D_check_rest⟩ := ok_check_rest (P := P) (w := w) (base := base) T
  have k_check_rest := D_check_rest.kp
  have b_check_rest := bd_check_rest D_check_rest
  refine ⟨fd, F.ok sc_SumBook___init (fun vs H Q E h => ?_) (fun cdv A outer s H vs Q E hr h => ?_), F⟩
  · rw [F_SumBook___init_eq] at h
    exact spI_len (np := 4) (fun _ _ _ h => h.1) vs H Q E h
  · rw [F_SumBook___init_eq] at h
    refine ⟨_, (pss_cons (ps_expr (pe_call G_check_number (hr.mono (by decide)) rfl T.g_check_number k_check_number b_check_number .nil (E := E) (passes_call (takes_of rfl rfl rfl rfl) fun _ _ _ _ h => h) (pa_cons (pv 1) (pa_cons pe_int (pa_cons (pe_glob (v := .int (200)) rfl T.c_MOST_HERE.choose_spec ⟨_, rfl⟩) pa_nil)))))
    (pss_cons (ps_expr (pe_call G_check_modulus (hr.mono (by decide)) rfl T.g__check_modulus k_check_modulus b_check_modulus .nil (E := E) (passes_call (takes_of rfl rfl rfl rfl) fun _ _ _ _ h => h) (pa_cons (pv 2) (pa_cons (pe_op (op_addU rfl) (pv 1) pe_int) pa_nil))))
    (pss_cons (ps_expr (pe_call G_check_rest (hr.mono (by decide)) rfl T.g__check_rest k_check_rest b_check_rest .nil (E := E) (passes_call (takes_of rfl rfl rfl rfl) fun _ _ _ _ h => h) (pa_cons (pv 3) (pa_cons (pv 2) pa_nil))))
    (pss_cons (ps_fld (pv 0) (pv 1) (by rfl))
    (pss_cons (ps_fld (pv 0) (pv 2) (by rfl))
    (pss_one (ps_fld (pv 0) (pv 3) (by rfl)))))))), ?_⟩
    exact body_ofI rfl h fun H X hd x => (dst_seq (dst_drop (de_call rfl dv_nil (ds_cons (de_var 1) (ds_cons (de_int 0) (ds_cons (de_int (200)) ds_nil)))))
    (dst_seq (dst_drop (de_call rfl dv_nil (ds_cons (de_var 2) (ds_cons (dg_op od_add (db_var 1) (DEg.bor (de_int 1))) ds_nil))))
    (dst_seq (dst_drop (de_call rfl dv_nil (ds_cons (de_var 3) (ds_cons (de_var 2) ds_nil))))
    (dst_seq (dst_setF (fld_ok T) (de_var 1))
    (dst_seq (dst_setF (fld_ok T) (de_var 2))
    (dst_setF (fld_ok T) (de_var 3)))))))
end Mine

namespace Mine
open PySem PySem.Spec PyProof.Rows L2
theorem ok_SumBook_is_full {P : Program} {w : World} {K : PySem.W.Frag} {mg : Str → Option Value} {base : Heap} (T : Txt K mg) : ∃ fd, FnOk P w K mg base CX0 1 (gA K "SumBook" "is_full") fd P_SumBook_is_full (spD K F_SumBook_is_full) ∧ D_SumBook_is_full K (gA K "SumBook" "is_full") fd := by
  obtain ⟨fd, F⟩ := T.F_SumBook_is_full
  refine ⟨fd, F.ok sc_SumBook_is_full (fun vs H Q E h => ?_) (fun cdv A outer s H vs Q E hr h => ?_), F⟩
  · rw [F_SumBook_is_full_eq] at h
    exact spD_len (np := 1) (fun _ _ _ h => h.1) vs H Q E h
  · rw [F_SumBook_is_full_eq] at h
    refine ⟨_, PSs.nox (pss_one (ps_ret (pe_cmpR (op_eqU rfl hr.units) (pe_fldU (K := K) rfl (pv 0) (by rfl)) (pe_op (op_addU rfl) (pe_fldU (K := K) rfl (pv 0) (by rfl)) pe_int) (by first | exact nomark _ | rfl)))), ?_⟩
    exact body_of0 rfl h fun X hd => (dst_ret (dg_op od_eq (DEg.bor (de_fld (fld_ok T) (db_var 0))) (DEg.bor (dg_op od_add (DEg.bor (de_fld (fld_ok T) (db_var 0))) (DEg.bor (de_int 1))))))
end Mine

namespace Mine
open PySem PySem.Spec PyProof.Rows L2
theorem ok_word_of_sum {P : Program} {w : World} {K : PySem.W.Frag} {mg : Str → Option Value} {base : Heap} (T : Txt K mg) : ∃ fd, FnOk P w K mg base CX0 1 (He.ga K "_word_of_sum") fd P_word_of_sum (spD K F_word_of_sum) ∧ D_word_of_sum K (He.ga K "_word_of_sum") fd := by
  obtain ⟨fd, F⟩ := T.F_word_of_sum
  refine ⟨fd, F.ok sc_word_of_sum (fun vs H Q E h => ?_) (fun cdv A outer s H vs Q E hr h => ?_), F⟩
  · rw [F_word_of_sum_eq] at h
    exact spD_len (np := 2) (fun _ _ _ h => h.1) vs H Q E h
  · rw [F_word_of_sum_eq] at h
    refine ⟨_, PSs.nox (pss_cons (ps_set (i := 2) sc_word_of_sum.nd rfl (by first | exact Or.inl rfl | exact Or.inr rfl) (pe_lst pa_nil))
    (pss_cons (ps_for PassesOwn.never rfl (pi_range3 (by rfl) T.z_range (pa_cons (pv 0) (pa_cons pe_int (pa_cons (pe_un un_neg pe_int) pa_nil)))) (pg_name (i := 3) sc_word_of_sum.nd rfl (by first | exact Or.inl rfl | exact Or.inr rfl))
    (pss_one (ps_if (pt_cmpR op_le (pv 3) (pv 1) (by first | exact nomark _ | rfl))
    (pss_cons (ps_expr (pe_bm PySem.F.plainAttrs_list PySem.F.slot_list_append PySem.F.type_list_append mt_append (pv 2) (pa_cons (pv 3) pa_nil)))
    (pss_one (ps_aug (i := 1) sc_word_of_sum.nd rfl (by first | exact Or.inl rfl | exact Or.inr rfl) (pv 3) ip_sub)))
    pss_nil)))
    (pss_one (ps_ret (pe_callTy (call_tupU (K := K) rfl) (by rfl) T.z_tuple (by decide +kernel) (pa_cons (pe_lc (own := [("place", 3)]) rfl sc_word_of_sum.nd (pi_range2 (by rfl) T.z_range (pa_cons pe_int (pa_cons (pe_op (op_addU rfl) (pv 0) pe_int) pa_nil))) (blkOk_by (own := [("place", 3)]) (N := N_word_of_sum) (sc := defScope s_word_of_sum) (by decide +kernel)) (fun _ _ _ _ _ => (pg_name (i := 3) sc_word_of_sum.nd rfl (by first | exact Or.inl rfl | exact Or.inr rfl))) (fun _ _ _ _ _ => pts_nil) (fun _ _ _ _ _ => (pe_ifExp (pt_cmpR (op_inU rfl (Room.u65 hr)) (pv 3) (pv 2) (by first | exact nomark _ | rfl)) pe_int pe_int))) pa_nil)))))), ?_⟩
    exact body_of0 rfl h fun X hd => (dst_seq (dst_own (df_lst da_nil))
    (dst_seq (dst_for (di_rngD (db_cons (db_var 0) (db_cons (DEg.bor (de_int 0)) (db_cons (DEg.bor (de_un ud_neg (DEg.bor (de_int 1)))) db_nil)))) (dg_name 3)
    (dst_if (dt_test (dg_op od_le (db_var 3) (db_var 1)))
    (dst_seq (dst_app (de_var 3))
    (dst_aug (de_var 3)))
    dst_next))
    (dst_ret (dg_cb cg_tup (db_cons (DEg.bor (DEg.cln (df_lc (di_rng2 (db_cons (DEg.bor (de_int 1)) (db_cons (DEg.bor (dg_op od_add (db_var 0) (DEg.bor (de_int 1)))) db_nil))) (dg_name 3) dt_yes (dg_if (dt_test (dg_op od_in (db_var 3) (db_var 2))) (de_int 1) (de_int 0))))) db_nil)))))
end Mine

namespace Mine
open PySem PySem.Spec PyProof.Rows L2
theorem ok_unread_word {P : Program} {w : World} {K : PySem.W.Frag} {mg : Str → Option Value} {base : Heap} (T : Txt K mg) : ∃ fd, FnOk P w K mg base (L2.CX P w) 3 (He.ga K "unread_word") fd P_unread_word (spD K F_unread_word) ∧ D_unread_word K (He.ga K "unread_word") fd := by
  obtain ⟨fd, F⟩ := T.F_unread_word
  obtain ⟨fd_SumBook_is_full, G_SumBook_is_full, D_SumBook_is_full⟩ := ok_SumBook_is_full (P := P) (w := w) (base := base) T
  have k_SumBook_is_full := D_SumBook_is_full.kp
  have b_SumBook_is_full := bd_SumBook_is_full D_SumBook_is_full
  obtain ⟨fd_word_of_sum, G_word_of_sum, D_word_of_sum⟩ := ok_word_of_sum (P := P) (w := w) (base := base) T
  have k_word_of_sum := D_word_of_sum.kp
  have b_word_of_sum := bd_word_of_sum D_word_of_sum
  refine ⟨fd, F.ok sc_unread_word (fun vs H Q E h => ?_) (fun cdv A outer s H vs Q E hr h => ?_), F⟩
  · rw [F_unread_word_eq] at h
    exact spD_len (np := 1) (fun _ _ _ h => h.1) vs H Q E h
  · rw [F_unread_word_eq] at h
    refine ⟨_, (pss_cons (ps_if (pt_cmpR (op_eqU rfl hr.units) (pe_fldU (K := K) rfl (pv 0) (by rfl)) pe_int (by first | exact nomark _ | rfl))
    (pss_one (ps_raise rfl (takes_of rfl rfl rfl rfl) (mk0 T.e_BadNumber T.g_BadNumber rfl)))
    pss_nil)
    (pss_cons (ps_set (i := 1) sc_unread_word.nd rfl (by first | exact Or.inl rfl | exact Or.inr rfl) (pe_op op_fdiv (pe_op op_mulU (pe_fldU (K := K) rfl (pv 0) (by rfl)) (pe_op op_sub (pe_fldU (K := K) rfl (pv 0) (by rfl)) pe_int)) pe_int))
    (pss_cons (ps_if (pt_tru rfl (pe_prop (pv 0) T.l_SumBook T.p_SumBook_is_is_full G_SumBook_is_full (hr.mono (by decide)) b_SumBook_is_full .nil pass0 (by rfl)) (by intro _; rfl))
    (pss_one (ps_ret pe_non))
    pss_nil)
    (pss_cons (ps_if (pt_cmpR op_gt (pe_fldU (K := K) rfl (pv 0) (by rfl)) (pe_fldU (K := K) rfl (pv 0) (by rfl)) (by first | exact nomark _ | rfl))
    (pss_one (ps_ret (pe_call G_word_of_sum (hr.mono (by decide)) rfl T.g__word_of_sum k_word_of_sum b_word_of_sum .nil pass0 (pa_cons (pe_op op_sub (pe_fldU (K := K) rfl (pv 0) (by rfl)) pe_int) (pa_cons pe_int pa_nil)))))
    pss_nil)
    (pss_cons (ps_if (pt_cmpR op_le (pe_op (op_addU rfl) (pe_fldU (K := K) rfl (pv 0) (by rfl)) pe_int) (pv 1) (by first | exact nomark _ | rfl))
    (pss_one (ps_ret (pe_call G_word_of_sum (hr.mono (by decide)) rfl T.g__word_of_sum k_word_of_sum b_word_of_sum .nil pass0 (pa_cons (pe_op op_sub (pe_fldU (K := K) rfl (pv 0) (by rfl)) pe_int) (pa_cons (pe_op (op_addU rfl) (pe_fldU (K := K) rfl (pv 0) (by rfl)) pe_int) pa_nil)))))
    pss_nil)
    (pss_one (ps_ret pe_non))))))), ?_⟩
    exact body_of rfl h fun X hd => (dst_seq (dst_if (dt_test (dg_op od_eq (DEg.bor (de_fld (fld_ok T) (db_var 0))) (DEg.bor (de_int 0))))
    (dst_raise rfl)
    dst_next)
    (dst_seq (dst_asg (dg_op od_fdiv (DEg.bor (dg_op od_mul (DEg.bor (de_fld (fld_ok T) (db_var 0))) (DEg.bor (dg_op od_sub (DEg.bor (de_fld (fld_ok T) (db_var 0))) (DEg.bor (de_int 1)))))) (DEg.bor (de_int 2))) (dg_name 1))
    (dst_seq (dst_if (dt_tru (DEg.bor (de_prop (de_var 0))))
    (dst_ret de_non)
    dst_next)
    (dst_seq (dst_if (dt_test (dg_op od_gt (DEg.bor (de_fld (fld_ok T) (db_var 0))) (DEg.bor (de_fld (fld_ok T) (db_var 0)))))
    (dst_ret (de_call0 dv_nil (ds_cons (dg_op od_sub (DEg.bor (de_fld (fld_ok T) (db_var 0))) (DEg.bor (de_int 1))) (ds_cons (de_int 0) ds_nil))))
    dst_next)
    (dst_seq (dst_if (dt_test (dg_op od_le (DEg.bor (dg_op od_add (DEg.bor (de_fld (fld_ok T) (db_var 0))) (DEg.bor (de_int 1)))) (db_var 1)))
    (dst_ret (de_call0 dv_nil (ds_cons (dg_op od_sub (DEg.bor (de_fld (fld_ok T) (db_var 0))) (DEg.bor (de_int 1))) (ds_cons (dg_op od_add (DEg.bor (de_fld (fld_ok T) (db_var 0))) (DEg.bor (de_int 1))) ds_nil))))
    dst_next)
    (dst_ret de_non))))))
end Mine

namespace Mine
open PySem PySem.Spec PyProof.Rows L2
theorem ok_law_is_unread {P : Program} {w : World} {K : PySem.W.Frag} {mg : Str → Option Value} {base : Heap} (T : Txt K mg) : ∃ fd, FnOk P w K mg base CX0 2 (He.ga K "_law_is_unread") fd P_law_is_unread (spD K F_law_is_unread) ∧ D_law_is_unread K (He.ga K "_law_is_unread") fd := by
  obtain ⟨fd, F⟩ := T.F_law_is_unread
  obtain ⟨fd_law_sum, G_law_sum, D_law_sum⟩ := ok_law_sum (P := P) (w := w) (base := base) T
  have k_law_sum := D_law_sum.kp
  have b_law_sum := bd_law_sum D_law_sum
  refine ⟨fd, F.ok sc_law_is_unread (fun vs H Q E h => ?_) (fun cdv A outer s H vs Q E hr h => ?_), F⟩
  · rw [F_law_is_unread_eq] at h
    exact spD_len (np := 2) (fun _ _ _ h => h.1) vs H Q E h
  · rw [F_law_is_unread_eq] at h
    refine ⟨_, PSs.nox (pss_one (ps_ret (pe_cmpR op_gt (pe_op op_mod (pe_callTy call_intU (by rfl) T.z_int (by decide +kernel) (pa_cons (pe_op op_sub (pe_ix (ix_U (K := K) rfl) (pv 0) pe_int (fun _ _ => rfl)) (pe_call G_law_sum (hr.mono (by decide)) rfl T.g__law_sum k_law_sum b_law_sum .nil pass0 (pa_cons (pv 1) pa_nil))) pa_nil)) (pe_ix (ix_U (K := K) rfl) (pv 0) pe_int (fun _ _ => rfl))) (pe_ix (ix_U (K := K) rfl) (pv 0) pe_int (fun _ _ => rfl)) (by first | exact nomark _ | rfl)))), ?_⟩
    exact body_of0 rfl h fun X hd => (dst_ret (dg_op od_gt (DEg.bor (dg_op od_mod (DEg.bor (dg_cb cg_int (db_cons (DEg.bor (dg_op od_sub (DEg.bor (dg_op od_ix (db_var 0) (DEg.bor (de_int 2)))) (DEg.bor (de_call0 dv_nil (ds_cons (de_var 1) ds_nil))))) db_nil))) (DEg.bor (dg_op od_ix (db_var 0) (DEg.bor (de_int 1)))))) (DEg.bor (dg_op od_ix (db_var 0) (DEg.bor (de_int 0))))))
end Mine

namespace Mine
open PySem PySem.Spec PyProof.Rows L2
theorem ok_check_letters_of {P : Program} {w : World} {K : PySem.W.Frag} {mg : Str → Option Value} {base : Heap} (T : Txt K mg) : ∃ fd, FnOk P w K mg base (L2.CX P w) 4 (He.ga K "_check_letters_of") fd P_check_letters_of (spD K F_check_letters_of) ∧ D_check_letters_of K (He.ga K "_check_letters_of") fd := by
  obtain ⟨fd, F⟩ := T.F_check_letters_of
  obtain ⟨fd_check_word, G_check_word, D_check_word⟩ := ok_check_word (P := P) (w := w) (base := base) T
  have k_check_word := D_check_word.kp
  obtain ⟨ds_check_word_3, r_check_word_3, b_check_word_3⟩ := bd_check_word_3 D_check_word
  refine ⟨fd, F.ok sc_check_letters_of (fun vs H Q E h => ?_) (fun cdv A outer s H vs Q E hr h => ?_), F⟩
  · rw [F_check_letters_of_eq] at h
    exact spD_len (np := 3) (fun _ _ _ h => h.1) vs H Q E h
  · rw [F_check_letters_of_eq] at h
    refine ⟨_, (pss_cons (ps_set (i := 0) sc_check_letters_of.nd rfl (by first | exact Or.inl rfl | exact Or.inr rfl) (pe_call G_check_word (hr.mono (by decide)) rfl T.g_check_word k_check_word b_check_word_3 r_check_word_3 (E := E) (passes_call (takes_of rfl rfl rfl rfl) fun _ _ _ _ h => h) (pa_cons pe_int (pa_cons (pv 0) (pa_cons (pv 2) pa_nil)))))
    (pss_cons (ps_if (pt_cmpR (op_neU rfl hr.units) (pe_callB (call_lenU (K := K) rfl) (by rfl) T.z_len (by decide +kernel) (pa_cons (pv 0) pa_nil)) (pv 1) (by first | exact nomark _ | rfl))
    (pss_one (ps_raise rfl (takes_of rfl rfl rfl rfl) (mk0 T.e_NotOneOff T.g_NotOneOff rfl)))
    pss_nil)
    (pss_one (ps_ret (pv 0))))), ?_⟩
    exact body_of rfl h fun X hd => (dst_seq (dst_asg (de_call rfl dv_nil (ds_cons (de_int 2) (ds_cons (de_var 0) (ds_cons (de_var 2) ds_nil)))) (dg_name 0))
    (dst_seq (dst_if (dt_test (dg_op od_ne (DEg.bor (dg_cb cg_len (db_cons (db_var 0) db_nil))) (db_var 1)))
    (dst_raise rfl)
    dst_next)
    (dst_ret (de_var 0))))
end Mine

namespace Mine
open PySem PySem.Spec PyProof.Rows L2
theorem ok_sum_of {P : Program} {w : World} {K : PySem.W.Frag} {mg : Str → Option Value} {base : Heap} (T : Txt K mg) : ∃ fd, FnOk P w K mg base CX0 1 (He.ga K "_sum_of") fd P_sum_of (spD K F_sum_of) ∧ D_sum_of K (He.ga K "_sum_of") fd := by
  obtain ⟨fd, F⟩ := T.F_sum_of
  refine ⟨fd, F.ok sc_sum_of (fun vs H Q E h => ?_) (fun cdv A outer s H vs Q E hr h => ?_), F⟩
  · rw [F_sum_of_eq] at h
    exact spD_len (np := 1) (fun _ _ _ h => h.1) vs H Q E h
  · rw [F_sum_of_eq] at h
    refine ⟨_, PSs.nox (pss_one (ps_ret (pe_callB (CallR.k (r := rSumA) (K := K) (cr_sumA rfl) rfl) (by rfl) T.z_sum (by decide +kernel) (pa_cons (pe_lc (own := [("place", 1), ("letter", 2)]) rfl sc_sum_of.nd (pi_enumTk (k := 1) (by decide) (by rfl) T.z_enumerate (pa_cons (pv 0) pa_nil)) (blkOk_by (own := [("place", 1), ("letter", 2)]) (N := N_sum_of) (sc := defScope s_sum_of) (by decide +kernel)) (fun _ _ _ _ _ => (pg_tupK (K := K) (n := 2) rfl (by rfl) (pgs_cons (pg_name (i := 1) sc_sum_of.nd rfl (by first | exact Or.inl rfl | exact Or.inr rfl)) (pgs_cons (pg_name (i := 2) sc_sum_of.nd rfl (by first | exact Or.inl rfl | exact Or.inr rfl)) pgs_nil)))) (fun _ _ _ _ _ => (pts_one (pt_cmpR (op_eqU rfl hr.units) (pv 2) pe_int (by first | exact nomark _ | rfl)))) (fun _ _ _ _ _ => (pv 1))) pa_nil)))), ?_⟩
    exact body_of0 rfl h fun X hd => (dst_ret (dg_cb cg_sum (db_cons (DEg.bor (DEg.cln (df_lc (di_enumK (R := Bor) (k := 1) (db_var 0)) (dg_two 1 2) (dt_test (dg_op od_eq (db_var 2) (DEg.bor (de_int 1)))) (de_var 1)))) db_nil)))
end Mine

namespace Mine
open PySem PySem.Spec PyProof.Rows L2
theorem ok_place_sum {P : Program} {w : World} {K : PySem.W.Frag} {mg : Str → Option Value} {base : Heap} (T : Txt K mg) : ∃ fd, FnOk P w K mg base (L2.CX P w) 4 (He.ga K "place_sum") fd P_place_sum (spD K F_place_sum) ∧ D_place_sum K (He.ga K "place_sum") fd := by
  obtain ⟨fd, F⟩ := T.F_place_sum
  obtain ⟨fd_sum_of, G_sum_of, D_sum_of⟩ := ok_sum_of (P := P) (w := w) (base := base) T
  have k_sum_of := D_sum_of.kp
  have b_sum_of := bd_sum_of D_sum_of
  obtain ⟨fd_check_word, G_check_word, D_check_word⟩ := ok_check_word (P := P) (w := w) (base := base) T
  have k_check_word := D_check_word.kp
  obtain ⟨ds_check_word_3, r_check_word_3, b_check_word_3⟩ := bd_check_word_3 D_check_word
  refine ⟨fd, F.ok sc_place_sum (fun vs H Q E h => ?_) (fun cdv A outer s H vs Q E hr h => ?_), F⟩
  · rw [F_place_sum_eq] at h
    exact spD_len (np := 1) (fun _ _ _ h => h.1) vs H Q E h
  · rw [F_place_sum_eq] at h
    refine ⟨_, (pss_one (ps_ret (pe_call G_sum_of (hr.mono (by decide)) rfl T.g__sum_of k_sum_of b_sum_of .nil pass0 (pa_cons (pe_call G_check_word (hr.mono (by decide)) rfl T.g_check_word k_check_word b_check_word_3 r_check_word_3 (E := E) (passes_call (takes_of rfl rfl rfl rfl) fun _ _ _ _ h => h) (pa_cons pe_int (pa_cons (pv 0) (pa_cons (pe_op (op_addU rfl) (pe_glob (v := .int (200)) rfl T.c_MOST_HERE.choose_spec ⟨_, rfl⟩) pe_int) pa_nil)))) pa_nil)))), ?_⟩
    exact body_of rfl h fun X hd => (dst_ret (de_call0 dv_nil (ds_cons (de_call rfl dv_nil (ds_cons (de_int 2) (ds_cons (de_var 0) (ds_cons (dg_op od_add (DEg.bor (de_int (200))) (DEg.bor (de_int 1))) ds_nil)))) ds_nil)))
end Mine

namespace Mine
open PySem PySem.Spec PyProof.Rows L2
theorem ok_read_lost {P : Program} {w : World} {K : PySem.W.Frag} {mg : Str → Option Value} {base : Heap} (T : Txt K mg) : ∃ fd, FnOk P w K mg base (L2.CX P w) 5 (He.ga K "read_lost") fd P_read_lost (spD K F_read_lost) ∧ D_read_lost K (He.ga K "read_lost") fd := by
  obtain ⟨fd, F⟩ := T.F_read_lost
  obtain ⟨fd_check_letters_of, G_check_letters_of, D_check_letters_of⟩ := ok_check_letters_of (P := P) (w := w) (base := base) T
  have k_check_letters_of := D_check_letters_of.kp
  obtain ⟨ds_check_letters_of_2, r_check_letters_of_2, b_check_letters_of_2⟩ := bd_check_letters_of_2 D_check_letters_of
  obtain ⟨fd_place_sum, G_place_sum, D_place_sum⟩ := ok_place_sum (P := P) (w := w) (base := base) T
  have k_place_sum := D_place_sum.kp
  have b_place_sum := bd_place_sum D_place_sum
  obtain ⟨fd_lifted_word, G_lifted_word, D_lifted_word⟩ := ok_lifted_word (P := P) (w := w) (base := base) T
  have k_lifted_word := D_lifted_word.kp
  have b_lifted_word := bd_lifted_word D_lifted_word
  refine ⟨fd, F.ok sc_read_lost (fun vs H Q E h => ?_) (fun cdv A outer s H vs Q E hr h => ?_), F⟩
  · rw [F_read_lost_eq] at h
    exact spD_len (np := 2) (fun _ _ _ h => h.1) vs H Q E h
  · rw [F_read_lost_eq] at h
    refine ⟨_, (pss_cons (ps_set (i := 1) sc_read_lost.nd rfl (by first | exact Or.inl rfl | exact Or.inr rfl) (pe_call G_check_letters_of (hr.mono (by decide)) rfl T.g__check_letters_of k_check_letters_of b_check_letters_of_2 r_check_letters_of_2 (E := E) (passes_call (takes_of rfl rfl rfl rfl) fun _ _ _ _ h => h) (pa_cons (pv 1) (pa_cons (pe_op op_sub (pe_fldU (K := K) rfl (pv 0) (by rfl)) pe_int) pa_nil))))
    (pss_cons (ps_set (i := 2) sc_read_lost.nd rfl (by first | exact Or.inl rfl | exact Or.inr rfl) (pe_op op_mod (pe_op op_sub (pe_fldU (K := K) rfl (pv 0) (by rfl)) (pe_call G_place_sum (hr.mono (by decide)) rfl T.g_place_sum k_place_sum b_place_sum .nil (E := E) (passes_call (takes_of rfl rfl rfl rfl) fun _ _ _ _ h => h) (pa_cons (pv 1) pa_nil))) (pe_fldU (K := K) rfl (pv 0) (by rfl))))
    (pss_one (ps_ret (pe_ifExp (pt_cmpR op_le (pv 2) (pe_fldU (K := K) rfl (pv 0) (by rfl)) (by first | exact nomark _ | rfl)) (pe_call G_lifted_word (hr.mono (by decide)) rfl T.g_lifted_word k_lifted_word b_lifted_word .nil (E := E) (passes_call (takes_of rfl rfl rfl rfl) fun _ _ _ _ h => h) (pa_cons (pv 1) (pa_cons (pv 2) pa_nil))) pe_non))))), ?_⟩
    exact body_of rfl h fun X hd => (dst_seq (dst_asg (de_call rfl (dv_cons rfl dv_nil) (ds_cons (de_var 1) (ds_cons (dg_op od_sub (DEg.bor (de_fld (fld_ok T) (db_var 0))) (DEg.bor (de_int 1))) ds_nil))) (dg_name 1))
    (dst_seq (dst_asg (dg_op od_mod (DEg.bor (dg_op od_sub (DEg.bor (de_fld (fld_ok T) (db_var 0))) (DEg.bor (de_call rfl dv_nil (ds_cons (de_var 1) ds_nil))))) (DEg.bor (de_fld (fld_ok T) (db_var 0)))) (dg_name 2))
    (dst_ret (dg_if (dt_test (dg_op od_le (db_var 2) (DEg.bor (de_fld (fld_ok T) (db_var 0))))) (de_call rfl dv_nil (ds_cons (de_var 1) (ds_cons (de_var 2) ds_nil))) de_non))))
end Mine

namespace Mine
open PySem PySem.Spec PyProof.Rows L2
theorem ok_law_unread_right {P : Program} {w : World} {K : PySem.W.Frag} {mg : Str → Option Value} {base : Heap} (T : Txt K mg) : ∃ fd, FnOk P w K mg base CX0 6 (He.ga K "_law_unread_right") fd P_law_unread_right (spD K F_law_unread_right) ∧ D_law_unread_right K (He.ga K "_law_unread_right") fd := by
  obtain ⟨fd, F⟩ := T.F_law_unread_right
  obtain ⟨fd_unread_word, G_unread_word, D_unread_word⟩ := ok_unread_word (P := P) (w := w) (base := base) T
  have k_unread_word := D_unread_word.kp
  have b_unread_word := bd_unread_word D_unread_word
  obtain ⟨fd_law_is_unread, G_law_is_unread, D_law_is_unread⟩ := ok_law_is_unread (P := P) (w := w) (base := base) T
  have k_law_is_unread := D_law_is_unread.kp
  have b_law_is_unread := bd_law_is_unread D_law_is_unread
  obtain ⟨fd_law_is_word, G_law_is_word, D_law_is_word⟩ := ok_law_is_word (P := P) (w := w) (base := base) T
  have k_law_is_word := D_law_is_word.kp
  have b_law_is_word := bd_law_is_word D_law_is_word
  obtain ⟨fd_read_lost, G_read_lost, D_read_lost⟩ := ok_read_lost (P := P) (w := w) (base := base) T
  have k_read_lost := D_read_lost.kp
  have b_read_lost := bd_read_lost D_read_lost
  refine ⟨fd, F.ok sc_law_unread_right (fun vs H Q E h => ?_) (fun cdv A outer s H vs Q E hr h => ?_), F⟩
  · rw [F_law_unread_right_eq] at h
    exact spD_len (np := 2) (fun _ _ _ h => h.1) vs H Q E h
  · rw [F_law_unread_right_eq] at h
    refine ⟨_, PSs.nox (pss_cons (ps_set (i := 2) sc_law_unread_right.nd rfl (by first | exact Or.inl rfl | exact Or.inr rfl) (pe_ix (ix_U (K := K) rfl) (pv 1) pe_int (fun _ _ => rfl)))
    (pss_cons (ps_set (i := 3) sc_law_unread_right.nd rfl (by first | exact Or.inl rfl | exact Or.inr rfl) (pe_call G_unread_word (hr.mono (by decide)) rfl T.g_unread_word k_unread_word b_unread_word .nil passL (pa_cons (pv 0) pa_nil)))
    (pss_cons (ps_set (i := 4) sc_law_unread_right.nd rfl (by first | exact Or.inl rfl | exact Or.inr rfl) (pe_or (pe_cmpR (op_eqU rfl hr.units) (pe_ix (ix_U (K := K) rfl) (pv 1) pe_int (fun _ _ => rfl)) (pe_op (op_addU rfl) (pv 2) pe_int) (by first | exact nomark _ | rfl)) (pe_one (pe_and (pe_cmpR (op_ltU rfl hr.units0) (pv 2) pe_int (by first | exact nomark _ | rfl)) (pe_one (pe_chain op_le op_le (pe_op op_fdiv (pe_op op_mulU (pv 2) (pe_op op_sub (pv 2) pe_int)) pe_int) (pe_ix (ix_U (K := K) rfl) (pv 1) pe_int (fun _ _ => rfl)) (pv 2)))))))
    (pss_cons (ps_if (pt_cmpR op_isN (pv 3) pe_non (by first | exact nomark _ | rfl))
    (pss_one (ps_ret (pv 4)))
    pss_nil)
    (pss_cons (ps_if (PW.pt (pw_or (pt_tru rfl (pv 4) (by intro _; rfl)) (pw_or (pt_not (pt_tru rfl (pe_call G_law_is_word (hr.mono (by decide)) rfl T.g__law_is_word k_law_is_word b_law_is_word .nil pass0 (pa_cons (pv 3) (pa_cons (pe_op op_sub (pv 2) pe_int) pa_nil))) (by intro _; rfl))) (pw_or1 (pt_not (pt_tru rfl (pe_call G_law_is_unread (hr.mono (by decide)) rfl T.g__law_is_unread k_law_is_unread b_law_is_unread .nil pass0 (pa_cons (pv 1) (pa_cons (pv 3) pa_nil))) (by intro _; rfl)))))))
    (pss_one (ps_ret pe_bl))
    pss_nil)
    (pss_one (ps_ret (pe_cmpR op_isN (pe_call G_read_lost (hr.mono (by decide)) rfl T.g_read_lost k_read_lost b_read_lost .nil passL (pa_cons (pv 0) (pa_cons (pv 3) pa_nil))) pe_non (by first | exact nomark _ | rfl))))))))), ?_⟩
    exact body_of0 rfl h fun X hd => (dst_seq (dst_asg (dg_op od_ix (db_var 1) (DEg.bor (de_int 0))) (dg_name 2))
    (dst_of S_law_unread_right_r2_eq
    (dst_seq (dst_asg (de_call0 dv_nil (ds_cons (de_var 0) ds_nil)) (dg_name 3))
    (dst_of S_law_unread_right_r3_eq
    (dst_seq (dst_asg (de_orV (dg_op od_eq (DEg.bor (dg_op od_ix (db_var 1) (DEg.bor (de_int 1)))) (DEg.bor (dg_op od_add (db_var 2) (DEg.bor (de_int 1))))) (de_andV (dg_op od_lt (db_var 2) (DEg.bor (de_int 4))) (de_chain od_le od_le (DEg.bor (dg_op od_fdiv (DEg.bor (dg_op od_mul (db_var 2) (DEg.bor (dg_op od_sub (db_var 2) (DEg.bor (de_int 1)))))) (DEg.bor (de_int 2)))) (DEg.bor (dg_op od_ix (db_var 1) (DEg.bor (de_int 2)))) (db_var 2)))) (dg_name 4))
    (dst_of S_law_unread_right_r4_eq
    (dst_seq (dst_if (dt_test (dg_op od_isN (db_var 3) (DEg.bor de_non)))
    (dst_ret (de_var 4))
    dst_next)
    (dst_of S_law_unread_right_r6_eq
    (dst_seq (dst_if (dt_or (dt_tru (db_var 4)) (dt_or (dt_not (dt_tru (DEg.bor (de_call0 dv_nil (ds_cons (de_var 3) (ds_cons (dg_op od_sub (db_var 2) (DEg.bor (de_int 1))) ds_nil)))))) (dt_not (dt_tru (DEg.bor (de_call0 dv_nil (ds_cons (de_var 1) (ds_cons (de_var 3) ds_nil))))))))
    (dst_ret (de_bl false))
    dst_next)
    (dst_of S_law_unread_right_r8_eq
    (dst_ret (dg_op od_isN (DEg.bor (de_call0 dv_nil (ds_cons (de_var 0) (ds_cons (de_var 3) ds_nil)))) (DEg.bor de_non)))))))))))))
end Mine

namespace Mine
open PySem PySem.Spec PyProof.Rows L2
theorem ok_law_more_one {P : Program} {w : World} {K : PySem.W.Frag} {mg : Str → Option Value} {base : Heap} (T : Txt K mg) : ∃ fd, FnOk P w K mg base CX0 1 (He.ga K "_law_more_one") fd P_law_more_one (spD K F_law_more_one) ∧ D_law_more_one K (He.ga K "_law_more_one") fd := by
  obtain ⟨fd, F⟩ := T.F_law_more_one
  refine ⟨fd, F.ok sc_law_more_one (fun vs H Q E h => ?_) (fun cdv A outer s H vs Q E hr h => ?_), F⟩
  · rw [F_law_more_one_eq] at h
    exact spD_len (np := 2) (fun _ _ _ h => h.1) vs H Q E h
  · rw [F_law_more_one_eq] at h
    refine ⟨_, PSs.nox (pss_cons (ps_set (i := 2) sc_law_more_one.nd rfl (by first | exact Or.inl rfl | exact Or.inr rfl) (pe_lst pa_nil))
    (pss_cons (ps_for PassesOwn.never rfl (pi_range1 (by rfl) T.z_range (pa_cons (pe_op (op_addU rfl) (pe_callB (call_lenU (K := K) rfl) (by rfl) T.z_len (by decide +kernel) (pa_cons (pv 1) pa_nil)) pe_int) pa_nil)) (pg_name (i := 3) sc_law_more_one.nd rfl (by first | exact Or.inl rfl | exact Or.inr rfl))
    (pss_one (ps_set (i := 2) sc_law_more_one.nd rfl (by first | exact Or.inl rfl | exact Or.inr rfl) (pe_op (op_addU rfl) (pv 2) (pe_lc (own := [("_law_letter", 4)]) rfl sc_law_more_one.nd (pi_range1 (by rfl) T.z_range (pa_cons (pv 0) pa_nil)) (blkOk_by (own := [("_law_letter", 4)]) (N := N_law_more_one) (sc := defScope s_law_more_one) (by decide +kernel)) (fun _ _ _ _ _ => (pg_name (i := 4) sc_law_more_one.nd rfl (by first | exact Or.inl rfl | exact Or.inr rfl))) (fun _ _ _ _ _ => pts_nil) (fun _ _ _ _ _ => (pe_op (op_addU rfl) (pe_op (op_addU rfl) (pe_slice (sl_U rfl) (pv 1) po_none (po_some (pv 3))) (pe_tup (pa_cons (pv 4) pa_nil))) (pe_slice (sl_U rfl) (pv 1) (po_some (pv 3)) po_none))))))))
    (pss_one (ps_ret (pe_callB (cr_sortedA rfl) (by rfl) T.z_sorted (by decide +kernel) (pa_cons (pe_callTy (cr_setOfT rfl hr.units) (by rfl) T.z_set (by decide +kernel) (pa_cons (pv 2) pa_nil)) pa_nil)))))), ?_⟩
    exact body_of0 rfl h fun X hd => (dst_seq (dst_asg (DEg.cln (df_lst da_nil)) (dg_name 2))
    (dst_seq (dst_for (di_rng1 (db_cons (DEg.bor (dg_op od_add (DEg.bor (dg_cb cg_len (db_cons (db_var 1) db_nil))) (DEg.bor (de_int 1)))) db_nil)) (dg_name 3)
    (dst_asg (dg_op od_add (db_var 2) (DEg.bor (DEg.cln (df_lc (di_rng1 (db_cons (db_var 0) db_nil)) (dg_name 4) dt_yes (dg_op od_add (DEg.bor (dg_op od_add (DEg.bor (dg_sl sg_U (db_var 1) do_none (do_some (de_var 3)))) (DEg.bor (de_tup (da_cons (de_var 4) da_nil))))) (DEg.bor (dg_sl sg_U (db_var 1) (do_some (de_var 3)) do_none))))))) (dg_name 2)))
    (dst_ret (DEg.cln (df_sortedSet (db_var 2))))))
end Mine

namespace Mine
open PySem PySem.Spec PyProof.Rows L2
theorem ok_law_small_unread {P : Program} {w : World} {K : PySem.W.Frag} {mg : Str → Option Value} {base : Heap} (T : Txt K mg) : ∃ fd, FnOk P w K mg base CX0 2 (He.ga K "_law_small_unread") fd P_law_small_unread (spD K F_law_small_unread) ∧ D_law_small_unread K (He.ga K "_law_small_unread") fd := by
  obtain ⟨fd, F⟩ := T.F_law_small_unread
  obtain ⟨fd_law_all_words, G_law_all_words, D_law_all_words⟩ := ok_law_all_words (P := P) (w := w) (base := base) T
  have k_law_all_words := D_law_all_words.kp
  have b_law_all_words := bd_law_all_words D_law_all_words
  obtain ⟨fd_law_sum, G_law_sum, D_law_sum⟩ := ok_law_sum (P := P) (w := w) (base := base) T
  have k_law_sum := D_law_sum.kp
  have b_law_sum := bd_law_sum D_law_sum
  obtain ⟨fd_law_more_one, G_law_more_one, D_law_more_one⟩ := ok_law_more_one (P := P) (w := w) (base := base) T
  have k_law_more_one := D_law_more_one.kp
  have b_law_more_one := bd_law_more_one D_law_more_one
  refine ⟨fd, F.ok sc_law_small_unread (fun vs H Q E h => ?_) (fun cdv A outer s H vs Q E hr h => ?_), F⟩
  · rw [F_law_small_unread_eq] at h
    exact spD_len (np := 1) (fun _ _ _ h => h.1) vs H Q E h
  · rw [F_law_small_unread_eq] at h
    refine ⟨_, PSs.nox (pss_cons (ps_set (i := 1) sc_law_small_unread.nd rfl (by first | exact Or.inl rfl | exact Or.inr rfl) (pe_ix (ix_U (K := K) rfl) (pv 0) pe_int (fun _ _ => rfl)))
    (pss_cons (ps_set (i := 2) sc_law_small_unread.nd rfl (by first | exact Or.inl rfl | exact Or.inr rfl) pe_dnewT)
    (pss_cons (ps_for PassesOwn.never rfl (pi_seq (pe_call G_law_all_words (hr.mono (by decide)) rfl T.g__law_all_words k_law_all_words b_law_all_words .nil pass0 (pa_cons pe_int (pa_cons (pv 1) pa_nil)))) (pg_name (i := 3) sc_law_small_unread.nd rfl (by first | exact Or.inl rfl | exact Or.inr rfl))
    (pss_one (ps_if (pt_cmpR (op_eqU rfl hr.units) (pe_op op_mod (pe_callTy call_intU (by rfl) T.z_int (by decide +kernel) (pa_cons (pe_op op_sub (pe_call G_law_sum (hr.mono (by decide)) rfl T.g__law_sum k_law_sum b_law_sum .nil pass0 (pa_cons (pv 3) pa_nil)) (pe_ix (ix_U (K := K) rfl) (pv 0) pe_int (fun _ _ => rfl))) pa_nil)) (pe_ix (ix_U (K := K) rfl) (pv 0) pe_int (fun _ _ => rfl))) pe_int (by first | exact nomark _ | rfl))
    (pss_one (ps_dput (units1 hr) (pv 2) (pv 3) pe_bl (by rfl)))
    pss_nil)))
    (pss_cons (ps_for PassesOwn.never rfl (pi_seq (pe_call G_law_all_words (hr.mono (by decide)) rfl T.g__law_all_words k_law_all_words b_law_all_words .nil pass0 (pa_cons pe_int (pa_cons (pe_op op_sub (pv 1) pe_int) pa_nil)))) (pg_name (i := 4) sc_law_small_unread.nd rfl (by first | exact Or.inl rfl | exact Or.inr rfl))
    (pss_one (ps_if (pt_tru rfl (pe_callB (call_allU (K := K) rfl rfl) (by rfl) T.z_all (by decide +kernel) (pa_cons (pe_lc (own := [("_law_word", 3)]) rfl sc_law_small_unread.nd (pi_seq (pe_call G_law_more_one (hr.mono (by decide)) rfl T.g__law_more_one k_law_more_one b_law_more_one .nil pass0 (pa_cons pe_int (pa_cons (pv 4) pa_nil)))) (blkOk_by (own := [("_law_word", 3)]) (N := N_law_small_unread) (sc := defScope s_law_small_unread) (by decide +kernel)) (fun _ _ _ _ _ => (pg_name (i := 3) sc_law_small_unread.nd rfl (by first | exact Or.inl rfl | exact Or.inr rfl))) (fun _ _ _ _ _ => pts_nil) (fun _ _ _ _ _ => (pe_cmp (pc_dnotin (units1 hr) (pv 3) (pv 2)) (by first | exact nomark _ | rfl)))) pa_nil)) (by intro _; rfl))
    (pss_one (ps_ret pe_bl))
    pss_nil)))
    (pss_one (ps_ret pe_bl)))))), ?_⟩
    exact body_of0 rfl h fun X hd => (dst_seq (dst_asg (dg_op od_ix (db_var 0) (DEg.bor (de_int 0))) (dg_name 1))
    (dst_of S_law_small_unread_r2_eq
    (dst_seq dst_ownT
    (dst_of S_law_small_unread_r3_eq
    (dst_seq (dst_for (di_seq (R := Cln) (de_call0 dv_nil (ds_cons (de_int 2) (ds_cons (de_var 1) ds_nil)))) (dg_name 3)
    (dst_of S_law_small_unread_b4_eq
    (dst_if (dt_test (dg_op od_eq (DEg.bor (dg_op od_mod (DEg.bor (dg_cb cg_int (db_cons (DEg.bor (dg_op od_sub (DEg.bor (de_call0 dv_nil (ds_cons (de_var 3) ds_nil))) (DEg.bor (dg_op od_ix (db_var 0) (DEg.bor (de_int 2)))))) db_nil))) (DEg.bor (dg_op od_ix (db_var 0) (DEg.bor (de_int 1)))))) (DEg.bor (de_int 0))))
    (dst_putD (de_bl true) (de_var 3))
    dst_next)))
    (dst_of S_law_small_unread_r6_eq
    (dst_seq (dst_for (di_seq (R := Cln) (de_call0 dv_nil (ds_cons (de_int 2) (ds_cons (dg_op od_sub (db_var 1) (DEg.bor (de_int 1))) ds_nil)))) (dg_name 4)
    (dst_of S_law_small_unread_b7_eq
    (dst_if (dt_tru (DEg.bor (dg_cb cg_all (db_cons (DEg.bor (DEg.cln (df_lc (di_seq (R := Bor) (DEg.bor (de_call0 dv_nil (ds_cons (de_int 2) (ds_cons (de_var 4) ds_nil))))) (dg_name 3) dt_yes (de_notInD (de_var 3) (dd_var 2))))) db_nil))))
    (dst_ret (de_bl true))
    dst_next)))
    (dst_of S_law_small_unread_r9_eq
    (dst_ret (de_bl false))))))))))
end Mine

namespace Mine
open PySem PySem.Spec PyProof.Rows L2
theorem ok_law_refused {P : Program} {w : World} {K : PySem.W.Frag} {mg : Str → Option Value} {base : Heap} (T : Txt K mg) : ∃ fd, FnOk P w K mg base CX0 6 (He.ga K "_law_refused") fd P_law_refused (spD K F_law_refused) ∧ D_law_refused K (He.ga K "_law_refused") fd := by
  obtain ⟨fd, F⟩ := T.F_law_refused
  obtain ⟨fd_modulus_clash, G_modulus_clash, D_modulus_clash⟩ := ok_modulus_clash (P := P) (w := w) (base := base) T
  have k_modulus_clash := D_modulus_clash.kp
  have b_modulus_clash := bd_modulus_clash D_modulus_clash
  refine ⟨fd, F.ok sc_law_refused (fun vs H Q E h => ?_) (fun cdv A outer s H vs Q E hr h => ?_), F⟩
  · rw [F_law_refused_eq] at h
    exact spD_len (np := 3) (fun _ _ _ h => h.1) vs H Q E h
  · rw [F_law_refused_eq] at h
    refine ⟨_, PSs.nox (pss_cons (ps_try_named rfl rfl sc_law_refused.nd takes0 (fun W pn xe tk0 po => (pss_one (ps_expr (pe_callS G_modulus_clash (hr.mono (by decide)) rfl T.g_modulus_clash k_modulus_clash b_modulus_clash (fun σ => passAt tk0 σ) (pa_cons (pv 0) (pa_cons (pv 1) (pa_cons (pv 2) pa_nil))))))) (HdsN.bare ⟨rfl, by decide, .inl T.g_BadNumber⟩ (fun a oe cls d pn hz hf => (pss_one (ps_ret pe_str))) (HdsN.bare ⟨rfl, by decide, .inl T.g_BadModulus⟩ (fun a oe cls d pn hz hf => (pss_one (ps_ret pe_str))) (HdsN.bare ⟨rfl, by decide, .inl T.g_BadRest⟩ (fun a oe cls d pn hz hf => (pss_one (ps_ret pe_str))) HdsN.nil))))
    (pss_one (ps_ret pe_non))), ?_⟩
    exact body_of0 rfl h fun X hd => (dst_seq (dst_try rfl rfl (mt_ok T) (fun W => (dst_drop (de_callS rfl (ds_cons (de_var 0) (ds_cons (de_var 1) (ds_cons (de_var 2) ds_nil)))))) (HsOk.cons (fun a cls d => (dst_ret (de_str "number"))) (HsOk.cons (fun a cls d => (dst_ret (de_str "modulus"))) (HsOk.cons (fun a cls d => (dst_ret (de_str "rest"))) HsOk.nil))))
    (dst_ret de_non))
end Mine

namespace Mine
open PySem PySem.Spec PyProof.Rows L2
theorem ok_law_odd {P : Program} {w : World} {K : PySem.W.Frag} {mg : Str → Option Value} {base : Heap} (T : Txt K mg) : ∃ fd, FnOk P w K mg base CX0 3 (He.ga K "_law_odd") fd P_law_odd (spD K F_law_odd) ∧ D_law_odd K (He.ga K "_law_odd") fd := by
  obtain ⟨fd, F⟩ := T.F_law_odd
  obtain ⟨fd_law_take, G_law_take, D_law_take⟩ := ok_law_take (P := P) (w := w) (base := base) T
  have k_law_take := D_law_take.kp
  have b_law_take := bd_law_take D_law_take
  refine ⟨fd, F.ok sc_law_odd (fun vs H Q E h => ?_) (fun cdv A outer s H vs Q E hr h => ?_), F⟩
  · rw [F_law_odd_eq] at h
    exact spD_len (np := 2) (fun _ _ _ h => h.1) vs H Q E h
  · rw [F_law_odd_eq] at h
    refine ⟨_, PSs.nox (pss_one (ps_ret (pe_ix (ix_U (K := K) rfl) (pe_lst (pa_cons (pe_un un_neg pe_int) (pa_cons (pe_op (op_addU rfl) (pv 1) pe_int) (pa_cons pe_bl (pa_cons pe_non (pa_cons pe_str (pa_cons (pe_tup (pa_cons pe_int pa_nil)) (pa_cons (pe_op op_sub (pe_un un_neg pe_int) (pe_call G_law_take (hr.mono (by decide)) rfl T.g__law_take k_law_take b_law_take .nil pass0 (pa_cons (pv 0) (pa_cons (pe_op op_pow pe_int pe_int) pa_nil)))) (pa_cons (pe_op (op_addU rfl) (pe_op (op_addU rfl) (pv 1) pe_int) (pe_call G_law_take (hr.mono (by decide)) rfl T.g__law_take k_law_take b_law_take .nil pass0 (pa_cons (pv 0) (pa_cons (pe_op op_pow pe_int pe_int) pa_nil)))) pa_nil))))))))) (pe_call G_law_take (hr.mono (by decide)) rfl T.g__law_take k_law_take b_law_take .nil pass0 (pa_cons (pv 0) (pa_cons pe_int pa_nil))) (fun _ _ => rfl)))), ?_⟩
    exact body_of0 rfl h fun X hd => (dst_ret (dg_op od_ix (DEg.bor (DEg.cln (df_lst (da_cons (de_un ud_neg (DEg.bor (de_int 1))) (da_cons (dg_op od_add (db_var 1) (DEg.bor (de_int 1))) (da_cons (de_bl true) (da_cons de_non (da_cons (de_str "1") (da_cons (de_tup (da_cons (de_int 0) da_nil)) (da_cons (dg_op od_sub (DEg.bor (de_un ud_neg (DEg.bor (de_int 1)))) (DEg.bor (de_call0 dv_nil (ds_hand (i := 0) (ds_cons (de_powC (a := 10) (b := 6) (c := 1000000) (cpow_of (by decide +kernel)) (by decide +kernel)) ds_nil))))) (da_cons (dg_op od_add (DEg.bor (dg_op od_add (db_var 1) (DEg.bor (de_int 1)))) (DEg.bor (de_call0 dv_nil (ds_hand (i := 0) (ds_cons (de_powC (a := 10) (b := 6) (c := 1000000) (cpow_of (by decide +kernel)) (by decide +kernel)) ds_nil))))) da_nil))))))))))) (DEg.bor (de_call0 dv_nil (ds_hand (i := 0) (ds_cons (de_int 8) ds_nil))))))
end Mine

namespace Mine
open PySem PySem.Spec PyProof.Rows L2
theorem ok_law_refusals {P : Program} {w : World} {K : PySem.W.Frag} {mg : Str → Option Value} {base : Heap} (T : Txt K mg) : ∃ fd, FnOk P w K mg base CX0 7 (He.ga K "_law_refusals") fd P_law_refusals (spD K F_law_refusals) ∧ D_law_refusals K (He.ga K "_law_refusals") fd := by
  obtain ⟨fd, F⟩ := T.F_law_refusals
  obtain ⟨fd_law_take, G_law_take, D_law_take⟩ := ok_law_take (P := P) (w := w) (base := base) T
  have k_law_take := D_law_take.kp
  have b_law_take := bd_law_take D_law_take
  obtain ⟨fd_law_refused, G_law_refused, D_law_refused⟩ := ok_law_refused (P := P) (w := w) (base := base) T
  have k_law_refused := D_law_refused.kp
  have b_law_refused := bd_law_refused D_law_refused
  obtain ⟨fd_law_odd, G_law_odd, D_law_odd⟩ := ok_law_odd (P := P) (w := w) (base := base) T
  have k_law_odd := D_law_odd.kp
  have b_law_odd := bd_law_odd D_law_odd
  obtain ⟨fd_unread_word, G_unread_word, D_unread_word⟩ := ok_unread_word (P := P) (w := w) (base := base) T
  have k_unread_word := D_unread_word.kp
  have b_unread_word := bd_unread_word D_unread_word
  obtain ⟨fd_SumBook___init, G_SumBook___init, D_SumBook___init⟩ := ok_SumBook___init (P := P) (w := w) (base := base) T
  have k_SumBook___init := D_SumBook___init.kp
  have b_SumBook___init := bd_SumBook___init D_SumBook___init
  refine ⟨fd, F.ok sc_law_refusals (fun vs H Q E h => ?_) (fun cdv A outer s H vs Q E hr h => ?_), F⟩
  · rw [F_law_refusals_eq] at h
    exact spD_len (np := 2) (fun _ _ _ h => h.1) vs H Q E h
  · rw [F_law_refusals_eq] at h
    refine ⟨_, PSs.nox (pss_cons (ps_set (i := 2) sc_law_refusals.nd rfl (by first | exact Or.inl rfl | exact Or.inr rfl) (pe_op (op_addU rfl) pe_int (pe_call G_law_take (hr.mono (by decide)) rfl T.g__law_take k_law_take b_law_take .nil pass0 (pa_cons (pv 0) (pa_cons pe_int pa_nil)))))
    (pss_cons (ps_set (i := 3) sc_law_refusals.nd rfl (by first | exact Or.inl rfl | exact Or.inr rfl) (pe_ix (ix_U (K := K) rfl) (pe_lst (pa_cons pe_int (pa_cons pe_bl (pa_cons (pe_un un_neg (pe_call G_law_take (hr.mono (by decide)) rfl T.g__law_take k_law_take b_law_take .nil pass0 (pa_cons (pv 0) (pa_cons (pe_op op_pow pe_int pe_int) pa_nil)))) (pa_cons (pe_op (op_addU rfl) (pe_op op_pow pe_int pe_int) pe_int) (pa_cons pe_non pa_nil)))))) (pe_call G_law_take (hr.mono (by decide)) rfl T.g__law_take k_law_take b_law_take .nil pass0 (pa_cons (pv 0) (pa_cons pe_int pa_nil))) (fun _ _ => rfl)))
    (pss_cons (ps_set (i := 4) sc_law_refusals.nd rfl (by first | exact Or.inl rfl | exact Or.inr rfl) (pe_call G_law_take (hr.mono (by decide)) rfl T.g__law_take k_law_take b_law_take .nil pass0 (pa_cons (pv 0) (pa_cons pe_int pa_nil))))
    (pss_cons (ps_if (pt_cmpR (op_neU rfl hr.units) (pe_call G_law_refused (hr.mono (by decide)) rfl T.g__law_refused k_law_refused b_law_refused .nil pass0 (pa_cons (pe_call G_law_odd (hr.mono (by decide)) rfl T.g__law_odd k_law_odd b_law_odd .nil pass0 (pa_cons (pv 0) (pa_cons pe_int pa_nil))) (pa_cons (pe_ix (ix_U (K := K) rfl) (pe_lst (pa_cons (pv 2) (pa_cons (pv 3) pa_nil))) (pv 4) (fun _ _ => rfl)) (pa_cons (pe_ix (ix_U (K := K) rfl) (pe_lst (pa_cons pe_int (pa_cons (pe_un un_neg pe_int) pa_nil))) (pe_call G_law_take (hr.mono (by decide)) rfl T.g__law_take k_law_take b_law_take .nil pass0 (pa_cons (pv 0) (pa_cons pe_int pa_nil))) (fun _ _ => rfl)) pa_nil)))) pe_str (by first | exact nomark _ | rfl))
    (pss_one (ps_ret pe_bl))
    pss_nil)
    (pss_cons (ps_if (PW.pt (pw_or (pt_cmpR (op_neU rfl hr.units) (pe_call G_law_refused (hr.mono (by decide)) rfl T.g__law_refused k_law_refused b_law_refused .nil pass0 (pa_cons (pv 1) (pa_cons (pv 3) (pa_cons (pe_ix (ix_U (K := K) rfl) (pe_lst (pa_cons pe_int (pa_cons pe_non pa_nil))) (pv 4) (fun _ _ => rfl)) pa_nil)))) pe_str (by first | exact nomark _ | rfl)) (pw_or1 (pt_cmpR (op_neU rfl hr.units) (pe_call G_law_refused (hr.mono (by decide)) rfl T.g__law_refused k_law_refused b_law_refused .nil pass0 (pa_cons (pv 1) (pa_cons (pv 2) (pa_cons (pe_call G_law_odd (hr.mono (by decide)) rfl T.g__law_odd k_law_odd b_law_odd .nil pass0 (pa_cons (pv 0) (pa_cons (pe_op op_sub (pv 2) pe_int) pa_nil))) pa_nil)))) pe_str (by first | exact nomark _ | rfl)))))
    (pss_one (ps_ret pe_bl))
    pss_nil)
    (pss_cons (ps_try_named rfl rfl sc_law_refusals.nd takes0 (fun W pn xe tk0 po => (pss_one (ps_expr (pe_callS G_unread_word (hr.mono (by decide)) rfl T.g_unread_word k_unread_word b_unread_word (fun σ => passAt tk0 σ) (pa_cons (pe_makeS T.r_SumBook G_SumBook___init (hr.mono (by decide)) rfl T.g_SumBook b_SumBook___init .nil (fun σ => passAt tk0 σ) (pa_cons pe_int (pa_cons (pe_op (op_addU rfl) pe_int (pe_call G_law_take (hr.mono (by decide)) rfl T.g__law_take k_law_take b_law_take .nil pass0 (pa_cons (pv 0) (pa_cons pe_int pa_nil)))) (pa_cons pe_int pa_nil)))) pa_nil))))) (HdsN.bare ⟨rfl, by decide, .inl T.g_BadNumber⟩ (fun a oe cls d pn hz hf => (pss_one (ps_ret pe_bl))) HdsN.nil))
    (pss_one (ps_ret pe_bl)))))))), ?_⟩
    exact body_of0 rfl h fun X hd => (dst_seq (dst_asg (dg_op od_add (DEg.bor (de_int 1)) (DEg.bor (de_call0 dv_nil (ds_hand (i := 0) (ds_cons (de_int 300) ds_nil))))) (dg_name 2))
    (dst_of S_law_refusals_r2_eq
    (dst_seq (dst_asg (dg_op od_ix (DEg.bor (DEg.cln (df_lst (da_cons (de_int 0) (da_cons (de_bl true) (da_cons (de_un ud_neg (DEg.bor (de_call0 dv_nil (ds_hand (i := 0) (ds_cons (de_powC (a := 10) (b := 6) (c := 1000000) (cpow_of (by decide +kernel)) (by decide +kernel)) ds_nil))))) (da_cons (dg_op od_add (DEg.bor (de_powC (a := 10) (b := 6) (c := 1000000) (cpow_of (by decide +kernel)) (by decide +kernel))) (DEg.bor (de_int 1))) (da_cons de_non da_nil)))))))) (DEg.bor (de_call0 dv_nil (ds_hand (i := 0) (ds_cons (de_int 5) ds_nil))))) (dg_name 3))
    (dst_of S_law_refusals_r3_eq
    (dst_seq (dst_asg (de_call0 dv_nil (ds_hand (i := 0) (ds_cons (de_int 2) ds_nil))) (dg_name 4))
    (dst_of S_law_refusals_r4_eq
    (dst_seq (dst_if (dt_test (dg_op od_ne (DEg.bor (de_call0 dv_nil (ds_cons (de_call0 dv_nil (ds_hand (i := 0) (ds_cons (de_int 200) ds_nil))) (ds_cons (dg_op od_ix (DEg.bor (DEg.cln (df_lst (da_cons (de_var 2) (da_cons (de_var 3) da_nil))))) (db_var 4)) (ds_cons (dg_op od_ix (DEg.bor (DEg.cln (df_lst (da_cons (de_int 0) (da_cons (de_un ud_neg (DEg.bor (de_int 1))) da_nil))))) (DEg.bor (de_call0 dv_nil (ds_hand (i := 0) (ds_cons (de_int 2) ds_nil))))) ds_nil))))) (DEg.bor (de_str "number"))))
    (dst_ret (de_bl false))
    dst_next)
    (dst_of S_law_refusals_r6_eq
    (dst_seq (dst_if (dt_or (dt_test (dg_op od_ne (DEg.bor (de_call0 dv_nil (ds_cons (de_var 1) (ds_cons (de_var 3) (ds_cons (dg_op od_ix (DEg.bor (DEg.cln (df_lst (da_cons (de_int 0) (da_cons de_non da_nil))))) (db_var 4)) ds_nil))))) (DEg.bor (de_str "modulus")))) (dt_test (dg_op od_ne (DEg.bor (de_call0 dv_nil (ds_cons (de_var 1) (ds_cons (de_var 2) (ds_cons (de_call0 dv_nil (ds_hand (i := 0) (ds_cons (dg_op od_sub (db_var 2) (DEg.bor (de_int 1))) ds_nil))) ds_nil))))) (DEg.bor (de_str "rest")))))
    (dst_ret (de_bl false))
    dst_next)
    (dst_of S_law_refusals_r8_eq
    (dst_seq (dst_try rfl rfl (mt_ok T) (fun W => (dst_drop (de_callS rfl (ds_cons (de_makeS rfl dv_nil (ds_cons (de_int 0) (ds_cons (dg_op od_add (DEg.bor (de_int 1)) (DEg.bor (de_call0 dv_nil (ds_hand (i := 0) (ds_cons (de_int 5) ds_nil))))) (ds_cons (de_int 0) ds_nil)))) ds_nil)))) (HsOk.cons (fun a cls d => (dst_ret (de_bl true))) HsOk.nil))
    (dst_of S_law_refusals_r12_eq
    (dst_ret (de_bl false))))))))))))))
end Mine

namespace Mine
open PySem PySem.Spec PyProof.Rows L2
theorem ok_law {P : Program} {w : World} {K : PySem.W.Frag} {mg : Str → Option Value} {base : Heap} (T : Txt K mg) (g : Goal) : ∃ fd, FnOk P w K mg base CX0 8 (He.ga K "law") fd P_law (sp_law K) ∧ D_law K (He.ga K "law") fd := by
  obtain ⟨fd, F⟩ := T.F_law
  obtain ⟨fd_law_hand, G_law_hand, D_law_hand⟩ := ok_law_hand (P := P) (w := w) (base := base) T
  have k_law_hand := D_law_hand.kp
  have b_law_hand := bd_law_hand D_law_hand
  obtain ⟨fd_law_take, G_law_take, D_law_take⟩ := ok_law_take (P := P) (w := w) (base := base) T
  have k_law_take := D_law_take.kp
  have b_law_take := bd_law_take D_law_take
  obtain ⟨fd_law_modulus_right, G_law_modulus_right, D_law_modulus_right⟩ := ok_law_modulus_right (P := P) (w := w) (base := base) T
  have k_law_modulus_right := D_law_modulus_right.kp
  have b_law_modulus_right := bd_law_modulus_right D_law_modulus_right
  obtain ⟨fd_law_has_clash, G_law_has_clash, D_law_has_clash⟩ := ok_law_has_clash (P := P) (w := w) (base := base) T
  have k_law_has_clash := D_law_has_clash.kp
  have b_law_has_clash := bd_law_has_clash D_law_has_clash
  obtain ⟨fd_law_book_of, G_law_book_of, D_law_book_of⟩ := ok_law_book_of (P := P) (w := w) (base := base) T
  have k_law_book_of := D_law_book_of.kp
  have b_law_book_of := bd_law_book_of D_law_book_of
  obtain ⟨fd_SumBook___init, G_SumBook___init, D_SumBook___init⟩ := ok_SumBook___init (P := P) (w := w) (base := base) T
  have k_SumBook___init := D_SumBook___init.kp
  have b_SumBook___init := bd_SumBook___init D_SumBook___init
  obtain ⟨fd_law_unread_right, G_law_unread_right, D_law_unread_right⟩ := ok_law_unread_right (P := P) (w := w) (base := base) T
  have k_law_unread_right := D_law_unread_right.kp
  have b_law_unread_right := bd_law_unread_right D_law_unread_right
  obtain ⟨fd_law_small_unread, G_law_small_unread, D_law_small_unread⟩ := ok_law_small_unread (P := P) (w := w) (base := base) T
  have k_law_small_unread := D_law_small_unread.kp
  have b_law_small_unread := bd_law_small_unread D_law_small_unread
  obtain ⟨fd_unread_word, G_unread_word, D_unread_word⟩ := ok_unread_word (P := P) (w := w) (base := base) T
  have k_unread_word := D_unread_word.kp
  have b_unread_word := bd_unread_word D_unread_word
  obtain ⟨fd_law_refusals, G_law_refusals, D_law_refusals⟩ := ok_law_refusals (P := P) (w := w) (base := base) T
  have k_law_refusals := D_law_refusals.kp
  have b_law_refusals := bd_law_refusals D_law_refusals
  refine ⟨fd, F.ok sc_law (fun vs H Q E h => ?_) (fun cdv A outer s H vs Q E hr h => ?_), F⟩
  · obtain ⟨a, ns, rfl, _⟩ := h
    rfl
  · refine ⟨_, PSs.nox (pss_cons (ps_set (i := 1) sc_law.nd rfl (by first | exact Or.inl rfl | exact Or.inr rfl) (pe_call G_law_hand (hr.mono (by decide)) rfl T.g__law_hand k_law_hand b_law_hand .nil pass0 (pa_cons (pv 0) pa_nil)))
    (pss_cons (ps_set (i := 2) sc_law.nd rfl (by first | exact Or.inl rfl | exact Or.inr rfl) (pe_call G_law_take (hr.mono (by decide)) rfl T.g__law_take k_law_take b_law_take .nil pass0 (pa_cons (pv 1) (pa_cons pe_int pa_nil))))
    (pss_cons (ps_for PassesOwn.never rfl (pi_range2 (by rfl) T.z_range (pa_cons pe_int (pa_cons (pe_op (op_addU rfl) (pv 2) pe_int) pa_nil))) (pg_name (i := 3) sc_law.nd rfl (by first | exact Or.inl rfl | exact Or.inr rfl))
    (pss_cons (ps_set (i := 4) sc_law.nd rfl (by first | exact Or.inl rfl | exact Or.inr rfl) (pe_call G_law_take (hr.mono (by decide)) rfl T.g__law_take k_law_take b_law_take .nil pass0 (pa_cons (pv 1) (pa_cons (pv 3) pa_nil))))
    (pss_one (ps_if (PW.pt (pw_or (pt_cmpR (op_neU rfl hr.units) (pe_call G_law_has_clash (hr.mono (by decide)) rfl T.g__law_has_clash k_law_has_clash b_law_has_clash .nil pass0 (pa_cons (pv 2) (pa_cons (pv 3) (pa_cons (pv 4) pa_nil)))) (pe_cmpR op_le (pv 3) (pv 2) (by first | exact nomark _ | rfl)) (by first | exact nomark _ | rfl)) (pw_or1 (pt_not (pt_tru rfl (pe_call G_law_modulus_right (hr.mono (by decide)) rfl T.g__law_modulus_right k_law_modulus_right b_law_modulus_right .nil pass0 (pa_cons (pv 2) (pa_cons (pv 3) (pa_cons (pv 4) pa_nil)))) (by intro _; rfl))))))
    (pss_one (ps_ret pe_bl))
    pss_nil))))
    (pss_cons (ps_for PassesOwn.never rfl (pi_range1 (by rfl) T.z_range (pa_cons pe_int pa_nil)) (pg_name (i := 5) sc_law.nd rfl (by first | exact Or.inl rfl | exact Or.inr rfl))
    (pss_cons (ps_set (i := 2) sc_law.nd rfl (by first | exact Or.inl rfl | exact Or.inr rfl) (pe_call G_law_take (hr.mono (by decide)) rfl T.g__law_take k_law_take b_law_take .nil pass0 (pa_cons (pv 1) (pa_cons (pe_ix (ix_U (K := K) rfl) (pe_lst (pa_cons pe_int (pa_cons pe_int pa_nil))) (pe_op op_fdiv (pv 5) pe_int) (fun _ _ => rfl)) pa_nil))))
    (pss_cons (ps_set (i := 3) sc_law.nd rfl (by first | exact Or.inl rfl | exact Or.inr rfl) (pe_ix (ix_U (K := K) rfl) (pe_lst (pa_cons (pe_op (op_addU rfl) pe_int (pe_call G_law_take (hr.mono (by decide)) rfl T.g__law_take k_law_take b_law_take .nil pass0 (pa_cons (pv 1) (pa_cons (pe_op (op_addU rfl) (pv 2) pe_int) pa_nil)))) (pa_cons (pe_callB (call_max2U rfl) (by rfl) T.z_max (by decide +kernel) (pa_cons pe_int (pa_cons (pv 2) pa_nil))) (pa_cons (pe_op (op_addU rfl) (pv 2) pe_int) (pa_cons (pe_op (op_addU rfl) pe_int (pe_call G_law_take (hr.mono (by decide)) rfl T.g__law_take k_law_take b_law_take .nil pass0 (pa_cons (pv 1) (pa_cons (pe_op op_pow pe_int pe_int) pa_nil)))) pa_nil))))) (pe_call G_law_take (hr.mono (by decide)) rfl T.g__law_take k_law_take b_law_take .nil pass0 (pa_cons (pv 1) (pa_cons pe_int pa_nil))) (fun _ _ => rfl)))
    (pss_cons (ps_set (i := 4) sc_law.nd rfl (by first | exact Or.inl rfl | exact Or.inr rfl) (pe_ix (ix_U (K := K) rfl) (pe_lst (pa_cons pe_int (pa_cons (pe_op op_sub (pv 3) pe_int) (pa_cons (pe_call G_law_take (hr.mono (by decide)) rfl T.g__law_take k_law_take b_law_take .nil pass0 (pa_cons (pv 1) (pa_cons (pv 3) pa_nil))) pa_nil)))) (pe_call G_law_take (hr.mono (by decide)) rfl T.g__law_take k_law_take b_law_take .nil pass0 (pa_cons (pv 1) (pa_cons pe_int pa_nil))) (fun _ _ => rfl)))
    (pss_cons (ps_if (pt_not (pt_tru rfl (pe_call G_law_modulus_right (hr.mono (by decide)) rfl T.g__law_modulus_right k_law_modulus_right b_law_modulus_right .nil pass0 (pa_cons (pv 2) (pa_cons (pv 3) (pa_cons (pv 4) pa_nil)))) (by intro _; rfl)))
    (pss_one (ps_ret pe_bl))
    pss_nil)
    (pss_cons (ps_set (i := 6) sc_law.nd rfl (by first | exact Or.inl rfl | exact Or.inr rfl) (pe_call G_law_book_of (hr.mono (by decide)) rfl T.g__law_book_of k_law_book_of b_law_book_of .nil pass0 (pa_cons (pv 1) (pa_cons (pe_op (op_addU rfl) pe_int (pe_call G_law_take (hr.mono (by decide)) rfl T.g__law_take k_law_take b_law_take .nil pass0 (pa_cons (pv 1) (pa_cons (pe_ix (ix_U (K := K) rfl) (pe_lst (pa_cons pe_int (pa_cons pe_int pa_nil))) (pe_op op_fdiv (pv 5) pe_int) (fun _ _ => rfl)) pa_nil)))) pa_nil))))
    (pss_cons (ps_set (i := 7) sc_law.nd rfl (by first | exact Or.inl rfl | exact Or.inr rfl) (pe_make T.r_SumBook G_SumBook___init (hr.mono (by decide)) rfl T.g_SumBook b_SumBook___init .nil passL (pa_cons (pe_ix (ix_U (K := K) rfl) (pv 6) pe_int (fun _ _ => rfl)) (pa_cons (pe_ix (ix_U (K := K) rfl) (pv 6) pe_int (fun _ _ => rfl)) (pa_cons (pe_ix (ix_U (K := K) rfl) (pv 6) pe_int (fun _ _ => rfl)) pa_nil)))))
    (pss_cons (ps_if (pt_not (pt_tru rfl (pe_call G_law_unread_right (hr.mono (by decide)) rfl T.g__law_unread_right k_law_unread_right b_law_unread_right .nil pass0 (pa_cons (pv 7) (pa_cons (pv 6) pa_nil))) (by intro _; rfl)))
    (pss_one (ps_ret pe_bl))
    pss_nil)
    (pss_one (ps_if (PW.pt (pw_and (pt_cmpR (op_ltU rfl hr.units0) (pv 5) pe_int (by first | exact nomark _ | rfl)) (pw_and1 (pt_cmpR (op_neU rfl hr.units) (pe_call G_law_small_unread (hr.mono (by decide)) rfl T.g__law_small_unread k_law_small_unread b_law_small_unread .nil pass0 (pa_cons (pv 6) pa_nil)) (pe_cmpR op_notN (pe_call G_unread_word (hr.mono (by decide)) rfl T.g_unread_word k_unread_word b_unread_word .nil passL (pa_cons (pv 7) pa_nil)) pe_non (by first | exact nomark _ | rfl)) (by first | exact nomark _ | rfl)))))
    (pss_one (ps_ret pe_bl))
    pss_nil))))))))))
    (pss_one (ps_ret (pe_call G_law_refusals (hr.mono (by decide)) rfl T.g__law_refusals k_law_refusals b_law_refusals .nil pass0 (pa_cons (pv 1) (pa_cons (pv 2) pa_nil))))))))), ?_⟩
    exact body_law rfl h g fun H X hd => (dst_seq (dst_asg (de_call0 dv_nil (ds_hand (i := 1) (ds_cons (de_int 7) ds_nil))) (dg_name 2))
    (dst_of S_law_r3_eq
    (dst_seq (dst_for (di_rng2 (db_cons (DEg.bor (de_int 1)) (db_cons (DEg.bor (dg_op od_add (db_var 2) (DEg.bor (de_int 3)))) db_nil))) (dg_name 3)
    (dst_of S_law_b4_eq
    (dst_seq (dst_asg (de_call0 dv_nil (ds_hand (i := 1) (ds_cons (de_var 3) ds_nil))) (dg_name 4))
    (dst_of S_law_r5_eq
    (dst_if (dt_or (dt_test (dg_op od_ne (DEg.bor (de_call0 dv_nil (ds_cons (de_var 2) (ds_cons (de_var 3) (ds_cons (de_var 4) ds_nil))))) (DEg.bor (dg_op od_le (db_var 3) (db_var 2))))) (dt_not (dt_tru (DEg.bor (de_call0 dv_nil (ds_cons (de_var 2) (ds_cons (de_var 3) (ds_cons (de_var 4) ds_nil))))))))
    (dst_ret (de_bl false))
    dst_next)))))
    (dst_of S_law_r7_eq
    (dst_seq (dst_for (di_rng1 (db_cons (DEg.bor (de_int 4)) db_nil)) (dg_name 5)
    (dst_of S_law_b8_eq
    (dst_seq (dst_asg (de_call0 dv_nil (ds_hand (i := 1) (ds_cons (dg_op od_ix (DEg.bor (DEg.cln (df_lst (da_cons (de_int 9) (da_cons (de_int 201) da_nil))))) (DEg.bor (dg_op od_fdiv (db_var 5) (DEg.bor (de_int 2))))) ds_nil))) (dg_name 2))
    (dst_of S_law_r9_eq
    (dst_seq (dst_asg (dg_op od_ix (DEg.bor (DEg.cln (df_lst (da_cons (dg_op od_add (DEg.bor (de_int 1)) (DEg.bor (de_call0 dv_nil (ds_hand (i := 1) (ds_cons (dg_op od_add (db_var 2) (DEg.bor (de_int 2))) ds_nil))))) (da_cons (dg_cb cg_max2 (db_cons (DEg.bor (de_int 1)) (db_cons (db_var 2) db_nil))) (da_cons (dg_op od_add (db_var 2) (DEg.bor (de_int 1))) (da_cons (dg_op od_add (DEg.bor (de_int 1)) (DEg.bor (de_call0 dv_nil (ds_hand (i := 1) (ds_cons (de_powC (a := 10) (b := 6) (c := 1000000) (cpow_of (by decide +kernel)) (by decide +kernel)) ds_nil))))) da_nil))))))) (DEg.bor (de_call0 dv_nil (ds_hand (i := 1) (ds_cons (de_int 4) ds_nil))))) (dg_name 3))
    (dst_of S_law_r10_eq
    (dst_seq (dst_asg (dg_op od_ix (DEg.bor (DEg.cln (df_lst (da_cons (de_int 0) (da_cons (dg_op od_sub (db_var 3) (DEg.bor (de_int 1))) (da_cons (de_call0 dv_nil (ds_hand (i := 1) (ds_cons (de_var 3) ds_nil))) da_nil)))))) (DEg.bor (de_call0 dv_nil (ds_hand (i := 1) (ds_cons (de_int 3) ds_nil))))) (dg_name 4))
    (dst_of S_law_r11_eq
    (dst_seq (dst_if (dt_not (dt_tru (DEg.bor (de_call0 dv_nil (ds_cons (de_var 2) (ds_cons (de_var 3) (ds_cons (de_var 4) ds_nil)))))))
    (dst_ret (de_bl false))
    dst_next)
    (dst_of S_law_r13_eq
    (dst_seq (dst_asg (de_call0 dv_nil (ds_hand (i := 1) (ds_cons (dg_op od_add (DEg.bor (de_int 1)) (DEg.bor (de_call0 dv_nil (ds_hand (i := 1) (ds_cons (dg_op od_ix (DEg.bor (DEg.cln (df_lst (da_cons (de_int 5) (da_cons (de_int 200) da_nil))))) (DEg.bor (dg_op od_fdiv (db_var 5) (DEg.bor (de_int 2))))) ds_nil))))) ds_nil))) (dg_name 6))
    (dst_of S_law_r14_eq
    (dst_seq (dst_asg (de_make0 dv_nil (ds_cons (dg_op od_ix (db_var 6) (DEg.bor (de_int 0))) (ds_cons (dg_op od_ix (db_var 6) (DEg.bor (de_int 1))) (ds_cons (dg_op od_ix (db_var 6) (DEg.bor (de_int 2))) ds_nil)))) (dg_name 7))
    (dst_of S_law_r15_eq
    (dst_seq (dst_if (dt_not (dt_tru (DEg.bor (de_call0 dv_nil (ds_cons (de_var 7) (ds_cons (de_var 6) ds_nil))))))
    (dst_ret (de_bl false))
    dst_next)
    (dst_of S_law_r17_eq
    (dst_if (dt_and (dt_test (dg_op od_lt (db_var 5) (DEg.bor (de_int 2)))) (dt_test (dg_op od_ne (DEg.bor (de_call0 dv_nil (ds_cons (de_var 6) ds_nil))) (DEg.bor (dg_op od_notN (DEg.bor (de_call0 dv_nil (ds_cons (de_var 7) ds_nil))) (DEg.bor de_non))))))
    (dst_ret (de_bl false))
    dst_next)))))))))))))))))
    (dst_of S_law_r19_eq
    (dst_ret (de_call0 dv_nil (ds_hand (i := 1) (ds_cons (de_var 2) ds_nil))))))))))
end Mine

namespace Mine
open PySem PySem.Spec PyProof.Rows L2
def q_wall : He5.DefA := ⟨fun K => (He.ga K "_wall"), "_wall", "_wall", defArgs s_wall, defBody s_wall, defScope s_wall, [], []⟩
def q_BadWord___init : He5.DefA := ⟨fun K => (He.ma K (He.ga K "BadWord") "__init__"), "__init__", "BadWord.__init__", defArgs s_BadWord___init, defBody s_BadWord___init, defScope s_BadWord___init, [], []⟩
def q_is_whole : He5.DefA := ⟨fun K => (He.ga K "is_whole"), "is_whole", "is_whole", defArgs s_is_whole, defBody s_is_whole, defScope s_is_whole, [.non, .non], []⟩
def q_check_number : He5.DefA := ⟨fun K => (He.ga K "check_number"), "check_number", "check_number", defArgs s_check_number, defBody s_check_number, defScope s_check_number, [], []⟩
def q_check_word : He5.DefA := ⟨fun K => (He.ga K "check_word"), "check_word", "check_word", defArgs s_check_word, defBody s_check_word, defScope s_check_word, [.int (24)], []⟩
def q_NearPair___init : He5.DefA := ⟨fun K => (He.ma K (He.ga K "NearPair") "__init__"), "__init__", "NearPair.__init__", defArgs s_NearPair___init, defBody s_NearPair___init, defScope s_NearPair___init, [], []⟩
def q_NearPair___eq : He5.DefA := ⟨fun K => (He.ma K (He.ga K "NearPair") "__eq__"), "__eq__", "NearPair.__eq__", defArgs s_NearPair___eq, defBody s_NearPair___eq, defScope s_NearPair___eq, [], []⟩
def q_place_sum : He5.DefA := ⟨fun K => (He.ga K "place_sum"), "place_sum", "place_sum", defArgs s_place_sum, defBody s_place_sum, defScope s_place_sum, [], []⟩
def q_sum_of : He5.DefA := ⟨fun K => (He.ga K "_sum_of"), "_sum_of", "_sum_of", defArgs s_sum_of, defBody s_sum_of, defScope s_sum_of, [], []⟩
def q_lifted_word : He5.DefA := ⟨fun K => (He.ga K "lifted_word"), "lifted_word", "lifted_word", defArgs s_lifted_word, defBody s_lifted_word, defScope s_lifted_word, [], []⟩
def q_index_behind : He5.DefA := ⟨fun K => (He.ga K "_index_behind"), "_index_behind", "_index_behind", defArgs s_index_behind, defBody s_index_behind, defScope s_index_behind, [], []⟩
def q_SumBook___init : He5.DefA := ⟨fun K => (He.ma K (He.ga K "SumBook") "__init__"), "__init__", "SumBook.__init__", defArgs s_SumBook___init, defBody s_SumBook___init, defScope s_SumBook___init, [], []⟩
def q_SumBook___eq : He5.DefA := ⟨fun K => (He.ma K (He.ga K "SumBook") "__eq__"), "__eq__", "SumBook.__eq__", defArgs s_SumBook___eq, defBody s_SumBook___eq, defScope s_SumBook___eq, [], []⟩
def q_SumBook_is_full : He5.DefA := ⟨fun K => (gA K "SumBook" "is_full"), "is_full", "SumBook.is_full", defArgs s_SumBook_is_full, defBody s_SumBook_is_full, defScope s_SumBook_is_full, [], []⟩
def q_SumBook_holding : He5.DefA := ⟨fun K => (He5.wf K (He.ga K "SumBook") "staticmethod" "holding"), "holding", "SumBook.holding", defArgs s_SumBook_holding, defBody s_SumBook_holding, defScope s_SumBook_holding, [], []⟩
def q_SumBook_has : He5.DefA := ⟨fun K => (He.ma K (He.ga K "SumBook") "has"), "has", "SumBook.has", defArgs s_SumBook_has, defBody s_SumBook_has, defScope s_SumBook_has, [], []⟩
def q_SumBook_contrary : He5.DefA := ⟨fun K => (He.ma K (He.ga K "SumBook") "contrary"), "contrary", "SumBook.contrary", defArgs s_SumBook_contrary, defBody s_SumBook_contrary, defScope s_SumBook_contrary, [], []⟩
def q_SumBook_turned : He5.DefA := ⟨fun K => (He.ma K (He.ga K "SumBook") "turned"), "turned", "SumBook.turned", defArgs s_SumBook_turned, defBody s_SumBook_turned, defScope s_SumBook_turned, [], []⟩
def q_check_modulus : He5.DefA := ⟨fun K => (He.ga K "_check_modulus"), "_check_modulus", "_check_modulus", defArgs s_check_modulus, defBody s_check_modulus, defScope s_check_modulus, [], []⟩
def q_check_rest : He5.DefA := ⟨fun K => (He.ga K "_check_rest"), "_check_rest", "_check_rest", defArgs s_check_rest, defBody s_check_rest, defScope s_check_rest, [], []⟩
def q_modulus_clash : He5.DefA := ⟨fun K => (He.ga K "modulus_clash"), "modulus_clash", "modulus_clash", defArgs s_modulus_clash, defBody s_modulus_clash, defScope s_modulus_clash, [], []⟩
def q_read_lost : He5.DefA := ⟨fun K => (He.ga K "read_lost"), "read_lost", "read_lost", defArgs s_read_lost, defBody s_read_lost, defScope s_read_lost, [], []⟩
def q_check_letters_of : He5.DefA := ⟨fun K => (He.ga K "_check_letters_of"), "_check_letters_of", "_check_letters_of", defArgs s_check_letters_of, defBody s_check_letters_of, defScope s_check_letters_of, [.int (201)], []⟩
def q_unread_word : He5.DefA := ⟨fun K => (He.ga K "unread_word"), "unread_word", "unread_word", defArgs s_unread_word, defBody s_unread_word, defScope s_unread_word, [], []⟩
def q_word_of_sum : He5.DefA := ⟨fun K => (He.ga K "_word_of_sum"), "_word_of_sum", "_word_of_sum", defArgs s_word_of_sum, defBody s_word_of_sum, defScope s_word_of_sum, [], []⟩
def q_law_hand : He5.DefA := ⟨fun K => (He.ga K "_law_hand"), "_law_hand", "_law_hand", defArgs s_law_hand, defBody s_law_hand, defScope s_law_hand, [], []⟩
def q_law_mixed : He5.DefA := ⟨fun K => (He.ga K "_law_mixed"), "_law_mixed", "_law_mixed", defArgs s_law_mixed, defBody s_law_mixed, defScope s_law_mixed, [], []⟩
def q_law_take : He5.DefA := ⟨fun K => (He.ga K "_law_take"), "_law_take", "_law_take", defArgs s_law_take, defBody s_law_take, defScope s_law_take, [], []⟩
def q_law_whole : He5.DefA := ⟨fun K => (He.ga K "_law_whole"), "_law_whole", "_law_whole", defArgs s_law_whole, defBody s_law_whole, defScope s_law_whole, [], []⟩
def q_law_all_words : He5.DefA := ⟨fun K => (He.ga K "_law_all_words"), "_law_all_words", "_law_all_words", defArgs s_law_all_words, defBody s_law_all_words, defScope s_law_all_words, [], []⟩
def q_law_is_below : He5.DefA := ⟨fun K => (He.ga K "_law_is_below"), "_law_is_below", "_law_is_below", defArgs s_law_is_below, defBody s_law_is_below, defScope s_law_is_below, [], []⟩
def q_law_more_one : He5.DefA := ⟨fun K => (He.ga K "_law_more_one"), "_law_more_one", "_law_more_one", defArgs s_law_more_one, defBody s_law_more_one, defScope s_law_more_one, [], []⟩
def q_law_sum : He5.DefA := ⟨fun K => (He.ga K "_law_sum"), "_law_sum", "_law_sum", defArgs s_law_sum, defBody s_law_sum, defScope s_law_sum, [], []⟩
def q_law_is_word : He5.DefA := ⟨fun K => (He.ga K "_law_is_word"), "_law_is_word", "_law_is_word", defArgs s_law_is_word, defBody s_law_is_word, defScope s_law_is_word, [], []⟩
def q_law_odd : He5.DefA := ⟨fun K => (He.ga K "_law_odd"), "_law_odd", "_law_odd", defArgs s_law_odd, defBody s_law_odd, defScope s_law_odd, [], []⟩
def q_law_book_of : He5.DefA := ⟨fun K => (He.ga K "_law_book_of"), "_law_book_of", "_law_book_of", defArgs s_law_book_of, defBody s_law_book_of, defScope s_law_book_of, [], []⟩
def q_law_clash_right : He5.DefA := ⟨fun K => (He.ga K "_law_clash_right"), "_law_clash_right", "_law_clash_right", defArgs s_law_clash_right, defBody s_law_clash_right, defScope s_law_clash_right, [], []⟩
def q_law_has_clash : He5.DefA := ⟨fun K => (He.ga K "_law_has_clash"), "_law_has_clash", "_law_has_clash", defArgs s_law_has_clash, defBody s_law_has_clash, defScope s_law_has_clash, [], []⟩
def q_law_modulus_right : He5.DefA := ⟨fun K => (He.ga K "_law_modulus_right"), "_law_modulus_right", "_law_modulus_right", defArgs s_law_modulus_right, defBody s_law_modulus_right, defScope s_law_modulus_right, [], []⟩
def q_law_is_unread : He5.DefA := ⟨fun K => (He.ga K "_law_is_unread"), "_law_is_unread", "_law_is_unread", defArgs s_law_is_unread, defBody s_law_is_unread, defScope s_law_is_unread, [], []⟩
def q_law_unread_right : He5.DefA := ⟨fun K => (He.ga K "_law_unread_right"), "_law_unread_right", "_law_unread_right", defArgs s_law_unread_right, defBody s_law_unread_right, defScope s_law_unread_right, [], []⟩
def q_law_small_unread : He5.DefA := ⟨fun K => (He.ga K "_law_small_unread"), "_law_small_unread", "_law_small_unread", defArgs s_law_small_unread, defBody s_law_small_unread, defScope s_law_small_unread, [], []⟩
def q_law_refused : He5.DefA := ⟨fun K => (He.ga K "_law_refused"), "_law_refused", "_law_refused", defArgs s_law_refused, defBody s_law_refused, defScope s_law_refused, [], []⟩
def q_law_refusals : He5.DefA := ⟨fun K => (He.ga K "_law_refusals"), "_law_refusals", "_law_refusals", defArgs s_law_refusals, defBody s_law_refusals, defScope s_law_refusals, [], []⟩
def q_law : He5.DefA := ⟨fun K => (He.ga K "law"), "law", "law", defArgs s_law, defBody s_law, defScope s_law, [], []⟩
def fn : List He5.DefA := [q_wall, q_BadWord___init, q_is_whole, q_check_number, q_check_word, q_NearPair___init, q_NearPair___eq, q_place_sum, q_sum_of, q_lifted_word, q_index_behind, q_SumBook___init, q_SumBook___eq, q_SumBook_is_full, q_SumBook_holding, q_SumBook_has, q_SumBook_contrary, q_SumBook_turned, q_check_modulus, q_check_rest, q_modulus_clash, q_read_lost, q_check_letters_of, q_unread_word, q_word_of_sum, q_law_hand, q_law_mixed, q_law_take, q_law_whole, q_law_all_words, q_law_is_below, q_law_more_one, q_law_sum, q_law_is_word, q_law_odd, q_law_book_of, q_law_clash_right, q_law_has_clash, q_law_modulus_right, q_law_is_unread, q_law_unread_right, q_law_small_unread, q_law_refused, q_law_refusals, q_law]
def fa : List He.Fa := [.free "isinstance", .free "bool", .free "int", .glo "is_whole", .glo "BadNumber", .exc "BadNumber", .free "len", .free "tuple", .free "list", .glo "BadWord", .free "enumerate", .glo "NearPair", .glo "_sum_of", .glo "check_word", .int "MOST_HERE" 200, .free "sum", .glo "BadAmount", .exc "BadAmount", .glo "_index_behind", .glo "check_number", .glo "_check_modulus", .glo "_check_rest", .glo "SumBook", .glo "_wall", .int "MOST_MODULUS" 1000000, .glo "BadModulus", .exc "BadModulus", .glo "BadRest", .exc "BadRest", .free "range", .glo "lifted_word", .mkr "NearPair", .glo "_check_letters_of", .glo "place_sum", .glo "NotOneOff", .exc "NotOneOff", .cls "SumBook", .glo "_word_of_sum", .free "abs", .glo "_law_mixed", .free "sorted", .free "set", .free "all", .glo "_law_whole", .glo "_law_take", .free "min", .glo "_law_sum", .glo "_law_is_word", .glo "_law_is_below", .glo "_law_all_words", .glo "modulus_clash", .glo "_law_clash_right", .glo "unread_word", .glo "_law_is_unread", .glo "read_lost", .glo "_law_more_one", .glo "_law_refused", .glo "_law_odd", .mkr "SumBook", .glo "_law_hand", .glo "_law_modulus_right", .glo "_law_has_clash", .free "max", .glo "_law_book_of", .glo "_law_unread_right", .glo "_law_small_unread", .glo "_law_refusals", .exm "BadAmount" "BadModulus" false, .exm "BadAmount" "BadNumber" false, .exm "BadAmount" "BadRest" false, .exm "BadModulus" "BadModulus" true, .exm "BadModulus" "BadNumber" false, .exm "BadModulus" "BadRest" false, .exm "BadNumber" "BadModulus" false, .exm "BadNumber" "BadNumber" true, .exm "BadNumber" "BadRest" false, .exm "BadRest" "BadModulus" false, .exm "BadRest" "BadNumber" false, .exm "BadRest" "BadRest" true, .exm "BadWord" "BadModulus" false, .exm "BadWord" "BadNumber" false, .exm "BadWord" "BadRest" false, .exm "NotOneOff" "BadModulus" false, .exm "NotOneOff" "BadNumber" false, .exm "NotOneOff" "BadRest" false, .cls "NearPair", .noat "NearPair" "one", .noat "NearPair" "other", .noat "NearPair" "below", .noat "NearPair" "above", .noat "SumBook" "length", .noat "SumBook" "modulus", .noat "SumBook" "rest", .glo "law"]
def ex (K : PySem.W.Frag) : Bool := (fexB K "BadWord" && (He.eqO (PySem.W.findIn K (.ref (He.ga K "BadWord")) "index") (some none) && (propB "SumBook" "is_full" K && (kinB "NearPair" K && (insB "NearPair" K && (decide (PySem.W.kitOne K (.ref (He.ga K "NearPair")) (.ref (He.ga K "NearPair")) = some true) && (insB "SumBook" K && (decide (PySem.W.kitOne K (.ref (He.ga K "SumBook")) (.ref (He.ga K "NearPair")) = some false) && (kinB "SumBook" K && (decide (PySem.W.kitOne K (.ref (He.ga K "NearPair")) (.ref (He.ga K "SumBook")) = some false) && (decide (PySem.W.kitOne K (.ref (He.ga K "SumBook")) (.ref (He.ga K "SumBook")) = some true) && true)))))))))))
theorem txt_of {K : PySem.W.Frag} {h : Heap} {mg : Str → Option Value} (X : K.In h) (G : h.Ns mainGlobals mg) (c : He5.SaysA fa fn K) (E : ex K = true) : Txt K mg := by
  obtain ⟨E0, E⟩ := He.ba E
  obtain ⟨E1, E⟩ := He.ba E
  obtain ⟨E2, E⟩ := He.ba E
  obtain ⟨E3, E⟩ := He.ba E
  obtain ⟨E4, E⟩ := He.ba E
  obtain ⟨E5, E⟩ := He.ba E
  obtain ⟨E6, E⟩ := He.ba E
  obtain ⟨E7, E⟩ := He.ba E
  obtain ⟨E8, E⟩ := He.ba E
  obtain ⟨E9, E⟩ := He.ba E
  obtain ⟨E10, E⟩ := He.ba E
  exact {
    x_BadWord := fexB_ok E0,
    n_BadWord_is_index := He.eqO_ok E1,
    z_isinstance := He.free_ok X G (c.fact 0 (f := .free "isinstance") rfl),
    z_bool := He.free_ok X G (c.fact 1 (f := .free "bool") rfl),
    z_int := He.free_ok X G (c.fact 2 (f := .free "int") rfl),
    g_is_whole := He.glo_ok X G (c.fact 3 (f := .glo "is_whole") rfl),
    g_BadNumber := He.glo_ok X G (c.fact 4 (f := .glo "BadNumber") rfl),
    e_BadNumber := own_of (c.fact 5 (f := .exc "BadNumber") rfl),
    z_len := He.free_ok X G (c.fact 6 (f := .free "len") rfl),
    z_tuple := He.free_ok X G (c.fact 7 (f := .free "tuple") rfl),
    z_list := He.free_ok X G (c.fact 8 (f := .free "list") rfl),
    g_BadWord := He.glo_ok X G (c.fact 9 (f := .glo "BadWord") rfl),
    z_enumerate := He.free_ok X G (c.fact 10 (f := .free "enumerate") rfl),
    g_NearPair := He.glo_ok X G (c.fact 11 (f := .glo "NearPair") rfl),
    g__sum_of := He.glo_ok X G (c.fact 12 (f := .glo "_sum_of") rfl),
    g_check_word := He.glo_ok X G (c.fact 13 (f := .glo "check_word") rfl),
    c_MOST_HERE := He.int_ok X G (c.fact 14 (f := .int "MOST_HERE" 200) rfl),
    z_sum := He.free_ok X G (c.fact 15 (f := .free "sum") rfl),
    g_BadAmount := He.glo_ok X G (c.fact 16 (f := .glo "BadAmount") rfl),
    e_BadAmount := own_of (c.fact 17 (f := .exc "BadAmount") rfl),
    g__index_behind := He.glo_ok X G (c.fact 18 (f := .glo "_index_behind") rfl),
    g_check_number := He.glo_ok X G (c.fact 19 (f := .glo "check_number") rfl),
    g__check_modulus := He.glo_ok X G (c.fact 20 (f := .glo "_check_modulus") rfl),
    g__check_rest := He.glo_ok X G (c.fact 21 (f := .glo "_check_rest") rfl),
    g_SumBook := He.glo_ok X G (c.fact 22 (f := .glo "SumBook") rfl),
    g__wall := He.glo_ok X G (c.fact 23 (f := .glo "_wall") rfl),
    c_MOST_MODULUS := He.int_ok X G (c.fact 24 (f := .int "MOST_MODULUS" 1000000) rfl),
    g_BadModulus := He.glo_ok X G (c.fact 25 (f := .glo "BadModulus") rfl),
    e_BadModulus := own_of (c.fact 26 (f := .exc "BadModulus") rfl),
    g_BadRest := He.glo_ok X G (c.fact 27 (f := .glo "BadRest") rfl),
    e_BadRest := own_of (c.fact 28 (f := .exc "BadRest") rfl),
    z_range := He.free_ok X G (c.fact 29 (f := .free "range") rfl),
    g_lifted_word := He.glo_ok X G (c.fact 30 (f := .glo "lifted_word") rfl),
    r_NearPair := He.mkr_ok (c.fact 31 (f := .mkr "NearPair") rfl),
    g__check_letters_of := He.glo_ok X G (c.fact 32 (f := .glo "_check_letters_of") rfl),
    g_place_sum := He.glo_ok X G (c.fact 33 (f := .glo "place_sum") rfl),
    g_NotOneOff := He.glo_ok X G (c.fact 34 (f := .glo "NotOneOff") rfl),
    e_NotOneOff := own_of (c.fact 35 (f := .exc "NotOneOff") rfl),
    l_SumBook := He.cls_ok (c.fact 36 (f := .cls "SumBook") rfl),
    p_SumBook_is_is_full := propB_ok E2,
    g__word_of_sum := He.glo_ok X G (c.fact 37 (f := .glo "_word_of_sum") rfl),
    z_abs := He.free_ok X G (c.fact 38 (f := .free "abs") rfl),
    g__law_mixed := He.glo_ok X G (c.fact 39 (f := .glo "_law_mixed") rfl),
    z_sorted := He.free_ok X G (c.fact 40 (f := .free "sorted") rfl),
    z_set := He.free_ok X G (c.fact 41 (f := .free "set") rfl),
    z_all := He.free_ok X G (c.fact 42 (f := .free "all") rfl),
    g__law_whole := He.glo_ok X G (c.fact 43 (f := .glo "_law_whole") rfl),
    g__law_take := He.glo_ok X G (c.fact 44 (f := .glo "_law_take") rfl),
    z_min := He.free_ok X G (c.fact 45 (f := .free "min") rfl),
    g__law_sum := He.glo_ok X G (c.fact 46 (f := .glo "_law_sum") rfl),
    g__law_is_word := He.glo_ok X G (c.fact 47 (f := .glo "_law_is_word") rfl),
    g__law_is_below := He.glo_ok X G (c.fact 48 (f := .glo "_law_is_below") rfl),
    g__law_all_words := He.glo_ok X G (c.fact 49 (f := .glo "_law_all_words") rfl),
    g_modulus_clash := He.glo_ok X G (c.fact 50 (f := .glo "modulus_clash") rfl),
    g__law_clash_right := He.glo_ok X G (c.fact 51 (f := .glo "_law_clash_right") rfl),
    g_unread_word := He.glo_ok X G (c.fact 52 (f := .glo "unread_word") rfl),
    g__law_is_unread := He.glo_ok X G (c.fact 53 (f := .glo "_law_is_unread") rfl),
    g_read_lost := He.glo_ok X G (c.fact 54 (f := .glo "read_lost") rfl),
    g__law_more_one := He.glo_ok X G (c.fact 55 (f := .glo "_law_more_one") rfl),
    g__law_refused := He.glo_ok X G (c.fact 56 (f := .glo "_law_refused") rfl),
    g__law_odd := He.glo_ok X G (c.fact 57 (f := .glo "_law_odd") rfl),
    r_SumBook := He.mkr_ok (c.fact 58 (f := .mkr "SumBook") rfl),
    g__law_hand := He.glo_ok X G (c.fact 59 (f := .glo "_law_hand") rfl),
    g__law_modulus_right := He.glo_ok X G (c.fact 60 (f := .glo "_law_modulus_right") rfl),
    g__law_has_clash := He.glo_ok X G (c.fact 61 (f := .glo "_law_has_clash") rfl),
    z_max := He.free_ok X G (c.fact 62 (f := .free "max") rfl),
    g__law_book_of := He.glo_ok X G (c.fact 63 (f := .glo "_law_book_of") rfl),
    g__law_unread_right := He.glo_ok X G (c.fact 64 (f := .glo "_law_unread_right") rfl),
    g__law_small_unread := He.glo_ok X G (c.fact 65 (f := .glo "_law_small_unread") rfl),
    g__law_refusals := He.glo_ok X G (c.fact 66 (f := .glo "_law_refusals") rfl),
    m_BadAmount_is_BadModulus := He.exm_ok (c.fact 67 (f := .exm "BadAmount" "BadModulus" false) rfl),
    m_BadAmount_is_BadNumber := He.exm_ok (c.fact 68 (f := .exm "BadAmount" "BadNumber" false) rfl),
    m_BadAmount_is_BadRest := He.exm_ok (c.fact 69 (f := .exm "BadAmount" "BadRest" false) rfl),
    m_BadModulus_is_BadModulus := He.exm_ok (c.fact 70 (f := .exm "BadModulus" "BadModulus" true) rfl),
    m_BadModulus_is_BadNumber := He.exm_ok (c.fact 71 (f := .exm "BadModulus" "BadNumber" false) rfl),
    m_BadModulus_is_BadRest := He.exm_ok (c.fact 72 (f := .exm "BadModulus" "BadRest" false) rfl),
    m_BadNumber_is_BadModulus := He.exm_ok (c.fact 73 (f := .exm "BadNumber" "BadModulus" false) rfl),
    m_BadNumber_is_BadNumber := He.exm_ok (c.fact 74 (f := .exm "BadNumber" "BadNumber" true) rfl),
    m_BadNumber_is_BadRest := He.exm_ok (c.fact 75 (f := .exm "BadNumber" "BadRest" false) rfl),
    m_BadRest_is_BadModulus := He.exm_ok (c.fact 76 (f := .exm "BadRest" "BadModulus" false) rfl),
    m_BadRest_is_BadNumber := He.exm_ok (c.fact 77 (f := .exm "BadRest" "BadNumber" false) rfl),
    m_BadRest_is_BadRest := He.exm_ok (c.fact 78 (f := .exm "BadRest" "BadRest" true) rfl),
    m_BadWord_is_BadModulus := He.exm_ok (c.fact 79 (f := .exm "BadWord" "BadModulus" false) rfl),
    m_BadWord_is_BadNumber := He.exm_ok (c.fact 80 (f := .exm "BadWord" "BadNumber" false) rfl),
    m_BadWord_is_BadRest := He.exm_ok (c.fact 81 (f := .exm "BadWord" "BadRest" false) rfl),
    m_NotOneOff_is_BadModulus := He.exm_ok (c.fact 82 (f := .exm "NotOneOff" "BadModulus" false) rfl),
    m_NotOneOff_is_BadNumber := He.exm_ok (c.fact 83 (f := .exm "NotOneOff" "BadNumber" false) rfl),
    m_NotOneOff_is_BadRest := He.exm_ok (c.fact 84 (f := .exm "NotOneOff" "BadRest" false) rfl),
    l_NearPair := He.cls_ok (c.fact 85 (f := .cls "NearPair") rfl),
    a_NearPair_is_one := He.noat_ok (c.fact 86 (f := .noat "NearPair" "one") rfl),
    a_NearPair_is_other := He.noat_ok (c.fact 87 (f := .noat "NearPair" "other") rfl),
    a_NearPair_is_below := He.noat_ok (c.fact 88 (f := .noat "NearPair" "below") rfl),
    a_NearPair_is_above := He.noat_ok (c.fact 89 (f := .noat "NearPair" "above") rfl),
    a_SumBook_is_length := He.noat_ok (c.fact 90 (f := .noat "SumBook" "length") rfl),
    a_SumBook_is_modulus := He.noat_ok (c.fact 91 (f := .noat "SumBook" "modulus") rfl),
    a_SumBook_is_rest := He.noat_ok (c.fact 92 (f := .noat "SumBook" "rest") rfl),
    j_NearPair := kinB_ok E3,
    o_NearPair := insB_ok E4,
    k_NearPair_is_NearPair := of_decide_eq_true E5,
    o_SumBook := insB_ok E6,
    k_SumBook_is_NearPair := of_decide_eq_true E7,
    j_SumBook := kinB_ok E8,
    k_NearPair_is_SumBook := of_decide_eq_true E9,
    k_SumBook_is_SumBook := of_decide_eq_true E10,
    F_wall := c.def_ 0 (d := q_wall) rfl,
    F_BadWord___init := c.def_ 1 (d := q_BadWord___init) rfl,
    F_is_whole := c.def_ 2 (d := q_is_whole) rfl,
    F_check_number := c.def_ 3 (d := q_check_number) rfl,
    F_check_word := c.def_ 4 (d := q_check_word) rfl,
    F_NearPair___init := c.def_ 5 (d := q_NearPair___init) rfl,
    F_NearPair___eq := c.def_ 6 (d := q_NearPair___eq) rfl,
    F_place_sum := c.def_ 7 (d := q_place_sum) rfl,
    F_sum_of := c.def_ 8 (d := q_sum_of) rfl,
    F_lifted_word := c.def_ 9 (d := q_lifted_word) rfl,
    F_index_behind := c.def_ 10 (d := q_index_behind) rfl,
    F_SumBook___init := c.def_ 11 (d := q_SumBook___init) rfl,
    F_SumBook___eq := c.def_ 12 (d := q_SumBook___eq) rfl,
    F_SumBook_is_full := c.def_ 13 (d := q_SumBook_is_full) rfl,
    F_SumBook_holding := c.def_ 14 (d := q_SumBook_holding) rfl,
    F_SumBook_has := c.def_ 15 (d := q_SumBook_has) rfl,
    F_SumBook_contrary := c.def_ 16 (d := q_SumBook_contrary) rfl,
    F_SumBook_turned := c.def_ 17 (d := q_SumBook_turned) rfl,
    F_check_modulus := c.def_ 18 (d := q_check_modulus) rfl,
    F_check_rest := c.def_ 19 (d := q_check_rest) rfl,
    F_modulus_clash := c.def_ 20 (d := q_modulus_clash) rfl,
    F_read_lost := c.def_ 21 (d := q_read_lost) rfl,
    F_check_letters_of := c.def_ 22 (d := q_check_letters_of) rfl,
    F_unread_word := c.def_ 23 (d := q_unread_word) rfl,
    F_word_of_sum := c.def_ 24 (d := q_word_of_sum) rfl,
    F_law_hand := c.def_ 25 (d := q_law_hand) rfl,
    F_law_mixed := c.def_ 26 (d := q_law_mixed) rfl,
    F_law_take := c.def_ 27 (d := q_law_take) rfl,
    F_law_whole := c.def_ 28 (d := q_law_whole) rfl,
    F_law_all_words := c.def_ 29 (d := q_law_all_words) rfl,
    F_law_is_below := c.def_ 30 (d := q_law_is_below) rfl,
    F_law_more_one := c.def_ 31 (d := q_law_more_one) rfl,
    F_law_sum := c.def_ 32 (d := q_law_sum) rfl,
    F_law_is_word := c.def_ 33 (d := q_law_is_word) rfl,
    F_law_odd := c.def_ 34 (d := q_law_odd) rfl,
    F_law_book_of := c.def_ 35 (d := q_law_book_of) rfl,
    F_law_clash_right := c.def_ 36 (d := q_law_clash_right) rfl,
    F_law_has_clash := c.def_ 37 (d := q_law_has_clash) rfl,
    F_law_modulus_right := c.def_ 38 (d := q_law_modulus_right) rfl,
    F_law_is_unread := c.def_ 39 (d := q_law_is_unread) rfl,
    F_law_unread_right := c.def_ 40 (d := q_law_unread_right) rfl,
    F_law_small_unread := c.def_ 41 (d := q_law_small_unread) rfl,
    F_law_refused := c.def_ 42 (d := q_law_refused) rfl,
    F_law_refusals := c.def_ 43 (d := q_law_refusals) rfl,
    F_law := c.def_ 44 (d := q_law) rfl }
def loose0 : List Str := ["_wall", "PlaceError", "BadNumber", "BadWord", "BadModulus", "BadRest", "BadAmount", "NotOneOff", "is_whole", "check_number", "check_word", "NearPair", "MOST_HERE", "MOST_MODULUS", "place_sum", "_sum_of", "lifted_word", "_index_behind", "SumBook", "_check_modulus", "_check_rest", "modulus_clash", "MOST_READ", "read_lost", "_check_letters_of", "unread_word", "_word_of_sum", "_law_hand", "_law_mixed", "_law_take"]
def loose1 : List Str := ["_law_whole", "_law_all_words", "_law_is_below", "_law_more_one", "_law_sum", "_law_is_word", "_law_odd", "_law_book_of", "_law_clash_right", "_law_has_clash", "_law_modulus_right", "_law_is_unread", "_law_unread_right", "_law_small_unread", "_law_refused", "_law_refusals"]
def loose : List Str := loose0 ++ loose1
abbrev R : PySem.W.OpenRow := PySem.W.OpenLaw.row PySem.Challenge.rw_lostplaces_k71_whole_moduli_that_bear_on
abbrev hk : PySem.W.Hook := hookN 5 fa fn ex
def ob (s : PySem.W.SharedT) : He.AlD × Bool := obsN 5 fa fn ex (HandSHeadRun.getT s)
theorem ob_eq (s : PySem.W.SharedT) : ob s = hk.obs s.abs := obsN_eq (HandSHeadRun.getT_eq s)
theorem run (w : World) : HandSHeadRun.RunEq R (PySem.W.view R.prog [52]) hk ob 20000 loose w := by
  intro os
  kernel_rfl
end Mine
namespace Mine
open PySem PySem.W PySem.Calls PyProof.Rows HandSHeadRun
abbrev rr := OpenLaw.row PySem.Challenge.rw_lostplaces_k71_whole_moduli_that_bear_on
abbrev qq := view (OpenLaw.row PySem.Challenge.rw_lostplaces_k71_whole_moduli_that_bear_on).prog [52]
abbrev dd := HandSHeadRun.topDef rr.prog 52
theorem h_e : opening rr.prog = plainProg rr.prog.main.scope.names := by kernel_rfl
theorem h_f : ∀ s, fenceModules? rr.prog s = some s := fun s => by kernel_rfl
theorem h_def : defOf qq rr.name = some (dd, []) := by kernel_rfl
theorem h_p : rr.prog.theDef rr.name = some (dd.params, dd.body, dd.scope) := by kernel_rfl
theorem h_k : kwWritten? dd.params.kwonlyargs dd.params.kw_defaults = some [] := by kernel_rfl
theorem h_wr : (!rr.writes || rr.records.isEmpty) = true := by rfl
theorem h_ws : rr.wellSaid = true := by first | assumption | decide +kernel
theorem h_ok : (chainsOk qq && opensWell rr.prog && (frees rr.toRowW && rr.within.isEmpty)) = true := by decide +kernel
theorem h_b : rr.prog.bare := ⟨rfl, rfl, rfl, rfl, rfl, by decide +kernel⟩
end Mine
open PySem PySem.W PySem.Calls PyProof.Rows
set_option maxHeartbeats 0 in
theorem PySem.Challenge.cw_lostplaces_k71_whole_moduli_that_bear_on_holds : PySem.Challenge.rw_lostplaces_k71_whole_moduli_that_bear_on.Holds := by
  w_on; o_law
  refine HandSHeadRun.head_any (r := OpenLaw.row PySem.Challenge.rw_lostplaces_k71_whole_moduli_that_bear_on) (q := view (OpenLaw.row PySem.Challenge.rw_lostplaces_k71_whole_moduli_that_bear_on).prog [52]) (H := Mine.hk) (ob := Mine.ob) (M := 20000) (loose := Mine.loose) (d := HandSHeadRun.topDef (OpenLaw.row PySem.Challenge.rw_lostplaces_k71_whole_moduli_that_bear_on).prog 52) (kwd := []) Mine.ob_eq
    Mine.h_e Mine.h_f Mine.run Mine.h_def Mine.h_p Mine.h_k Mine.h_wr Mine.h_ws Mine.h_ok Mine.h_b ?hw ?hc
  case hw => w_witness2
  case hc =>
    refine L2.walk_ofE (l := PySem.Challenge.rw_lostplaces_k71_whole_moduli_that_bear_on) (n := 63) (k := 8) (x := "_law_script") (CX := L2.CX0) rfl (by decide) (by kernel_rfl) ⟨rfl, by decide, by decide⟩ ?F (fun _ _ _ _ z => z)
    intro w mg fa h Y G hmg0
    obtain ⟨K, KX, c, E⟩ := Y
    have hmg : mg ("law" : PySem.Str) = some (.ref fa) := by
      have e : (HandSHeadRun.topDef (OpenLaw.row PySem.Challenge.rw_lostplaces_k71_whole_moduli_that_bear_on).prog 52).name = ("law" : PySem.Str) := by kernel_rfl
      rw [← e]
      exact hmg0
    have T := Mine.txt_of KX G c E
    obtain ⟨fd0, F0⟩ := T.F_law
    have e : fa = He.ga K "law" := by
      have z := hmg.symm.trans (He.glo_ok KX G (c.fact 93 (f := .glo "law") rfl))
      cases z
      rfl
    subst e
    have b0 : ∀ (s : Shared) (v : Value), BindsTo s fd0 ⟨[v], []⟩ [("_law_script", v)] := fun s v => L2.FunD.bindsA (ps := ["_law_script"]) F0 (fun _ _ _ _ _ _ us hl => match us, hl with | [_], _ => rfl) s [v] rfl
    refine ⟨K, fd0, Mine.sp_law K, KX, b0, fun H a ns hl _ hS => ⟨a, ns, rfl, hS, hl, fun _ => rfl⟩, fun base _ _ => ?_⟩
    obtain ⟨fd1, G1, D1⟩ := Mine.ok_law (g := Mine.goal) (P := (PySem.Challenge.rw_lostplaces_k71_whole_moduli_that_bear_on).prog) (w := w) (base := base) T
    have ef : fd1 = fd0 := Mine.funD_inj D1 F0
    exact ef ▸ G1
