import PyProof.Rows.All
import Wide.All
import OpenK.AllK
import Wide.FinOn
import HandS.ForExc
import HandS.Comp
import HandS.Iter
import HandS.Conv
import HandS.Flow
import HandS.Walk
import HandS.TupAny
import HandS.TupSets
import HandS.SortInts
import HandS.TryMany
import HandS.IsInst
import HandS.Defaults
import HandS.Gcd
import HandS.ExcInit
import HandS.Text
import HandS.Head0
import HandS.Head1
import HandS.Head2
import HandS.Head3
import HandS.HeadEnd
import HandS.HeadHook1
import HandS.HeadHook2
import HandS.ExcField
import KE.GoesEnum
import HandS.Deep
import HandS.Strs
import HandS.Style
import HandS.ExcIs
import KE.GoesZip
import HandS.TupMul
import HandS.Zip
import HandS.CallSlots
import HandS.WordsDict
import HandS.Dict
import KE.GoesEnumKw
import HandS.Property
import HandS.HeadNt
import HandS.Small
import KE.KMathGC
import HandS.OwnEq
import PySem.Challenge.RW_lostplaces_k79_whole_results_each_its_ow
set_option Elab.async false
set_option linter.all false
set_option maxRecDepth 100000
set_option maxHeartbeats 4000000
namespace Mine
open PySem PySem.Spec PyProof.Rows L2
/-! ### own errors -/
structure OwnExc (K : PySem.W.Frag) (C : Addr) : Prop where
  ex : PySem.W.excIn K C He.veBase "ValueError.__new__" = true
  kp : PySem.W.keepIn K (.ref C) = true
  sb : PySem.W.subIn K (.ref C) (.type "BaseException") = some true
  ty : PySem.W.typeIn K (.ref C) = some (.type "type")
theorem mk0 {X : Cx} {x : Str} {C : Addr} {p pos : Pos} (e : OwnExc X.K C) (g : X.mg x = some (.ref C)) (hg : Gl X x) (hd : (x == ("__debug__" : Str)) = false := by decide) :
    PMk X (.Call (.Name x p) [] [] pos) (fun _ H Q => Q (.ref C) none H) := by
  intro pn st sg Hh Qq J hq
  refine wpAny_Call_Name_kw (ld_glob J hg g ?_ hd)
  refine PySem.W.callWith_K0 J.kIn e.kp ?_
  have J2 := J
  obtain ⟨bm, N, nm, qn, bs, hdct, sn, sub, ab, col, dd, k0, k1, k2, k3, k5, mN, hC, hN, hni, T⟩ := exc_obj J.kIn e.ex
  obtain ⟨hp, g1, d1, tk, os⟩ := st
  exact wpAny_call_exc_subT PySem.F.excBase_ValueError T hC hN hni (fun h' a hm => mk_of J hm (raises_own e.sb e.ty) hq (J.hok.gone hm.new)) (Nat.zero_le _)
/-! ### len(set(xs)), xs whole numbers -/
def tLenD (K : PySem.W.Frag) (ta : TE) : TE := fun σ H Q => ta σ H fun x H1 => ∃ (l : Addr) (ns : List Int), x = V.ref l ∧ SqL K H1 l (ns.map V.int) ∧ ns.length ≤ 4000 ∧
  ∀ m : Nat, m = (firstMet (fun i => ns.getD i 0) ns.length).length → Q (.int m) H1
theorem firstMet_le (f : Nat → Int) : ∀ n, (firstMet f n).length ≤ n
  | 0 => Nat.le_refl _
  | n + 1 => by
    rw [firstMet_succ]
    unfold step_dedup
    have := firstMet_le f n
    split
    · omega
    · rw [List.length_append]; show _ + 1 ≤ _; omega
theorem pe_lenSetD {X : Cx} {a : Expr} {ta : TE} {p p2 q pos : Pos} (hc : X.calm = true) (hg : Gl X "len") (hm : X.mg "len" = none) (hg2 : Gl X "set") (hm2 : X.mg "set" = none) (ha : PE X a ta)
    (na : starEach [a] X.env = (false, eval a X.env) :: starEach [] X.env := by rfl) : PE X (.Call (.Name "len" p) [.Call (.Name "set" p2) [a] [] q] [] pos) (tLenD X.K ta) := by
  refine ⟨fun pn st sg Hh Qq J hq => ?_⟩
  refine Call_ (ld_blt J hg hm PySem.boot_len ?_)
  refine callWith_builtin1 (args_cons ?_ rfl) rfl rfl
  refine Call_ (ld_blt J hg2 hm2 PyProof.Rows.boot_set ?_)
  refine callWith_type1 (args_cons (thn (ha.run pn st sg Hh _ J hq) fun v s1 ⟨x, H1, J1, r1, q1⟩ => args_nil ?_) na) na rfl
  obtain ⟨l, ns, rfl, hs, hl, q1⟩ := q1
  cases r1
  obtain ⟨its, rv, pl, hz⟩ := J1.list hs
  have e1 : its.toArray.size = ns.length := by rw [List.size_toArray, ← rv.length, List.length_map]
  refine call_set_list (J1.ok.hd hc) pl.isList (ns := ns) (by simpa using rv.ints) (by rw [e1]; unfold scanBound; omega) fun h' tk hS hk => ?_
  rw [e1] at hS
  refine args_nil ?_
  obtain ⟨o, es, ep, t, ho, hex, hd, _, _, _, hf, hn⟩ := hS
  have le := firstMet_le (fun i => ns.getD i 0) ns.length
  have J2 : Inv X pn sg H1 { s1 with heap := h', toks := tk } := J1.kept fun b o e => hk b o (Heap.lt_size e) e
  exact call_len_set ho hex hd hf (by rw [hn]; omega) ⟨.int _, H1, J2.tok _, ⟨_, by rw [hn]⟩, q1 _ rfl⟩
/-! ### rules in a form that simp can read -/
section
variable {X : Cx}
theorem OpR.weak {f : Value → Value → Sem Value} {r r' : R2} (h : OpR X f r) (m : ∀ x y H Q, r' x y H Q → r x y H Q) : OpR X f r' :=
  fun pn st sg Hh x y u v Qq J rx ry hq => h pn st sg Hh x y u v Qq J rx ry (m _ _ _ _ hq)
theorem IxR.weak {r r' : R2} (h : IxR X r) (m : ∀ x y H Q, r' x y H Q → r x y H Q) : IxR X r' :=
  fun e1 e2 pn st sg Hh x y u v Qq J rx ry hq => h e1 e2 pn st sg Hh x y u v Qq J rx ry (m _ _ _ _ hq)
theorem CallR.weak {f : Value} {r r' : List V → Hp → VK → Prop} (h : CallR X f r) (m : ∀ xs H Q, r' xs H Q → r xs H Q) : CallR X f r' :=
  fun pn st sg Hh xs us Qq J rx hq => h pn st sg Hh xs us Qq J rx (m _ _ _ hq)
theorem call_intI : CallR X (.type "int") (fun xs H Q => ∃ i, xs = [.int i] ∧ Q (.int i) H) := CallR.weak call_int1 fun _ _ _ => .inl
def rIxH : R2 := fun x y H Q => ∃ p i xs v, x = .ref p ∧ y = .int i ∧ H p = some (.lst xs) ∧ atI xs i = some v ∧ Q v H
theorem ix_H : IxR X rIxH := IxR.weak ix_list fun _ _ _ _ ⟨p, i, xs, z, e1, e2, e3, e4, q⟩ => ⟨p, xs, i, z, e1, e2, .inl (.inl e3), e4, q⟩
def rIxTH : R2 := fun x y H Q => ∃ p i xs v, x = .ref p ∧ y = .int i ∧ H p = some (.tup xs) ∧ atI xs i = some v ∧ Q v H
theorem ix_TH : IxR X rIxTH := IxR.weak ix_tup fun _ _ _ _ ⟨p, i, xs, z, e1, e2, e3, e4, q⟩ => ⟨p, xs, i, z, e1, e2, .inl (.inl e3), e4, q⟩
theorem call_lenL : CallR X (.builtin "len") (fun xs H Q => ∃ p ys, xs = [.ref p] ∧ H p = some (.lst ys) ∧ Q (.int ys.length) H) :=
  CallR.weak call_len_seq fun _ _ _ ⟨p, ys, e1, e2, q⟩ => ⟨p, ys, e1, .inl (.inl (.inl e2)), q⟩
theorem call_lenT : CallR X (.builtin "len") (fun xs H Q => ∃ p ys, xs = [.ref p] ∧ H p = some (.tup ys) ∧ Q (.int ys.length) H) :=
  CallR.weak call_len_seq fun _ _ _ ⟨p, ys, e1, e2, q⟩ => ⟨p, ys, e1, .inr (.inl (.inl e2)), q⟩
end
theorem call_tupL {X : Cx} : CallR X (.type "tuple") (fun xs H Q => ∃ p ys, xs = [.ref p] ∧ H p = some (.lst ys) ∧ ∀ l, H l = none → Q (.ref l) (upd H l (.tup ys))) :=
  CallR.weak call_tuple_of fun _ _ _ ⟨p, ys, e1, e2, q⟩ => ⟨p, ys, e1, .inl ⟨.inl (.inl e2), q⟩⟩
theorem call_tupT {X : Cx} : CallR X (.type "tuple") (fun xs H Q => ∃ p ys, xs = [.ref p] ∧ H p = some (.tup ys) ∧ Q (.ref p) H) :=
  CallR.weak call_tuple_of fun _ _ _ ⟨p, ys, e1, e2, q⟩ => ⟨p, ys, e1, .inr ⟨.inl (.inl e2), q⟩⟩
theorem call_listL {X : Cx} : CallR X (.type "list") (fun xs H Q => ∃ p ys, xs = [.ref p] ∧ H p = some (.lst ys) ∧ ∀ l, H l = none → Q (.ref l) (upd H l (.lst ys))) :=
  CallR.weak call_list_of fun _ _ _ ⟨p, ys, e1, e2, q⟩ => ⟨p, ys, e1, .inl (.inl (.inl e2)), q⟩
theorem call_listT {X : Cx} : CallR X (.type "list") (fun xs H Q => ∃ p ys, xs = [.ref p] ∧ H p = some (.tup ys) ∧ ∀ l, H l = none → Q (.ref l) (upd H l (.lst ys))) :=
  CallR.weak call_list_of fun _ _ _ ⟨p, ys, e1, e2, q⟩ => ⟨p, ys, e1, .inr (.inl (.inl e2)), q⟩
theorem wipe_1 (x : Option V) (a : Option V) : wipe [a, x] [1] = [a, none] := rfl
theorem tyL {K : PySem.W.Frag} {H : Hp} {p : Addr} {xs : List V} (h : H p = some (.lst xs)) : tyV K "list" (.ref p) H := .inl ⟨rfl, xs, .inl (.inl h)⟩
/-! ### isinstance -/
/-- what the layer can tell the kind of -/
def Kd (K : PySem.W.Frag) (H : Hp) : V → Prop
  | .non => True
  | .bl _ => True
  | .int _ => True
  | .str _ => True
  | .ref a => (∃ xs, SqL K H a xs) ∨ ∃ xs, SqT K H a xs
  | _ => False
def isIntV : V → Bool
  | .int _ => true
  | .bl _ => true
  | _ => false
def isBlV : V → Bool
  | .bl _ => true
  | _ => false
def isStrV : V → Bool
  | .str _ => true
  | _ => false
theorem tyx_L {K : PySem.W.Frag} {H : Hp} {a : Addr} {xs : List V} (h : SqL K H a xs) : TyX K H (.ref a) (.type "list") := by
  rcases h with (h | ⟨o, h⟩) | ⟨o, its, n, h, c, _⟩
  · exact .base (.lst h)
  · exact .base (.frz h)
  · exact .kList h c
theorem tyx_T {K : PySem.W.Frag} {H : Hp} {a : Addr} {xs : List V} (h : SqT K H a xs) : TyX K H (.ref a) (.type "tuple") := by
  rcases h with (h | ⟨o, h⟩) | ⟨o, its, n, h, c, _⟩
  · exact .base (.tup h)
  · exact .fTuple h
  · exact .kTuple h c
theorem kb_NoneType_int : kitB "NoneType" "int" = some false := by decide +kernel
theorem kb_NoneType_bool : kitB "NoneType" "bool" = some false := by decide +kernel
theorem kb_NoneType_str : kitB "NoneType" "str" = some false := by decide +kernel
theorem kb_NoneType_tuple : kitB "NoneType" "tuple" = some false := by decide +kernel
theorem kb_NoneType_list : kitB "NoneType" "list" = some false := by decide +kernel
theorem kb_bool_int : kitB "bool" "int" = some true := by decide +kernel
theorem kb_bool_bool : kitB "bool" "bool" = some true := by decide +kernel
theorem kb_bool_str : kitB "bool" "str" = some false := by decide +kernel
theorem kb_bool_tuple : kitB "bool" "tuple" = some false := by decide +kernel
theorem kb_bool_list : kitB "bool" "list" = some false := by decide +kernel
theorem kb_int_int : kitB "int" "int" = some true := by decide +kernel
theorem kb_int_bool : kitB "int" "bool" = some false := by decide +kernel
theorem kb_int_str : kitB "int" "str" = some false := by decide +kernel
theorem kb_int_tuple : kitB "int" "tuple" = some false := by decide +kernel
theorem kb_int_list : kitB "int" "list" = some false := by decide +kernel
theorem kb_str_int : kitB "str" "int" = some false := by decide +kernel
theorem kb_str_bool : kitB "str" "bool" = some false := by decide +kernel
theorem kb_str_str : kitB "str" "str" = some true := by decide +kernel
theorem kb_str_tuple : kitB "str" "tuple" = some false := by decide +kernel
theorem kb_str_list : kitB "str" "list" = some false := by decide +kernel
theorem kb_list_int : kitB "list" "int" = some false := by decide +kernel
theorem kb_list_bool : kitB "list" "bool" = some false := by decide +kernel
theorem kb_list_str : kitB "list" "str" = some false := by decide +kernel
theorem kb_list_tuple : kitB "list" "tuple" = some false := by decide +kernel
theorem kb_list_list : kitB "list" "list" = some true := by decide +kernel
theorem kb_tuple_int : kitB "tuple" "int" = some false := by decide +kernel
theorem kb_tuple_bool : kitB "tuple" "bool" = some false := by decide +kernel
theorem kb_tuple_str : kitB "tuple" "str" = some false := by decide +kernel
theorem kb_tuple_tuple : kitB "tuple" "tuple" = some true := by decide +kernel
theorem kb_tuple_list : kitB "tuple" "list" = some false := by decide +kernel
theorem Kd.ty {K : PySem.W.Frag} {H : Hp} {x : V} (h : Kd K H x) : ∃ t : String, TyX K H x (.type t) ∧ kitB t "int" = some (isIntV x) ∧ kitB t "bool" = some (isBlV x) ∧ kitB t "str" = some (isStrV x) := by
  cases x with
  | non => exact ⟨_, .base .non, kb_NoneType_int, kb_NoneType_bool, kb_NoneType_str⟩
  | bl b => exact ⟨_, .base (.bl b), kb_bool_int, kb_bool_bool, kb_bool_str⟩
  | int i => exact ⟨_, .base (.int i), kb_int_int, kb_int_bool, kb_int_str⟩
  | str z => exact ⟨_, .base (.str z), kb_str_int, kb_str_bool, kb_str_str⟩
  | ref a =>
    rcases h with ⟨xs, h⟩ | ⟨xs, h⟩
    · exact ⟨_, tyx_L h, kb_list_int, kb_list_bool, kb_list_str⟩
    · exact ⟨_, tyx_T h, kb_tuple_int, kb_tuple_bool, kb_tuple_str⟩
  | byt b => cases h
  | flt b => cases h
  | ty n => cases h
section
variable {X : Cx}
theorem call_isInt : CallR X (.builtin "isinstance") (fun xs H Q => ∃ x, xs = [x, .ty "int"] ∧ Kd X.K H x ∧ Q (.bl (isIntV x)) H) :=
  CallR.weak call_isi fun _ _ _ ⟨x, e, k, q⟩ => by
    obtain ⟨t, ty, h, _⟩ := k.ty
    exact ⟨x, _, _, _, _, e, .ty "int", ty, kit_ty h, q⟩
theorem call_isBool : CallR X (.builtin "isinstance") (fun xs H Q => ∃ x, xs = [x, .ty "bool"] ∧ Kd X.K H x ∧ Q (.bl (isBlV x)) H) :=
  CallR.weak call_isi fun _ _ _ ⟨x, e, k, q⟩ => by
    obtain ⟨t, ty, _, h, _⟩ := k.ty
    exact ⟨x, _, _, _, _, e, .ty "bool", ty, kit_ty h, q⟩
theorem call_isStr : CallR X (.builtin "isinstance") (fun xs H Q => ∃ x, xs = [x, .ty "str"] ∧ Kd X.K H x ∧ Q (.bl (isStrV x)) H) :=
  CallR.weak call_isi fun _ _ _ ⟨x, e, k, q⟩ => by
    obtain ⟨t, ty, _, _, h⟩ := k.ty
    exact ⟨x, _, _, _, _, e, .ty "str", ty, kit_ty h, q⟩
/-- b tells whether x is a tuple -/
def IsTupV (K : PySem.W.Frag) (H : Hp) (x : V) (b : Bool) : Prop := match x with
  | .non => b = false
  | .bl _ => b = false
  | .int _ => b = false
  | .str _ => b = false
  | .ref a => (b = false ∧ ∃ xs, SqL K H a xs) ∨ (b = true ∧ ∃ xs, SqT K H a xs)
  | _ => False
theorem call_isTup : CallR X (.builtin "isinstance") (fun xs H Q => ∃ x b, xs = [x, .ty "tuple"] ∧ IsTupV X.K H x b ∧ Q (.bl b) H) :=
  CallR.weak call_isi fun _ H _ ⟨x, b, e, k, q⟩ => by
    have : ∃ t : String, TyX X.K H x (.type t) ∧ kitB t "tuple" = some b := by
      cases x with
      | non => cases k; exact ⟨_, .base .non, kb_NoneType_tuple⟩
      | bl b => cases k; exact ⟨_, .base (.bl b), kb_bool_tuple⟩
      | int i => cases k; exact ⟨_, .base (.int i), kb_int_tuple⟩
      | str z => cases k; exact ⟨_, .base (.str z), kb_str_tuple⟩
      | ref a =>
        rcases k with ⟨rfl, xs, h⟩ | ⟨rfl, xs, h⟩
        · exact ⟨_, tyx_L h, kb_list_tuple⟩
        · exact ⟨_, tyx_T h, kb_tuple_tuple⟩
      | byt b => cases k
      | flt b => cases k
      | ty n => cases k
    obtain ⟨t, ty, h⟩ := this
    exact ⟨x, _, _, _, _, e, .ty "tuple", ty, kit_ty h, q⟩
end
/-! ### loops -/
def Loop (J : It) (g : TG) (tb : TS) (D : Ends) (σ : L2.St) (H1 : Hp) : Prop := ∃ W : Nat → Nat → L2.St → Hp → Prop, (∃ m, W 0 m σ H1) ∧ ∀ i m σ H, W i m σ H →
  (J.stop i H ∧ D.nx σ H) ∨ (J.go i H ∧ ∃ N : L2.St → Hp → Prop, (∀ s' H', N s' H' → ∃ m', m' < m ∧ W (i + 1) m' s' H') ∧ ∀ x H', J.yld i H x H' → g x σ H' fun σ2 H2 => tb { D with nx := N, ct := N, bk := D.nx } σ2 H2)
theorem tFor_eq (wi : TI) (g : TG) (tb : TS) (D : Ends) (σ : L2.St) (H : Hp) : tFor wi g tb D σ H = wi σ H (fun J H1 => Loop J g tb D σ H1) := rfl
def Lc (J : It) (g : TG) (tt : TT) (te : TE) (vs : List Nat) (D : Addr) (σ : L2.St) (H1 : Hp) (Q : VK) : Prop := ∃ W : Nat → Nat → Hp → Prop, (∃ m, W 0 m (upd H1 D (.lst []))) ∧ ∀ i m H, W i m H →
  (J.stop i H ∧ Q (.ref D) H) ∨ (J.go i H ∧ ∃ Nx : Hp → Prop, (∀ H', Nx H' → ∃ m', m' < m ∧ W (i + 1) m' H') ∧ ∀ x H', J.yld i H x H' → g x (wipe σ vs) H' fun s2 H2 => wipe s2 vs = wipe σ vs ∧ tt s2 H2 fun b H3 =>
    if b = true then te s2 H3 fun y H4 => ∃ acc, H4 D = some (.lst acc) ∧ acc.length < sizeLine ∧ Nx (upd H4 D (.lst (acc ++ [y]))) else Nx H3)
theorem tLc_eq (wi : TI) (g : TG) (tt : TT) (te : TE) (vs : List Nat) (σ : L2.St) (H : Hp) (Q : VK) : tLc wi g tt te vs σ H Q = wi σ H (fun J H1 => ∀ D, H1 D = none → Lc J g tt te vs D σ H1 Q) := rfl
section
variable {J : It} {n : Nat} {G : Hp → Prop} {Y : Nat → Hp → V → Hp → Prop}
theorem Loop.by (w : Walk J n G Y) {g : TG} {tb : TS} {D : Ends} {σ : L2.St} {H : Hp} (Pv : Nat → L2.St → Hp → Prop) (h0 : Pv 0 σ H) (hG : ∀ i σ H, i ≤ n → Pv i σ H → G H)
    (hs : ∀ i x σ H H', i < n → Pv i σ H → Y i H x H' → g x σ H' fun s2 H2 => tb { D with nx := Pv (i + 1), ct := Pv (i + 1), bk := D.nx } s2 H2) (hd : ∀ σ H, Pv n σ H → D.nx σ H) : Loop J g tb D σ H := for_it w Pv h0 hG hs hd
theorem Lc.by (w : Walk J n G Y) {g : TG} {tt : TT} {te : TE} {vs : List Nat} {σ : L2.St} {H1 : Hp} {D : Addr} {Q : VK} (Pv : Nat → Hp → Prop) (h0 : Pv 0 (upd H1 D (.lst []))) (hG : ∀ i H, i ≤ n → Pv i H → G H)
    (hs : ∀ i x H H', i < n → Pv i H → Y i H x H' → g x (wipe σ vs) H' fun s2 H2 => wipe s2 vs = wipe σ vs ∧ tt s2 H2 fun b H3 =>
      if b = true then te s2 H3 fun y H4 => ∃ acc, H4 D = some (.lst acc) ∧ acc.length < sizeLine ∧ Pv (i + 1) (upd H4 D (.lst (acc ++ [y]))) else Pv (i + 1) H3) (hd : ∀ H, Pv n H → Q (.ref D) H) : Lc J g tt te vs D σ H1 Q := lc_it w Pv h0 hG hs hd
end
/-! ### while; what only grows with what is wanted -/
def Mon (t : TE) : Prop := ∀ σ H (Q Q' : VK), (∀ v H', Q v H' → Q' v H') → t σ H Q → t σ H Q'
def MonT (t : TT) : Prop := ∀ σ H (Q Q' : Bool → Hp → Prop), (∀ v H', Q v H' → Q' v H') → t σ H Q → t σ H Q'
def MonR (r : R2) : Prop := ∀ x y H (Q Q' : VK), (∀ v H', Q v H' → Q' v H') → r x y H Q → r x y H Q'
theorem mon_var (i : Nat) : Mon (tVar i) := fun _ _ _ _ m ⟨v, e, q⟩ => ⟨v, e, m _ _ q⟩
theorem mon_c (v : V) : Mon (tC v) := fun _ _ _ _ m q => m _ _ q
theorem mon_op {r : R2} {ta tb : TE} (mr : MonR r) (ma : Mon ta) (mb : Mon tb) : Mon (tOp r ta tb) := fun σ H _ _ m q => ma σ H _ _ (fun _ H1 q1 => mb σ H1 _ _ (fun _ _ q2 => mr _ _ _ _ _ m q2) q1) q
theorem mon_rI (C : Int → Int → Prop) (g : Int → Int → V) : MonR (rI C g) := fun _ _ _ _ _ m ⟨i, j, e1, e2, c, q⟩ => ⟨i, j, e1, e2, c, m _ _ q⟩
theorem mon_rI0 (g : Int → Int → V) : MonR (rI0 g) := fun _ _ _ _ _ m ⟨i, j, e1, e2, q⟩ => ⟨i, j, e1, e2, m _ _ q⟩
theorem mon_rEq : MonR rEq := fun _ _ _ _ _ m ⟨e, q⟩ => ⟨e, m _ _ q⟩
theorem mon_rNe : MonR rNe := fun _ _ _ _ _ m ⟨e, q⟩ => ⟨e, m _ _ q⟩
theorem mon_test {t : TE} (h : Mon t) : MonT (tTest t) := fun σ H _ _ m q => h σ H _ _ (fun _ _ ⟨k, e, q1⟩ => ⟨k, e, m _ _ q1⟩) q
theorem mon_and {t u : TT} (h : MonT t) (k : MonT u) : MonT (tAnd t u) := fun σ H Q Q' m q => h σ H _ _ (fun b H1 q1 => by
  cases b
  · exact m _ _ q1
  · exact k σ H1 _ _ m q1) q
theorem mon_or {t u : TT} (h : MonT t) (k : MonT u) : MonT (tOr t u) := fun σ H Q Q' m q => h σ H _ _ (fun b H1 q1 => by
  cases b
  · exact k σ H1 _ _ m q1
  · exact m _ _ q1) q
def Less (W : Nat → L2.St → Hp → Prop) (m : Nat) (σ : L2.St) (H : Hp) : Prop := ∃ m', m' < m ∧ W m' σ H
theorem While.by {c : TT} {tb : TS} {D : Ends} {σ : L2.St} {H : Hp} (mc : MonT c) (W : Nat → L2.St → Hp → Prop) (m0 : Nat) (h0 : W m0 σ H)
    (hs : ∀ m σ H, W m σ H → c σ H fun b H1 => if b = true then tb { D with nx := Less W m, ct := Less W m, bk := D.nx } σ H1 else D.nx σ H1) : tWhile c tb D σ H :=
  ⟨W, ⟨m0, h0⟩, fun m σ H hw => mc σ H _ _ (fun b H1 q => by
    cases b
    · exact q
    · exact ⟨Less W m, fun _ _ h => h, q⟩) (hs m σ H hw)⟩
/-! ### heaps -/
theorem same_upd {H : Hp} {p : Addr} {o : HO} (h : H p = none) : Same H (upd H p o) := fun b x e => by
  rw [upd_ne (ne_of_none e h)]
  exact e
theorem upd_at {H : Hp} {a b : Addr} {o : HO} : upd H a o b = if b = a then some o else H b := rfl
/-- a comprehension that changes nothing but its own list: kept i is what turn i puts into it -/
theorem Lc.gen {J : It} {n j : Nat} {G : Hp → Prop} {Y : Nat → Hp → V → Hp → Prop} {tt : TT} {te : TE} {vs : List Nat} {D : Addr} {σ : L2.St} {H1 : Hp} {Q : VK} (wk : Walk J n G Y) (it : Nat → V) (kept : Nat → Option V)
    (hY : ∀ i H x H', i < n → Y i H x H' → H' = H ∧ x = it i) (hG : ∀ H', Same H1 H' → G H') (hD : H1 D = none) (hn : n ≤ 100000) (hw : ∀ i, wipe ((wipe σ vs).set j (some (it i))) vs = wipe σ vs)
    (step : ∀ i H (Qk : VK) (Qn : Hp → Prop), i < n → Same H1 H → (∀ y H4, Same H H4 → kept i = some y → Qk y H4) → (∀ H3, Same H H3 → kept i = none → Qn H3) →
      tt ((wipe σ vs).set j (some (it i))) H fun b H3 => if b = true then te ((wipe σ vs).set j (some (it i))) H3 Qk else Qn H3)
    (fin : ∀ H', Same H1 H' → H' D = some (.lst ((List.range n).filterMap kept)) → Q (.ref D) H') : Lc J (gName j) tt te vs D σ H1 Q := by
  refine Lc.by wk (fun i H => Same H1 H ∧ H D = some (.lst ((List.range i).filterMap kept))) ⟨same_upd hD, upd_same⟩ (fun i H _ p => hG H p.1) ?_ fun H p => fin H p.1 p.2
  rintro i x H H' hi ⟨sm, hd⟩ hy
  obtain ⟨rfl, rfl⟩ := hY i H x H' hi hy
  refine ⟨hw i, step i _ _ _ hi sm (fun y H4 s4 hk => ⟨_, s4 _ _ hd, ?_, fun b o e => ?_, ?_⟩) fun H3 s3 hk => ⟨sm.trans s3, ?_⟩⟩
  · refine Nat.lt_of_le_of_lt (Nat.le_trans (List.length_filterMap_le _ _) (by rw [List.length_range]; exact Nat.le_trans (Nat.le_of_lt hi) hn)) (by rw [sizeLine_eq]; omega)
  · rw [upd_ne (ne_of_none e hD)]; exact s4 _ _ (sm _ _ e)
  · rw [upd_same, List.range_succ, List.filterMap_append, List.filterMap_cons_some hk]; rfl
  · rw [s3 _ _ hd, List.range_succ, List.filterMap_append, List.filterMap_cons_none hk]; simp
section
variable {CX : CXT} {P : Program} {w : World} {K : PySem.W.Frag} {mg : Str → Option Value} {base : Heap} {N : List Str} {q : Str} {sc : Scope} {f : Addr} {cd : Value} {A : Around} {o : List Env} {s : Shared} {H : Hp} {E : XK}
theorem cx_K : (cxOf CX P w K mg base N q sc f cd A o s H E).K = K := rfl
theorem cx_prog : (cxOf CX P w K mg base N q sc f cd A o s H E).prog = P := rfl
theorem cx_w : (cxOf CX P w K mg base N q sc f cd A o s H E).w = w := rfl
theorem cx_nK : (cxOf CX P w K mg base N q sc f cd A o s H E).nox.K = K := rfl
end
theorem rEq_int (i j : Int) (H : Hp) (Q : VK) : rEq (.int i) (.int j) H Q = Q (.bl (decide (i = j))) H := by simp [rEq, scal]
theorem rNe_int (i j : Int) (H : Hp) (Q : VK) : rNe (.int i) (.int j) H Q = Q (.bl (!decide (i = j))) H := by simp [rNe, scal]
theorem rEq_bl (i j : Bool) (H : Hp) (Q : VK) : rEq (.bl i) (.bl j) H Q = Q (.bl (decide (i = j))) H := by simp [rEq, scal]
theorem rNe_bl (i j : Bool) (H : Hp) (Q : VK) : rNe (.bl i) (.bl j) H Q = Q (.bl (!decide (i = j))) H := by simp [rNe, scal]
theorem rEq_str (i j : Str) (H : Hp) (Q : VK) : rEq (.str i) (.str j) H Q = Q (.bl (decide (i = j))) H := by simp [rEq, scal]
theorem rNe_str (i j : Str) (H : Hp) (Q : VK) : rNe (.str i) (.str j) H Q = Q (.bl (!decide (i = j))) H := by simp [rNe, scal]
theorem atI_0 {α : Type} (a : α) (r : List α) : atI (a :: r) 0 = some a := atI_nat (j := 0) rfl
theorem atI_1 {α : Type} (a b : α) (r : List α) : atI (a :: b :: r) 1 = some b := atI_nat (j := 1) rfl
theorem atI_2 {α : Type} (a b c : α) (r : List α) : atI (a :: b :: c :: r) 2 = some c := atI_nat (j := 2) rfl
theorem atI_3 {α : Type} (a b c d : α) (r : List α) : atI (a :: b :: c :: d :: r) 3 = some d := atI_nat (j := 3) rfl
theorem ixN_4_0 : ixN 4 0 = some 0 := rfl
theorem ixN_4_1 : ixN 4 1 = some 1 := rfl
theorem ixN_4_2 : ixN 4 2 = some 2 := rfl
theorem ixN_4_3 : ixN 4 3 = some 3 := rfl
theorem some_lst {a b : List V} : (some (HO.lst a) = some (HO.lst b)) = (a = b) := by simp
theorem some_tup {a b : List V} : (some (HO.tup a) = some (HO.tup b)) = (a = b) := by simp
/-! ### the head: facts by names, and one more Bool -/
def obsM (n : Nat) (fa : List He.Fa) (fn : List He.DefD) (ex : PySem.W.Frag → Bool) (g : Addr → Option Obj) : He.AlD × Bool := (He.obsDG n fa fn g, ex (He.frG g (He.asD g n)))
def hookM (n : Nat) (fa : List He.Fa) (fn : List He.DefD) (ex : PySem.W.Frag → Bool) : PySem.W.Hook where
  α := He.AlD × Bool
  obs := fun s => obsM n fa fn ex s.heap.get?
  val := fun _ => (He.valD fn, true)
  says := fun _ h => ∃ K : PySem.W.Frag, K.In h ∧ He.SaysD fa fn K ∧ ex K = true
  of := fun _ _ e => ⟨_, He.frG_in, congrArg (fun z : He.AlD × Bool => z.1) e, congrArg (fun z : He.AlD × Bool => z.2) e⟩
  keeps := fun _ _ _ ⟨K, hK, c⟩ k => ⟨K, PySem.W.Frag.In.keeps hK k, c⟩
theorem obsM_eq {n : Nat} {fa : List He.Fa} {fn : List He.DefD} {ex : PySem.W.Frag → Bool} {g : Addr → Option Obj} {s : Shared} (h : ∀ a, g a = s.heap.get? a) : obsM n fa fn ex g = (hookM n fa fn ex).obs s := by
  have e : g = s.heap.get? := funext h
  rw [e] <;> rfl
theorem own_of {K : PySem.W.Frag} {x : Str} (c : (He.Fa.exc x).ok K = true) : OwnExc K (He.ga K x) := by
  obtain ⟨a, b, d, e⟩ := He.exc_ok c
  exact ⟨a, b, d, e⟩
/-- the module's name x stands for this built-in -/
def isB (x : Str) (id : String) (K : PySem.W.Frag) : Bool := He.eqO (PySem.W.nsIn K mainGlobals x) (some (some (.builtin id)))
theorem isB_ok {K : PySem.W.Frag} {h : Heap} {mg : Str → Option Value} (X : K.In h) (G : h.Ns mainGlobals mg) {x : Str} {id : String} (c : isB x id K = true) : mg x = some (.builtin id) := PySem.W.mg_of X G (He.eqO_ok c)
end Mine

namespace Mine
open PySem PySem.Spec PyProof.Rows L2
/-! ### own errors that keep what they are given -/
def oexB (K : PySem.W.Frag) (C : Addr) : Bool := match K.lookup C with
  | some ⟨.type "type", _, .cls cd, sl⟩ => (match cd.mro, sl.toList with
    | .ref C' :: bm, [_, _, _, _, some (.builtin n), _] => C' == C && (n == "ValueError.__new__" && (!cd.hasDel && (cd.hasDict && PySem.HandSPX.refsVE bm)))
    | _, _ => false)
  | _ => false
theorem oexB_cls {K : PySem.W.Frag} {C : Addr} (q : oexB K C = true) : ∃ nm q N bs bm sn sub ab col dd k0 k1 k2 k3 k5, K.lookup C = some (excClassObj nm q C N bs bm true sn sub ab col dd k0 k1 k2 k3 k5 "ValueError.__new__") ∧ PySem.HandSPX.refsVE bm = true := by
  unfold oexB at q
  split at q
  · rename_i dd cd sl ho
    split at q
    · rename_i C' bm k0 k1 k2 k3 n k5 hm hs
      simp only [Bool.and_eq_true, beq_iff_eq, Bool.not_eq_true'] at q
      obtain ⟨rfl, rfl, hdel, hdict, hb⟩ := q
      obtain ⟨nm, bs, mro, ns, qn, hd, sn, sub, ab, col, del⟩ := cd
      dsimp only at hm hdel hdict
      subst hm hdel hdict
      obtain ⟨l⟩ := sl
      simp only at hs
      subst hs
      exact ⟨nm, qn, ns, bs, bm, sn, sub, ab, col, dd, k0, k1, k2, k3, k5, ho, hb⟩
    · cases q
  · cases q
/-- the class at C: its __init__ at fI puts what it is given into f -/
structure FldExc (K : PySem.W.Frag) (C fI : Addr) : Prop where
  o : OexC K C
  ini : PySem.W.findIn K (.ref C) "__init__" = some (some (.ref fI))
  ty : PySem.W.typeIn K (.ref fI) = some (.type "function")
  x : XfC K C
def fexB (K : PySem.W.Frag) (x : Str) : Bool := oexB K (He.ga K x) && (He.eqO (PySem.W.findIn K (.ref (He.ga K x)) "__setattr__") (some (some (.builtin "object.__setattr__"))) && (decide (PySem.W.subIn K (.ref (He.ga K x)) (.type "BaseException") = some true) &&
  (decide (PySem.W.typeIn K (.ref (He.ga K x)) = some (.type "type")) && (PySem.W.keepIn K (.ref (He.ga K x)) && (He.eqO (PySem.W.findIn K (.ref (He.ga K x)) "__init__") (some (some (.ref (He.ma K (He.ga K x) "__init__")))) &&
  (decide (PySem.W.typeIn K (.ref (He.ma K (He.ga K x) "__init__")) = some (.type "function")) && xfB K (He.ga K x)))))))
theorem fexB_ok {K : PySem.W.Frag} {x : Str} (h : fexB K x = true) : FldExc K (He.ga K x) (He.ma K (He.ga K x) "__init__") := by
  obtain ⟨a, h⟩ := He.ba h
  obtain ⟨b, h⟩ := He.ba h
  obtain ⟨c, h⟩ := He.ba h
  obtain ⟨d, h⟩ := He.ba h
  obtain ⟨e, h⟩ := He.ba h
  obtain ⟨f, h⟩ := He.ba h
  obtain ⟨g, i⟩ := He.ba h
  exact ⟨⟨oexB_cls a, He.eqO_ok b, of_decide_eq_true c, of_decide_eq_true d, e⟩, He.eqO_ok f, of_decide_eq_true g, xfB_ok i⟩
theorem PMk.asks {X : Cx} {e : Expr} {t t' : L2.St → Hp → XK → Prop} (h : PMk X e t) (m : ∀ σ H Q, t' σ H Q → t σ H Q) : PMk X e t' := fun pn st sg Hh Qq J hq => h pn st sg Hh Qq J (m _ _ _ hq)
/-- what such an __init__ does -/
def spFld (C : Addr) (f : Str) : Sp := fun vs H Q _ => ∃ (a : Addr) (v : V), vs = [.ref a, v] ∧ H a = some (exo a C none) ∧ ∀ dx, H dx = none → dx ≠ a → Q .non (upd (upd H dx (exd dx [(f, v)])) a (exo a C (some dx)))
/-- X(e): the error's own dict at d -/
def tMk1 (C : Addr) (f : Str) (te : TE) : L2.St → Hp → XK → Prop := fun σ H Q => te σ H fun v H1 => ∀ d H', Same H1 H' → H1 d = none → H' d = some (.xd [(f, v)]) → Q (.ref C) (some d) H'
theorem mk1 {X : Cx} {x f : Str} {C fI : Addr} {k : Nat} {fd : FuncData} {e : Expr} {te : TE} {p pos : Pos} {ps : List Str} (T : FldExc X.K C fI) (g : X.mg x = some (.ref C)) (F1 : FnOk X.prog X.w X.K X.mg X.base CX0 k fI fd ps (spFld C f)) (hb : Binds X.K fd ps []) (hr : Room (k + 1) X.A)
    (mt : Mon te) (he : PE X e te) (hg : Gl X x) (hd : (x == ("__debug__" : Str)) = false := by decide) (hs : starEach (e :: []) X.env = (false, eval e X.env) :: starEach [] X.env := by rfl) (hpl : (backTo pos (starEach [] X.env)).any (·.1) = false := by rfl) :
    PMk X (.Call (.Name x p) [e] [] pos) (tMk1 C f te) := by
  refine PMk.asks (pmk_oex (dvs := []) (ds := []) T.o T.ini T.ty F1 hr hb .nil (fun _ _ _ _ _ _ _ h => h.elim) hg g (pa_cons he pa_nil hs) hd hs hpl) fun σ H Q h => ?_
  refine mt σ H _ _ (fun v H1 q => ?_) h
  show [v].length ≤ 1000 ∧ ∀ a, H1 a = none → spFld C f (.ref a :: ([v] ++ [])) (upd H1 a (exo a C none)) _ _
  refine ⟨by show 1 ≤ 1000; decide, fun a ha => ⟨a, v, rfl, upd_same, fun dx hdx ne => ⟨rfl, dx, [(f, v)], upd_same, ?_, ?_, ?_⟩⟩⟩
  · rw [upd_ne ne, upd_same]
  · rw [upd_ne ne] at hdx; exact hdx
  · have h1 : H1 dx = none := by rw [upd_ne ne] at hdx; exact hdx
    refine q dx _ (fun b o eb => ?_) h1 upd_same
    have nb : b ≠ a := ne_of_none eb ha
    have nd : b ≠ dx := ne_of_none eb h1
    rw [upd_ne nd, del_ne nb, upd_ne nb, upd_ne nd, upd_ne nb]; exact eb
end Mine

namespace PySem
set_option maxHeartbeats 8000000 in
theorem mine_enum_newB {v : Value} {o : Obj} {H : Heap → Prop} (B : Begins v o H) :
    Meets (Builtin.«enumerate.__new__» ⟨[.type "enumerate", v], []⟩) (fun _ R s => H s.heap ∧
      R (.ok (.ret (.ref (s.heap.push o).objs.size))) { s with heap := (s.heap.push o).push { cls := .type "enumerate", data := .fields #[.none, .bool false, .ref s.heap.objs.size, rawInt 0, .none, .none] } }) :=
  .of_wp fun prog w A R s h => by
    obtain ⟨hp, g, d, tk, os⟩ := s; obtain ⟨h1, h⟩ := h
    have hsub := sub_enumerate
    have q1 : ∀ {A' : Around} {E : Value → Shared → Prop} {Q : Value → Shared → Prop}, Q (.ref hp.objs.size) ⟨hp.push o, g, d, tk, os⟩ → wpAny (model prog w) A' (pyIter v) Q E ⟨hp, g, d, tk, os⟩ :=
      fun q => B.iter prog w _ _ ⟨hp, g, d, tk, os⟩ _ h1 q
    wp_walk using q1
    refine wpAny_stack_any fun st => wpAny_pure ?_
    split
    · rename_i c _ _ _ _ _
      cases (c == Value.type "enumerate")
      · wp_walk using q1
        exact ⟨_, rfl, h⟩
      · wp_walk using q1
        exact ⟨_, rfl, h⟩
    · wp_walk using q1
      exact ⟨_, rfl, h⟩
section
variable {prog : Program} {w : World} {A : Around} {E : Value → Shared → Prop} {s : Shared}
theorem mine_enum_call {v : Value} {o : Obj} {H : Heap → Prop} {Q : Value → Shared → Prop} (B : Begins v o H) (h1 : H s.heap)
    (h : ∀ h', IsEnum h' (s.heap.objs.size + 1) s.heap.objs.size 0 .none → h'.get? s.heap.objs.size = some o → h'.objs.size = s.heap.objs.size + 2 →
      (∀ b o, s.heap.get? b = some o → h'.get? b = some o) → Q (.ref (s.heap.objs.size + 1)) { s with heap := h' }) :
    wpAny (model prog w) A (call (.type "enumerate") [v]) Q E s := by
  refine callType_new F.called_enumerate (by decide) (F.typeCall_enumerate_1 _) (F.newCall_enumerate_1 _) (fun obj => F.args_object_init_2 obj _) F.entry_enumerate_new
    (mine_enum_newB B) ⟨h1, ?_⟩
  have hz : (s.heap.push o).objs.size = s.heap.objs.size + 1 := Heap.size_push ..
  show _ ∧ _
  rw [hz]
  have he : IsEnum ((s.heap.push o).push { cls := .type "enumerate", data := .fields #[.none, .bool false, .ref s.heap.objs.size, rawInt 0, .none, .none] }) (s.heap.objs.size + 1) s.heap.objs.size 0 .none := by
    have := Heap.get?_push_size (s.heap.push o) (o := { cls := .type "enumerate", data := .fields #[.none, .bool false, .ref s.heap.objs.size, rawInt 0, .none, .none] }) rfl
    rw [hz] at this; exact this
  refine ⟨⟨_, he, rfl⟩, h _ he (Heap.get?_push_of_some _ (Heap.get?_push_size _ B.free)) (by rw [Heap.size_push, hz]) fun b o x => Heap.get?_push_of_some _ (Heap.get?_push_of_some _ x)⟩
end
end PySem
namespace Mine
open PySem PySem.Spec PyProof.Rows L2
/-! ### enumerate over a tuple -/
def IteT (K : PySem.W.Frag) (a : Addr) : It :=
  ⟨fun i H => ∃ (xs : List V) (x : V), SqT K H a xs ∧ xs[i]? = some x, fun i H v H' => ∃ T x, v = .ref T ∧ H T = none ∧ H' = upd H T (.tup [.int (i : Nat), x]) ∧ ∀ xs, SqT K H a xs → xs[i]? = some x, fun i H => ∃ xs : List V, SqT K H a xs ∧ xs.length ≤ i⟩
theorem turn_enumT {P : Program} {w : World} {K : PySem.W.Frag} {elts : List Expr} {kk : Nat} {tpos : Pos} (a e it : Addr) (ha : a ≠ it) (hae : e ≠ a) :
    Turn P w K (.Tuple elts kk tpos) (IteT K a) [e, it] e (fun i h => (∃ old, IsEnum h e it ((i : Nat) : Int) old) ∧ h.IsTupleIter it a i ∧ e ≠ it) where
  mem := by simp
  obj := fun i h st b hb => by
    obtain ⟨⟨old, he⟩, ⟨o, ho, hc, hd⟩, _⟩ := st
    have e' : b = e ∨ b = it := by simpa using hb
    rcases e' with z | z
    · rw [z]; exact ⟨_, he, fun v q => nomatch q⟩
    · rw [z]; exact ⟨o, ho, fun v q => by rw [hd] at q; cases q⟩
  keep := fun i h h' st k => let ⟨⟨old, he⟩, hi, hne⟩ := st; ⟨⟨old, k e (by simp) _ he⟩, hi.at fun o q => k it (by simp) o q, hne⟩
  item := by
    intro X hP hw hK hc i pins s σ H E I hf st hg
    subst hP hw hK
    obtain ⟨⟨old, he⟩, hit, hne⟩ := st
    obtain ⟨xs, x, hq, hx⟩ := hg
    obtain ⟨its, rv, p, hz⟩ := I.tuple hq
    obtain ⟨u, hu, ru⟩ := rv.get hx
    have hel : e < s.heap.objs.size := Heap.lt_size he
    have hil : it < s.heap.objs.size := by obtain ⟨_, q, _⟩ := hit; exact Heap.lt_size q
    have pt : s.heap.IsTuple a its.toArray := p
    have hlt : i < its.toArray.size := by
      have := List.getElem?_eq_some_iff.mp hu
      obtain ⟨h, _⟩ := this
      simpa using h
    refine wpAny_pyNext_enum_itemD (i := i) (Draws.tuple (A := X.A.in1) (I.ok.hd hc) it a ha its.toArray) he ⟨hit, pt⟩ hlt hne (by simp [hne, hae]) fun x' h' tk hP ho hs' hT hsz hk => ?_
    have ex : x' = u := by
      have z : its.toArray[i]? = some u := by simpa using hu
      rw [hP] at z; exact Option.some.inj z
    subst ex
    refine ⟨_, rfl, wpAny_letOwnedTupleGo_enum (s := { s with heap := h', toks := tk + 1 }) ho fun h'' he' sb => ?_⟩
    have hT2 : h''.get? s.heap.objs.size = some { cls := .type "tuple", data := .seq #[.int i tk, x'] } := (sb.2 _ (Nat.ne_of_gt hel)).trans hT
    have new : ObjOk X.prog X.w (upd H s.heap.objs.size (.tup [.int (i : Nat), x])) h'' s.heap.objs.size (.tup [.int (i : Nat), x]) :=
      ⟨by show 2 ≤ sizeLine; decide, [.int i tk, x'], .cons ⟨_, rfl⟩ (.cons ru .nil), ⟨_, hT2, rfl, _, rfl⟩⟩
    have I1 : Inv X pins σ (upd H s.heap.objs.size (.tup [.int (i : Nat), x])) { s with heap := h'', toks := tk + 1 } :=
      I.turnedNew (ch := [e, it]) (fun b ob hb q => (sb.2 b (fun z => hb (by simp [z]))).trans (hk b ob (fun z => hb (by simp [z])) (fun z => hb (by simp [z])) q)) hf (Nat.le_refl _) new
    refine ⟨.ref s.heap.objs.size, _, I1, rfl, ⟨_, x, rfl, I.hok.fresh (Nat.le_refl _), rfl, fun ys hy => by rw [I.tuple_inj hy hq]; exact hx⟩, ⟨⟨x', ?_⟩, hs'.1.at fun o q => (sb.2 it (Ne.symm hne)).trans q, hne⟩, fun b hb => ?_⟩
    · have e1 : ((i + 1 : Nat) : Int) = (i : Int) + 1 := by omega
      rw [e1]; exact he'
    · have hb' : b < s.heap.objs.size := by
        have e' : b = e ∨ b = it := by simpa using hb
        rcases e' with z | z
        · rw [z]; exact hel
        · rw [z]; exact hil
      rw [upd_ne (Nat.ne_of_lt hb')]
      exact (hf b hb).1
  done := by
    intro X hP hw hK hc i pins s σ H E I hf st hg
    subst hP hw hK
    obtain ⟨⟨old, he⟩, hit, hne⟩ := st
    obtain ⟨xs, hq, hx⟩ := hg
    obtain ⟨its, rv, p, hz⟩ := I.tuple hq
    obtain ⟨f0, f1, f2, f3, f4, f5⟩ := hf it (by simp)
    have hl := rv.length
    have pt : s.heap.IsTuple a its.toArray := p
    have hT : s.TypeIs (.ref e) "enumerate" := ⟨_, he, rfl⟩
    unfold pyNext
    refine wpAny_bind (wpAny_attempt (wpAny_callSpecial?_slot (name := Str.ofString "__next__") hT F.slot_enumerate_next
      (wpAny_call_entry F.slot_enumerate_next hT F.entry_enumerate_next ?_ (F.args_enumerate_next_1 _))))
    show wpAny _ _ (field (.ref e) 2 >>= _) _ _ _
    refine wpAny_bind (wpAny_field he rfl (x := .ref it) rfl ?_)
    refine wpAny_bind (wpAny_nextOf_tuple_end (I.ok.hd hc) hit pt (by simp; omega) fun h' x he' hx' => ?_)
    obtain ⟨o, ho, hc⟩ := hx'
    refine wpAny_bind (wpAny_isInstance (T := "StopIteration") (b := true) ⟨o, ho, hc⟩ isSubtype_stop ?_)
    exact wpAny_pure ⟨rfl, I.turned (t' := s.toks) (fun b o hb q => he' b o hb q) f0 f1 f3 f4 f5⟩
  self := fun A i s Q E st h => let ⟨⟨_, he⟩, _⟩ := st; wpAny_pyIter_enum he h
def iEnumT (K : PySem.W.Frag) (ta : TA) : TI := fun σ H R => ta σ H fun vs H1 => ∃ a xs, vs = [.ref a] ∧ SqT K H1 a xs ∧ R (IteT K a) H1
def iEnumA (K : PySem.W.Frag) (ta : TA) : TI := fun σ H R => ta σ H fun vs H1 => ∃ a xs, vs = [.ref a] ∧ ((SqL K H1 a xs ∧ R (Ite K a) H1) ∨ (SqT K H1 a xs ∧ R (IteT K a) H1))
theorem pi_enumA {X : Cx} {e : Expr} {ta : TA} {p pos tpos : Pos} {elts : List Expr} {kk : Nat} (hg : Gl X "enumerate") (hm : X.mg "enumerate" = none) (ha : PA X [e] ta) (hs : starEach [e] X.env = [(false, eval e X.env)] := by rfl) :
    PI X (.Tuple elts kk tpos) (.Call (.Name "enumerate" p) [e] [] pos) (iEnumA X.K ta) := by
  refine ⟨fun pins s σ H R I h => ?_⟩
  refine Call_ (ld_blt I hg hm boot_enumerate (PyProof.Rows.callWith_type1 (thn (ha.run pos pins s σ H _ I h) fun us s1 ⟨vs, H1, I1, r1, q1⟩ => ?_) hs rfl))
  obtain ⟨a, xs, ex, q1⟩ := q1
  subst ex
  cases r1 with
  | cons r rr =>
    cases rr
    cases r
    have fp2 : ∀ b ∈ [s1.heap.objs.size + 1, s1.heap.objs.size], FpOk X pins H1 b := fun b hb => by
      have e' : b = s1.heap.objs.size + 1 ∨ b = s1.heap.objs.size := by simpa using hb
      have hle : s1.heap.objs.size ≤ b := by
        rcases e' with z | z
        · rw [z]; exact Nat.le_add_right _ _
        · rw [z]; exact Nat.le_refl _
      exact I1.fpOk hle (I1.hok.fresh hle)
    rcases q1 with ⟨hq, q⟩ | ⟨hq, q⟩
    · obtain ⟨its, rv, p', hz⟩ := I1.list hq
      refine call_enumerate_list p'.isList fun h' he hit hsz hk => wpAny_pyIter_enum he ?_
      have I2 : Inv X pins σ H1 { s1 with heap := h' } := I1.kept (t' := s1.toks) hk
      exact ⟨s1.heap.objs.size + 1, [s1.heap.objs.size + 1, s1.heap.objs.size], _, _, H1, rfl, I2, turn_enum a (s1.heap.objs.size + 1) s1.heap.objs.size, ⟨⟨.none, he⟩, hit, Nat.succ_ne_self _⟩, fp2, q⟩
    · obtain ⟨its, rv, p', hz⟩ := I1.tuple hq
      have pt : s1.heap.IsTuple a its.toArray := p'
      have hlt : a < s1.heap.objs.size := by
        obtain ⟨o, ho, _⟩ := id pt
        exact Heap.lt_size ho
      refine mine_enum_call (begins_tuple a its.toArray) pt fun h' he hit hsz hk => wpAny_pyIter_enum he ?_
      have I2 : Inv X pins σ H1 { s1 with heap := h' } := I1.kept (t' := s1.toks) hk
      exact ⟨s1.heap.objs.size + 1, [s1.heap.objs.size + 1, s1.heap.objs.size], _, _, H1, rfl, I2, turn_enumT a (s1.heap.objs.size + 1) s1.heap.objs.size (Nat.ne_of_lt hlt) (Nat.ne_of_gt (Nat.lt_succ_of_lt hlt)), ⟨⟨.none, he⟩, ⟨_, hit, rfl, rfl⟩, Nat.succ_ne_self _⟩, fp2, q⟩
theorem walk_enumT {K : PySem.W.Frag} {a : Addr} {xs : List V} : Walk (IteT K a) xs.length (fun H => SqT K H a xs) (YPair (fun i => some (.int (i : Nat))) (fun i => xs[i]?)) := by
  refine ⟨fun i _ hi q => ⟨xs, xs[i], q, by simp [hi]⟩, fun _ q => ⟨xs, q, Nat.le_refl _⟩, fun i H v H' _ q y => ?_⟩
  obtain ⟨T, x, h1, h2, h3, h4⟩ := y
  exact ⟨T, .int (i : Nat), x, h1, h2, h3, rfl, h4 xs q⟩
/-! ### a list or a tuple -/
def iSeq (K : PySem.W.Frag) (tl : TE) : TI := fun σ H R => tl σ H fun x H1 => ∃ a xs, x = .ref a ∧ ((SqL K H1 a xs ∧ R (Itl K a) H1) ∨ (SqT K H1 a xs ∧ R (Itt K a) H1))
theorem pi_seq {X : Cx} {tg l : Expr} {tl : TE} (hl : PE X l tl) : PI X tg l (iSeq X.K tl) := by
  refine ⟨fun pins s σ H R I h => ?_⟩
  refine thn (hl.run pins s σ H _ I h) fun v s1 ⟨x, H1, I1, r1, q1⟩ => ?_
  obtain ⟨a, xs, e, q1⟩ := q1
  subst e
  cases r1
  have fp1 : ∀ b ∈ [s1.heap.objs.size], FpOk X pins H1 b := fun b hb => by
    have e : b = s1.heap.objs.size := by simpa using hb
    subst e
    exact I1.fpOk (Nat.le_refl _) (I1.hok.fresh (Nat.le_refl _))
  rcases q1 with ⟨hq, q⟩ | ⟨hq, q⟩
  · obtain ⟨its, rv, p, hz⟩ := I1.list hq
    refine wpAny_pyIter_list p.isList ?_
    exact ⟨s1.heap.objs.size, [s1.heap.objs.size], _, _, H1, rfl, I1.kept (t' := s1.toks) fun b o e => Heap.get?_push_of_some _ e, turn_list a _, ⟨_, Heap.get?_push_size _ rfl, rfl, rfl⟩, fp1, q⟩
  · obtain ⟨its, rv, p, hz⟩ := I1.tuple hq
    refine wpAny_pyIter_tuple (show s1.heap.IsTuple a its.toArray from p) ?_
    exact ⟨s1.heap.objs.size, [s1.heap.objs.size], _, _, H1, rfl, I1.kept (t' := s1.toks) fun b o e => Heap.get?_push_of_some _ e, turn_tuple a _, ⟨_, Heap.get?_push_size _ rfl, rfl, rfl⟩, fp1, q⟩
section
variable {X : Cx}
/-- b tells whether x is a list or a tuple -/
def IsSeqV (K : PySem.W.Frag) (H : Hp) (x : V) (b : Bool) : Prop := match x with
  | .non => b = false
  | .bl _ => b = false
  | .int _ => b = false
  | .str _ => b = false
  | .ref a => (b = true ∧ ∃ xs, SqL K H a xs) ∨ (b = true ∧ ∃ xs, SqT K H a xs) ∨ (b = false ∧ ∃ kvs, H a = some (.dK kvs))
  | _ => False
theorem kb_dict_int : kitB "dict" "int" = some false := by decide +kernel
theorem kb_dict_bool : kitB "dict" "bool" = some false := by decide +kernel
theorem kb_dict_str : kitB "dict" "str" = some false := by decide +kernel
theorem kb_dict_tuple : kitB "dict" "tuple" = some false := by decide +kernel
theorem kb_dict_list : kitB "dict" "list" = some false := by decide +kernel
theorem call_isSeq : CallR X (.builtin "isinstance") (fun xs H Q => ∃ x tp b, xs = [x, .ref tp] ∧ H tp = some (.tup [.ty "list", .ty "tuple"]) ∧ IsSeqV X.K H x b ∧ Q (.bl b) H) :=
  CallR.weak call_isiT fun _ H _ ⟨x, tp, b, e, ht, k, q⟩ => by
    have : ∃ t : String, TyX X.K H x (.type t) ∧ PySem.W.kitAny X.K (.type t) [.type "list", .type "tuple"] = some b := by
      have two : ∀ {t : String} {r1 r2 : Bool}, kitB t "list" = some r1 → kitB t "tuple" = some r2 → (r1 || r2) = b → PySem.W.kitAny X.K (.type t) [.type "list", .type "tuple"] = some b := fun {t r1 r2} h1 h2 h3 => by
        refine kitAny_cons (kit_ty h1) (fun e1 => kitAny_cons (kit_ty h2) (fun e2 => ?_) fun e2 => ?_) fun e1 => ?_
        · subst e1 e2; rw [← h3]; rfl
        · subst e1 e2; rw [← h3]; rfl
        · subst e1; rw [← h3]; rfl
      cases x with
      | non => cases k; exact ⟨_, .base .non, two kb_NoneType_list kb_NoneType_tuple rfl⟩
      | bl y => cases k; exact ⟨_, .base (.bl y), two kb_bool_list kb_bool_tuple rfl⟩
      | int i => cases k; exact ⟨_, .base (.int i), two kb_int_list kb_int_tuple rfl⟩
      | str z => cases k; exact ⟨_, .base (.str z), two kb_str_list kb_str_tuple rfl⟩
      | ref a =>
        rcases k with ⟨rfl, xs, h⟩ | ⟨rfl, xs, h⟩ | ⟨rfl, kvs, h⟩
        · exact ⟨_, tyx_L h, two kb_list_list kb_list_tuple rfl⟩
        · exact ⟨_, tyx_T h, two kb_tuple_list kb_tuple_tuple rfl⟩
        · exact ⟨_, .base (.dK h), two kb_dict_list kb_dict_tuple rfl⟩
      | byt b => cases k
      | flt b => cases k
      | ty n => cases k
    obtain ⟨t, ty, h⟩ := this
    exact ⟨x, tp, _, _, [.type "list", .type "tuple"], b, e, ht, .cons (.ty _) (.cons (.ty _) .nil), ty, h, q⟩
theorem call_lenA : CallR X (.builtin "len") (fun xs H Q => ∃ p ys, xs = [.ref p] ∧ (H p = some (.lst ys) ∨ H p = some (.tup ys)) ∧ Q (.int ys.length) H) :=
  CallR.weak call_len_seq fun _ _ _ ⟨p, ys, e1, e2, q⟩ => ⟨p, ys, e1, e2.elim (fun e => .inl (.inl (.inl e))) (fun e => .inr (.inl (.inl e))), q⟩
/-- tuple(x), x a list or a tuple: the tuple stands at l -/
theorem call_tupA : CallR X (.type "tuple") (fun xs H Q => ∃ p ys, xs = [.ref p] ∧ (H p = some (.lst ys) ∨ H p = some (.tup ys)) ∧ ∀ l H', Same H H' → H' l = some (.tup ys) → Q (.ref l) H') :=
  CallR.weak call_tuple_of fun _ H _ ⟨p, ys, e1, e2, q⟩ => ⟨p, ys, e1, by
    rcases e2 with e2 | e2
    · exact .inl ⟨.inl (.inl e2), fun l hl => q l _ (same_upd hl) upd_same⟩
    · exact .inr ⟨.inl (.inl e2), q p H (Same.refl H) e2⟩⟩
end
end Mine

namespace L2
open PySem PySem.Spec PyProof.Rows
section
variable {P : Program} {w : World} {A : Around} {E : Value → Shared → Prop} {s : Shared}
/-- sorted of a set of one tuple or none: nothing is compared -/
theorem mine_sorted_short {a : Addr} {L : List (Addr × List Int)} {es : Array (Int × Value)} {ep : Nat} {t : SetTable} {Q : Value → Shared → Prop} (R : SetTR P w s.heap a L es ep t) (hh : A.handled = none) (h1 : L.length ≤ 1)
    (hQ : ∀ s' p (out : Array Value) (c : Nat), (∀ b o, s.heap.get? b = some o → s'.heap.get? b = some o) → s'.gens = s.gens → s'.os = s.os → s.heap.objs.size ≤ p →
      s'.heap.get? p = some (seqObj "list" out c) → out.toList = L.map (fun q => Value.ref q.1) → Q (.ref p) s') : wpAny (model P w) A (call (.builtin "sorted") [.ref a]) Q E s := by
  obtain ⟨o, ho, hex, hd⟩ := R.ob
  have few := R.few
  have rsz := R.size
  refine Calls.call_function_entry kind_sorted plain_sorted entry_sorted (args_sorted1 _) ?_
  unfold Builtin.«sorted»
  refine wpAny_bind (m := checkCount "sorted" 1 1 _) (wpAny_pure (wpAny_bind (collect_set (A := A.in1) hh ⟨o, ho, hex.1, hd⟩ R.fits (by unfold scanBound; omega) R.tab.ris R.led fun s1 vs k1 hz g1 o1 pm => ?_)))
  rw [show es.toList.map (·.2) = L.map (fun q => Value.ref q.1) by rw [R.rows]; unfold rowsOf; rw [List.map_map]; rfl] at pm
  have short : ∀ {us : List Value}, us.Perm (L.map fun q => Value.ref q.1) → us = L.map fun q => Value.ref q.1 := fun {us} h => by
    match L, h1, h with
    | [], _, h => exact h.eq_nil
    | [x], _, h => exact List.perm_singleton.mp h
    | _ :: _ :: _, h1, _ => exact absurd h1 (by simp)
  have ev := short pm
  have hl : vs.length ≤ 1 := by rw [ev, List.length_map]; exact h1
  refine wpAny_bind (wpAny_newList ?_ (by rw [sizeLine_eq]; omega))
  have hoL : (s1.heap.push (seqObj "list" vs.toArray 0)).get? s1.heap.objs.size = some (seqObj "list" vs.toArray 0) := Heap.get?_push_size _ rfl
  refine wpAny_bind (wpAny_holding (wpAny_call_entry (s := { s1 with heap := s1.heap.push (seqObj "list" vs.toArray 0) }) slot_list_sort ⟨_, hoL, rfl⟩ entry_list_sort
    (SK.plain_sort (r := fun _ => 0) hoL (by omega) (fun h2 => absurd h2 (by omega)) fun ps out e1 pp _ => ⟨_, rfl, ?_⟩) (args_list_sort _)))
  have eo : out.toList = L.map fun q => Value.ref q.1 := by
    refine short (.trans ?_ pm)
    rw [e1]
    have z := pp.map Prod.snd
    rwa [List.map_snd_zip (Nat.le_refl _)] at z
  obtain ⟨c, hc⟩ := sortedHeap_at (vs := vs) (out := out) hoL
  refine wpAny_pure ⟨_, rfl, hQ _ s1.heap.objs.size out c (fun b u e => ?_) g1 o1 hz hc eo⟩
  have q := k1 b u e
  exact (sortedHeap_old (Nat.ne_of_lt (Heap.lt_size q)) (by rw [size_push']; exact Nat.lt_succ_of_lt (Heap.lt_size q))).trans (Heap.get?_push_of_some _ q)
end
end L2

namespace Mine
open PySem PySem.Spec PyProof.Rows L2
/-- words of whole numbers of one length, each within [0, B) -/
def Even (d : Nat) (B : Int) (ws : List (List Int)) : Prop := ∀ x ∈ ws, x.length = d ∧ TS.Bd B x
theorem few_of_nil {ws : List (List Int)} (n : ws.Nodup) (z : ∀ x ∈ ws, x.length = 0) : ws.length ≤ 1 := by
  match ws, n, z with
  | [], _, _ => exact Nat.zero_le _
  | [_], _, _ => exact Nat.le_refl _
  | x :: y :: _, n, z =>
    have a : x = [] := List.length_eq_zero_iff.mp (z x (by simp))
    have b : y = [] := List.length_eq_zero_iff.mp (z y (by simp))
    exact absurd (a.trans b.symm) (fun e => (List.nodup_cons.mp n).1 (e ▸ List.mem_cons_self))
def rSortedA (K : PySem.W.Frag) (P : Program) (w : World) : List V → Hp → VK → Prop := fun vs H Q => ∃ (a : Addr) (L : List (Addr × List Int)) (d : Nat) (B : Int), vs = [V.ref a] ∧ H a = some (SetTO P w a L) ∧ (∀ p ∈ L, SqT K H p.1 (p.2.map V.int)) ∧
  (∀ p ∈ L, p.2.length = d ∧ TS.Bd B p.2) ∧
  ∀ (L' : List (Addr × List Int)) (p : Addr), L'.Perm L → (L'.map (·.2)).Nodup → L'.length < 64 → L'.Pairwise (fun q r => TS.code B q.2 ≤ TS.code B r.2) → H p = none → Q (.ref p) (upd H p (.lst (L'.map fun q => V.ref q.1)))
theorem cr_sortedA {X : Cx} (hc : X.calm = true) : CallR X (.builtin "sorted") (rSortedA X.K X.prog X.w) := by
  intro pins s σ H vs us Q I r h
  obtain ⟨a, L, d, B, e, ha, hk, hB, q⟩ := h
  by_cases hd : 1 ≤ d
  · exact cr_sortedT hc pins s σ H vs us Q I r ⟨a, L, d, B, e, ha, hk, hd, hB, q⟩
  · subst e
    have R0 : SetT0 X.prog X.w s.heap a L := (I.hok a _ ha).1
    obtain ⟨es, ep, t, R⟩ := R0.full fun p hp => I.isT (hk p hp)
    have few : L.length ≤ 1 := by
      have := few_of_nil R.nd (fun x hx => by
        obtain ⟨p, hp, e⟩ := List.mem_map.mp hx
        rw [← e, (hB p hp).1]; omega)
      rwa [List.length_map] at this
    rw [Vals.ref1 r]
    refine mine_sorted_short R (I.ok.hd hc) few fun s' p out c k g o hp hg hout => ?_
    have hn : H p = none := I.hok.fresh hp
    have J : Inv X pins σ (upd H p (.lst (L.map fun q => V.ref q.1))) { s with heap := s'.heap, gens := s'.gens, drawn := s'.drawn, toks := s'.toks } :=
      I.call (ch := []) (Un.laid k hp hn) (I.hok.laid k hp ⟨by rw [List.length_map, sizeLine_eq]; omega, out.toList, c, by rw [hout]; exact vals_of_refs L, hg⟩) (by rw [g]; exact I.bare) (fun _ z => nomatch z)
    have es' : s' = { s with heap := s'.heap, gens := s'.gens, drawn := s'.drawn, toks := s'.toks } := by
      cases s'; cases s; cases o; rfl
    rw [es']
    refine ⟨.ref p, _, J, rfl, q L p (.refl _) R.nd (by omega) ?_ hn⟩
    match L, few with
    | [], _ => exact .nil
    | [x], _ => exact List.pairwise_singleton _ _
    | _ :: _ :: _, f => exact absurd f (by simp)
/-- at p: a list of tuples, the words ws -/
def Rows (H : Hp) (p : Addr) (ws : List (List Int)) : Prop := ∃ ks : List (Addr × List Int), H p = some (.lst (ks.map fun k => V.ref k.1)) ∧ ks.map (·.2) = ws ∧ ∀ k ∈ ks, H k.1 = some (.tup (k.2.map V.int))
theorem Rows.same {H H' : Hp} {p : Addr} {ws : List (List Int)} (r : Rows H p ws) (s : Same H H') : Rows H' p ws := by
  obtain ⟨ks, a, b, c⟩ := r
  exact ⟨ks, s _ _ a, b, fun k hk => s _ _ (c k hk)⟩
/-- the code in base B is one word's alone -/
theorem code_inj {B : Int} : ∀ {x y : List Int}, x.length = y.length → TS.Bd B x → TS.Bd B y → TS.code B x = TS.code B y → x = y
  | [], [], _, _, _, _ => rfl
  | [], _ :: _, h, _, _, _ => by simp at h
  | _ :: _, [], h, _, _, _ => by simp at h
  | p :: x, q :: y, h, hx, hy, e => by
    have hl : x.length = y.length := by simpa using h
    rcases Int.lt_trichotomy p q with c | c | c
    · have := TS.code_lt hl hx.tail hy.tail c
      omega
    · subst c
      have e2 : TS.code B x = TS.code B y := by
        have e' : p * B ^ x.length + TS.code B x = p * B ^ y.length + TS.code B y := e
        rw [hl] at e'
        omega
      rw [code_inj hl hx.tail hy.tail e2]
    · have := TS.code_lt hl.symm hy.tail hx.tail c
      omega
/-- strictly rising by the code -/
def Rising (B : Int) (ws : List (List Int)) : Prop := ws.Pairwise fun x y => TS.code B x < TS.code B y
theorem Rising.nodup {B : Int} {ws : List (List Int)} (r : Rising B ws) : ws.Nodup := List.Pairwise.imp (fun h e => by rw [e] at h; omega) r
theorem Rising.unique {B : Int} : ∀ {xs ys : List (List Int)}, Rising B xs → Rising B ys → (∀ x, x ∈ xs ↔ x ∈ ys) → xs = ys
  | [], [], _, _, _ => rfl
  | [], y :: _, _, _, h => absurd ((h y).mpr List.mem_cons_self) (by simp)
  | x :: _, [], _, _, h => absurd ((h x).mp List.mem_cons_self) (by simp)
  | x :: xs, y :: ys, hx, hy, h => by
    have hx' := List.pairwise_cons.mp hx
    have hy' := List.pairwise_cons.mp hy
    have e : x = y := by
      rcases List.mem_cons.mp ((h x).mp List.mem_cons_self) with e | m
      · exact e
      · rcases List.mem_cons.mp ((h y).mpr List.mem_cons_self) with e | m2
        · exact e.symm
        · have := hy'.1 x m
          have := hx'.1 y m2
          omega
    subst e
    rw [Rising.unique hx'.2 hy'.2 fun z => ?_]
    refine ⟨fun m => ?_, fun m => ?_⟩
    · rcases List.mem_cons.mp ((h z).mp (List.mem_cons_of_mem _ m)) with e | m2
      · have := hx'.1 z m
        rw [e] at this; omega
      · exact m2
    · rcases List.mem_cons.mp ((h z).mpr (List.mem_cons_of_mem _ m)) with e | m2
      · have := hy'.1 z m
        rw [e] at this; omega
      · exact m2
/-- sorted(set(xs)) of a list of words of one length -/
theorem sorted_set {K : PySem.W.Frag} {P : Program} {w : World} {H : Hp} {l : Addr} {ws : List (List Int)} {d : Nat} {B : Int} {Q : VK} (r : Rows H l ws) (hn : ws.length < 64) (ev : Even d B ws)
    (q : ∀ p H' ws', Same H H' → H p = none → Rows H' p ws' → (∀ x, x ∈ ws' ↔ x ∈ ws) → Rising B ws' → Q (.ref p) H') : rSetOfT K P w [V.ref l] H (fun x H1 => rSortedA K P w [x] H1 Q) := by
  obtain ⟨ks, h1, h2, h3⟩ := r
  have hl : ks.length = ws.length := by rw [← h2, List.length_map]
  refine ⟨l, ks, rfl, .inl (.inl h1), fun k hk => .inl (.inl (h3 k hk)), by omega, fun a L ha hsub hall => ?_⟩
  have sa := same_upd (o := SetTO P w a L) ha
  have hev : ∀ p ∈ L, p.2.length = d ∧ TS.Bd B p.2 := fun p hp => ev p.2 (h2 ▸ List.mem_map.mpr ⟨p, hsub p hp, rfl⟩)
  refine ⟨a, L, d, B, rfl, upd_same, fun k hk => .inl (.inl (sa _ _ (h3 k (hsub k hk)))), hev, fun L' p pm nd few pw hp => ?_⟩
  have sp := same_upd (o := HO.lst (L'.map fun q => V.ref q.1)) hp
  refine q p _ (L'.map (·.2)) (sa.trans sp) (sa.free hp) ⟨L', upd_same, rfl, fun k hk => sp _ _ (sa _ _ (h3 k (hsub k (pm.mem_iff.mp hk))))⟩ (fun x => ?_) ?_
  · constructor
    · intro hx
      obtain ⟨k, hk, e⟩ := List.mem_map.mp hx
      rw [← h2]
      exact List.mem_map.mpr ⟨k, hsub k (pm.mem_iff.mp hk), e⟩
    · intro hx
      rw [← h2] at hx
      obtain ⟨k, hk, e⟩ := List.mem_map.mp hx
      obtain ⟨k2, hk2, e2⟩ := List.mem_map.mp (hall k hk)
      exact List.mem_map.mpr ⟨k2, pm.mem_iff.mpr hk2, e2.trans e⟩
  · have pw2 : (L'.map (·.2)).Pairwise fun x y => TS.code B x ≤ TS.code B y := List.pairwise_map.mpr pw
    have mem : ∀ x ∈ L'.map (·.2), x.length = d ∧ TS.Bd B x := fun x hx => by
      obtain ⟨k, hk, e⟩ := List.mem_map.mp hx
      rw [← e]; exact hev k (pm.mem_iff.mp hk)
    refine List.Pairwise.imp_of_mem (fun {x y} hx hy h => ?_) (pw2.and nd)
    obtain ⟨le, ne⟩ := h
    rcases Int.lt_or_eq_of_le le with c | c
    · exact c
    · exact absurd (code_inj ((mem x hx).1.trans (mem y hy).1.symm) (mem x hx).2 (mem y hy).2 c) ne
end Mine

namespace Mine
open PySem PySem.Spec PyProof.Rows L2
def MonU (r : V → Hp → VK → Prop) : Prop := ∀ x H (Q Q' : VK), (∀ v H', Q v H' → Q' v H') → r x H Q → r x H Q'
theorem mon_rU (g : Int → V) : MonU (rU g) := fun _ _ _ _ m ⟨i, e, q⟩ => ⟨i, e, m _ _ q⟩
theorem mon_un {r : V → Hp → VK → Prop} {ta : TE} (mr : MonU r) (ma : Mon ta) : Mon (tUn r ta) := fun σ H _ _ m q => ma σ H _ _ (fun _ _ q2 => mr _ _ _ _ m q2) q
/-- a for over enumerate of a list or a tuple -/
theorem enumA_by {K : PySem.W.Frag} {a : Addr} {xs : List V} {g : TG} {tb : TS} {D : Ends} {σ : L2.St} {H : Hp} (hS : SqL K H a xs ∨ SqT K H a xs) (Pv : Nat → L2.St → Hp → Prop) (h0 : Pv 0 σ H) (hG : ∀ i σ' H', Pv i σ' H' → Same H H')
    (hs : ∀ i x σ' H' T, i < xs.length → Pv i σ' H' → xs[i]? = some x → H' T = none → g (.ref T) σ' (upd H' T (.tup [.int (i : Nat), x])) fun s2 H2 => tb { D with nx := Pv (i + 1), ct := Pv (i + 1), bk := D.nx } s2 H2) (hd : ∀ σ' H', Pv xs.length σ' H' → D.nx σ' H') :
    ∃ ys, (SqL K H a ys ∧ Loop (Ite K a) g tb D σ H) ∨ (SqT K H a ys ∧ Loop (IteT K a) g tb D σ H) := by
  have step : ∀ i x σ' H' H'', i < xs.length → Pv i σ' H' → YPair (fun i => some (.int (i : Nat))) (fun i => xs[i]?) i H' x H'' → g x σ' H'' fun s2 H2 => tb { D with nx := Pv (i + 1), ct := Pv (i + 1), bk := D.nx } s2 H2 := by
    intro i x σ' H' H'' hi p ⟨T, v, y, e, hT, e2, ev, ey⟩
    dsimp only at ev ey
    cases ev
    subst e e2
    exact hs i y σ' H' T hi p ey hT
  refine ⟨xs, ?_⟩
  rcases hS with hS | hS
  · refine .inl ⟨hS, Loop.by (walk_enum (xs := xs)) Pv h0 (fun i σ' H' _ p => (hG i σ' H' p).seq hS) step hd⟩
  · refine .inr ⟨hS, Loop.by (walk_enumT (xs := xs)) Pv h0 (fun i σ' H' _ p => ?_) step hd⟩
    have s := hG i σ' H' p
    rcases hS with (h | ⟨o, h⟩) | h
    · exact .inl (.inl (s _ _ h))
    · exact .inl (.inr ⟨o, s _ _ h⟩)
    · exact .inr h
end Mine

namespace L2
open PySem PySem.Spec PyProof.Rows
abbrev mineSet0 (w : World) : Obj := { cls := .type "set", dict := none, data := .set #[] 0 (.fresh 0 0 (!w.params.followText "set-order")) }
section
variable {P : Program} {w : World} {A : Around} {E : Value → Shared → Prop} {s : Shared}
/-- set(v), by what its __init__ does with the new set -/
theorem mine_call_set {v : Value} {Q : Value → Shared → Prop}
    (h : wpAny (model P w) A.in1.in1 (Builtin.«set.__init__» ⟨[.ref s.heap.objs.size, v], []⟩)
      (fun fin s' => match fin with | .done f => wants (fun r s₂ => r = .none ∧ Q (.ref s.heap.objs.size) s₂) E (.ok f) s' | .again c' => c'.quiet = true ∧ codeAny (model P w) A.in1 c' (wants (fun r s₂ => r = .none ∧ Q (.ref s.heap.objs.size) s₂) E) s')
      (fun e s' => wants (fun r s₂ => r = .none ∧ Q (.ref s.heap.objs.size) s₂) E (.error e) s') { s with heap := s.heap.push (mineSet0 w) }) : wpAny (model P w) A (call (.type "set") [v]) Q E s := by
  have ft := F.called_set
  obtain ⟨k, ks, order⟩ := ft.mro
  have m1 := ft.made
  have m2 := ft.sub
  have m3 := ft.notType
  have m4 := ft.canCreate
  have m5 := F.typeCall_set_1 v
  refine wpAny_call (codeAny_of_tree ?_)
  show wpAny _ _ (callAny (.type "set") _) _ _ _
  refine wpAny_pure ⟨Code.quiet_builtin _ (by decide +kernel), codeAny_builtin F.entry_type_call ?_⟩
  rw [Around.under_plain (weight_type_call_type "set" [v] []) rfl]
  repeat (any_goals (first | assumption | wp_step))
  refine codeAny_mono (code_set_led1 (E := E) (Q₁ := fun obj s₁ => obj = .ref s.heap.objs.size ∧ s₁ = { s with heap := s.heap.push (mineSet0 w) }) v ⟨rfl, rfl⟩) fun r s₁ hr => ?_
  cases r with
  | error e => exact hr
  | ok f =>
    cases f with
    | ret x =>
      obtain ⟨rfl, rfl⟩ := hr
      have ty : Shared.TypeIs { s with heap := s.heap.push (mineSet0 w) } (.ref s.heap.objs.size) "set" := ⟨_, Heap.get?_push_size _ rfl, rfl⟩
      have m6 := ft.init.lookup
      have m7 := ft.init.bind (.ref s.heap.objs.size)
      repeat (any_goals (first | assumption | wp_step))
      refine codeAny_mono (codeAny_call_builtin ft.init.plain F.entry_set_init (check_set_init_1 ty h)) fun r₂ s₂ hr₂ => ?_
      cases r₂ with
      | error e => exact hr₂
      | ok f₂ =>
        cases f₂ with
        | ret y =>
          obtain ⟨rfl, q⟩ := hr₂
          repeat (any_goals (first | assumption | wp_step))
        | _ => exact hr₂.elim
    | _ => exact hr.elim
/-- set(xs) of a list of whole numbers, with its table -/
theorem mine_set_ints {l : Addr} {items : Array Value} (ns : List Int) {Q : Value → Shared → Prop} (hh : A.handled = none) (hl : s.heap.IsList l items) (hit : IntsAre items.toList ns) (hb : ns.length + 1 < scanBound)
    (h : ∀ (h' : Heap) (tk c : Nat), SetR w h' s.heap.objs.size (fun j => decide (j ∈ ns)) c → c ≤ ns.length → (∀ b o, s.heap.get? b = some o → h'.get? b = some o) → Q (.ref s.heap.objs.size) { s with heap := h', toks := tk }) :
    wpAny (model P w) A (call (.type "set") [.ref l]) Q E s := by
  have len : items.size = ns.length := by rw [← hit.length, Array.length_toList]
  have lt : l < s.heap.objs.size := by obtain ⟨_, e, _⟩ := hl; exact Heap.lt_size e
  have old : ∀ b o, s.heap.get? b = some o → (s.heap.push (mineSet0 w)).get? b = some o := fun b o e => Heap.get?_push_of_some _ e
  have new : (s.heap.push (mineSet0 w)).get? s.heap.objs.size = some (mineSet0 w) := Heap.get?_push_size _ rfl
  have size1 : (s.heap.push (mineSet0 w)).objs.size = s.heap.objs.size + 1 := Heap.size_push ..
  refine mine_call_set ?_
  obtain ⟨⟨c0, d0, dt0, sl0⟩, ho, hc, n0, hd⟩ := id hl
  dsimp only at hc hd
  subst hc hd
  have ho1 := old _ _ ho
  have isL : (s.heap.push (mineSet0 w)).IsList l items := ⟨_, ho1, rfl, n0, rfl⟩
  have notS := F.sub_list_set
  have notF := F.sub_list_frozenset
  have notD : (Value.type "list" == Value.type "dict") = false := by decide
  unfold Builtin.«set.__init__» noKeywords Builtin.Frozenset.updateFrom
  generalize hPI : pyIter = PI
  wp_walk
  subst hPI
  refine wpAny_pyIter_list isL (wpAny_bind (wpAny_runValue ?_))
  refine set_update_ints (A := A.in1.in1) ((Walks.list (A := A.in1.in1.in1) (by simpa using hh) (s.heap.push (mineSet0 w)).objs.size l (by rw [size1]; exact Nat.ne_of_lt (Nat.lt_succ_of_lt lt)) items).toS) s.heap.objs.size
    (by rw [size1]; simp only [List.mem_cons, List.not_mem_nil, or_false, not_or]; exact ⟨Nat.ne_of_lt (Nat.lt_succ_self _), Nat.ne_of_gt lt⟩) ns len hb (fun i v hv => ?_) (items.size - 0) 0 _ (by omega) (Nat.zero_le _) ?_ ⟨0, Nat.le_refl 0, ?_⟩ fun s' c' hm hc' hS' => ?_
  · obtain ⟨hi, _⟩ := Array.getElem?_eq_some_iff.mp hv
    obtain ⟨t, e⟩ := hit.int_at i v (by rw [Array.getElem?_toList]; exact hv)
    exact ⟨ns.getD i 0, t, by rw [List.getD_eq_getElem?_getD, List.getElem?_eq_getElem (by omega)]; rfl, e⟩
  · exact ⟨⟨_, Heap.get?_push_size _ rfl, rfl, rfl⟩, isL.push _⟩
  · exact setR_new_at (Heap.get?_push_of_some _ new)
  · obtain ⟨h', g2, d', tk', os'⟩ := s'
    obtain rfl : g2 = s.gens := hm.gens
    obtain rfl : d' = s.drawn := hm.drawn
    obtain rfl : os' = s.os := hm.os
    refine wpAny_pure (wpAny_pure ⟨rfl, h h' tk' c' hS' (by omega) fun b o e => hm.heap b o ?_ (Heap.get?_push_of_some _ (old b o e))⟩)
    have := Heap.lt_size e
    rw [size1]; simp only [List.mem_cons, List.not_mem_nil, or_false, not_or]
    exact ⟨Nat.ne_of_lt this, Nat.ne_of_lt (Nat.lt_succ_of_lt this)⟩
/-- sum(t) of a tuple of whole numbers -/
theorem mine_sum_tup {l : Addr} {items : Array Value} {ns : List Int} {Q : Value → Shared → Prop} (hh : A.handled = none) (hl : s.heap.IsTuple l items) (hit : IntsAre items.toList ns)
    (h : ∀ h' tk t', (∀ b o, s.heap.get? b = some o → h'.get? b = some o) → Q (.int ns.sum t') { s with heap := h', toks := tk }) : wpAny (model P w) A (call (.builtin "sum") [.ref l]) Q E s := by
  have len : items.size = ns.length := by rw [← hit.length, Array.length_toList]
  have lt : l < s.heap.objs.size := by obtain ⟨_, e, _⟩ := id hl; exact Heap.lt_size e
  have pre : ∀ n, n ≤ ns.length → preSum (fun i => ns.getD i 0) n = (ns.take n).sum := by
    intro n
    induction n with
    | zero => intro _; rfl
    | succ n ih =>
      intro hn
      show preSum _ n + ns.getD n 0 = _
      rw [ih (by omega), PySem.sum_take_succ]
  refine call_sum_walkG (wpAny_pyIter_tuple hl ?_)
  refine ⟨s.heap.objs.size, _, _, _, _, _, fun i => ns.getD i 0, rfl, Walks.tuple (A := A.in1) (by simpa using hh) _ l (Nat.ne_of_lt lt) items, ⟨⟨_, Heap.get?_push_size _ rfl, rfl, rfl⟩, hl.push _⟩, fun b hb => ?_, fun i v hv => hit.int_at i v (by rw [Array.getElem?_toList]; exact hv), fun h' tk t' k => ?_⟩
  · have e : b = s.heap.objs.size ∨ b = l := by simpa using hb
    show b < (s.heap.push _).objs.size
    rw [Heap.size_push]
    rcases e with e | e
    · rw [e]; exact Nat.lt_succ_self _
    · rw [e]; exact Nat.lt_succ_of_lt lt
  · rw [len, pre _ (Nat.le_refl _), List.take_of_length_le (Nat.le_refl _)]
    exact h h' tk t' fun b o e => k b o (by simpa using Nat.ne_of_lt (Heap.lt_size e)) (Heap.get?_push_of_some _ e)
end
end L2
namespace Mine
open PySem PySem.Spec PyProof.Rows L2
theorem Room.u65 {k : Nat} {A : Around} (r : Room k A) : A.units + 65 < cLine := by have := r.un; omega
section
variable {X : Cx}
def rSetOfI (K : PySem.W.Frag) (w : World) : List V → Hp → VK → Prop := fun xs H Q => ∃ (l : Addr) (ns : List Int), xs = [V.ref l] ∧ SqL K H l (ns.map V.int) ∧ ns.length < 4000 ∧
  ∀ a c, c ≤ ns.length → H a = none → Q (.ref a) (upd H a (SetO w a (fun j => decide (j ∈ ns)) c))
theorem cr_setOfI (hc : X.calm = true) : CallR X (.type "set") (rSetOfI X.K X.w) := by
  intro pins s σ H xs us Q I r h
  obtain ⟨l, ns, rfl, hl, hb, q⟩ := h
  rw [Vals.ref1 r]
  obtain ⟨its, rv, pl, hz⟩ := I.list hl
  refine mine_set_ints ns (I.ok.hd hc) pl.isList (by simpa using Vals.ints rv) (by unfold scanBound; omega) fun h' tk c R hcn k => ?_
  exact ⟨.ref s.heap.objs.size, _, I.laid (t' := tk) k (Nat.le_refl _) (setO_new R), rfl, q _ c hcn (I.hok.fresh (Nat.le_refl _))⟩
def rSumT (K : PySem.W.Frag) : List V → Hp → VK → Prop := fun vs H Q => ∃ (a : Addr) (ns : List Int), vs = [V.ref a] ∧ SqT K H a (ns.map V.int) ∧ Q (.int ns.sum) H
theorem cr_sumT (hc : X.calm = true) : CallR X (.builtin "sum") (rSumT X.K) := by
  intro pins s σ H vs us Q I r h
  obtain ⟨a, ns, rfl, ha, q⟩ := h
  rw [Vals.ref1 r]
  obtain ⟨its, rv, pl, hz⟩ := I.tuple ha
  refine mine_sum_tup (items := its.toArray) (I.ok.hd hc) pl (by simpa using Vals.ints rv) fun h' tk t' k => ?_
  exact ⟨.int ns.sum, H, I.kept (t' := tk) k, ⟨t', rfl⟩, q⟩
end
/-- sorted(set(xs)) of whole numbers -/
theorem sorted_setI {K : PySem.W.Frag} {w : World} {H : Hp} {l : Addr} {ns : List Int} {Q : VK} (hl : SqL K H l (ns.map V.int)) (hn : ns.length < 64)
    (q : ∀ (p : Addr) (H' : Hp) (ms : List Int), Same H H' → H p = none → H' p = some (.lst (ms.map V.int)) → ms.Pairwise (· < ·) → (∀ x, x ∈ ms ↔ x ∈ ns) → Q (.ref p) H') : rSetOfI K w [V.ref l] H (fun x H1 => rSortedSet w [x] H1 Q) := by
  refine ⟨l, ns, rfl, hl, by omega, fun a c hc ha => ⟨a, _, c, rfl, upd_same, by omega, fun ms p pw mem _ hp => ?_⟩⟩
  have sa := same_upd (o := SetO w a (fun j => decide (j ∈ ns)) c) ha
  exact q p _ ms (sa.trans (same_upd hp)) (sa.free hp) upd_same pw fun x => by rw [mem x]; exact decide_eq_true_iff
end Mine

namespace Mine
open PySem PySem.Spec PyProof.Rows L2
theorem getD_at {w : List Int} {i : Nat} (h : i < w.length) : w[i]? = some (w.getD i 0) := by rw [List.getD_eq_getElem?_getD, List.getElem?_eq_getElem h]; rfl
/-- the i-th letter -/
theorem atI_w {w : List Int} {i : Nat} {z : Int} (e : z = (i : Nat)) (h : i < w.length) : atI (w.map V.int) z = some (V.int (w.getD i 0)) := by
  subst e
  exact atI_nat (by rw [List.getElem?_map, getD_at h]; rfl)
theorem range_mapI {α : Type} (w : List Int) (f : Int → α) : (List.range w.length).map (fun i => f (w.getD i 0)) = w.map f := by
  refine List.ext_getElem (by simp) fun i h1 h2 => ?_
  have hi : i < w.length := by simpa using h2
  simp only [List.getElem_map, List.getElem_range]
  rw [List.getD_eq_getElem?_getD, List.getElem?_eq_getElem hi]; rfl
theorem range_filterI (w : List Int) (p : Int → Bool) : (List.range w.length).filterMap (fun i => if p (w.getD i 0) = true then some (w.getD i 0) else none) = w.filter p := by
  have h := congrArg (List.filterMap fun x => if p x = true then some x else none) (range_mapI w id)
  rw [List.filterMap_map] at h
  have e : (fun x => if p x = true then some x else none) = Option.guard (fun x => p x = true) := by
    funext x; unfold Option.guard; simp
  rw [show (List.filterMap ((fun x => if p x = true then some x else none) ∘ fun i => id (w.getD i 0)) (List.range w.length)) = (List.range w.length).filterMap (fun i => if p (w.getD i 0) = true then some (w.getD i 0) else none) from rfl] at h
  rw [h, List.map_id, e, List.filterMap_eq_filter]
  congr 1
  funext x; simp
theorem some_map {α β : Type} (f : α → β) (l : List α) : l.filterMap (fun i => some (f i)) = l.map f := congrFun List.filterMap_eq_map' _
section
variable {j : Nat} {tt : TT} {te : TE} {vs : List Nat} {D : Addr} {σ : L2.St} {H1 : Hp} {Q : VK}
/-- a comprehension over a range -/
theorem Lc.rng {lo : Int} {n : Nat} (kept : Nat → Option V) (hD : H1 D = none) (hn : n ≤ 100000) (hw : ∀ x : V, wipe ((wipe σ vs).set j (some x)) vs = wipe σ vs)
    (step : ∀ i H (Qk : VK) (Qn : Hp → Prop), i < n → Same H1 H → (∀ y H4, Same H H4 → kept i = some y → Qk y H4) → (∀ H3, Same H H3 → kept i = none → Qn H3) →
      tt ((wipe σ vs).set j (some (.int (lo + (i : Nat))))) H fun b H3 => if b = true then te ((wipe σ vs).set j (some (.int (lo + (i : Nat))))) H3 Qk else Qn H3)
    (fin : ∀ H', Same H1 H' → H' D = some (.lst ((List.range n).filterMap kept)) → Q (.ref D) H') : Lc (Itr lo n) (gName j) tt te vs D σ H1 Q :=
  Lc.gen walk_range (fun i => V.int (lo + (i : Nat))) kept (fun _ _ _ _ _ ⟨a, b⟩ => ⟨a, b⟩) (fun _ _ => trivial) hD hn (fun i => hw _) step fin
/-- .. over a tuple of whole numbers -/
theorem Lc.ints {K : PySem.W.Frag} {a : Addr} {w : List Int} (kept : Nat → Option V) (hs : SqT K H1 a (w.map V.int)) (hD : H1 D = none) (hn : w.length ≤ 100000) (hw : ∀ x : V, wipe ((wipe σ vs).set j (some x)) vs = wipe σ vs)
    (step : ∀ i H (Qk : VK) (Qn : Hp → Prop), i < w.length → Same H1 H → (∀ y H4, Same H H4 → kept i = some y → Qk y H4) → (∀ H3, Same H H3 → kept i = none → Qn H3) →
      tt ((wipe σ vs).set j (some (.int (w.getD i 0)))) H fun b H3 => if b = true then te ((wipe σ vs).set j (some (.int (w.getD i 0)))) H3 Qk else Qn H3)
    (fin : ∀ H', Same H1 H' → H' D = some (.lst ((List.range w.length).filterMap kept)) → Q (.ref D) H') : Lc (Itt K a) (gName j) tt te vs D σ H1 Q := by
  have wk := walk_tup (K := K) (a := a) (xs := w.map V.int)
  rw [List.length_map] at wk
  refine Lc.gen wk (fun i => V.int (w.getD i 0)) kept ?_ (fun H' s => ?_) hD hn (fun i => hw _) step fin
  · rintro i H x H' hi ⟨rfl, hx⟩
    rw [List.getElem?_map, getD_at hi] at hx
    exact ⟨rfl, (Option.some.inj hx).symm⟩
  · rcases hs with (h | ⟨o, h⟩) | h
    · exact .inl (.inl (s _ _ h))
    · exact .inl (.inr ⟨o, s _ _ h⟩)
    · exact .inr h
/-- a comprehension that makes tuples of whole numbers: f i at turn i -/
theorem Lc.rows {J : It} {n : Nat} {G : Hp → Prop} {Y : Nat → Hp → V → Hp → Prop} (wk : Walk J n G Y) (it : Nat → V) (f : Nat → List Int)
    (hY : ∀ i H x H', i < n → Y i H x H' → H' = H ∧ x = it i) (hG : ∀ H', Same H1 H' → G H') (hD : H1 D = none) (hn : n ≤ 100000) (hw : ∀ x : V, wipe ((wipe σ vs).set j (some x)) vs = wipe σ vs)
    (step : ∀ i H (Qk : VK), i < n → Same H1 H → (∀ p H4, Same H H4 → H4 p = some (.tup ((f i).map V.int)) → Qk (.ref p) H4) → te ((wipe σ vs).set j (some (it i))) H Qk)
    (fin : ∀ H', Same H1 H' → Rows H' D ((List.range n).map f) → Q (.ref D) H') : Lc J (gName j) tYes te vs D σ H1 Q := by
  refine Lc.by wk (fun i H => Same H1 H ∧ Rows H D ((List.range i).map f)) ⟨same_upd hD, [], upd_same, rfl, fun k hk => by cases hk⟩ (fun i H _ p => hG H p.1) ?_ fun H p => fin H p.1 p.2
  rintro i x H H' hi ⟨sm, ks, h1, h2, h3⟩ hy
  obtain ⟨rfl, rfl⟩ := hY i H x H' hi hy
  refine ⟨hw _, ?_⟩
  unfold tYes
  dsimp only
  rw [if_pos rfl]
  refine step i H' _ hi sm fun p H4 s4 hp => ⟨_, s4 _ _ h1, ?_, fun b o e => ?_, ks ++ [(p, f i)], ?_, ?_, fun k hk => ?_⟩
  · have : ks.length = i := by have := congrArg List.length h2; simpa using this
    rw [List.length_map, this, sizeLine_eq]; omega
  · rw [upd_ne (ne_of_none e hD)]; exact s4 _ _ (sm _ _ e)
  · rw [upd_same, List.map_append]; rfl
  · rw [List.map_append, h2, List.range_succ, List.map_append]; rfl
  · have kt : H4 k.1 = some (.tup (k.2.map V.int)) := by
      rcases List.mem_append.mp hk with m | m
      · exact s4 _ _ (h3 k m)
      · have : k = (p, f i) := by simpa using m
        rw [this]; exact hp
    have ne : k.1 ≠ D := fun e => by rw [e, s4 _ _ h1] at kt; cases kt
    rw [upd_ne ne]; exact kt
/-- Lc.rows over a range -/
theorem Lc.rowsR {lo : Int} {n : Nat} (f : Nat → List Int) (hD : H1 D = none) (hn : n ≤ 100000) (hw : ∀ x : V, wipe ((wipe σ vs).set j (some x)) vs = wipe σ vs)
    (step : ∀ i H (Qk : VK), i < n → Same H1 H → (∀ p H4, Same H H4 → H4 p = some (.tup ((f i).map V.int)) → Qk (.ref p) H4) → te ((wipe σ vs).set j (some (.int (lo + (i : Nat))))) H Qk)
    (fin : ∀ H', Same H1 H' → Rows H' D ((List.range n).map f) → Q (.ref D) H') : Lc (Itr lo n) (gName j) tYes te vs D σ H1 Q :=
  Lc.rows walk_range (fun i => V.int (lo + (i : Nat))) f (fun _ _ _ _ _ ⟨a, b⟩ => ⟨a, b⟩) (fun _ _ => trivial) hD hn hw step fin
/-- [f(x) for x in rows], f a new tuple -/
theorem Lc.rowsMap {K : PySem.W.Frag} {a : Addr} {ws : List (List Int)} (f : List Int → List Int) (hr : Rows H1 a ws) (hD : H1 D = none) (hn : ws.length ≤ 100000) (hw : ∀ x : V, wipe ((wipe σ vs).set j (some x)) vs = wipe σ vs)
    (step : ∀ x q H (Qk : VK), x ∈ ws → Same H1 H → H q = some (.tup (x.map V.int)) → (∀ p H4, Same H H4 → H4 p = some (.tup ((f x).map V.int)) → Qk (.ref p) H4) → te ((wipe σ vs).set j (some (.ref q))) H Qk)
    (fin : ∀ H', Same H1 H' → Rows H' D (ws.map f) → Q (.ref D) H') : Lc (Itl K a) (gName j) tYes te vs D σ H1 Q := by
  obtain ⟨ks, h1, rfl, h3⟩ := hr
  have wk := walk_list (K := K) (a := a) (xs := ks.map fun k => V.ref k.1)
  rw [List.length_map] at wk hn
  refine Lc.rows wk (fun i => (ks.map fun k => V.ref k.1).getD i .non) (fun i => f ((ks.map (·.2)).getD i [])) ?_ (fun H' s => .inl (.inl (s _ _ h1))) hD hn hw ?_ fun H' s r => fin H' s ?_
  · rintro i H x H' hi ⟨rfl, hx⟩
    exact ⟨rfl, by rw [List.getD_eq_getElem?_getD, hx]; rfl⟩
  · intro i H Qk hi sm q
    have e1 : (ks.map fun k => V.ref k.1).getD i .non = .ref ks[i].1 := by rw [List.getD_eq_getElem?_getD, List.getElem?_map, List.getElem?_eq_getElem hi]; rfl
    have e2 : (ks.map (·.2)).getD i [] = ks[i].2 := by rw [List.getD_eq_getElem?_getD, List.getElem?_map, List.getElem?_eq_getElem hi]; rfl
    rw [e1]
    rw [e2] at q
    exact step ks[i].2 ks[i].1 H Qk (List.mem_map.mpr ⟨_, List.getElem_mem hi, rfl⟩) sm (sm _ _ (h3 _ (List.getElem_mem hi))) q
  · have e : (List.range ks.length).map (fun i => f ((ks.map (·.2)).getD i [])) = (ks.map (·.2)).map f := by
      refine List.ext_getElem (by simp) fun i g1 g2 => ?_
      have hi : i < ks.length := by simpa using g1
      simp only [List.getElem_map, List.getElem_range]
      rw [List.getD_eq_getElem?_getD, List.getElem?_map, List.getElem?_eq_getElem hi]; rfl
    rw [← e]; exact r
/-- [f(x) for x in rows], f a flat value -/
theorem Lc.rowsFlat {K : PySem.W.Frag} {a : Addr} {ws : List (List Int)} (f : List Int → V) (hr : Rows H1 a ws) (hD : H1 D = none) (hn : ws.length ≤ 100000) (hw : ∀ x : V, wipe ((wipe σ vs).set j (some x)) vs = wipe σ vs)
    (step : ∀ x q H (Qk : VK), x ∈ ws → Same H1 H → H q = some (.tup (x.map V.int)) → (∀ H4, Same H H4 → Qk (f x) H4) → te ((wipe σ vs).set j (some (.ref q))) H Qk)
    (fin : ∀ H', Same H1 H' → H' D = some (.lst (ws.map f)) → Q (.ref D) H') : Lc (Itl K a) (gName j) tYes te vs D σ H1 Q := by
  obtain ⟨ks, h1, rfl, h3⟩ := hr
  have wk := walk_list (K := K) (a := a) (xs := ks.map fun k => V.ref k.1)
  rw [List.length_map] at wk hn
  refine Lc.gen wk (fun i => (ks.map fun k => V.ref k.1).getD i .non) (fun i => some (f ((ks.map (·.2)).getD i []))) ?_ (fun H' s => .inl (.inl (s _ _ h1))) hD hn (fun i => hw _) ?_ fun H' s r => fin H' s ?_
  · rintro i H x H' hi ⟨rfl, hx⟩
    exact ⟨rfl, by rw [List.getD_eq_getElem?_getD, hx]; rfl⟩
  · intro i H Qk Qn hi sm q _
    have e1 : (ks.map fun k => V.ref k.1).getD i .non = .ref ks[i].1 := by rw [List.getD_eq_getElem?_getD, List.getElem?_map, List.getElem?_eq_getElem hi]; rfl
    have e2 : (ks.map (·.2)).getD i [] = ks[i].2 := by rw [List.getD_eq_getElem?_getD, List.getElem?_map, List.getElem?_eq_getElem hi]; rfl
    rw [e1]
    rw [e2] at q
    show if true = true then te _ H Qk else Qn H
    rw [if_pos rfl]
    exact step ks[i].2 ks[i].1 H Qk (List.mem_map.mpr ⟨_, List.getElem_mem hi, rfl⟩) sm (sm _ _ (h3 _ (List.getElem_mem hi))) fun H4 s4 => q _ H4 s4 rfl
  · rw [r, some_map]
    have e : (List.range ks.length).map (fun i => f ((ks.map (·.2)).getD i [])) = (ks.map (·.2)).map f := by
      refine List.ext_getElem (by simp) fun i g1 g2 => ?_
      have hi : i < ks.length := by simpa using g1
      simp only [List.getElem_map, List.getElem_range]
      rw [List.getD_eq_getElem?_getD, List.getElem?_map, List.getElem?_eq_getElem hi]; rfl
    rw [e]
end
/-! ### rules that name the fragment, within a comprehension -/
theorem CallR.k {X : Cx} {f : Value} {r : PySem.W.Frag → List V → Hp → VK → Prop} (h : CallR X f (r X.K)) {K : PySem.W.Frag} (e : X.K = K) : CallR X f (r K) := e ▸ h
theorem OpR.k {X : Cx} {f : Value → Value → Sem Value} {r : PySem.W.Frag → R2} (h : OpR X f (r X.K)) {K : PySem.W.Frag} (e : X.K = K) : OpR X f (r K) := e ▸ h
theorem SlR.k {X : Cx} {r : PySem.W.Frag → V → Option Int → Option Int → Hp → VK → Prop} (h : SlR X (r X.K)) {K : PySem.W.Frag} (e : X.K = K) : SlR X (r K) := e ▸ h
/-! ### pieces of tuples, tuples put together -/
theorem cut_take (xs : List V) (k : Nat) : cutV xs none (some (k : Int)) = xs.take k := by
  unfold cutV
  rw [HT.sIx_none, HT.sIx_nat, List.drop_zero, Nat.sub_zero]
  rcases Nat.le_total k xs.length with h | h
  · rw [Nat.min_eq_left h]
  · rw [Nat.min_eq_right h, List.take_of_length_le (Nat.le_refl _), List.take_of_length_le h]
theorem cut_drop (xs : List V) (k : Nat) : cutV xs (some (k : Int)) none = xs.drop k := by
  unfold cutV
  rw [HT.sIx_none, HT.sIx_nat]
  rcases Nat.le_total k xs.length with h | h
  · rw [Nat.min_eq_left h, List.take_of_length_le (by rw [List.length_drop]; omega)]
  · rw [Nat.min_eq_right h, List.drop_eq_nil_of_le (Nat.le_refl _), List.drop_eq_nil_of_le h, List.take_nil]
theorem cut_all {xs : List V} {lo hi : Option Int} (h1 : HT.sIx xs.length 0 lo = 0) (h2 : HT.sIx xs.length xs.length hi = xs.length) : cutV xs lo hi = xs := by
  unfold cutV
  rw [h1, h2, List.drop_zero, Nat.sub_zero, List.take_of_length_le (Nat.le_refl _)]
section
variable {K : PySem.W.Frag} {H : Hp} {Q : VK} {a b : Addr} {xs ys : List V}
theorem sl_use {lo hi : Option Int} (h : H a = some (.tup xs)) (q : ∀ p H', Same H H' → H' p = some (.tup (cutV xs lo hi)) → Q (.ref p) H') : rSlA K (.ref a) lo hi H Q :=
  ⟨a, xs, rfl, .inl (.inl h), fun ⟨h1, h2⟩ => q a H (Same.refl H) (by rw [cut_all h1 h2]; exact h), fun _ p hp => q p _ (same_upd hp) upd_same⟩
theorem sl_take {z : Int} {k : Nat} (e : z = k) (h : H a = some (.tup xs)) (q : ∀ p H', Same H H' → H' p = some (.tup (xs.take k)) → Q (.ref p) H') : rSlA K (.ref a) none (some z) H Q := by
  subst e
  exact sl_use h fun p H' s e => q p H' s (by rw [← cut_take]; exact e)
theorem sl_drop {z : Int} {k : Nat} (e : z = k) (h : H a = some (.tup xs)) (q : ∀ p H', Same H H' → H' p = some (.tup (xs.drop k)) → Q (.ref p) H') : rSlA K (.ref a) (some z) none H Q := by
  subst e
  exact sl_use h fun p H' s e => q p H' s (by rw [← cut_drop]; exact e)
theorem cat_use (h : H a = some (.tup xs)) (h2 : H b = some (.tup ys)) (hl : xs.length + ys.length ≤ 100000) (q : ∀ p H', Same H H' → H' p = some (.tup (xs ++ ys)) → Q (.ref p) H') : rCatA K (.ref a) (.ref b) H Q :=
  ⟨a, b, xs, ys, rfl, rfl, .inl (.inl h), .inl (.inl h2), by rw [sizeLine_eq]; omega, fun e => q b H (Same.refl H) (by rw [e]; exact h2), fun _ e => q a H (Same.refl H) (by rw [e, List.append_nil]; exact h), fun _ _ p hp => q p _ (same_upd hp) upd_same⟩
end
/-! ### equality of words, of rows of words -/
def pdw (w : List Int) : List PyData := w.map PyData.int
def pdr (ws : List (List Int)) : List PyData := ws.map fun w => PyData.tuple (pdw w)
theorem eqvAll_ints : ∀ x y : List Int, PyData.eqvAll (pdw x) (pdw y) = decide (x = y)
  | [], [] => by simp [pdw, PyData.eqvAll]
  | [], y :: ys => by simp [pdw, PyData.eqvAll]
  | x :: xs, [] => by simp [pdw, PyData.eqvAll]
  | x :: xs, y :: ys => by
    have ih := eqvAll_ints xs ys
    unfold pdw at ih ⊢
    rw [List.map_cons, List.map_cons, PyData.eqvAll, ih, PyData.eqv]
    by_cases e : x = y <;> by_cases f : xs = ys <;> simp [e, f]
theorem eqvAll_rows : ∀ x y : List (List Int), PyData.eqvAll (pdr x) (pdr y) = decide (x = y)
  | [], [] => by simp [pdr, PyData.eqvAll]
  | [], y :: ys => by simp [pdr, PyData.eqvAll]
  | x :: xs, [] => by simp [pdr, PyData.eqvAll]
  | x :: xs, y :: ys => by
    have ih := eqvAll_rows xs ys
    unfold pdr at ih ⊢
    rw [List.map_cons, List.map_cons, PyData.eqvAll, ih, PyData.eqv, eqvAll_ints]
    by_cases e : x = y <;> by_cases f : xs = ys <;> simp [e, f]
theorem lay_ints : ∀ w : List Int, PyData.canLayAll0 (pdw w) = true ∧ PyData.depthAll (pdw w) = 0
  | [] => ⟨by simp [pdw, PyData.canLayAll0], by simp [pdw, PyData.depthAll]⟩
  | x :: w => by
    obtain ⟨a, b⟩ := lay_ints w
    unfold pdw at a b ⊢
    rw [List.map_cons, PyData.canLayAll0, PyData.depthAll, a, b, PyData.canLay0, PyData.depth]
    exact ⟨rfl, rfl⟩
theorem lay_rows : ∀ ws : List (List Int), PyData.canLayAll0 (pdr ws) = true ∧ PyData.depthAll (pdr ws) ≤ 1
  | [] => ⟨by simp [pdr, PyData.canLayAll0], by simp [pdr, PyData.depthAll]⟩
  | x :: ws => by
    obtain ⟨a, b⟩ := lay_rows ws
    obtain ⟨c, d⟩ := lay_ints x
    unfold pdr at a b ⊢
    rw [List.map_cons, PyData.canLayAll0, PyData.depthAll, a, PyData.canLay0, PyData.depth, c, d]
    exact ⟨rfl, Nat.max_le.mpr ⟨by omega, b⟩⟩
theorem shaped_tup (w : List Int) : SeqAt.shaped (.tuple (pdw w)) = true := by
  obtain ⟨a, b⟩ := lay_ints w
  unfold SeqAt.shaped
  rw [PyData.canLay0, PyData.depth, a, b]; rfl
theorem shaped_lst (w : List Int) : SeqAt.shaped (.list (pdw w)) = true := by
  obtain ⟨a, b⟩ := lay_ints w
  unfold SeqAt.shaped
  rw [PyData.canLay0, PyData.depth, a, b]; rfl
theorem shaped_rows (ws : List (List Int)) : SeqAt.shaped (.list (pdr ws)) = true := by
  obtain ⟨a, b⟩ := lay_rows ws
  unfold SeqAt.shaped
  rw [PyData.canLay0, PyData.depth, a, Bool.true_and]
  exact decide_eq_true (by omega)
section
variable {K : PySem.W.Frag} {H : Hp} {Q : VK} {a b : Addr} {x y : List Int} {xs ys : List (List Int)}
theorem dp_ints : ∀ w : List Int, DpAll K H (w.map V.int) (pdw w)
  | [] => .nil
  | x :: w => .cons (.int x) (dp_ints w)
theorem dp_tup (h : H a = some (.tup (x.map V.int))) : Dp K H (.ref a) (.tuple (pdw x)) := .tup (.inl (.inl h)) (dp_ints x)
theorem dp_lst (h : H a = some (.lst (x.map V.int))) : Dp K H (.ref a) (.list (pdw x)) := .lst (.inl (.inl h)) (dp_ints x)
theorem dp_rows (h : Rows H a xs) : Dp K H (.ref a) (.list (pdr xs)) := by
  obtain ⟨ks, h1, rfl, h3⟩ := h
  refine .lst (.inl (.inl h1)) ?_
  clear h1
  induction ks with
  | nil => exact .nil
  | cons k ks ih => exact .cons (dp_tup (h3 k List.mem_cons_self)) (ih fun q hq => h3 q (List.mem_cons_of_mem _ hq))
theorem eqT (ha : H a = some (.tup (x.map V.int))) (hb : H b = some (.tup (y.map V.int))) (q : Q (.bl (decide (x = y))) H) : rEqD K (.ref a) (.ref b) H Q :=
  ⟨_, _, dp_tup ha, dp_tup hb, shaped_tup _, shaped_tup _, by rw [PyData.eqv, eqvAll_ints]; exact q⟩
theorem neT (ha : H a = some (.tup (x.map V.int))) (hb : H b = some (.tup (y.map V.int))) (q : Q (.bl (!decide (x = y))) H) : rNeD K (.ref a) (.ref b) H Q :=
  ⟨_, _, dp_tup ha, dp_tup hb, shaped_tup _, shaped_tup _, by rw [PyData.eqv, eqvAll_ints]; exact q⟩
theorem eqL (ha : H a = some (.lst (x.map V.int))) (hb : H b = some (.lst (y.map V.int))) (q : Q (.bl (decide (x = y))) H) : rEqD K (.ref a) (.ref b) H Q :=
  ⟨_, _, dp_lst ha, dp_lst hb, shaped_lst _, shaped_lst _, by rw [PyData.eqv, eqvAll_ints]; exact q⟩
theorem neL (ha : H a = some (.lst (x.map V.int))) (hb : H b = some (.lst (y.map V.int))) (q : Q (.bl (!decide (x = y))) H) : rNeD K (.ref a) (.ref b) H Q :=
  ⟨_, _, dp_lst ha, dp_lst hb, shaped_lst _, shaped_lst _, by rw [PyData.eqv, eqvAll_ints]; exact q⟩
theorem eqR (ha : Rows H a xs) (hb : Rows H b ys) (q : Q (.bl (decide (xs = ys))) H) : rEqD K (.ref a) (.ref b) H Q :=
  ⟨_, _, dp_rows ha, dp_rows hb, shaped_rows _, shaped_rows _, by rw [PyData.eqv, eqvAll_rows]; exact q⟩
theorem neR (ha : Rows H a xs) (hb : Rows H b ys) (q : Q (.bl (!decide (xs = ys))) H) : rNeD K (.ref a) (.ref b) H Q :=
  ⟨_, _, dp_rows ha, dp_rows hb, shaped_rows _, shaped_rows _, by rw [PyData.eqv, eqvAll_rows]; exact q⟩
theorem any_rows : ∀ ws : List (List Int), ((pdr ws).any fun z => PyData.eqv z (.tuple (pdw x))) = decide (x ∈ ws)
  | [] => by simp [pdr]
  | w :: ws => by
    have ih := any_rows ws
    unfold pdr at ih ⊢
    rw [List.map_cons, List.any_cons, ih, PyData.eqv, eqvAll_ints]
    by_cases e : w = x
    · simp [e]
    · have : ¬ x = w := fun z => e z.symm
      simp [e, this]
theorem inR (ha : H a = some (.tup (x.map V.int))) (hb : Rows H b ys) (q : Q (.bl (decide (x ∈ ys))) H) : rInD K (.ref a) (.ref b) H Q :=
  ⟨_, _, dp_tup ha, dp_rows hb, shaped_tup _, shaped_rows _, by rw [any_rows]; exact q⟩
theorem notInR (ha : H a = some (.tup (x.map V.int))) (hb : Rows H b ys) (q : Q (.bl (!decide (x ∈ ys))) H) : rNotInD K (.ref a) (.ref b) H Q :=
  ⟨_, _, dp_tup ha, dp_rows hb, shaped_tup _, shaped_rows _, by rw [any_rows]; exact q⟩
end
end Mine

namespace Mine
open PySem PySem.Spec PyProof.Rows L2
/-! ### several except clauses, with names -/
abbrev Suit := Addr → Value → Option Addr → TS
def endsAs (D : Ends) : Option Nat → Ends
  | none => D
  | some i => { nx := fun σ H => D.nx (σ.set i none) H, rt := D.rt, bk := fun σ H => D.bk (σ.set i none) H, ct := fun σ H => D.ct (σ.set i none) H }
def bindAs (σ : L2.St) (a : Addr) : Option Nat → L2.St
  | none => σ
  | some i => σ.set i (some (.ref a))
/-- what the clauses wish of an exception of the body -/
def wNamed (K : PySem.W.Frag) (Wout : WX) (D : Ends) : List (Value × Option Nat × Suit) → WX
  | [] => Wout
  | (c, o, ts) :: r => fun cls d σ H => ∃ b, PySem.W.exmOne K cls c = some b ∧ (b = true → ∀ a, H a = none → ts a cls d (endsAs D o) (bindAs σ a o) H) ∧ (b = false → wNamed K Wout D r cls d σ H)
def SuitOk (X : Cx) (body : List Stmt) (ts : Suit) : Prop := ∀ (a : Addr) (oe : Obj) (cls : Value) (d : Option Addr) (pn : List (Addr × Obj)), Zc cls d oe → (∃ vs, oe.data = .fields vs) → PSs (X.suite a ((a, oe) :: pn)) body (ts a cls d)
inductive HdsN (X : Cx) : List ExceptHandler → List (Value × Option Nat × Suit) → Prop
  | nil : HdsN X [] []
  | bare {x : Str} {c : Value} {ts : Suit} {b₀ : Stmt} {suite : List Stmt} {np pos' : Pos} {hds : List ExceptHandler} {l : List (Value × Option Nat × Suit)} (hc : Names X x c) (hsu : SuitOk X (b₀ :: suite) ts) (r : HdsN X hds l) :
      HdsN X (.ExceptHandler (some (.Name x np)) none (b₀ :: suite) pos' :: hds) ((c, none, ts) :: l)
  | named {x n : Str} {i : Nat} {c : Value} {ts : Suit} {b₀ : Stmt} {suite : List Stmt} {np pos' : Pos} {hds : List ExceptHandler} {l : List (Value × Option Nat × Suit)} (hi : X.N[i]? = some n) (hln : X.env.kindOf n = some .local)
      (hc : Names X x c) (hsu : SuitOk X (b₀ :: suite) ts) (r : HdsN X hds l) : HdsN X (.ExceptHandler (some (.Name x np)) (some n) (b₀ :: suite) pos' :: hds) ((c, some i, ts) :: l)
section
variable {X : Cx} {pins : List (Addr × Obj)}
/-- an exception in hand, at the clauses -/
structure Hand (X : Cx) (pins : List (Addr × Obj)) (σ : L2.St) (H : Hp) (a : Addr) (cls : Value) (d : Option Addr) (s : Shared) : Prop where
  ob : ∃ oe vs, s.heap.get? a = some oe ∧ Zc cls d oe ∧ oe.data = .fields vs
  inv : Inv X pins σ H s
  nH : H a = none
  nL : a ≠ X.env.locals
  nF : a ∉ X.fs
theorem Hand.suite {σ : L2.St} {H : Hp} {a : Addr} {cls : Value} {d : Option Addr} {s : Shared} (h : Hand X pins σ H a cls d s) : ∃ oe, Zc cls d oe ∧ (∃ vs, oe.data = .fields vs) ∧ Inv (X.suite a ((a, oe) :: (X.pn ++ pins))) [] σ H s := by
  obtain ⟨oe, vs, he, hz, hd⟩ := h.ob
  exact ⟨oe, hz, ⟨vs, hd⟩, h.inv.suite he hd h.nH h.nL h.nF⟩
theorem Hand.asks {σ : L2.St} {H : Hp} {a : Addr} {cls c : Value} {d : Option Addr} {s : Shared} {b : Bool} (h : Hand X pins σ H a cls d s) (e : PySem.W.exmOne X.K cls c = some b) : PySem.W.Looks (model X.prog X.w) s.heap (excMatches (.ref a) c) b := by
  obtain ⟨oe, vs, he, hz, hd⟩ := h.ob
  exact PySem.W.exm_one (M := model X.prog X.w) h.inv.kIn (fun A Q E s k q => wpAny_typeOf_ref (k _ _ he) (by rw [hz.1]; exact q)) e
theorem Hand.names {σ : L2.St} {H : Hp} {a : Addr} {cls c : Value} {d : Option Addr} {s : Shared} {x : Str} {np : Pos} (h : Hand X pins σ H a cls d s) (hc : Names X x c) {Q : Value → Shared → Prop} {E : Value → Shared → Prop} (q : Q c s) :
    wpAny (model X.prog X.w) (X.A.mark (some (.ref a))) (eval (.Name x np) X.env) Q E s := by
  obtain ⟨oe, hz, hd, S⟩ := h.suite
  obtain ⟨hg, hdbg, hm | ⟨hm, hv, hnn⟩⟩ := hc
  · exact ld_glob (X := X.suite a ((a, oe) :: (X.pn ++ pins))) S hg hm q hdbg
  · exact ld_blt (X := X.suite a ((a, oe) :: (X.pn ++ pins))) S hg hm hv q hnn hdbg
/-- the exception on its way, landed in this frame -/
structure Flown (X : Cx) (pins : List (Addr × Obj)) (σ : L2.St) (H : Hp) (a : Addr) (cls : Value) (d : Option Addr) (B : Heap) (sI s : Shared) : Prop where
  inv : Inv X pins σ H sI
  nb : ∀ b o, sI.heap.get? b = some o → b ∉ frs X.stack → B.get? b = some o
  up : sI.heap.UpToSlots s.heap
  fl : HandSPX.FlyingZ B (X.env :: X.outer) a (Zc cls d) s.heap
  na : H a = none
  os : s.os = sI.os
  ag : AllBare s.gens
section
variable {σ : L2.St} {H : Hp} {a : Addr} {cls : Value} {d : Option Addr} {B : Heap} {sI s : Shared}
theorem Flown.move {h : Heap} (f : Flown X pins σ H a cls d B sI s) (fl : HandSPX.FlyingZ B (X.env :: X.outer) a (Zc cls d) h) (up : s.heap.UpToSlots h) : Flown X pins σ H a cls d B sI { s with heap := h } :=
  ⟨f.inv, f.nb, f.up.trans up, fl, f.na, f.os, f.ag⟩
theorem Flown.hand (hf : X.env.frame = some X.env.locals) (f : Flown X pins σ H a cls d B sI s) : Hand X pins σ H a cls d s := by
  obtain ⟨oe, vs, he, hz, hd⟩ := f.fl.there
  have out : a ∉ frs (X.env :: X.outer) := fun hm => by
    obtain ⟨_, o', e', hnf⟩ := f.fl.2.2.1.mem hm
    rw [he] at e'
    cases e'
    exact hnf _ hd
  refine ⟨⟨oe, vs, he, hz, hd⟩, f.inv.landed f.nb f.fl.1 f.up f.os f.ag, f.na, fun z => out (List.mem_filterMap.mpr ⟨X.env, List.mem_cons_self, by rw [hf, z]⟩), fun hm => ?_⟩
  obtain ⟨e, he, q⟩ := List.mem_filterMap.mp hm
  exact out (List.mem_filterMap.mpr ⟨e, List.mem_cons_of_mem _ he, q⟩)
/-- the clauses, one after the other -/
theorem clauses_run {Wout : WX} {D : Ends} (ok : X.Ok) (hs : X.stack = X.env :: X.outer) (hf : X.env.frame = some X.env.locals) (hN : X.N.Nodup) (tk : Takes X Wout) :
    ∀ {hds : List ExceptHandler} {l : List (Value × Option Nat × Suit)}, HdsN X hds l → Flown X pins σ H a cls d B sI s → wNamed X.K Wout D l cls d σ H → wpAny (model X.prog X.w) X.A (handleBy (.ref a) X.env hds) (SP X pins D) X.xe s := by
  intro hds l hk
  induction hk with
  | nil =>
    intro f w
    refine wpAny_handleBy_nil ?_
    have fl := f.fl
    obtain ⟨_, _, _, oe, vs, T, oT, ts', he, hz, hd, h1, hr⟩ := id fl
    unfold PySem.passOn
    refine wpAny_bind (wpAny_field he hd h1 ?_)
    rw [if_neg (show ¬ ((Value.ref T == Value.none) = true) from by simp)]
    have out : wpAny (model X.prog X.w) X.A (setFlight (.ref a) X.env.frame) (fun _ s4 => wpAny (model X.prog X.w) X.A (throw (.ref a) : Sem Flow) (SP X pins D) X.xe s4) X.xe s := by
      rw [hf]
      exact HandSPX.setFlight_upZ fl fun h4 hh4 up4 => wpAny_throw (tk _ _ ⟨a, B, sI, pins, σ, H, cls, d, rfl, f.inv, f.nb, f.up.trans up4, .inr (.inr (by rw [hs]; exact hh4)), f.na, f.os, f.ag, w⟩)
    first
      | exact wpAny_bind (wpAny_pure (wpAny_bind out))
      | exact wpAny_bind out
  | bare hc hsu r ih =>
    intro f ⟨b, e, yes, no⟩
    have hand := f.hand hf
    refine wpAny_handleBy_cons (codeAny_handlers_test (hand.names hc ((hand.asks e).here ?_))) (by intro q; cases q)
    cases b with
    | false => exact ih f (no rfl)
    | true =>
      refine codeAny_handlers_suite (HandSPX.lands_againZ f.fl fun h4 fl4 up4 => ?_)
      obtain ⟨oe, hz, hd, S⟩ := ((f.move fl4 up4).hand hf).suite
      refine wpAny_mono ((hsu a oe cls d (X.pn ++ pins) hz hd).run [] _ _ H _ S (yes rfl a f.na)) (fun g s6 hsp => ?_) (fun _ _ z => False.elim z)
      cases g with
      | next => obtain ⟨σ6, H6, S6, q6⟩ := hsp; exact ⟨_, _, S6.unsuite ok, q6⟩
      | brk => obtain ⟨σ6, H6, S6, q6⟩ := hsp; exact ⟨_, _, S6.unsuite ok, q6⟩
      | cont => obtain ⟨σ6, H6, S6, q6⟩ := hsp; exact ⟨_, _, S6.unsuite ok, q6⟩
      | ret u => obtain ⟨v6, σ6, H6, S6, r6, q6⟩ := hsp; exact ⟨_, _, _, S6.unsuite ok, r6, q6⟩
  | named hi hln hc hsu r ih =>
    intro f ⟨b, e, yes, no⟩
    have hand := f.hand hf
    refine wpAny_handleBy_cons (codeAny_handlers_test (hand.names hc ((hand.asks e).here ?_))) (by intro q; cases q)
    cases b with
    | false => exact ih f (no rfl)
    | true =>
      refine codeAny_handlers_suite_as (HandSPX.lands_againZ f.fl fun h4 fl4 up4 => ?_)
      obtain ⟨oe, hz, hd, S⟩ := ((f.move fl4 up4).hand hf).suite
      refine store_ok (X := X.suite a ((a, oe) :: (X.pn ++ pins))) (v := .ref a) S hN hi (.inl hln) rfl (fun s5 S5 => ?_) (.inr hln)
      refine wpAny_mono ((hsu a oe cls d (X.pn ++ pins) hz hd).run [] s5 _ H _ S5 (yes rfl a f.na)) (fun g s6 hsp => ?_) (fun _ _ z => False.elim z)
      cases g with
      | next => obtain ⟨σ6, H6, S6, q6⟩ := hsp; exact gone_ok (S6.unsuite ok) hN hi hln fun s7 J7 => ⟨_, _, J7, q6⟩
      | brk => obtain ⟨σ6, H6, S6, q6⟩ := hsp; exact gone_ok (S6.unsuite ok) hN hi hln fun s7 J7 => ⟨_, _, J7, q6⟩
      | cont => obtain ⟨σ6, H6, S6, q6⟩ := hsp; exact gone_ok (S6.unsuite ok) hN hi hln fun s7 J7 => ⟨_, _, J7, q6⟩
      | ret u => obtain ⟨v6, σ6, H6, S6, r6, q6⟩ := hsp; exact gone_ok (S6.unsuite ok) hN hi hln fun s7 J7 => ⟨_, _, _, J7, r6, q6⟩
end
/-- try with any number of clauses, each with a name or without -/
theorem ps_try_named {body : List Stmt} {h₀ : ExceptHandler} {hds : List ExceptHandler} {l : List (Value × Option Nat × Suit)} {pos : Pos} {tb : WX → TS} {Wout : WX} (hs : X.stack = X.env :: X.outer) (hf : X.env.frame = some X.env.locals) (hN : X.N.Nodup) (tk : Takes X Wout)
    (hb : ∀ (W : WX) (pn : List (Addr × Obj)) (xe : Value → Shared → Prop), Takes (X.tr pn xe) W → PassesOwn (model X.prog X.w) X.A X.env xe → PSs (X.tr pn xe) body (tb W)) (hh : HdsN X (h₀ :: hds) l) :
    PS X (.Try body (h₀ :: hds) [] [] pos) (fun D σ H => tb (wNamed X.K Wout D l) D σ H) := by
  refine ⟨fun pins s σ H D I h => ?_⟩
  have ok := I.ok
  have hfr : X.A.frames = some (X.env :: X.outer) := by rw [ok.frames, hs]
  refine wpAny_Try_except (wpAny_mono ((hb (wNamed X.K Wout D l) (X.pn ++ pins) (fun e s₁ => wpAny (model X.prog X.w) X.A (noteFrame e X.env) (fun _ s₂ => wpAny (model X.prog X.w) X.A (setFlight e none) (fun _ s₃ =>
    wpAny (model X.prog X.w) X.A (handleBy e X.env (h₀ :: hds)) (SP X pins D) X.xe s₃) X.xe s₂) X.xe s₁) (fun u s' xx => ?_) PassesOwn.looking).run [] s σ H D (I.toTry _) h) (fun f s1 hsp => ?_) (fun e s1 he => he))
  · obtain ⟨a, B, sI, pins', σ', H', cls, d, rfl, J, nb, up, sky, na, os, ag, w⟩ := xx
    rw [show (X.tr (X.pn ++ pins) _).stack = X.env :: X.outer from hs] at sky
    exact Sky.land Zc.steady hfr hf sky fun h3 fl3 up3 => clauses_run ok hs hf hN tk hh ⟨J.ofTry ok, nb, up.trans up3, fl3, na, os, ag⟩ w
  · cases f with
    | next => obtain ⟨σ', H', J, q⟩ := hsp; exact wpAny_execs_nil ⟨σ', H', J.ofTry ok, q⟩
    | brk => obtain ⟨σ', H', J, q⟩ := hsp; exact ⟨σ', H', J.ofTry ok, q⟩
    | cont => obtain ⟨σ', H', J, q⟩ := hsp; exact ⟨σ', H', J.ofTry ok, q⟩
    | ret u => obtain ⟨v, σ', H', J, r, q⟩ := hsp; exact ⟨v, σ', H', J.ofTry ok, r, q⟩
end
end Mine

namespace PySem.W
open PySem PySem.Spec PySem.Calls PyProof.Rows
section
variable {prog : Program} {w : World} {A : Around} {E : Value → Shared → Prop} {s : Shared} {K : Frag} {x D : Addr} {ox : Obj} {od : Option Obj}
/-- where a class gives a name by data, the instance's own dict is never looked at -/
theorem mine_find_data {C : Addr} {name : Str} {a g : Value} (hc : (clsIn K C).isSome = true) (ha : findIn K (.ref C) name = some (some a)) (hg : specialIn K a "__get__" = some (some g)) (ht : takesIn K a = some true) : findObj K C od name = some (.bind g a) := by
  obtain ⟨cd, hc⟩ := Option.isSome_iff_exists.mp hc
  simp [findObj, hc, ha, hg, ht]
/-- e.__class__, e an exception of an own class, with a dict of its own or without -/
theorem mine_exc_class {Q : Option Value → Shared → Prop} (T : L2.ExcC K D) (X : K.In s.heap) (I : InstAt s.heap x ox D od) (h : Q (some (.ref D)) { s with toks := s.toks + 1 }) : wpAny (model prog w) A (getAttr? (.ref x) "__class__") Q E s := by
  obtain ⟨cd, hcd, _⟩ := any_some T.hd
  obtain ⟨hp, g, d, t, os⟩ := s
  have ofX := I.type (M := model prog w)
  have asked := looks_findIn (M := model prog w) X T.hg
  have behind := looks_findIn (M := model prog w) X T.hk
  have found := looks_find (M := model prog w) X I (mine_find_data (od := od) (name := "__class__") (by rw [hcd]; rfl) T.ha T.hn T.ht)
  have under : Looks (model prog w) hp (isInstance (.ref x) (.type "BaseException")) true := ofX.andThen (looks_subIn X T.hs)
  have other : (Value.builtin "BaseException.__getattribute__" == Value.builtin "object.__getattribute__") = false := by decide +kernel
  unfold getAttr? getAttrBy? getAttrBy
  refine wpAny_bind (wpAny_mkText (wpAny_bind (wpAny_attempt (wpAny_holding (wpAny_bind (ofX.at (wpAny_bind (asked.at ?_))))))))
  show wpAny _ _ (if (onTheHeap (Value.ref D) && Value.builtin "BaseException.__getattribute__" == Value.builtin "object.__getattribute__") = true then _ else _) _ _ _
  rw [other, Bool.and_false, if_neg Bool.false_ne_true]
  unfold getAttrByItsOwn hookBefore
  refine wpAny_bind ?_
  rw [if_pos (show onTheHeap (Value.ref D) = true from rfl)]
  refine behind.at (wpAny_bind (wpAny_attempt (wpAny_holding ?_)))
  unfold callGetattribute
  rw [show (false && onTheHeap (Value.builtin "BaseException.__getattribute__")) = false from rfl, if_neg Bool.false_ne_true]
  unfold boundAndCalled
  rw [PySem.F.excAttr_ValueError.ga.bind (.ref x)]
  refine wpAny_bind (wpAny_pure ?_)
  show wpAny _ _ (call (.builtin "BaseException.__getattribute__") [.ref x, .str "__class__" t]) _ _ _
  refine wpAny_call (codeAny_call_builtin PySem.F.excAttr_ValueError.ga.plain PySem.F.entry_bexc_ga (@check_slot (model prog w) _ _ ⟨hp, g, d, t + 1, os⟩ "BaseException.__getattribute__" "BaseException" "__getattribute__" (.ref x) [.str "__class__" t] [] _
    (by decide +kernel) (by decide +kernel) under (PySem.F.args_bexc_ga (.ref x) (.str "__class__" t)) ?_))
  unfold Builtin.«object.__getattribute__»
  refine wpAny_bind (wpAny_of_eq (a := ((Value.ref x : Value), [Value.str "__class__" t])) (by first | rfl | (simp only [slotArgs]; rfl)) ?_)
  refine wpAny_bind (wpAny_pure (wpAny_bind (ofX.at (wpAny_bind (found.at ?_)))))
  show wpAny _ _ (holding [Value.builtin "object.__class__"] (call (.builtin "getset_descriptor.__get__") [.builtin "object.__class__", .ref x, .ref D]) >>= ret) _ _ _
  refine wpAny_bind (wpAny_holding (wpAny_call (class_get (s := ⟨hp, g, d, t + 1, os⟩) (ox := ox) (od := od) X I T.hm (wpAny_pure ?_))))
  show wpAny _ _ (handedOut (.ref D)) _ _ _
  rw [handedOut_of (v := .ref D) rfl]
  first
    | exact wpAny_pure (wpAny_pure h)
    | exact wpAny_pure h
    | exact wpAny_pure (wpAny_bind (wpAny_pure (wpAny_pure h)))
theorem mine_class_head (hdct : hasDictIn K D = true) {h : Heap} (X : K.In h) : ∃ o, h.get? D = some o ∧ ∃ cd, o.data = .cls cd := by
  obtain ⟨cd, hc, _⟩ := any_some hdct
  unfold clsIn at hc
  split at hc
  · rename_i ho
    exact ⟨_, X _ _ ho, _, rfl⟩
  · cases hc
theorem mine_kitx_exc (T : L2.ExcC K D) : KitX K (.ref x) (.ref D) (fun h => InstAt h x ox D od) where
  ty := fun _ _ _ I => I.type
  it := fun _ h X _ => by
    obtain ⟨o, ho, cd, hd⟩ := mine_class_head T.hd X
    obtain ⟨c, dd, dt, sl⟩ := o
    dsimp only at hd
    subst hd
    intro A' Q' E' s' k q
    unfold isType loadHead
    exact wpAny_bind (wpAny_loadPart (k _ _ ho) (wpAny_pure q))
  ne := fun h tp dd its n sl X htp => by
    obtain ⟨o, ho, cd, hd⟩ := mine_class_head T.hd X
    refine Bool.eq_false_iff.mpr fun q => ?_
    have e : D = tp := Value.ref.inj (beq_iff_eq.mp q)
    rw [e, htp] at ho
    cases ho
    cases hd
  ca := fun X I k => mine_exc_class T X I k
end
end PySem.W
namespace Mine
open PySem PySem.Spec PyProof.Rows L2
/-- isinstance(e, c), e the exception in hand -/
def rIsX (K : PySem.W.Frag) (a : Addr) (cls : Value) (d : Option Addr) : List V → Hp → VK → Prop := fun xs H Q => ∃ (D : Addr) (c : V) (cv : Value) (b : Bool), xs = [.ref a, c] ∧ cls = .ref D ∧ ExcC K D ∧ (∀ u, RelV c u → u = cv) ∧ PySem.W.kitOne K (.ref D) cv = some b ∧
  (∀ dd, d = some dd → ∃ fs, H dd = some (.xd fs)) ∧ Q (.bl b) H
theorem call_isX {X : Cx} {K : PySem.W.Frag} (eK : X.K = K) {a : Addr} {cls : Value} {d : Option Addr} {oe : Obj} {pn : List (Addr × Obj)} (hz : Zc cls d oe) (hf : ∃ vs, oe.data = .fields vs) : CallR (X.suite a ((a, oe) :: pn)) (.builtin "isinstance") (rIsX K a cls d) := by
  subst eK
  intro pins s σ H xs us Q I r h
  obtain ⟨D, c, cv, b, rfl, rfl, T, hcv, e, hdd, q⟩ := h
  cases r with
  | cons rx rr =>
    cases rr with
    | cons rt rr =>
      cases rr
      cases rx
      obtain rfl := hcv _ rt
      obtain ⟨hget, _⟩ := I.pin (a, oe) (List.mem_append.mpr (.inl List.mem_cons_self))
      obtain ⟨vs, hv⟩ := hf
      obtain ⟨oc, od, oda, osl⟩ := oe
      obtain ⟨h1, h2⟩ := hz
      dsimp only at h1 h2 hv
      subst h1 h2 hv
      have J : ∃ o, PySem.W.InstAt s.heap a ⟨.ref D, od, .fields vs, osl⟩ D o := by
        cases od with
        | none => exact ⟨none, hget, rfl, rfl, trivial⟩
        | some dd =>
          obtain ⟨fs, ha⟩ := hdd dd rfl
          obtain ⟨mA, hns, hr⟩ := (show ObjOk X.prog X.w H s.heap dd (.xd fs) from I.hok dd _ ha)
          obtain ⟨o, ho, _⟩ := lookIn_ns hns
          exact ⟨some o, hget, rfl, rfl, ho⟩
      obtain ⟨o, J⟩ := J
      exact PySem.W.kia_one (PySem.W.mine_kitx_exc T) I.kIn J e (fun z => nomatch z) fun tk => ⟨.bl b, H, I.kept (t' := tk) fun _ _ z => z, rfl, q⟩
/-- the facts of ExcC by one Bool -/
def isxB (K : PySem.W.Frag) (D : Addr) : Bool := He.eqO (PySem.W.findIn K (.ref D) "__getattribute__") (some (some (.builtin "BaseException.__getattribute__"))) && (He.eqO (PySem.W.findIn K (.ref D) "__getattr__") (some none) && (decide (PySem.W.subIn K (.ref D) (.type "BaseException") = some true) &&
  (PySem.W.hasDictIn K D && (He.eqO (PySem.W.findIn K (.ref D) "__class__") (some (some (.builtin "object.__class__"))) && (He.eqO (PySem.W.specialIn K (.builtin "object.__class__") "__get__") (some (some (.builtin "getset_descriptor.__get__"))) &&
  (decide (PySem.W.takesIn K (.builtin "object.__class__") = some true) && decide (PySem.W.mroIn K D (.type "object") = some true)))))))
theorem isxB_ok {K : PySem.W.Frag} {D : Addr} (h : isxB K D = true) : ExcC K D := by
  obtain ⟨a, h⟩ := He.ba h
  obtain ⟨b, h⟩ := He.ba h
  obtain ⟨c, h⟩ := He.ba h
  obtain ⟨d, h⟩ := He.ba h
  obtain ⟨e, h⟩ := He.ba h
  obtain ⟨f, h⟩ := He.ba h
  obtain ⟨g, i⟩ := He.ba h
  exact ⟨He.eqO_ok a, He.eqO_ok b, of_decide_eq_true c, d, He.eqO_ok e, He.eqO_ok f, of_decide_eq_true g, of_decide_eq_true i⟩
end Mine

namespace L2
open PySem PySem.Spec PyProof.Rows
/-- t * 1 is t itself -/
theorem mine_mul_one (l : Addr) (items : Array Value) (n : Nat) (dd : Option Addr) (sl : Array (Option Value)) (u : Tok) :
    Meets (Builtin.«tuple.__mul__» ⟨[.ref l, .int 1 u], []⟩) (fun _ R s => s.heap.get? l = some { cls := .type "tuple", dict := dd, data := .seq items n, slots := sl } ∧ R (.ok (.ret (Value.ref l))) s) :=
  .of_wp fun prog w A R s h => by
    obtain ⟨hp, g, d, tk, os⟩ := s
    obtain ⟨hl, h⟩ := h
    have f1 := AutoSeq1.idx_int
    wp_walk using wpAny_loadPart' hl
    exact ⟨_, rfl, h⟩
end L2
namespace Mine
open PySem PySem.Spec PyProof.Rows L2
section
variable {X : Cx}
/-- t * k, k from 1 on -/
def rRepA : R2 := fun x y H Q => ∃ l k xs, x = .ref l ∧ y = .int k ∧ H l = some (.tup xs) ∧ xs ≠ [] ∧ 1 ≤ k ∧ k ≤ 1000 ∧ xs.length ≤ 1000 ∧ ∀ p H', Same H H' → H' p = some (.tup (List.replicate k.toNat xs).flatten) → Q (.ref p) H'
theorem op_repA : OpR X (binaryOp .Mult) rRepA := by
  intro pins s σ H x y v u Q I rx ry h
  obtain ⟨l, k, xs, rfl, rfl, hl, hne, h1, h2, hz, q⟩ := h
  by_cases e : 2 ≤ k
  · exact op_repT pins s σ H _ _ v u Q I rx ry ⟨l, k, xs, rfl, rfl, .inl (.inl hl), hne, e, h2, hz, fun p hp => q p _ (same_upd hp) upd_same⟩
  · obtain rfl : k = 1 := by omega
    cases rx
    obtain ⟨t, rfl⟩ := ry
    obtain ⟨its, r, ⟨⟨cls, dd, data, sl⟩, ho, hc, n, hd⟩, hs⟩ := I.tuple (.inl (.inl hl) : SqT X.K H l xs)
    simp only at hc hd
    subst hc hd
    refine wpAny_binaryOp_repeat_ref (T := "tuple") (U := "int") (by decide) ⟨_, ho, rfl⟩ (fun s' => typeIs_int s' 1 t) noFill_tuple_mul F.fills_int_mul F.slot_int_rmul repeat_tuple F.slot_int_index.lookup
      (call_meets F.slot_int_rmul (typeIs_int s 1 t) F.entry_int_rmul (F.args_int_rmul_2 _ _) (int_rmul_tuple 1 t l its.toArray n dd sl)
        ⟨ho, rfl, ⟨_, ho, rfl⟩, call_meets F.slot_tuple_mul ⟨_, ho, rfl⟩ F.entry_tuple_mul (F.args_tuple_mul_2 _ _) (mine_mul_one l its.toArray n dd sl t) ⟨ho, ?_⟩⟩)
    exact ⟨.ref l, H, I, rfl, q l H (Same.refl H) (by rw [hl]; simp)⟩
/-- xs[i], for xs[i] += .. -/
theorem get_list : PGet X rIxH := by
  intro pins s σ H o i ov iv Q I ro ri h
  obtain ⟨p, k, xs, z, rfl, rfl, hp, he, q⟩ := h
  cases ro
  obtain ⟨t, rfl⟩ := ri
  obtain ⟨its, r, pl, hz⟩ := I.list (.inl (.inl hp) : SqL X.K H p xs)
  obtain ⟨j, h1, h2, h3, h4, h5⟩ := atI_get he
  obtain ⟨w, ew, rw'⟩ := r.get h2
  have hl := r.length
  have hn := line63
  have fin : EP X pins σ Q w s := ⟨z, H, I, rw', q⟩
  by_cases h0 : 0 ≤ k
  · have hj : k.toNat = j := Option.some.inj ((seqIndex_of h0 h5).symm.trans h1)
    exact wpAny_getItem_list pl.isList h0 (by omega) (by rw [hj]; simpa using ew) fin
  · have hj : (k + (its.toArray.size : Int)).toNat = j := by
      rw [List.size_toArray, ← hl]
      exact Option.some.inj ((seqIndex_neg (by omega) h4).symm.trans h1)
    exact wpAny_getItem_list_neg pl.isList (by omega) (by rw [List.size_toArray] <;> omega) (by omega) (by rw [hj]; simpa using ew) fin
/-- sum of a list or a tuple of whole numbers -/
def rSumA (K : PySem.W.Frag) : List V → Hp → VK → Prop := fun vs H Q => ∃ (a : Addr) (ns : List Int), vs = [V.ref a] ∧ (SqL K H a (ns.map V.int) ∨ SqT K H a (ns.map V.int)) ∧ Q (.int ns.sum) H
theorem cr_sumA (hc : X.calm = true) : CallR X (.builtin "sum") (rSumA X.K) := by
  intro pins s σ H vs us Q I r ⟨a, ns, e, h, q⟩
  rcases h with h | h
  · exact cr_sum hc pins s σ H vs us Q I r ⟨a, ns, e, h, q⟩
  · exact cr_sumT hc pins s σ H vs us Q I r ⟨a, ns, e, h, q⟩
end
/-! ### zip of a tuple and a list -/
def ItzM (K : PySem.W.Frag) (a b : Addr) : It :=
  ⟨fun i H => ∃ (xs ys : List V) (x y : V), SqT K H a xs ∧ SqL K H b ys ∧ xs[i]? = some x ∧ ys[i]? = some y,
    fun i H v H' => ∃ T x y, v = .ref T ∧ H T = none ∧ H' = upd H T (.tup [x, y]) ∧ (∀ xs, SqT K H a xs → xs[i]? = some x) ∧ ∀ ys, SqL K H b ys → ys[i]? = some y,
    fun i H => ∃ xs ys : List V, SqT K H a xs ∧ SqL K H b ys ∧ (xs.length = i ∨ ys.length = i) ∧ i ≤ xs.length ∧ i ≤ ys.length⟩
/-- the cells of such a walk at turn i -/
def ZipSt (z TI TO i1 i2 a b : Addr) (i : Nat) (h : Heap) : Prop := IsZip h z TI TO .none ∧ IsTupOf2 h TI (.ref i1) (.ref i2) ∧ (∃ x y, IsTupOf2 h TO x y) ∧ h.IsTupleIter i1 a i ∧ h.IsListIter i2 b i
theorem turn_zipM {P : Program} {w : World} {K : PySem.W.Frag} {elts : List Expr} {kk : Nat} {tpos : Pos} {a b z TI TO i1 i2 : Addr} (S : ZipSep2 z TI TO i1 i2 [i1, a] [i2, b]) (ha : a ≠ i1) (hb : b ≠ i2) :
    Turn P w K (.Tuple elts kk tpos) (ItzM K a b) [z, TI, TO, i1, i2] z (ZipSt z TI TO i1 i2 a b) where
  mem := by simp
  obj := fun i h st c hc => by
    obtain ⟨hz, hTI, ⟨x, y, hTO⟩, ⟨o1, e1, _, d1⟩, ⟨o2, e2, _, d2⟩⟩ := st
    have e' : c = z ∨ c = TI ∨ c = TO ∨ c = i1 ∨ c = i2 := by simpa using hc
    rcases e' with rfl | rfl | rfl | rfl | rfl
    · exact ⟨_, hz, fun v q => nomatch q⟩
    · exact ⟨_, hTI, fun v q => nomatch q⟩
    · exact ⟨_, hTO, fun v q => nomatch q⟩
    · exact ⟨o1, e1, fun v q => by rw [d1] at q; cases q⟩
    · exact ⟨o2, e2, fun v q => by rw [d2] at q; cases q⟩
  keep := fun i h h' st k => by
    obtain ⟨hz, hTI, ⟨x, y, hTO⟩, h1, h2⟩ := st
    exact ⟨k z (by simp) _ hz, k TI (by simp) _ hTI, ⟨x, y, k TO (by simp) _ hTO⟩, h1.at fun o q => k i1 (by simp) o q, h2.at fun o q => k i2 (by simp) o q⟩
  item := by
    intro X hP hw hK hc i pins s σ H E I hf st hg
    subst hP hw hK
    obtain ⟨hz, hTI, ⟨x0, y0, hTO⟩, h1, h2⟩ := st
    obtain ⟨xs, ys, x, y, hqx, hqy, hx, hy⟩ := hg
    obtain ⟨its, rv, p1, _⟩ := I.tuple hqx
    obtain ⟨its2, rv2, p2, _⟩ := I.list hqy
    obtain ⟨u, hu, ru⟩ := rv.get hx
    obtain ⟨u2, hu2, ru2⟩ := rv2.get hy
    have below : z < s.heap.objs.size ∧ TI < s.heap.objs.size ∧ TO < s.heap.objs.size ∧ i1 < s.heap.objs.size ∧ i2 < s.heap.objs.size :=
      ⟨Heap.lt_size hz, Heap.lt_size hTI, Heap.lt_size hTO, by obtain ⟨_, e, _⟩ := h1; exact Heap.lt_size e, by obtain ⟨_, e, _⟩ := h2; exact Heap.lt_size e⟩
    have l1 : i < its.toArray.size := by obtain ⟨q, _⟩ := List.getElem?_eq_some_iff.mp hu; simpa using q
    have l2 : i < its2.toArray.size := by obtain ⟨q, _⟩ := List.getElem?_eq_some_iff.mp hu2; simpa using q
    refine wpAny_pyNext_zipD2_item (i := i) S (Draws.tuple (A := X.A.in1) (I.ok.hd hc) i1 a ha its.toArray) (Draws.list (A := X.A.in1) (I.ok.hd hc) i2 b hb its2.toArray) hz hTI hTO ⟨h1, p1⟩ ⟨h2, p2.isList⟩ l1 l2 fun x1 x2 h' tk e1 e2 z' TO' s1' s2' hT hsz hk => ?_
    obtain rfl : x1 = u := Option.some.inj (e1.symm.trans (by simpa using hu))
    obtain rfl : x2 = u2 := Option.some.inj (e2.symm.trans (by simpa using hu2))
    refine ⟨_, rfl, wpAny_letOwnedTupleGo_zip (s := { s with heap := h', toks := tk }) z' fun h'' z'' sb => ?_⟩
    have hT2 : h''.get? s.heap.objs.size = some { cls := .type "tuple", data := .seq #[x1, x2] } := (sb.2 _ (Nat.ne_of_gt below.1)).trans hT
    have I1 : Inv X pins σ (upd H s.heap.objs.size (.tup [x, y])) { s with heap := h'', toks := tk } :=
      I.turnedNew (ch := [z, TI, TO, i1, i2]) (fun c o hb q => (sb.2 c (fun q' => hb (by simp [q']))).trans (hk c o (fun q' => hb (by simp [q'])) (fun q' => hb (by simp [q'])) (fun q' => hb (by simp [q'])) (fun q' => hb (by simp [q'])) q)) hf (Nat.le_refl _)
        ⟨by show 2 ≤ sizeLine; decide, [x1, x2], .cons ru (.cons ru2 .nil), ⟨_, hT2, rfl, _, rfl⟩⟩
    have TI' : IsTupOf2 h' TI (.ref i1) (.ref i2) := hk _ _ S.TIz S.TITO S.TIi1 S.TIi2 hTI
    refine ⟨.ref s.heap.objs.size, _, I1, rfl, ⟨_, x, y, rfl, I.hok.fresh (Nat.le_refl _), rfl, fun l hl => by rw [I.tuple_inj hl hqx]; exact hx, fun l hl => by rw [I.list_inj hl hqy]; exact hy⟩, ⟨z'', (sb.2 _ S.TIz).trans TI', ⟨x1, x2, (sb.2 _ S.TOz).trans TO'⟩, s1'.1.at fun o q => (sb.2 _ (Ne.symm S.zi1)).trans q, s2'.1.at fun o q => (sb.2 _ (Ne.symm S.zi2)).trans q⟩, fun c hcm => ?_⟩
    have lt : c < s.heap.objs.size := by
      have e' : c = z ∨ c = TI ∨ c = TO ∨ c = i1 ∨ c = i2 := by simpa using hcm
      rcases e' with rfl | rfl | rfl | rfl | rfl
      · exact below.1
      · exact below.2.1
      · exact below.2.2.1
      · exact below.2.2.2.1
      · exact below.2.2.2.2
    rw [upd_ne (Nat.ne_of_lt lt)]
    exact (hf c hcm).1
  done := by
    intro X hP hw hK hc i pins s σ H E I hf st hg
    subst hP hw hK
    obtain ⟨hz, hTI, ⟨x0, y0, hTO⟩, h1, h2⟩ := st
    obtain ⟨xs, ys, hqx, hqy, hend, le1, le2⟩ := hg
    obtain ⟨its, rv, p1, _⟩ := I.tuple hqx
    obtain ⟨its2, rv2, p2, _⟩ := I.list hqy
    have l1 := rv.length
    have l2 := rv2.length
    exact wpAny_pyNext_zipD2_end (i := i) S (Draws.tuple (A := X.A.in1) (I.ok.hd hc) i1 a ha its.toArray) (Draws.list (A := X.A.in1) (I.ok.hd hc) i2 b hb its2.toArray) hz hTI hTO ⟨h1, p1⟩ ⟨h2, p2.isList⟩
      (by rw [List.size_toArray]; omega) (by rw [List.size_toArray]; omega) (by rw [List.size_toArray, List.size_toArray]; omega) fun h' tk hk => ⟨rfl, I.turnedL (t' := tk) (ch := [z, TI, TO, i1, i2]) (fun c o hb q =>
        hk c o (fun q' => hb (by simp [q'])) (fun q' => hb (by simp [q'])) (fun q' => hb (by simp [q'])) (fun q' => hb (by simp [q'])) q) hf⟩
  self := fun A i s Q E st h => wpAny_pyIter_zip st.1 h
/-- zip(a, b), a a tuple, b a list or a tuple -/
def iZipS (K : PySem.W.Frag) (ta : TA) : TI := fun σ H R => ta σ H fun vs H1 => ∃ a b xs ys, vs = [.ref a, .ref b] ∧ SqT K H1 a xs ∧ ((SqL K H1 b ys ∧ R (ItzM K a b) H1) ∨ (SqT K H1 b ys ∧ R (RZ.ItzT K a b) H1))
theorem pi_zipS {X : Cx} {e e2 : Expr} {ta : TA} {p pos tpos : Pos} {elts : List Expr} {kk : Nat} (hg : Gl X "zip") (hm : X.mg "zip" = none) (ha : PA X [e, e2] ta)
    (hs : starEach [e, e2] X.env = (false, eval e X.env) :: starEach [e2] X.env := by rfl) (hpl : (backTo pos (starEach [e2] X.env)).any (·.1) = false := by rfl) :
    PI X (.Tuple elts kk tpos) (.Call (.Name "zip" p) [e, e2] [] pos) (iZipS X.K ta) := by
  refine ⟨fun pins s σ H R I h => ?_⟩
  refine Call_ (ld_blt I hg hm PyProof.Rows.boot_zip (PyProof.Rows.callWith_type1 (thn (ha.run pos pins s σ H _ I h) fun us s1 ⟨vs, H1, I1, r1, q1⟩ => ?_) hs hpl))
  obtain ⟨a, b, xs, ys, rfl, hqx, q1⟩ := q1
  cases r1 with
  | cons r rr =>
    cases rr with
    | cons r' rr =>
      cases rr
      cases r
      cases r'
      have fresh : ∀ c, c ∈ [s1.heap.objs.size + 4, s1.heap.objs.size + 2, s1.heap.objs.size + 3, s1.heap.objs.size, s1.heap.objs.size + 1] → FpOk X pins H1 c := fun c hc => by
        have le : s1.heap.objs.size ≤ c := by
          have e' : c = s1.heap.objs.size + 4 ∨ c = s1.heap.objs.size + 2 ∨ c = s1.heap.objs.size + 3 ∨ c = s1.heap.objs.size ∨ c = s1.heap.objs.size + 1 := by simpa using hc
          have : ∀ k : Nat, s1.heap.objs.size ≤ s1.heap.objs.size + k := fun k => Nat.le_add_right _ _
          rcases e' with rfl | rfl | rfl | rfl | rfl
          · exact this 4
          · exact this 2
          · exact this 3
          · exact Nat.le_refl _
          · exact this 1
        exact I1.fpOk le (I1.hok.fresh le)
      obtain ⟨its, rv, p1, _⟩ := I1.tuple hqx
      have lta : a < s1.heap.objs.size := by obtain ⟨o, ho, _⟩ := id p1; exact Heap.lt_size ho
      rcases q1 with ⟨hqy, q⟩ | ⟨hqy, q⟩
      · obtain ⟨its2, rv2, p2, _⟩ := I1.list hqy
        have ltb := p2.lt
        refine zip_begins2 (begins_tuple a its.toArray) (begins_list b its2.toArray) p1 p2.isList fun h' hz hTI hTO g1 g2 hsz hk => wpAny_pyIter_zip hz ?_
        have S := zip_sep2 (N := s1.heap.objs.size) (fp1 := [a]) (fp2 := [b]) (fun c hc => by rw [List.mem_singleton.mp hc]; exact lta) (fun c hc => by rw [List.mem_singleton.mp hc]; exact ltb)
        exact ⟨s1.heap.objs.size + 4, [s1.heap.objs.size + 4, s1.heap.objs.size + 2, s1.heap.objs.size + 3, s1.heap.objs.size, s1.heap.objs.size + 1], _, _, H1, rfl, I1.kept (t' := s1.toks) hk,
          turn_zipM S (Nat.ne_of_lt lta) (Nat.ne_of_lt (Nat.lt_succ_of_lt ltb)), ⟨hz, hTI, ⟨_, _, hTO⟩, ⟨_, g1, rfl, rfl⟩, ⟨_, g2, rfl, rfl⟩⟩, fresh, q⟩
      · obtain ⟨its2, rv2, p2, _⟩ := I1.tuple hqy
        have ltb : b < s1.heap.objs.size := by obtain ⟨o, ho, _⟩ := id p2; exact Heap.lt_size ho
        refine zip_begins2 (begins_tuple a its.toArray) (begins_tuple b its2.toArray) p1 p2 fun h' hz hTI hTO g1 g2 hsz hk => wpAny_pyIter_zip hz ?_
        exact ⟨s1.heap.objs.size + 4, [s1.heap.objs.size + 4, s1.heap.objs.size + 2, s1.heap.objs.size + 3, s1.heap.objs.size, s1.heap.objs.size + 1], _, _, H1, rfl, I1.kept (t' := s1.toks) hk,
          RZ.turn_zipT (PySem.W.ktu_apart s1.heap.objs.size a b lta ltb), ⟨hz, hTI, ⟨_, _, hTO⟩, ⟨_, g1, rfl, rfl⟩, ⟨_, g2, rfl, rfl⟩⟩, fresh, q⟩
theorem walk_zipM {K : PySem.W.Frag} {a b : Addr} {xs ys : List V} (hl : xs.length = ys.length) : Walk (ItzM K a b) xs.length (fun H => SqT K H a xs ∧ SqL K H b ys) (YPair (fun i => xs[i]?) (fun i => ys[i]?)) := by
  refine ⟨fun i _ hi q => ?_, fun _ q => ⟨xs, ys, q.1, q.2, .inl rfl, Nat.le_refl _, by omega⟩, fun i H v H' _ q y => ?_⟩
  · exact ⟨xs, ys, xs[i], ys[i], q.1, q.2, by simp [hi], by simp [hl ▸ hi]⟩
  · obtain ⟨T, x, z, h1, h2, h3, h4, h5⟩ := y
    exact ⟨T, x, z, h1, h2, h3, h4 xs q.1, h5 ys q.2⟩
theorem walk_zipTT {K : PySem.W.Frag} {a b : Addr} {xs ys : List V} (hl : xs.length = ys.length) : Walk (RZ.ItzT K a b) xs.length (fun H => SqT K H a xs ∧ SqT K H b ys) (YPair (fun i => xs[i]?) (fun i => ys[i]?)) := by
  refine ⟨fun i _ hi q => ?_, fun _ q => ⟨xs, ys, q.1, q.2, .inl (Nat.le_refl _)⟩, fun i H v H' _ q y => ?_⟩
  · exact ⟨xs, ys, xs[i], ys[i], q.1, q.2, by simp [hi], by simp [hl ▸ hi]⟩
  · obtain ⟨T, x, z, h1, h2, h3, h4, h5⟩ := y
    exact ⟨T, x, z, h1, h2, h3, h4 xs q.1, h5 ys q.2⟩
theorem pg_tupK {X : Cx} {es : List Expr} {k : Nat} {t : TGs} {n : Nat} {K : PySem.W.Frag} {pos : Pos} (eK : X.K = K) (hc : X.calm = true) (h : PGs X es t)
    (hn : (assignEach es X.env).length = n := by rfl) (hst : (assignEach es X.env).findIdx? (·.1) = none := by rfl) : PG X (.Tuple es k pos) (gTup K n t) := eK ▸ pg_tup hc h hn hst
/-! ### x[i], x[lo:hi], list(x) of a list or a tuple -/
section
variable {X : Cx}
def rIxA : R2 := fun x y H Q => ∃ p i xs v, x = .ref p ∧ y = .int i ∧ (H p = some (.lst xs) ∨ H p = some (.tup xs)) ∧ atI xs i = some v ∧ Q v H
theorem ix_A : IxR X rIxA := by
  intro e1 e2 pn st sg Hh x y u v Qq J rx ry ⟨p, i, xs, z, a, b, h, at_, q⟩
  rcases h with h | h
  · exact ix_H e1 e2 pn st sg Hh x y u v Qq J rx ry ⟨p, i, xs, z, a, b, h, at_, q⟩
  · exact ix_TH e1 e2 pn st sg Hh x y u v Qq J rx ry ⟨p, i, xs, z, a, b, h, at_, q⟩
def rSlS (K : PySem.W.Frag) : V → Option Int → Option Int → Hp → VK → Prop := fun x lo hi H Q => ∃ a xs, x = .ref a ∧ ((H a = some (.lst xs) ∧ ∀ p H', Same H H' → H' p = some (.lst (cutV xs lo hi)) → Q (.ref p) H') ∨ (H a = some (.tup xs) ∧ ∀ p H', Same H H' → H' p = some (.tup (cutV xs lo hi)) → Q (.ref p) H'))
theorem sl_A : SlR X (rSlS X.K) := by
  intro pins s σ H x v vl vu lo hi sl Q I rx hs pl pu ⟨a, xs, e, h⟩
  rcases h with ⟨h, q⟩ | ⟨h, q⟩
  · exact sl_list pins s σ H x v vl vu lo hi sl Q I rx hs pl pu ⟨a, xs, e, .inl (.inl h), fun p hp => q p _ (same_upd hp) upd_same⟩
  · subst e
    exact sl_tupA pins s σ H _ v vl vu lo hi sl Q I rx hs pl pu (sl_use h q)
theorem call_listA : CallR X (.type "list") (fun xs H Q => ∃ p ys, xs = [.ref p] ∧ (H p = some (.lst ys) ∨ H p = some (.tup ys)) ∧ ∀ l, H l = none → Q (.ref l) (upd H l (.lst ys))) :=
  CallR.weak call_list_of fun _ _ _ ⟨p, ys, e1, e2, q⟩ => ⟨p, ys, e1, e2.elim (fun e => .inl (.inl (.inl e))) (fun e => .inr (.inl (.inl e))), q⟩
end
/-- a comprehension over enumerate of a tuple of whole numbers, by two names -/
theorem Lc.enumI {j1 j2 : Nat} {tt : TT} {te : TE} {vs : List Nat} {D : Addr} {σ : L2.St} {H1 : Hp} {Q : VK} {K : PySem.W.Frag} {a : Addr} {w : List Int} (kept : Nat → Option V) (hs : H1 a = some (.tup (w.map V.int))) (hD : H1 D = none) (hn : w.length ≤ 100000)
    (hw : ∀ x y : V, wipe (((wipe σ vs).set j1 (some x)).set j2 (some y)) vs = wipe σ vs)
    (step : ∀ i H (Qk : VK) (Qn : Hp → Prop), i < w.length → Same H1 H → (∀ y H4, Same H H4 → kept i = some y → Qk y H4) → (∀ H3, Same H H3 → kept i = none → Qn H3) →
      tt (((wipe σ vs).set j1 (some (.int (i : Nat)))).set j2 (some (.int (w.getD i 0)))) H fun b H3 => if b = true then te (((wipe σ vs).set j1 (some (.int (i : Nat)))).set j2 (some (.int (w.getD i 0)))) H3 Qk else Qn H3)
    (fin : ∀ H', Same H1 H' → H' D = some (.lst ((List.range w.length).filterMap kept)) → Q (.ref D) H') : Lc (IteT K a) (gTup K 2 (gCons (gName j1) (gCons (gName j2) gNil))) tt te vs D σ H1 Q := by
  have wk := walk_enumT (K := K) (a := a) (xs := w.map V.int)
  rw [List.length_map] at wk
  refine Lc.by wk (fun i H => Same H1 H ∧ H D = some (.lst ((List.range i).filterMap kept))) ⟨same_upd hD, upd_same⟩ (fun i H _ p => .inl (.inl (p.1 _ _ hs))) ?_ fun H p => fin H p.1 p.2
  rintro i x H H' hi ⟨sm, hd⟩ ⟨T, v, y, rfl, hT, rfl, ev, ey⟩
  dsimp only at ev ey
  cases ev
  rw [List.getElem?_map, getD_at hi] at ey
  cases ey
  have sT := same_upd (o := HO.tup [V.int (i : Nat), V.int (w.getD i 0)]) hT
  refine ⟨T, _, rfl, .inl (.inl upd_same), rfl, ?_⟩
  simp only [gCons, gNil, gName, List.cons.injEq, and_true, exists_and_left, exists_eq_left', true_and, and_assoc]
  refine ⟨hw _ _, step i _ _ _ hi (sm.trans sT) (fun y H4 s4 hk => ⟨_, s4 _ _ (sT _ _ hd), ?_, fun b o e => ?_, ?_⟩) fun H3 s3 hk => ⟨(sm.trans sT).trans s3, ?_⟩⟩
  · refine Nat.lt_of_le_of_lt (Nat.le_trans (List.length_filterMap_le _ _) (by rw [List.length_range]; exact Nat.le_trans (Nat.le_of_lt hi) hn)) (by rw [sizeLine_eq]; omega)
  · rw [upd_ne (ne_of_none e hD)]; exact s4 _ _ (sT _ _ (sm _ _ e))
  · rw [upd_same, List.range_succ, List.filterMap_append, List.filterMap_cons_some hk]; rfl
  · rw [s3 _ _ (sT _ _ hd), List.range_succ, List.filterMap_append, List.filterMap_cons_none hk]; simp
theorem ixN_back {n : Nat} (h : 0 < n) : ixN n (-1) = some (n - 1) := by
  unfold ixN
  rw [if_neg (by omega), if_pos (by omega)]
  congr 1
  omega
theorem atI_back {w : List Int} (h : 0 < w.length) : atI (w.map V.int) (-1) = some (V.int (w.getD (w.length - 1) 0)) := by
  unfold atI
  rw [List.length_map, ixN_back h, Option.bind_some, List.getElem?_map, getD_at (by omega)]
  rfl
theorem map_set {w : List Int} {i : Nat} {z : Int} : (w.map V.int).set i (V.int z) = (w.set i z).map V.int := List.map_set.symm
/-- a for over zip of a tuple and a list or a tuple (isT) of one length -/
theorem zipS_by {K : PySem.W.Frag} {a b : Addr} {xs ys : List V} {g : TG} {tb : TS} {D : Ends} {σ : L2.St} {H : Hp} (isT : Bool) (hl : xs.length = ys.length) (Pv : Nat → L2.St → Hp → Prop) (h0 : Pv 0 σ H)
    (hG : ∀ i σ' H', Pv i σ' H' → SqT K H' a xs ∧ (isT = false → SqL K H' b ys) ∧ (isT = true → SqT K H' b ys))
    (hs : ∀ i x y σ' H' T, i < xs.length → Pv i σ' H' → xs[i]? = some x → ys[i]? = some y → H' T = none → g (.ref T) σ' (upd H' T (.tup [x, y])) fun s2 H2 => tb { D with nx := Pv (i + 1), ct := Pv (i + 1), bk := D.nx } s2 H2) (hd : ∀ σ' H', Pv xs.length σ' H' → D.nx σ' H') :
    ∃ zs, (SqL K H b zs ∧ Loop (ItzM K a b) g tb D σ H) ∨ (SqT K H b zs ∧ Loop (RZ.ItzT K a b) g tb D σ H) := by
  have step : ∀ i x σ' H' H'', i < xs.length → Pv i σ' H' → YPair (fun i => xs[i]?) (fun i => ys[i]?) i H' x H'' → g x σ' H'' fun s2 H2 => tb { D with nx := Pv (i + 1), ct := Pv (i + 1), bk := D.nx } s2 H2 := by
    intro i x σ' H' H'' hi p ⟨T, v, y, e, hT, e2, ev, ey⟩
    subst e e2
    exact hs i v y σ' H' T hi p ev ey hT
  obtain ⟨_, hL, hT⟩ := hG 0 σ H h0
  refine ⟨ys, ?_⟩
  cases isT with
  | false => exact .inl ⟨hL rfl, Loop.by (walk_zipM hl) Pv h0 (fun i σ' H' _ p => ⟨(hG i σ' H' p).1, (hG i σ' H' p).2.1 rfl⟩) step hd⟩
  | true => exact .inr ⟨hT rfl, Loop.by (walk_zipTT hl) Pv h0 (fun i σ' H' _ p => ⟨(hG i σ' H' p).1, (hG i σ' H' p).2.2 rfl⟩) step hd⟩
end Mine

namespace Mine
open PySem PySem.Spec PyProof.Rows L2
/-! ### data, without the heap -/
inductive Dt where
  | non | bl (b : Bool) | int (i : Int) | str (x : Str)
  | tup (xs : List Dt) | lst (xs : List Dt)
  | dk (ks : List Key) (vs : List Dt)
  | dt (ks : List (List Key)) (vs : List Dt)
  | ins (C : Str) (ns : List Str) (vs : List Dt)
  | raw (v : V)
mutual
/-- in the heap H the value v is this data -/
inductive Den (K : PySem.W.Frag) (H : Hp) : V → Dt → Prop
  | non : Den K H .non .non
  | bl (b : Bool) : Den K H (.bl b) (.bl b)
  | int (i : Int) : Den K H (.int i) (.int i)
  | str (x : Str) : Den K H (.str x) (.str x)
  | tup {a : Addr} {xs : List V} {ds : List Dt} : H a = some (.tup xs) → DenAll K H xs ds → Den K H (.ref a) (.tup ds)
  | lst {a : Addr} {xs : List V} {ds : List Dt} : H a = some (.lst xs) → DenAll K H xs ds → Den K H (.ref a) (.lst ds)
  | dk {a : Addr} {ks : List Key} {vs : List V} {ds : List Dt} : H a = some (.dK (ks.zip vs)) → ks.length = vs.length → DenAll K H vs ds → Den K H (.ref a) (.dk ks ds)
  | dt {a : Addr} {ks : List (List Key)} {vs : List V} {ds : List Dt} : H a = some (.dT (ks.zip vs)) → ks.length = vs.length → DenAll K H vs ds → Den K H (.ref a) (.dt ks ds)
  | ins {a dx : Addr} {C : Str} {ns : List Str} {vs : List V} {ds : List Dt} : H a = some (.ins (He.ga K C) dx (ns.zip vs)) → ns.length = vs.length → DenAll K H vs ds → Den K H (.ref a) (.ins C ns ds)
  | raw (v : V) : Den K H v (.raw v)
inductive DenAll (K : PySem.W.Frag) (H : Hp) : List V → List Dt → Prop
  | nil : DenAll K H [] []
  | cons {v : V} {vs : List V} {d : Dt} {ds : List Dt} : Den K H v d → DenAll K H vs ds → DenAll K H (v :: vs) (d :: ds)
end
section
variable {K : PySem.W.Frag} {H H' : Hp}
mutual
theorem Den.mono (s : Same H H') : ∀ {v : V} {d : Dt}, Den K H v d → Den K H' v d
  | _, _, .non => .non
  | _, _, .bl b => .bl b
  | _, _, .int i => .int i
  | _, _, .str x => .str x
  | _, _, .tup h a => .tup (s _ _ h) (DenAll.mono s a)
  | _, _, .lst h a => .lst (s _ _ h) (DenAll.mono s a)
  | _, _, .dk h l a => .dk (s _ _ h) l (DenAll.mono s a)
  | _, _, .dt h l a => .dt (s _ _ h) l (DenAll.mono s a)
  | _, _, .ins h l a => .ins (s _ _ h) l (DenAll.mono s a)
  | _, _, .raw v => .raw v
theorem DenAll.mono (s : Same H H') : ∀ {vs : List V} {ds : List Dt}, DenAll K H vs ds → DenAll K H' vs ds
  | _, _, .nil => .nil
  | _, _, .cons a b => .cons (Den.mono s a) (DenAll.mono s b)
end
theorem DenAll.length : ∀ {vs : List V} {ds : List Dt}, DenAll K H vs ds → vs.length = ds.length
  | _, _, .nil => rfl
  | _, _, .cons _ b => by rw [List.length_cons, List.length_cons, b.length]
theorem DenAll.append : ∀ {vs us : List V} {ds es : List Dt}, DenAll K H vs ds → DenAll K H us es → DenAll K H (vs ++ us) (ds ++ es)
  | _, _, _, _, .nil, b => b
  | _, _, _, _, .cons a r, b => .cons a (r.append b)
theorem DenAll.snoc {vs : List V} {ds : List Dt} {v : V} {d : Dt} (a : DenAll K H vs ds) (b : Den K H v d) : DenAll K H (vs ++ [v]) (ds ++ [d]) := a.append (.cons b .nil)
theorem DenAll.get : ∀ {vs : List V} {ds : List Dt} {i : Nat} {d : Dt}, DenAll K H vs ds → ds[i]? = some d → ∃ v, vs[i]? = some v ∧ Den K H v d
  | _, _, _, _, .nil, e => by simp at e
  | _, _, 0, _, .cons a _, e => by
    simp at e; subst e
    exact ⟨_, rfl, a⟩
  | _, _, i + 1, d, .cons _ r, e => by
    obtain ⟨v, h1, h2⟩ := DenAll.get (i := i) (d := d) r (by simpa using e)
    exact ⟨v, by simpa using h1, h2⟩
theorem DenAll.getV : ∀ {vs : List V} {ds : List Dt} {i : Nat} {v : V}, DenAll K H vs ds → vs[i]? = some v → ∃ d, ds[i]? = some d ∧ Den K H v d
  | _, _, _, _, .nil, e => by simp at e
  | _, _, 0, _, .cons a _, e => by
    simp at e; subst e
    exact ⟨_, rfl, a⟩
  | _, _, i + 1, d, .cons _ r, e => by
    obtain ⟨v, h1, h2⟩ := DenAll.getV (i := i) (v := d) r (by simpa using e)
    exact ⟨v, by simpa using h1, h2⟩
theorem DenAll.set : ∀ {vs : List V} {ds : List Dt} {v : V} {d : Dt} (i : Nat), DenAll K H vs ds → Den K H v d → DenAll K H (vs.set i v) (ds.set i d)
  | _, _, _, _, _, .nil, _ => .nil
  | _, _, _, _, 0, .cons _ r, b => .cons b r
  | _, _, _, _, i + 1, .cons a r, b => .cons a (DenAll.set i r b)
theorem DenAll.take : ∀ {vs : List V} {ds : List Dt} (n : Nat), DenAll K H vs ds → DenAll K H (vs.take n) (ds.take n)
  | _, _, 0, _ => by simp; exact .nil
  | _, _, _ + 1, .nil => .nil
  | _, _, n + 1, .cons a r => .cons a (DenAll.take n r)
theorem DenAll.drop : ∀ {vs : List V} {ds : List Dt} (n : Nat), DenAll K H vs ds → DenAll K H (vs.drop n) (ds.drop n)
  | _, _, 0, r => r
  | _, _, _ + 1, .nil => .nil
  | _, _, n + 1, .cons _ r => DenAll.drop n r
theorem DenAll.dropLast : ∀ {vs : List V} {ds : List Dt}, DenAll K H vs ds → DenAll K H vs.dropLast ds.dropLast := by
  intro vs ds h
  rw [List.dropLast_eq_take, List.dropLast_eq_take, h.length]
  exact h.take _
theorem DenAll.reverse : ∀ {vs : List V} {ds : List Dt}, DenAll K H vs ds → DenAll K H vs.reverse ds.reverse
  | _, _, .nil => .nil
  | _, _, .cons a r => by
    rw [List.reverse_cons, List.reverse_cons]
    exact r.reverse.snoc a
theorem DenAll.replicate {vs : List V} {ds : List Dt} (h : DenAll K H vs ds) : ∀ n : Nat, DenAll K H (List.replicate n vs).flatten (List.replicate n ds).flatten
  | 0 => .nil
  | n + 1 => by
    rw [List.replicate_succ, List.replicate_succ, List.flatten_cons, List.flatten_cons]
    exact h.append (DenAll.replicate h n)
theorem DenAll.ints : ∀ w : List Int, DenAll K H (w.map V.int) (w.map Dt.int)
  | [] => .nil
  | x :: w => .cons (.int x) (DenAll.ints w)
end
/-- things whose value says all -/
def Dt.flat : Dt → Option V
  | .non => some .non
  | .bl b => some (.bl b)
  | .int i => some (.int i)
  | .str x => some (.str x)
  | .raw v => some v
  | _ => none
theorem Den.flat {K : PySem.W.Frag} {H : Hp} {v u : V} {d : Dt} (h : Den K H v d) (e : d.flat = some u) : v = u := by
  cases h <;> first
    | (injection e with e; try exact e)
    | cases e
theorem Den.of_flat {K : PySem.W.Frag} {H : Hp} {u : V} {d : Dt} (e : d.flat = some u) : Den K H u d := by
  cases d <;> first
    | (injection e with e; subst e; first | exact .non | exact .bl _ | exact .int _ | exact .str _ | exact .raw _)
    | cases e
/-! ### hidden things -/
open Classical in
/-- the heap without what X hides -/
noncomputable def vis (H : Hp) (X : Addr → Prop) : Hp := fun a => if X a then none else H a
theorem vis_of {H : Hp} {X : Addr → Prop} {a : Addr} {o : HO} (h : vis H X a = some o) : ¬ X a ∧ H a = some o := by
  unfold vis at h
  split at h
  · cases h
  · exact ⟨by assumption, h⟩
theorem vis_mk {H : Hp} {X : Addr → Prop} {a : Addr} {o : HO} (n : ¬ X a) (h : H a = some o) : vis H X a = some o := by
  unfold vis
  rw [if_neg n]; exact h
theorem vis_sub {H : Hp} {X : Addr → Prop} : Same (vis H X) H := fun _ _ h => (vis_of h).2
theorem vis_anti {H : Hp} {X Y : Addr → Prop} (h : ∀ a, X a → Y a) : Same (vis H Y) (vis H X) := fun _ _ e => vis_mk (fun x => (vis_of e).1 (h _ x)) (vis_of e).2
/-- the hand at h, its cells at c -/
def HandC (H : Hp) (h c : Addr) : Prop := ∃ (cells : List Int) (at_ : Nat) (big mix : Int), H h = some (.lst [.ref c, .int at_, .int big, .int mix]) ∧ H c = some (.lst (cells.map V.int)) ∧
  (∀ z ∈ cells, 0 ≤ z) ∧ at_ ≤ cells.length ∧ cells.length ≤ 63 ∧ 0 ≤ big ∧ 0 ≤ mix ∧ mix < 2147483563
abbrev Hnd := Option (Addr × Addr)
/-- all stands but the hand, which is a hand still -/
def Frm (hd : Hnd) (H H' : Hp) : Prop := (∀ a o, H a = some o → (∀ h c, hd = some (h, c) → a ≠ h) → H' a = some o) ∧ ∀ h c, hd = some (h, c) → HandC H h c → HandC H' h c
theorem HandC.same {H H' : Hp} {h c : Addr} (x : HandC H h c) (s : Same H H') : HandC H' h c := by
  obtain ⟨cells, at_, big, mix, a, b, r⟩ := x
  exact ⟨cells, at_, big, mix, s _ _ a, s _ _ b, r⟩
theorem Frm.refl {hd : Hnd} (H : Hp) : Frm hd H H := ⟨fun _ _ e _ => e, fun _ _ _ x => x⟩
theorem Frm.trans {hd : Hnd} {H H1 H2 : Hp} (a : Frm hd H H1) (b : Frm hd H1 H2) : Frm hd H H2 := ⟨fun p o e n => b.1 p o (a.1 p o e n) n, fun h c e x => b.2 h c e (a.2 h c e x)⟩
theorem Frm.same {hd : Hnd} {H H' : Hp} (s : Same H H') : Frm hd H H' := ⟨fun _ _ e _ => s _ _ e, fun _ _ _ x => x.same s⟩
theorem Frm.out {H H' : Hp} (f : Frm Option.none H H') : Same H H' := fun a o e => f.1 a o e fun _ _ z => by cases z
theorem Frm.of_none {hd : Hnd} {H H' : Hp} (f : Frm Option.none H H') : Frm hd H H' := .same f.out
theorem Frm.upd {hd : Hnd} {H : Hp} {p : Addr} {o : HO} (h : H p = Option.none) : Frm hd H (upd H p o) := .same (same_upd h)
/-! ### where one stands -/
/-- fixed through a body: the facts' part, the heap and what is hidden at its entry, the hand, the exception in hand, what is wished of an exception -/
structure Bc where
  K : PySem.W.Frag
  H0 : Hp
  X0 : Addr → Prop
  hd : Hnd
  ex : Option (Addr × Value × Option Addr)
  E : L2.St → XK
  /-- self while it is made -/
  me : Option Addr
/-- a list, a dict of one's own -/
inductive Ow where
  | lst (xs : List Dt) | dk (ks : List Key) (vs : List Dt) | dt (ks : List (List Key)) (vs : List Dt)
def Ow.fz : Ow → Dt
  | .lst xs => .lst xs
  | .dk ks vs => .dk ks vs
  | .dt ks vs => .dt ks vs
inductive DenO (K : PySem.W.Frag) (H : Hp) : HO → Ow → Prop
  | lst {vs : List V} {xs : List Dt} : DenAll K H vs xs → DenO K H (.lst vs) (.lst xs)
  | dk {ks : List Key} {vs : List V} {xs : List Dt} : ks.length = vs.length → DenAll K H vs xs → DenO K H (.dK (ks.zip vs)) (.dk ks xs)
  | dt {ks : List (List Key)} {vs : List V} {xs : List Dt} : ks.length = vs.length → DenAll K H vs xs → DenO K H (.dT (ks.zip vs)) (.dt ks xs)
theorem DenO.mono {K : PySem.W.Frag} {H H' : Hp} (s : Same H H') {u : HO} {o : Ow} (h : DenO K H u o) : DenO K H' u o := by
  cases h with
  | lst a => exact .lst (a.mono s)
  | dk l a => exact .dk l (a.mono s)
  | dt l a => exact .dt l (a.mono s)
theorem DenO.fz {K : PySem.W.Frag} {H : Hp} {u : HO} {o : Ow} {p : Addr} (h : DenO K H u o) (e : H p = some u) : Den K H (.ref p) o.fz := by
  cases h with
  | lst a => exact .lst e a
  | dk l a => exact .dk e l a
  | dt l a => exact .dt e l a
theorem DenO.noins {K : PySem.W.Frag} {H : Hp} {C dx : Addr} {fs : List (Str × V)} {o : Ow} (h : DenO K H (.ins C dx fs) o) : False := by cases h
/-- what a slot holds: nothing that is known, data, a list of one's own, the hand, an exception in hand -/
inductive Sl where
  | no | d (x : Dt) | own (o : Ow) | hand | exc (c : Str) (fs : List (Str × V))
  /-- an instance of one's own: self while it is made -/
  | ins (C : Str) (ns : List Str) (ds : List Dt)
def IsIns (env : List Sl) (i : Nat) : Prop := ∃ C ns ds, env[i]? = some (.ins C ns ds)
/-- only the first slot holds an instance of one's own -/
def One (env : List Sl) : Prop := ∀ i, IsIns env i → i = 0
theorem One.set {env : List Sl} (h : One env) {j : Nat} {s : Sl} (hs : ∀ C ns ds, s ≠ .ins C ns ds) : One (env.set j s) := fun i ⟨C, ns, ds, e⟩ => by
  rw [List.getElem?_set] at e
  split at e
  · split at e
    · injection e with e; exact absurd e (hs C ns ds)
    · cases e
  · exact h i ⟨C, ns, ds, e⟩
theorem One.set0 {env : List Sl} (h : One env) {s : Sl} : One (env.set 0 s) := fun i ⟨C, ns, ds, e⟩ => by
  rw [List.getElem?_set] at e
  split at e
  · rename_i c; exact c.symm
  · exact h i ⟨C, ns, ds, e⟩
theorem One.map {env : List Sl} (h : One env) {f : Sl → Sl} (hf : ∀ s C ns ds, f s = .ins C ns ds → s = .ins C ns ds) : One (env.map f) := fun i ⟨C, ns, ds, e⟩ => by
  rw [List.getElem?_map, Option.map_eq_some_iff] at e
  obtain ⟨s, e1, e2⟩ := e
  exact h i ⟨C, ns, ds, by rw [e1, hf _ _ _ _ e2]⟩
def SlRep (C : Bc) (X : Addr → Prop) (H : Hp) : Sl → Option V → Prop
  | .no, _ => True
  | .d x, o => ∃ v, o = some v ∧ Den C.K (vis H X) v x
  | .own w, o => ∃ p u, o = some (.ref p) ∧ X p ∧ ¬ C.X0 p ∧ H p = some u ∧ DenO C.K (vis H X) u w
  | .hand, o => ∃ h c, o = some (.ref h) ∧ C.hd = some (h, c)
  | .ins C0 ns ds, o => ∃ p dx vs, o = some (.ref p) ∧ X p ∧ ¬ C.X0 p ∧ H p = some (.ins (He.ga C.K C0) dx (ns.zip vs)) ∧ (ns.length = vs.length ∧ C.me = some p) ∧ DenAll C.K (vis H X) vs ds
  | .exc c fs, o => match C.ex with
    | none => True
    | some (a, cls, dx) => o = some (.ref a) ∧ cls = .ref (He.ga C.K c) ∧ ((fs = [] ∧ dx = none) ∨ ∃ dd, dx = some dd ∧ vis H X dd = some (.xd fs))
theorem SlRep.exc {C : Bc} {X Y : Addr → Prop} {H H' : Hp} {c : Str} {fs : List (Str × V)} {o : Option V} (h : SlRep C X H (.exc c fs) o) (s : Same (vis H X) (vis H' Y)) : SlRep C Y H' (.exc c fs) o := by
  unfold SlRep at h ⊢
  dsimp only at h ⊢
  split at h
  · trivial
  · exact ⟨h.1, h.2.1, h.2.2.imp id fun ⟨dd, e, q⟩ => ⟨dd, e, s _ _ q⟩⟩
structure Rep (C : Bc) (X : Addr → Prop) (env : List Sl) (σ : L2.St) (H : Hp) : Prop where
  len : env.length = σ.length
  sup : ∀ a, C.X0 a → X a
  new : ∀ a, X a → C.X0 a ∨ C.H0 a = none
  al : ∀ a, X a → ∃ o, H a = some o
  frm : Frm C.hd C.H0 H
  hands : ∀ h c, C.hd = some (h, c) → C.X0 h ∧ HandC C.H0 h c ∧ HandC H h c
  slot : ∀ (i : Nat) (s : Sl), env[i]? = some s → ∃ o, σ[i]? = some o ∧ SlRep C X H s o
  inj : ∀ (i j : Nat) (xs ys : Ow), i ≠ j → env[i]? = some (.own xs) → env[j]? = some (.own ys) → σ[i]? ≠ σ[j]?
  one : One env
section
variable {C : Bc} {X : Addr → Prop} {env : List Sl} {σ : L2.St} {H H' : Hp}
theorem vis_frm (hX : ∀ h c, C.hd = some (h, c) → X h) (f : Frm C.hd H H') : Same (vis H X) (vis H' X) := fun a o e => by
  obtain ⟨n, h⟩ := vis_of e
  exact vis_mk n (f.1 a o h fun h c z q => n (q ▸ hX h c z))
theorem Rep.hX (r : Rep C X env σ H) : ∀ h c, C.hd = some (h, c) → X h := fun h c e => r.sup h (r.hands h c e).1
theorem Rep.vs (r : Rep C X env σ H) (f : Frm C.hd H H') : Same (vis H X) (vis H' X) := vis_frm r.hX f
theorem Rep.nh (r : Rep C X env σ H) {p : Addr} (n : ¬ C.X0 p) : ∀ h c, C.hd = some (h, c) → p ≠ h := fun h c e z => n (z ▸ (r.hands h c e).1)
theorem Frm.there (f : Frm C.hd H H') (hh : ∀ h c, C.hd = some (h, c) → HandC H h c) {a : Addr} {o : HO} (e : H a = some o) : ∃ o', H' a = some o' := by
  by_cases z : ∃ h c, C.hd = some (h, c) ∧ a = h
  · obtain ⟨h, c, e1, rfl⟩ := z
    obtain ⟨_, _, _, _, q, _⟩ := f.2 a c e1 (hh a c e1)
    exact ⟨_, q⟩
  · exact ⟨o, f.1 a o e fun h c e1 q => z ⟨h, c, e1, q⟩⟩
theorem Frm.free (f : Frm C.hd H H') (hh : ∀ h c, C.hd = some (h, c) → HandC H h c) {a : Addr} (e : H' a = none) : H a = none := by
  cases q : H a with
  | none => rfl
  | some o =>
    obtain ⟨o', e'⟩ := f.there hh q
    rw [e] at e'; cases e'
/-- nothing but the hand has changed -/
theorem Rep.step (r : Rep C X env σ H) (f : Frm C.hd H H') : Rep C X env σ H' where
  len := r.len
  sup := r.sup
  new := r.new
  al := fun a x => let ⟨_, e⟩ := r.al a x; f.there (fun h c e => (r.hands h c e).2.2) e
  frm := r.frm.trans f
  hands := fun h c e => ⟨(r.hands h c e).1, (r.hands h c e).2.1, f.2 h c e (r.hands h c e).2.2⟩
  slot := fun i s e => by
    obtain ⟨o, e1, q⟩ := r.slot i s e
    refine ⟨o, e1, ?_⟩
    cases s with
    | no => trivial
    | d x => obtain ⟨v, e2, h⟩ := q; exact ⟨v, e2, h.mono (r.vs f)⟩
    | own xs =>
      obtain ⟨p, vs, e2, x1, x2, h1, h2⟩ := q
      exact ⟨p, vs, e2, x1, x2, f.1 p _ h1 (r.nh x2), h2.mono (r.vs f)⟩
    | hand => exact q
    | exc c fs => exact q.exc (r.vs f)
    | ins C0 ns ds =>
      obtain ⟨p, dx, vs, e2, x1, x2, h1, l, h2⟩ := q
      exact ⟨p, dx, vs, e2, x1, x2, f.1 p _ h1 (r.nh x2), l, h2.mono (r.vs f)⟩
  inj := r.inj
  one := r.one
theorem Rep.free (r : Rep C X env σ H) {p : Addr} (e : H p = none) : ¬ X p := fun x => by
  obtain ⟨o, q⟩ := r.al p x
  rw [e] at q; cases q
theorem Rep.h0 (r : Rep C X env σ H) {p : Addr} (e : H p = none) : C.H0 p = none := r.frm.free (fun h c e => (r.hands h c e).2.1) e
end
end Mine

namespace Mine
open PySem PySem.Spec PyProof.Rows L2
/-! ### what is wanted of expressions, by data -/
/-- an exception: its class, its attributes -/
structure Xc where
  cls : Str
  fs : List (Str × V)
abbrev DX := List Sl → (Dt → Prop) → (Xc → Prop) → Prop
abbrev DTX := List Sl → (Bool → Prop) → (Xc → Prop) → Prop
abbrev DAX := List Sl → (List Dt → Prop) → (Xc → Prop) → Prop
abbrev DSX := List Sl → (List Sl → Prop) → (Xc → Prop) → Prop
def XRep (K : PySem.W.Frag) (H : Hp) (cls : Value) (d : Option Addr) (x : Xc) : Prop := cls = .ref (He.ga K x.cls) ∧ match x.fs with
  | [] => d = none
  | f :: r => ∃ a, d = some a ∧ H a = some (.xd (f :: r))
theorem XRep.mono {K : PySem.W.Frag} {H H' : Hp} {cls : Value} {d : Option Addr} {x : Xc} (h : XRep K H cls d x) (s : Same H H') : XRep K H' cls d x := by
  obtain ⟨e, q⟩ := h
  refine ⟨e, ?_⟩
  obtain ⟨c, fs⟩ := x
  cases fs with
  | nil => exact q
  | cons f r => obtain ⟨a, e1, e2⟩ := q; exact ⟨a, e1, s _ _ e2⟩
def XOk (C : Bc) (X : Addr → Prop) (σ : L2.St) (H : Hp) (Qx : Xc → Prop) : Prop := ∀ x cls dx H', Frm C.hd H H' → XRep C.K (vis H' X) cls dx x → Qx x → C.E σ cls dx H'
/-- how a value stands for data: with all that is let; a list of one's own that is read; a new list -/
abbrev RR := Bc → (Addr → Prop) → Hp → Hp → V → Dt → Prop
def Cln : RR := fun C X _ H v d => Den C.K (vis H X) v d
def Bor : RR := fun C X _ H v d => Den C.K (vis H X) v d ∨ ∃ p vs ds, v = .ref p ∧ d = .lst ds ∧ (∀ h c, C.hd = some (h, c) → p ≠ h) ∧ H p = some (.lst vs) ∧ DenAll C.K (vis H X) vs ds
def Fsh : RR := fun C X H0 H v d => ∃ p vs ds, v = .ref p ∧ d = .lst ds ∧ H0 p = none ∧ H p = some (.lst vs) ∧ DenAll C.K (vis H fun a => X a ∨ a = p) vs ds
def DEg (R : RR) (C : Bc) (t : TE) (e : DX) : Prop := ∀ X env σ H (Q : VK) (Qd : Dt → Prop) (Qx : Xc → Prop), Rep C X env σ H → e env Qd Qx → (∀ d v H', Frm C.hd H H' → R C X H H' v d → Qd d → Q v H') → XOk C X σ H Qx → t σ H Q
abbrev DE := DEg Cln
abbrev DB := DEg Bor
abbrev DF := DEg Fsh
section
variable {C : Bc} {X : Addr → Prop} {env : List Sl} {σ : L2.St} {H H1 H' : Hp} {v : V} {d : Dt} {t : TE} {e : DX} {Qx : Xc → Prop}
theorem XOk.step (x : XOk C X σ H Qx) (f : Frm C.hd H H') : XOk C X σ H' Qx := fun y cls dx H2 f2 r q => x y cls dx H2 (f.trans f2) r q
theorem Bor.frm (r : Rep C X env σ H) (f : Frm C.hd H H') (h : Bor C X H1 H v d) : Bor C X H1 H' v d := by
  rcases h with h | ⟨p, vs, ds, e1, e2, n, h1, h2⟩
  · exact .inl (h.mono (r.vs f))
  · exact .inr ⟨p, vs, ds, e1, e2, n, f.1 p _ h1 n, h2.mono (r.vs f)⟩
theorem Cln.bor (h : Cln C X H1 H v d) : Bor C X H1 H v d := .inl h
theorem Fsh.cln (r : Rep C X env σ H1) (h : Fsh C X H1 H v d) : Cln C X H1 H v d := by
  obtain ⟨p, vs, ds, rfl, rfl, n, h1, h2⟩ := h
  exact .lst (vis_mk (r.free n) h1) (h2.mono (vis_anti fun _ => .inl))
theorem Fsh.frm (r : Rep C X env σ H) (f : Frm C.hd H H1) (h : Fsh C X H1 H' v d) : Fsh C X H H' v d := by
  obtain ⟨p, vs, ds, e1, e2, n, h1⟩ := h
  exact ⟨p, vs, ds, e1, e2, f.free (fun h c e => (r.hands h c e).2.2) n, h1⟩
theorem DEg.bor (h : DE C t e) : DB C t e := fun X env σ H Q Qd Qx r he q x => h X env σ H Q Qd Qx r he (fun d v H' f h => q d v H' f (.inl h)) x
theorem DEg.cln (h : DF C t e) : DE C t e := fun X env σ H Q Qd Qx r he q x => h X env σ H Q Qd Qx r he (fun d v H' f h => q d v H' f (h.cln r)) x
theorem Bor.flat {u : V} (h : Bor C X H1 H v d) (e : d.flat = some u) : v = u := by
  rcases h with h | ⟨p, vs, ds, e1, rfl, _⟩
  · exact h.flat e
  · cases e
theorem Bor.int {i : Int} (h : Bor C X H1 H v (.int i)) : v = .int i := h.flat rfl
theorem Bor.bl {i : Bool} (h : Bor C X H1 H v (.bl i)) : v = .bl i := h.flat rfl
theorem Bor.str {i : Str} (h : Bor C X H1 H v (.str i)) : v = .str i := h.flat rfl
theorem Bor.non (h : Bor C X H1 H v .non) : v = .non := h.flat rfl
theorem Bor.raw {u : V} (h : Bor C X H1 H v (.raw u)) : v = u := h.flat rfl
theorem Bor.lst {ds : List Dt} (h : Bor C X H1 H v (.lst ds)) : ∃ p vs, v = .ref p ∧ H p = some (.lst vs) ∧ DenAll C.K (vis H X) vs ds := by
  rcases h with h | ⟨p, vs, ds, e1, e2, n, h1, h2⟩
  · cases h with
    | lst h a => exact ⟨_, _, rfl, vis_sub _ _ h, a⟩
  · cases e2; exact ⟨p, vs, e1, h1, h2⟩
theorem Bor.tup {ds : List Dt} (h : Bor C X H1 H v (.tup ds)) : ∃ p vs, v = .ref p ∧ H p = some (.tup vs) ∧ DenAll C.K (vis H X) vs ds := by
  rcases h with h | ⟨p, vs, ds, e1, e2, n, h1, h2⟩
  · cases h with
    | tup h a => exact ⟨_, _, rfl, vis_sub _ _ h, a⟩
  · cases e2
theorem Bor.dk {ks : List Key} {ds : List Dt} (h : Bor C X H1 H v (.dk ks ds)) : ∃ p vs, v = .ref p ∧ H p = some (.dK (ks.zip vs)) ∧ ks.length = vs.length ∧ DenAll C.K (vis H X) vs ds := by
  rcases h with h | ⟨p, vs, ds, e1, e2, n, h1, h2⟩
  · cases h with
    | dk h l a => exact ⟨_, _, rfl, vis_sub _ _ h, l, a⟩
  · cases e2
theorem Bor.dt {ks : List (List Key)} {ds : List Dt} (h : Bor C X H1 H v (.dt ks ds)) : ∃ p vs, v = .ref p ∧ H p = some (.dT (ks.zip vs)) ∧ ks.length = vs.length ∧ DenAll C.K (vis H X) vs ds := by
  rcases h with h | ⟨p, vs, ds, e1, e2, n, h1, h2⟩
  · cases h with
    | dt h l a => exact ⟨_, _, rfl, vis_sub _ _ h, l, a⟩
  · cases e2
theorem Bor.ins {c : Str} {ns : List Str} {ds : List Dt} (h : Bor C X H1 H v (.ins c ns ds)) : ∃ p dx vs, v = .ref p ∧ H p = some (.ins (He.ga C.K c) dx (ns.zip vs)) ∧ ns.length = vs.length ∧ DenAll C.K (vis H X) vs ds := by
  rcases h with h | ⟨p, vs, ds, e1, e2, n, h1, h2⟩
  · cases h with
    | ins h l a => exact ⟨_, _, _, rfl, vis_sub _ _ h, l, a⟩
  · cases e2
/-- a new thing is laid -/
theorem Rep.laid {p : Addr} {o : HO} (r : Rep C X env σ H) (n : H p = none) : Frm C.hd H (upd H p o) := .upd n
theorem cln_new {p : Addr} {vs : List V} {ds : List Dt} (r : Rep C X env σ H) (n : H p = none) (h : DenAll C.K (vis H X) vs ds) : Cln C X H1 (upd H p (.tup vs)) (.ref p) (.tup ds) :=
  .tup (vis_mk (r.free n) upd_same) (h.mono (r.vs (.upd n)))
theorem fsh_new {p : Addr} {vs : List V} {ds : List Dt} (r : Rep C X env σ H) (n : H p = none) (h : DenAll C.K (vis H X) vs ds) : Fsh C X H (upd H p (.lst vs)) (.ref p) (.lst ds) :=
  ⟨p, vs, ds, rfl, rfl, n, upd_same, h.mono fun a o e => by
    obtain ⟨n1, e1⟩ := vis_of e
    have ne : a ≠ p := ne_of_none e1 n
    exact vis_mk (fun z => z.elim n1 ne) (by rw [upd_ne ne]; exact e1)⟩
end
/-! ### names, constants -/
def eVar (i : Nat) : DX := fun env Q _ => match env[i]? with
  | some (.d x) => Q x
  | _ => False
def eVarB (i : Nat) : DX := fun env Q _ => match env[i]? with
  | some (.d x) => Q x
  | some (.own (.lst xs)) => Q (.lst xs)
  | _ => False
def eC (d : Dt) : DX := fun _ Q _ => Q d
section
variable {C : Bc} {X : Addr → Prop} {env : List Sl} {σ : L2.St} {H : Hp}
theorem Rep.at (r : Rep C X env σ H) {i : Nat} {x : Dt} (e : env[i]? = some (.d x)) : ∃ v, σ[i]? = some (some v) ∧ Den C.K (vis H X) v x := by
  obtain ⟨o, e1, v, rfl, h⟩ := r.slot i _ e
  exact ⟨v, e1, h⟩
theorem de_var (i : Nat) : DE C (tVar i) (eVar i) := by
  intro X env σ H Q Qd Qx r he q x
  unfold eVar at he
  split at he
  · rename_i y e
    obtain ⟨v, e1, h⟩ := r.at e
    exact ⟨v, e1, q _ v H (.refl H) h he⟩
  · exact he.elim
theorem db_var (i : Nat) : DB C (tVar i) (eVarB i) := by
  intro X env σ H Q Qd Qx r he q x
  unfold eVarB at he
  split at he
  · rename_i y e
    obtain ⟨v, e1, h⟩ := r.at e
    exact ⟨v, e1, q _ v H (.refl H) (.inl h) he⟩
  · rename_i y e
    obtain ⟨o, e1, p, u, rfl, x1, x2, h1, h2⟩ := r.slot i _ e
    cases h2 with
    | @lst vs _ h2 => exact ⟨.ref p, e1, q _ _ H (.refl H) (.inr ⟨p, vs, _, rfl, rfl, r.nh x2, h1, h2⟩) he⟩
  · exact he.elim
theorem de_c {v : V} {d : Dt} (e : d.flat = some v) : DE C (tC v) (eC d) := fun X env σ H Q Qd Qx r he q x => q d v H (.refl H) (.of_flat e) he
theorem de_int (i : Int) : DE C (tC (.int i)) (eC (.int i)) := de_c rfl
theorem de_str (i : Str) : DE C (tC (.str i)) (eC (.str i)) := de_c rfl
theorem de_bl (i : Bool) : DE C (tC (.bl i)) (eC (.bl i)) := de_c rfl
theorem de_non : DE C (tC .non) (eC .non) := de_c rfl
theorem de_raw (v : V) : DE C (tC v) (eC (.raw v)) := de_c rfl
end
/-! ### operators -/
abbrev D2 := Dt → Dt → (Dt → Prop) → Prop
abbrev D1 := Dt → (Dt → Prop) → Prop
def OpG (R : RR) (C : Bc) (r : R2) (f : D2) : Prop := ∀ X env σ H H1 x y a b (Q : VK) (Qd : Dt → Prop), Rep C X env σ H → Bor C X H1 H x a → Bor C X H1 H y b → f a b Qd → (∀ d v H', Frm C.hd H H' → R C X H H' v d → Qd d → Q v H') → r x y H Q
abbrev OpD := OpG Cln
def eOp (f : D2) (a b : DX) : DX := fun env Q E => a env (fun x => b env (fun y => f x y Q) E) E
/-- what a reading may be weakened by: an earlier start -/
class RRs (R : RR) : Prop where
  st : ∀ {C : Bc} {X : Addr → Prop} {env : List Sl} {σ : L2.St} {H H1 H' : Hp} {v : V} {d : Dt}, Rep C X env σ H → Frm C.hd H H1 → R C X H1 H' v d → R C X H H' v d
instance : RRs Cln := ⟨fun _ _ h => h⟩
instance : RRs Bor := ⟨fun _ _ h => h⟩
instance : RRs Fsh := ⟨fun r f h => h.frm r f⟩
section
variable {C : Bc} {r r' : R2} {f : D2} {ta tb : TE} {a b : DX} {R : RR}
theorem dg_op [RRs R] (ho : OpG R C r f) (ha : DB C ta a) (hb : DB C tb b) : DEg R C (tOp r ta tb) (eOp f a b) := by
  intro X env σ H Q Qd Qx rp he q x
  refine ha X env σ H _ _ Qx rp he (fun d v H1 f1 r1 he1 => ?_) x
  have rp1 := rp.step f1
  refine hb X env σ H1 _ _ Qx rp1 he1 (fun d2 v2 H2 f2 r2 he2 => ?_) (x.step f1)
  exact ho X env σ H2 H1 v v2 d d2 Q Qd (rp1.step f2) (r1.frm rp1 f2) r2 he2 fun d3 v3 H3 f3 r3 => q d3 v3 H3 (f1.trans (f2.trans f3)) (RRs.st rp (f1.trans f2) r3)
end
section
variable {C : Bc} {r r' : R2} {f g : D2}
/-- one rule or the other -/
theorem OpG.left {R : RR} (h : OpG R C r f) : OpG R C (fun x y H Q => r x y H Q ∨ r' x y H Q) f := fun X env σ H H1 x y a b Q Qd rp r1 r2 he q => .inl (h X env σ H H1 x y a b Q Qd rp r1 r2 he q)
theorem OpG.right {R : RR} (h : OpG R C r' f) : OpG R C (fun x y H Q => r x y H Q ∨ r' x y H Q) f := fun X env σ H H1 x y a b Q Qd rp r1 r2 he q => .inr (h X env σ H H1 x y a b Q Qd rp r1 r2 he q)
end
/-- whole numbers -/
def dI (c : Int → Int → Prop) (g : Int → Int → Dt) : D2 := fun a b Q => match a, b with
  | .int i, .int j => c i j ∧ Q (g i j)
  | _, _ => False
def dI0 (g : Int → Int → Dt) : D2 := fun a b Q => match a, b with
  | .int i, .int j => Q (g i j)
  | _, _ => False
section
variable {C : Bc}
theorem od_I {c : Int → Int → Prop} {g : Int → Int → V} {g' : Int → Int → Dt} (e : ∀ i j, (g' i j).flat = some (g i j)) : OpD C (rI c g) (dI c g') := by
  intro X env σ H H1 x y a b Q Qd rp r1 r2 he q
  unfold dI at he
  split at he
  · exact ⟨_, _, r1.int, r2.int, he.1, q _ _ H (.refl H) (.of_flat (e _ _)) he.2⟩
  · exact he.elim
theorem od_I0 {g : Int → Int → V} {g' : Int → Int → Dt} (e : ∀ i j, (g' i j).flat = some (g i j)) : OpD C (rI0 g) (dI0 g') := by
  intro X env σ H H1 x y a b Q Qd rp r1 r2 he q
  unfold dI0 at he
  split at he
  · exact ⟨_, _, r1.int, r2.int, q _ _ H (.refl H) (.of_flat (e _ _)) he⟩
  · exact he.elim
end
abbrev LINE : Nat := 16777216
/-! + -/
def rAddIB : R2 := fun x y H Q => ∃ i k, x = .int i ∧ y = .bl k ∧ Q (.int (i + b2i k)) H
def rAddS : R2 := fun x y H Q => ∃ i j, x = .str i ∧ y = .str j ∧ i.length + j.length ≤ sizeLine ∧ Q (.str (i ++ j)) H
def rAddU (K : PySem.W.Frag) : R2 := fun x y H Q => rI0 (fun i j => .int (i + j)) x y H Q ∨ (rCat x y H Q ∨ (rCatA K x y H Q ∨ (rAddS x y H Q ∨ rAddIB x y H Q)))
theorem op_addU {X : Cx} {K : PySem.W.Frag} (e : X.K = K) : OpR X (binaryOp .Add) (rAddU K) := op_add.or (op_cat.or ((OpR.k (r := rCatA) (K := K) op_catA e).or (OpR.or (r := rAddS) op_add_str op_add_ib)))
def dAdd : D2 := fun a b Q => match a, b with
  | .int i, .int j => Q (.int (i + j))
  | .lst xs, .lst ys => xs.length + ys.length ≤ LINE ∧ Q (.lst (xs ++ ys))
  | .tup xs, .tup ys => xs.length + ys.length ≤ LINE ∧ Q (.tup (xs ++ ys))
  | .str x, .str y => x.length + y.length ≤ LINE ∧ Q (.str (x ++ y))
  | .int i, .bl k => Q (.int (i + b2i k))
  | _, _ => False
def dAddL : D2 := fun a b Q => match a, b with
  | .lst xs, .lst ys => xs.length + ys.length ≤ LINE ∧ Q (.lst (xs ++ ys))
  | _, _ => False
section
variable {C : Bc}
theorem od_addL : OpG Fsh C (rAddU C.K) dAddL := by
  intro X env σ H H1 x y a b Q Qd rp r1 r2 he q
  unfold dAddL at he
  split at he
  · obtain ⟨p, vs, rfl, h1, a1⟩ := r1.lst
    obtain ⟨p2, vs2, rfl, h2, a2⟩ := r2.lst
    refine .inr (.inl ⟨p, p2, vs, vs2, rfl, rfl, h1, h2, by rw [a1.length, a2.length, sizeLine_eq]; exact he.1, fun pn hp => ?_⟩)
    exact q _ _ _ (.upd hp) (fsh_new rp hp (a1.append a2)) he.2
  · exact he.elim
theorem od_add : OpD C (rAddU C.K) dAdd := by
  intro X env σ H H1 x y a b Q Qd rp r1 r2 he q
  unfold dAdd at he
  split at he
  · exact .inl ⟨_, _, r1.int, r2.int, q _ _ H (.refl H) (.int _) he⟩
  · exact od_addL X env σ H H1 x y _ _ Q Qd rp r1 r2 he fun d v H' f h => q d v H' f (h.cln rp)
  · obtain ⟨p, vs, rfl, h1, a1⟩ := r1.tup
    obtain ⟨p2, vs2, rfl, h2, a2⟩ := r2.tup
    have al := a1.append a2
    refine .inr (.inr (.inl ⟨p, p2, vs, vs2, rfl, rfl, .inl (.inl h1), .inl (.inl h2), by rw [a1.length, a2.length, sizeLine_eq]; exact he.1, fun e => ?_, fun _ e => ?_, fun _ _ pn hp => ?_⟩))
    · subst e
      refine q _ _ H (.refl H) ?_ he.2
      rcases r2 with r2 | ⟨_, _, _, _, e2, _⟩
      · cases r2 with
        | @tup _ xs' _ g g2 =>
          have e : xs' = vs2 := by simpa using (vis_sub _ _ g).symm.trans h2
          subst e
          exact .tup g al
      · cases e2
    · subst e
      refine q _ _ H (.refl H) ?_ he.2
      rcases r1 with r1 | ⟨_, _, _, _, e2, _⟩
      · cases r1 with
        | @tup _ xs' _ g g2 =>
          have e : xs' = vs := by simpa using (vis_sub _ _ g).symm.trans h1
          subst e
          rw [List.append_nil] at al
          exact .tup g al
      · cases e2
    · exact q _ _ _ (.upd hp) (cln_new rp hp al) he.2
  · exact .inr (.inr (.inr (.inl ⟨_, _, r1.str, r2.str, by rw [sizeLine_eq]; exact he.1, q _ _ H (.refl H) (.str _) he.2⟩)))
  · exact .inr (.inr (.inr (.inr ⟨_, _, r1.int, r2.bl, q _ _ H (.refl H) (.int _) he⟩)))
  · exact he.elim
end
/-! * -/
/-- t * k, k from 1 on: t itself, or a new tuple -/
def rRepB : R2 := fun x y H Q => ∃ l k xs, x = .ref l ∧ y = .int k ∧ H l = some (.tup xs) ∧ xs ≠ [] ∧ 1 ≤ k ∧ k ≤ 1000 ∧ xs.length ≤ 1000 ∧ (k = 1 → Q (.ref l) H) ∧ ∀ p, H p = none → Q (.ref p) (upd H p (.tup (List.replicate k.toNat xs).flatten))
theorem op_repB {X : Cx} : OpR X (binaryOp .Mult) rRepB := by
  intro pins s σ H x y v u Q I rx ry h
  obtain ⟨l, k, xs, rfl, rfl, hl, hne, h1, h2, hz, q1, q⟩ := h
  by_cases e : 2 ≤ k
  · exact op_repT pins s σ H _ _ v u Q I rx ry ⟨l, k, xs, rfl, rfl, .inl (.inl hl), hne, e, h2, hz, q⟩
  · obtain rfl : k = 1 := by omega
    cases rx
    obtain ⟨t, rfl⟩ := ry
    obtain ⟨its, r, ⟨⟨cls, dd, data, sl⟩, ho, hc, n, hd⟩, hs⟩ := I.tuple (.inl (.inl hl) : SqT X.K H l xs)
    simp only at hc hd
    subst hc hd
    refine wpAny_binaryOp_repeat_ref (T := "tuple") (U := "int") (by decide) ⟨_, ho, rfl⟩ (fun s' => typeIs_int s' 1 t) noFill_tuple_mul F.fills_int_mul F.slot_int_rmul repeat_tuple F.slot_int_index.lookup
      (call_meets F.slot_int_rmul (typeIs_int s 1 t) F.entry_int_rmul (F.args_int_rmul_2 _ _) (int_rmul_tuple 1 t l its.toArray n dd sl)
        ⟨ho, rfl, ⟨_, ho, rfl⟩, call_meets F.slot_tuple_mul ⟨_, ho, rfl⟩ F.entry_tuple_mul (F.args_tuple_mul_2 _ _) (mine_mul_one l its.toArray n dd sl t) ⟨ho, ?_⟩⟩)
    exact ⟨.ref l, H, I, rfl, q1 rfl⟩
theorem mine_mul_zero (l : Addr) (items : Array Value) (n : Nat) (dd : Option Addr) (sl : Array (Option Value)) (x : Int) (u : Tok) (c0 : (decide (x < -(2 ^ 63)) || decide (x ≥ 2 ^ 63)) = false) (c1 : (items.isEmpty || x == 1) = false) (c2 : (decide (x ≤ 0) || items.isEmpty) = true) :
    Meets (Builtin.«tuple.__mul__» ⟨[.ref l, .int x u], []⟩) (fun _ R s => s.heap.get? l = some { cls := .type "tuple", dict := dd, data := .seq items n, slots := sl } ∧
      R (.ok (.ret (Value.ref s.heap.objs.size))) { s with heap := s.heap.push { cls := Value.type "tuple", data := Data.seq #[] }, toks := s.toks }) :=
  .of_wp fun prog w A R s h => by
    obtain ⟨hp, g, d, tk, os⟩ := s
    obtain ⟨hl, h⟩ := h
    have f1 := AutoSeq1.idx_int
    wp_walk using wpAny_loadPart' hl
    repeat (first
      | (refine wpAny_ite_false (decide_eq_false (by rw [c0]; exact Bool.false_ne_true)) ?_; wp_walk using wpAny_loadPart' hl)
      | (refine wpAny_ite_false (decide_eq_false (by rw [c1]; exact Bool.false_ne_true)) ?_; wp_walk using wpAny_loadPart' hl)
      | (refine wpAny_ite_true (decide_eq_true c2) ?_; wp_walk using wpAny_loadPart' hl))
    exact ⟨_, rfl, h⟩
/-- t * k, k up to 0: a new tuple of nothing -/
def rRepZ : R2 := fun x y H Q => ∃ l k xs, x = .ref l ∧ y = .int k ∧ H l = some (.tup xs) ∧ xs ≠ [] ∧ k ≤ 0 ∧ -(2 ^ 62) ≤ k ∧ ∀ p, H p = none → Q (.ref p) (upd H p (.tup []))
theorem op_repZ {X : Cx} : OpR X (binaryOp .Mult) rRepZ := by
  intro pins s σ H x y v u Q I rx ry h
  obtain ⟨l, k, xs, rfl, rfl, hl, hne, h1, h2, q⟩ := h
  cases rx
  obtain ⟨t, rfl⟩ := ry
  obtain ⟨its, r, ⟨⟨cls, dd, data, sl⟩, ho, hc, n, hd⟩, hs⟩ := I.tuple (.inl (.inl hl) : SqT X.K H l xs)
  simp only at hc hd
  subst hc hd
  have hn : its.toArray.isEmpty = false := by
    cases its with
    | nil => cases r; exact absurd rfl hne
    | cons a b => rfl
  have c0 : (decide (k < -(2 ^ 63)) || decide (k ≥ 2 ^ 63)) = false := by
    rw [decide_eq_false (by omega), decide_eq_false (by omega)]; rfl
  have c1 : (its.toArray.isEmpty || k == 1) = false := by
    rw [hn, show (k == 1) = false from beq_eq_false_iff_ne.mpr (by omega)]; rfl
  have c2 : (decide (k ≤ 0) || its.toArray.isEmpty) = true := by rw [decide_eq_true h1]; rfl
  refine wpAny_binaryOp_repeat_ref (T := "tuple") (U := "int") (by decide) ⟨_, ho, rfl⟩ (fun s' => typeIs_int s' k t) noFill_tuple_mul F.fills_int_mul F.slot_int_rmul repeat_tuple F.slot_int_index.lookup
    (call_meets F.slot_int_rmul (typeIs_int s k t) F.entry_int_rmul (F.args_int_rmul_2 _ _) (int_rmul_tuple k t l its.toArray n dd sl)
      ⟨ho, rfl, ⟨_, ho, rfl⟩, call_meets F.slot_tuple_mul ⟨_, ho, rfl⟩ F.entry_tuple_mul (F.args_tuple_mul_2 _ _) (mine_mul_zero l its.toArray n dd sl k t c0 c1 c2) ⟨ho, ?_⟩⟩)
  refine ⟨.ref _, _, I.laid (t' := s.toks) (o := .tup []) (fun b ob q => Heap.get?_push_of_some _ q) (Nat.le_refl _) ?_, rfl, q _ (I.hok.fresh (Nat.le_refl _))⟩
  exact ⟨Nat.zero_le _, _, .nil, IsTup.new _ _⟩
def rMulU : R2 := fun x y H Q => rI CMul (fun i j => .int (i * j)) x y H Q ∨ (rRep x y H Q ∨ (rRepB x y H Q ∨ rRepZ x y H Q))
theorem op_mulU {X : Cx} : OpR X (binaryOp .Mult) rMulU := op_mul.or (op_rep.or (op_repB.or op_repZ))
def dMul : D2 := fun a b Q => match a, b with
  | .int i, .int j => CMul i j ∧ Q (.int (i * j))
  | .lst xs, .int k => (-(2 ^ 63) ≤ k ∧ k < 2 ^ 63 ∧ xs.length * k.toNat ≤ LINE) ∧ Q (.lst (List.replicate k.toNat xs).flatten)
  | .tup xs, .int k => (xs ≠ [] ∧ -(2 ^ 62) ≤ k ∧ k ≤ 1000 ∧ xs.length ≤ 1000) ∧ Q (.tup (List.replicate k.toNat xs).flatten)
  | _, _ => False
def dMulL : D2 := fun a b Q => match a, b with
  | .lst xs, .int k => (-(2 ^ 63) ≤ k ∧ k < 2 ^ 63 ∧ xs.length * k.toNat ≤ LINE) ∧ Q (.lst (List.replicate k.toNat xs).flatten)
  | _, _ => False
section
variable {C : Bc}
theorem od_mulL : OpG Fsh C rMulU dMulL := by
  intro X env σ H H1 x y a b Q Qd rp r1 r2 he q
  unfold dMulL at he
  split at he
  · obtain ⟨p, vs, rfl, h1, a1⟩ := r1.lst
    obtain ⟨⟨c1, c2, c3⟩, he⟩ := he
    refine .inr (.inl ⟨p, _, vs, rfl, r2.int, h1, c1, c2, by rw [a1.length, sizeLine_eq]; exact c3, fun pn hp => ?_⟩)
    exact q _ _ _ (.upd hp) (fsh_new rp hp (a1.replicate _)) he
  · exact he.elim
theorem od_mul : OpD C rMulU dMul := by
  intro X env σ H H1 x y a b Q Qd rp r1 r2 he q
  unfold dMul at he
  split at he
  · exact .inl ⟨_, _, r1.int, r2.int, he.1, q _ _ H (.refl H) (.int _) he.2⟩
  · exact od_mulL X env σ H H1 x y _ _ Q Qd rp r1 r2 he fun d v H' f h => q d v H' f (h.cln rp)
  · obtain ⟨p, vs, rfl, h1, a1⟩ := r1.tup
    rename_i xs0 k0
    obtain ⟨⟨c1, c2, c3, c4⟩, he⟩ := he
    have al := a1.replicate (K := C.K)
    by_cases kz : k0 ≤ 0
    · refine .inr (.inr (.inr ⟨p, _, vs, rfl, r2.int, h1, fun e => c1 ?_, kz, c2, fun pn hp => ?_⟩))
      · subst e; cases a1; rfl
      · rw [show k0.toNat = 0 from Int.toNat_eq_zero.mpr kz] at he
        exact q _ _ _ (.upd hp) (cln_new rp hp .nil) he
    refine .inr (.inr (.inl ⟨p, _, vs, rfl, r2.int, h1, fun e => c1 ?_, by omega, c3, by rw [a1.length]; exact c4, fun e => ?_, fun pn hp => ?_⟩))
    · subst e; cases a1; rfl
    · subst e
      refine q _ _ H (.refl H) ?_ he
      rcases r1 with r1 | ⟨_, _, _, _, e2, _⟩
      · have e : ∀ zs : List Dt, (List.replicate (1 : Int).toNat zs).flatten = zs := fun zs => by simp
        rw [e]; exact r1
      · cases e2
    · exact q _ _ _ (.upd hp) (cln_new rp hp (al _)) he
  · exact he.elim
end
end Mine

namespace HT
open PySem PySem.Spec PyProof.Rows L2
section
variable {prog : Program} {w : World} {A : Around} {E : Value → Shared → Prop} {s : Shared}
theorem mine_adjust_rev (n : Nat) : Builtin.Slice.sliceAdjust none none (-1) (n : Int) = ((n : Int) - 1, -1) := by
  unfold Builtin.Slice.sliceAdjust
  have h1 : ((-1 : Int) < 0) := by omega
  simp [h1]
theorem mine_places_rev (n : Nat) : Builtin.Slice.slicePlaces ((n : Int) - 1) (-1) (-1) = n := by
  unfold Builtin.Slice.slicePlaces
  have h1 : ¬ ((-1 : Int) > 0) := by omega
  simp only [h1, if_false]
  split
  all_goals first | omega | (simp <;> omega)
theorem mine_applied_rev {sl : Addr} {t : Tok} {n : Nat} {Q : Int × Int × Nat → Shared → Prop} {vs : Value} (hs : s.heap.IsSliceOf sl .none .none vs) (ps : IsPart vs (some (-1)))
    (h : Q ((n : Int) - 1, -1, n) s) : wpAny (model prog w) A (Builtin.Slice.sliceApplied (.ref sl) (pure (n : Int))) Q E s := by
  obtain ⟨os, hos, hcs, hds⟩ := id hs
  unfold Builtin.Slice.sliceApplied Builtin.Slice.sliceFields
  refine wpAny_bind (wpAny_bind (wpAny_field hos hds (x := .none) rfl (wpAny_bind (wpAny_field hos hds (x := .none) rfl (wpAny_bind (wpAny_field hos hds (x := vs) rfl (wpAny_pure ?_)))))))
  refine wpAny_bind (slicePart_ ps ?_)
  show wpAny _ _ (if ((-1 : Int) == 0) = true then _ else _) _ _ s
  rw [if_neg (by decide)]
  refine wpAny_bind (slicePart_ .none (wpAny_bind (slicePart_ .none (wpAny_bind (wpAny_pure ?_)))))
  show wpAny _ _ (match Builtin.Slice.sliceAdjust none none (-1) (n : Int) with | (lo, hi) => pure (lo, (-1 : Int), Builtin.Slice.slicePlaces lo hi (-1))) _ _ s
  rw [mine_adjust_rev n]
  show wpAny _ _ (pure ((n : Int) - 1, (-1 : Int), Builtin.Slice.slicePlaces ((n : Int) - 1) (-1) (-1))) _ _ s
  rw [mine_places_rev]
  exact wpAny_pure h
theorem fm_congr {α β : Type} {f g : α → Option β} : ∀ {l : List α}, (∀ x ∈ l, f x = g x) → l.filterMap f = l.filterMap g
  | [], _ => rfl
  | a :: l, h => by
    rw [List.filterMap_cons, List.filterMap_cons, h a List.mem_cons_self, fm_congr fun x hx => h x (List.mem_cons_of_mem _ hx)]
theorem mine_pick_rev (xs : Array Value) : ((List.range xs.size).filterMap fun (m : Nat) => xs[((xs.size : Int) - 1 + (m : Int) * (-1)).toNat]?).toArray = xs.toList.reverse.toArray := by
  congr 1
  have h2 := PySem.W.krv_all xs
  have h3 : ((List.range xs.size).map fun k => xs.size - 1 - k).filterMap (xs[·]?) = xs.toList.reverse := by
    rw [PySem.W.krv_range, List.filterMap_reverse, h2]
  rw [← h3, List.filterMap_map]
  refine fm_congr fun m hm => ?_
  have := List.mem_range.mp hm
  show xs[((xs.size : Int) - 1 + (m : Int) * (-1)).toNat]? = xs[xs.size - 1 - m]?
  congr 1; omega
theorem mine_getItem_tuple_rev {t sl : Addr} {items : Array Value} {vs : Value} {Q : Value → Shared → Prop} (ht : IsTup s.heap t items) (hs : s.heap.IsSliceOf sl .none .none vs) (ps : IsPart vs (some (-1)))
    (h : Q (.ref s.heap.objs.size) { s with heap := s.heap.push { cls := .type "tuple", data := .seq items.toList.reverse.toArray } })
    (hsz : items.size ≤ sizeLine) : wpAny (model prog w) A (getItem (.ref t) (.ref sl)) Q E s := by
  have htake : sizeOk (.seq items.toList.reverse.toArray) := by
    show items.toList.reverse.toArray.size ≤ sizeLine
    rw [List.size_toArray, List.length_reverse, Array.length_toList]
    omega
  obtain ⟨os, hos, hcs, hds⟩ := id hs
  have hTs : s.TypeIs (.ref sl) "slice" := ⟨os, hos, hcs⟩
  unfold getItem
  try with_reducible refine wpAny_holding ?_
  first | refine wpAny_bind (wpAny_pure ?_) | skip
  refine wpAny_bind (wpAny_sequenceKey ht.typeIs (by decide) ?_)
  refine wpAny_bind (wpAny_callSpecial?_slot (name := Str.ofString "__getitem__") ht.typeIs PyProof.Rows.slot_tuple_getitem
    (wpAny_call_entry PyProof.Rows.slot_tuple_getitem ht.typeIs entry_tuple_getitem ?_ (args_tuple_getitem _ _)))
  show wpAny _ _ (Builtin.Tuple.tupleItemsOf (.ref t) >>= _) _ _ s
  refine wpAny_bind (tupleItemsOf_ ht ?_)
  refine wpAny_bind (wpAny_typeOf hTs ?_)
  rw [if_pos (by decide)]
  refine wpAny_bind (mine_applied_rev (t := 0) hs ps ?_)
  have hno : ¬ ((((items.size : Int) - 1) == 0 && (-1 : Int) == 1 && items.size == items.size) = true) := by
    intro q
    rw [Bool.and_eq_true, Bool.and_eq_true] at q
    exact absurd q.1.2 (by decide)
  show wpAny _ _ (if (((items.size : Int) - 1) == 0 && (-1 : Int) == 1 && items.size == items.size) = true then _ else _) _ _ s
  rw [if_neg hno, mine_pick_rev]
  first
    | exact wpAny_bind (m := Builtin.Tuple.tupleExact _) (wpAny_newObj_type (wpAny_pure ⟨_, rfl, wpAny_pure h⟩) htake)
    | exact wpAny_bind (m := Builtin.Tuple.tupleExact _) (wpAny_newObj_type (wpAny_bind (wpAny_pure (wpAny_pure ⟨_, rfl, wpAny_pure h⟩))) htake)
    | exact wpAny_bind (wpAny_bind (m := Builtin.Tuple.tupleExact _) (wpAny_newObj_type (wpAny_pure (wpAny_pure ⟨_, rfl, wpAny_pure h⟩)) htake))
    | exact wpAny_bind (wpAny_bind (m := Builtin.Tuple.tupleExact _) (wpAny_newObj_type (wpAny_pure ⟨_, rfl, wpAny_pure h⟩) htake))
end
end HT
namespace Mine
open PySem PySem.Spec PyProof.Rows L2
section
variable {X : Cx}
/-- x[::-1] of a list or a tuple -/
def tRevU (te : TE) : TE := fun σ H Q => te σ H fun x H1 => ∃ a xs, x = .ref a ∧ ((H1 a = some (.lst xs) ∧ ∀ p, H1 p = none → Q (.ref p) (upd H1 p (.lst xs.reverse))) ∨ (H1 a = some (.tup xs) ∧ ∀ p, H1 p = none → Q (.ref p) (upd H1 p (.tup xs.reverse))))
theorem pe_revU {e : Expr} {te : TE} {k : Nat} {p1 p2 p3 pos : Pos} (he : PE X e te) : PE X (.Subscript e (.Slice none none (some (.UnaryOp .USub (.Constant (.int 1) k p1) p2)) p3) pos) (tRevU te) := by
  refine ⟨fun pins s σ H Q I h => ?_⟩
  refine Subscript_ (thn (he.run pins s σ H _ I h) fun v s1 ⟨x, H1, I1, r1, q1⟩ => ?_)
  obtain ⟨a, xs, ex, q1⟩ := q1
  subst ex
  cases r1
  have hst : PO X (some (.UnaryOp .USub (.Constant (.int 1) k p1) p2)) (tPart (tUn (rU fun i => .int (-i)) (tC (.int 1)))) := po_some (pe_un un_neg pe_int)
  refine wpAny_Slice (thn (po_none.run pins s1 σ H1 (fun o H2 => o = none ∧ H2 = H1) I1 ⟨rfl, rfl⟩) fun vl s2 ⟨l, H2, I2, pl, el, e2⟩ => ?_)
  subst el e2
  refine thn (po_none.run pins s2 σ H2 (fun o H3 => o = none ∧ H3 = H2) I2 ⟨rfl, rfl⟩) fun vu s3 ⟨u, H3, I3, pu, eu, e3⟩ => ?_
  subst eu e3
  refine thn (hst.run pins s3 σ H3 (fun o H4 => o = some (-1) ∧ H4 = H3) I3 ⟨1, rfl, -1, rfl, rfl, rfl⟩) fun vs s4 ⟨o, H4, I4, ps, eo, e4⟩ => ?_
  subst eo e4
  have I5 : Inv X pins σ H4 { s4 with heap := s4.heap.push { cls := .type "slice", data := .fields #[vl, vu, vs] } } := I4.kept (t' := s4.toks) fun b ob q => Heap.get?_push_of_some _ q
  show wpAny (model X.prog X.w) X.A (subscriptTail e (.Slice none none (some (.UnaryOp .USub (.Constant (.int 1) k p1) p2)) p3) (.ref a) (.ref s4.heap.objs.size)) (EP X pins σ Q) X.xe { s4 with heap := s4.heap.push { cls := .type "slice", data := .fields #[vl, vu, vs] } }
  rcases q1 with ⟨hx, q⟩ | ⟨hx, q⟩
  · obtain ⟨its, r, ht, hz⟩ := I5.list (.inl (.inl hx))
    have hlen := r.length
    refine tail_any (ops := [.ref a, .ref s4.heap.objs.size]) ht.isList.typeIs (PySem.slot_list_getitem.lookup) ?_ (by with_unfolding_all rfl)
    refine wpAny_getItem_list_slice ht.isList (Heap.IsSliceOf.new _ vl vu vs) pl pu ps (by decide) ?_ (by rw [List.size_toArray]; omega)
    rw [PySem.W.krv_pick]
    refine ⟨.ref _, _, I5.laid (t' := s4.toks) (o := .lst xs.reverse) (fun b ob q => Heap.get?_push_of_some _ q) (Nat.le_refl _) ?_, rfl, q _ (I5.hok.fresh (Nat.le_refl _))⟩
    exact ⟨by rw [List.length_reverse]; exact hz, _, 0, r.reverse, Heap.get?_push_size _ rfl⟩
  · obtain ⟨its, r, ht, hz⟩ := I5.tuple (.inl (.inl hx))
    have hlen := r.length
    refine tail_any (ops := [.ref a, .ref s4.heap.objs.size]) ht.typeIs (PyProof.Rows.slot_tuple_getitem.lookup) ?_ (by with_unfolding_all rfl)
    cases pl
    cases pu
    refine HT.mine_getItem_tuple_rev ht (Heap.IsSliceOf.new _ .none .none vs) ps ?_ (by rw [List.size_toArray]; omega)
    refine ⟨.ref _, _, I5.laid (t' := s4.toks) (o := .tup xs.reverse) (fun b ob q => Heap.get?_push_of_some _ q) (Nat.le_refl _) ?_, rfl, q _ (I5.hok.fresh (Nat.le_refl _))⟩
    exact ⟨by rw [List.length_reverse]; exact hz, _, r.reverse, IsTup.new _ _⟩
end
end Mine

namespace Mine
open PySem PySem.Spec PyProof.Rows L2
/-! ### data as the library's data -/
mutual
def Dt.py : Dt → Option PyData
  | .non => some .none
  | .bl b => some (.bool b)
  | .int i => some (.int i)
  | .str x => some (.str x)
  | .tup xs => (Dt.pys xs).map .tuple
  | .lst xs => (Dt.pys xs).map .list
  | _ => none
def Dt.pys : List Dt → Option (List PyData)
  | [] => some []
  | x :: xs => match Dt.py x, Dt.pys xs with
    | some p, some ps => some (p :: ps)
    | _, _ => none
end
section
variable {K : PySem.W.Frag} {H : Hp}
mutual
theorem Den.dp : ∀ {v : V} {d : Dt} {p : PyData}, Den K H v d → d.py = some p → Dp K H v p
  | _, _, _, .non, e => by rw [Dt.py] at e; injection e with e; subst e; exact .non
  | _, _, _, .bl b, e => by rw [Dt.py] at e; injection e with e; subst e; exact .bl b
  | _, _, _, .int i, e => by rw [Dt.py] at e; injection e with e; subst e; exact .int i
  | _, _, _, .str x, e => by rw [Dt.py] at e; injection e with e; subst e; exact .str x
  | _, _, _, .tup h a, e => by
    rw [Dt.py, Option.map_eq_some_iff] at e
    obtain ⟨ps, e1, rfl⟩ := e
    exact .tup (.inl (.inl h)) (DenAll.dp a e1)
  | _, _, _, .lst h a, e => by
    rw [Dt.py, Option.map_eq_some_iff] at e
    obtain ⟨ps, e1, rfl⟩ := e
    exact .lst (.inl (.inl h)) (DenAll.dp a e1)
  | _, _, _, .dk _ _ _, e => by rw [Dt.py] at e <;> cases e
  | _, _, _, .ins _ _ _, e => by rw [Dt.py] at e <;> cases e
  | _, _, _, .raw v, e => by rw [Dt.py] at e <;> cases e
theorem DenAll.dp : ∀ {vs : List V} {ds : List Dt} {ps : List PyData}, DenAll K H vs ds → Dt.pys ds = some ps → DpAll K H vs ps
  | _, _, _, .nil, e => by rw [Dt.pys] at e; injection e with e; subst e; exact .nil
  | _, _, _, @DenAll.cons _ _ _ _ d ds a b, e => by
    rw [Dt.pys] at e
    cases h1 : Dt.py d with
    | none => rw [h1] at e; cases e
    | some p =>
      cases h2 : Dt.pys ds with
      | none => rw [h1, h2] at e; cases e
      | some ps =>
        rw [h1, h2] at e
        injection e with e
        subst e
        exact .cons (Den.dp a h1) (DenAll.dp b h2)
end
end
/-- equal, as Python has it; of a shape that may be asked -/
def Dt.eqv (a b : Dt) : Bool := match a.py, b.py with
  | some p, some q => PyData.eqv p q
  | _, _ => false
def Dt.sh (a : Dt) : Prop := ∃ p, a.py = some p ∧ SeqAt.shaped p = true
theorem Dt.eqv_of {a b : Dt} {p q : PyData} (h : a.py = some p) (h' : b.py = some q) : a.eqv b = PyData.eqv p q := by
  unfold Dt.eqv
  rw [h, h']
theorem Bor.dp {C : Bc} {X : Addr → Prop} {H H1 : Hp} {v : V} {d : Dt} {p : PyData} (h : Bor C X H1 H v d) (e : d.py = some p) : Dp C.K H v p := by
  rcases h with h | ⟨a, vs, ds, rfl, rfl, n, h1, h2⟩
  · exact (h.mono vis_sub).dp e
  · rw [Dt.py, Option.map_eq_some_iff] at e
    obtain ⟨ps, e1, rfl⟩ := e
    exact .lst (.inl (.inl h1)) ((h2.mono vis_sub).dp e1)
def dEq : D2 := fun a b Q => a.sh ∧ b.sh ∧ Q (.bl (a.eqv b))
def dNe : D2 := fun a b Q => a.sh ∧ b.sh ∧ Q (.bl (!a.eqv b))
section
variable {C : Bc}
theorem od_eq : OpD C (rEqD C.K) dEq := by
  intro X env σ H H1 x y a b Q Qd rp r1 r2 ⟨⟨p, e1, s1⟩, ⟨q, e2, s2⟩, he⟩ qq
  rw [Dt.eqv_of e1 e2] at he
  exact ⟨p, q, r1.dp e1, r2.dp e2, s1, s2, qq _ _ H (.refl H) (.bl _) he⟩
theorem od_ne : OpD C (rNeD C.K) dNe := by
  intro X env σ H H1 x y a b Q Qd rp r1 r2 ⟨⟨p, e1, s1⟩, ⟨q, e2, s2⟩, he⟩ qq
  rw [Dt.eqv_of e1 e2] at he
  exact ⟨p, q, r1.dp e1, r2.dp e2, s1, s2, qq _ _ H (.refl H) (.bl _) he⟩
end
/-! is None -/
def rIsN (b : Bool) : R2 := fun x y H Q => y = .non ∧ Q (.bl (if b then decide (x = .non) else !decide (x = .non))) H
def Dt.isN : Dt → Bool
  | .non => true
  | .raw .non => true
  | _ => false
def dIsN : D2 := fun a b Q => match b with
  | .non => Q (.bl a.isN)
  | _ => False
def dNotN : D2 := fun a b Q => match b with
  | .non => Q (.bl (!a.isN))
  | _ => False
section
variable {C : Bc} {X : Addr → Prop} {H H1 : Hp} {v : V}
theorem Bor.isN {a : Dt} (h : Bor C X H1 H v a) : decide (v = .non) = a.isN := by
  rcases h with h | ⟨_, _, _, rfl, rfl, _⟩
  · cases h with
    | raw v => cases v <;> rfl
    | _ => rfl
  · rfl
theorem od_isN : OpD C (fun x y H Q => y = .non ∧ Q (.bl (decide (x = .non))) H) dIsN := by
  intro X env σ H H1 x y a b Q Qd rp r1 r2 he q
  unfold dIsN at he
  split at he
  · exact ⟨r2.non, q _ _ H (.refl H) (by rw [r1.isN]; exact .bl _) he⟩
  · exact he.elim
theorem od_notN : OpD C (fun x y H Q => y = .non ∧ Q (.bl (!decide (x = .non))) H) dNotN := by
  intro X env σ H H1 x y a b Q Qd rp r1 r2 he q
  unfold dNotN at he
  split at he
  · exact ⟨r2.non, q _ _ H (.refl H) (by rw [r1.isN]; exact .bl _) he⟩
  · exact he.elim
end
/-! in -/
def rInT (K : PySem.W.Frag) : R2 := fun x y H Q => ∃ d ds, Dp K H x d ∧ Dp K H y (.tuple ds) ∧ SeqAt.shaped d = true ∧ SeqAt.shaped (.tuple ds) = true ∧ Q (.bl (ds.any fun z => PyData.eqv z d)) H
def rNotInT (K : PySem.W.Frag) : R2 := fun x y H Q => ∃ d ds, Dp K H x d ∧ Dp K H y (.tuple ds) ∧ SeqAt.shaped d = true ∧ SeqAt.shaped (.tuple ds) = true ∧ Q (.bl (!ds.any fun z => PyData.eqv z d)) H
section
variable {X : Cx}
theorem op_inT (hu : X.A.units + 65 < cLine) : OpR X (compareOp .In) (rInT X.K) := by
  intro pins s σ H x y v u Q I rx ry h
  obtain ⟨d, ds, hd, he, sd, se, q⟩ := h
  obtain ⟨as, r1⟩ := Dp.reads I d x v hd rx
  obtain ⟨bs, r2⟩ := Dp.reads I (.tuple ds) y u he ry
  exact SeqAt.in_tuple_reads r2 r1 (SeqAt.canLay_of_shaped se) (SeqAt.canLay_of_shaped sd) (room_in_shaped sd hu) ⟨.bl _, H, I, rfl, q⟩
theorem op_notInT (hu : X.A.units + 65 < cLine) : OpR X (compareOp .NotIn) (rNotInT X.K) := by
  intro pins s σ H x y v u Q I rx ry h
  obtain ⟨d, ds, hd, he, sd, se, q⟩ := h
  obtain ⟨as, r1⟩ := Dp.reads I d x v hd rx
  obtain ⟨bs, r2⟩ := Dp.reads I (.tuple ds) y u he ry
  exact SeqAt.notIn_tuple_reads r2 r1 (SeqAt.canLay_of_shaped se) (SeqAt.canLay_of_shaped sd) (room_in_shaped sd hu) ⟨.bl _, H, I, rfl, q⟩
def rInSt : R2 := fun x y H Q => ∃ i j, x = .str i ∧ y = .str j ∧ Q (.bl (!(Builtin.Str.occurrences j i 0 j.length 1).isEmpty)) H
def rNotInSt : R2 := fun x y H Q => ∃ i j, x = .str i ∧ y = .str j ∧ Q (.bl (!(!(Builtin.Str.occurrences j i 0 j.length 1).isEmpty))) H
def rInU (K : PySem.W.Frag) : R2 := fun x y H Q => rInD K x y H Q ∨ (rInT K x y H Q ∨ rInSt x y H Q)
def rNotInU (K : PySem.W.Frag) : R2 := fun x y H Q => rNotInD K x y H Q ∨ (rNotInT K x y H Q ∨ rNotInSt x y H Q)
theorem op_inU {K : PySem.W.Frag} (e : X.K = K) (hu : X.A.units + 65 < cLine) : OpR X (compareOp .In) (rInU K) := e ▸ (op_inD hu).or ((op_inT hu).or (OpR.weak op_in_str fun _ _ _ _ h => h))
theorem op_notInU {K : PySem.W.Frag} (e : X.K = K) (hu : X.A.units + 65 < cLine) : OpR X (compareOp .NotIn) (rNotInU K) := e ▸ (op_notInD hu).or ((op_notInT hu).or (OpR.weak op_notin_str fun _ _ _ _ h => h))
end
def dIn : D2 := fun a b Q => match b with
  | .lst ys => a.sh ∧ Dt.sh (.lst ys) ∧ Q (.bl (ys.any fun y => y.eqv a))
  | .tup ys => a.sh ∧ Dt.sh (.tup ys) ∧ Q (.bl (ys.any fun y => y.eqv a))
  | .str z => match a with
    | .str x => Q (.bl (!(Builtin.Str.occurrences z x 0 z.length 1).isEmpty))
    | _ => False
  | _ => False
def dNotIn : D2 := fun a b Q => match b with
  | .lst ys => a.sh ∧ Dt.sh (.lst ys) ∧ Q (.bl (!ys.any fun y => y.eqv a))
  | .tup ys => a.sh ∧ Dt.sh (.tup ys) ∧ Q (.bl (!ys.any fun y => y.eqv a))
  | .str z => match a with
    | .str x => Q (.bl (!(!(Builtin.Str.occurrences z x 0 z.length 1).isEmpty)))
    | _ => False
  | _ => False
theorem any_eqv {a : Dt} {p : PyData} (e : a.py = some p) : ∀ {ys : List Dt} {ps : List PyData}, Dt.pys ys = some ps → (ps.any fun z => PyData.eqv z p) = ys.any fun y => y.eqv a
  | [], _, h => by rw [Dt.pys] at h; injection h with h; subst h; rfl
  | y :: ys, _, h => by
    rw [Dt.pys] at h
    cases h1 : Dt.py y with
    | none => rw [h1] at h; cases h
    | some q =>
      cases h2 : Dt.pys ys with
      | none => rw [h1, h2] at h; cases h
      | some qs =>
        rw [h1, h2] at h
        injection h with h
        subst h
        rw [List.any_cons, List.any_cons, any_eqv e h2, Dt.eqv_of h1 e]
section
variable {C : Bc}
theorem od_in : OpD C (rInU C.K) dIn := by
  intro X env σ H H1 x y a b Q Qd rp r1 r2 he q
  unfold dIn at he
  split at he
  · obtain ⟨⟨p, e1, s1⟩, ⟨pl, e2, s2⟩, he⟩ := he
    have e2' := e2
    rw [Dt.py, Option.map_eq_some_iff] at e2
    obtain ⟨ps, e3, rfl⟩ := e2
    exact .inl ⟨p, ps, r1.dp e1, r2.dp e2', s1, s2, by rw [any_eqv e1 e3]; exact q _ _ H (.refl H) (.bl _) he⟩
  · obtain ⟨⟨p, e1, s1⟩, ⟨pl, e2, s2⟩, he⟩ := he
    have e2' := e2
    rw [Dt.py, Option.map_eq_some_iff] at e2
    obtain ⟨ps, e3, rfl⟩ := e2
    exact .inr (.inl ⟨p, ps, r1.dp e1, r2.dp e2', s1, s2, by rw [any_eqv e1 e3]; exact q _ _ H (.refl H) (.bl _) he⟩)
  · split at he
    · exact .inr (.inr ⟨_, _, r1.str, r2.str, q _ _ H (.refl H) (.bl _) he⟩)
    · exact he.elim
  · exact he.elim
theorem od_notIn : OpD C (rNotInU C.K) dNotIn := by
  intro X env σ H H1 x y a b Q Qd rp r1 r2 he q
  unfold dNotIn at he
  split at he
  · obtain ⟨⟨p, e1, s1⟩, ⟨pl, e2, s2⟩, he⟩ := he
    have e2' := e2
    rw [Dt.py, Option.map_eq_some_iff] at e2
    obtain ⟨ps, e3, rfl⟩ := e2
    exact .inl ⟨p, ps, r1.dp e1, r2.dp e2', s1, s2, by rw [any_eqv e1 e3]; exact q _ _ H (.refl H) (.bl _) he⟩
  · obtain ⟨⟨p, e1, s1⟩, ⟨pl, e2, s2⟩, he⟩ := he
    have e2' := e2
    rw [Dt.py, Option.map_eq_some_iff] at e2
    obtain ⟨ps, e3, rfl⟩ := e2
    exact .inr (.inl ⟨p, ps, r1.dp e1, r2.dp e2', s1, s2, by rw [any_eqv e1 e3]; exact q _ _ H (.refl H) (.bl _) he⟩)
  · split at he
    · exact .inr (.inr ⟨_, _, r1.str, r2.str, q _ _ H (.refl H) (.bl _) he⟩)
    · exact he.elim
  · exact he.elim
end
/-! the operators of whole numbers -/
abbrev dSub : D2 := dI0 fun i j => .int (i - j)
abbrev dFdiv : D2 := dI CDiv fun i j => .int (i / j)
abbrev dMod : D2 := dI (fun _ j => 0 < j) fun i j => .int (i % j)
abbrev dPow : D2 := dI CPow fun i j => .int (i ^ j.toNat)
abbrev dShl : D2 := dI CPow fun i j => .int (i * 2 ^ j.toNat)
abbrev dShr : D2 := dI (fun _ j => 0 ≤ j) fun i j => .int (i / 2 ^ j.toNat)
abbrev dAnd : D2 := dI0 fun i j => .int (Builtin.bitAnd i j)
abbrev dOr : D2 := dI0 fun i j => .int (Builtin.bitOr i j)
abbrev dXor : D2 := dI0 fun i j => .int (Builtin.bitXor i j)
abbrev dLe : D2 := dI0 fun i j => .bl (decide (i ≤ j))
abbrev dGt : D2 := dI0 fun i j => .bl (decide (j < i))
abbrev dGe : D2 := dI0 fun i j => .bl (decide (j ≤ i))
def rLtSt : R2 := fun x y H Q => ∃ i j, x = .str i ∧ y = .str j ∧ Q (.bl (decide (i.cps.toList < j.cps.toList))) H
def rLtU (K : PySem.W.Frag) : R2 := fun x y H Q => rI0 (fun i j => .bl (decide (i < j))) x y H Q ∨ (rLtT K x y H Q ∨ rLtSt x y H Q)
theorem op_ltU {X : Cx} {K : PySem.W.Frag} (e : X.K = K) (hu : X.A.units < cLine) : OpR X (compareOp .Lt) (rLtU K) := e ▸ op_lt.or ((op_ltT hu).or (OpR.weak op_lt_str fun _ _ _ _ h => h))
def dLt : D2 := fun a b Q => match a, b with
  | .int i, .int j => Q (.bl (decide (i < j)))
  | .tup xs, .tup ys => ∃ ns ms : List Int, xs = ns.map .int ∧ ys = ms.map .int ∧ Q (.bl (HT.lexLt ns ms))
  | .str x, .str y => Q (.bl (decide (x.cps.toList < y.cps.toList)))
  | _, _ => False
theorem DenAll.ints_of {K : PySem.W.Frag} {H : Hp} : ∀ {vs : List V} {ns : List Int}, DenAll K H vs (ns.map .int) → vs = ns.map V.int
  | _, [], .nil => rfl
  | _, n :: ns, .cons a b => by rw [List.map_cons, a.flat rfl, DenAll.ints_of b]
section
variable {C : Bc}
theorem od_sub : OpD C (rI0 fun i j => .int (i - j)) dSub := od_I0 fun _ _ => rfl
theorem od_fdiv : OpD C (rI CDiv fun i j => .int (i / j)) dFdiv := od_I fun _ _ => rfl
theorem od_mod : OpD C (rI (fun _ j => 0 < j) fun i j => .int (i % j)) dMod := od_I fun _ _ => rfl
theorem od_pow : OpD C (rI CPow fun i j => .int (i ^ j.toNat)) dPow := od_I fun _ _ => rfl
theorem od_shl : OpD C (rI CPow fun i j => .int (i * 2 ^ j.toNat)) dShl := od_I fun _ _ => rfl
theorem od_shr : OpD C (rI (fun _ j => 0 ≤ j) fun i j => .int (i / 2 ^ j.toNat)) dShr := od_I fun _ _ => rfl
theorem od_and : OpD C (rI0 fun i j => .int (Builtin.bitAnd i j)) dAnd := od_I0 fun _ _ => rfl
theorem od_or : OpD C (rI0 fun i j => .int (Builtin.bitOr i j)) dOr := od_I0 fun _ _ => rfl
theorem od_xor : OpD C (rI0 fun i j => .int (Builtin.bitXor i j)) dXor := od_I0 fun _ _ => rfl
theorem od_le : OpD C (rI0 fun i j => .bl (decide (i ≤ j))) dLe := od_I0 fun _ _ => rfl
theorem od_gt : OpD C (rI0 fun i j => .bl (decide (j < i))) dGt := od_I0 fun _ _ => rfl
theorem od_ge : OpD C (rI0 fun i j => .bl (decide (j ≤ i))) dGe := od_I0 fun _ _ => rfl
theorem od_lt : OpD C (rLtU C.K) dLt := by
  intro X env σ H H1 x y a b Q Qd rp r1 r2 he q
  unfold dLt at he
  split at he
  · exact .inl ⟨_, _, r1.int, r2.int, q _ _ H (.refl H) (.bl _) he⟩
  · obtain ⟨ns, ms, rfl, rfl, he⟩ := he
    obtain ⟨p, vs, rfl, h1, a1⟩ := r1.tup
    obtain ⟨p2, vs2, rfl, h2, a2⟩ := r2.tup
    rw [a1.ints_of] at h1
    rw [a2.ints_of] at h2
    exact .inr (.inl ⟨p, p2, ns, ms, rfl, rfl, .inl (.inl h1), .inl (.inl h2), q _ _ H (.refl H) (.bl _) he⟩)
  · exact .inr (.inr ⟨_, _, r1.str, r2.str, q _ _ H (.refl H) (.bl _) he⟩)
  · exact he.elim
end
/-! ### one thing -/
def UnD (C : Bc) (r : V → Hp → VK → Prop) (f : D1) : Prop := ∀ X env σ H H1 x a (Q : VK) (Qd : Dt → Prop), Rep C X env σ H → Bor C X H1 H x a → f a Qd → (∀ d v H', Frm C.hd H H' → Cln C X H H' v d → Qd d → Q v H') → r x H Q
def eUn (f : D1) (a : DX) : DX := fun env Q E => a env (fun x => f x Q) E
def dNeg : D1 := fun a Q => match a with
  | .int i => Q (.int (-i))
  | _ => False
section
variable {C : Bc} {r : V → Hp → VK → Prop} {f : D1} {ta : TE} {a : DX}
theorem de_un (ho : UnD C r f) (ha : DB C ta a) : DE C (tUn r ta) (eUn f a) := by
  intro X env σ H Q Qd Qx rp he q x
  refine ha X env σ H _ _ Qx rp he (fun d v H1 f1 r1 he1 => ?_) x
  exact ho X env σ H1 H v d Q Qd (rp.step f1) r1 he1 fun d3 v3 H3 f3 r3 => q d3 v3 H3 (f1.trans f3) r3
theorem ud_neg : UnD C (rU fun i => .int (-i)) dNeg := by
  intro X env σ H H1 x a Q Qd rp r1 he q
  unfold dNeg at he
  split at he
  · exact ⟨_, r1.int, q _ _ H (.refl H) (.int _) he⟩
  · exact he.elim
end
/-! ### tests -/
def DT (C : Bc) (t : TT) (e : DTX) : Prop := ∀ X env σ H (Q : Bool → Hp → Prop) (Qd : Bool → Prop) (Qx : Xc → Prop), Rep C X env σ H → e env Qd Qx → (∀ b H', Frm C.hd H H' → Qd b → Q b H') → XOk C X σ H Qx → t σ H Q
def eTest (e : DX) : DTX := fun env Q E => e env (fun d => match d with
  | .bl b => Q b
  | _ => False) E
def eNotT (t : DTX) : DTX := fun env Q E => t env (fun b => Q (!b)) E
def eAndT (t u : DTX) : DTX := fun env Q E => t env (fun b => if b = true then u env Q E else Q false) E
def eOrT (t u : DTX) : DTX := fun env Q E => t env (fun b => if b = true then Q true else u env Q E) E
def dTru (d : Dt) (Q : Bool → Prop) : Prop := match d with
  | .non => Q false
  | .bl b => Q b
  | .int i => Q (i != 0)
  | .str y => y.length ≤ LINE ∧ Q ((y.length : Int) != 0)
  | .lst xs => Q (!xs.isEmpty)
  | .tup xs => Q (!xs.isEmpty)
  | .dk ks _ => Q (!ks.isEmpty)
  | _ => False
def eTru (e : DX) : DTX := fun env Q E => e env (fun d => dTru d Q) E
/-- a test by truth, the fragment by name -/
def tTru (K : PySem.W.Frag) (ta : TE) : TT := fun σ H Q => ta σ H fun x H' => ∃ k, TruV K x H' k ∧ Q k H'
theorem pt_tru {X : Cx} {K : PySem.W.Frag} {a : Expr} {ta : TE} (e : X.K = K) (ha : PE X a ta) (he : ∀ whole, isTrue a X.env whole = (do let v ← whole; standAt a.pos; holding [v] (truthy v))) : PT X a (tTru K ta) := e ▸ pt_truth ha he
section
variable {C : Bc} {t u : TT} {a b : DTX} {ta tb : TE} {ea eb : DX}
theorem dt_test (h : DE C ta ea) : DT C (tTest ta) (eTest ea) := by
  intro X env σ H Q Qd Qx rp he q x
  refine h X env σ H _ _ Qx rp he (fun d v H1 f1 r1 he1 => ?_) x
  split at he1
  · exact ⟨_, r1.flat rfl, q _ _ f1 he1⟩
  · exact he1.elim
theorem dt_not (h : DT C t a) : DT C (tNot t) (eNotT a) := fun X env σ H Q Qd Qx rp he q x => h X env σ H _ _ Qx rp he (fun b H1 f1 he1 => q _ _ f1 he1) x
theorem dt_and (h : DT C t a) (k : DT C u b) : DT C (tAnd t u) (eAndT a b) := by
  intro X env σ H Q Qd Qx rp he q x
  refine h X env σ H _ _ Qx rp he (fun c H1 f1 he1 => ?_) x
  cases c with
  | true => rw [if_pos rfl] at he1 ⊢; exact k X env σ H1 Q Qd Qx (rp.step f1) he1 (fun b H2 f2 h2 => q b H2 (f1.trans f2) h2) (x.step f1)
  | false => rw [if_neg (by decide)] at he1 ⊢; exact q _ _ f1 he1
theorem dt_or (h : DT C t a) (k : DT C u b) : DT C (tOr t u) (eOrT a b) := by
  intro X env σ H Q Qd Qx rp he q x
  refine h X env σ H _ _ Qx rp he (fun c H1 f1 he1 => ?_) x
  cases c with
  | false => rw [if_neg (by decide)] at he1 ⊢; exact k X env σ H1 Q Qd Qx (rp.step f1) he1 (fun b H2 f2 h2 => q b H2 (f1.trans f2) h2) (x.step f1)
  | true => rw [if_pos rfl] at he1 ⊢; exact q _ _ f1 he1
theorem Bor.tru {X : Addr → Prop} {env : List Sl} {σ : L2.St} {H H1 : Hp} {v : V} {d : Dt} {Qd : Bool → Prop} (rp : Rep C X env σ H) (h : Bor C X H1 H v d) (he : dTru d Qd) : ∃ k, TruV C.K v H k ∧ Qd k := by
  cases d with
  | non => rw [h.non]; exact ⟨_, rfl, he⟩
  | bl b => rw [h.bl]; exact ⟨_, rfl, he⟩
  | int i => rw [h.int]; exact ⟨_, rfl, he⟩
  | str y => rw [h.str]; exact ⟨_, ⟨by rw [sizeLine_eq]; exact he.1, rfl⟩, he.2⟩
  | lst xs =>
    obtain ⟨p, vs, rfl, h1, a1⟩ := h.lst
    refine ⟨_, .inl ⟨vs, .inl (.inl h1), rfl⟩, ?_⟩
    have : vs.isEmpty = xs.isEmpty := by cases a1 <;> rfl
    rw [this]; exact he
  | tup xs =>
    obtain ⟨p, vs, rfl, h1, a1⟩ := h.tup
    refine ⟨_, .inr (.inl ⟨vs, .inl (.inl h1), rfl⟩), ?_⟩
    have : vs.isEmpty = xs.isEmpty := by cases a1 <;> rfl
    rw [this]; exact he
  | dt _ _ => exact he.elim
  | dk ks ds =>
    obtain ⟨p, vs, rfl, h1, l, a1⟩ := h.dk
    refine ⟨_, .inr (.inr ⟨_, h1, rfl⟩), ?_⟩
    have : (ks.zip vs).isEmpty = ks.isEmpty := by
      cases ks with
      | nil => rfl
      | cons k ks =>
        cases vs with
        | nil => cases l
        | cons v vs => rfl
    rw [this]; exact he
  | ins _ _ _ => exact he.elim
  | raw _ => exact he.elim
theorem dt_tru (h : DB C ta ea) : DT C (tTru C.K ta) (eTru ea) := by
  intro X env σ H Q Qd Qx rp he q x
  refine h X env σ H _ _ Qx rp he (fun d v H1 f1 r1 he1 => ?_) x
  obtain ⟨k, h1, h2⟩ := r1.tru (rp.step f1) he1
  exact ⟨k, h1, q _ _ f1 h2⟩
/-! as values -/
def eBool (d : Dt) (Q : Bool → Prop) : Prop := match d with
  | .bl b => Q b
  | _ => False
def eAndV (a b : DX) : DX := fun env Q E => a env (fun d => eBool d fun c => if c = true then b env Q E else Q (.bl false)) E
def eOrV (a b : DX) : DX := fun env Q E => a env (fun d => eBool d fun c => if c = true then Q (.bl true) else b env Q E) E
def eNotV (a : DX) : DX := fun env Q E => a env (fun d => eBool d fun c => Q (.bl (!c))) E
def eIf (t : DTX) (a b : DX) : DX := fun env Q E => t env (fun c => if c = true then a env Q E else b env Q E) E
theorem eBool_of {d : Dt} {Q : Bool → Prop} (h : eBool d Q) : ∃ c, d = .bl c ∧ Q c := by
  cases d <;> first | exact ⟨_, rfl, h⟩ | exact h.elim
theorem de_andV (h : DE C ta ea) (k : DE C tb eb) : DE C (tAndV ta tb) (eAndV ea eb) := by
  intro X env σ H Q Qd Qx rp he q x
  refine h X env σ H _ _ Qx rp he (fun d v H1 f1 r1 he1 => ?_) x
  obtain ⟨c, rfl, he2⟩ := eBool_of he1
  refine ⟨c, r1.flat rfl, ?_⟩
  cases c with
  | true => rw [if_pos rfl] at he2 ⊢; exact k X env σ H1 Q Qd Qx (rp.step f1) he2 (fun d v H2 f2 h2 => q d v H2 (f1.trans f2) h2) (x.step f1)
  | false => rw [if_neg (by decide)] at he2 ⊢; exact q _ _ _ f1 (.bl _) he2
theorem de_orV (h : DE C ta ea) (k : DE C tb eb) : DE C (tOrV ta tb) (eOrV ea eb) := by
  intro X env σ H Q Qd Qx rp he q x
  refine h X env σ H _ _ Qx rp he (fun d v H1 f1 r1 he1 => ?_) x
  obtain ⟨c, rfl, he2⟩ := eBool_of he1
  refine ⟨c, r1.flat rfl, ?_⟩
  cases c with
  | false => rw [if_neg (by decide)] at he2 ⊢; exact k X env σ H1 Q Qd Qx (rp.step f1) he2 (fun d v H2 f2 h2 => q d v H2 (f1.trans f2) h2) (x.step f1)
  | true => rw [if_pos rfl] at he2 ⊢; exact q _ _ _ f1 (.bl _) he2
theorem de_notV (h : DE C ta ea) : DE C (tNotV ta) (eNotV ea) := by
  intro X env σ H Q Qd Qx rp he q x
  refine h X env σ H _ _ Qx rp he (fun d v H1 f1 r1 he1 => ?_) x
  obtain ⟨c, rfl, he2⟩ := eBool_of he1
  exact ⟨c, r1.flat rfl, q _ _ _ f1 (.bl _) he2⟩
theorem dg_if {R : RR} [RRs R] (h : DT C t a) (k : DEg R C ta ea) (l : DEg R C tb eb) : DEg R C (tIf t ta tb) (eIf a ea eb) := by
  intro X env σ H Q Qd Qx rp he q x
  refine h X env σ H _ _ Qx rp he (fun c H1 f1 he1 => ?_) x
  cases c with
  | true => rw [if_pos rfl] at he1 ⊢; exact k X env σ H1 Q Qd Qx (rp.step f1) he1 (fun d v H2 f2 h2 => q d v H2 (f1.trans f2) (RRs.st rp f1 h2)) (x.step f1)
  | false => rw [if_neg (by decide)] at he1 ⊢; exact l X env σ H1 Q Qd Qx (rp.step f1) he1 (fun d v H2 f2 h2 => q d v H2 (f1.trans f2) (RRs.st rp f1 h2)) (x.step f1)
/-- a < b < c -/
def eChain (f g : D2) (a b c : DX) : DX := fun env Q E => a env (fun x => b env (fun y => f x y fun d => eBool d fun k => if k = true then c env (fun z => g y z Q) E else Q (.bl false)) E) E
theorem de_chain {r r' : R2} {f g : D2} {tc : TE} {ec : DX} (ho : OpD C r f) (ho' : OpD C r' g) (ha : DB C ta ea) (hb : DB C tb eb) (hc : DB C tc ec) : DE C (tChain r r' ta tb tc) (eChain f g ea eb ec) := by
  intro X env σ H Q Qd Qx rp he q x
  refine ha X env σ H _ _ Qx rp he (fun d v H1 f1 r1 he1 => ?_) x
  have rp1 := rp.step f1
  refine hb X env σ H1 _ _ Qx rp1 he1 (fun d2 v2 H2 f2 r2 he2 => ?_) (x.step f1)
  have rp2 := rp1.step f2
  refine ho X env σ H2 H1 v v2 d d2 _ _ rp2 (r1.frm rp1 f2) r2 he2 fun d3 v3 H3 f3 r3 he3 => ?_
  obtain ⟨k, rfl, he5⟩ := eBool_of he3
  refine ⟨k, r3.flat rfl, ?_⟩
  have rp3 := rp2.step f3
  cases k with
  | false => rw [if_neg (by decide)] at he5 ⊢; exact q _ _ _ (f1.trans (f2.trans f3)) (.bl _) he5
  | true =>
    rw [if_pos rfl] at he5 ⊢
    refine hc X env σ H3 _ _ Qx rp3 he5 (fun d4 v4 H4 f4 r4 he4 => ?_) ((x.step f1).step (f2.trans f3))
    exact ho' X env σ H4 H3 v2 v4 d2 d4 Q Qd (rp3.step f4) ((r2.frm rp2 f3).frm rp3 f4) r4 he4 fun d5 v5 H5 f5 r5 => q d5 v5 H5 (f1.trans (f2.trans (f3.trans (f4.trans f5)))) r5
end
end Mine

namespace Mine
open PySem PySem.Spec PyProof.Rows L2
/-! ### rows of expressions -/
inductive BorAll (C : Bc) (X : Addr → Prop) (H : Hp) : List V → List Dt → Prop
  | nil : BorAll C X H [] []
  | cons {v : V} {vs : List V} {d : Dt} {ds : List Dt} : Bor C X H H v d → BorAll C X H vs ds → BorAll C X H (v :: vs) (d :: ds)
inductive SlAll (K : PySem.W.Frag) (hd : Hnd) (X : Addr → Prop) (H : Hp) : List V → List Sl → Prop
  | nil : SlAll K hd X H [] []
  | d {v : V} {vs : List V} {x : Dt} {ss : List Sl} : Den K (vis H X) v x → SlAll K hd X H vs ss → SlAll K hd X H (v :: vs) (.d x :: ss)
  | hand {h c : Addr} {vs : List V} {ss : List Sl} : hd = some (h, c) → SlAll K hd X H vs ss → SlAll K hd X H (.ref h :: vs) (.hand :: ss)
theorem Bor.frm1 {C : Bc} {X : Addr → Prop} {env : List Sl} {σ : L2.St} {H H1 H2 H' : Hp} {v : V} {d : Dt} (r : Rep C X env σ H) (f : Frm C.hd H H') (h : Bor C X H1 H v d) : Bor C X H2 H' v d := h.frm r f
theorem SlAll.length {K : PySem.W.Frag} {hd : Hnd} {X : Addr → Prop} {H : Hp} : ∀ {vs : List V} {ss : List Sl}, SlAll K hd X H vs ss → vs.length = ss.length
  | _, _, .nil => rfl
  | _, _, .d _ r => by rw [List.length_cons, List.length_cons, r.length]
  | _, _, .hand _ r => by rw [List.length_cons, List.length_cons, r.length]
theorem SlAll.append {K : PySem.W.Frag} {hd : Hnd} {X : Addr → Prop} {H : Hp} : ∀ {vs us : List V} {ss ts : List Sl}, SlAll K hd X H vs ss → SlAll K hd X H us ts → SlAll K hd X H (vs ++ us) (ss ++ ts)
  | _, _, _, _, .nil, b => b
  | _, _, _, _, .d a r, b => .d a (r.append b)
  | _, _, _, _, .hand a r, b => .hand a (r.append b)
/-- args, by how they stand -/
def DAg {δ : Type} (A : Bc → (Addr → Prop) → Hp → List V → List δ → Prop) (C : Bc) (t : TA) (e : List Sl → (List δ → Prop) → (Xc → Prop) → Prop) : Prop :=
  ∀ X env σ H (Q : List V → Hp → Prop) (Qd : List δ → Prop) (Qx : Xc → Prop), Rep C X env σ H → e env Qd Qx → (∀ ds vs H', Frm C.hd H H' → A C X H' vs ds → Qd ds → Q vs H') → XOk C X σ H Qx → t σ H Q
def AC (C : Bc) (X : Addr → Prop) (H : Hp) (vs : List V) (ds : List Dt) : Prop := DenAll C.K (vis H X) vs ds
def AS (C : Bc) (X : Addr → Prop) (H : Hp) (vs : List V) (ss : List Sl) : Prop := SlAll C.K C.hd X H vs ss
abbrev DA := DAg AC
abbrev DAb := DAg BorAll
abbrev DAs := DAg AS
def eNil {δ : Type} : List Sl → (List δ → Prop) → (Xc → Prop) → Prop := fun _ Q _ => Q []
def eCons (a : DX) (r : DAX) : DAX := fun env Q E => a env (fun d => r env (fun ds => Q (d :: ds)) E) E
def eConsS (a : DX) (r : DSX) : DSX := fun env Q E => a env (fun d => r env (fun ds => Q (.d d :: ds)) E) E
def eConsH (i : Nat) (r : DSX) : DSX := fun env Q E => match env[i]? with
  | some .hand => r env (fun ds => Q (.hand :: ds)) E
  | _ => False
section
variable {C : Bc} {ta : TE} {tr : TA} {a : DX} {r : DAX} {rs : DSX}
theorem da_nil : DA C tNil eNil := fun X env σ H Q Qd Qx rp he q x => q [] [] H (.refl H) .nil he
theorem db_nil : DAb C tNil eNil := fun X env σ H Q Qd Qx rp he q x => q [] [] H (.refl H) .nil he
theorem ds_nil : DAs C tNil eNil := fun X env σ H Q Qd Qx rp he q x => q [] [] H (.refl H) .nil he
theorem da_cons (ha : DE C ta a) (hr : DA C tr r) : DA C (tCons ta tr) (eCons a r) := by
  intro X env σ H Q Qd Qx rp he q x
  refine ha X env σ H _ _ Qx rp he (fun d v H1 f1 r1 he1 => ?_) x
  have rp1 := rp.step f1
  exact hr X env σ H1 _ _ Qx rp1 he1 (fun ds vs H2 f2 r2 he2 => q _ _ H2 (f1.trans f2) (.cons (Den.mono (rp1.vs f2) r1) r2) he2) (x.step f1)
theorem db_cons (ha : DB C ta a) (hr : DAb C tr r) : DAb C (tCons ta tr) (eCons a r) := by
  intro X env σ H Q Qd Qx rp he q x
  refine ha X env σ H _ _ Qx rp he (fun d v H1 f1 r1 he1 => ?_) x
  have rp1 := rp.step f1
  exact hr X env σ H1 _ _ Qx rp1 he1 (fun ds vs H2 f2 r2 he2 => q _ _ H2 (f1.trans f2) (.cons (r1.frm1 rp1 f2) r2) he2) (x.step f1)
theorem ds_cons (ha : DE C ta a) (hr : DAs C tr rs) : DAs C (tCons ta tr) (eConsS a rs) := by
  intro X env σ H Q Qd Qx rp he q x
  refine ha X env σ H _ _ Qx rp he (fun d v H1 f1 r1 he1 => ?_) x
  have rp1 := rp.step f1
  exact hr X env σ H1 _ _ Qx rp1 he1 (fun ds vs H2 f2 r2 he2 => q _ _ H2 (f1.trans f2) (.d (Den.mono (rp1.vs f2) r1) r2) he2) (x.step f1)
theorem ds_hand {i : Nat} (hr : DAs C tr rs) : DAs C (tCons (tVar i) tr) (eConsH i rs) := by
  intro X env σ H Q Qd Qx rp he q x
  unfold eConsH at he
  split at he
  · rename_i e
    obtain ⟨o, e1, h, c, rfl, e2⟩ := rp.slot i _ e
    refine ⟨.ref h, e1, ?_⟩
    exact hr X env σ H _ _ Qx rp he (fun ds vs H2 f2 r2 he2 => q _ _ H2 f2 (.hand e2 r2) he2) x
  · exact he.elim
/-! ### displays -/
def eTup (r : DAX) : DX := fun env Q E => r env (fun ds => ds.length ≤ LINE ∧ Q (.tup ds)) E
def eLst (r : DAX) : DX := fun env Q E => r env (fun ds => ds.length ≤ LINE ∧ Q (.lst ds)) E
theorem de_tup (hr : DA C tr r) : DE C (tTup tr) (eTup r) := by
  intro X env σ H Q Qd Qx rp he q x
  refine hr X env σ H _ _ Qx rp he (fun ds vs H1 f1 r1 he1 => ?_) x
  have r1 : DenAll C.K (vis H1 X) vs ds := r1
  exact ⟨by rw [r1.length, sizeLine_eq]; exact he1.1, fun p hp => q _ _ _ (f1.trans (.upd hp)) (cln_new (H1 := H1) (rp.step f1) hp r1) he1.2⟩
theorem df_lst (hr : DA C tr r) : DF C (tLst tr) (eLst r) := by
  intro X env σ H Q Qd Qx rp he q x
  refine hr X env σ H _ _ Qx rp he (fun ds vs H1 f1 r1 he1 => ?_) x
  have r1 : DenAll C.K (vis H1 X) vs ds := r1
  exact ⟨by rw [r1.length, sizeLine_eq]; exact he1.1, fun p hp => q _ _ _ (f1.trans (.upd hp)) ((fsh_new (rp.step f1) hp r1).frm rp f1) he1.2⟩
theorem df_dict : DF C (tC .non) (fun _ _ _ => False) := fun X env σ H Q Qd Qx rp he q x => he.elim
end
/-! ### the empty dict -/
def eDk0 : DX := fun _ Q _ => Q (.dk [] [])
theorem de_dk0 {C : Bc} {t : TE} (ht : ∀ σ H Q, (∀ d, H d = none → Q (.ref d) (upd H d (.dK []))) → t σ H Q) : DE C t eDk0 := by
  intro X env σ H Q Qd Qx rp he q x
  refine ht σ H Q fun p hp => q _ _ _ (.upd hp) ?_ he
  exact .dk (ks := []) (vs := []) (vis_mk (rp.free hp) upd_same) rfl .nil
/-! ### x[i] -/
theorem IxR.k {X : Cx} {r : PySem.W.Frag → R2} (h : IxR X (r X.K)) {K : PySem.W.Frag} (e : X.K = K) : IxR X (r K) := e ▸ h
def dIx : D2 := fun a b Q => match a, b with
  | .lst xs, .int k => ∃ x, atI xs k = some x ∧ Q x
  | .tup xs, .int k => ∃ x, atI xs k = some x ∧ Q x
  | .str z, .int k => z.length ≤ LINE ∧ ∃ c, atI z.cps.toList k = some c ∧ Q (.str ⟨#[c]⟩)
  | _, _ => False
theorem DenAll.atI {K : PySem.W.Frag} {H : Hp} {vs : List V} {ds : List Dt} {k : Int} {x : Dt} (h : DenAll K H vs ds) (e : L2.atI ds k = some x) : ∃ v, L2.atI vs k = some v ∧ Den K H v x := by
  unfold L2.atI at e ⊢
  rw [h.length]
  cases q : ixN ds.length k with
  | none => rw [q] at e; cases e
  | some j =>
    rw [q] at e
    obtain ⟨v, h1, h2⟩ := h.get (show ds[j]? = some x from e)
    exact ⟨v, h1, h2⟩
section
variable {C : Bc}
theorem od_ix : OpD C (rIx C.K) dIx := by
  intro X env σ H H1 x y a b Q Qd rp r1 r2 he q
  unfold dIx at he
  split at he
  · obtain ⟨d, e, he⟩ := he
    obtain ⟨p, vs, rfl, h1, a1⟩ := r1.lst
    obtain ⟨v, e2, h2⟩ := a1.atI e
    exact .inl ⟨p, vs, _, v, rfl, r2.int, .inl (.inl h1), e2, q _ _ H (.refl H) h2 he⟩
  · obtain ⟨d, e, he⟩ := he
    obtain ⟨p, vs, rfl, h1, a1⟩ := r1.tup
    obtain ⟨v, e2, h2⟩ := a1.atI e
    exact .inr (.inl ⟨p, vs, _, v, rfl, r2.int, .inl (.inl h1), e2, q _ _ H (.refl H) h2 he⟩)
  · obtain ⟨hz, c, e, he⟩ := he
    exact .inr (.inr ⟨_, _, c, r1.str, r2.int, by rw [sizeLine_eq]; exact hz, e, q _ _ H (.refl H) (.str _) he⟩)
  · exact he.elim
end
/-! ### slices -/
def cutG {α : Type} (xs : List α) (lo hi : Option Int) : List α := (xs.drop (HT.sIx xs.length 0 lo)).take (HT.sIx xs.length xs.length hi - HT.sIx xs.length 0 lo)
theorem DenAll.cut {K : PySem.W.Frag} {H : Hp} {vs : List V} {ds : List Dt} (h : DenAll K H vs ds) (lo hi : Option Int) : DenAll K H (cutV vs lo hi) (cutG ds lo hi) := by
  unfold cutV cutG
  rw [h.length]
  exact (h.drop _).take _
theorem SlR.or {X : Cx} {r r' : V → Option Int → Option Int → Hp → VK → Prop} (h : SlR X r) (h' : SlR X r') : SlR X (fun x lo hi H Q => r x lo hi H Q ∨ r' x lo hi H Q) := by
  intro pins s σ H x v vl vu lo hi sl Q I rx hs pl pu q
  rcases q with q | q
  · exact h pins s σ H x v vl vu lo hi sl Q I rx hs pl pu q
  · exact h' pins s σ H x v vl vu lo hi sl Q I rx hs pl pu q
abbrev D3 := Dt → Option Int → Option Int → (Dt → Prop) → Prop
def rSlU (K : PySem.W.Frag) : V → Option Int → Option Int → Hp → VK → Prop := fun x lo hi H Q => rSlL K x lo hi H Q ∨ (rSlA K x lo hi H Q ∨ L2.rSlS x lo hi H Q)
theorem sl_U {X : Cx} {K : PySem.W.Frag} (e : X.K = K) : SlR X (rSlU K) := e ▸ sl_list.or (sl_tupA.or L2.sl_str)
def dSl : D3 := fun a lo hi Q => match a with
  | .lst xs => Q (.lst (cutG xs lo hi))
  | .tup xs => Q (.tup (cutG xs lo hi))
  | .str z => z.length ≤ LINE ∧ Q (.str (cutS z lo hi))
  | _ => False
def dSlL : D3 := fun a lo hi Q => match a with
  | .lst xs => Q (.lst (cutG xs lo hi))
  | _ => False
def DOX := List Sl → (Option Int → Prop) → (Xc → Prop) → Prop
def eNoPart : DOX := fun _ Q _ => Q none
def ePart (e : DX) : DOX := fun env Q E => e env (fun d => match d with
  | .int i => Q (some i)
  | _ => False) E
def DO (C : Bc) (t : TO) (e : DOX) : Prop := ∀ X env σ H (Q : Option Int → Hp → Prop) (Qd : Option Int → Prop) (Qx : Xc → Prop), Rep C X env σ H → e env Qd Qx → (∀ o H', Frm C.hd H H' → Qd o → Q o H') → XOk C X σ H Qx → t σ H Q
def eSl (f : D3) (a : DX) (lo hi : DOX) : DX := fun env Q E => a env (fun d => lo env (fun l => hi env (fun u => f d l u Q) E) E) E
def SlG (R : RR) (C : Bc) (r : V → Option Int → Option Int → Hp → VK → Prop) (f : D3) : Prop := ∀ X env σ H H1 x a lo hi (Q : VK) (Qd : Dt → Prop), Rep C X env σ H → Bor C X H1 H x a → f a lo hi Qd → (∀ d v H', Frm C.hd H H' → R C X H H' v d → Qd d → Q v H') → r x lo hi H Q
section
variable {C : Bc} {te tl : TE} {ea el : DX} {lo hi : DOX} {t1 t2 : TO} {r : V → Option Int → Option Int → Hp → VK → Prop} {f : D3}
theorem do_none : DO C tNoPart eNoPart := fun X env σ H Q Qd Qx rp he q x => q _ H (.refl H) he
theorem do_some (h : DE C te ea) : DO C (tPart te) (ePart ea) := by
  intro X env σ H Q Qd Qx rp he q x
  refine h X env σ H _ _ Qx rp he (fun d v H1 f1 r1 he1 => ?_) x
  split at he1
  · exact ⟨_, r1.flat rfl, q _ _ f1 he1⟩
  · exact he1.elim
theorem dg_sl {R : RR} [RRs R] (hr : SlG R C r f) (he : DB C te ea) (h1 : DO C t1 lo) (h2 : DO C t2 hi) : DEg R C (tSl r te t1 t2) (eSl f ea lo hi) := by
  intro X env σ H Q Qd Qx rp he' q x
  refine he X env σ H _ _ Qx rp he' (fun d v H1 f1 r1 he1 => ?_) x
  have rp1 := rp.step f1
  refine h1 X env σ H1 _ _ Qx rp1 he1 (fun l H2 f2 he2 => ?_) (x.step f1)
  have rp2 := rp1.step f2
  refine h2 X env σ H2 _ _ Qx rp2 he2 (fun u H3 f3 he3 => ?_) ((x.step f1).step f2)
  have rp3 := rp2.step f3
  exact hr X env σ H3 H v d l u Q Qd rp3 ((r1.frm rp1 f2).frm rp2 f3) he3 fun d v H4 f4 r4 => q d v H4 (f1.trans (f2.trans (f3.trans f4))) (RRs.st rp (f1.trans (f2.trans f3)) r4)
theorem sg_L : SlG Fsh C (rSlU C.K) dSlL := by
  intro X env σ H H1 x a lo hi Q Qd rp r1 he q
  unfold dSlL at he
  split at he
  · obtain ⟨p, vs, rfl, h1, a1⟩ := r1.lst
    exact .inl ⟨p, vs, rfl, .inl (.inl h1), fun pn hp => q _ _ _ (.upd hp) (fsh_new rp hp (a1.cut lo hi)) he⟩
  · exact he.elim
theorem sg_U : SlG Cln C (rSlU C.K) dSl := by
  intro X env σ H H1 x a lo hi Q Qd rp r1 he q
  unfold dSl at he
  split at he
  · exact sg_L X env σ H H1 x _ lo hi Q Qd rp r1 he fun d v H' f h => q d v H' f (h.cln rp)
  · obtain ⟨p, vs, rfl, h1, a1⟩ := r1.tup
    refine .inr (.inl ⟨p, vs, rfl, .inl (.inl h1), fun ⟨c1, c2⟩ => ?_, fun _ pn hp => q _ _ _ (.upd hp) (cln_new rp hp (a1.cut lo hi)) he⟩)
    refine q _ _ H (.refl H) ?_ he
    have e := a1.cut lo hi
    rw [cut_all c1 c2] at e
    rcases r1 with r1 | ⟨_, _, _, _, e2, _⟩
    · cases r1 with
      | @tup _ xs' _ g g2 =>
        have e' : xs' = vs := by simpa using (vis_sub _ _ g).symm.trans h1
        subst e'
        exact .tup g e
    · cases e2
  · obtain ⟨hz, he⟩ := he
    exact .inr (.inr ⟨_, r1.str, by rw [sizeLine_eq]; exact hz, q _ _ H (.refl H) (.str _) he⟩)
  · exact he.elim
/-! x[::-1] -/
def eRev (a : DX) : DX := fun env Q E => a env (fun d => match d with
  | .lst xs => Q (.lst xs.reverse)
  | .tup xs => Q (.tup xs.reverse)
  | _ => False) E
def eRevL (a : DX) : DX := fun env Q E => a env (fun d => match d with
  | .lst xs => Q (.lst xs.reverse)
  | _ => False) E
theorem df_rev (he : DB C te ea) : DF C (tRevU te) (eRevL ea) := by
  intro X env σ H Q Qd Qx rp he' q x
  refine he X env σ H _ _ Qx rp he' (fun d v H1 f1 r1 he1 => ?_) x
  split at he1
  · obtain ⟨p, vs, rfl, h1, a1⟩ := r1.lst
    exact ⟨p, vs, rfl, .inl ⟨h1, fun pn hp => q _ _ _ (f1.trans (.upd hp)) ((fsh_new (rp.step f1) hp a1.reverse).frm rp f1) he1⟩⟩
  · exact he1.elim
theorem de_rev (he : DB C te ea) : DE C (tRevU te) (eRev ea) := by
  intro X env σ H Q Qd Qx rp he' q x
  refine he X env σ H _ _ Qx rp he' (fun d v H1 f1 r1 he1 => ?_) x
  split at he1
  · obtain ⟨p, vs, rfl, h1, a1⟩ := r1.lst
    exact ⟨p, vs, rfl, .inl ⟨h1, fun pn hp => q _ _ _ (f1.trans (.upd hp)) (Fsh.cln (H1 := H1) (rp.step f1) (fsh_new (rp.step f1) hp a1.reverse)) he1⟩⟩
  · obtain ⟨p, vs, rfl, h1, a1⟩ := r1.tup
    exact ⟨p, vs, rfl, .inr ⟨h1, fun pn hp => q _ _ _ (f1.trans (.upd hp)) (cln_new (H1 := H) (rp.step f1) hp a1.reverse) he1⟩⟩
  · exact he1.elim
end
/-! ### built-ins -/
abbrev DL := List Dt → (Dt → Prop) → Prop
def CallG (R : RR) (C : Bc) (r : List V → Hp → VK → Prop) (f : DL) : Prop := ∀ X env σ H vs ds (Q : VK) (Qd : Dt → Prop), Rep C X env σ H → BorAll C X H vs ds → f ds Qd → (∀ d v H', Frm C.hd H H' → R C X H H' v d → Qd d → Q v H') → r vs H Q
def eCB (f : DL) (a : DAX) : DX := fun env Q E => a env (fun ds => f ds Q) E
theorem dg_cb {R : RR} [RRs R] {C : Bc} {r : List V → Hp → VK → Prop} {f : DL} {t : TA} {a : DAX} (hr : CallG R C r f) (ha : DAb C t a) : DEg R C (tCB r t) (eCB f a) := by
  intro X env σ H Q Qd Qx rp he q x
  refine ha X env σ H _ _ Qx rp he (fun ds vs H1 f1 r1 he1 => ?_) x
  exact hr X env σ H1 vs ds Q Qd (rp.step f1) r1 he1 fun d v H2 f2 h => q d v H2 (f1.trans f2) (RRs.st rp f1 h)
theorem CallR.or {X : Cx} {f : Value} {r r' : List V → Hp → VK → Prop} (h : CallR X f r) (h' : CallR X f r') : CallR X f (fun xs H Q => r xs H Q ∨ r' xs H Q) := fun pins s σ H xs us Q I rx q =>
  q.elim (h pins s σ H xs us Q I rx) (h' pins s σ H xs us Q I rx)
theorem BorAll.one {C : Bc} {X : Addr → Prop} {H : Hp} {vs : List V} {a : Dt} (h : BorAll C X H vs [a]) : ∃ v, vs = [v] ∧ Bor C X H H v a := by
  cases h with
  | cons a r => cases r; exact ⟨_, rfl, a⟩
theorem BorAll.two {C : Bc} {X : Addr → Prop} {H : Hp} {vs : List V} {a b : Dt} (h : BorAll C X H vs [a, b]) : ∃ v u, vs = [v, u] ∧ Bor C X H H v a ∧ Bor C X H H u b := by
  cases h with
  | cons a r =>
    obtain ⟨u, rfl, b⟩ := r.one
    exact ⟨_, _, rfl, a, b⟩
/-! len -/
def rLenD : List V → Hp → VK → Prop := fun xs H Q => ∃ a kvs, xs = [V.ref a] ∧ H a = some (.dK kvs) ∧ Q (.int kvs.length) H
def rLenSeq (K : PySem.W.Frag) : List V → Hp → VK → Prop := fun xs H Q => ∃ p ys, xs = [.ref p] ∧ (SqL K H p ys ∨ SqT K H p ys) ∧ Q (.int ys.length) H
def rLenStr : List V → Hp → VK → Prop := fun xs H Q => ∃ z, xs = [.str z] ∧ z.length ≤ sizeLine ∧ Q (.int z.length) H
def rLenU (K : PySem.W.Frag) : List V → Hp → VK → Prop := fun xs H Q => rLenSeq K xs H Q ∨ (rLenStr xs H Q ∨ rLenD xs H Q)
theorem call_lenU {X : Cx} {K : PySem.W.Frag} (e : X.K = K) : CallR X (.builtin "len") (rLenU K) := e ▸ CallR.or (r := rLenSeq X.K) call_len_seq (CallR.or (r := rLenStr) call_len_str call_lenD)
def dLen : DL := fun ds Q => match ds with
  | [.lst xs] => Q (.int xs.length)
  | [.tup xs] => Q (.int xs.length)
  | [.str z] => z.length ≤ LINE ∧ Q (.int z.length)
  | [.dk ks _] => Q (.int ks.length)
  | _ => False
section
variable {C : Bc}
theorem cg_len : CallG Cln C (rLenU C.K) dLen := by
  intro X env σ H vs ds Q Qd rp ra he q
  unfold dLen at he
  split at he
  · obtain ⟨v, rfl, r1⟩ := ra.one
    obtain ⟨p, vs, rfl, h1, a1⟩ := r1.lst
    exact .inl ⟨p, vs, rfl, .inl (.inl (.inl h1)), by rw [a1.length]; exact q _ _ H (.refl H) (.int _) he⟩
  · obtain ⟨v, rfl, r1⟩ := ra.one
    obtain ⟨p, vs, rfl, h1, a1⟩ := r1.tup
    exact .inl ⟨p, vs, rfl, .inr (.inl (.inl h1)), by rw [a1.length]; exact q _ _ H (.refl H) (.int _) he⟩
  · obtain ⟨v, rfl, r1⟩ := ra.one
    exact .inr (.inl ⟨_, by rw [r1.str], by rw [sizeLine_eq]; exact he.1, q _ _ H (.refl H) (.int _) he.2⟩)
  · obtain ⟨v, rfl, r1⟩ := ra.one
    obtain ⟨p, vs, rfl, h1, l, a1⟩ := r1.dk
    refine .inr (.inr ⟨p, _, rfl, h1, ?_⟩)
    rw [List.length_zip, l, Nat.min_self, ← l]
    exact q _ _ H (.refl H) (.int _) he
  · exact he.elim
end
/-! int, bool, str, abs -/
def rInt1 : List V → Hp → VK → Prop := fun xs H Q => (∃ i, xs = [.int i] ∧ Q (.int i) H) ∨ ∃ k, xs = [.bl k] ∧ Q (.int (if k then 1 else 0)) H
def rIntS : List V → Hp → VK → Prop := fun xs H Q => ∃ a n, xs = [.str a] ∧ PySem.intText? a = some n ∧ a.length ≤ 640 ∧ Q (.int n) H
def rIntU : List V → Hp → VK → Prop := fun xs H Q => rInt1 xs H Q ∨ rIntS xs H Q
theorem call_intU {X : Cx} : CallR X (.type "int") rIntU := CallR.or (r := rInt1) (r' := rIntS) call_int1 call_int_str
def dInt : DL := fun ds Q => match ds with
  | [.int i] => Q (.int i)
  | [.bl k] => Q (.int (if k then 1 else 0))
  | [.str z] => z.length ≤ 640 ∧ ∃ n, PySem.intText? z = some n ∧ Q (.int n)
  | _ => False
def rStrI : List V → Hp → VK → Prop := fun xs H Q => ∃ i, xs = [.int i] ∧ i.natAbs.log2 < 1920 ∧ Q (.str (toString i)) H
theorem call_strU {X : Cx} : CallR X (.type "str") rStrI := call_str_int
def dStr : DL := fun ds Q => match ds with
  | [.int i] => i.natAbs.log2 < 1920 ∧ Q (.str (toString i))
  | _ => False
def rAbs : List V → Hp → VK → Prop := fun xs H Q => ∃ i, xs = [.int i] ∧ Q (.int (if i < 0 then -i else i)) H
theorem call_absU {X : Cx} : CallR X (.builtin "abs") rAbs := call_abs
def dAbs : DL := fun ds Q => match ds with
  | [.int i] => Q (.int (if i < 0 then -i else i))
  | _ => False
def rMax2 : List V → Hp → VK → Prop := fun xs H Q => ∃ i j, xs = [.int i, .int j] ∧ Q (.int (if j > i then j else i)) H
def rMin2 : List V → Hp → VK → Prop := fun xs H Q => ∃ i j, xs = [.int i, .int j] ∧ Q (.int (if j < i then j else i)) H
def dMax2 : DL := fun ds Q => match ds with
  | [.int i, .int j] => Q (.int (if j > i then j else i))
  | _ => False
def dMin2 : DL := fun ds Q => match ds with
  | [.int i, .int j] => Q (.int (if j < i then j else i))
  | _ => False
theorem call_max2U {X : Cx} (hc : X.calm = true) : CallR X (.builtin "max") rMax2 := call_max2 hc
theorem call_min2U {X : Cx} (hc : X.calm = true) : CallR X (.builtin "min") rMin2 := call_min2 hc
section
variable {C : Bc}
theorem cg_int : CallG Cln C rIntU dInt := by
  intro X env σ H vs ds Q Qd rp ra he q
  unfold dInt at he
  split at he
  · obtain ⟨v, rfl, r1⟩ := ra.one
    exact .inl (.inl ⟨_, by rw [r1.int], q _ _ H (.refl H) (.int _) he⟩)
  · obtain ⟨v, rfl, r1⟩ := ra.one
    exact .inl (.inr ⟨_, by rw [r1.bl], q _ _ H (.refl H) (.int _) he⟩)
  · obtain ⟨v, rfl, r1⟩ := ra.one
    obtain ⟨h1, n, h2, he⟩ := he
    exact .inr ⟨_, n, by rw [r1.str], h2, h1, q _ _ H (.refl H) (.int _) he⟩
  · exact he.elim
theorem cg_str : CallG Cln C rStrI dStr := by
  intro X env σ H vs ds Q Qd rp ra he q
  unfold dStr at he
  split at he
  · obtain ⟨v, rfl, r1⟩ := ra.one
    exact ⟨_, by rw [r1.int], he.1, q _ _ H (.refl H) (.str _) he.2⟩
  · exact he.elim
theorem cg_abs : CallG Cln C rAbs dAbs := by
  intro X env σ H vs ds Q Qd rp ra he q
  unfold dAbs at he
  split at he
  · obtain ⟨v, rfl, r1⟩ := ra.one
    exact ⟨_, by rw [r1.int], q _ _ H (.refl H) (.int _) he⟩
  · exact he.elim
theorem cg_max2 : CallG Cln C rMax2 dMax2 := by
  intro X env σ H vs ds Q Qd rp ra he q
  unfold dMax2 at he
  split at he
  · obtain ⟨v, u, rfl, r1, r2⟩ := ra.two
    exact ⟨_, _, by rw [r1.int, r2.int], q _ _ H (.refl H) (.int _) he⟩
  · exact he.elim
theorem cg_min2 : CallG Cln C rMin2 dMin2 := by
  intro X env σ H vs ds Q Qd rp ra he q
  unfold dMin2 at he
  split at he
  · obtain ⟨v, u, rfl, r1, r2⟩ := ra.two
    exact ⟨_, _, by rw [r1.int, r2.int], q _ _ H (.refl H) (.int _) he⟩
  · exact he.elim
end
/-! tuple, list -/
def rTupOf (K : PySem.W.Frag) : List V → Hp → VK → Prop := fun xs H Q => ∃ p ys, xs = [.ref p] ∧ ((SqL K H p ys ∧ ∀ l, H l = none → Q (.ref l) (upd H l (.tup ys))) ∨ (SqT K H p ys ∧ Q (.ref p) H))
theorem call_tupU {X : Cx} {K : PySem.W.Frag} (e : X.K = K) : CallR X (.type "tuple") (rTupOf K) := e ▸ call_tuple_of
def dTupOf : DL := fun ds Q => match ds with
  | [.lst xs] => Q (.tup xs)
  | [.tup xs] => Q (.tup xs)
  | _ => False
def rLstOf (K : PySem.W.Frag) : List V → Hp → VK → Prop := fun xs H Q => ∃ p ys, xs = [.ref p] ∧ (SqL K H p ys ∨ SqT K H p ys) ∧ ∀ l, H l = none → Q (.ref l) (upd H l (.lst ys))
theorem call_lstU {X : Cx} {K : PySem.W.Frag} (e : X.K = K) : CallR X (.type "list") (rLstOf K) := e ▸ call_list_of
def dLstOf : DL := fun ds Q => match ds with
  | [.lst xs] => Q (.lst xs)
  | [.tup xs] => Q (.lst xs)
  | _ => False
section
variable {C : Bc}
theorem cg_tup : CallG Cln C (rTupOf C.K) dTupOf := by
  intro X env σ H vs ds Q Qd rp ra he q
  unfold dTupOf at he
  split at he
  · obtain ⟨v, rfl, r1⟩ := ra.one
    obtain ⟨p, vs, rfl, h1, a1⟩ := r1.lst
    exact ⟨p, vs, rfl, .inl ⟨.inl (.inl h1), fun l hl => q _ _ _ (.upd hl) (cln_new rp hl a1) he⟩⟩
  · obtain ⟨v, rfl, r1⟩ := ra.one
    obtain ⟨p, vs, rfl, h1, a1⟩ := r1.tup
    refine ⟨p, vs, rfl, .inr ⟨.inl (.inl h1), q _ _ H (.refl H) ?_ he⟩⟩
    rcases r1 with r1 | ⟨_, _, _, _, e2, _⟩
    · exact r1
    · cases e2
  · exact he.elim
theorem cg_lst : CallG Fsh C (rLstOf C.K) dLstOf := by
  intro X env σ H vs ds Q Qd rp ra he q
  unfold dLstOf at he
  split at he
  · obtain ⟨v, rfl, r1⟩ := ra.one
    obtain ⟨p, vs, rfl, h1, a1⟩ := r1.lst
    exact ⟨p, vs, rfl, .inl (.inl (.inl h1)), fun l hl => q _ _ _ (.upd hl) (fsh_new rp hl a1) he⟩
  · obtain ⟨v, rfl, r1⟩ := ra.one
    obtain ⟨p, vs, rfl, h1, a1⟩ := r1.tup
    exact ⟨p, vs, rfl, .inr (.inl (.inl h1)), fun l hl => q _ _ _ (.upd hl) (fsh_new rp hl a1) he⟩
  · exact he.elim
end
/-! sum -/
def dSum : DL := fun ds Q => match ds with
  | [.lst xs] => ∃ ns : List Int, xs = ns.map .int ∧ Q (.int ns.sum)
  | [.tup xs] => ∃ ns : List Int, xs = ns.map .int ∧ Q (.int ns.sum)
  | _ => False
section
variable {C : Bc}
theorem cg_sum : CallG Cln C (rSumA C.K) dSum := by
  intro X env σ H vs ds Q Qd rp ra he q
  unfold dSum at he
  split at he
  · obtain ⟨v, rfl, r1⟩ := ra.one
    obtain ⟨ns, rfl, he⟩ := he
    obtain ⟨p, vs, rfl, h1, a1⟩ := r1.lst
    rw [a1.ints_of] at h1
    exact ⟨p, ns, rfl, .inl (.inl (.inl h1)), q _ _ H (.refl H) (.int _) he⟩
  · obtain ⟨v, rfl, r1⟩ := ra.one
    obtain ⟨ns, rfl, he⟩ := he
    obtain ⟨p, vs, rfl, h1, a1⟩ := r1.tup
    rw [a1.ints_of] at h1
    exact ⟨p, ns, rfl, .inr (.inl (.inl h1)), q _ _ H (.refl H) (.int _) he⟩
  · exact he.elim
end
/-! max, min, sorted of a list of whole numbers -/
def dMaxL : DL := fun ds Q => match ds with
  | [.lst xs] => ∃ ns : List Int, xs = ns.map .int ∧ 0 < ns.length ∧ ∀ m, m ∈ ns → (∀ y, y ∈ ns → y ≤ m) → Q (.int m)
  | _ => False
def dMinL : DL := fun ds Q => match ds with
  | [.lst xs] => ∃ ns : List Int, xs = ns.map .int ∧ 0 < ns.length ∧ ∀ m, m ∈ ns → (∀ y, y ∈ ns → m ≤ y) → Q (.int m)
  | _ => False
def dSorted : DL := fun ds Q => match ds with
  | [.lst xs] => ∃ ns : List Int, xs = ns.map .int ∧ ns.length < 64 ∧ ∀ ns' : List Int, ns'.Perm ns → ns'.Pairwise (· ≤ ·) → Q (.lst (ns'.map .int))
  | _ => False
section
variable {C : Bc}
theorem cg_maxL : CallG Cln C (rMax C.K) dMaxL := by
  intro X env σ H vs ds Q Qd rp ra he q
  unfold dMaxL at he
  split at he
  · obtain ⟨v, rfl, r1⟩ := ra.one
    obtain ⟨ns, rfl, h0, he⟩ := he
    obtain ⟨p, vs, rfl, h1, a1⟩ := r1.lst
    rw [a1.ints_of] at h1
    exact ⟨p, ns, rfl, .inl (.inl h1), h0, fun m h2 h3 => q _ _ H (.refl H) (.int _) (he m h2 h3)⟩
  · exact he.elim
theorem cg_minL : CallG Cln C (rMin C.K) dMinL := by
  intro X env σ H vs ds Q Qd rp ra he q
  unfold dMinL at he
  split at he
  · obtain ⟨v, rfl, r1⟩ := ra.one
    obtain ⟨ns, rfl, h0, he⟩ := he
    obtain ⟨p, vs, rfl, h1, a1⟩ := r1.lst
    rw [a1.ints_of] at h1
    exact ⟨p, ns, rfl, .inl (.inl h1), h0, fun m h2 h3 => q _ _ H (.refl H) (.int _) (he m h2 h3)⟩
  · exact he.elim
theorem cg_sorted : CallG Fsh C (rSorted C.K) dSorted := by
  intro X env σ H vs ds Q Qd rp ra he q
  unfold dSorted at he
  split at he
  · obtain ⟨v, rfl, r1⟩ := ra.one
    obtain ⟨ns, rfl, h0, he⟩ := he
    obtain ⟨p, vs, rfl, h1, a1⟩ := r1.lst
    rw [a1.ints_of] at h1
    exact ⟨p, ns, rfl, .inl (.inl h1), h0, fun ns' l h2 h3 hl => q _ _ _ (.upd hl) (fsh_new rp hl (DenAll.ints ns')) (he ns' h2 h3)⟩
  · exact he.elim
end
/-! isinstance -/
def Dt.kind : Dt → Option String
  | .non => some "NoneType"
  | .bl _ => some "bool"
  | .int _ => some "int"
  | .str _ => some "str"
  | .tup _ => some "tuple"
  | .lst _ => some "list"
  | .dk _ _ => some "dict"
  | .dt _ _ => some "dict"
  | _ => none
theorem Bor.tyx {C : Bc} {X : Addr → Prop} {H H1 : Hp} {v : V} {d : Dt} {n : String} (h : Bor C X H1 H v d) (e : d.kind = some n) : TyX C.K H v (.type n) := by
  cases d with
  | non => cases e; rw [h.non]; exact .base .non
  | bl b => cases e; rw [h.bl]; exact .base (.bl b)
  | int b => cases e; rw [h.int]; exact .base (.int b)
  | str b => cases e; rw [h.str]; exact .base (.str b)
  | tup xs => cases e; obtain ⟨p, vs, rfl, h1, _⟩ := h.tup; exact .base (.tup h1)
  | lst xs => cases e; obtain ⟨p, vs, rfl, h1, _⟩ := h.lst; exact .base (.lst h1)
  | dk ks ds => cases e; obtain ⟨p, vs, rfl, h1, _⟩ := h.dk; exact .base (.dK h1)
  | dt ks ds => cases e; obtain ⟨p, vs, rfl, h1, _⟩ := h.dt; exact .base (.dT h1)
  | ins _ _ _ => cases e
  | raw _ => cases e
/-- is of this built-in kind -/
def Dt.isa (T : String) (d : Dt) : Bool := match d.kind with
  | some n => n == T || (n == "bool" && T == "int")
  | none => false
def Known (T : String) : Prop := ∀ n, n ∈ ["NoneType", "bool", "int", "str", "tuple", "list", "dict"] → kitB n T = some (n == T || (n == "bool" && T == "int"))
theorem Dt.kind_mem {d : Dt} {n : String} (e : d.kind = some n) : n ∈ ["NoneType", "bool", "int", "str", "tuple", "list", "dict"] := by
  cases d <;> first | (cases e; done) | (injection e with e; subst e; decide)
theorem known_int : Known "int" := by unfold Known; decide +kernel
theorem known_bool : Known "bool" := by unfold Known; decide +kernel
theorem known_str : Known "str" := by unfold Known; decide +kernel
theorem known_tuple : Known "tuple" := by unfold Known; decide +kernel
theorem known_list : Known "list" := by unfold Known; decide +kernel
def dIsi (T : String) : DL := fun ds Q => match ds with
  | [x, .raw (.ty T')] => T' = T ∧ x.kind.isSome = true ∧ Q (.bl (x.isa T))
  | _ => False
def dIsi2 (T U : String) : DL := fun ds Q => match ds with
  | [x, .tup [.raw (.ty T'), .raw (.ty U')]] => T' = T ∧ U' = U ∧ x.kind.isSome = true ∧ Q (.bl (x.isa T || x.isa U))
  | _ => False
theorem call_isiU {X : Cx} {K : PySem.W.Frag} (e : X.K = K) : CallR X (.builtin "isinstance") (rIsi K) := e ▸ call_isi
theorem call_isiTU {X : Cx} {K : PySem.W.Frag} (e : X.K = K) : CallR X (.builtin "isinstance") (rIsiT K) := e ▸ call_isiT
section
variable {C : Bc}
theorem cg_isi {T : String} (k : Known T) : CallG Cln C (rIsi C.K) (dIsi T) := by
  intro X env σ H vs ds Q Qd rp ra he q
  unfold dIsi at he
  split at he
  · rename_i x T'
    obtain ⟨rfl, hk, he⟩ := he
    obtain ⟨v, u, rfl, r1, r2⟩ := ra.two
    obtain ⟨n, hn⟩ := Option.isSome_iff_exists.mp hk
    have k1 := k n (Dt.kind_mem hn)
    have e : ∀ T, x.isa T = (n == T || (n == "bool" && T == "int")) := fun T => by unfold Dt.isa; rw [hn]
    rw [e] at he
    refine ⟨v, _, _, _, _, by rw [r2.raw], .ty _, r1.tyx hn, kit_ty k1, q _ _ H (.refl H) (.bl _) he⟩
  · exact he.elim
theorem cg_isi2 {T U : String} (k : Known T) (k2 : Known U) : CallG Cln C (rIsiT C.K) (dIsi2 T U) := by
  intro X env σ H vs ds Q Qd rp ra he q
  unfold dIsi2 at he
  split at he
  · obtain ⟨rfl, rfl, hk, he⟩ := he
    obtain ⟨v, u, rfl, r1, r2⟩ := ra.two
    obtain ⟨n, hn⟩ := Option.isSome_iff_exists.mp hk
    obtain ⟨p, vs, rfl, h1, a1⟩ := r2.tup
    cases a1 with
    | cons d1 a1 =>
      cases a1 with
      | cons d2 a2 =>
        cases a2
        rw [d1.flat rfl, d2.flat rfl] at h1
        have k1 := k n (Dt.kind_mem hn)
        have k3 := k2 n (Dt.kind_mem hn)
        refine ⟨v, p, _, _, _, _, rfl, h1, .cons (.ty _) (.cons (.ty _) .nil), r1.tyx hn, kitAny_cons (b := _) (kit_ty k1) (fun e1 => kitAny_cons (kit_ty k3) (r := _) (fun e2 => ?_) fun e2 => ?_) fun e1 => ?_, q _ _ H (.refl H) (.bl _) he⟩
        · unfold Dt.isa; rw [hn]; dsimp only; rw [e1, e2]; rfl
        · unfold Dt.isa; rw [hn]; dsimp only; rw [e1, e2]; rfl
        · unfold Dt.isa; rw [hn]; dsimp only; rw [e1]; rfl
  · exact he.elim
end
end Mine

namespace Mine
open PySem PySem.Spec PyProof.Rows L2
/-! ### what is walked -/
/-- where what was seen at an iterator's making is seen still: in loops, in comprehensions -/
abbrev SS := Bc → (Addr → Prop) → Hp → (Addr → Prop) → Hp → Prop
def Strong : SS := fun C X H1 Y H => Same (vis H1 X) (vis H Y) ∧ ∀ a, Y a → ∃ o, H a = some o
def Weak : SS := fun C X H1 Y H => Frm C.hd H1 H ∧ (∀ h c, C.hd = some (h, c) → X h) ∧ (∀ a, Y a → X a ∨ H1 a = none) ∧ ∀ a, Y a → ∃ o, H a = some o
theorem Weak.strong {C : Bc} {X Y : Addr → Prop} {H1 H : Hp} (w : Weak C X H1 Y H) : Strong C X H1 Y H := by
  obtain ⟨f, hx, hy, al⟩ := w
  refine ⟨fun a o e => ?_, al⟩
  obtain ⟨n, h⟩ := vis_of e
  refine vis_mk (fun y => (hy a y).elim n fun z => by rw [z] at h; cases h) (f.1 a o h fun h' c e' q => n (q ▸ hx h' c e'))
/-- the iterator J yields the data ds -/
def WalkD (S : SS) (C : Bc) (X : Addr → Prop) (H1 : Hp) (J : It) (ds : List Dt) : Prop := ∀ (Y : Addr → Prop) (i : Nat) (H : Hp), S C X H1 Y H →
  (i < ds.length → J.go i H ∧ ∀ x H', J.yld i H x H' → Same H H' ∧ ∃ d, ds[i]? = some d ∧ Den C.K (vis H' Y) x d) ∧ (i = ds.length → J.stop i H)
theorem WalkD.weak {C : Bc} {X : Addr → Prop} {H1 : Hp} {J : It} {ds : List Dt} (w : WalkD Strong C X H1 J ds) : WalkD Weak C X H1 J ds := fun Y i H s => w Y i H s.strong
def DIg (S : SS) (C : Bc) (wi : TI) (e : DAX) : Prop := ∀ X env σ H (R : It → Hp → Prop) (Qd : List Dt → Prop) (Qx : Xc → Prop), Rep C X env σ H → e env Qd Qx →
  (∀ ds J H1, Frm C.hd H H1 → WalkD S C X H1 J ds → Qd ds → R J H1) → XOk C X σ H Qx → wi σ H R
theorem DIg.weak {C : Bc} {wi : TI} {e : DAX} (h : DIg Strong C wi e) : DIg Weak C wi e := fun X env σ H R Qd Qx rp he q x => h X env σ H R Qd Qx rp he (fun ds J H1 f w h => q ds J H1 f w.weak h) x
def eSeq (a : DX) : DAX := fun env Q E => a env (fun d => match d with
  | .lst xs => Q xs
  | .tup xs => Q xs
  | _ => False) E
def eRng1 (a : DAX) : DAX := fun env Q E => a env (fun ds => match ds with
  | [.int j] => (-(2 ^ 62) ≤ j ∧ j < 2 ^ 62) ∧ Q ((List.range j.toNat).map fun i => .int (i : Nat))
  | _ => False) E
def eRng2 (a : DAX) : DAX := fun env Q E => a env (fun ds => match ds with
  | [.int i, .int j] => (-(2 ^ 62) ≤ i ∧ i < 2 ^ 62 ∧ -(2 ^ 62) ≤ j ∧ j < 2 ^ 62) ∧ Q ((List.range (j - i).toNat).map fun k => .int (i + (k : Nat)))
  | _ => False) E
def eEnum (a : DAX) : DAX := fun env Q E => a env (fun ds => match ds with
  | [.lst xs] => Q (xs.mapIdx fun i x => .tup [.int (i : Nat), x])
  | [.tup xs] => Q (xs.mapIdx fun i x => .tup [.int (i : Nat), x])
  | _ => False) E
def eStrs (a : DX) : DAX := fun env Q E => a env (fun d => match d with
  | .str z => Q (z.cps.toList.map fun c => .str ⟨#[c]⟩)
  | _ => False) E
section
variable {C : Bc} {X : Addr → Prop} {H1 : Hp}
theorem walk_lst {S : SS} {p : Addr} {vs : List V} {ds : List Dt} (h : ∀ Y H, S C X H1 Y H → H p = some (.lst vs) ∧ DenAll C.K (vis H Y) vs ds) : WalkD S C X H1 (Itl C.K p) ds := by
  intro Y i H s
  obtain ⟨h1, a⟩ := h Y H s
  have hl := a.length
  refine ⟨fun hi => ⟨⟨vs, vs[i], .inl (.inl h1), by simp [hl ▸ hi]⟩, fun x H' ⟨e, hx⟩ => ?_⟩, fun hi => ⟨vs, .inl (.inl h1), by omega⟩⟩
  subst e
  exact ⟨Same.refl _, a.getV (hx vs (.inl (.inl h1)))⟩
theorem walk_tpl {S : SS} {p : Addr} {vs : List V} {ds : List Dt} (h : ∀ Y H, S C X H1 Y H → H p = some (.tup vs) ∧ DenAll C.K (vis H Y) vs ds) : WalkD S C X H1 (Itt C.K p) ds := by
  intro Y i H s
  obtain ⟨h1, a⟩ := h Y H s
  have hl := a.length
  refine ⟨fun hi => ⟨⟨vs, vs[i], .inl (.inl h1), by simp [hl ▸ hi]⟩, fun x H' ⟨e, hx⟩ => ?_⟩, fun hi => ⟨vs, .inl (.inl h1), by omega⟩⟩
  subst e
  exact ⟨Same.refl _, a.getV (hx vs (.inl (.inl h1)))⟩
/-- how a seen list, a seen tuple stays -/
theorem cln_lst {v : V} {ds : List Dt} (h : Den C.K (vis H1 X) v (.lst ds)) : ∃ p vs, v = .ref p ∧ H1 p = some (.lst vs) ∧ ∀ Y H, Strong C X H1 Y H → H p = some (.lst vs) ∧ DenAll C.K (vis H Y) vs ds := by
  cases h with
  | lst h a => exact ⟨_, _, rfl, vis_sub _ _ h, fun Y H s => ⟨vis_sub _ _ (s.1 _ _ h), a.mono s.1⟩⟩
theorem cln_tup {v : V} {ds : List Dt} (h : Den C.K (vis H1 X) v (.tup ds)) : ∃ p vs, v = .ref p ∧ H1 p = some (.tup vs) ∧ ∀ Y H, Strong C X H1 Y H → H p = some (.tup vs) ∧ DenAll C.K (vis H Y) vs ds := by
  cases h with
  | tup h a => exact ⟨_, _, rfl, vis_sub _ _ h, fun Y H s => ⟨vis_sub _ _ (s.1 _ _ h), a.mono s.1⟩⟩
theorem bor_lst {H0 : Hp} {v : V} {ds : List Dt} (h : Bor C X H0 H1 v (.lst ds)) : ∃ p vs, v = .ref p ∧ H1 p = some (.lst vs) ∧ ∀ Y H, Weak C X H1 Y H → H p = some (.lst vs) ∧ DenAll C.K (vis H Y) vs ds := by
  rcases h with h | ⟨p, vs, ds, rfl, e2, n, h1, h2⟩
  · obtain ⟨p, vs, e1, h1, k⟩ := cln_lst h
    exact ⟨p, vs, e1, h1, fun Y H s => k Y H s.strong⟩
  · cases e2
    exact ⟨p, vs, rfl, h1, fun Y H s => ⟨s.1.1 p _ h1 n, h2.mono s.strong.1⟩⟩
theorem bor_tup {H0 : Hp} {v : V} {ds : List Dt} (h : Bor C X H0 H1 v (.tup ds)) : ∃ p vs, v = .ref p ∧ H1 p = some (.tup vs) ∧ ∀ Y H, Weak C X H1 Y H → H p = some (.tup vs) ∧ DenAll C.K (vis H Y) vs ds := by
  rcases h with h | ⟨p, vs, ds, rfl, e2, n, h1, h2⟩
  · obtain ⟨p, vs, e1, h1, k⟩ := cln_tup h
    exact ⟨p, vs, e1, h1, fun Y H s => k Y H s.strong⟩
  · cases e2
end
/-- what a source must be: with all that is let, or a list of one's own -/
class Src (R : RR) (S : SS) : Prop where
  lst : ∀ {C : Bc} {X : Addr → Prop} {H0 H1 : Hp} {v : V} {ds : List Dt}, R C X H0 H1 v (.lst ds) → ∃ p vs, v = .ref p ∧ H1 p = some (.lst vs) ∧ ∀ Y H, S C X H1 Y H → H p = some (.lst vs) ∧ DenAll C.K (vis H Y) vs ds
  tup : ∀ {C : Bc} {X : Addr → Prop} {H0 H1 : Hp} {v : V} {ds : List Dt}, R C X H0 H1 v (.tup ds) → ∃ p vs, v = .ref p ∧ H1 p = some (.tup vs) ∧ ∀ Y H, S C X H1 Y H → H p = some (.tup vs) ∧ DenAll C.K (vis H Y) vs ds
  al : ∀ {C : Bc} {X Y : Addr → Prop} {H1 H : Hp}, S C X H1 Y H → ∀ a, Y a → ∃ o, H a = some o
instance : Src Cln Strong := ⟨fun h => cln_lst h, fun h => cln_tup h, fun s => s.2⟩
instance : Src Bor Weak := ⟨fun h => bor_lst h, fun h => bor_tup h, fun s => s.2.2.2⟩
section
variable {C : Bc} {R : RR} {S : SS} {tl : TE} {ta : TA} {el : DX} {ea : DAX}
theorem di_seq [Src R S] (h : DEg R C tl el) : DIg S C (iSeq C.K tl) (eSeq el) := by
  intro X env σ H Rr Qd Qx rp he q x
  refine h X env σ H _ _ Qx rp he (fun d v H1 f1 r1 he1 => ?_) x
  split at he1
  · obtain ⟨p, vs, rfl, h1, k⟩ := Src.lst (S := S) r1
    exact ⟨p, vs, rfl, .inl ⟨.inl (.inl h1), q _ _ H1 f1 (walk_lst k) he1⟩⟩
  · obtain ⟨p, vs, rfl, h1, k⟩ := Src.tup (S := S) r1
    exact ⟨p, vs, rfl, .inr ⟨.inl (.inl h1), q _ _ H1 f1 (walk_tpl k) he1⟩⟩
  · exact he1.elim
theorem walk_rng {X : Addr → Prop} {H1 : Hp} (lo : Int) (n : Nat) : WalkD S C X H1 (Itr lo n) ((List.range n).map fun k => .int (lo + (k : Nat))) := by
  intro Y i H s
  rw [List.length_map, List.length_range]
  refine ⟨fun hi => ⟨hi, fun x H' ⟨e, hx⟩ => ?_⟩, fun hi => Nat.le_of_eq hi.symm⟩
  subst e hx
  exact ⟨Same.refl _, _, by rw [List.getElem?_map, List.getElem?_range hi]; rfl, .int _⟩
theorem di_rng1 (h : DAb C ta ea) : DIg S C (iRng1 ta) (eRng1 ea) := by
  intro X env σ H Rr Qd Qx rp he q x
  refine h X env σ H _ _ Qx rp he (fun ds vs H1 f1 ra he1 => ?_) x
  split at he1
  · obtain ⟨v, rfl, r1⟩ := ra.one
    obtain ⟨⟨c1, c2⟩, he1⟩ := he1
    refine ⟨_, by rw [r1.int], c1, c2, q _ _ H1 f1 ?_ he1⟩
    have e : ∀ n : Nat, WalkD S C X H1 (Itr 0 n) ((List.range n).map fun i => .int (i : Nat)) := fun n => by
      have := walk_rng (S := S) (C := C) (X := X) (H1 := H1) 0 n
      simpa using this
    exact e _
  · exact he1.elim
theorem di_rng2 (h : DAb C ta ea) : DIg S C (iRng2 ta) (eRng2 ea) := by
  intro X env σ H Rr Qd Qx rp he q x
  refine h X env σ H _ _ Qx rp he (fun ds vs H1 f1 ra he1 => ?_) x
  split at he1
  · obtain ⟨v, u, rfl, r1, r2⟩ := ra.two
    obtain ⟨c, he1⟩ := he1
    exact ⟨_, _, by rw [r1.int, r2.int], c, q _ _ H1 f1 (walk_rng _ _) he1⟩
  · exact he1.elim
theorem walk_pair {X : Addr → Prop} {H1 : Hp} {J : It} {n : Nat} {G : Hp → Prop} {xs : List V} {ds : List Dt} (hal : ∀ {Y : Addr → Prop} {H : Hp}, S C X H1 Y H → ∀ a, Y a → ∃ o, H a = some o) (hn : ds.length = n)
    (w : Walk J n G (YPair (fun i => some (.int (i : Nat))) (fun i => xs[i]?))) (hs : ∀ i H, n ≤ i → G H → J.stop i H) (k : ∀ Y H, S C X H1 Y H → G H ∧ DenAll C.K (vis H Y) xs ds) :
    WalkD S C X H1 J (ds.mapIdx fun i x => .tup [.int (i : Nat), x]) := by
  intro Y i H s
  obtain ⟨g, a⟩ := k Y H s
  rw [List.length_mapIdx]
  refine ⟨fun hi => ⟨w.goes i H (hn ▸ hi) g, fun x H' hy => ?_⟩, fun hi => hs i H (by omega) g⟩
  obtain ⟨T, v, y, rfl, hT, rfl, ev, ey⟩ := w.yields i H x H' (hn ▸ hi) g hy
  dsimp only at ev ey
  cases ev
  obtain ⟨d, e, den⟩ := a.getV ey
  have nT : ¬ Y T := fun y => by
    obtain ⟨o, q⟩ := hal s T y
    rw [hT] at q; cases q
  refine ⟨same_upd hT, _, by rw [List.getElem?_mapIdx, e]; rfl, .tup (vis_mk nT upd_same) (.cons (.int _) (.cons (den.mono fun b o e => ?_) .nil))⟩
  obtain ⟨n1, e1⟩ := vis_of e
  exact vis_mk n1 (same_upd hT _ _ e1)
theorem di_enum [Src R S] (h : DEg R C tl el) : DIg S C (iEnumA C.K (tCons tl tNil)) (eEnum (eCons el eNil)) := by
  intro X env σ H Rr Qd Qx rp he q x
  refine h X env σ H _ _ Qx rp he (fun d v H1 f1 r1 he1 => ?_) x
  show ∃ a xs, [v] = [.ref a] ∧ _
  have he1 : (match [d] with
    | [.lst xs] => Qd (xs.mapIdx fun i x => .tup [.int (i : Nat), x])
    | [.tup xs] => Qd (xs.mapIdx fun i x => .tup [.int (i : Nat), x])
    | _ => False) := he1
  split at he1
  · rename_i e
    cases e
    obtain ⟨p, vs, rfl, h1, k⟩ := Src.lst (S := S) r1
    refine ⟨p, vs, rfl, .inl ⟨.inl (.inl h1), q _ _ H1 f1 ?_ he1⟩⟩
    intro Y i H2 s
    exact walk_pair (G := fun H => SqL C.K H p vs) (fun s => Src.al (R := R) s) (k Y H2 s).2.length.symm walk_enum (fun i H hi g => ⟨vs, g, hi⟩) (fun Y H s => ⟨.inl (.inl (k Y H s).1), (k Y H s).2⟩) Y i H2 s
  · rename_i e
    cases e
    obtain ⟨p, vs, rfl, h1, k⟩ := Src.tup (S := S) r1
    refine ⟨p, vs, rfl, .inr ⟨.inl (.inl h1), q _ _ H1 f1 ?_ he1⟩⟩
    intro Y i H2 s
    exact walk_pair (G := fun H => SqT C.K H p vs) (fun s => Src.al (R := R) s) (k Y H2 s).2.length.symm walk_enumT (fun i H hi g => ⟨vs, g, hi⟩) (fun Y H s => ⟨.inl (.inl (k Y H s).1), (k Y H s).2⟩) Y i H2 s
  · exact he1.elim
end
/-! ### targets -/
abbrev DGX := Dt → List Sl → (List Sl → Prop) → Prop
def DG (C : Bc) (g : TG) (js : List Nat) (f : DGX) : Prop := ∀ X env σ H x d (Q : L2.St → Hp → Prop) (Qd : List Sl → Prop), Rep C X env σ H → Den C.K (vis H X) x d → f d env Qd →
  (∀ env' σ', Rep C X env' σ' H → Qd env' → σ'.length = σ.length → (∀ k, k ∉ js → σ'[k]? = σ[k]?) → (∀ (k : Nat) (xs : Ow), env'[k]? = some (Sl.own xs) → env[k]? = some (Sl.own xs) ∧ σ'[k]? = σ[k]?) → Q σ' H) → g x σ H Q
def gD (j : Nat) : DGX := fun d env Q => Q (env.set j (.d d))
def gD2 (i j : Nat) : DGX := fun d env Q => match d with
  | .tup [a, b] => Q ((env.set i (.d a)).set j (.d b))
  | _ => False
def gD3 (i j k : Nat) : DGX := fun d env Q => match d with
  | .tup [a, b, c] => Q (((env.set i (.d a)).set j (.d b)).set k (.d c))
  | _ => False
section
variable {C : Bc} {X : Addr → Prop} {env : List Sl} {σ : L2.St} {H : Hp}
theorem Rep.set (r : Rep C X env σ H) (j : Nat) {x : V} {d : Dt} (h : Den C.K (Mine.vis H X) x d) : Rep C X (env.set j (.d d)) (σ.set j (.some x)) H where
  len := by rw [List.length_set, List.length_set, r.len]
  sup := r.sup
  new := r.new
  al := r.al
  frm := r.frm
  hands := r.hands
  slot := fun i s e => by
    rw [List.getElem?_set] at e ⊢
    by_cases c : j = i
    · subst c
      rw [if_pos rfl] at e ⊢
      by_cases hl : j < env.length
      · rw [if_pos hl] at e
        rw [if_pos (r.len ▸ hl)]
        cases e
        exact ⟨_, rfl, x, rfl, h⟩
      · rw [if_neg hl] at e; cases e
    · rw [if_neg c] at e ⊢
      exact r.slot i s e
  inj := fun i k xs ys n e1 e2 => by
    rw [List.getElem?_set] at e1 e2
    have a : j ≠ i := fun c => by
      subst c
      rw [if_pos rfl] at e1
      split at e1 <;> cases e1
    have b : j ≠ k := fun c => by
      subst c
      rw [if_pos rfl] at e2
      split at e2 <;> cases e2
    rw [if_neg a] at e1
    rw [if_neg b] at e2
    rw [List.getElem?_set, List.getElem?_set, if_neg a, if_neg b]
    exact r.inj i k xs ys n e1 e2
  one := r.one.set fun _ _ _ z => by cases z
theorem own_set {env : List Sl} {σ : L2.St} {j : Nat} {x : Dt} {o : Option V} (k : Nat) (xs : Ow) (e : (env.set j (.d x))[k]? = some (Sl.own xs)) : env[k]? = some (Sl.own xs) ∧ (σ.set j o)[k]? = σ[k]? := by
  rw [List.getElem?_set] at e
  have a : j ≠ k := fun c => by
    subst c
    rw [if_pos rfl] at e
    split at e <;> cases e
  rw [if_neg a] at e
  exact ⟨e, by rw [List.getElem?_set, if_neg a]⟩
theorem dg_name (j : Nat) : DG C (gName j) [j] (gD j) := by
  intro X env σ H x d Q Qd rp hd he q
  refine q _ _ (rp.set j hd) he (by rw [List.length_set]) (fun k hk => ?_) own_set
  have : j ≠ k := fun z => hk (by simp [z])
  rw [List.getElem?_set, if_neg this]
theorem Den.tupI {K : PySem.W.Frag} {H : Hp} {v : V} {ds : List Dt} (h : Den K H v (.tup ds)) : ∃ p vs, v = .ref p ∧ H p = some (.tup vs) ∧ DenAll K H vs ds := by
  cases h with
  | tup h a => exact ⟨_, _, rfl, h, a⟩
theorem dg_two (i j : Nat) : DG C (gTup C.K 2 (gCons (gName i) (gCons (gName j) gNil))) [i, j] (gD2 i j) := by
  intro X env σ H x d Q Qd rp hd he q
  unfold gD2 at he
  split at he
  · obtain ⟨p, vs, rfl, h1, a⟩ := hd.tupI
    cases a with
    | @cons v1 _ _ _ a1 a =>
      cases a with
      | @cons v2 _ _ _ a2 a =>
        cases a
        refine ⟨p, _, rfl, .inl (.inl (vis_sub _ _ h1)), rfl, v1, _, rfl, v2, _, rfl, rfl, ?_⟩
        refine q _ _ ((rp.set i a1).set j a2) he (by rw [List.length_set, List.length_set]) (fun k hk => ?_) (fun k xs e => by
          obtain ⟨a1, b1⟩ := own_set (σ := σ.set i (some v1)) (o := some v2) k xs e
          obtain ⟨a2, b2⟩ := own_set (σ := σ) (o := some v1) k xs a1
          exact ⟨a2, b1.trans b2⟩)
        have e1 : i ≠ k := fun z => hk (by simp [z])
        have e2 : j ≠ k := fun z => hk (by simp [z])
        rw [List.getElem?_set, if_neg e2, List.getElem?_set, if_neg e1]
  · exact he.elim
theorem dg_three (i j l : Nat) : DG C (gTup C.K 3 (gCons (gName i) (gCons (gName j) (gCons (gName l) gNil)))) [i, j, l] (gD3 i j l) := by
  intro X env σ H x d Q Qd rp hd he q
  unfold gD3 at he
  split at he
  · obtain ⟨p, vs, rfl, h1, a⟩ := hd.tupI
    cases a with
    | @cons v1 _ _ _ a1 a =>
      cases a with
      | @cons v2 _ _ _ a2 a =>
        cases a with
        | @cons v3 _ _ _ a3 a =>
          cases a
          refine ⟨p, _, rfl, .inl (.inl (vis_sub _ _ h1)), rfl, v1, _, rfl, v2, _, rfl, v3, _, rfl, rfl, ?_⟩
          refine q _ _ (((rp.set i a1).set j a2).set l a3) he (by rw [List.length_set, List.length_set, List.length_set]) (fun k hk => ?_) (fun k xs e => by
            obtain ⟨a1, b1⟩ := own_set (σ := (σ.set i (some v1)).set j (some v2)) (o := some v3) k xs e
            obtain ⟨a2, b2⟩ := own_set (σ := σ.set i (some v1)) (o := some v2) k xs a1
            obtain ⟨a3, b3⟩ := own_set (σ := σ) (o := some v1) k xs a2
            exact ⟨a3, b1.trans (b2.trans b3)⟩)
          have e1 : i ≠ k := fun z => hk (by simp [z])
          have e2 : j ≠ k := fun z => hk (by simp [z])
          have e3 : l ≠ k := fun z => hk (by simp [z])
          rw [List.getElem?_set, if_neg e3, List.getElem?_set, if_neg e2, List.getElem?_set, if_neg e1]
  · exact he.elim
/-! ### comprehensions -/
def wipeS (env : List Sl) : List Nat → List Sl
  | [] => env
  | v :: vs => (wipeS env vs).set v .no
theorem Rep.unset (r : Rep C X env σ H) (j : Nat) (o : Option V) : Rep C X (env.set j .no) (σ.set j o) H where
  len := by rw [List.length_set, List.length_set, r.len]
  sup := r.sup
  new := r.new
  al := r.al
  frm := r.frm
  hands := r.hands
  slot := fun i s e => by
    rw [List.getElem?_set] at e ⊢
    by_cases c : j = i
    · subst c
      rw [if_pos rfl] at e ⊢
      by_cases hl : j < env.length
      · rw [if_pos hl] at e
        rw [if_pos (r.len ▸ hl)]
        cases e
        exact ⟨_, rfl, trivial⟩
      · rw [if_neg hl] at e; cases e
    · rw [if_neg c] at e ⊢
      exact r.slot i s e
  inj := fun i k xs ys n e1 e2 => by
    rw [List.getElem?_set] at e1 e2
    have a : j ≠ i := fun c => by
      subst c
      rw [if_pos rfl] at e1
      split at e1 <;> cases e1
    have b : j ≠ k := fun c => by
      subst c
      rw [if_pos rfl] at e2
      split at e2 <;> cases e2
    rw [if_neg a] at e1
    rw [if_neg b] at e2
    rw [List.getElem?_set, List.getElem?_set, if_neg a, if_neg b]
    exact r.inj i k xs ys n e1 e2
  one := r.one.set fun _ _ _ z => by cases z
theorem Rep.wiped (r : Rep C X env σ H) : ∀ vs : List Nat, Rep C X (wipeS env vs) (wipe σ vs) H
  | [] => r
  | v :: vs => (r.wiped vs).unset v none
theorem wipe_at (σ : L2.St) : ∀ (vs : List Nat) (k : Nat), (wipe σ vs)[k]? = if k ∈ vs ∧ k < σ.length then some none else σ[k]?
  | [], k => by simp [wipe]
  | v :: vs, k => by
    show ((wipe σ vs).set v none)[k]? = _
    rw [List.getElem?_set, wipe_length, wipe_at σ vs k]
    by_cases c : v = k
    · subst c
      by_cases hl : v < σ.length
      · rw [if_pos rfl, if_pos hl, if_pos ⟨List.mem_cons_self, hl⟩]
      · rw [if_pos rfl, if_neg hl, if_neg fun z => hl z.2]
        exact (List.getElem?_eq_none_iff.mpr (by omega)).symm
    · rw [if_neg c]
      have e : (k ∈ v :: vs ∧ k < σ.length) ↔ (k ∈ vs ∧ k < σ.length) := by
        rw [List.mem_cons]
        constructor
        · rintro ⟨z | z, h⟩
          · exact absurd z.symm c
          · exact ⟨z, h⟩
        · rintro ⟨z, h⟩; exact ⟨.inr z, h⟩
      simp only [e]
theorem wipe_of {σ σ' : L2.St} {vs : List Nat} (hl : σ'.length = (wipe σ vs).length) (hk : ∀ k, k ∉ vs → σ'[k]? = (wipe σ vs)[k]?) : wipe σ' vs = wipe σ vs := by
  refine List.ext_getElem? fun k => ?_
  rw [wipe_length] at hl
  rw [wipe_at, wipe_at]
  by_cases c : k ∈ vs
  · by_cases h : k < σ.length
    · rw [if_pos ⟨c, by omega⟩, if_pos ⟨c, h⟩]
    · rw [if_neg fun z => h (by omega), if_neg fun z => h z.2, List.getElem?_eq_none_iff.mpr (by omega), List.getElem?_eq_none_iff.mpr (by omega)]
  · rw [if_neg fun z => c z.1, if_neg fun z => c z.1, hk k c, wipe_at, if_neg fun z => c z.1]
/-- a new thing is hidden -/
theorem Rep.hide {D : Addr} {H2 : Hp} (r : Rep C X env σ H) (n : H D = none) (f : Frm C.hd H H2) (t : ∃ o, H2 D = some o) : Rep C (fun a => X a ∨ a = D) env σ H2 := by
  have r2 := r.step f
  have nD : ∀ a o, H a = some o → a ≠ D := fun a o e => ne_of_none e n
  have sm : Same (Mine.vis H X) (Mine.vis H2 fun a => X a ∨ a = D) := fun a o e => by
    obtain ⟨n1, e1⟩ := vis_of e
    exact vis_mk (fun z => z.elim n1 (nD a o e1)) (f.1 a o e1 fun h c e' q => n1 (q ▸ r.hX h c e'))
  refine ⟨r.len, fun a z => .inl (r.sup a z), fun a z => ?_, fun a z => ?_, r2.frm, r2.hands, fun i s e => ?_, r.inj, r.one⟩
  · rcases z with z | rfl
    · exact r.new a z
    · exact .inr (r.h0 n)
  · rcases z with z | rfl
    · exact r2.al a z
    · exact t
  · obtain ⟨o, e1, q⟩ := r.slot i s e
    refine ⟨o, e1, ?_⟩
    cases s with
    | no => trivial
    | d x => obtain ⟨v, e2, h⟩ := q; exact ⟨v, e2, h.mono sm⟩
    | own xs =>
      obtain ⟨p, vs, e2, x1, x2, h1, h2⟩ := q
      exact ⟨p, vs, e2, .inl x1, x2, f.1 p _ h1 (r.nh x2), h2.mono sm⟩
    | hand => exact q
    | exc c fs => exact q.exc sm
    | ins C0 ns ds =>
      obtain ⟨p, dx, vs, e2, x1, x2, h1, l, h2⟩ := q
      exact ⟨p, dx, vs, e2, .inl x1, x2, f.1 p _ h1 (r.nh x2), l, h2.mono sm⟩
end
def lcGo (f : DGX) (tt : DTX) (te : DX) (env : List Sl) (Q : Dt → Prop) : List Dt → List Dt → Prop
  | [], acc => Q (.lst acc)
  | x :: xs, acc => f x env fun env' => tt env' (fun b => if b = true then te env' (fun y => acc.length < LINE ∧ lcGo f tt te env Q xs (acc ++ [y])) (fun _ => False) else lcGo f tt te env Q xs acc) fun _ => False
def eLc (src : DAX) (f : DGX) (tt : DTX) (te : DX) (vs : List Nat) : DX := fun env Q E => src env (fun ds => lcGo f tt te (wipeS env vs) Q ds []) E
theorem xok_no {C : Bc} {X : Addr → Prop} {σ : L2.St} {H : Hp} : XOk C X σ H fun _ => False := fun _ _ _ _ _ _ z => z.elim
theorem frm_put {C : Bc} {X : Addr → Prop} {env : List Sl} {σ : L2.St} {H1 H : Hp} {D : Addr} {o : HO} (r : Rep C X env σ H1) (n : H1 D = none) (f : Frm C.hd H1 H) : Frm C.hd H1 (upd H D o) := by
  refine ⟨fun a u e k => ?_, fun h c e x => ?_⟩
  · rw [upd_ne (ne_of_none e n)]; exact f.1 a u e k
  · have x2 := f.2 h c e x
    obtain ⟨_, _, _, _, a1, a2, _⟩ := x
    obtain ⟨cells, at_, big, mix, b1, b2, b3⟩ := x2
    exact ⟨cells, at_, big, mix, by rw [upd_ne (ne_of_none a1 n)]; exact b1, by rw [upd_ne (ne_of_none a2 n)]; exact b2, b3⟩
theorem df_lc {C : Bc} {wi : TI} {g : TG} {tt : TT} {te : TE} {vs : List Nat} {src : DAX} {f : DGX} {et : DTX} {ee : DX} (hi : DIg Weak C wi src) (hg : DG C g vs f) (ht : DT C tt et) (he : DE C te ee) : DF C (tLc wi g tt te vs) (eLc src f et ee vs) := by
  intro X env σ H Q Qd Qx rp h q x
  refine hi X env σ H _ _ Qx rp h (fun ds J H1 f1 w h1 => ?_) x
  show ∀ D, H1 D = none → Lc J g tt te vs D σ H1 Q
  intro D hD
  have rp1 := rp.step f1
  let W : Nat → Nat → Hp → Prop := fun i m H2 => m + i = ds.length ∧ Frm C.hd H1 H2 ∧ ∃ acc us, H2 D = some (.lst us) ∧ DenAll C.K (vis H2 fun a => X a ∨ a = D) us acc ∧ lcGo f et ee (wipeS env vs) Qd (ds.drop i) acc
  refine ⟨W, ⟨ds.length, rfl, .upd hD, [], [], upd_same, .nil, h1⟩, fun i m H2 ⟨hm, f2, acc, us, hD2, a2, go⟩ => ?_⟩
  have rpY : Rep C (fun a => X a ∨ a = D) env σ H2 := rp1.hide hD f2 ⟨_, hD2⟩
  have rpW := rpY.wiped vs
  have sW : Weak C X H1 (fun a => X a ∨ a = D) H2 := ⟨f2, rp1.hX, fun a z => z.imp id fun (e : a = D) => by rw [e]; exact hD, rpY.al⟩
  have hw := w _ i H2 sW
  have nh : ∀ h c, C.hd = some (h, c) → D ≠ h := fun h c e z => by
    obtain ⟨_, _, _, _, q, _⟩ := (rp1.hands h c e).2.2
    rw [z, q] at hD; cases hD
  by_cases c : i < ds.length
  · obtain ⟨g1, g2⟩ := hw.1 c
    refine .inr ⟨g1, W (i + 1) (m - 1), fun H' hW => ⟨m - 1, by omega, hW⟩, fun y H3 hy => ?_⟩
    obtain ⟨s3, d, hd, den⟩ := g2 y H3 hy
    have ed : ds.drop i = d :: ds.drop (i + 1) := by
      rw [List.drop_eq_getElem_cons c]
      congr 1
      rw [List.getElem?_eq_getElem c] at hd
      exact Option.some.inj hd
    rw [ed] at go
    have step : ∀ H5, Frm C.hd H3 H5 → Frm C.hd H1 H5 ∧ H5 D = some (.lst us) ∧ DenAll C.K (vis H5 fun a => X a ∨ a = D) us acc := fun H5 f5 => by
      have f25 : Frm C.hd H2 H5 := (Frm.same s3).trans f5
      exact ⟨f2.trans f25, f25.1 D _ hD2 nh, a2.mono (rpY.vs f25)⟩
    refine hg _ _ _ H3 y d _ _ (rpW.step (.same s3)) den go fun env' σ' rp' he' hl hk _ => ⟨wipe_of hl hk, ?_⟩
    refine ht _ env' σ' H3 _ _ _ rp' he' (fun b H4 f4 hb => ?_) xok_no
    cases b with
    | false =>
      rw [if_neg (by decide)] at hb ⊢
      obtain ⟨k1, k2, k3⟩ := step H4 f4
      exact ⟨by omega, k1, acc, us, k2, k3, hb⟩
    | true =>
      rw [if_pos rfl] at hb ⊢
      refine he _ env' σ' H4 _ _ _ (rp'.step f4) hb (fun y2 v2 H5 f5 den5 hb5 => ?_) xok_no
      obtain ⟨k1, k2, k3⟩ := step H5 (f4.trans f5)
      have sv : Same (vis H5 fun a => X a ∨ a = D) (vis (upd H5 D (.lst (us ++ [v2]))) fun a => X a ∨ a = D) := fun a o e => by
        obtain ⟨n1, e1⟩ := vis_of e
        exact vis_mk n1 (by rw [upd_ne fun z => n1 (.inr z)]; exact e1)
      refine ⟨us, k2, by rw [k3.length, sizeLine_eq]; exact hb5.1, by omega, frm_put rp1 hD k1, acc ++ [y2], us ++ [v2], upd_same, (k3.snoc den5).mono sv, hb5.2⟩
  · have e : ds.drop i = [] := List.drop_eq_nil_of_le (by omega)
    rw [e] at go
    exact .inl ⟨hw.2 (by omega), q _ _ H2 (f1.trans f2) ⟨D, us, acc, rfl, rfl, f1.free (fun h c e => (rp.hands h c e).2.2) hD, hD2, a2⟩ go⟩
def eYes : DTX := fun _ Q _ => Q true
theorem dt_yes {C : Bc} : DT C tYes eYes := fun X env σ H Q Qd Qx rp he q x => q true H (.refl H) he
/-! ### calls of defs of one's own -/
abbrev DFn := List Sl → (Dt → Prop) → (Xc → Prop) → Prop
def spD (K : PySem.W.Frag) (F : DFn) : Sp := fun vs H Q E => ∃ (X : Addr → Prop) (hd : Hnd) (args : List Sl) (Qd : Dt → Prop) (Qx : Xc → Prop), (∀ a, X a → ∃ o, H a = some o) ∧ (∀ h c, hd = some (h, c) → X h ∧ HandC H h c) ∧ SlAll K hd X H vs args ∧ F args Qd Qx ∧
  (∀ d v H', Frm hd H H' → Den K (vis H' X) v d → Qd d → Q v H') ∧ (∀ x cls dx H', Frm hd H H' → XRep K (vis H' X) cls dx x → Qx x → E cls dx H')
def Dvs (dvs : List V) (dd : List Sl) : Prop := ∀ (K : PySem.W.Frag) (hd : Hnd) (X : Addr → Prop) (H : Hp), SlAll K hd X H dvs dd
theorem dv_nil : Dvs [] [] := fun _ _ _ _ => .nil
theorem dv_cons {v : V} {d : Dt} {vs : List V} {dd : List Sl} (e : d.flat = some v) (r : Dvs vs dd) : Dvs (v :: vs) (.d d :: dd) := fun K hd X H => .d (.of_flat e) (r K hd X H)
def eCall (F : DFn) (dd : List Sl) (a : DSX) : DX := fun env Q E => a env (fun ss => F (ss ++ dd) Q E) E
def eCall0 (F : DFn) (dd : List Sl) (a : DSX) : DX := fun env Q E => a env (fun ss => F (ss ++ dd) Q fun _ => False) E
section
variable {C : Bc} {F : DFn} {dvs : List V} {dd : List Sl} {t : TA} {a : DSX}
theorem spD_use {X : Addr → Prop} {env : List Sl} {σ : L2.St} {H : Hp} {vs : List V} {ss : List Sl} {Q : VK} {E : XK} {Qd : Dt → Prop} {Qx : Xc → Prop} (rp : Rep C X env σ H) (r : SlAll C.K C.hd X H vs ss) (h : F ss Qd Qx)
    (q : ∀ d v H', Frm C.hd H H' → Den C.K (vis H' X) v d → Qd d → Q v H') (x : ∀ x cls dx H', Frm C.hd H H' → XRep C.K (vis H' X) cls dx x → Qx x → E cls dx H') : spD C.K F vs H Q E :=
  ⟨X, C.hd, ss, Qd, Qx, rp.al, fun h c e => ⟨rp.hX h c e, (rp.hands h c e).2.2⟩, r, h, q, x⟩
theorem de_call0 (hd : Dvs dvs dd) (ha : DAs C t a) : DE C (tCall (spD C.K F) dvs E0 t) (eCall0 F dd a) := by
  intro X env σ H Q Qd Qx rp he q x
  refine ha X env σ H _ _ Qx rp he (fun ss vs H1 f1 r1 he1 => ?_) x
  exact spD_use (rp.step f1) (SlAll.append r1 (hd C.K C.hd X H1)) he1 (fun d v H' f h => q d v H' (f1.trans f) h) fun _ _ _ _ _ _ z => z.elim
theorem de_call {E : XK} (hE : C.E = fun _ => E) (hd : Dvs dvs dd) (ha : DAs C t a) : DE C (tCall (spD C.K F) dvs E t) (eCall F dd a) := by
  intro X env σ H Q Qd Qx rp he q x
  refine ha X env σ H _ _ Qx rp he (fun ss vs H1 f1 r1 he1 => ?_) x
  exact spD_use (rp.step f1) (SlAll.append r1 (hd C.K C.hd X H1)) he1 (fun d v H' f h => q d v H' (f1.trans f) h) fun y cls dx H' f r z => by
    have := x y cls dx H' (f1.trans f) r z
    rw [hE] at this
    exact this
theorem de_callSD {E : L2.St → XK} (hE : C.E = E) (hd : Dvs dvs dd) (ha : DAs C t a) : DE C (tCallSD (spD C.K F) dvs E t) (eCall F dd a) := by
  intro X env σ H Q Qd Qx rp he q x
  refine ha X env σ H _ _ Qx rp he (fun ss vs H1 f1 r1 he1 => ?_) x
  exact spD_use (rp.step f1) (SlAll.append r1 (hd C.K C.hd X H1)) he1 (fun d v H' f h => q d v H' (f1.trans f) h) fun y cls dx H' f r z => by
    have := x y cls dx H' (f1.trans f) r z
    rw [hE] at this
    exact this
theorem de_callS {E : L2.St → XK} (hE : C.E = E) (ha : DAs C t a) : DE C (tCallS (spD C.K F) E t) (eCall F [] a) := by
  intro X env σ H Q Qd Qx rp he q x
  refine ha X env σ H _ _ Qx rp he (fun ss vs H1 f1 r1 he1 => ?_) x
  rw [List.append_nil] at he1
  exact spD_use (rp.step f1) r1 he1 (fun d v H' f h => q d v H' (f1.trans f) h) fun y cls dx H' f r z => by
    have := x y cls dx H' (f1.trans f) r z
    rw [hE] at this
    exact this
end
end Mine

namespace Mine
open PySem PySem.Spec PyProof.Rows L2
/-! ### statements, by data -/
structure DEn where
  nx : List Sl → Prop
  rt : Dt → Prop
  bk : List Sl → Prop
  ct : List Sl → Prop
  xc : List Sl → Xc → Prop
abbrev DSt := DEn → List Sl → Prop
/-- what is wanted at the ends, from a place on -/
structure Lnk (C : Bc) (X : Addr → Prop) (H : Hp) (D : Ends) (d : DEn) : Prop where
  nx : ∀ X' env σ H', Rep C X' env σ H' → Same (vis H X) (vis H' X') → d.nx env → D.nx σ H'
  rt : ∀ X' env σ H' v x, Rep C X' env σ H' → Same (vis H X) (vis H' X') → Den C.K (vis H' X') v x → d.rt x → D.rt v H'
  bk : ∀ X' env σ H', Rep C X' env σ H' → Same (vis H X) (vis H' X') → d.bk env → D.bk σ H'
  ct : ∀ X' env σ H', Rep C X' env σ H' → Same (vis H X) (vis H' X') → d.ct env → D.ct σ H'
  xc : ∀ X' env σ H' x cls dx, Rep C X' env σ H' → Same (vis H X) (vis H' X') → XRep C.K (vis H' X') cls dx x → d.xc env x → C.E σ cls dx H'
def DS (C : Bc) (t : TS) (s : DSt) : Prop := ∀ X env σ H D d, Rep C X env σ H → Lnk C X H D d → s d env → t D σ H
section
variable {C : Bc} {X X1 : Addr → Prop} {env : List Sl} {σ : L2.St} {H H1 : Hp} {D : Ends} {d : DEn}
theorem Lnk.step (l : Lnk C X H D d) (s : Same (vis H X) (vis H1 X1)) : Lnk C X1 H1 D d where
  nx := fun X' env σ H' r k h => l.nx X' env σ H' r (s.trans k) h
  rt := fun X' env σ H' v x r k a h => l.rt X' env σ H' v x r (s.trans k) a h
  bk := fun X' env σ H' r k h => l.bk X' env σ H' r (s.trans k) h
  ct := fun X' env σ H' r k h => l.ct X' env σ H' r (s.trans k) h
  xc := fun X' env σ H' x cls dx r k a h => l.xc X' env σ H' x cls dx r (s.trans k) a h
theorem Lnk.xok (l : Lnk C X H D d) (r : Rep C X env σ H) : XOk C X σ H (d.xc env) := fun x cls dx H' f a h => l.xc X env σ H' x cls dx (r.step f) (r.vs f) a h
end
def sNext : DSt := fun d env => d.nx env
def sSeq (a b : DSt) : DSt := fun d env => a { d with nx := b d } env
def sDrop (e : DX) : DSt := fun d env => e env (fun _ => d.nx env) (d.xc env)
def sRet (e : DX) : DSt := fun d env => e env d.rt (d.xc env)
def sRetN : DSt := fun d _ => d.rt .non
def sIf (c : DTX) (a b : DSt) : DSt := fun d env => c env (fun k => if k = true then a d env else b d env) (d.xc env)
def sBreak : DSt := fun d env => d.bk env
def sCont : DSt := fun d env => d.ct env
def sAsg (e : DX) (f : DGX) : DSt := fun d env => e env (fun x => f x env d.nx) (d.xc env)
/-- name = a new list, a list of one's own from now on -/
def sOwn (j : Nat) (e : DX) : DSt := fun d env => e env (fun x => match x with
  | .lst xs => d.nx (env.set j (.own (.lst xs)))
  | _ => False) (d.xc env)
def sPar (i j : Nat) (a : DAX) : DSt := fun d env => a env (fun ds => match ds with
  | [x, y] => d.nx ((env.set i (.d x)).set j (.d y))
  | _ => False) (d.xc env)
def sPar3 (i j l : Nat) (a : DAX) : DSt := fun d env => a env (fun ds => match ds with
  | [x, y, z] => d.nx (((env.set i (.d x)).set j (.d y)).set l (.d z))
  | _ => False) (d.xc env)
def frz (env : List Sl) (i : Nat) : List Sl := match env[i]? with
  | some (.own w) => env.set i (.d w.fz)
  | _ => env
def sFrz (i : Nat) (s : DSt) : DSt := fun d env => s d (frz env i)
section
variable {C : Bc} {t u : TS} {a b : DSt} {te : TE} {e : DX} {c : TT} {ec : DTX} {ta : TA} {ea : DAX} {g : TG} {f : DGX} {js : List Nat}
theorem dst_next : DS C tNext sNext := fun X env σ H D d r l h => l.nx X env σ H r (Same.refl _) h
theorem dst_seq (ha : DS C t a) (hb : DS C u b) : DS C (tSeq t u) (sSeq a b) := by
  intro X env σ H D d r l h
  refine ha X env σ H { D with nx := u D } { d with nx := b d } r ⟨fun X' env' σ' H' r' k h' => ?_, l.rt, l.bk, l.ct, l.xc⟩ h
  exact hb X' env' σ' H' D d r' (l.step k) h'
theorem dst_drop (he : DE C te e) : DS C (tDrop te) (sDrop e) := fun X env σ H D d r l h =>
  he X env σ H _ _ _ r h (fun x v H1 f1 _ h1 => l.nx X env σ H1 (r.step f1) (r.vs f1) h1) (l.xok r)
theorem dst_ret (he : DE C te e) : DS C (tRet te) (sRet e) := fun X env σ H D d r l h =>
  he X env σ H _ _ _ r h (fun x v H1 f1 r1 h1 => l.rt X env σ H1 v x (r.step f1) (r.vs f1) r1 h1) (l.xok r)
theorem dst_retN : DS C tRetN sRetN := fun X env σ H D d r l h => l.rt X env σ H .non .non r (Same.refl _) .non h
theorem dst_if (hc : DT C c ec) (ha : DS C t a) (hb : DS C u b) : DS C (tIfS c t u) (sIf ec a b) := by
  intro X env σ H D d r l h
  refine hc X env σ H _ _ _ r h (fun k H1 f1 h1 => ?_) (l.xok r)
  cases k with
  | true => rw [if_pos rfl] at h1 ⊢; exact ha X env σ H1 D d (r.step f1) (l.step (r.vs f1)) h1
  | false => rw [if_neg (by decide)] at h1 ⊢; exact hb X env σ H1 D d (r.step f1) (l.step (r.vs f1)) h1
theorem dst_break : DS C tBreak sBreak := fun X env σ H D d r l h => l.bk X env σ H r (Same.refl _) h
theorem dst_cont : DS C tCont sCont := fun X env σ H D d r l h => l.ct X env σ H r (Same.refl _) h
theorem dst_asg (he : DE C te e) (hg : DG C g js f) : DS C (tAsg te g) (sAsg e f) := by
  intro X env σ H D d r l h
  refine he X env σ H _ _ _ r h (fun x v H1 f1 r1 h1 => ?_) (l.xok r)
  exact hg X env σ H1 v x _ _ (r.step f1) r1 h1 fun env' σ' r' h' _ _ _ => l.nx X env' σ' H1 r' (r.vs f1) h'
theorem dst_par {i j : Nat} (ha : DA C ta ea) : DS C (tPar i j ta) (sPar i j ea) := by
  intro X env σ H D d r l h
  refine ha X env σ H _ _ _ r h (fun ds vs H1 f1 r1 h1 => ?_) (l.xok r)
  split at h1
  · have r1 : DenAll C.K (vis H1 X) vs _ := r1
    cases r1 with
    | cons a1 r1 =>
      cases r1 with
      | cons a2 r1 =>
        cases r1
        exact ⟨_, _, rfl, l.nx X _ _ H1 (((r.step f1).set i a1).set j a2) (r.vs f1) h1⟩
  · exact h1.elim
theorem dst_par3 {i j k : Nat} (ha : DA C ta ea) : DS C (tPar3 i j k ta) (sPar3 i j k ea) := by
  intro X env σ H D d r l h
  refine ha X env σ H _ _ _ r h (fun ds vs H1 f1 r1 h1 => ?_) (l.xok r)
  split at h1
  · have r1 : DenAll C.K (vis H1 X) vs _ := r1
    cases r1 with
    | cons a1 r1 =>
      cases r1 with
      | cons a2 r1 =>
        cases r1 with
        | cons a3 r1 =>
          cases r1
          exact ⟨_, _, _, rfl, l.nx X _ _ H1 ((((r.step f1).set i a1).set j a2).set k a3) (r.vs f1) h1⟩
  · exact h1.elim
end
/-! ### lists of one's own -/
section
variable {C : Bc} {X : Addr → Prop} {env : List Sl} {σ : L2.St} {H : Hp}
/-- slot j holds the new list p -/
theorem Rep.setOwn {H1 : Hp} {p : Addr} {vs : HO} {xs : Ow} (r : Rep C X env σ H) (f : Frm C.hd H H1) (n : H p = none) (j : Nat) (h1 : H1 p = some vs) (h2 : DenO C.K (vis H1 fun a => X a ∨ a = p) vs xs) :
    Rep C (fun a => X a ∨ a = p) (env.set j (.own xs)) (σ.set j (some (.ref p))) H1 := by
  have r0 := r.hide n f ⟨_, h1⟩
  refine ⟨by rw [List.length_set, List.length_set, r.len], r0.sup, r0.new, r0.al, r0.frm, r0.hands, fun i s e => ?_, fun i k xs' ys' ne e1 e2 => ?_, r0.one.set fun _ _ _ z => by cases z⟩
  · rw [List.getElem?_set] at e ⊢
    by_cases c : j = i
    · subst c
      rw [if_pos rfl] at e ⊢
      by_cases hl : j < env.length
      · rw [if_pos hl] at e
        rw [if_pos (r.len ▸ hl)]
        cases e
        refine ⟨_, rfl, p, vs, rfl, .inr rfl, fun z => ?_, h1, h2⟩
        obtain ⟨o, e⟩ := r.al p (r.sup p z)
        rw [n] at e; cases e
      · rw [if_neg hl] at e; cases e
    · rw [if_neg c] at e ⊢
      exact r0.slot i s e
  · rw [List.getElem?_set] at e1 e2 ⊢
    rw [List.getElem?_set]
    have other : ∀ i zs, j ≠ i → env[i]? = some (Sl.own zs) → σ[i]? ≠ some (some (.ref p)) := fun i zs c e z => by
      obtain ⟨o, q, p', vs', rfl, x1, x2, y1, y2⟩ := r.slot i _ e
      rw [q] at z
      have : p' = p := by injection z with z; injection z with z; injection z
      subst this
      rw [n] at y1; cases y1
    by_cases c : j = i
    · subst c
      have c2 : j ≠ k := ne
      rw [if_neg c2] at e2
      rw [if_pos rfl, if_neg c2]
      by_cases hl : j < env.length
      · rw [if_pos (r.len ▸ hl)]
        exact fun z => other k ys' c2 e2 z.symm
      · rw [if_pos rfl, if_neg hl] at e1; cases e1
    · rw [if_neg c] at e1 ⊢
      by_cases c2 : j = k
      · subst c2
        by_cases hl : j < env.length
        · rw [if_pos rfl, if_pos (r.len ▸ hl)]
          exact other i xs' c e1
        · rw [if_pos rfl, if_neg hl] at e2; cases e2
      · rw [if_neg c2] at e2 ⊢
        exact r.inj i k xs' ys' ne e1 e2
/-- the list in slot i is changed -/
theorem Rep.own {i : Nat} {p : Addr} {vs' : HO} {xs xs' : Ow} (r : Rep C X env σ H) (e : env[i]? = some (.own xs)) (es : σ[i]? = some (some (.ref p))) (x1 : X p) (x2 : ¬ C.X0 p) (h2 : DenO C.K (vis H X) vs' xs') :
    Rep C X (env.set i (.own xs')) σ (upd H p vs') ∧ Same (vis H X) (vis (upd H p vs') X) := by
  have sm : Same (vis H X) (vis (upd H p vs') X) := fun a o q => by
    obtain ⟨n1, e1⟩ := vis_of q
    exact vis_mk n1 (by rw [upd_ne (fun (z : a = p) => n1 (by rw [z]; exact x1))]; exact e1)
  have h0 : C.H0 p = none := (r.new p x1).resolve_left x2
  have fm : Frm C.hd C.H0 (upd H p vs') := by
    refine ⟨fun a u q k => ?_, fun h c q x => ?_⟩
    · rw [upd_ne (ne_of_none q h0)]; exact r.frm.1 a u q k
    · have y := r.frm.2 h c q x
      obtain ⟨_, _, _, _, a1, a2, _⟩ := x
      obtain ⟨cells, at_, big, mix, b1, b2, b3⟩ := y
      exact ⟨cells, at_, big, mix, by rw [upd_ne (ne_of_none a1 h0)]; exact b1, by rw [upd_ne (ne_of_none a2 h0)]; exact b2, b3⟩
  refine ⟨⟨by rw [List.length_set, r.len], r.sup, r.new, fun a z => ?_, fm, fun h c q => ⟨(r.hands h c q).1, (r.hands h c q).2.1, fm.2 h c q (r.hands h c q).2.1⟩, fun j s q => ?_, fun j k ys zs ne e1 e2 => ?_, r.one.set fun _ _ _ z => by cases z⟩, sm⟩
  · by_cases c : a = p
    · subst c; exact ⟨_, upd_same⟩
    · obtain ⟨o, q⟩ := r.al a z
      exact ⟨o, by rw [upd_ne c]; exact q⟩
  · rw [List.getElem?_set] at q
    by_cases c : i = j
    · subst c
      have hl : i < env.length := (List.getElem?_eq_some_iff.mp e).1
      rw [if_pos rfl, if_pos hl] at q
      cases q
      exact ⟨_, es, p, vs', rfl, x1, x2, upd_same, h2.mono sm⟩
    · rw [if_neg c] at q
      obtain ⟨o, e1, w⟩ := r.slot j s q
      refine ⟨o, e1, ?_⟩
      cases s with
      | no => trivial
      | d x => obtain ⟨v, e2, h⟩ := w; exact ⟨v, e2, h.mono sm⟩
      | own ys =>
        obtain ⟨p', us, rfl, y1, y2, y3, y4⟩ := w
        have ne : p' ≠ p := fun z => r.inj i j xs ys c e q (by rw [es, e1, z])
        exact ⟨p', us, rfl, y1, y2, by rw [upd_ne ne]; exact y3, y4.mono sm⟩
      | hand => exact w
      | exc c' fs => exact w.exc sm
      | ins C0 ns ds =>
        obtain ⟨p', dx, us, rfl, y1, y2, y3, yl, y4⟩ := w
        have ne : p' ≠ p := fun z => by
          obtain ⟨o2, es2, p2, us2, rfl, _, _, k2, k3⟩ := r.slot i _ e
          rw [es] at es2; cases es2
          rw [z, k2] at y3; cases y3; exact k3.noins
        exact ⟨p', dx, us, rfl, y1, y2, by rw [upd_ne ne]; exact y3, yl, y4.mono sm⟩
  · rw [List.getElem?_set] at e1 e2
    have hl : i < env.length := (List.getElem?_eq_some_iff.mp e).1
    by_cases c : i = j
    · subst c
      rw [if_neg ne] at e2
      exact r.inj i k xs zs ne e e2
    · rw [if_neg c] at e1
      by_cases c2 : i = k
      · subst c2
        exact r.inj j i ys xs ne e1 e
      · rw [if_neg c2] at e2
        exact r.inj j k ys zs ne e1 e2
/-- the list in slot i is no longer one's own -/
theorem Rep.frz (r : Rep C X env σ H) (i : Nat) : ∃ X', Rep C X' (frz env i) σ H ∧ Same (vis H X) (vis H X') := by
  unfold Mine.frz
  split
  · rename_i xs e
    obtain ⟨o, es, p, vs, rfl, x1, x2, h1, h2⟩ := r.slot i _ e
    have hl : i < env.length := (List.getElem?_eq_some_iff.mp e).1
    have sm : Same (vis H X) (vis H fun a => X a ∧ a ≠ p) := vis_anti fun a z => z.1
    refine ⟨fun a => X a ∧ a ≠ p, ⟨by rw [List.length_set, r.len], fun a z => ⟨r.sup a z, fun q => x2 (q ▸ z)⟩, fun a z => r.new a z.1, fun a z => r.al a z.1, r.frm, r.hands, fun j s q => ?_, fun j k ys zs ne e1 e2 => ?_, r.one.set fun _ _ _ z => by cases z⟩, sm⟩
    · rw [List.getElem?_set] at q
      by_cases c : i = j
      · subst c
        rw [if_pos rfl, if_pos hl] at q
        cases q
        exact ⟨_, es, _, rfl, (h2.mono sm).fz (vis_mk (fun z => z.2 rfl) h1)⟩
      · rw [if_neg c] at q
        obtain ⟨o, e1, w⟩ := r.slot j s q
        refine ⟨o, e1, ?_⟩
        cases s with
        | no => trivial
        | d x => obtain ⟨v, e2, h⟩ := w; exact ⟨v, e2, h.mono sm⟩
        | own ys =>
          obtain ⟨p', us, rfl, y1, y2, y3, y4⟩ := w
          have ne : p' ≠ p := fun z => r.inj i j xs ys c e q (by rw [es, e1, z])
          exact ⟨p', us, rfl, ⟨y1, ne⟩, y2, y3, y4.mono sm⟩
        | hand => exact w
        | exc c' fs => exact w.exc sm
        | ins C0 ns ds =>
          obtain ⟨p', dx, us, rfl, y1, y2, y3, yl, y4⟩ := w
          have ne : p' ≠ p := fun z => by rw [z, h1] at y3; cases y3; exact h2.noins
          exact ⟨p', dx, us, rfl, ⟨y1, ne⟩, y2, y3, yl, y4.mono sm⟩
    · rw [List.getElem?_set] at e1 e2
      by_cases c : i = j
      · subst c
        rw [if_pos rfl, if_pos hl] at e1; cases e1
      · rw [if_neg c] at e1
        by_cases c2 : i = k
        · subst c2
          rw [if_pos rfl, if_pos hl] at e2; cases e2
        · rw [if_neg c2] at e2
          exact r.inj j k ys zs ne e1 e2
  · exact ⟨X, r, Same.refl _⟩
theorem Rep.ownAt (r : Rep C X env σ H) {i : Nat} {xs : List Dt} (e : env[i]? = some (.own (.lst xs))) : ∃ p vs, σ[i]? = some (some (.ref p)) ∧ X p ∧ ¬ C.X0 p ∧ H p = some (.lst vs) ∧ DenAll C.K (vis H X) vs xs := by
  obtain ⟨o, es, p, u, rfl, x1, x2, h1, h2⟩ := r.slot i _ e
  cases h2 with
  | @lst vs _ a => exact ⟨p, vs, es, x1, x2, h1, a⟩
theorem Rep.ownAtO (r : Rep C X env σ H) {i : Nat} {w : Ow} (e : env[i]? = some (.own w)) : ∃ p u, σ[i]? = some (some (.ref p)) ∧ X p ∧ ¬ C.X0 p ∧ H p = some u ∧ DenO C.K (vis H X) u w := by
  obtain ⟨o, es, p, u, rfl, x1, x2, h1, h2⟩ := r.slot i _ e
  exact ⟨p, u, es, x1, x2, h1, h2⟩
end
/-- x.append(e) -/
def sApp (i : Nat) (e : DX) : DSt := fun d env => match env[i]? with
  | some (.own (.lst xs)) => e env (fun y => xs.length < LINE ∧ d.nx (env.set i (.own (.lst (xs ++ [y]))))) (d.xc env)
  | _ => False
/-- x.extend(e), e a list -/
def sExt (i : Nat) (e : DX) : DSt := fun d env => match env[i]? with
  | some (.own (.lst xs)) => e env (fun y => match y with
    | .lst ys => xs.length + ys.length ≤ LINE ∧ d.nx (env.set i (.own (.lst (xs ++ ys))))
    | _ => False) (d.xc env)
  | _ => False
/-- x.pop() -/
def sPop (i : Nat) : DSt := fun d env => match env[i]? with
  | some (.own (.lst xs)) => xs ≠ [] ∧ d.nx (env.set i (.own (.lst xs.dropLast)))
  | _ => False
/-- y = x.pop() -/
def sPopTo (i j : Nat) : DSt := fun d env => match env[i]? with
  | some (.own (.lst xs)) => ∃ y, xs[xs.length - 1]? = some y ∧ d.nx ((env.set i (.own (.lst xs.dropLast))).set j (.d y))
  | _ => False
/-- x[k] = e -/
def sPut (i : Nat) (ek e : DX) : DSt := fun d env => match env[i]? with
  | some (.own (.lst xs)) => e env (fun y => ek env (fun k => match k with
    | .int k => ∃ j, ixN xs.length k = some j ∧ d.nx (env.set i (.own (.lst (xs.set j y))))
    | _ => False) (d.xc env)) (d.xc env)
  | _ => False
/-- x[k] += e -/
def sAugP (f : Int → Int → Int) (i : Nat) (ek e : DX) : DSt := fun d env => match env[i]? with
  | some (.own (.lst xs)) => ek env (fun k => match k with
    | .int k => ∃ j z, ixN xs.length k = some j ∧ xs[j]? = some (.int z) ∧ e env (fun y => match y with
      | .int y => d.nx (env.set i (.own (.lst (xs.set j (.int (f z y))))))
      | _ => False) (d.xc env)
    | _ => False) (d.xc env)
  | _ => False
/-- x += e at a name that holds a whole number -/
def sAug (f : Int → Int → Int) (i : Nat) (e : DX) : DSt := fun d env => match env[i]? with
  | some (.d (.int x)) => e env (fun y => match y with
    | .int y => d.nx (env.set i (.d (.int (f x y))))
    | _ => False) (d.xc env)
  | _ => False
section
variable {C : Bc} {te tk : TE} {e ek : DX} {i : Nat}
theorem dst_own {j : Nat} (he : DF C te e) : DS C (tAsg te (gName j)) (sOwn j e) := by
  intro X env σ H D d r l h
  refine he X env σ H _ _ _ r h (fun x v H1 f1 r1 h1 => ?_) (l.xok r)
  obtain ⟨p, vs, ds, rfl, rfl, n, h2, h3⟩ := r1
  refine l.nx _ _ _ H1 (r.setOwn f1 n j h2 (.lst h3)) (fun a o q => ?_) h1
  obtain ⟨n1, e1⟩ := vis_of q
  exact vis_mk (fun z => z.elim n1 (ne_of_none e1 n)) (vis_of (r.vs f1 _ _ q)).2
theorem dst_frz {t : TS} {s : DSt} (i : Nat) (h : DS C t s) : DS C t (sFrz i s) := by
  intro X env σ H D d r l q
  obtain ⟨X', r', sm⟩ := r.frz i
  exact h X' _ σ H D d r' (l.step sm) q
theorem tyv_lst {K : PySem.W.Frag} {H : Hp} {p : Addr} {xs : List V} (h : H p = some (.lst xs)) : tyV K "list" (.ref p) H := .inl ⟨rfl, xs, .inl (.inl h)⟩
theorem dst_app (he : DE C te e) : DS C (tDrop (tBM C.K "list" rAppend (tVar i) (tCons te tNil))) (sApp i e) := by
  intro X env σ H D d r l h
  unfold sApp at h
  split at h
  · rename_i xs e1
    obtain ⟨p, vs, es, x1, x2, h1, h2⟩ := r.ownAt e1
    refine ⟨.ref p, es, tyv_lst h1, ?_⟩
    refine he X env σ H _ _ _ r h (fun y v H1 f1 r1 hy => ?_) (l.xok r)
    have k2 := h2.mono (r.vs f1)
    refine ⟨p, vs, v, rfl, rfl, f1.1 p _ h1 (r.nh x2), by rw [h2.length, sizeLine_eq]; exact hy.1, ?_⟩
    obtain ⟨r3, sm⟩ := (r.step f1).own e1 es x1 x2 (.lst (k2.snoc r1))
    exact l.nx _ _ _ _ r3 ((r.vs f1).trans sm) hy.2
  · exact h.elim
theorem dst_ext (he : DB C te e) : DS C (tDrop (tBM C.K "list" rExtend (tVar i) (tCons te tNil))) (sExt i e) := by
  intro X env σ H D d r l h
  unfold sExt at h
  split at h
  · rename_i xs e1
    obtain ⟨p, vs, es, x1, x2, h1, h2⟩ := r.ownAt e1
    refine ⟨.ref p, es, tyv_lst h1, ?_⟩
    refine he X env σ H _ _ _ r h (fun y v H1 f1 r1 hy => ?_) (l.xok r)
    split at hy
    · obtain ⟨b, us, rfl, h3, a3⟩ := r1.lst
      have k2 := h2.mono (r.vs f1)
      refine ⟨p, b, vs, us, rfl, rfl, f1.1 p _ h1 (r.nh x2), h3, by rw [h2.length, a3.length, sizeLine_eq]; exact hy.1, ?_⟩
      obtain ⟨r3, sm⟩ := (r.step f1).own e1 es x1 x2 (.lst (k2.append a3))
      exact l.nx _ _ _ _ r3 ((r.vs f1).trans sm) hy.2
    · exact hy.elim
  · exact h.elim
theorem dst_pop : DS C (tDrop (tBM0 C.K "list" rPop (tVar i))) (sPop i) := by
  intro X env σ H D d r l h
  unfold sPop at h
  split at h
  · rename_i xs e1
    obtain ⟨p, vs, es, x1, x2, h1, h2⟩ := r.ownAt e1
    have hn : vs ≠ [] := fun z => by subst z; cases h2; exact h.1 rfl
    refine ⟨.ref p, es, tyv_lst h1, p, vs, vs.getLast hn, rfl, rfl, h1, ?_, ?_⟩
    · have := List.length_pos_iff.mpr hn
      rw [List.getLast_eq_getElem, List.getElem?_eq_getElem (by omega)]
    · obtain ⟨r3, sm⟩ := r.own e1 es x1 x2 (.lst h2.dropLast)
      exact l.nx _ _ _ _ r3 sm h.2
  · exact h.elim
theorem dst_popTo {j : Nat} : DS C (tAsg (tBM0 C.K "list" rPop (tVar i)) (gName j)) (sPopTo i j) := by
  intro X env σ H D d r l h
  unfold sPopTo at h
  split at h
  · rename_i xs e1
    obtain ⟨y, hy, h⟩ := h
    obtain ⟨p, vs, es, x1, x2, h1, h2⟩ := r.ownAt e1
    obtain ⟨v, hv, dv⟩ := h2.get hy
    rw [← h2.length] at hv
    refine ⟨.ref p, es, tyv_lst h1, p, vs, v, rfl, rfl, h1, hv, ?_⟩
    obtain ⟨r3, sm⟩ := r.own e1 es x1 x2 (.lst h2.dropLast)
    exact l.nx _ _ _ _ (r3.set j (dv.mono sm)) sm h
  · exact h.elim
theorem dst_put (he : DE C te e) (hk : DE C tk ek) : DS C (tAsg te (gSub (tVar i) tk rSetL)) (sPut i ek e) := by
  intro X env σ H D d r l h
  unfold sPut at h
  split at h
  · rename_i xs e1
    refine he X env σ H _ _ _ r h (fun y v H1 f1 r1 hy => ?_) (l.xok r)
    have rp1 := r.step f1
    obtain ⟨p, vs, es, x1, x2, h1, h2⟩ := rp1.ownAt e1
    refine ⟨.ref p, es, ?_⟩
    refine hk X env σ H1 _ _ _ rp1 hy (fun k u H2 f2 r2 hk2 => ?_) ((l.xok r).step f1)
    split at hk2
    · obtain ⟨j, hj, hk2⟩ := hk2
      have k2 := h2.mono (rp1.vs f2)
      refine ⟨p, vs, _, j, rfl, r2.flat rfl, f2.1 p _ h1 (rp1.nh x2), by rw [h2.length]; exact hj, ?_⟩
      obtain ⟨r3, sm⟩ := (rp1.step f2).own e1 es x1 x2 (.lst (k2.set j (Den.mono (rp1.vs f2) r1)))
      exact l.nx _ _ _ _ r3 ((r.vs f1).trans ((rp1.vs f2).trans sm)) hk2
    · exact hk2.elim
  · exact h.elim
theorem dst_augP {f : Int → Int → Int} (hk : DE C tk ek) (he : DE C te e) : DS C (tAugS (tVar i) tk te rIxH (ipI f) rSetL) (sAugP f i ek e) := by
  intro X env σ H D d r l h
  unfold sAugP at h
  split at h
  · rename_i xs e1
    obtain ⟨p, vs, es, x1, x2, h1, h2⟩ := r.ownAt e1
    refine ⟨.ref p, es, ?_⟩
    refine hk X env σ H _ _ _ r h (fun k u H1 f1 r1 hk2 => ?_) (l.xok r)
    split at hk2
    · rename_i kk
      obtain ⟨j, z, hj, hz, hk2⟩ := hk2
      have rp1 := r.step f1
      have k1 := f1.1 p _ h1 (r.nh x2)
      have k2 := h2.mono (r.vs f1)
      obtain ⟨w, hw, dw⟩ := k2.get hz
      have ew : w = .int z := dw.flat rfl
      subst ew
      have hj' : ixN vs.length kk = some j := by rw [h2.length]; exact hj
      refine ⟨p, kk, vs, .int z, rfl, r1.flat rfl, k1, by unfold atI; rw [hj']; exact hw, ?_⟩
      refine he X env σ H1 _ _ _ rp1 hk2 (fun y v H2 f2 r2 hy => ?_) ((l.xok r).step f1)
      split at hy
      · have k3 := k2.mono (rp1.vs f2)
        refine ⟨z, _, rfl, r2.flat rfl, p, vs, _, j, rfl, r1.flat rfl, f2.1 p _ k1 (rp1.nh x2), hj', ?_⟩
        obtain ⟨r3, sm⟩ := (rp1.step f2).own e1 es x1 x2 (.lst (k3.set j (.int _)))
        exact l.nx _ _ _ _ r3 ((r.vs f1).trans ((rp1.vs f2).trans sm)) hy
      · exact hy.elim
    · exact hk2.elim
  · exact h.elim
theorem dst_aug {f : Int → Int → Int} (he : DE C te e) : DS C (tAug i te (ipI f)) (sAug f i e) := by
  intro X env σ H D d r l h
  unfold sAug at h
  split at h
  · rename_i x e1
    obtain ⟨v, es, dv⟩ := r.at e1
    have ev : v = .int x := dv.flat rfl
    subst ev
    refine ⟨_, es, ?_⟩
    refine he X env σ H _ _ _ r h (fun y v H1 f1 r1 hy => ?_) (l.xok r)
    split at hy
    · exact ⟨x, _, rfl, r1.flat rfl, l.nx _ _ _ _ ((r.step f1).set i (.int _)) (r.vs f1) hy⟩
    · exact hy.elim
  · exact h.elim
end
/-! ### loops -/
def dFor (f : DGX) (b : DSt) (d : DEn) : List Dt → List Sl → Prop
  | [], env => d.nx env
  | x :: xs, env => f x env fun env' => b { d with nx := dFor f b d xs, ct := dFor f b d xs, bk := d.nx } env'
def sFor (src : DAX) (f : DGX) (b : DSt) : DSt := fun d env => src env (fun ds => dFor f b d ds env) (d.xc env)
/-- what a while is asked: an invariant that falls -/
def sWhile (c : DTX) (b : DSt) : DSt := fun d env => ∃ (I : Nat → List Sl → Prop) (m0 : Nat), I m0 env ∧ ∀ m env, I m env → c env (fun k => if k = true then b { d with nx := fun e => ∃ m', m' < m ∧ I m' e, ct := fun e => ∃ m', m' < m ∧ I m' e, bk := d.nx } env else d.nx env) (d.xc env)
section
variable {C : Bc} {wi : TI} {g : TG} {tb : TS} {src : DAX} {f : DGX} {b : DSt} {js : List Nat} {tc : TT} {ec : DTX}
theorem dst_for (hi : DIg Strong C wi src) (hg : DG C g js f) (hb : DS C tb b) : DS C (tFor wi g tb) (sFor src f b) := by
  intro X env σ H D d r l h
  refine hi X env σ H _ _ _ r h (fun ds J H1 f1 w h1 => ?_) (l.xok r)
  have rp1 := r.step f1
  have l1 := l.step (r.vs f1)
  let W : Nat → Nat → L2.St → Hp → Prop := fun i m σ2 H2 => m + i = ds.length ∧ ∃ X2 env2, Rep C X2 env2 σ2 H2 ∧ Same (vis H1 X) (vis H2 X2) ∧ dFor f b d (ds.drop i) env2
  refine ⟨W, ⟨ds.length, rfl, X, env, rp1, Same.refl _, h1⟩, fun i m σ2 H2 ⟨hm, X2, env2, r2, s2, go⟩ => ?_⟩
  have hw := w X2 i H2 ⟨s2, r2.al⟩
  by_cases c : i < ds.length
  · obtain ⟨g1, g2⟩ := hw.1 c
    refine .inr ⟨g1, W (i + 1) (m - 1), fun σ' H' hW => ⟨m - 1, by omega, hW⟩, fun y H3 hy => ?_⟩
    obtain ⟨s3, x, hx, den⟩ := g2 y H3 hy
    have ed : ds.drop i = x :: ds.drop (i + 1) := by
      rw [List.drop_eq_getElem_cons c]
      congr 1
      rw [List.getElem?_eq_getElem c] at hx
      exact Option.some.inj hx
    rw [ed] at go
    have r3 := r2.step (.same s3)
    have s13 : Same (vis H1 X) (vis H3 X2) := s2.trans (r2.vs (.same s3))
    refine hg X2 env2 σ2 H3 y x _ _ r3 den go fun env' σ' r' h' _ _ _ => ?_
    refine hb X2 env' σ' H3 _ { d with nx := dFor f b d (ds.drop (i + 1)), ct := dFor f b d (ds.drop (i + 1)), bk := d.nx } r' ⟨fun X4 env4 σ4 H4 r4 s4 h4 => ⟨by omega, X4, env4, r4, s13.trans s4, h4⟩, fun X4 env4 σ4 H4 v z r4 s4 a h4 => l1.rt X4 env4 σ4 H4 v z r4 (s13.trans s4) a h4,
      fun X4 env4 σ4 H4 r4 s4 h4 => l1.nx X4 env4 σ4 H4 r4 (s13.trans s4) h4, fun X4 env4 σ4 H4 r4 s4 h4 => ⟨by omega, X4, env4, r4, s13.trans s4, h4⟩, fun X4 env4 σ4 H4 z cls dx r4 s4 a h4 => l1.xc X4 env4 σ4 H4 z cls dx r4 (s13.trans s4) a h4⟩ h'
  · have e : ds.drop i = [] := List.drop_eq_nil_of_le (by omega)
    rw [e] at go
    exact .inl ⟨hw.2 (by omega), l1.nx X2 env2 σ2 H2 r2 s2 go⟩
theorem dst_while (hc : DT C tc ec) (hb : DS C tb b) : DS C (tWhile tc tb) (sWhile ec b) := by
  intro X env σ H D d r l ⟨I, m0, i0, turn⟩
  let W : Nat → L2.St → Hp → Prop := fun m σ2 H2 => ∃ X2 env2, Rep C X2 env2 σ2 H2 ∧ Same (vis H X) (vis H2 X2) ∧ I m env2
  refine ⟨W, ⟨m0, X, env, r, Same.refl _, i0⟩, fun m σ2 H2 ⟨X2, env2, r2, s2, i2⟩ => ?_⟩
  have l2 := l.step s2
  refine hc X2 env2 σ2 H2 _ _ _ r2 (turn m env2 i2) (fun k H3 f3 h3 => ?_) (l2.xok r2)
  have r3 := r2.step f3
  have s13 : Same (vis H X) (vis H3 X2) := s2.trans (r2.vs f3)
  cases k with
  | false => rw [if_neg (by decide)] at h3 ⊢; exact l.nx X2 env2 σ2 H3 r3 s13 h3
  | true =>
    rw [if_pos rfl] at h3 ⊢
    refine ⟨fun σ' H' => ∃ m', m' < m ∧ W m' σ' H', fun σ' H' h => h, ?_⟩
    exact hb X2 env2 σ2 H3 _ { d with nx := fun e => ∃ m', m' < m ∧ I m' e, ct := fun e => ∃ m', m' < m ∧ I m' e, bk := d.nx } r3 ⟨fun X4 env4 σ4 H4 r4 s4 ⟨m', a, h4⟩ => ⟨m', a, X4, env4, r4, s13.trans s4, h4⟩, fun X4 env4 σ4 H4 v z r4 s4 a h4 => l.rt X4 env4 σ4 H4 v z r4 (s13.trans s4) a h4,
      fun X4 env4 σ4 H4 r4 s4 h4 => l.nx X4 env4 σ4 H4 r4 (s13.trans s4) h4, fun X4 env4 σ4 H4 r4 s4 ⟨m', a, h4⟩ => ⟨m', a, X4, env4, r4, s13.trans s4, h4⟩, fun X4 env4 σ4 H4 z cls dx r4 s4 a h4 => l.xc X4 env4 σ4 H4 z cls dx r4 (s13.trans s4) a h4⟩ h3
end
end Mine

namespace Mine
open PySem PySem.Spec PyProof.Rows L2
/-! ### raise -/
def sRaise (c : Str) : DSt := fun d env => d.xc env ⟨c, []⟩
def sRaise1 (c f : Str) (e : DX) : DSt := fun d env => e env (fun x => match x.flat with
  | some u => d.xc env ⟨c, [(f, u)]⟩
  | none => False) (d.xc env)
section
variable {C : Bc} {W : WX} {te : TE} {e : DX} {c f : Str}
theorem dst_raise (hW : C.E = WE W) : DS C (fun _ σ H => W (.ref (He.ga C.K c)) none σ H) (sRaise c) := by
  intro X env σ H D d r l h
  have := l.xc X env σ H ⟨c, []⟩ (.ref (He.ga C.K c)) none r (Same.refl _) ⟨rfl, rfl⟩ h
  rw [hW] at this
  exact this
theorem dst_raise1 (hW : C.E = WE W) (he : DE C te e) : DS C (fun _ σ H => tMk1 (He.ga C.K c) f te σ H fun cls d H' => W cls d σ H') (sRaise1 c f e) := by
  intro X env σ H D d r l h
  refine he X env σ H _ _ _ r h (fun x v H1 f1 r1 h1 => ?_) (l.xok r)
  split at h1
  · rename_i u eu
    have ev : v = u := Den.flat r1 eu
    subst ev
    intro dd H' s n hd
    have r2 := r.step f1
    have r3 : Rep C X env σ H' := r2.step (.same s)
    have := l.xc X env σ H' ⟨c, [(f, v)]⟩ (.ref (He.ga C.K c)) (some dd) r3 ((r.vs f1).trans (r2.vs (.same s))) ⟨rfl, dd, rfl, vis_mk (r2.free n) hd⟩ h1
    rw [hW] at this
    exact this
  · exact h1.elim
end
/-! ### try -/
def clr : Sl → Sl
  | .exc _ _ => .no
  | s => s
def bindS (env : List Sl) (o : Option Nat) (x : Xc) : List Sl := match o with
  | none => env.map clr
  | some i => (env.map clr).set i (.exc x.cls x.fs)
def endS (d : DEn) : Option Nat → DEn
  | none => { d with xc := fun _ _ => False }
  | some i => { nx := fun e => d.nx (e.set i .no), rt := d.rt, bk := fun e => d.bk (e.set i .no), ct := fun e => d.ct (e.set i .no), xc := fun _ _ => False }
/-- the clauses; mt: what is an instance of what -/
def dHs (mt : Str → Str → Option Bool) : List (Str × Option Nat × DSt) → DEn → List Sl → Xc → Prop
  | [], d, env, x => d.xc env x
  | (c, o, s) :: r, d, env, x => ∃ b, mt x.cls c = some b ∧ (if b = true then s (endS d o) (bindS env o x) else dHs mt r d env x)
def sTry (mt : Str → Str → Option Bool) (b : DSt) (hs : List (Str × Option Nat × DSt)) : DSt := fun d env => b { d with xc := fun e x => dHs mt hs d e x } env
abbrev Bc.wE (C : Bc) (E : L2.St → XK) : Bc := { C with E := E }
abbrev Bc.wX (C : Bc) (a : Addr) (cls : Value) (d : Option Addr) : Bc := { C with ex := some (a, cls, d) }
inductive HsOk (C : Bc) : List (Value × Option Nat × Suit) → List (Str × Option Nat × DSt) → Prop
  | nil : HsOk C [] []
  | cons {c : Str} {o : Option Nat} {ts : Suit} {s : DSt} {l : List (Value × Option Nat × Suit)} {hs : List (Str × Option Nat × DSt)} (h : ∀ a cls d, DS (C.wX a cls d) (ts a cls d) s) (r : HsOk C l hs) : HsOk C ((.ref (He.ga C.K c), o, ts) :: l) ((c, o, s) :: hs)
section
variable {C : Bc} {X : Addr → Prop} {env : List Sl} {σ : L2.St} {H : Hp}
theorem Rep.inE (r : Rep C X env σ H) (E : L2.St → XK) : Rep (C.wE E) X env σ H := ⟨r.len, r.sup, r.new, r.al, r.frm, r.hands, r.slot, r.inj, r.one⟩
theorem Rep.outE {E : L2.St → XK} (r : Rep (C.wE E) X env σ H) : Rep C X env σ H := ⟨r.len, r.sup, r.new, r.al, r.frm, r.hands, r.slot, r.inj, r.one⟩
theorem Rep.outX {a : Addr} {cls : Value} {d : Option Addr} (hex : C.ex = none) (r : Rep (C.wX a cls d) X env σ H) : Rep C X env σ H := by
  refine ⟨r.len, r.sup, r.new, r.al, r.frm, r.hands, fun i s e => ?_, r.inj, r.one⟩
  obtain ⟨o, e1, q⟩ := r.slot i s e
  refine ⟨o, e1, ?_⟩
  cases s with
  | exc c fs => unfold SlRep; rw [hex]; trivial
  | no => trivial
  | d x => exact q
  | own xs => exact q
  | hand => exact q
  | ins _ _ _ => exact q
theorem Rep.inX (r : Rep C X env σ H) (a : Addr) (cls : Value) (d : Option Addr) : Rep (C.wX a cls d) X (env.map clr) σ H := by
  refine ⟨by rw [List.length_map]; exact r.len, r.sup, r.new, r.al, r.frm, r.hands, fun i s e => ?_, fun i j xs ys n e1 e2 => ?_, r.one.map fun s C ns ds z => by cases s <;> first | exact z | cases z⟩
  · rw [List.getElem?_map, Option.map_eq_some_iff] at e
    obtain ⟨s0, e, rfl⟩ := e
    obtain ⟨o, e1, q⟩ := r.slot i s0 e
    refine ⟨o, e1, ?_⟩
    cases s0 with
    | exc c fs => trivial
    | no => trivial
    | d x => exact q
    | own xs => exact q
    | hand => exact q
    | ins _ _ _ => exact q
  · rw [List.getElem?_map, Option.map_eq_some_iff] at e1 e2
    obtain ⟨s1, e1, q1⟩ := e1
    obtain ⟨s2, e2, q2⟩ := e2
    cases s1 <;> simp [clr] at q1
    cases s2 <;> simp [clr] at q2
    subst q1 q2
    exact r.inj i j _ _ n e1 e2
theorem Rep.excAt {a : Addr} {cls : Value} {d : Option Addr} (r : Rep (C.wX a cls d) X env σ H) (j : Nat) {c : Str} {fs : List (Str × V)} (h : SlRep (C.wX a cls d) X H (.exc c fs) (some (.ref a))) : Rep (C.wX a cls d) X (env.set j (.exc c fs)) (σ.set j (some (.ref a))) H where
  len := by rw [List.length_set, List.length_set, r.len]
  sup := r.sup
  new := r.new
  al := r.al
  frm := r.frm
  hands := r.hands
  slot := fun i s e => by
    rw [List.getElem?_set] at e ⊢
    by_cases c : j = i
    · subst c
      rw [if_pos rfl] at e ⊢
      by_cases hl : j < env.length
      · rw [if_pos hl] at e
        rw [if_pos (r.len ▸ hl)]
        cases e
        exact ⟨_, rfl, h⟩
      · rw [if_neg hl] at e; cases e
    · rw [if_neg c] at e ⊢
      exact r.slot i s e
  inj := fun i k xs ys n e1 e2 => by
    rw [List.getElem?_set] at e1 e2
    have a : j ≠ i := fun c => by
      subst c
      rw [if_pos rfl] at e1
      split at e1 <;> cases e1
    have b : j ≠ k := fun c => by
      subst c
      rw [if_pos rfl] at e2
      split at e2 <;> cases e2
    rw [if_neg a] at e1
    rw [if_neg b] at e2
    rw [List.getElem?_set, List.getElem?_set, if_neg a, if_neg b]
    exact r.inj i k xs ys n e1 e2
  one := r.one.set fun _ _ _ z => by cases z
theorem hs_run {Wout : WX} {D : Ends} {d : DEn} {mt : Str → Str → Option Bool} (hW : C.E = WE Wout) (hex : C.ex = none) (hm : ∀ a b r, mt a b = some r → PySem.W.exmOne C.K (.ref (He.ga C.K a)) (.ref (He.ga C.K b)) = some r) :
    ∀ {l : List (Value × Option Nat × Suit)} {hs : List (Str × Option Nat × DSt)}, HsOk C l hs → ∀ {x : Xc} {cls : Value} {dx : Option Addr}, Rep C X env σ H → Lnk C X H D d → XRep C.K (vis H X) cls dx x → dHs mt hs d env x → wNamed C.K Wout D l cls dx σ H
  | _, _, .nil, x, cls, dx, r, k, xr, h => by
    have := k.xc X env σ H x cls dx r (Same.refl _) xr h
    rw [hW] at this
    exact this
  | _, _, @HsOk.cons _ c o ts s l hs hts rest, x, cls, dx, r, k, xr, ⟨b, hb, h⟩ => by
    obtain ⟨ec, ed⟩ := xr
    refine ⟨b, by rw [ec]; exact hm _ _ _ hb, fun eb a na => ?_, fun eb => ?_⟩
    · rw [if_pos eb] at h
      have rx := r.inX a cls dx
      cases o with
      | none =>
        refine hts a cls dx X _ σ H D (endS d none) rx ⟨fun X' env' σ' H' r' s' h' => k.nx X' env' σ' H' (r'.outX hex) s' h', fun X' env' σ' H' v z r' s' w h' => k.rt X' env' σ' H' v z (r'.outX hex) s' w h',
          fun X' env' σ' H' r' s' h' => k.bk X' env' σ' H' (r'.outX hex) s' h', fun X' env' σ' H' r' s' h' => k.ct X' env' σ' H' (r'.outX hex) s' h', fun _ _ _ _ _ _ _ _ _ _ h' => h'.elim⟩ h
      | some i =>
        have re : Rep (C.wX a cls dx) X (bindS env (some i) x) (σ.set i (some (.ref a))) H := by
          refine rx.excAt i ⟨rfl, ec, ?_⟩
          obtain ⟨xc, xf⟩ := x
          cases xf with
          | nil => exact .inl ⟨rfl, ed⟩
          | cons f fr => obtain ⟨a, e1, e2⟩ := ed; exact .inr ⟨a, e1, e2⟩
        refine hts a cls dx X _ (σ.set i (some (.ref a))) H _ (endS d (some i)) re ⟨fun X' env' σ' H' r' s' h' => k.nx X' _ _ H' ((r'.outX hex).unset i none) s' h', fun X' env' σ' H' v z r' s' w h' => k.rt X' env' σ' H' v z (r'.outX hex) s' w h',
          fun X' env' σ' H' r' s' h' => k.bk X' _ _ H' ((r'.outX hex).unset i none) s' h', fun X' env' σ' H' r' s' h' => k.ct X' _ _ H' ((r'.outX hex).unset i none) s' h', fun _ _ _ _ _ _ _ _ _ _ h' => h'.elim⟩ h
    · rw [if_neg (by rw [eb]; decide)] at h
      exact hs_run hW hex hm rest r k ⟨ec, ed⟩ h
theorem dst_try {Wout : WX} {tb : WX → TS} {l : List (Value × Option Nat × Suit)} {sb : DSt} {hs : List (Str × Option Nat × DSt)} {mt : Str → Str → Option Bool} (hW : C.E = WE Wout) (hex : C.ex = none)
    (hm : ∀ a b r, mt a b = some r → PySem.W.exmOne C.K (.ref (He.ga C.K a)) (.ref (He.ga C.K b)) = some r) (hb : ∀ W, DS (C.wE (WE W)) (tb W) sb) (hh : HsOk C l hs) : DS C (fun D σ H => tb (wNamed C.K Wout D l) D σ H) (sTry mt sb hs) := by
  intro X env σ H D d r k h
  refine hb _ X env σ H D { d with xc := fun e x => dHs mt hs d e x } (r.inE _) ⟨fun X' env' σ' H' r' s' h' => k.nx X' env' σ' H' r'.outE s' h', fun X' env' σ' H' v z r' s' w h' => k.rt X' env' σ' H' v z r'.outE s' w h',
    fun X' env' σ' H' r' s' h' => k.bk X' env' σ' H' r'.outE s' h', fun X' env' σ' H' r' s' h' => k.ct X' env' σ' H' r'.outE s' h', fun X' env' σ' H' x cls dx r' s' w h' => ?_⟩ h
  exact hs_run hW hex hm hh r'.outE (k.step s') w h'
/-! ### the exception in hand -/
def Dt.ofV : V → Dt
  | .non => .non
  | .bl b => .bl b
  | .int i => .int i
  | .str x => .str x
  | v => .raw v
theorem den_ofV {K : PySem.W.Frag} {H : Hp} : ∀ v : V, Den K H v (Dt.ofV v)
  | .non => .non
  | .bl b => .bl b
  | .int i => .int i
  | .str x => .str x
  | .byt b => .raw _
  | .flt b => .raw _
  | .ref b => .raw _
  | .ty b => .raw _
/-- e.f, e of the class c -/
def eXf (i : Nat) (c f : Str) : DX := fun env Q _ => match env[i]? with
  | some (.exc c' fs) => c' = c ∧ ∃ u, fs.lookup f = some u ∧ Q (Dt.ofV u)
  | _ => False
theorem de_xf {i : Nat} {c f : Str} {a : Addr} {cls : Value} {d : Option Addr} : DE (C.wX a cls d) (tXf a cls d (He.ga C.K c) f (tVar i)) (eXf i c f) := by
  intro X env σ H Q Qd Qx r he q x
  unfold eXf at he
  split at he
  · rename_i c' fs e
    obtain ⟨rfl, u, hu, he⟩ := he
    obtain ⟨o, e1, rfl, e2, e3⟩ := r.slot i _ e
    rcases e3 with ⟨rfl, _⟩ | ⟨dd, e4, e5⟩
    · cases hu
    · exact ⟨_, e1, rfl, e2, dd, fs, u, e4, vis_sub _ _ e5, hu, q _ _ H (.refl H) (den_ofV u) he⟩
  · exact he.elim
/-- isinstance(e, C) -/
def eIsX (i : Nat) (tab : Str → Option Bool) : DX := fun env Q _ => match env[i]? with
  | some (.exc c fs) => ∃ b, tab c = some b ∧ Q (.bl b)
  | _ => False
theorem de_isX {i : Nat} {cn : Str} {a : Addr} {cls : Value} {d : Option Addr} {tab : Str → Option Bool} (ht : ∀ c b, tab c = some b → ExcC C.K (He.ga C.K c) ∧ PySem.W.kitOne C.K (.ref (He.ga C.K c)) (.ref (He.ga C.K cn)) = some b) :
    DE (C.wX a cls d) (tCB (rIsX C.K a cls d) (tCons (tVar i) (tCons (tC (.ref (He.ga C.K cn))) tNil))) (eIsX i tab) := by
  intro X env σ H Q Qd Qx r he q x
  unfold eIsX at he
  split at he
  · rename_i c' fs e
    obtain ⟨b, hb, he⟩ := he
    obtain ⟨o, e1, rfl, e2, e3⟩ := r.slot i _ e
    obtain ⟨h1, h2⟩ := ht _ _ hb
    refine ⟨_, e1, He.ga C.K c', _, _, b, rfl, e2, h1, fun u ru => ru, h2, fun dd hd => ?_, q _ _ H (.refl H) (.bl b) he⟩
    rcases e3 with ⟨_, e4⟩ | ⟨d2, e4, e5⟩
    · have e4 : d = none := e4
      rw [e4] at hd; cases hd
    · have e4 : d = some d2 := e4
      rw [e4] at hd; cases hd
      exact ⟨fs, vis_sub _ _ e5⟩
  · exact he.elim
end
/-! ### a def by its data -/
/-- np parameters, N names in all -/
def mkD (np N : Nat) (s : DSt) : DFn := fun args Q E => args.length = np ∧ s ⟨fun _ => Q .non, Q, fun _ => False, fun _ => False, fun _ x => E x⟩ (args ++ List.replicate (N - np) .no)
def mkD0 (np N : Nat) (s : DSt) : DFn := fun args Q E => args.length = np ∧ s ⟨fun _ => Q .non, Q, fun _ => False, fun _ => False, fun _ _ => False⟩ (args ++ List.replicate (N - np) .no)
theorem spD_len {K : PySem.W.Frag} {F : DFn} {np : Nat} (hF : ∀ args Q E, F args Q E → args.length = np) : ∀ vs H Q E, spD K F vs H Q E → vs.length = np := by
  rintro vs H Q E ⟨X, hd, args, Qd, Qx, _, _, sl, h, _⟩
  rw [sl.length]; exact hF _ _ _ h
/-- where a body begins -/
theorem rep_start {K : PySem.W.Frag} {X : Addr → Prop} {hd : Hnd} {H : Hp} {E : L2.St → XK} {vs : List V} {args : List Sl} {N : List Str} (al : ∀ a, X a → ∃ o, H a = some o) (hh : ∀ h c, hd = some (h, c) → X h ∧ HandC H h c) (sl : SlAll K hd X H vs args) :
    Rep ⟨K, H, X, hd, none, E, none⟩ X (args ++ List.replicate (N.length - args.length) .no) (L2.start N vs) H := by
  have hl := sl.length
  have slots : ∀ {vs : List V} {args : List Sl}, SlAll K hd X H vs args → ∀ (i : Nat) (s : Sl), args[i]? = some s → (∃ o, (vs.map some)[i]? = some o ∧ SlRep ⟨K, H, X, hd, none, E, none⟩ X H s o) ∧ ∀ xs, s ≠ .own xs := by
    intro vs args sl
    induction sl with
    | nil => intro i s e; simp at e
    | d a r ih =>
      intro i s e
      cases i with
      | zero => simp at e; subst e; exact ⟨⟨_, rfl, _, rfl, a⟩, fun _ z => by cases z⟩
      | succ i =>
        obtain ⟨⟨o, q⟩, n⟩ := ih i s (by simpa using e)
        exact ⟨⟨o, by simpa using q⟩, n⟩
    | hand a r ih =>
      intro i s e
      cases i with
      | zero => simp at e; subst e; exact ⟨⟨_, rfl, _, _, rfl, a⟩, fun _ z => by cases z⟩
      | succ i =>
        obtain ⟨⟨o, q⟩, n⟩ := ih i s (by simpa using e)
        exact ⟨⟨o, by simpa using q⟩, n⟩
  have slotsI : ∀ {vs : List V} {args : List Sl}, SlAll K hd X H vs args → ∀ (i : Nat) (C0 : Str) (ns : List Str) (ds : List Dt), args[i]? ≠ some (.ins C0 ns ds) := by
    intro vs args sl
    induction sl with
    | nil => intro i C0 ns ds e; simp at e
    | d a r ih =>
      intro i C0 ns ds e
      cases i with
      | zero => simp at e
      | succ i => exact ih i C0 ns ds (by simpa using e)
    | hand a r ih =>
      intro i C0 ns ds e
      cases i with
      | zero => simp at e
      | succ i => exact ih i C0 ns ds (by simpa using e)
  have noins : ∀ (i : Nat) (C0 : Str) (ns : List Str) (ds : List Dt), (args ++ List.replicate (N.length - args.length) Sl.no)[i]? ≠ some (.ins C0 ns ds) := fun i C0 ns ds e => by
    rw [List.getElem?_append] at e
    split at e
    · exact slotsI sl i C0 ns ds e
    · rw [List.getElem?_replicate] at e
      split at e <;> cases e
  have noown : ∀ (i : Nat) (xs : Ow), (args ++ List.replicate (N.length - args.length) Sl.no)[i]? ≠ some (.own xs) := fun i xs e => by
    rw [List.getElem?_append] at e
    split at e
    · exact (slots sl i _ e).2 xs rfl
    · rw [List.getElem?_replicate] at e
      split at e <;> cases e
  refine ⟨?_, fun a z => z, fun a z => .inl z, al, .refl H, fun h c e => ⟨(hh h c e).1, (hh h c e).2, (hh h c e).2⟩, fun i s e => ?_, fun i j xs ys n e1 e2 => absurd e1 (noown i xs), fun i ⟨C0, ns, ds, e⟩ => absurd e (noins i C0 ns ds)⟩
  · unfold L2.start
    rw [List.length_append, List.length_append, List.length_replicate, List.length_replicate, List.length_map, hl]
  · unfold L2.start
    rw [List.getElem?_append] at e ⊢
    rw [List.length_map, hl]
    split at e
    · rename_i c
      rw [if_pos c]
      obtain ⟨⟨o, q⟩, _⟩ := slots sl i s e
      exact ⟨o, q⟩
    · rename_i c
      rw [if_neg c]
      rw [List.getElem?_replicate] at e ⊢
      split at e
      · rename_i c2
        cases e
        rw [if_pos c2]
        exact ⟨_, rfl, trivial⟩
      · cases e
/-- the reading of a whole body -/
theorem body_of {K : PySem.W.Frag} {N : List Str} {np n : Nat} {sb : DSt} {t : TS} {vs : List V} {H : Hp} {Q : VK} {E : XK} (hn : N.length = n) (h : spD K (mkD np n sb) vs H Q E)
    (hb : ∀ X hd, DS ⟨K, H, X, hd, none, fun _ => E, none⟩ t sb) : t { nx := fun _ H' => Q .non H', rt := Q } (L2.start N vs) H := by
  obtain ⟨X, hd, args, Qd, Qx, al, hh, sl, ⟨ha, h⟩, q, x⟩ := h
  have r := rep_start (N := N) (E := fun _ => E) al hh sl
  rw [ha, hn] at r
  refine hb X hd X _ _ H _ _ r ⟨fun X' env σ H' r' s' h' => q _ _ H' r'.frm .non h', fun X' env σ H' v z r' s' w h' => q z v H' r'.frm (w.mono (vis_anti r'.sup)) h', fun _ _ _ _ _ _ (h' : False) => h'.elim, fun _ _ _ _ _ _ (h' : False) => h'.elim, fun X' env σ H' z cls dx r' s' w h' => x z cls dx H' r'.frm (w.mono (vis_anti r'.sup)) h'⟩ h
theorem body_of0 {K : PySem.W.Frag} {N : List Str} {np n : Nat} {sb : DSt} {t : TS} {vs : List V} {H : Hp} {Q : VK} {E : XK} (hn : N.length = n) (h : spD K (mkD0 np n sb) vs H Q E)
    (hb : ∀ X hd, DS ⟨K, H, X, hd, none, fun _ _ _ _ => False, none⟩ t sb) : t { nx := fun _ H' => Q .non H', rt := Q } (L2.start N vs) H := by
  obtain ⟨X, hd, args, Qd, Qx, al, hh, sl, ⟨ha, h⟩, q, x⟩ := h
  have r := rep_start (N := N) (E := fun _ _ _ _ => False) al hh sl
  rw [ha, hn] at r
  refine hb X hd X _ _ H _ _ r ⟨fun X' env σ H' r' s' h' => q _ _ H' r'.frm .non h', fun X' env σ H' v z r' s' w h' => q z v H' r'.frm (w.mono (vis_anti r'.sup)) h', fun _ _ _ _ _ _ (h' : False) => h'.elim, fun _ _ _ _ _ _ (h' : False) => h'.elim, fun _ _ _ _ _ _ _ _ _ _ (h' : False) => h'.elim⟩ h
end Mine

namespace Mine
open PySem PySem.Spec PyProof.Rows L2
/-! ### comprehensions of two clauses -/
def lcIn (f : DGX) (tt : DTX) (te : DX) (env : List Sl) (K : List Dt → Prop) : List Dt → List Dt → Prop
  | [], acc => K acc
  | x :: xs, acc => f x env fun env' => tt env' (fun b => if b = true then te env' (fun y => acc.length < LINE ∧ lcIn f tt te env K xs (acc ++ [y])) (fun _ => False) else lcIn f tt te env K xs acc) fun _ => False
def lcGo2 (f : DGX) (tt : DTX) (src1 : DAX) (f1 : DGX) (tt1 : DTX) (te : DX) (vs1 : List Nat) (env : List Sl) (Q : Dt → Prop) : List Dt → List Dt → Prop
  | [], acc => Q (.lst acc)
  | x :: xs, acc => f x env fun env' => tt env' (fun b => if b = true then src1 env' (fun ds1 => lcIn f1 tt1 te (wipeS env' vs1) (fun acc' => lcGo2 f tt src1 f1 tt1 te vs1 env Q xs acc') ds1 acc) (fun _ => False)
      else lcGo2 f tt src1 f1 tt1 te vs1 env Q xs acc) fun _ => False
def eLc2 (src : DAX) (f : DGX) (tt : DTX) (src1 : DAX) (f1 : DGX) (tt1 : DTX) (te : DX) (vs1 vs : List Nat) : DX := fun env Q E => src env (fun ds => lcGo2 f tt src1 f1 tt1 te vs1 (wipeS env vs) Q ds []) E
section
variable {C : Bc} {X : Addr → Prop} {env : List Sl} {σ : L2.St} {H : Hp}
theorem Rep.updHid {D : Addr} (r : Rep C X env σ H) (xD : X D) (h0 : C.H0 D = none) (no : ∀ (i : Nat) (xs : Ow), env[i]? = some (Sl.own xs) → σ[i]? ≠ some (some (.ref D))) {us0 : List V} (hD : H D = some (.lst us0)) (o : HO) :
    Rep C X env σ (upd H D o) ∧ Same (vis H X) (vis (upd H D o) X) := by
  have sm : Same (vis H X) (vis (upd H D o) X) := fun a u q => by
    obtain ⟨n1, e1⟩ := vis_of q
    exact vis_mk n1 (by rw [upd_ne (fun (z : a = D) => n1 (by rw [z]; exact xD))]; exact e1)
  have fm : Frm C.hd C.H0 (upd H D o) := by
    refine ⟨fun a u q k => ?_, fun h c q x => ?_⟩
    · rw [upd_ne (ne_of_none q h0)]; exact r.frm.1 a u q k
    · have y := r.frm.2 h c q x
      obtain ⟨_, _, _, _, a1, a2, _⟩ := x
      obtain ⟨cells, at_, big, mix, b1, b2, b3⟩ := y
      exact ⟨cells, at_, big, mix, by rw [upd_ne (ne_of_none a1 h0)]; exact b1, by rw [upd_ne (ne_of_none a2 h0)]; exact b2, b3⟩
  refine ⟨⟨r.len, r.sup, r.new, fun a z => ?_, fm, fun h c q => ⟨(r.hands h c q).1, (r.hands h c q).2.1, fm.2 h c q (r.hands h c q).2.1⟩, fun j s q => ?_, r.inj, r.one⟩, sm⟩
  · by_cases c : a = D
    · subst c; exact ⟨_, upd_same⟩
    · obtain ⟨u, q⟩ := r.al a z
      exact ⟨u, by rw [upd_ne c]; exact q⟩
  · obtain ⟨u, e1, w⟩ := r.slot j s q
    refine ⟨u, e1, ?_⟩
    cases s with
    | no => trivial
    | d x => obtain ⟨v, e2, h⟩ := w; exact ⟨v, e2, h.mono sm⟩
    | own ys =>
      obtain ⟨p', us, rfl, y1, y2, y3, y4⟩ := w
      have ne : p' ≠ D := fun z => no j ys q (by rw [e1, z])
      exact ⟨p', us, rfl, y1, y2, by rw [upd_ne ne]; exact y3, y4.mono sm⟩
    | hand => exact w
    | exc c' fs => exact w.exc sm
    | ins C0 ns ds =>
      obtain ⟨p', dx, us, rfl, y1, y2, y3, yl, y4⟩ := w
      have ne : p' ≠ D := fun z => by rw [z, hD] at y3; cases y3
      exact ⟨p', dx, us, rfl, y1, y2, by rw [upd_ne ne]; exact y3, yl, y4.mono sm⟩
theorem own_wiped : ∀ (vs : List Nat) (k : Nat) (xs : Ow), (wipeS env vs)[k]? = some (Sl.own xs) → env[k]? = some (Sl.own xs) ∧ (wipe σ vs)[k]? = σ[k]?
  | [], k, xs, e => ⟨e, rfl⟩
  | v :: vs, k, xs, e => by
    have e : ((wipeS env vs).set v .no)[k]? = some (Sl.own xs) := e
    rw [List.getElem?_set] at e
    have a : v ≠ k := fun c => by
      subst c
      rw [if_pos rfl] at e
      split at e <;> cases e
    rw [if_neg a] at e
    obtain ⟨h1, h2⟩ := own_wiped vs k xs e
    refine ⟨h1, ?_⟩
    show ((wipe σ vs).set v none)[k]? = _
    rw [List.getElem?_set, if_neg a]; exact h2
end
theorem df_lc2 {C : Bc} {wi wi1 : TI} {g g1 : TG} {tt tt1 : TT} {te : TE} {vs vs1 js : List Nat} {src src1 : DAX} {f f1 : DGX} {et et1 : DTX} {ee : DX} (hi : DIg Weak C wi src) (hg : DG C g js f) (ht : DT C tt et)
    (hi1 : DIg Strong C wi1 src1) (hg1 : DG C g1 vs1 f1) (ht1 : DT C tt1 et1) (he : DE C te ee) (hjs : ∀ k ∈ js, k ∈ vs) : DF C (tLc2 wi g tt wi1 g1 tt1 te vs vs1) (eLc2 src f et src1 f1 et1 ee vs1 vs) := by
  intro X env σ H Q Qd Qx rp h q x
  refine hi X env σ H _ _ Qx rp h (fun ds J H1 f1' w h1 => ?_) x
  show ∀ D, H1 D = none → _
  intro D hD
  have rp1 := rp.step f1'
  let go := lcGo2 f et src1 f1 et1 ee vs1 (wipeS env vs) Qd
  let W : Nat → Nat → Hp → Prop := fun i m H2 => m + i = ds.length ∧ Frm C.hd H1 H2 ∧ ∃ acc us, H2 D = some (.lst us) ∧ DenAll C.K (vis H2 fun a => X a ∨ a = D) us acc ∧ go (ds.drop i) acc
  refine ⟨W, ⟨ds.length, rfl, .upd hD, [], [], upd_same, .nil, h1⟩, fun i m H2 ⟨hm, f2, acc, us, hD2, a2, hgo⟩ => ?_⟩
  have rpY : Rep C (fun a => X a ∨ a = D) env σ H2 := rp1.hide hD f2 ⟨_, hD2⟩
  have rpW := rpY.wiped vs
  have sW : Weak C X H1 (fun a => X a ∨ a = D) H2 := ⟨f2, rp1.hX, fun a z => z.imp id fun (e : a = D) => by rw [e]; exact hD, rpY.al⟩
  have hw := w _ i H2 sW
  have nh : ∀ h c, C.hd = some (h, c) → D ≠ h := fun h c e z => by
    obtain ⟨_, _, _, _, q, _⟩ := (rp1.hands h c e).2.2
    rw [z, q] at hD; cases hD
  have h0D : C.H0 D = none := rp1.h0 hD
  have noD : ∀ (i : Nat) (xs : Ow), (wipeS env vs)[i]? = some (Sl.own xs) → (wipe σ vs)[i]? ≠ some (some (.ref D)) := fun i xs e z => by
    obtain ⟨e1, e2⟩ := own_wiped (σ := σ) vs i xs e
    rw [e2] at z
    obtain ⟨p, vs', es, x1, x2, y1, y2⟩ := rp1.ownAtO e1
    rw [es] at z
    injection z with z; injection z with z; injection z with z
    rw [z, hD] at y1; cases y1
  by_cases c : i < ds.length
  · obtain ⟨g1', g2⟩ := hw.1 c
    refine .inr ⟨g1', W (i + 1) (m - 1), fun H' hW => ⟨m - 1, by omega, hW⟩, fun y H3 hy => ?_⟩
    obtain ⟨s3, d, hd, den⟩ := g2 y H3 hy
    have ed : ds.drop i = d :: ds.drop (i + 1) := by
      rw [List.drop_eq_getElem_cons c]
      congr 1
      rw [List.getElem?_eq_getElem c] at hd
      exact Option.some.inj hd
    rw [ed] at hgo
    have step : ∀ H5, Frm C.hd H3 H5 → Frm C.hd H1 H5 ∧ H5 D = some (.lst us) ∧ DenAll C.K (vis H5 fun a => X a ∨ a = D) us acc := fun H5 f5 => by
      have f25 : Frm C.hd H2 H5 := (Frm.same s3).trans f5
      exact ⟨f2.trans f25, f25.1 D _ hD2 nh, a2.mono (rpY.vs f25)⟩
    refine hg _ _ _ H3 y d _ _ (rpW.step (.same s3)) den hgo fun env' σ' rp' he' hl hk ho => ⟨wipe_of hl fun k nk => hk k fun z => nk (hjs k z), ?_⟩
    have noD' : ∀ (i : Nat) (xs : Ow), env'[i]? = some (Sl.own xs) → σ'[i]? ≠ some (some (.ref D)) := fun i xs e => by
      obtain ⟨e1, e2⟩ := ho i xs e
      rw [e2]; exact noD i xs e1
    refine ht _ env' σ' H3 _ _ _ rp' he' (fun b H4 f4 hb => ?_) xok_no
    cases b with
    | false =>
      rw [if_neg (by decide)] at hb ⊢
      obtain ⟨k1, k2, k3⟩ := step H4 f4
      exact ⟨by omega, k1, acc, us, k2, k3, hb⟩
    | true =>
      rw [if_pos rfl] at hb ⊢
      refine hi1 _ env' σ' H4 _ _ _ (rp'.step f4) hb (fun ds1 J1 H5 f5 w1 hb5 => ?_) xok_no
      obtain ⟨k1, k2, k3⟩ := step H5 (f4.trans f5)
      have rp5 := (rp'.step f4).step f5
      let W1 : Nat → Nat → Hp → Prop := fun j k H6 => k + j = ds1.length ∧ Rep C (fun a => X a ∨ a = D) env' σ' H6 ∧ Same (vis H5 fun a => X a ∨ a = D) (vis H6 fun a => X a ∨ a = D) ∧ Frm C.hd H1 H6 ∧
        ∃ acc us, H6 D = some (.lst us) ∧ DenAll C.K (vis H6 fun a => X a ∨ a = D) us acc ∧ lcIn f1 et1 ee (wipeS env' vs1) (fun acc' => go (ds.drop (i + 1)) acc') (ds1.drop j) acc
      refine ⟨W1, ⟨ds1.length, rfl, rp5, Same.refl _, k1, acc, us, k2, k3, hb5⟩, fun j k H6 ⟨hk', rp6, sm6, f6, acc, us, hD6, a6, hin⟩ => ?_⟩
      have hw1 := w1 _ j H6 ⟨sm6, rp6.al⟩
      by_cases c1 : j < ds1.length
      · obtain ⟨q1, q2⟩ := hw1.1 c1
        refine .inr ⟨q1, W1 (j + 1) (k - 1), fun H' hW => ⟨k - 1, by omega, hW⟩, fun y1 H7 hy1 => ?_⟩
        obtain ⟨s7, d1, hd1, den1⟩ := q2 y1 H7 hy1
        have ed1 : ds1.drop j = d1 :: ds1.drop (j + 1) := by
          rw [List.drop_eq_getElem_cons c1]
          congr 1
          rw [List.getElem?_eq_getElem c1] at hd1
          exact Option.some.inj hd1
        rw [ed1] at hin
        have rp7 := rp6.step (.same s7)
        have rpV := rp7.wiped vs1
        refine hg1 _ _ _ H7 y1 d1 _ _ rpV den1 hin fun env2 σ2 rp2 he2 hl2 hk2 ho2 => ⟨wipe_of hl2 hk2, ?_⟩
        have step1 : ∀ H8, Frm C.hd H7 H8 → Frm C.hd H1 H8 ∧ H8 D = some (.lst us) ∧ DenAll C.K (vis H8 fun a => X a ∨ a = D) us acc ∧ Rep C (fun a => X a ∨ a = D) env' σ' H8 ∧ Same (vis H5 fun a => X a ∨ a = D) (vis H8 fun a => X a ∨ a = D) := fun H8 f8 => by
          have f68 : Frm C.hd H6 H8 := (Frm.same s7).trans f8
          exact ⟨f6.trans f68, f68.1 D _ hD6 nh, a6.mono (rp6.vs f68), rp6.step f68, sm6.trans (rp6.vs f68)⟩
        refine ht1 _ env2 σ2 H7 _ _ _ rp2 he2 (fun b1 H8 f8 hb8 => ?_) xok_no
        cases b1 with
        | false =>
          rw [if_neg (by decide)] at hb8 ⊢
          obtain ⟨l1, l2, l3, l4, l5⟩ := step1 H8 f8
          exact ⟨by omega, l4, l5, l1, acc, us, l2, l3, hb8⟩
        | true =>
          rw [if_pos rfl] at hb8 ⊢
          refine he _ env2 σ2 H8 _ _ _ (rp2.step f8) hb8 (fun y2 v2 H9 f9 den9 hb9 => ?_) xok_no
          obtain ⟨l1, l2, l3, l4, l5⟩ := step1 H9 (f8.trans f9)
          obtain ⟨r10, sv⟩ := l4.updHid (D := D) (.inr rfl) h0D noD' l2 (.lst (us ++ [v2]))
          have den9 : Den C.K (vis H9 fun a => X a ∨ a = D) v2 y2 := den9
          refine ⟨us, l2, by rw [l3.length, sizeLine_eq]; exact hb9.1, by omega, r10, l5.trans sv, frm_put rp1 hD l1, acc ++ [y2], us ++ [v2], upd_same, (l3.snoc den9).mono sv, hb9.2⟩
      · have e : ds1.drop j = [] := List.drop_eq_nil_of_le (by omega)
        rw [e] at hin
        exact .inl ⟨hw1.2 (by omega), by omega, f6, acc, us, hD6, a6, hin⟩
  · have e : ds.drop i = [] := List.drop_eq_nil_of_le (by omega)
    rw [e] at hgo
    exact .inl ⟨hw.2 (by omega), q _ _ H2 (f1'.trans f2) ⟨D, us, acc, rfl, rfl, f1'.free (fun h c e => (rp.hands h c e).2.2) hD, hD2, a2⟩ hgo⟩
/-! ### not, by truth -/
def eNotVT (a : DX) : DX := fun env Q E => a env (fun d => dTru d fun c => Q (.bl (!c))) E
def tNotVT (K : PySem.W.Frag) (ta : TE) : TE := L2.tNotT K ta
theorem pe_notVT {X : Cx} {K : PySem.W.Frag} {a : Expr} {ta : TE} {pos : Pos} (e : X.K = K) (ha : PE X a ta) : PE X (.UnaryOp .Not a pos) (tNotVT K ta) := e ▸ pe_notT ha
theorem de_notVT {C : Bc} {ta : TE} {ea : DX} (h : DB C ta ea) : DE C (tNotVT C.K ta) (eNotVT ea) := by
  intro X env σ H Q Qd Qx rp he q x
  refine h X env σ H _ _ Qx rp he (fun d v H1 f1 r1 he1 => ?_) x
  obtain ⟨k, h1, h2⟩ := r1.tru (rp.step f1) he1
  exact ⟨k, h1, q _ _ _ f1 (.bl _) h2⟩
end Mine

namespace Mine
open PySem PySem.Spec PyProof.Rows L2
/-! ### the hand -/
/-- the hand at h: its cells at c -/
def HandAt (H : Hp) (h : Addr) : Prop := ∃ (c : Addr) (cells : List Int) (at_ : Nat) (big mix : Int), H h = some (.lst [.ref c, .int at_, .int big, .int mix]) ∧ H c = some (.lst (cells.map V.int)) ∧
  (∀ z ∈ cells, 0 ≤ z) ∧ at_ ≤ cells.length ∧ cells.length ≤ 63 ∧ 0 ≤ big ∧ 0 ≤ mix ∧ mix < 2147483563
def sp_hand (K : PySem.W.Frag) : Sp := fun vs H Q _ => ∃ (a : Addr) (ns : List Int), vs = [.ref a] ∧ SqL K H a (ns.map V.int) ∧ ns.length ≤ 63 ∧ ∀ H' h, Same H H' → H h = none → HandAt H' h → Q (.ref h) H'
def i_hand (H : Hp) (a c : Addr) (i : Nat) (σ : L2.St) (H' : Hp) : Prop := ∃ (tot : Int) (v3 : Option V) (cells : List Int), σ = [some (.ref a), some (.int tot), some (.ref c), v3] ∧ cells.length = i ∧ H' c = some (.lst (cells.map V.int)) ∧
  (∀ z ∈ cells, 0 ≤ z) ∧ Same H H' ∧ 0 ≤ tot ∧ tot < 2147483563
def mixedN (n t : Int) : Int :=
  ((((n * 39373 + t * 6151 + 50021) % 2147483399 * ((n * 39373 + t * 6151 + 50021) % 2147483399) + t * 81071 + (n * 39373 + t * 6151 + 50021) % 2147483399 / 137) % 2147483629 * 62089 +
    (n * 39373 + t * 6151 + 50021) % 2147483399 / 11) % 2147483587) / 64
theorem mixedN_pos (n t : Int) : 0 ≤ mixedN n t := Int.ediv_nonneg (Int.emod_nonneg _ (by decide)) (by decide)
def sp_mixed : Sp := fun vs H Q _ => ∃ n t : Int, vs = [.int n, .int t] ∧ (-(2 ^ 40) < n ∧ n < 2 ^ 40 ∧ -(2 ^ 40) < t ∧ t < 2 ^ 40) ∧ ∀ r, 0 ≤ r → Q (.int r) H
/-- what a drawing may make of the hand -/
def HandN (H : Hp) (h : Addr) (o : HO) : Prop := HandAt (upd H h o) h ∧ ∃ c r r', H h = some (.lst (V.ref c :: r)) ∧ o = .lst (V.ref c :: r')
def sp_take : Sp := fun vs H Q _ => ∃ (h : Addr) (m : Int), vs = [.ref h, .int m] ∧ HandAt H h ∧ 0 < m ∧ m < 1073741824 ∧ ∀ r o, 0 ≤ r → r < m → HandN H h o → Q (.int r) (upd H h o)
/-- a drawing, by data: any number below m -/
def F_law_take : DFn := fun args Q _ => match args with
  | [.hand, .d (.int m)] => (0 < m ∧ m < 1073741824) ∧ ∀ r : Nat, (r : Int) < m → Q (.int r)
  | _ => False
theorem take_spD {K : PySem.W.Frag} : ∀ vs H Q E, spD K F_law_take vs H Q E → sp_take vs H Q E := by
  rintro vs H Q E ⟨X, hd, args, Qd, Qx, al, hh, sl, hF, q, _⟩
  unfold F_law_take at hF
  split at hF
  · obtain ⟨⟨h1, h2⟩, hr⟩ := hF
    cases sl with
    | @hand h c vs ss e sl =>
      cases sl with
      | d den sl =>
        cases sl
        have ev := den.flat rfl
        subst ev
        obtain ⟨xh, cells, at_, big, mix, hH, hC, r⟩ := hh h c e
        refine ⟨h, _, rfl, ⟨c, cells, at_, big, mix, hH, hC, r⟩, h1, h2, fun z o z1 z2 hn => ?_⟩
        obtain ⟨⟨c2, cells2, at2, big2, mix2, hH2, hC2, rr⟩, c3, r1, r2, e1, rfl⟩ := hn
        rw [hH] at e1
        rw [upd_same] at hH2
        cases e1
        cases hH2
        have := q (.int z) (.int z) (upd H h (.lst [V.ref c, .int at2, .int big2, .int mix2])) ⟨fun b u eb nb => by rw [upd_ne (nb h c e)]; exact eb, fun h' c' e' _ => by
          rw [e] at e'
          cases e'
          exact ⟨cells2, at2, big2, mix2, upd_same, hC2, rr⟩⟩ (.int _) (by have := hr z.toNat (by omega); rwa [Int.toNat_of_nonneg z1] at this)
        exact this
  · exact hF.elim
/-! ### the law itself -/
def sp_law (K : PySem.W.Frag) : Sp := fun vs H Q _ => ∃ (a : Addr) (ns : List Int), vs = [.ref a] ∧ SqL K H a (ns.map V.int) ∧ ns.length ≤ 63 ∧ ∀ H', Q (.bl true) H'
/-- what is left of a law: its text behind the hand's making gives True, whatever is drawn -/
def LawGoal (n : Nat) (s : DSt) : Prop := s ⟨fun _ => False, fun d => d = .bl true, fun _ => False, fun _ => False, fun _ _ => False⟩ (.no :: .hand :: List.replicate n .no)
theorem body_law {K : PySem.W.Frag} {N : List Str} {n : Nat} {sb : DSt} {t : TS} {vs : List V} {H : Hp} {Q : VK} {E : XK} (hn : N.length = n + 2) (h : sp_law K vs H Q E) (g : LawGoal n sb)
    (hb : ∀ H X hd, DS ⟨K, H, X, hd, none, fun _ _ _ _ => False, none⟩ t sb) : tSeq (tAsg (tCall (sp_hand K) [] E0 (tCons (tVar 0) tNil)) (gName 1)) t { nx := fun _ H' => Q .non H', rt := Q } (L2.start N vs) H := by
  obtain ⟨a, ns, rfl, hS, hl, q⟩ := h
  refine ⟨.ref a, rfl, a, ns, rfl, hS, hl, fun H' h s hn' hA => ?_⟩
  obtain ⟨c, cells, at_, big, mix, hH, hC, r⟩ := hA
  have hc : HandC H' h c := ⟨cells, at_, big, mix, hH, hC, r⟩
  have es : (L2.start N [V.ref a]).set 1 (some (.ref h)) = some (.ref a) :: some (.ref h) :: List.replicate n none := by
    unfold L2.start
    have e : N.length - 1 = n + 1 := by omega
    show (some (V.ref a) :: List.replicate (N.length - 1) none).set 1 _ = _
    rw [e]
    rfl
  have rp : Rep ⟨K, H', fun z => z = h, some (h, c), none, fun _ _ _ _ => False, none⟩ (fun z => z = h) (.no :: .hand :: List.replicate n .no) ((L2.start N [V.ref a]).set 1 (some (.ref h))) H' := by
    rw [es]
    refine ⟨by simp, fun z e => e, fun z e => .inl e, fun z e => ⟨.lst [V.ref c, V.int ↑at_, V.int big, V.int mix], by rw [show z = h from e]; exact hH⟩, .refl _, fun h' c' e => ?_, fun i sl e => ?_, fun i j xs ys _ e1 _ => ?_, fun i ⟨C0, ns0, ds0, e1⟩ => ?_⟩
    · cases e; exact ⟨rfl, hc, hc⟩
    · match i, e with
      | 0, e => cases e; exact ⟨_, rfl, trivial⟩
      | 1, e => cases e; exact ⟨_, rfl, h, c, rfl, rfl⟩
      | i + 2, e =>
        have e : (List.replicate n Sl.no)[i]? = some sl := e
        rw [List.getElem?_replicate] at e
        split at e
        · rename_i hi
          cases e
          exact ⟨none, by show (List.replicate n none)[i]? = _; rw [List.getElem?_replicate, if_pos hi], trivial⟩
        · cases e
    · match i, e1 with
      | 0, e1 => cases e1
      | 1, e1 => cases e1
      | i + 2, e1 =>
        have e1 : (List.replicate n Sl.no)[i]? = some (.own xs) := e1
        rw [List.getElem?_replicate] at e1
        split at e1 <;> cases e1
    · match i, e1 with
      | 0, e1 => rfl
      | 1, e1 => cases e1
      | i + 2, e1 =>
        have e1 : (List.replicate n Sl.no)[i]? = some (.ins C0 ns0 ds0) := e1
        rw [List.getElem?_replicate] at e1
        split at e1 <;> cases e1
  refine hb _ _ _ _ _ _ _ { nx := fun _ H' => Q .non H', rt := Q } _ rp ⟨fun _ _ _ _ _ _ (h' : False) => h'.elim, fun X' env σ H2 v z r' s' w h' => ?_, fun _ _ _ _ _ _ (h' : False) => h'.elim, fun _ _ _ _ _ _ (h' : False) => h'.elim, fun _ _ _ _ _ _ _ _ _ _ (h' : False) => h'.elim⟩ g
  have h' : z = .bl true := h'
  subst h'
  have ev := w.flat rfl
  subst ev
  exact q H2
/-! ### monotone, for errors' fields -/
theorem mon_call {K : PySem.W.Frag} {F : DFn} {dvs : List V} {E : XK} {t : TA} (m : ∀ σ H (Q Q' : List V → Hp → Prop), (∀ v H', Q v H' → Q' v H') → t σ H Q → t σ H Q') : Mon (tCall (spD K F) dvs E t) := fun σ H Q Q' h q =>
  m σ H _ _ (fun vs H1 ⟨X, hd, args, Qd, Qx, a, b, c, d, e, f⟩ => ⟨X, hd, args, Qd, Qx, a, b, c, d, fun d v H' fr de qd => h _ _ (e d v H' fr de qd), f⟩) q
end Mine

namespace Mine
open PySem PySem.Spec PyProof.Rows L2
/-! ### zip of two lists, two tuples, a tuple and a list -/
def iZipU (K : PySem.W.Frag) (ta : TA) : TI := fun σ H R => ta σ H fun vs H1 => ∃ a b xs ys, vs = [.ref a, .ref b] ∧ ((SqL K H1 a xs ∧ SqL K H1 b ys ∧ R (Itz K a b) H1) ∨ ((SqT K H1 a xs ∧ SqL K H1 b ys ∧ R (ItzM K a b) H1) ∨ (SqT K H1 a xs ∧ SqT K H1 b ys ∧ R (RZ.ItzT K a b) H1)))
theorem pi_zipU {X : Cx} {e e2 : Expr} {ta : TA} {p pos tpos : Pos} {elts : List Expr} {kk : Nat} (hg : Gl X "zip") (hm : X.mg "zip" = none) (ha : PA X [e, e2] ta)
    (hs : starEach [e, e2] X.env = (false, eval e X.env) :: starEach [e2] X.env := by rfl) (hpl : (backTo pos (starEach [e2] X.env)).any (·.1) = false := by rfl) :
    PI X (.Tuple elts kk tpos) (.Call (.Name "zip" p) [e, e2] [] pos) (iZipU X.K ta) := by
  refine ⟨fun pins s σ H R I h => ?_⟩
  refine Call_ (ld_blt I hg hm PyProof.Rows.boot_zip (PyProof.Rows.callWith_type1 (thn (ha.run pos pins s σ H _ I h) fun us s1 ⟨vs, H1, I1, r1, q1⟩ => ?_) hs hpl))
  obtain ⟨a, b, xs, ys, rfl, q1⟩ := q1
  cases r1 with
  | cons r rr =>
    cases rr with
    | cons r' rr =>
      cases rr
      cases r
      cases r'
      have fresh : ∀ c, c ∈ [s1.heap.objs.size + 4, s1.heap.objs.size + 2, s1.heap.objs.size + 3, s1.heap.objs.size, s1.heap.objs.size + 1] → FpOk X pins H1 c := fun c hc => by
        have le : s1.heap.objs.size ≤ c := by
          have e' : c = s1.heap.objs.size + 4 ∨ c = s1.heap.objs.size + 2 ∨ c = s1.heap.objs.size + 3 ∨ c = s1.heap.objs.size ∨ c = s1.heap.objs.size + 1 := by simpa using hc
          have : ∀ k : Nat, s1.heap.objs.size ≤ s1.heap.objs.size + k := fun k => Nat.le_add_right _ _
          rcases e' with rfl | rfl | rfl | rfl | rfl
          · exact this 4
          · exact this 2
          · exact this 3
          · exact Nat.le_refl _
          · exact this 1
        exact I1.fpOk le (I1.hok.fresh le)
      rcases q1 with ⟨hqx, hqy, q⟩ | ⟨hqx, hqy, q⟩ | ⟨hqx, hqy, q⟩
      · obtain ⟨its, rv, p1, _⟩ := I1.list hqx
        obtain ⟨its2, rv2, p2, _⟩ := I1.list hqy
        have la : a < s1.heap.objs.size := p1.lt
        have lb : b < s1.heap.objs.size := p2.lt
        refine call_zip_2 p1.isList p2.isList fun h' hz hTI hTO h1 h2 hsz hk => wpAny_pyIter_zip hz ?_
        exact ⟨s1.heap.objs.size + 4, [s1.heap.objs.size + 4, s1.heap.objs.size + 2, s1.heap.objs.size + 3, s1.heap.objs.size, s1.heap.objs.size + 1], _, _, H1, rfl, I1.kept (t' := s1.toks) hk, turn_zip (PySem.W.ktu_apart s1.heap.objs.size a b la lb), ⟨hz, hTI, ⟨_, _, hTO⟩, h1, h2⟩, fresh, q⟩
      · obtain ⟨its, rv, p1, _⟩ := I1.tuple hqx
        have lta : a < s1.heap.objs.size := by obtain ⟨o, ho, _⟩ := id p1; exact Heap.lt_size ho
        obtain ⟨its2, rv2, p2, _⟩ := I1.list hqy
        have ltb := p2.lt
        refine zip_begins2 (begins_tuple a its.toArray) (begins_list b its2.toArray) p1 p2.isList fun h' hz hTI hTO g1 g2 hsz hk => wpAny_pyIter_zip hz ?_
        have S := zip_sep2 (N := s1.heap.objs.size) (fp1 := [a]) (fp2 := [b]) (fun c hc => by rw [List.mem_singleton.mp hc]; exact lta) (fun c hc => by rw [List.mem_singleton.mp hc]; exact ltb)
        exact ⟨s1.heap.objs.size + 4, [s1.heap.objs.size + 4, s1.heap.objs.size + 2, s1.heap.objs.size + 3, s1.heap.objs.size, s1.heap.objs.size + 1], _, _, H1, rfl, I1.kept (t' := s1.toks) hk,
          turn_zipM S (Nat.ne_of_lt lta) (Nat.ne_of_lt (Nat.lt_succ_of_lt ltb)), ⟨hz, hTI, ⟨_, _, hTO⟩, ⟨_, g1, rfl, rfl⟩, ⟨_, g2, rfl, rfl⟩⟩, fresh, q⟩
      · obtain ⟨its, rv, p1, _⟩ := I1.tuple hqx
        have lta : a < s1.heap.objs.size := by obtain ⟨o, ho, _⟩ := id p1; exact Heap.lt_size ho
        obtain ⟨its2, rv2, p2, _⟩ := I1.tuple hqy
        have ltb : b < s1.heap.objs.size := by obtain ⟨o, ho, _⟩ := id p2; exact Heap.lt_size ho
        refine zip_begins2 (begins_tuple a its.toArray) (begins_tuple b its2.toArray) p1 p2 fun h' hz hTI hTO g1 g2 hsz hk => wpAny_pyIter_zip hz ?_
        exact ⟨s1.heap.objs.size + 4, [s1.heap.objs.size + 4, s1.heap.objs.size + 2, s1.heap.objs.size + 3, s1.heap.objs.size, s1.heap.objs.size + 1], _, _, H1, rfl, I1.kept (t' := s1.toks) hk,
          RZ.turn_zipT (PySem.W.ktu_apart s1.heap.objs.size a b lta ltb), ⟨hz, hTI, ⟨_, _, hTO⟩, ⟨_, g1, rfl, rfl⟩, ⟨_, g2, rfl, rfl⟩⟩, fresh, q⟩
/-- by data; two lists, two tuples, a tuple and a list -/
def eZip (a b : DX) : DAX := fun env Q E => a env (fun d1 => b env (fun d2 => match d1, d2 with
  | .lst xs, .lst ys => Q (List.zipWith (fun x y => .tup [x, y]) xs ys)
  | .tup xs, .lst ys => xs.length = ys.length ∧ Q (List.zipWith (fun x y => .tup [x, y]) xs ys)
  | .tup xs, .tup ys => xs.length = ys.length ∧ Q (List.zipWith (fun x y => .tup [x, y]) xs ys)
  | _, _ => False) E) E
section
variable {C : Bc}
theorem walk_pair2 {S : SS} {X : Addr → Prop} {H1 : Hp} {J : It} {n : Nat} {G : Hp → Prop} {xs ys : List V} {ds es : List Dt} (hal : ∀ {Y : Addr → Prop} {H : Hp}, S C X H1 Y H → ∀ a, Y a → ∃ o, H a = some o) (hn : (List.zipWith (fun x y => Dt.tup [x, y]) ds es).length = n)
    (w : Walk J n G (YPair (fun i => xs[i]?) (fun i => ys[i]?))) (hs : ∀ i H, i = n → G H → J.stop i H) (k : ∀ Y H, S C X H1 Y H → G H ∧ DenAll C.K (vis H Y) xs ds ∧ DenAll C.K (vis H Y) ys es) :
    WalkD S C X H1 J (List.zipWith (fun x y => Dt.tup [x, y]) ds es) := by
  intro Y i H s
  obtain ⟨g, a, b⟩ := k Y H s
  refine ⟨fun hi => ⟨w.goes i H (hn ▸ hi) g, fun x H' hy => ?_⟩, fun hi => hs i H (by omega) g⟩
  obtain ⟨T, v, y, rfl, hT, rfl, ev, ey⟩ := w.yields i H x H' (hn ▸ hi) g hy
  dsimp only at ev ey
  obtain ⟨d, e, den⟩ := a.getV ev
  obtain ⟨d2, e2, den2⟩ := b.getV ey
  have nT : ¬ Y T := fun y => by
    obtain ⟨o, q⟩ := hal s T y
    rw [hT] at q; cases q
  have mv : Same (vis H Y) (vis (upd H T (.tup [v, y])) Y) := fun c o e => by
    obtain ⟨n1, e1⟩ := vis_of e
    exact vis_mk n1 (same_upd hT _ _ e1)
  refine ⟨same_upd hT, .tup [d, d2], by rw [List.getElem?_zipWith, e, e2], .tup (vis_mk nT upd_same) (.cons (den.mono mv) (.cons (den2.mono mv) .nil))⟩
theorem di_zip {R R2 : RR} {S : SS} [Src R S] [Src R2 S] {t1 t2 : TE} {a b : DX} (h1 : DEg R C t1 a) (h2 : DEg R2 C t2 b) (fr : ∀ {X : Addr → Prop} {env : List Sl} {σ : L2.St} {H0 H H' : Hp} {v : V} {d : Dt}, Rep C X env σ H → Frm C.hd H H' → R C X H0 H v d → R C X H0 H' v d) :
    DIg S C (iZipU C.K (tCons t1 (tCons t2 tNil))) (eZip a b) := by
  intro X env σ H Rr Qd Qx rp he q x
  refine h1 X env σ H _ _ Qx rp he (fun d1 v1 H1 f1 r1 he1 => ?_) x
  refine h2 X env σ H1 _ _ Qx (rp.step f1) he1 (fun d2 v2 H2 f2 r2 he2 => ?_) (x.step f1)
  have r1 := fr (rp.step f1) f2 r1
  have mn : ∀ {α β γ : Type} (f : α → β → γ) (xs : List α) (ys : List β), (List.zipWith f xs ys).length = min xs.length ys.length := fun f xs ys => by simp
  show ∃ a b xs ys, [v1, v2] = [.ref a, .ref b] ∧ _
  split at he2
  · obtain ⟨p, vs, rfl, h3, k⟩ := Src.lst (S := S) r1
    obtain ⟨p2, vs2, rfl, h4, k2⟩ := Src.lst (S := S) r2
    refine ⟨p, p2, vs, vs2, rfl, .inl ⟨.inl (.inl h3), .inl (.inl h4), q _ _ H2 (f1.trans f2) ?_ he2⟩⟩
    intro Y i H3 s
    have l1 := (k Y H3 s).2.length
    have l2 := (k2 Y H3 s).2.length
    exact walk_pair2 (n := min vs.length vs2.length) (G := fun H => SqL C.K H p vs ∧ SqL C.K H p2 vs2) (fun s => Src.al (R := R) s) (by rw [mn, l1, l2]) (walk_zip rfl) (fun i H hi g => ⟨vs, vs2, g.1, g.2, by omega⟩)
      (fun Y H s => ⟨⟨.inl (.inl (k Y H s).1), .inl (.inl (k2 Y H s).1)⟩, (k Y H s).2, (k2 Y H s).2⟩) Y i H3 s
  · obtain ⟨hl, he2⟩ := he2
    obtain ⟨p, vs, rfl, h3, k⟩ := Src.tup (S := S) r1
    obtain ⟨p2, vs2, rfl, h4, k2⟩ := Src.lst (S := S) r2
    refine ⟨p, p2, vs, vs2, rfl, .inr (.inl ⟨.inl (.inl h3), .inl (.inl h4), q _ _ H2 (f1.trans f2) ?_ he2⟩)⟩
    intro Y i H3 s
    have l1 := (k Y H3 s).2.length
    have l2 := (k2 Y H3 s).2.length
    exact walk_pair2 (n := vs.length) (G := fun H => SqT C.K H p vs ∧ SqL C.K H p2 vs2) (fun s => Src.al (R := R) s) (by rw [mn, l1, hl]; omega) (walk_zipM (by omega)) (fun i H hi g => ⟨vs, vs2, g.1, g.2, by first | exact .inl (by omega) | exact ⟨.inl (by omega), by omega, by omega⟩ | omega⟩)
      (fun Y H s => ⟨⟨.inl (.inl (k Y H s).1), .inl (.inl (k2 Y H s).1)⟩, (k Y H s).2, (k2 Y H s).2⟩) Y i H3 s
  · obtain ⟨hl, he2⟩ := he2
    obtain ⟨p, vs, rfl, h3, k⟩ := Src.tup (S := S) r1
    obtain ⟨p2, vs2, rfl, h4, k2⟩ := Src.tup (S := S) r2
    refine ⟨p, p2, vs, vs2, rfl, .inr (.inr ⟨.inl (.inl h3), .inl (.inl h4), q _ _ H2 (f1.trans f2) ?_ he2⟩)⟩
    intro Y i H3 s
    have l1 := (k Y H3 s).2.length
    have l2 := (k2 Y H3 s).2.length
    exact walk_pair2 (n := vs.length) (G := fun H => SqT C.K H p vs ∧ SqT C.K H p2 vs2) (fun s => Src.al (R := R) s) (by rw [mn, l1, hl]; omega) (walk_zipTT (by omega)) (fun i H hi g => ⟨vs, vs2, g.1, g.2, by first | exact .inl (by omega) | exact ⟨.inl (by omega), by omega, by omega⟩ | omega⟩)
      (fun Y H s => ⟨⟨.inl (.inl (k Y H s).1), .inl (.inl (k2 Y H s).1)⟩, (k Y H s).2, (k2 Y H s).2⟩) Y i H3 s
  · exact he2.elim
end
end Mine
namespace Mine
open PySem PySem.Spec PyProof.Rows L2
theorem ix_U {X : Cx} {K : PySem.W.Frag} (e : X.K = K) : IxR X (rIx K) := e ▸ ix_seq
end Mine
namespace Mine
open PySem PySem.Spec PyProof.Rows L2
theorem op_eqU {X : Cx} {K : PySem.W.Frag} (e : X.K = K) (hu : X.A.units + 64 < cLine) : OpR X (compareOp .Eq) (rEqD K) := e ▸ op_eqD hu
theorem op_neU {X : Cx} {K : PySem.W.Frag} (e : X.K = K) (hu : X.A.units + 64 < cLine) : OpR X (compareOp .NotEq) (rNeD K) := e ▸ op_neD hu
end Mine
namespace Mine
open PySem PySem.Spec PyProof.Rows L2
theorem dst_of {C : Bc} {t : TS} {s s' : DSt} (e : s = s') (h : DS C t s') : DS C t s := e ▸ h
end Mine

namespace L2
open PySem PySem.Spec PyProof.Rows
theorem mine_evalArgs_kw {M : Model} {A : Around} {E : Value → Shared → Prop} {s : Shared} {f : Value} {x : Sem Value} {rest : List (Bool × Sem Value)} {keywords : List (Option Str × Sem Value)} {Q : Args → Shared → Prop}
    (hall : keywords.all (·.1.isSome) = true)
    (h : wpAny M A (spliced ((false, x) :: rest)) (fun vs s₁ => wpAny M A (evalAll (keywords.map (·.2))) (fun kvs s₂ => Q ⟨vs, (keywords.filterMap (·.1)).zip kvs⟩ s₂) E s₁) E s) :
    wpAny M A (evalArgs f true ((false, x) :: rest) keywords) Q E s := by
  unfold evalArgs
  show wpAny M A (spliced ((false, x) :: rest) >>= _) Q E s
  refine wpAny_bind (wpAny_mono h (fun vs s' h' => ?_) fun _ _ x => x)
  refine wpAny_holding ?_
  rw [if_pos hall]
  refine wpAny_bind (wpAny_mono h' (fun kvs s₂ h₂ => ?_) fun _ _ x => x)
  exact wpAny_bind (wpAny_pure (wpAny_pure h₂))
theorem mine_callWith_type_kw {M : Model} {A : Around} {E : Value → Shared → Prop} {s : Shared} {env : Env} {pos : Pos} {T : String} {e : Expr} {rest : List Expr} {kws : List Keyword} {Q : Value → Shared → Prop}
    (h : wpAny M A (spliced (backTo pos (starEach (e :: rest) env))) (fun vs s₁ => wpAny M A (evalAll ((backToKw pos (keywordEach kws env)).map (·.2)))
      (fun kvs s₂ => wpAny M A (call (.type T) vs (((backToKw pos (keywordEach kws env)).filterMap (·.1)).zip kvs)) Q E s₂) E s₁) E s)
    (he : backTo pos (starEach (e :: rest) env) = (false, eval e env) :: backTo pos (starEach rest env) := by rfl)
    (hplain : (backTo pos (starEach (e :: rest) env)).any (·.1) = false := by rfl)
    (hall : (backToKw pos (keywordEach kws env)).all (·.1.isSome) = true := by rfl)
    (hkw : (backToKw pos (keywordEach kws env)).any (·.1.isNone) = false := by rfl) :
    wpAny M A (callWith pos (.type T) [] (backTo pos (starEach (e :: rest) env)) (backToKw pos (keywordEach kws env))) Q E s := by
  unfold callWith
  rw [he] at h ⊢
  refine wpAny_bind (wpAny_holding (mine_evalArgs_kw hall (wpAny_mono h (fun vs s₁ h₁ => wpAny_mono h₁ (fun kvs s₂ h₂ => wpAny_bind (wpAny_standAt ?_)) fun _ _ x => x) fun _ _ x => x)))
  rw [← he]
  simp only [hplain, hkw, Bool.or_false]
  refine wpAny_bind (wpAny_pure ?_)
  exact wpAny_bind (wpAny_mono h₂ (fun r s₂ hr => wpAny_bind (wpAny_holding (wpAny_point (wpAny_pure hr)))) fun _ _ x => x)
end L2
namespace Mine
open PySem PySem.Spec PyProof.Rows L2
/-! ### enumerate(t, start=k), t a tuple -/
def IteTk (K : PySem.W.Frag) (k : Int) (a : Addr) : It :=
  ⟨fun i H => ∃ (xs : List V) (x : V), SqT K H a xs ∧ xs[i]? = some x, fun i H v H' => ∃ T x, v = .ref T ∧ H T = none ∧ H' = upd H T (.tup [.int (k + (i : Nat)), x]) ∧ ∀ xs, SqT K H a xs → xs[i]? = some x, fun i H => ∃ xs : List V, SqT K H a xs ∧ xs.length ≤ i⟩
theorem turn_enumTk {P : Program} {w : World} {K : PySem.W.Frag} {elts : List Expr} {kk : Nat} {tpos : Pos} (k : Int) (a e it : Addr) (ha : a ≠ it) (hae : e ≠ a) :
    Turn P w K (.Tuple elts kk tpos) (IteTk K k a) [e, it] e (fun i h => (∃ old, IsEnum h e it (k + ((i : Nat) : Int)) old) ∧ h.IsTupleIter it a i ∧ e ≠ it) where
  mem := by simp
  obj := fun i h st b hb => by
    obtain ⟨⟨old, he⟩, ⟨o, ho, hc, hd⟩, _⟩ := st
    have e' : b = e ∨ b = it := by simpa using hb
    rcases e' with z | z
    · rw [z]; exact ⟨_, he, fun v q => nomatch q⟩
    · rw [z]; exact ⟨o, ho, fun v q => by rw [hd] at q; cases q⟩
  keep := fun i h h' st k => let ⟨⟨old, he⟩, hi, hne⟩ := st; ⟨⟨old, k e (by simp) _ he⟩, hi.at fun o q => k it (by simp) o q, hne⟩
  item := by
    intro X hP hw hK hc i pins s σ H E I hf st hg
    subst hP hw hK
    obtain ⟨⟨old, he⟩, hit, hne⟩ := st
    obtain ⟨xs, x, hq, hx⟩ := hg
    obtain ⟨its, rv, p, hz⟩ := I.tuple hq
    obtain ⟨u, hu, ru⟩ := rv.get hx
    have hel : e < s.heap.objs.size := Heap.lt_size he
    have hil : it < s.heap.objs.size := by obtain ⟨_, q, _⟩ := hit; exact Heap.lt_size q
    have pt : s.heap.IsTuple a its.toArray := p
    have hlt : i < its.toArray.size := by
      have := List.getElem?_eq_some_iff.mp hu
      obtain ⟨h, _⟩ := this
      simpa using h
    refine wpAny_pyNext_enum_itemC (i := i) (c := k + (i : Int)) (Draws.tuple (A := X.A.in1) (I.ok.hd hc) it a ha its.toArray) he ⟨hit, pt⟩ hlt hne (by simp [hne, hae]) fun x' h' tk hP ho hs' hT hsz hk => ?_
    have ex : x' = u := by
      have z : its.toArray[i]? = some u := by simpa using hu
      rw [hP] at z; exact Option.some.inj z
    subst ex
    refine ⟨_, rfl, wpAny_letOwnedTupleGo_enum (s := { s with heap := h', toks := tk + 1 }) ho fun h'' he' sb => ?_⟩
    have hT2 : h''.get? s.heap.objs.size = some { cls := .type "tuple", data := .seq #[.int (k + (i : Int)) tk, x'] } := (sb.2 _ (Nat.ne_of_gt hel)).trans hT
    have new : ObjOk X.prog X.w (upd H s.heap.objs.size (.tup [.int (k + (i : Nat)), x])) h'' s.heap.objs.size (.tup [.int (k + (i : Nat)), x]) :=
      ⟨by show 2 ≤ sizeLine; decide, [.int (k + (i : Int)) tk, x'], .cons ⟨_, rfl⟩ (.cons ru .nil), ⟨_, hT2, rfl, _, rfl⟩⟩
    have I1 : Inv X pins σ (upd H s.heap.objs.size (.tup [.int (k + (i : Nat)), x])) { s with heap := h'', toks := tk + 1 } :=
      I.turnedNew (ch := [e, it]) (fun b ob hb q => (sb.2 b (fun z => hb (by simp [z]))).trans (hk b ob (fun z => hb (by simp [z])) (fun z => hb (by simp [z])) q)) hf (Nat.le_refl _) new
    refine ⟨.ref s.heap.objs.size, _, I1, rfl, ⟨_, x, rfl, I.hok.fresh (Nat.le_refl _), rfl, fun ys hy => by rw [I.tuple_inj hy hq]; exact hx⟩, ⟨⟨x', ?_⟩, hs'.1.at fun o q => (sb.2 it (Ne.symm hne)).trans q, hne⟩, fun b hb => ?_⟩
    · have e1 : k + ((i + 1 : Nat) : Int) = k + (i : Int) + 1 := by omega
      rw [e1]; exact he'
    · have hb' : b < s.heap.objs.size := by
        have e' : b = e ∨ b = it := by simpa using hb
        rcases e' with z | z
        · rw [z]; exact hel
        · rw [z]; exact hil
      rw [upd_ne (Nat.ne_of_lt hb')]
      exact (hf b hb).1
  done := by
    intro X hP hw hK hc i pins s σ H E I hf st hg
    subst hP hw hK
    obtain ⟨⟨old, he⟩, hit, hne⟩ := st
    obtain ⟨xs, hq, hx⟩ := hg
    obtain ⟨its, rv, p, hz⟩ := I.tuple hq
    obtain ⟨f0, f1, f2, f3, f4, f5⟩ := hf it (by simp)
    have hl := rv.length
    have pt : s.heap.IsTuple a its.toArray := p
    have hT : s.TypeIs (.ref e) "enumerate" := ⟨_, he, rfl⟩
    unfold pyNext
    refine wpAny_bind (wpAny_attempt (wpAny_callSpecial?_slot (name := Str.ofString "__next__") hT F.slot_enumerate_next
      (wpAny_call_entry F.slot_enumerate_next hT F.entry_enumerate_next ?_ (F.args_enumerate_next_1 _))))
    show wpAny _ _ (field (.ref e) 2 >>= _) _ _ _
    refine wpAny_bind (wpAny_field he rfl (x := .ref it) rfl ?_)
    refine wpAny_bind (wpAny_nextOf_tuple_end (I.ok.hd hc) hit pt (by simp; omega) fun h' x he' hx' => ?_)
    obtain ⟨o, ho, hc⟩ := hx'
    refine wpAny_bind (wpAny_isInstance (T := "StopIteration") (b := true) ⟨o, ho, hc⟩ isSubtype_stop ?_)
    exact wpAny_pure ⟨rfl, I.turned (t' := s.toks) (fun b o hb q => he' b o hb q) f0 f1 f3 f4 f5⟩
  self := fun A i s Q E st h => let ⟨⟨_, he⟩, _⟩ := st; wpAny_pyIter_enum he h
def iEnumTk (K : PySem.W.Frag) (k : Int) (ta : TA) : TI := fun σ H R => ta σ H fun vs H1 => ∃ a xs, vs = [.ref a] ∧ SqT K H1 a xs ∧ R (IteTk K k a) H1
theorem pi_enumTk {X : Cx} {e : Expr} {ta : TA} {p pos tpos kp kp2 : Pos} {elts : List Expr} {kk kj : Nat} {k : Nat} (hk : k < 1000) (hg : Gl X "enumerate") (hm : X.mg "enumerate" = none) (ha : PA X [e] ta) (hs : starEach [e] X.env = [(false, eval e X.env)] := by rfl)
    (hpl : (backTo pos (starEach [e] X.env)).any (·.1) = false := by rfl) :
    PI X (.Tuple elts kk tpos) (.Call (.Name "enumerate" p) [e] [⟨some "start", .Constant (.int (k : Int)) kj kp, kp2⟩] pos) (iEnumTk X.K k ta) := by
  refine ⟨fun pins s σ H R I h => ?_⟩
  refine wpAny_Call_Name_kw (ld_blt I hg hm boot_enumerate (mine_callWith_type_kw (thn (ha.run pos pins s σ H _ I h) fun us s1 ⟨vs, H1, I1, r1, q1⟩ => ?_) (by rw [hs]; rfl) hpl))
  refine thn ((pk_cons (nm := some "start") (kpos := kp2) (pe_int (X := X) (pos := kp) (j := kj) (i := (k : Int))) pk_nil).run pos pins s1 σ H1 (fun zs H2 => zs = [.int (k : Int)] ∧ H2 = H1) I1 ⟨rfl, rfl⟩) fun kvs s2 ⟨zs, H2, I2, r2, ez, eh⟩ => ?_
  subst ez eh
  obtain ⟨a, xs, ex, hq, q⟩ := q1
  subst ex
  cases r2 with
  | cons rk rr2 =>
  cases rr2
  obtain ⟨tk, rfl⟩ := rk
  cases r1 with
  | cons r rr =>
    cases rr
    cases r
    have fp2 : ∀ b ∈ [s2.heap.objs.size + 1, s2.heap.objs.size], FpOk X pins H2 b := fun b hb => by
      have e' : b = s2.heap.objs.size + 1 ∨ b = s2.heap.objs.size := by simpa using hb
      have hle : s2.heap.objs.size ≤ b := by
        rcases e' with z | z
        · rw [z]; exact Nat.le_add_right _ _
        · rw [z]; exact Nat.le_refl _
      exact I2.fpOk hle (I2.hok.fresh hle)
    obtain ⟨its, rv, p', hz⟩ := I2.tuple hq
    have pt : s2.heap.IsTuple a its.toArray := p'
    have hlt : a < s2.heap.objs.size := by
      obtain ⟨o, ho, _⟩ := id pt
      exact Heap.lt_size ho
    show wpAny _ _ (call (.type "enumerate") [.ref a] [(Str.ofString "start", .int (k : Int) tk)]) _ _ _
    refine enum_begins_start (begins_tuple a its.toArray) pt (by omega) (by omega) fun h' he hit hsz hk => wpAny_pyIter_enum he ?_
    have I3 : Inv X pins σ H2 { s2 with heap := h' } := I2.kept (t' := s2.toks) hk
    exact ⟨s2.heap.objs.size + 1, [s2.heap.objs.size + 1, s2.heap.objs.size], _, _, H2, rfl, I3, turn_enumTk (k : Int) a (s2.heap.objs.size + 1) s2.heap.objs.size (Nat.ne_of_lt hlt) (Nat.ne_of_gt (Nat.lt_succ_of_lt hlt)),
      ⟨⟨.none, by simpa using he⟩, ⟨_, hit, rfl, rfl⟩, Nat.succ_ne_self _⟩, fp2, q⟩
end Mine
namespace Mine
open PySem PySem.Spec PyProof.Rows L2
def eEnumK (k : Nat) (a : DAX) : DAX := fun env Q E => a env (fun ds => match ds with
  | [.tup xs] => Q (xs.mapIdx fun i x => .tup [.int ((k : Int) + (i : Nat)), x])
  | _ => False) E
theorem walk_enumTk {K : PySem.W.Frag} {k : Int} {a : Addr} {xs : List V} : Walk (IteTk K k a) xs.length (fun H => SqT K H a xs) (YPair (fun i => some (.int (k + (i : Nat)))) (fun i => xs[i]?)) := by
  refine ⟨fun i _ hi q => ⟨xs, xs[i], q, by simp [hi]⟩, fun _ q => ⟨xs, q, Nat.le_refl _⟩, fun i H v H' _ q y => ?_⟩
  obtain ⟨T, x, h1, h2, h3, h4⟩ := y
  exact ⟨T, .int (k + (i : Nat)), x, h1, h2, h3, rfl, h4 xs q⟩
section
variable {C : Bc} {R : RR} {S : SS} {tl : TE} {el : DX}
theorem walk_pairk {X : Addr → Prop} {H1 : Hp} {J : It} {n : Nat} {k : Int} {G : Hp → Prop} {xs : List V} {ds : List Dt} (hal : ∀ {Y : Addr → Prop} {H : Hp}, S C X H1 Y H → ∀ a, Y a → ∃ o, H a = some o) (hn : ds.length = n)
    (w : Walk J n G (YPair (fun i => some (.int (k + (i : Nat)))) (fun i => xs[i]?))) (hs : ∀ i H, n ≤ i → G H → J.stop i H) (kk : ∀ Y H, S C X H1 Y H → G H ∧ DenAll C.K (vis H Y) xs ds) :
    WalkD S C X H1 J (ds.mapIdx fun i x => .tup [.int (k + (i : Nat)), x]) := by
  intro Y i H s
  obtain ⟨g, a⟩ := kk Y H s
  rw [List.length_mapIdx]
  refine ⟨fun hi => ⟨w.goes i H (hn ▸ hi) g, fun x H' hy => ?_⟩, fun hi => hs i H (by omega) g⟩
  obtain ⟨T, v, y, rfl, hT, rfl, ev, ey⟩ := w.yields i H x H' (hn ▸ hi) g hy
  dsimp only at ev ey
  cases ev
  obtain ⟨d, e, den⟩ := a.getV ey
  have nT : ¬ Y T := fun y => by
    obtain ⟨o, q⟩ := hal s T y
    rw [hT] at q; cases q
  refine ⟨same_upd hT, _, by rw [List.getElem?_mapIdx, e]; rfl, .tup (vis_mk nT upd_same) (.cons (.int _) (.cons (den.mono fun b o e => ?_) .nil))⟩
  obtain ⟨n1, e1⟩ := vis_of e
  exact vis_mk n1 (same_upd hT _ _ e1)
theorem di_enumK [Src R S] {k : Nat} (h : DEg R C tl el) : DIg S C (iEnumTk C.K (k : Int) (tCons tl tNil)) (eEnumK k (eCons el eNil)) := by
  intro X env σ H Rr Qd Qx rp he q x
  refine h X env σ H _ _ Qx rp he (fun d v H1 f1 r1 he1 => ?_) x
  show ∃ a xs, [v] = [.ref a] ∧ _
  have he1 : (match [d] with
    | [.tup xs] => Qd (xs.mapIdx fun i x => .tup [.int ((k : Int) + (i : Nat)), x])
    | _ => False) := he1
  split at he1
  · rename_i e
    cases e
    obtain ⟨p, vs, rfl, h1, kk⟩ := Src.tup (S := S) r1
    refine ⟨p, vs, rfl, .inl (.inl h1), q _ _ H1 f1 ?_ he1⟩
    intro Y i H2 s
    exact walk_pairk (G := fun H => SqT C.K H p vs) (fun s => Src.al (R := R) s) (kk Y H2 s).2.length.symm walk_enumTk (fun i H hi g => ⟨vs, g, hi⟩) (fun Y H s => ⟨.inl (.inl (kk Y H s).1), (kk Y H s).2⟩) Y i H2 s
  · exact he1.elim
end
/-! ### all, any -/
def rAllU (K : PySem.W.Frag) : List V → Hp → VK → Prop := rAll K
theorem call_allU {X : Cx} {K : PySem.W.Frag} (hc : X.calm = true) (e : X.K = K) : CallR X (.builtin "all") (rAllU K) := e ▸ cr_all hc
def rAnyU (K : PySem.W.Frag) : List V → Hp → VK → Prop := rAny K
theorem call_anyU {X : Cx} {K : PySem.W.Frag} (hc : X.calm = true) (e : X.K = K) : CallR X (.builtin "any") (rAnyU K) := e ▸ cr_any hc
def dAll : DL := fun ds Q => match ds with
  | [.lst xs] => ∃ bs : List Bool, xs = bs.map .bl ∧ Q (.bl (bs.all id))
  | _ => False
def dAny : DL := fun ds Q => match ds with
  | [.lst xs] => ∃ bs : List Bool, xs = bs.map .bl ∧ Q (.bl (bs.any id))
  | _ => False
theorem DenAll.bls_of {K : PySem.W.Frag} {H : Hp} : ∀ {vs : List V} {bs : List Bool}, DenAll K H vs (bs.map .bl) → vs = bs.map V.bl
  | _, [], .nil => rfl
  | _, n :: ns, .cons a b => by rw [List.map_cons, a.flat rfl, DenAll.bls_of b]
section
variable {C : Bc}
theorem cg_all : CallG Cln C (rAllU C.K) dAll := by
  intro X env σ H vs ds Q Qd rp ra he q
  unfold dAll at he
  split at he
  · obtain ⟨v, rfl, r1⟩ := ra.one
    obtain ⟨bs, rfl, he⟩ := he
    obtain ⟨p, vs, rfl, h1, a1⟩ := r1.lst
    rw [a1.bls_of] at h1
    exact ⟨p, bs, rfl, .inl (.inl h1), q _ _ H (.refl H) (.bl _) he⟩
  · exact he.elim
theorem cg_any : CallG Cln C (rAnyU C.K) dAny := by
  intro X env σ H vs ds Q Qd rp ra he q
  unfold dAny at he
  split at he
  · obtain ⟨v, rfl, r1⟩ := ra.one
    obtain ⟨bs, rfl, he⟩ := he
    obtain ⟨p, vs, rfl, h1, a1⟩ := r1.lst
    rw [a1.bls_of] at h1
    exact ⟨p, bs, rfl, .inl (.inl h1), q _ _ H (.refl H) (.bl _) he⟩
  · exact he.elim
end
/-! ### a written dict of one pair of whole numbers -/
def eDk1 (k v : Int) : DX := fun _ Q _ => Q (.dk [.inl k] [.int v])
theorem de_dk1 {C : Bc} (k v : Int) : DE C (tDisp [(tC (.int k), tC (.int v))]) (eDk1 k v) := by
  intro X env σ H Q Qd Qx rp he q x p hp
  refine ⟨upd_same, [(.inl k, .int v)], rfl, by show 1 ≤ 15; decide, ?_⟩
  have e : upd (upd H p (.dK [])) p (.dK (mergeK [] [(Sum.inl k, V.int v)])) = upd H p (.dK [(Sum.inl k, V.int v)]) := by
    funext a
    by_cases c : a = p
    · subst c; rw [upd_same, upd_same]; rfl
    · rw [upd_ne c, upd_ne c, upd_ne c]
  rw [e]
  refine q _ _ _ (.upd hp) ?_ he
  exact .dk (ks := [.inl k]) (vs := [.int v]) (vis_mk (rp.free hp) upd_same) rfl (.cons (.int v) .nil)
/-! ### sorted(set(rows)), sorted(rows): words of one length -/
def rSortedR (K : PySem.W.Frag) : List V → Hp → VK → Prop := fun vs H Q => ∃ (a : Addr) (L : List (Addr × List Int)) (d : Nat) (B : Int), vs = [V.ref a] ∧ SqL K H a (L.map fun q => V.ref q.1) ∧ (∀ p ∈ L, SqT K H p.1 (p.2.map V.int)) ∧ 1 ≤ d ∧
  (∀ p ∈ L, p.2.length = d ∧ TS.Bd B p.2) ∧ L.length < 64 ∧
  ∀ (L' : List (Addr × List Int)) (p : Addr), (∀ q, q ∈ L' → q ∈ L) → (L'.map fun q => V.ref q.1).Perm (L.map fun q => V.ref q.1) → L'.Pairwise (fun q r => TS.code B q.2 ≤ TS.code B r.2) → H p = none → Q (.ref p) (upd H p (.lst (L'.map fun q => V.ref q.1)))
theorem cr_sortedR {X : Cx} : CallR X (.builtin "sorted") (rSortedR X.K) := by
  intro pins s σ H vs us Q I r h
  obtain ⟨a, L, d, B, rfl, ha, hk, hd, hB, few, q⟩ := h
  obtain ⟨its, rv, pl, hz⟩ := I.list ha
  have ei := refs_of_vals rv
  rw [Vals.ref1 r]
  have tk : ∀ q ∈ L, TS.TupInts s.heap (.ref q.1) q.2 := fun q hq => tupInts_of (P := X.prog) (w := X.w) (I.isT (hk q hq))
  have x : TS.TupsOk s.heap d B its := fun v hv => by
    rw [ei] at hv
    obtain ⟨q, hq, e⟩ := List.mem_map.mp hv
    rw [← e]
    exact ⟨q.2, tk q hq, (hB q hq).1, (hB q hq).2⟩
  refine TS.sorted_tups (d := d) (B := B) (by simpa using pl.isList) (by rw [ei, List.length_map]; exact few) hd x fun out a1 a2 => ?_
  have ord : ∀ vs : List Value, (∀ v ∈ vs, ∃ q ∈ L, v = Value.ref q.1) → ∃ L1 : List (Addr × List Int), vs = L1.map (fun q => Value.ref q.1) ∧ ∀ q ∈ L1, q ∈ L := by
    intro vs
    induction vs with
    | nil => intro _; exact ⟨[], rfl, fun q hq => (by cases hq)⟩
    | cons v vs ih =>
      intro hv
      obtain ⟨q, hq, e⟩ := hv v List.mem_cons_self
      obtain ⟨L1, e1, hs⟩ := ih fun u hu => hv u (List.mem_cons_of_mem _ hu)
      refine ⟨q :: L1, by rw [List.map_cons, e, e1], fun r hr => ?_⟩
      rcases List.mem_cons.mp hr with z | z
      · rw [z]; exact hq
      · exact hs r z
  obtain ⟨L', e', hs'⟩ := ord out.toList fun v hv => by
    have := a1.mem_iff.mp hv
    rw [ei] at this
    obtain ⟨q, hq, e⟩ := List.mem_map.mp this
    exact ⟨q, hq, e.symm⟩
  have pw : L'.Pairwise (fun q r => TS.code B q.2 ≤ TS.code B r.2) := by
    rw [e'] at a2
    refine List.Pairwise.imp_of_mem (fun {q r} hq hr hle => ?_) (List.pairwise_map.mp a2)
    have f1 : TS.intsOf s.heap (.ref q.1) = q.2 := (tk q (hs' q hq)).ints
    have f2 : TS.intsOf s.heap (.ref r.1) = r.2 := (tk r (hs' r hr)).ints
    rw [← f1, ← f2]
    exact hle
  have pm : (L'.map fun q => V.ref q.1).Perm (L.map fun q => V.ref q.1) := by
    have : (L'.map fun q => Value.ref q.1).Perm (L.map fun q => Value.ref q.1) := by rw [← e', ← ei]; exact a1
    have := this.map (fun v : Value => match v with | .ref a => V.ref a | _ => V.non)
    rw [List.map_map, List.map_map] at this
    exact this
  obtain ⟨ep, he'⟩ := PyProof.Rows.sortedAll_at s.heap its out
  have hlen : (L'.map fun q => V.ref q.1).length ≤ sizeLine := by rw [pm.length_eq, List.length_map, sizeLine_eq]; omega
  exact ⟨.ref _, upd H (s.heap.objs.size + 1) (.lst (L'.map fun q => V.ref q.1)), I.laid (t' := s.toks) (fun _ _ => PyProof.Rows.sortedAll_old) (Nat.le_succ _) ⟨hlen, out.toList, ep, by rw [e']; exact vals_of_refs L', he'⟩, rfl, q L' _ hs' pm pw (I.hok.fresh (Nat.le_succ _))⟩
end Mine
namespace Mine
open PySem PySem.Spec PyProof.Rows L2
theorem map_int_inj : ∀ {x y : List Int}, x.map V.int = y.map V.int → x = y
  | [], [], _ => rfl
  | [], _ :: _, h => by cases h
  | _ :: _, [], h => by cases h
  | a :: x, b :: y, h => by
    rw [List.map_cons, List.map_cons] at h
    injection h with h1 h2
    injection h1 with h1
    rw [h1, map_int_inj h2]
theorem DenAll.rows {K : PySem.W.Frag} {H : Hp} : ∀ {vs : List V} {ws : List (List Int)}, DenAll K H vs (ws.map fun w => Dt.tup (w.map .int)) → ∃ L : List (Addr × List Int), vs = L.map (fun q => V.ref q.1) ∧ L.map (·.2) = ws ∧ ∀ q ∈ L, H q.1 = some (.tup (q.2.map V.int))
  | _, [], .nil => ⟨[], rfl, rfl, fun _ h => by cases h⟩
  | _, w :: ws, .cons a b => by
    obtain ⟨L, e1, e2, h⟩ := DenAll.rows b
    obtain ⟨p, vs, rfl, hp, av⟩ := a.tupI
    rw [av.ints_of] at hp
    exact ⟨(p, w) :: L, by rw [List.map_cons, e1], by rw [List.map_cons, e2], fun q hq => by
      rcases List.mem_cons.mp hq with e | e
      · rw [e]; exact hp
      · exact h q e⟩
theorem DenAll.of_rows {K : PySem.W.Frag} {H : Hp} : ∀ {L : List (Addr × List Int)}, (∀ q ∈ L, H q.1 = some (.tup (q.2.map V.int))) → DenAll K H (L.map fun q => V.ref q.1) ((L.map (·.2)).map fun w => Dt.tup (w.map .int))
  | [], _ => .nil
  | q :: L, h => .cons (.tup (h q List.mem_cons_self) (DenAll.ints _)) (DenAll.of_rows fun r hr => h r (List.mem_cons_of_mem _ hr))
def intV : V → Int
  | .int i => i
  | _ => 0
noncomputable def rowAt (H : Hp) : V → List Int
  | .ref a => match H a with | some (.tup vs) => vs.map intV | _ => []
  | _ => []
def eSortedSet (a : DX) : DX := fun env Q E => a env (fun d => match d with
  | .lst xs => ∃ (ws : List (List Int)) (d : Nat) (B : Int), xs = ws.map (fun w => Dt.tup (w.map .int)) ∧ ws.length < 64 ∧ Even d B ws ∧ ∀ ws' : List (List Int), (∀ x, x ∈ ws' ↔ x ∈ ws) → Rising B ws' → Q (.lst (ws'.map fun w => Dt.tup (w.map .int)))
  | _ => False) E
def dSortedR : DL := fun ds Q => match ds with
  | [.lst xs] => ∃ (ws : List (List Int)) (d : Nat) (B : Int), xs = ws.map (fun w => Dt.tup (w.map .int)) ∧ ws.length < 64 ∧ 1 ≤ d ∧ Even d B ws ∧ ∀ ws' : List (List Int), ws'.Perm ws → ws'.Pairwise (fun x y => TS.code B x ≤ TS.code B y) → Q (.lst (ws'.map fun w => Dt.tup (w.map .int)))
  | _ => False
section
variable {C : Bc} {X : Addr → Prop} {env : List Sl} {σ : L2.St} {H H1 : Hp}
/-- a new list of tuples that were there -/
theorem fsh_rows {p : Addr} {L L' : List (Addr × List Int)} (rp : Rep C X env σ H) (hp : H1 p = none) (f : Frm C.hd H H1) (hL : ∀ q ∈ L, vis H X q.1 = some (.tup (q.2.map V.int))) (hs : ∀ q ∈ L', q ∈ L) :
    Fsh C X H (upd H1 p (.lst (L'.map fun q => V.ref q.1))) (.ref p) (.lst ((L'.map (·.2)).map fun w => Dt.tup (w.map .int))) := by
  have rp1 := rp.step f
  exact (fsh_new rp1 hp (DenAll.of_rows fun q hq => rp.vs f _ _ (hL q (hs q hq)))).frm rp f
theorem Bor.rows {v : V} {ws : List (List Int)} {H0 : Hp} (h : Bor C X H0 H v (.lst (ws.map fun w => Dt.tup (w.map .int)))) : ∃ (p : Addr) (L : List (Addr × List Int)), v = .ref p ∧ H p = some (.lst (L.map fun q => V.ref q.1)) ∧ L.map (·.2) = ws ∧ ∀ q ∈ L, vis H X q.1 = some (.tup (q.2.map V.int)) := by
  obtain ⟨p, vs, rfl, h1, a⟩ := h.lst
  obtain ⟨L, rfl, e, hL⟩ := a.rows
  exact ⟨p, L, rfl, h1, e, hL⟩
theorem cg_sortedR : CallG Fsh C (rSortedR C.K) dSortedR := by
  intro X env σ H vs ds Q Qd rp ra he q
  unfold dSortedR at he
  split at he
  · obtain ⟨v, rfl, r1⟩ := ra.one
    obtain ⟨ws, d, B, rfl, few, hd, ev, he⟩ := he
    obtain ⟨p, L, rfl, h1, e, hL⟩ := r1.rows
    have hlen : L.length = ws.length := by rw [← e, List.length_map]
    refine ⟨p, L, d, B, rfl, .inl (.inl h1), fun q hq => .inl (.inl (vis_sub _ _ (hL q hq))), hd, fun q hq => ev q.2 (e ▸ List.mem_map.mpr ⟨q, hq, rfl⟩), by omega, fun L' p' hs pm pw hp => ?_⟩
    have dec : ∀ q ∈ L, rowAt (vis H X) (V.ref q.1) = q.2 := fun q hq => by
      show (match vis H X q.1 with | some (.tup vs) => vs.map intV | _ => []) = q.2
      rw [hL q hq]
      show (q.2.map V.int).map intV = q.2
      rw [List.map_map]
      exact List.map_id'' (fun _ => rfl) q.2
    have pw2 : (L'.map (·.2)).Perm ws := by
      have := pm.map (rowAt (vis H X))
      rw [List.map_map, List.map_map] at this
      rw [← e]
      have e1 : L'.map (rowAt (vis H X) ∘ fun q => V.ref q.1) = L'.map (·.2) := List.map_congr_left fun q hq => dec q (hs q hq)
      have e2 : L.map (rowAt (vis H X) ∘ fun q => V.ref q.1) = L.map (·.2) := List.map_congr_left fun q hq => dec q hq
      rw [e1, e2] at this
      exact this
    exact q _ _ _ (.upd hp) (fsh_rows rp hp (.refl H) hL hs) (he _ pw2 (List.pairwise_map.mpr pw))
  · exact he.elim
theorem df_sortedSet {P : Program} {w : World} {t : TE} {e : DX} (h : DB C t e) : DF C (tCB (rSortedA C.K P w) (tCons (tCB (rSetOfT C.K P w) (tCons t tNil)) tNil)) (eSortedSet e) := by
  intro X env σ H Q Qd Qx rp he q x
  refine h X env σ H _ _ Qx rp he (fun d v H1 f1 r1 he1 => ?_) x
  split at he1
  · obtain ⟨ws, d, B, rfl, few, ev, he1⟩ := he1
    obtain ⟨l, L, rfl, h1, e, hL⟩ := r1.rows
    have rp1 := rp.step f1
    have hlen : L.length = ws.length := by rw [← e, List.length_map]
    show rSetOfT C.K P w [V.ref l] H1 (fun x H1 => rSortedA C.K P w [x] H1 Q)
    refine ⟨l, L, rfl, .inl (.inl h1), fun k hk => .inl (.inl (vis_sub _ _ (hL k hk))), by omega, fun a L2 ha hsub hall => ?_⟩
    have sa := same_upd (o := SetTO P w a L2) ha
    have hev : ∀ p ∈ L2, p.2.length = d ∧ TS.Bd B p.2 := fun p hp => ev p.2 (e ▸ List.mem_map.mpr ⟨p, hsub p hp, rfl⟩)
    refine ⟨a, L2, d, B, rfl, upd_same, fun k hk => .inl (.inl (sa _ _ (vis_sub _ _ (hL k (hsub k hk))))), hev, fun L' p pm nd few pw hp => ?_⟩
    have f2 : Frm C.hd H1 (upd H1 a (SetTO P w a L2)) := .upd ha
    have fr := fsh_rows (L := L) (L' := L') rp1 hp f2 hL fun q hq => hsub q (pm.mem_iff.mp hq)
    refine q _ _ _ (f1.trans (f2.trans (.upd hp))) (fr.frm rp f1) (he1 _ (fun x => ?_) ?_)
    · constructor
      · intro hx
        obtain ⟨k, hk, e1⟩ := List.mem_map.mp hx
        rw [← e]
        exact List.mem_map.mpr ⟨k, hsub k (pm.mem_iff.mp hk), e1⟩
      · intro hx
        rw [← e] at hx
        obtain ⟨k, hk, e1⟩ := List.mem_map.mp hx
        obtain ⟨k2, hk2, e2⟩ := List.mem_map.mp (hall k hk)
        exact List.mem_map.mpr ⟨k2, pm.mem_iff.mpr hk2, e2.trans e1⟩
    · have pw2 : (L'.map (·.2)).Pairwise fun x y => TS.code B x ≤ TS.code B y := List.pairwise_map.mpr pw
      have mem : ∀ x ∈ L'.map (·.2), x.length = d ∧ TS.Bd B x := fun x hx => by
        obtain ⟨k, hk, e⟩ := List.mem_map.mp hx
        rw [← e]; exact hev k (pm.mem_iff.mp hk)
      refine List.Pairwise.imp_of_mem (fun {x y} hx hy h => ?_) (pw2.and nd)
      obtain ⟨le, ne⟩ := h
      rcases Int.lt_or_eq_of_le le with c | c
      · exact c
      · exact absurd (code_inj ((mem x hx).1.trans (mem y hy).1.symm) (mem x hx).2 (mem y hy).2 c) ne
  · exact he1.elim
end
end Mine
namespace Mine
open PySem PySem.Spec PyProof.Rows L2
/-! ### sorted(xs): whole numbers (any number of them), words of one length -/
def rSortedU (K : PySem.W.Frag) : List V → Hp → VK → Prop := fun xs H Q => rSortedI K xs H Q ∨ rSortedR K xs H Q
theorem call_sortedU {X : Cx} {K : PySem.W.Frag} (e : X.K = K) : CallR X (.builtin "sorted") (rSortedU K) := e ▸ cr_sortedI.or cr_sortedR
def dSortedI : DL := fun ds Q => match ds with
  | [.lst xs] => ∃ ns : List Int, xs = ns.map .int ∧ ∀ ns' : List Int, ns'.Perm ns → ns'.Pairwise (· ≤ ·) → Q (.lst (ns'.map .int))
  | _ => False
def dSortedU : DL := fun ds Q => dSortedI ds Q ∨ dSortedR ds Q
section
variable {C : Bc}
theorem cg_sortedI : CallG Fsh C (rSortedI C.K) dSortedI := by
  intro X env σ H vs ds Q Qd rp ra he q
  unfold dSortedI at he
  split at he
  · obtain ⟨v, rfl, r1⟩ := ra.one
    obtain ⟨ns, rfl, he⟩ := he
    obtain ⟨p, vs, rfl, h1, a1⟩ := r1.lst
    rw [a1.ints_of] at h1
    exact ⟨p, ns, rfl, .inl (.inl h1), fun ns' l h2 h3 hl => q _ _ _ (.upd hl) (fsh_new rp hl (DenAll.ints ns')) (he ns' h2 h3)⟩
  · exact he.elim
theorem cg_sortedU : CallG Fsh C (rSortedU C.K) dSortedU := by
  intro X env σ H vs ds Q Qd rp ra he q
  rcases he with he | he
  · exact .inl (cg_sortedI X env σ H vs ds Q Qd rp ra he q)
  · exact .inr (cg_sortedR X env σ H vs ds Q Qd rp ra he q)
end
end Mine
namespace Mine
open PySem PySem.Spec PyProof.Rows L2
theorem funD_inj {K : PySem.W.Frag} {name qual : Str} {params : Arguments} {body : List Stmt} {scope : Scope} {dvs dvs' : List V} {kws kws' : List (Str × V)} {f : Addr} {fd fd' : FuncData}
    (D : FunD K name qual params body scope dvs kws f fd) (D' : FunD K name qual params body scope dvs' kws' f fd') : fd = fd' := by
  obtain ⟨_, _, _, _, _, _, _, _, _, _, rfl, l1, _⟩ := D.ex
  obtain ⟨_, _, _, _, _, _, _, _, _, _, rfl, l0, _⟩ := D'.ex
  have z := l1.symm.trans l0
  injection z with z
  injection z with z1 z2 z3
  injection z3
end Mine
namespace Mine
open PySem PySem.Spec PyProof.Rows L2
/-- a written power -/
theorem de_powC {C : Bc} {a b c : Int} (h : CPow a b) (e : a ^ b.toNat = c) : DE C (tOp (rI CPow fun i j => .int (i ^ j.toNat)) (tC (.int a)) (tC (.int b))) (eC (.int c)) := by
  intro X env σ H Q Qd Qx rp he q x
  subst e
  exact ⟨_, _, rfl, rfl, h, q _ _ H (.refl H) (.int _) he⟩
theorem cpow_of {a b : Int} (h : decide (0 ≤ b) && decide (b ≤ 1000000) && decide (a.natAbs < 2 ^ 64) = true) : CPow a b := by
  simp only [Bool.and_eq_true, decide_eq_true_eq] at h
  exact ⟨h.1.1, h.1.2, h.2⟩
end Mine

namespace Mine
open PySem PySem.Spec PyProof.Rows L2
theorem mkD_W (np N : Nat) (s : DSt) {args} {Q} {E} : mkD np N s args Q E = (args.length = np ∧ s ⟨fun _ => Q .non, Q, fun _ => False, fun _ => False, fun _ x => E x⟩ (args ++ List.replicate (N - np) .no)) := rfl
theorem mkD0_W (np N : Nat) (s : DSt) {args} {Q} {E} : mkD0 np N s args Q E = (args.length = np ∧ s ⟨fun _ => Q .non, Q, fun _ => False, fun _ => False, fun _ _ => False⟩ (args ++ List.replicate (N - np) .no)) := rfl
theorem sSeq_W (a b : DSt) {d} {env} : sSeq a b d env = (a { d with nx := b d } env) := rfl
theorem sAsg_W (e : DX) (f : DGX) {d} {env} : sAsg e f d env = (e env (fun x => f x env d.nx) (d.xc env)) := rfl
theorem sRet_W (e : DX) {d} {env} : sRet e d env = (e env d.rt (d.xc env)) := rfl
theorem sRetN_W {d} {u1} : sRetN d u1 = (d.rt .non) := rfl
theorem sIf_W (c : DTX) (a b : DSt) {d} {env} : sIf c a b d env = (c env (fun k => if k = true then a d env else b d env) (d.xc env)) := rfl
theorem sNext_W {d} {env} : sNext d env = (d.nx env) := rfl
theorem sDrop_W (e : DX) {d} {env} : sDrop e d env = (e env (fun _ => d.nx env) (d.xc env)) := rfl
theorem sBreak_W {d} {env} : sBreak d env = (d.bk env) := rfl
theorem sCont_W {d} {env} : sCont d env = (d.ct env) := rfl
theorem sOwn_W (j : Nat) (e : DX) {d} {env} : sOwn j e d env = (e env (fun x => match x with
  | .lst xs => d.nx (env.set j (.own (.lst xs)))
  | _ => False) (d.xc env)) := rfl
theorem sPar_W (i j : Nat) (a : DAX) {d} {env} : sPar i j a d env = (a env (fun ds => match ds with
  | [x, y] => d.nx ((env.set i (.d x)).set j (.d y))
  | _ => False) (d.xc env)) := rfl
theorem sPar3_W (i j l : Nat) (a : DAX) {d} {env} : sPar3 i j l a d env = (a env (fun ds => match ds with
  | [x, y, z] => d.nx (((env.set i (.d x)).set j (.d y)).set l (.d z))
  | _ => False) (d.xc env)) := rfl
theorem sFrz_W (i : Nat) (s : DSt) {d} {env} : sFrz i s d env = (s d (frz env i)) := rfl
theorem sApp_W (i : Nat) (e : DX) {d} {env} : sApp i e d env = (match env[i]? with
  | some (.own (.lst xs)) => e env (fun y => xs.length < LINE ∧ d.nx (env.set i (.own (.lst (xs ++ [y]))))) (d.xc env)
  | _ => False) := rfl
theorem sExt_W (i : Nat) (e : DX) {d} {env} : sExt i e d env = (match env[i]? with
  | some (.own (.lst xs)) => e env (fun y => match y with
    | .lst ys => xs.length + ys.length ≤ LINE ∧ d.nx (env.set i (.own (.lst (xs ++ ys))))
    | _ => False) (d.xc env)
  | _ => False) := rfl
theorem sPop_W (i : Nat) {d} {env} : sPop i d env = (match env[i]? with
  | some (.own (.lst xs)) => xs ≠ [] ∧ d.nx (env.set i (.own (.lst xs.dropLast)))
  | _ => False) := rfl
theorem sPopTo_W (i j : Nat) {d} {env} : sPopTo i j d env = (match env[i]? with
  | some (.own (.lst xs)) => ∃ y, xs[xs.length - 1]? = some y ∧ d.nx ((env.set i (.own (.lst xs.dropLast))).set j (.d y))
  | _ => False) := rfl
theorem sPut_W (i : Nat) (ek e : DX) {d} {env} : sPut i ek e d env = (match env[i]? with
  | some (.own (.lst xs)) => e env (fun y => ek env (fun k => match k with
    | .int k => ∃ j, ixN xs.length k = some j ∧ d.nx (env.set i (.own (.lst (xs.set j y))))
    | _ => False) (d.xc env)) (d.xc env)
  | _ => False) := rfl
theorem sAugP_W (f : Int → Int → Int) (i : Nat) (ek e : DX) {d} {env} : sAugP f i ek e d env = (match env[i]? with
  | some (.own (.lst xs)) => ek env (fun k => match k with
    | .int k => ∃ j z, ixN xs.length k = some j ∧ xs[j]? = some (.int z) ∧ e env (fun y => match y with
      | .int y => d.nx (env.set i (.own (.lst (xs.set j (.int (f z y))))))
      | _ => False) (d.xc env)
    | _ => False) (d.xc env)
  | _ => False) := rfl
theorem sAug_W (f : Int → Int → Int) (i : Nat) (e : DX) {d} {env} : sAug f i e d env = (match env[i]? with
  | some (.d (.int x)) => e env (fun y => match y with
    | .int y => d.nx (env.set i (.d (.int (f x y))))
    | _ => False) (d.xc env)
  | _ => False) := rfl
theorem sFor_W (src : DAX) (f : DGX) (b : DSt) {d} {env} : sFor src f b d env = (src env (fun ds => dFor f b d ds env) (d.xc env)) := rfl
theorem sRaise_W (c : Str) {d} {env} : sRaise c d env = (d.xc env ⟨c, []⟩) := rfl
theorem sRaise1_W (c f : Str) (e : DX) {d} {env} : sRaise1 c f e d env = (e env (fun x => match x.flat with
  | some u => d.xc env ⟨c, [(f, u)]⟩
  | none => False) (d.xc env)) := rfl
theorem gD_W (j : Nat) {d} {env} {Q} : gD j d env Q = (Q (env.set j (.d d))) := rfl
theorem gD2_W (i j : Nat) {d} {env} {Q} : gD2 i j d env Q = (match d with
  | .tup [a, b] => Q ((env.set i (.d a)).set j (.d b))
  | _ => False) := rfl
theorem gD3_W (i j k : Nat) {d} {env} {Q} : gD3 i j k d env Q = (match d with
  | .tup [a, b, c] => Q (((env.set i (.d a)).set j (.d b)).set k (.d c))
  | _ => False) := rfl
theorem eVar_W (i : Nat) {env} {Q} {u2} : eVar i env Q u2 = (match env[i]? with
  | some (.d x) => Q x
  | _ => False) := rfl
theorem eVarB_W (i : Nat) {env} {Q} {u2} : eVarB i env Q u2 = (match env[i]? with
  | some (.d x) => Q x
  | some (.own (.lst xs)) => Q (.lst xs)
  | _ => False) := rfl
theorem eC_W (d : Dt) {u0} {Q} {u2} : eC d u0 Q u2 = (Q d) := rfl
theorem eOp_W (f : D2) (a b : DX) {env} {Q} {E} : eOp f a b env Q E = (a env (fun x => b env (fun y => f x y Q) E) E) := rfl
theorem eUn_W (f : D1) (a : DX) {env} {Q} {E} : eUn f a env Q E = (a env (fun x => f x Q) E) := rfl
theorem eCB_W (f : DL) (a : DAX) {env} {Q} {E} : eCB f a env Q E = (a env (fun ds => f ds Q) E) := rfl
theorem eCons_W (a : DX) (r : DAX) {env} {Q} {E} : eCons a r env Q E = (a env (fun d => r env (fun ds => Q (d :: ds)) E) E) := rfl
theorem eConsS_W (a : DX) (r : DSX) {env} {Q} {E} : eConsS a r env Q E = (a env (fun d => r env (fun ds => Q (.d d :: ds)) E) E) := rfl
theorem eConsH_W (i : Nat) (r : DSX) {env} {Q} {E} : eConsH i r env Q E = (match env[i]? with
  | some .hand => r env (fun ds => Q (.hand :: ds)) E
  | _ => False) := rfl
theorem eTup_W (r : DAX) {env} {Q} {E} : eTup r env Q E = (r env (fun ds => ds.length ≤ LINE ∧ Q (.tup ds)) E) := rfl
theorem eLst_W (r : DAX) {env} {Q} {E} : eLst r env Q E = (r env (fun ds => ds.length ≤ LINE ∧ Q (.lst ds)) E) := rfl
theorem eCall_W (F : DFn) (dd : List Sl) (a : DSX) {env} {Q} {E} : eCall F dd a env Q E = (a env (fun ss => F (ss ++ dd) Q E) E) := rfl
theorem eCall0_W (F : DFn) (dd : List Sl) (a : DSX) {env} {Q} {E} : eCall0 F dd a env Q E = (a env (fun ss => F (ss ++ dd) Q fun _ => False) E) := rfl
theorem eTest_W (e : DX) {env} {Q} {E} : eTest e env Q E = (e env (fun d => match d with
  | .bl b => Q b
  | _ => False) E) := rfl
theorem eNotT_W (t : DTX) {env} {Q} {E} : eNotT t env Q E = (t env (fun b => Q (!b)) E) := rfl
theorem eAndT_W (t u : DTX) {env} {Q} {E} : eAndT t u env Q E = (t env (fun b => if b = true then u env Q E else Q false) E) := rfl
theorem eOrT_W (t u : DTX) {env} {Q} {E} : eOrT t u env Q E = (t env (fun b => if b = true then Q true else u env Q E) E) := rfl
theorem eTru_W (e : DX) {env} {Q} {E} : eTru e env Q E = (e env (fun d => dTru d Q) E) := rfl
theorem eAndV_W (a b : DX) {env} {Q} {E} : eAndV a b env Q E = (a env (fun d => eBool d fun c => if c = true then b env Q E else Q (.bl false)) E) := rfl
theorem eOrV_W (a b : DX) {env} {Q} {E} : eOrV a b env Q E = (a env (fun d => eBool d fun c => if c = true then Q (.bl true) else b env Q E) E) := rfl
theorem eNotV_W (a : DX) {env} {Q} {E} : eNotV a env Q E = (a env (fun d => eBool d fun c => Q (.bl (!c))) E) := rfl
theorem eNotVT_W (a : DX) {env} {Q} {E} : eNotVT a env Q E = (a env (fun d => dTru d fun c => Q (.bl (!c))) E) := rfl
theorem eIf_W (t : DTX) (a b : DX) {env} {Q} {E} : eIf t a b env Q E = (t env (fun c => if c = true then a env Q E else b env Q E) E) := rfl
theorem eChain_W (f g : D2) (a b c : DX) {env} {Q} {E} : eChain f g a b c env Q E = (a env (fun x => b env (fun y => f x y fun d => eBool d fun k => if k = true then c env (fun z => g y z Q) E else Q (.bl false)) E) E) := rfl
theorem eLc_W (src : DAX) (f : DGX) (tt : DTX) (te : DX) (vs : List Nat) {env} {Q} {E} : eLc src f tt te vs env Q E = (src env (fun ds => lcGo f tt te (wipeS env vs) Q ds []) E) := rfl
theorem eLc2_W (src : DAX) (f : DGX) (tt : DTX) (src1 : DAX) (f1 : DGX) (tt1 : DTX) (te : DX) (vs1 vs : List Nat) {env} {Q} {E} : eLc2 src f tt src1 f1 tt1 te vs1 vs env Q E = (src env (fun ds => lcGo2 f tt src1 f1 tt1 te vs1 (wipeS env vs) Q ds []) E) := rfl
theorem eYes_W {u0} {Q} {u2} : eYes u0 Q u2 = (Q true) := rfl
theorem eSeq_W (a : DX) {env} {Q} {E} : eSeq a env Q E = (a env (fun d => match d with
  | .lst xs => Q xs
  | .tup xs => Q xs
  | _ => False) E) := rfl
theorem eRng1_W (a : DAX) {env} {Q} {E} : eRng1 a env Q E = (a env (fun ds => match ds with
  | [.int j] => (-(2 ^ 62) ≤ j ∧ j < 2 ^ 62) ∧ Q ((List.range j.toNat).map fun i => .int (i : Nat))
  | _ => False) E) := rfl
theorem eRng2_W (a : DAX) {env} {Q} {E} : eRng2 a env Q E = (a env (fun ds => match ds with
  | [.int i, .int j] => (-(2 ^ 62) ≤ i ∧ i < 2 ^ 62 ∧ -(2 ^ 62) ≤ j ∧ j < 2 ^ 62) ∧ Q ((List.range (j - i).toNat).map fun k => .int (i + (k : Nat)))
  | _ => False) E) := rfl
theorem eEnum_W (a : DAX) {env} {Q} {E} : eEnum a env Q E = (a env (fun ds => match ds with
  | [.lst xs] => Q (xs.mapIdx fun i x => .tup [.int (i : Nat), x])
  | [.tup xs] => Q (xs.mapIdx fun i x => .tup [.int (i : Nat), x])
  | _ => False) E) := rfl
theorem eEnumK_W (k : Nat) (a : DAX) {env} {Q} {E} : eEnumK k a env Q E = (a env (fun ds => match ds with
  | [.tup xs] => Q (xs.mapIdx fun i x => .tup [.int ((k : Int) + (i : Nat)), x])
  | _ => False) E) := rfl
theorem eZip_W (a b : DX) {env} {Q} {E} : eZip a b env Q E = (a env (fun d1 => b env (fun d2 => match d1, d2 with
  | .lst xs, .lst ys => Q (List.zipWith (fun x y => .tup [x, y]) xs ys)
  | .tup xs, .lst ys => xs.length = ys.length ∧ Q (List.zipWith (fun x y => .tup [x, y]) xs ys)
  | .tup xs, .tup ys => xs.length = ys.length ∧ Q (List.zipWith (fun x y => .tup [x, y]) xs ys)
  | _, _ => False) E) E) := rfl
theorem eSl_W (f : D3) (a : DX) (lo hi : DOX) {env} {Q} {E} : eSl f a lo hi env Q E = (a env (fun d => lo env (fun l => hi env (fun u => f d l u Q) E) E) E) := rfl
theorem ePart_W (e : DX) {env} {Q} {E} : ePart e env Q E = (e env (fun d => match d with
  | .int i => Q (some i)
  | _ => False) E) := rfl
theorem eNoPart_W {u0} {Q} {u2} : eNoPart u0 Q u2 = (Q none) := rfl
theorem eRev_W (a : DX) {env} {Q} {E} : eRev a env Q E = (a env (fun d => match d with
  | .lst xs => Q (.lst xs.reverse)
  | .tup xs => Q (.tup xs.reverse)
  | _ => False) E) := rfl
theorem eRevL_W (a : DX) {env} {Q} {E} : eRevL a env Q E = (a env (fun d => match d with
  | .lst xs => Q (.lst xs.reverse)
  | _ => False) E) := rfl
theorem eDk0_W {u0} {Q} {u2} : eDk0 u0 Q u2 = (Q (.dk [] [])) := rfl
theorem eDk1_W (k v : Int) {u0} {Q} {u2} : eDk1 k v u0 Q u2 = (Q (.dk [.inl k] [.int v])) := rfl
theorem eXf_W (i : Nat) (c f : Str) {env} {Q} {u2} : eXf i c f env Q u2 = (match env[i]? with
  | some (.exc c' fs) => c' = c ∧ ∃ u, fs.lookup f = some u ∧ Q (Dt.ofV u)
  | _ => False) := rfl
theorem eIsX_W (i : Nat) (tab : Str → Option Bool) {env} {Q} {u2} : eIsX i tab env Q u2 = (match env[i]? with
  | some (.exc c fs) => ∃ b, tab c = some b ∧ Q (.bl b)
  | _ => False) := rfl
theorem dIsN_W {a} {b} {Q} : dIsN a b Q = (match b with
  | .non => Q (.bl a.isN)
  | _ => False) := rfl
theorem dNotN_W {a} {b} {Q} : dNotN a b Q = (match b with
  | .non => Q (.bl (!a.isN))
  | _ => False) := rfl
theorem dIx_W {a} {b} {Q} : dIx a b Q = (match a, b with
  | .lst xs, .int k => ∃ x, atI xs k = some x ∧ Q x
  | .tup xs, .int k => ∃ x, atI xs k = some x ∧ Q x
  | .str z, .int k => z.length ≤ LINE ∧ ∃ c, atI z.cps.toList k = some c ∧ Q (.str ⟨#[c]⟩)
  | _, _ => False) := rfl
theorem dSl_W {a} {lo} {hi} {Q} : dSl a lo hi Q = (match a with
  | .lst xs => Q (.lst (cutG xs lo hi))
  | .tup xs => Q (.tup (cutG xs lo hi))
  | .str z => z.length ≤ LINE ∧ Q (.str (cutS z lo hi))
  | _ => False) := rfl
theorem dSlL_W {a} {lo} {hi} {Q} : dSlL a lo hi Q = (match a with
  | .lst xs => Q (.lst (cutG xs lo hi))
  | _ => False) := rfl
theorem dLen_W {ds} {Q} : dLen ds Q = (match ds with
  | [.lst xs] => Q (.int xs.length)
  | [.tup xs] => Q (.int xs.length)
  | [.str z] => z.length ≤ LINE ∧ Q (.int z.length)
  | [.dk ks _] => Q (.int ks.length)
  | _ => False) := rfl
theorem dInt_W {ds} {Q} : dInt ds Q = (match ds with
  | [.int i] => Q (.int i)
  | [.bl k] => Q (.int (if k then 1 else 0))
  | [.str z] => z.length ≤ 640 ∧ ∃ n, PySem.intText? z = some n ∧ Q (.int n)
  | _ => False) := rfl
theorem dStr_W {ds} {Q} : dStr ds Q = (match ds with
  | [.int i] => i.natAbs.log2 < 1920 ∧ Q (.str (toString i))
  | _ => False) := rfl
theorem dAbs_W {ds} {Q} : dAbs ds Q = (match ds with
  | [.int i] => Q (.int (if i < 0 then -i else i))
  | _ => False) := rfl
theorem dMax2_W {ds} {Q} : dMax2 ds Q = (match ds with
  | [.int i, .int j] => Q (.int (if j > i then j else i))
  | _ => False) := rfl
theorem dMin2_W {ds} {Q} : dMin2 ds Q = (match ds with
  | [.int i, .int j] => Q (.int (if j < i then j else i))
  | _ => False) := rfl
theorem dTupOf_W {ds} {Q} : dTupOf ds Q = (match ds with
  | [.lst xs] => Q (.tup xs)
  | [.tup xs] => Q (.tup xs)
  | _ => False) := rfl
theorem dLstOf_W {ds} {Q} : dLstOf ds Q = (match ds with
  | [.lst xs] => Q (.lst xs)
  | [.tup xs] => Q (.lst xs)
  | _ => False) := rfl
theorem dIsi_W (T : String) {ds} {Q} : dIsi T ds Q = (match ds with
  | [x, .raw (.ty T')] => T' = T ∧ x.kind.isSome = true ∧ Q (.bl (x.isa T))
  | _ => False) := rfl
theorem dIsi2_W (T U : String) {ds} {Q} : dIsi2 T U ds Q = (match ds with
  | [x, .tup [.raw (.ty T'), .raw (.ty U')]] => T' = T ∧ U' = U ∧ x.kind.isSome = true ∧ Q (.bl (x.isa T || x.isa U))
  | _ => False) := rfl
theorem sTry_W (mt : Str → Str → Option Bool) (b : DSt) (hs : List (Str × Option Nat × DSt)) {d} {env} : sTry mt b hs d env = (b { d with xc := fun e x => dHs mt hs d e x } env) := rfl
theorem eStrs_W (a : DX) {env} {Q} {E} : eStrs a env Q E = (a env (fun d => match d with
  | .str z => Q (z.cps.toList.map fun c => .str ⟨#[c]⟩)
  | _ => False) E) := rfl
theorem eNil_W {δ : Type} {u0 : List Sl} {Q : List δ → Prop} {u2 : Xc → Prop} : (eNil (δ := δ)) u0 Q u2 = Q [] := rfl
theorem eBool_W {d : Dt} {Q : Bool → Prop} : eBool d Q = (match d with
  | .bl b => Q b
  | _ => False) := rfl
theorem frz_W {env : List Sl} {i : Nat} : frz env i = (match env[i]? with
  | some (.own w) => env.set i (.d w.fz)
  | _ => env) := rfl
theorem fz_lst {xs : List Dt} : (Ow.lst xs).fz = .lst xs := rfl
theorem fz_dk {ks : List Key} {xs : List Dt} : (Ow.dk ks xs).fz = .dk ks xs := rfl
theorem fz_dt {ks : List (List Key)} {xs : List Dt} : (Ow.dt ks xs).fz = .dt ks xs := rfl
theorem LINE_W : LINE = 16777216 := rfl
theorem take_W {m : Int} {Q : Dt → Prop} {E : Xc → Prop} : F_law_take [.hand, .d (.int m)] Q E = ((0 < m ∧ m < 1073741824) ∧ ∀ r : Nat, (r : Int) < m → Q (.int r)) := rfl
end Mine

namespace Mine
open PySem PySem.Spec PyProof.Rows L2
/-! ### instances of one's own classes: fields -/
/-- which attributes of which classes are plain -/
def FldOk (K : PySem.W.Frag) (tab : Str → Str → Bool) : Prop := ∀ C f, tab C f = true → Cls K (He.ga K C) ∧ NoAttr K (He.ga K C) f
theorem DenAll.look {K : PySem.W.Frag} {H : Hp} {f : Str} : ∀ {ns : List Str} {vs : List V} {ds : List Dt} {x : Dt}, DenAll K H vs ds → (ns.zip ds).lookup f = some x → ∃ v, (ns.zip vs).lookup f = some v ∧ Den K H v x
  | [], _, _, _, _, e => by simp at e
  | n :: ns, _, _, _, .nil, e => by simp at e
  | n :: ns, v :: vs, d :: ds, x, .cons a r, e => by
    rw [List.zip_cons_cons, List.lookup_cons] at e ⊢
    cases h : (f == n) with
    | true => rw [h] at e; cases e; exact ⟨v, rfl, a⟩
    | false => rw [h] at e; exact DenAll.look r e
theorem DenAll.lookN {K : PySem.W.Frag} {H : Hp} {f : Str} : ∀ {ns : List Str} {vs : List V} {ds : List Dt}, DenAll K H vs ds → (ns.zip ds).lookup f = none → (ns.zip vs).lookup f = none
  | [], _, _, _, _ => by simp
  | n :: ns, _, _, .nil, e => by simp
  | n :: ns, v :: vs, d :: ds, .cons a r, e => by
    rw [List.zip_cons_cons, List.lookup_cons] at e ⊢
    cases h : (f == n) with
    | true => rw [h] at e; cases e
    | false => rw [h] at e; exact DenAll.lookN r e
def eFld (tab : Str → Str → Bool) (f : Str) (a : DX) : DX := fun env Q E => a env (fun d => match d with
  | .ins C ns ds => tab C f = true ∧ ∃ x, (ns.zip ds).lookup f = some x ∧ Q x
  | _ => False) E
/-- self.f while self is made -/
def eFldS (tab : Str → Str → Bool) (f : Str) (i : Nat) : DX := fun env Q _ => match env[i]? with
  | some (.ins C ns ds) => tab C f = true ∧ ∃ x, (ns.zip ds).lookup f = some x ∧ Q x
  | _ => False
/-- self.f = e: a new field, or an old one anew -/
def putNs (f : Str) : List Str → List Str
  | [] => [f]
  | n :: ns => if n = f then n :: ns else n :: putNs f ns
def putDs (f : Str) (y : Dt) : List Str → List Dt → List Dt
  | n :: ns, d :: ds => if n = f then y :: ds else d :: putDs f y ns ds
  | _, _ => [y]
def sSetF (tab : Str → Str → Bool) (f : Str) (i : Nat) (e : DX) : DSt := fun d env => match env[i]? with
  | some (.ins C ns ds) => e env (fun y => tab C f = true ∧ i = 0 ∧ ns.length < 900 ∧ d.nx (env.set i (.ins C (putNs f ns) (putDs f y ns ds)))) (d.xc env)
  | _ => False
theorem putF_zip {K : PySem.W.Frag} {H : Hp} {f : Str} {v : V} {y : Dt} (hv : Den K H v y) : ∀ {ns : List Str} {vs : List V} {ds : List Dt}, ns.length = vs.length → DenAll K H vs ds →
    ∃ vs', putF f v (ns.zip vs) = (putNs f ns).zip vs' ∧ (putNs f ns).length = vs'.length ∧ DenAll K H vs' (putDs f y ns ds)
  | [], [], _, _, .nil => ⟨[v], rfl, rfl, .cons hv .nil⟩
  | n :: ns, u :: vs, d :: ds, l, .cons a r => by
    by_cases c : n = f
    · subst c
      refine ⟨v :: vs, ?_, ?_, ?_⟩
      · show (if n = n then _ else _) = (if n = n then _ else _ : List Str).zip _
        rw [if_pos rfl, if_pos rfl]; rfl
      · show (if n = n then _ else _ : List Str).length = _
        rw [if_pos rfl]; exact l
      · show DenAll K H _ (if n = n then _ else _)
        rw [if_pos rfl]; exact .cons hv r
    · obtain ⟨vs', h1, h2, h3⟩ := putF_zip (f := f) hv (ns := ns) (by simpa using l) r
      refine ⟨u :: vs', ?_, ?_, ?_⟩
      · show (if n = f then _ else _) = (if n = f then _ else _ : List Str).zip _
        rw [if_neg c, if_neg c]; exact congrArg ((n, u) :: ·) h1
      · show (if n = f then _ else _ : List Str).length = _
        rw [if_neg c, List.length_cons, List.length_cons, h2]
      · show DenAll K H _ (if n = f then _ else _)
        rw [if_neg c]; exact .cons a h3
section
variable {C : Bc} {X : Addr → Prop} {env : List Sl} {σ : L2.St} {H : Hp} {te : TE} {ea e : DX} {f : Str} {tab : Str → Str → Bool}
theorem de_fld (ht : FldOk C.K tab) (he : DB C te ea) : DE C (tFld C.K te f) (eFld tab f ea) := by
  intro X env σ H Q Qd Qx rp h q x
  refine he X env σ H _ _ Qx rp h (fun d v H1 f1 r1 h1 => ?_) x
  split at h1
  · obtain ⟨h2, y, h3, h4⟩ := h1
    obtain ⟨c1, c2⟩ := ht _ _ h2
    obtain ⟨p, dx, vs, rfl, hp, hl, al⟩ := r1.ins
    obtain ⟨u, hu, du⟩ := al.look h3
    exact ⟨p, _, dx, _, u, rfl, hp, c1, c2, hu, q _ _ _ f1 du h4⟩
  · exact h1.elim
theorem de_fldS {i : Nat} (ht : FldOk C.K tab) : DE C (tFld C.K (tVar i) f) (eFldS tab f i) := by
  intro X env σ H Q Qd Qx rp h q x
  unfold eFldS at h
  split at h
  · rename_i C0 ns ds e
    obtain ⟨h2, y, h3, h4⟩ := h
    obtain ⟨c1, c2⟩ := ht _ _ h2
    obtain ⟨o, e1, p, dx, vs, rfl, x1, x2, hp, hl, al⟩ := rp.slot i _ e
    obtain ⟨u, hu, du⟩ := al.look h3
    exact ⟨_, e1, p, _, dx, _, u, rfl, hp, c1, c2, hu, q _ _ _ (.refl H) du h4⟩
  · exact h.elim
/-- self, changed -/
theorem Rep.selfSet {p dx : Addr} {C0 C1 : Str} {ns ns' : List Str} {ds ds' : List Dt} {vs' : List V} (r : Rep C X env σ H) (e : env[0]? = some (.ins C0 ns ds)) (es : σ[0]? = some (some (.ref p))) (x1 : X p) (x2 : ¬ C.X0 p)
    (hl : ns'.length = vs'.length) (hme : C.me = some p) (h2 : DenAll C.K (vis H X) vs' ds') :
    Rep C X (env.set 0 (.ins C1 ns' ds')) σ (upd H p (.ins (He.ga C.K C1) dx (ns'.zip vs'))) ∧ Same (vis H X) (vis (upd H p (.ins (He.ga C.K C1) dx (ns'.zip vs'))) X) := by
  obtain ⟨o0, es0, p0, dx0, vs0, ep0, _, _, hp0, _, _⟩ := r.slot 0 _ e
  rw [es] at es0; cases es0; cases ep0
  have sm : Same (vis H X) (vis (upd H p (.ins (He.ga C.K C1) dx (ns'.zip vs'))) X) := fun a o q => by
    obtain ⟨n1, e1⟩ := vis_of q
    exact vis_mk n1 (by rw [upd_ne (fun (z : a = p) => n1 (by rw [z]; exact x1))]; exact e1)
  have h0 : C.H0 p = none := (r.new p x1).resolve_left x2
  have fm : Frm C.hd C.H0 (upd H p (.ins (He.ga C.K C1) dx (ns'.zip vs'))) := by
    refine ⟨fun a u q k => ?_, fun h c q x => ?_⟩
    · rw [upd_ne (ne_of_none q h0)]; exact r.frm.1 a u q k
    · have y := r.frm.2 h c q x
      obtain ⟨_, _, _, _, a1, a2, _⟩ := x
      obtain ⟨cells, at_, big, mix, b1, b2, b3⟩ := y
      exact ⟨cells, at_, big, mix, by rw [upd_ne (ne_of_none a1 h0)]; exact b1, by rw [upd_ne (ne_of_none a2 h0)]; exact b2, b3⟩
  have hlen : 0 < env.length := (List.getElem?_eq_some_iff.mp e).1
  refine ⟨⟨by rw [List.length_set, r.len], r.sup, r.new, fun a z => ?_, fm, fun h c q => ⟨(r.hands h c q).1, (r.hands h c q).2.1, fm.2 h c q (r.hands h c q).2.1⟩, fun j s q => ?_, fun j k ys zs ne e1 e2 => ?_, r.one.set0⟩, sm⟩
  · by_cases c : a = p
    · subst c; exact ⟨_, upd_same⟩
    · obtain ⟨o, q⟩ := r.al a z
      exact ⟨o, by rw [upd_ne c]; exact q⟩
  · rw [List.getElem?_set] at q
    by_cases c : 0 = j
    · subst c
      rw [if_pos rfl, if_pos hlen] at q
      cases q
      exact ⟨_, es, p, dx, vs', rfl, x1, x2, upd_same, ⟨hl, hme⟩, h2.mono sm⟩
    · rw [if_neg c] at q
      obtain ⟨o, e1, w⟩ := r.slot j s q
      refine ⟨o, e1, ?_⟩
      cases s with
      | no => trivial
      | d x => obtain ⟨v, e2, h⟩ := w; exact ⟨v, e2, h.mono sm⟩
      | own ys =>
        obtain ⟨p', us, rfl, y1, y2, y3, y4⟩ := w
        have ne : p' ≠ p := fun z => by rw [z, hp0] at y3; cases y3; exact y4.noins
        exact ⟨p', us, rfl, y1, y2, by rw [upd_ne ne]; exact y3, y4.mono sm⟩
      | hand => exact w
      | exc c' fs => exact w.exc sm
      | ins C2 ns2 ds2 => exact absurd (r.one j ⟨C2, ns2, ds2, q⟩).symm c
  · rw [List.getElem?_set] at e1 e2
    have a : 0 ≠ j := fun c => by
      subst c
      rw [if_pos rfl, if_pos hlen] at e1; cases e1
    have b : 0 ≠ k := fun c => by
      subst c
      rw [if_pos rfl, if_pos hlen] at e2; cases e2
    rw [if_neg a] at e1
    rw [if_neg b] at e2
    exact r.inj j k ys zs ne e1 e2
theorem dst_setF {i : Nat} (ht : FldOk C.K tab) (he : DE C te e) : DS C (sFld C.K (tVar i) te f) (sSetF tab f i e) := by
  intro X env σ H D d r l h
  unfold sSetF at h
  split at h
  · rename_i C0 ns ds ei
    refine he X env σ H _ _ _ r h (fun y v H1 f1 r1 hy => ?_) (l.xok r)
    obtain ⟨h2, rfl, h3, h4⟩ := hy
    obtain ⟨c1, c2⟩ := ht _ _ h2
    have rp1 := r.step f1
    obtain ⟨o, e1, p, dx, vs, rfl, x1, x2, hp, ⟨hl, hme⟩, al⟩ := rp1.slot 0 _ ei
    obtain ⟨vs', k1, k2, k3⟩ := putF_zip (f := f) r1 hl al
    refine ⟨_, e1, p, _, dx, _, rfl, hp, c1, c2, by rw [List.length_zip]; omega, ?_⟩
    rw [k1]
    obtain ⟨r3, sm⟩ := rp1.selfSet (C1 := C0) (dx := dx) ei e1 x1 x2 k2 hme k3
    exact l.nx _ _ _ _ r3 ((r.vs f1).trans sm) h4
  · exact h.elim
end
end Mine

namespace Mine
open PySem PySem.Spec PyProof.Rows L2
/-! ### C(..): __init__ by data; what it wants is the instance -/
def spI (K : PySem.W.Frag) (cls : Str) (F : DFn) : Sp := fun vs H Q E => ∃ (x dx : Addr) (us : List V) (H1 : Hp) (X : Addr → Prop) (hd : Hnd) (args : List Sl) (Qd : Dt → Prop) (Qx : Xc → Prop),
  vs = .ref x :: us ∧ H1 x = none ∧ H1 dx = none ∧ dx ≠ x ∧ H = upd (upd H1 dx (.own x)) x (.ins (He.ga K cls) dx []) ∧ (∀ a, X a → ∃ o, H1 a = some o) ∧ (∀ h c, hd = some (h, c) → X h ∧ HandC H1 h c) ∧ SlAll K hd X H1 us args ∧ F args Qd Qx ∧
  (∀ d H', Frm hd H1 H' → Den K (vis H' X) (.ref x) d → Qd d → Q .non H') ∧ (∀ y cls' dx' H', Frm hd H1 H' → XRep K (vis H' X) cls' dx' y → Qx y → E cls' dx' H')
/-- np parameters with self, N names in all -/
def mkI (cls : Str) (np N : Nat) (s : DSt) : DFn := fun args Q E => args.length + 1 = np ∧ s ⟨fun (env : List Sl) => match env[0]? with
  | some (Sl.ins C ns ds) => Q (.ins C ns ds)
  | _ => False, fun _ => False, fun _ => False, fun _ => False, fun _ x => E x⟩ (.ins cls [] [] :: (args ++ List.replicate (N - np) .no))
def mkI0 (cls : Str) (np N : Nat) (s : DSt) : DFn := fun args Q E => args.length + 1 = np ∧ s ⟨fun (env : List Sl) => match env[0]? with
  | some (Sl.ins C ns ds) => Q (.ins C ns ds)
  | _ => False, fun _ => False, fun _ => False, fun _ => False, fun _ _ => False⟩ (.ins cls [] [] :: (args ++ List.replicate (N - np) .no))
section
variable {C : Bc} {F : DFn} {cls : Str} {dvs : List V} {dd : List Sl} {t : TA} {a : DSX}
theorem de_make {E : XK} (hE : C.E = fun _ => E) (hd : Dvs dvs dd) (ha : DAs C t a) : DE C (tMake (He.ga C.K cls) (spI C.K cls F) dvs E t) (eCall F dd a) := by
  intro X env σ H Q Qd Qx rp he q x
  refine ha X env σ H _ _ Qx rp he (fun ss vs H1 f1 r1 he1 => ?_) x
  intro p dx np nd ne
  have rp1 := rp.step f1
  refine ⟨p, dx, vs ++ dvs, H1, X, C.hd, ss ++ dd, Qd, Qx, rfl, np, nd, ne, rfl, rp1.al, fun h c e => ⟨rp1.hX h c e, (rp1.hands h c e).2.2⟩, SlAll.append r1 (hd C.K C.hd X H1), he1, fun d H' f den qd => ⟨rfl, q d _ H' (f1.trans f) den qd⟩, fun y cls' dx' H' f r z => ?_⟩
  have := x y cls' dx' H' (f1.trans f) r z
  rw [hE] at this
  exact this
theorem de_make0 (hd : Dvs dvs dd) (ha : DAs C t a) : DE C (tMake (He.ga C.K cls) (spI C.K cls F) dvs E0 t) (eCall0 F dd a) := by
  intro X env σ H Q Qd Qx rp he q x
  refine ha X env σ H _ _ Qx rp he (fun ss vs H1 f1 r1 he1 => ?_) x
  intro p dx np nd ne
  have rp1 := rp.step f1
  exact ⟨p, dx, vs ++ dvs, H1, X, C.hd, ss ++ dd, Qd, fun _ => False, rfl, np, nd, ne, rfl, rp1.al, fun h c e => ⟨rp1.hX h c e, (rp1.hands h c e).2.2⟩, SlAll.append r1 (hd C.K C.hd X H1), he1, fun d H' f den qd => ⟨rfl, q d _ H' (f1.trans f) den qd⟩, fun _ _ _ _ _ _ z => z.elim⟩
end
theorem spI_len {K : PySem.W.Frag} {F : DFn} {cls : Str} {np : Nat} (hF : ∀ args Q E, F args Q E → args.length + 1 = np) : ∀ vs H Q E, spI K cls F vs H Q E → vs.length = np := by
  rintro vs H Q E ⟨x, dx, us, H1, X, hd, args, Qd, Qx, rfl, _, _, _, _, _, _, sl, h, _⟩
  rw [List.length_cons, sl.length]; exact hF _ _ _ h
/-- where the body of __init__ begins -/
theorem rep_startI {K : PySem.W.Frag} {X : Addr → Prop} {hd : Hnd} {H1 : Hp} {E : L2.St → XK} {cls : Str} {x dx : Addr} {us : List V} {args : List Sl} {N : List Str} (np : H1 x = none) (nd : H1 dx = none) (ne : dx ≠ x) (al : ∀ a, X a → ∃ o, H1 a = some o) (hh : ∀ h c, hd = some (h, c) → X h ∧ HandC H1 h c) (sl : SlAll K hd X H1 us args) :
    Rep ⟨K, H1, X, hd, none, E, some x⟩ (fun a => X a ∨ a = x) (.ins cls [] [] :: (args ++ List.replicate (N.length - (args.length + 1)) .no)) (L2.start N (.ref x :: us)) (upd (upd H1 dx (.own x)) x (.ins (He.ga K cls) dx [])) := by
  have hl := sl.length
  have nX : ¬ X x := fun z => by obtain ⟨o, e⟩ := al x z; rw [np] at e; cases e
  have f : Frm hd H1 (upd (upd H1 dx (.own x)) x (.ins (He.ga K cls) dx [])) := (Frm.upd nd).trans (.upd (by rw [upd_ne (Ne.symm ne)]; exact np))
  have sm : Same (vis H1 X) (vis (upd (upd H1 dx (.own x)) x (.ins (He.ga K cls) dx [])) fun a => X a ∨ a = x) := fun a o e => by
    obtain ⟨n1, e1⟩ := vis_of e
    have a1 : a ≠ x := ne_of_none e1 np
    have a2 : a ≠ dx := ne_of_none e1 nd
    exact vis_mk (fun z => z.elim n1 a1) (by rw [upd_ne a1, upd_ne a2]; exact e1)
  have slots : ∀ {us : List V} {args : List Sl}, SlAll K hd X H1 us args → ∀ (i : Nat) (s : Sl), args[i]? = some s → (∃ o, (us.map some)[i]? = some o ∧ SlRep ⟨K, H1, X, hd, none, E, some x⟩ (fun a => X a ∨ a = x) (upd (upd H1 dx (.own x)) x (.ins (He.ga K cls) dx [])) s o) ∧ (∀ xs, s ≠ .own xs) ∧ ∀ C0 ns ds, s ≠ .ins C0 ns ds := by
    intro us args sl
    induction sl with
    | nil => intro i s e; simp at e
    | d a r ih =>
      intro i s e
      cases i with
      | zero => simp at e; subst e; exact ⟨⟨_, rfl, _, rfl, a.mono sm⟩, (fun _ z => by cases z), fun _ _ _ z => by cases z⟩
      | succ i =>
        obtain ⟨⟨o, q⟩, n⟩ := ih i s (by simpa using e)
        exact ⟨⟨o, by simpa using q⟩, n⟩
    | hand a r ih =>
      intro i s e
      cases i with
      | zero => simp at e; subst e; exact ⟨⟨_, rfl, _, _, rfl, a⟩, (fun _ z => by cases z), fun _ _ _ z => by cases z⟩
      | succ i =>
        obtain ⟨⟨o, q⟩, n⟩ := ih i s (by simpa using e)
        exact ⟨⟨o, by simpa using q⟩, n⟩
  have rest : ∀ (i : Nat) (s : Sl), (args ++ List.replicate (N.length - (args.length + 1)) Sl.no)[i]? = some s → (∀ xs, s ≠ .own xs) ∧ ∀ C0 ns ds, s ≠ .ins C0 ns ds := fun i s e => by
    rw [List.getElem?_append] at e
    split at e
    · exact (slots sl i s e).2
    · rw [List.getElem?_replicate] at e
      split at e
      · cases e; exact ⟨(fun _ z => by cases z), fun _ _ _ z => by cases z⟩
      · cases e
  refine ⟨?_, fun a z => .inl z, fun a z => ?_, fun a z => ?_, f, fun h c e => ⟨(hh h c e).1, (hh h c e).2, f.2 h c e (hh h c e).2⟩, fun i s e => ?_, fun i j xs ys n e1 e2 => ?_, fun i ⟨C0, ns, ds, e⟩ => ?_⟩
  · unfold L2.start
    simp [hl]
  · rcases z with z | rfl
    · exact .inl z
    · exact .inr np
  · rcases z with z | rfl
    · obtain ⟨o, e⟩ := al a z
      exact ⟨o, by rw [upd_ne (ne_of_none e np), upd_ne (ne_of_none e nd)]; exact e⟩
    · exact ⟨_, upd_same⟩
  · cases i with
    | zero =>
      simp at e
      subst e
      exact ⟨some (.ref x), rfl, x, dx, [], rfl, .inr rfl, nX, upd_same, ⟨rfl, rfl⟩, .nil⟩
    | succ i =>
      have e : (args ++ List.replicate (N.length - (args.length + 1)) Sl.no)[i]? = some s := e
      unfold L2.start
      rw [List.getElem?_append] at e
      rw [List.map_cons, List.cons_append, List.getElem?_cons_succ, List.getElem?_append, List.length_map, hl]
      split at e
      · rename_i c
        rw [if_pos c]
        exact (slots sl i s e).1
      · rename_i c
        rw [if_neg c]
        rw [List.getElem?_replicate] at e ⊢
        split at e
        · rename_i c2
          cases e
          rw [List.length_cons, hl, if_pos c2]
          exact ⟨_, rfl, trivial⟩
        · cases e
  · cases i with
    | zero => simp at e1
    | succ i => exact absurd rfl ((rest i _ e1).1 xs)
  · cases i with
    | zero => rfl
    | succ i => exact absurd rfl ((rest i _ e).2 C0 ns ds)
theorem body_ofI {K : PySem.W.Frag} {N : List Str} {np n : Nat} {cls : Str} {sb : DSt} {t : TS} {vs : List V} {H : Hp} {Q : VK} {E : XK} (hn : N.length = n) (h : spI K cls (mkI cls np n sb) vs H Q E)
    (hb : ∀ H X hd x, DS ⟨K, H, X, hd, none, fun _ => E, some x⟩ t sb) : t { nx := fun _ H' => Q .non H', rt := Q } (L2.start N vs) H := by
  obtain ⟨x, dx, us, H1, X, hd, args, Qd, Qx, rfl, np', nd, ne, rfl, al, hh, sl, ⟨ha, h⟩, q, xx⟩ := h
  have r := rep_startI (N := N) (cls := cls) (E := fun _ => E) np' nd ne al hh sl
  rw [ha, hn] at r
  refine hb H1 X hd x _ _ _ _ _ _ r ⟨fun X' env σ H' r' s' h' => ?_, fun _ _ _ _ _ _ _ _ _ (h' : False) => h'.elim, fun _ _ _ _ _ _ (h' : False) => h'.elim, fun _ _ _ _ _ _ (h' : False) => h'.elim, fun X' env σ H' z cls dx r' s' w h' => xx z cls dx H' r'.frm (w.mono (vis_anti r'.sup)) h'⟩ h
  have h' : (match env[0]? with
    | some (Sl.ins C ns ds) => Qd (.ins C ns ds)
    | _ => False) := h'
  split at h'
  · rename_i C0 ns ds e
    obtain ⟨o, e1, p, dx2, vs2, rfl, x1, x2, hp, ⟨hl, hm⟩, al2⟩ := r'.slot 0 _ e
    have hm : some x = some p := hm
    obtain rfl : x = p := by injection hm
    refine q _ H' r'.frm ?_ h'
    exact .ins (vis_mk x2 hp) hl (al2.mono (vis_anti r'.sup))
  · exact h'.elim
theorem body_ofI0 {K : PySem.W.Frag} {N : List Str} {np n : Nat} {cls : Str} {sb : DSt} {t : TS} {vs : List V} {H : Hp} {Q : VK} {E : XK} (hn : N.length = n) (h : spI K cls (mkI0 cls np n sb) vs H Q E)
    (hb : ∀ H X hd x, DS ⟨K, H, X, hd, none, fun _ _ _ _ => False, some x⟩ t sb) : t { nx := fun _ H' => Q .non H', rt := Q } (L2.start N vs) H := by
  obtain ⟨x, dx, us, H1, X, hd, args, Qd, Qx, rfl, np', nd, ne, rfl, al, hh, sl, ⟨ha, h⟩, q, xx⟩ := h
  have r := rep_startI (N := N) (cls := cls) (E := fun _ _ _ _ => False) np' nd ne al hh sl
  rw [ha, hn] at r
  refine hb H1 X hd x _ _ _ _ _ _ r ⟨fun X' env σ H' r' s' h' => ?_, fun _ _ _ _ _ _ _ _ _ (h' : False) => h'.elim, fun _ _ _ _ _ _ (h' : False) => h'.elim, fun _ _ _ _ _ _ (h' : False) => h'.elim, fun _ _ _ _ _ _ _ _ _ _ (h' : False) => h'.elim⟩ h
  have h' : (match env[0]? with
    | some (Sl.ins C ns ds) => Qd (.ins C ns ds)
    | _ => False) := h'
  split at h'
  · rename_i C0 ns ds e
    obtain ⟨o, e1, p, dx2, vs2, rfl, x1, x2, hp, ⟨hl, hm⟩, al2⟩ := r'.slot 0 _ e
    have hm : some x = some p := hm
    obtain rfl : x = p := by injection hm
    refine q _ H' r'.frm ?_ h'
    exact .ins (vis_mk x2 hp) hl (al2.mono (vis_anti r'.sup))
  · exact h'.elim
/-! ### o.m(..), o.p -/
def eMeth (c m : Str) (F : DFn) (dd : List Sl) (a : DX) (r : DSX) : DX := fun env Q E => a env (fun d => match d with
  | .ins c' ns ds => c' = c ∧ (ns.zip ds).lookup m = none ∧ r env (fun ss => F (.d (.ins c' ns ds) :: (ss ++ dd)) Q E) E
  | _ => False) E
def eMeth0 (c m : Str) (F : DFn) (dd : List Sl) (a : DX) (r : DSX) : DX := fun env Q E => a env (fun d => match d with
  | .ins c' ns ds => c' = c ∧ (ns.zip ds).lookup m = none ∧ r env (fun ss => F (.d (.ins c' ns ds) :: (ss ++ dd)) Q fun _ => False) E
  | _ => False) E
def eProp (c : Str) (F : DFn) (a : DX) : DX := fun env Q E => a env (fun d => match d with
  | .ins c' ns ds => c' = c ∧ F [.d (.ins c' ns ds)] Q fun _ => False
  | _ => False) E
def eAlt (a b : DX) : DX := fun env Q E => a env Q E ∨ b env Q E
section
variable {C : Bc} {F : DFn} {c m : Str} {dvs : List V} {dd : List Sl} {te : TE} {ea : DX} {t : TA} {a : DSX}
theorem de_meth {E : XK} (hE : C.E = fun _ => E) (hd : Dvs dvs dd) (ho : DE C te ea) (ha : DAs C t a) : DE C (tMeth (He.ga C.K c) m (spD C.K F) dvs E te t) (eMeth c m F dd ea a) := by
  intro X env σ H Q Qd Qx rp he q x
  refine ho X env σ H _ _ Qx rp he (fun d v H1 f1 r1 h1 => ?_) x
  split at h1
  · rename_i c' ns ds
    obtain ⟨rfl, h2, h3⟩ := h1
    have rp1 := rp.step f1
    have r1 : Den C.K (vis H1 X) v (.ins c' ns ds) := r1
    have r1' := r1
    cases r1 with
    | @ins p dx _ _ vs _ hp hl al =>
      refine ⟨p, dx, _, rfl, vis_sub _ _ hp, al.lookN h2, ?_⟩
      refine ha X env σ H1 _ _ Qx rp1 h3 (fun ss us H2 f2 r2 h4 => ?_) (x.step f1)
      exact spD_use (rp1.step f2) (.d (r1'.mono (rp1.vs f2)) (SlAll.append r2 (hd C.K C.hd X H2))) h4 (fun d v H' f h => q d v H' (f1.trans (f2.trans f)) h) fun y cls dx H' f r z => by
        have := x y cls dx H' (f1.trans (f2.trans f)) r z
        rw [hE] at this
        exact this
  · exact h1.elim
theorem de_meth0 (hd : Dvs dvs dd) (ho : DE C te ea) (ha : DAs C t a) : DE C (tMeth (He.ga C.K c) m (spD C.K F) dvs E0 te t) (eMeth0 c m F dd ea a) := by
  intro X env σ H Q Qd Qx rp he q x
  refine ho X env σ H _ _ Qx rp he (fun d v H1 f1 r1 h1 => ?_) x
  split at h1
  · rename_i c' ns ds
    obtain ⟨rfl, h2, h3⟩ := h1
    have rp1 := rp.step f1
    have r1 : Den C.K (vis H1 X) v (.ins c' ns ds) := r1
    have r1' := r1
    cases r1 with
    | @ins p dx _ _ vs _ hp hl al =>
      refine ⟨p, dx, _, rfl, vis_sub _ _ hp, al.lookN h2, ?_⟩
      refine ha X env σ H1 _ _ Qx rp1 h3 (fun ss us H2 f2 r2 h4 => ?_) (x.step f1)
      exact spD_use (rp1.step f2) (.d (r1'.mono (rp1.vs f2)) (SlAll.append r2 (hd C.K C.hd X H2))) h4 (fun d v H' f h => q d v H' (f1.trans (f2.trans f)) h) fun _ _ _ _ _ _ z => z.elim
  · exact h1.elim
theorem de_prop (ho : DE C te ea) : DE C (tProp (He.ga C.K c) (spD C.K F) [] E0 te) (eProp c F ea) := by
  intro X env σ H Q Qd Qx rp he q x
  refine ho X env σ H _ _ Qx rp he (fun d v H1 f1 r1 h1 => ?_) x
  split at h1
  · rename_i c' ns ds
    obtain ⟨rfl, h3⟩ := h1
    have rp1 := rp.step f1
    have r1 : Den C.K (vis H1 X) v (.ins c' ns ds) := r1
    have r1' := r1
    cases r1 with
    | @ins p dx _ _ vs _ hp hl al =>
      refine ⟨p, dx, _, rfl, vis_sub _ _ hp, ?_⟩
      exact spD_use rp1 (.d r1' .nil) h3 (fun d v H' f h => q d v H' (f1.trans f) h) fun _ _ _ _ _ _ z => z.elim
  · exact h1.elim
end
/-! ### isinstance(x, C), C a class of one's own -/
def eIsI (tab : Str → Option Bool) (a : DX) : DX := fun env Q E => a env (fun d => match d with
  | .ins c _ _ => ∃ b, tab c = some b ∧ Q (.bl b)
  | d => d.kind.isSome = true ∧ Q (.bl false)) E
/-- what of the text isinstance asks: instances of the classes in the table, and the built-in kinds -/
structure IsOk (K : PySem.W.Frag) (cn : Str) (tab : Str → Option Bool) : Prop where
  ins : ∀ c b, tab c = some b → PySem.W.kitOne K (.ref (He.ga K c)) (.ref (He.ga K cn)) = some b ∧ ∀ (H : Hp) (a dx : Addr) (fs : List (Str × V)), H a = some (.ins (He.ga K c) dx fs) → TyX K H (.ref a) (.ref (He.ga K c))
  kin : ∀ n, n ∈ ["NoneType", "bool", "int", "str", "tuple", "list", "dict"] → PySem.W.kitOne K (.type n) (.ref (He.ga K cn)) = some false
section
variable {C : Bc} {te : TE} {ea : DX} {cn : Str} {tab : Str → Option Bool}
theorem de_isI (hk : IsOk C.K cn tab) (he : DB C te ea) : DE C (tCB (rIsi C.K) (tCons te (tCons (tC (.ref (He.ga C.K cn))) tNil))) (eIsI tab ea) := by
  intro X env σ H Q Qd Qx rp h q x
  refine he X env σ H _ _ Qx rp h (fun d v H1 f1 r1 h1 => ?_) x
  show ∃ (x c : V) (t u : Value) (b : Bool), [v, .ref (He.ga C.K cn)] = [x, c] ∧ _
  split at h1
  · obtain ⟨b, hb, h2⟩ := h1
    obtain ⟨k1, k2⟩ := hk.ins _ _ hb
    obtain ⟨p, dx, vs, rfl, hp, hl, al⟩ := r1.ins
    exact ⟨_, _, _, _, b, rfl, .own _, k2 _ _ _ _ hp, k1, q _ _ _ f1 (.bl _) h2⟩
  · obtain ⟨hn, h2⟩ := h1
    obtain ⟨n, hn⟩ := Option.isSome_iff_exists.mp hn
    exact ⟨_, _, _, _, false, rfl, .own _, r1.tyx hn, hk.kin n (Dt.kind_mem hn), q _ _ _ f1 (.bl _) h2⟩
end
end Mine

namespace Mine
open PySem PySem.Spec PyProof.Rows L2
/-! ### the head's own hook: defs at any address, facts, one more Bool -/
def obsN (n : Nat) (fa : List He.Fa) (fn : List He5.DefA) (ex : PySem.W.Frag → Bool) (g : Addr → Option Obj) : He.AlD × Bool := (He5.obsAG n fa fn g, ex (He.frG g (He5.asA g n)))
def hookN (n : Nat) (fa : List He.Fa) (fn : List He5.DefA) (ex : PySem.W.Frag → Bool) : PySem.W.Hook where
  α := He.AlD × Bool
  obs := fun s => obsN n fa fn ex s.heap.get?
  val := fun _ => (He5.valA fn, true)
  says := fun _ h => ∃ K : PySem.W.Frag, K.In h ∧ He5.SaysA fa fn K ∧ ex K = true
  of := fun _ _ e => ⟨_, He.frG_in, congrArg (fun z : He.AlD × Bool => z.1) e, congrArg (fun z : He.AlD × Bool => z.2) e⟩
  keeps := fun _ _ _ ⟨K, hK, c⟩ k => ⟨K, PySem.W.Frag.In.keeps hK k, c⟩
theorem obsN_eq {n : Nat} {fa : List He.Fa} {fn : List He5.DefA} {ex : PySem.W.Frag → Bool} {g : Addr → Option Obj} {s : Shared} (h : ∀ a, g a = s.heap.get? a) : obsN n fa fn ex g = (hookN n fa fn ex).obs s := by
  have e : g = s.heap.get? := funext h
  rw [e] <;> rfl
/-! ### a property: its record, its getter -/
def gA (K : PySem.W.Frag) (C m : Str) : Addr := match PySem.W.recIn K (He.ma K (He.ga K C) m) "property" with
  | some (.ref g :: _) => g
  | _ => 0
def propB (C m : Str) (K : PySem.W.Frag) : Bool := He.eqO (PySem.W.findIn K (.ref (He.ga K C)) m) (some (some (.ref (He.ma K (He.ga K C) m)))) &&
  (He.eqO (PySem.W.specialIn K (.ref (He.ma K (He.ga K C) m)) "__get__") (some (some (.builtin "property.__get__"))) && (decide (PySem.W.takesIn K (.ref (He.ma K (He.ga K C) m)) = some true) && (match PySem.W.recIn K (He.ma K (He.ga K C) m) "property" with
    | some (.ref _ :: _) => true
    | _ => false)))
theorem propB_ok {K : PySem.W.Frag} {C m : Str} (h : propB C m K = true) : PropOf K (He.ga K C) m (He.ma K (He.ga K C) m) (gA K C m) := by
  obtain ⟨h1, h⟩ := He.ba h
  obtain ⟨h2, h⟩ := He.ba h
  obtain ⟨h3, h4⟩ := He.ba h
  refine ⟨He.eqO_ok h1, He.eqO_ok h2, of_decide_eq_true h3, ?_⟩
  unfold gA
  split at h4
  · rename_i g r e
    exact ⟨r, by rw [e]⟩
  · cases h4
end Mine

namespace Mine
open PySem PySem.Spec PyProof.Rows L2
/-! ### dicts: keys whole numbers and texts, or tuples of them -/
section
variable {κ : Type} [DecidableEq κ]
def valD : List κ → List Dt → κ → Option Dt
  | k :: ks, d :: ds, j => if k = j then some d else valD ks ds j
  | _, _, _ => none
def putKs : List κ → κ → List κ
  | [], j => [j]
  | k :: ks, j => if k = j then k :: ks else k :: putKs ks j
def putVs : List κ → List Dt → κ → Dt → List Dt
  | k :: ks, d :: ds, j, y => if k = j then y :: ds else d :: putVs ks ds j y
  | _, _, _, y => [y]
theorem DenAll.val {K : PySem.W.Frag} {H : Hp} {j : κ} : ∀ {ks : List κ} {vs : List V} {ds : List Dt}, ks.length = vs.length → DenAll K H vs ds →
    (valD ks ds j = none ∧ valV (ks.zip vs) j = none) ∨ ∃ d v, valD ks ds j = some d ∧ valV (ks.zip vs) j = some v ∧ Den K H v d
  | [], [], _, _, .nil => .inl ⟨rfl, rfl⟩
  | k :: ks, v :: vs, d :: ds, l, .cons a r => by
    rw [List.zip_cons_cons]
    unfold valD
    by_cases c : k = j
    · rw [if_pos c, valV_pos (p := (k, v)) c]
      exact .inr ⟨d, v, rfl, rfl, a⟩
    · rw [if_neg c, valV_neg (p := (k, v)) c]
      exact DenAll.val (by simpa using l) r
theorem putK_nil (j : κ) (v : V) : putK [] j v = [(j, v)] := rfl
theorem putK_pos {k j : κ} {u v : V} {r : List (κ × V)} (c : k = j) (nd : ∀ p ∈ r, p.1 ≠ j) : putK ((k, u) :: r) j v = (k, v) :: r := by
  unfold putK
  rw [if_pos (by simp [c]), List.map_cons]
  simp only [c, if_true]
  congr 1
  refine (List.map_congr_left fun p hp => ?_).trans (List.map_id r)
  rw [if_neg (nd p hp)]; rfl
theorem putK_neg {k j : κ} {u v : V} {r : List (κ × V)} (c : ¬ k = j) : putK ((k, u) :: r) j v = (k, u) :: putK r j v := by
  unfold putK
  rw [List.any_cons]
  simp only [c, decide_false, Bool.false_or, List.map_cons, if_false]
  split <;> rfl
/-- what stands in a dict of one's own: no key twice -/
theorem putF_K {K : PySem.W.Frag} {H : Hp} {j : κ} {v : V} {y : Dt} (hv : Den K H v y) : ∀ {ks : List κ} {vs : List V} {ds : List Dt}, ks.Nodup → ks.length = vs.length → DenAll K H vs ds →
    ∃ vs', putK (ks.zip vs) j v = (putKs ks j).zip vs' ∧ (putKs ks j).length = vs'.length ∧ DenAll K H vs' (putVs ks ds j y)
  | [], [], _, _, _, .nil => ⟨[v], rfl, rfl, .cons hv .nil⟩
  | k :: ks, u :: vs, d :: ds, nd, l, .cons a r => by
    have nd2 := List.nodup_cons.mp nd
    by_cases c : k = j
    · refine ⟨v :: vs, ?_, ?_, ?_⟩
      · unfold putKs
        rw [if_pos c, List.zip_cons_cons, List.zip_cons_cons]
        exact putK_pos c fun p hp z => nd2.1 (by rw [c, ← z]; exact (List.of_mem_zip hp).1)
      · unfold putKs; rw [if_pos c]; exact l
      · unfold putVs; rw [if_pos c]; exact .cons hv r
    · obtain ⟨vs', h1, h2, h3⟩ := putF_K (j := j) hv (ks := ks) nd2.2 (by simpa using l) r
      refine ⟨u :: vs', ?_, ?_, ?_⟩
      · unfold putKs
        rw [if_neg c, List.zip_cons_cons, putK_neg c, h1]; rfl
      · unfold putKs; rw [if_neg c, List.length_cons, List.length_cons, h2]
      · unfold putVs; rw [if_neg c]; exact .cons a h3
end
def keyOf : Dt → Option Key
  | .int i => some (.inl i)
  | .str x => some (.inr x)
  | _ => none
def keysOf : List Dt → Option (List Key)
  | [] => some []
  | d :: ds => match keyOf d, keysOf ds with
    | some k, some ks => some (k :: ks)
    | _, _ => none
theorem Den.key {K : PySem.W.Frag} {H : Hp} {v : V} {d : Dt} {k : Key} (h : Den K H v d) (e : keyOf d = some k) : v = kV k := by
  cases d <;> first
    | (injection e with e; subst e; exact h.flat rfl)
    | cases e
theorem DenAll.keys {K : PySem.W.Frag} {H : Hp} : ∀ {ds : List Dt} {vs : List V} {ks : List Key}, DenAll K H vs ds → keysOf ds = some ks → vs = ks.map kV
  | [], _, _, .nil, e => by cases e; rfl
  | d :: ds, _, ks, .cons a r, e => by
    unfold keysOf at e
    split at e
    · rename_i k ks' e1 e2
      cases e
      rw [List.map_cons, a.key e1, r.keys e2]
    · cases e
/-- a dict's thing at a key; a dict with a thing more -/
def Ow.get : Ow → Dt → Option (Option Dt)
  | .dk ks ds, y => (keyOf y).map fun k => valD ks ds k
  | .dt ks ds, .tup xs => (keysOf xs).map fun k => valD ks ds k
  | _, _ => none
def Ow.put : Ow → Dt → Dt → Option Ow
  | .dk ks ds, y, z => (keyOf y).map fun k => .dk (putKs ks k) (putVs ks ds k z)
  | .dt ks ds, .tup xs, z => (keysOf xs).map fun k => .dt (putKs ks k) (putVs ks ds k z)
  | _, _, _ => none
def Ow.keysN : Ow → Prop
  | .lst _ => True
  | .dk ks _ => ks.Nodup ∧ ks.length < LINE
  | .dt ks _ => ks.Nodup ∧ ks.length < LINE
/-- data that is a dict -/
def Dt.ow : Dt → Option Ow
  | .dk ks ds => some (.dk ks ds)
  | .dt ks ds => some (.dt ks ds)
  | _ => none
theorem DenO.get {K : PySem.W.Frag} {H H' : Hp} {p : Addr} {u : HO} {w : Ow} {v : V} {y : Dt} {r : Option Dt} (h : DenO K H' u w) (s : Same H' H) (e : H p = some u) (hy : Den K H' v y) (g : w.get y = some r) :
    IsD H p ∧ ((r = none ∧ DGet H p v none) ∨ ∃ d x, r = some d ∧ DGet H p v (some x) ∧ Den K H' x d) := by
  cases h with
  | lst a => cases g
  | @dk ks vs ds l a =>
    obtain ⟨k, e1, rfl⟩ := Option.map_eq_some_iff.mp g
    have ev := hy.key e1
    subst ev
    refine ⟨.inl ⟨_, .inl e⟩, ?_⟩
    rcases a.val (j := k) l with ⟨h1, h2⟩ | ⟨d, x, h1, h2, h3⟩
    · exact .inl ⟨h1, by rw [← h2]; exact .k e⟩
    · exact .inr ⟨d, x, h1, by rw [← h2]; exact .k e, h3⟩
  | @dt ks vs ds l a =>
    cases y with
    | tup xs =>
      obtain ⟨k, e1, rfl⟩ := Option.map_eq_some_iff.mp g
      cases hy with
      | tup hb ax =>
        have ev := ax.keys e1
        subst ev
        refine ⟨.inr ⟨_, .inl e⟩, ?_⟩
        rcases a.val (j := k) l with ⟨h1, h2⟩ | ⟨d, x, h1, h2, h3⟩
        · exact .inl ⟨h1, by rw [← h2]; exact .t e (s _ _ hb)⟩
        · exact .inr ⟨d, x, h1, by rw [← h2]; exact .t e (s _ _ hb), h3⟩
    | _ => cases g
theorem DenO.put {K : PySem.W.Frag} {H H' : Hp} {p : Addr} {u : HO} {w w' : Ow} {v x : V} {y z : Dt} (h : DenO K H' u w) (s : Same H' H) (e : H p = some u) (hy : Den K H' v y) (hz : Den K H' x z) (hn : w.keysN) (g : w.put y z = some w') :
    ∃ u', DPut H p v x (upd H p u') ∧ DenO K H' u' w' := by
  cases h with
  | lst a => cases g
  | @dk ks vs ds l a =>
    obtain ⟨k, e1, rfl⟩ := Option.map_eq_some_iff.mp g
    have ev := hy.key e1
    subst ev
    obtain ⟨vs', h1, h2, h3⟩ := putF_K (j := k) hz hn.1 l a
    refine ⟨_, .k e (by rw [List.length_zip, sizeLine_eq]; exact Nat.lt_of_le_of_lt (Nat.min_le_left _ _) hn.2), ?_⟩
    rw [h1]; exact .dk h2 h3
  | @dt ks vs ds l a =>
    cases y with
    | tup xs =>
      obtain ⟨k, e1, rfl⟩ := Option.map_eq_some_iff.mp g
      cases hy with
      | tup hb ax =>
        have ev := ax.keys e1
        subst ev
        obtain ⟨vs', h1, h2, h3⟩ := putF_K (j := k) hz hn.1 l a
        refine ⟨_, .t e (s _ _ hb) (by rw [List.length_zip, sizeLine_eq]; exact Nat.lt_of_le_of_lt (Nat.min_le_left _ _) hn.2), ?_⟩
        rw [h1]; exact .dt h2 h3
    | _ => cases g
end Mine

namespace Mine
open PySem PySem.Spec PyProof.Rows L2
theorem units1 {k : Nat} {A : Around} (hr : Room k A) : A.units + 1 < cLine := by have := hr.units; omega
/-! ### dicts that are read -/
def BorD : RR := fun C X _ H v d => ∃ w p u, d.ow = some w ∧ v = .ref p ∧ (∀ h c, C.hd = some (h, c) → p ≠ h) ∧ H p = some u ∧ DenO C.K (vis H X) u w
theorem Dt.ow_fz {w : Ow} (h : w.fz.ow.isSome = true) : w.fz.ow = some w := by cases w <;> first | rfl | cases h
theorem Ow.isD {K : PySem.W.Frag} {H H' : Hp} {d : Dt} {w : Ow} {u : HO} {p : Addr} (e : d.ow = some w) (h : DenO K H' u w) (h1 : H p = some u) : IsD H p := by
  cases h with
  | lst a => cases d <;> cases e
  | dk l a => exact .inl ⟨_, .inl h1⟩
  | dt l a => exact .inr ⟨_, .inl h1⟩
/-- a dict by its name, one's own or not -/
def eVarD (i : Nat) : DX := fun env Q _ => match env[i]? with
  | some (.d x) => x.ow.isSome = true ∧ Q x
  | some (.own w) => w.fz.ow.isSome = true ∧ Q w.fz
  | _ => False
/-- any dict -/
def eDic (a : DX) : DX := fun env Q E => a env (fun x => x.ow.isSome = true ∧ Q x) E
def eGet1 (ed ek : DX) : DX := fun env Q E => ed env (fun d => ek env (fun k => ∃ w r, d.ow = some w ∧ w.get k = some r ∧ Q (r.getD .non)) E) E
def eGet2 (ed ek ez : DX) : DX := fun env Q E => ed env (fun d => ek env (fun k => ez env (fun z => ∃ w r, d.ow = some w ∧ w.get k = some r ∧ Q (r.getD z)) E) E) E
def eAtD (ed ek : DX) : DX := fun env Q E => ed env (fun d => ek env (fun k => ∃ w r, d.ow = some w ∧ w.get k = some (some r) ∧ Q r) E) E
def eInD (ek ed : DX) : DX := fun env Q E => ek env (fun k => ed env (fun d => ∃ w r, d.ow = some w ∧ w.get k = some r ∧ Q (.bl r.isSome)) E) E
def eNotInD (ek ed : DX) : DX := fun env Q E => ek env (fun k => ed env (fun d => ∃ w r, d.ow = some w ∧ w.get k = some r ∧ Q (.bl (!r.isSome))) E) E
/-- x = {} -/
def sOwnD (j : Nat) (t : Bool) : DSt := fun d env => d.nx (env.set j (.own (if t = true then .dt [] [] else .dk [] [])))
/-- x[k] = e -/
def sPutD (i : Nat) (ek e : DX) : DSt := fun d env => match env[i]? with
  | some (.own w) => e env (fun y => ek env (fun k => w.keysN ∧ ∃ w', w.put k y = some w' ∧ d.nx (env.set i (.own w'))) (d.xc env)) (d.xc env)
  | _ => False
theorem Den.ow {C : Bc} {X : Addr → Prop} {env : List Sl} {σ : L2.St} {H H1 : Hp} {v : V} {x : Dt} (rp : Rep C X env σ H) (h : Den C.K (vis H X) v x) (e : x.ow.isSome = true) : BorD C X H1 H v x := by
  cases h with
  | dk h l a => exact ⟨_, _, _, rfl, rfl, fun y c q z => (vis_of h).1 (z ▸ rp.hX y c q), vis_sub _ _ h, .dk l a⟩
  | dt h l a => exact ⟨_, _, _, rfl, rfl, fun y c q z => (vis_of h).1 (z ▸ rp.hX y c q), vis_sub _ _ h, .dt l a⟩
  | _ => cases e
section
variable {C : Bc} {td ty tx : TE} {ed ek ez : DX}
theorem dd_var (i : Nat) : DEg BorD C (tVar i) (eVarD i) := by
  intro X env σ H Q Qd Qx rp he q x
  unfold eVarD at he
  split at he
  · rename_i y e
    obtain ⟨h0, he⟩ := he
    obtain ⟨v, e1, h⟩ := rp.at e
    exact ⟨v, e1, q _ v H (.refl H) (h.ow rp h0) he⟩
  · rename_i w e
    obtain ⟨h0, he⟩ := he
    obtain ⟨p, u, es, x1, x2, h1, h2⟩ := rp.ownAtO e
    exact ⟨_, es, q _ _ H (.refl H) ⟨w, p, u, Dt.ow_fz h0, rfl, rp.nh x2, h1, h2⟩ he⟩
  · exact he.elim
theorem dd_of {t : TE} {e : DX} (h : DE C t e) : DEg BorD C t (eDic e) := fun X env σ H Q Qd Qx rp he q x =>
  h X env σ H _ _ Qx rp he (fun d v H1 f1 r1 h1 => q d v H1 f1 (Den.ow (rp.step f1) r1 h1.1) h1.2) x
theorem de_get1 (hd : DEg BorD C td ed) (hk : DE C ty ek) : DE C (tDGet1 td ty) (eGet1 ed ek) := by
  intro X env σ H Q Qd Qx rp he q x
  refine hd X env σ H _ _ Qx rp he (fun d v H1 f1 ⟨w, p, u, e1, ev, n, h1, h2⟩ he1 => ?_) x
  refine ⟨p, ev, Ow.isD e1 h2 h1, ?_⟩
  refine hk X env σ H1 _ _ Qx (rp.step f1) he1 (fun k y H2 f2 r2 he2 => ?_) (x.step f1)
  obtain ⟨w', r, e2, g, he2⟩ := he2
  rw [e1] at e2; cases e2
  have h3 := f2.1 p _ h1 n
  have h4 := h2.mono ((rp.step f1).vs f2)
  rcases (h4.get vis_sub h3 r2 g).2 with ⟨rfl, dg⟩ | ⟨d', x', rfl, dg, den⟩
  · exact ⟨none, dg, q _ _ H2 (f1.trans f2) .non he2⟩
  · exact ⟨some x', dg, q _ _ H2 (f1.trans f2) den he2⟩
theorem de_get2 (hd : DEg BorD C td ed) (hk : DE C ty ek) (hz : DE C tx ez) : DE C (tDGet2 td ty tx) (eGet2 ed ek ez) := by
  intro X env σ H Q Qd Qx rp he q x
  refine hd X env σ H _ _ Qx rp he (fun d v H1 f1 ⟨w, p, u, e1, ev, n, h1, h2⟩ he1 => ?_) x
  refine ⟨p, ev, Ow.isD e1 h2 h1, ?_⟩
  refine hk X env σ H1 _ _ Qx (rp.step f1) he1 (fun k y H2 f2 r2 he2 => ?_) (x.step f1)
  refine hz X env σ H2 _ _ Qx ((rp.step f1).step f2) he2 (fun z zv H3 f3 r3 he3 => ?_) ((x.step f1).step f2)
  obtain ⟨w', r, e2, g, he3⟩ := he3
  rw [e1] at e2; cases e2
  have h3 := f3.1 p _ (f2.1 p _ h1 n) n
  have h4 := (h2.mono ((rp.step f1).vs f2)).mono (((rp.step f1).step f2).vs f3)
  have r4 : Den C.K (vis H3 X) y k := Den.mono (((rp.step f1).step f2).vs f3) r2
  rcases (h4.get vis_sub h3 r4 g).2 with ⟨rfl, dg⟩ | ⟨d', x', rfl, dg, den⟩
  · exact ⟨none, dg, q _ _ H3 (f1.trans (f2.trans f3)) r3 he3⟩
  · exact ⟨some x', dg, q _ _ H3 (f1.trans (f2.trans f3)) den he3⟩
theorem de_atD (hd : DEg BorD C td ed) (hk : DE C ty ek) : DE C (tDGet td ty) (eAtD ed ek) := by
  intro X env σ H Q Qd Qx rp he q x
  refine hd X env σ H _ _ Qx rp he (fun d v H1 f1 ⟨w, p, u, e1, ev, n, h1, h2⟩ he1 => ?_) x
  refine hk X env σ H1 _ _ Qx (rp.step f1) he1 (fun k y H2 f2 r2 he2 => ?_) (x.step f1)
  obtain ⟨w', r, e2, g, he2⟩ := he2
  rw [e1] at e2; cases e2
  have h3 := f2.1 p _ h1 n
  have h4 := h2.mono ((rp.step f1).vs f2)
  rcases (h4.get vis_sub h3 r2 g).2 with ⟨c, _⟩ | ⟨d', x', c, dg, den⟩
  · cases c
  · cases c; exact ⟨p, x', ev, dg, q _ _ H2 (f1.trans f2) den he2⟩
theorem de_inD (hk : DE C ty ek) (hd : DEg BorD C td ed) : DE C (tDIn ty td) (eInD ek ed) := by
  intro X env σ H Q Qd Qx rp he q x
  refine hk X env σ H _ _ Qx rp he (fun k y H1 f1 r1 he1 => ?_) x
  refine hd X env σ H1 _ _ Qx (rp.step f1) he1 (fun d v H2 f2 ⟨w, p, u, e1, ev, n, h1, h2⟩ he2 => ?_) (x.step f1)
  obtain ⟨w', r, e2, g, he2⟩ := he2
  rw [e1] at e2; cases e2
  have r2 : Den C.K (vis H2 X) y k := Den.mono ((rp.step f1).vs f2) r1
  rcases (h2.get vis_sub h1 r2 g).2 with ⟨rfl, dg⟩ | ⟨d', x', rfl, dg, den⟩
  · exact ⟨p, none, ev, dg, q _ _ H2 (f1.trans f2) (.bl _) he2⟩
  · exact ⟨p, some x', ev, dg, q _ _ H2 (f1.trans f2) (.bl _) he2⟩
theorem de_notInD (hk : DE C ty ek) (hd : DEg BorD C td ed) : DE C (tDNotIn ty td) (eNotInD ek ed) := by
  intro X env σ H Q Qd Qx rp he q x
  refine hk X env σ H _ _ Qx rp he (fun k y H1 f1 r1 he1 => ?_) x
  refine hd X env σ H1 _ _ Qx (rp.step f1) he1 (fun d v H2 f2 ⟨w, p, u, e1, ev, n, h1, h2⟩ he2 => ?_) (x.step f1)
  obtain ⟨w', r, e2, g, he2⟩ := he2
  rw [e1] at e2; cases e2
  have r2 : Den C.K (vis H2 X) y k := Den.mono ((rp.step f1).vs f2) r1
  rcases (h2.get vis_sub h1 r2 g).2 with ⟨rfl, dg⟩ | ⟨d', x', rfl, dg, den⟩
  · exact ⟨p, none, ev, dg, q _ _ H2 (f1.trans f2) (.bl _) he2⟩
  · exact ⟨p, some x', ev, dg, q _ _ H2 (f1.trans f2) (.bl _) he2⟩
theorem dst_ownK {j : Nat} : DS C (tAsg tDNewK (gName j)) (sOwnD j false) := by
  intro X env σ H D d r l h p n
  refine l.nx _ _ _ _ (r.setOwn (.upd n) n j upd_same (.dk (ks := []) (vs := []) rfl .nil)) (fun a o q => ?_) h
  obtain ⟨n1, e1⟩ := vis_of q
  exact vis_mk (fun z => z.elim n1 (ne_of_none e1 n)) (by rw [upd_ne (ne_of_none e1 n)]; exact e1)
theorem dst_ownT {j : Nat} : DS C (tAsg tDNewT (gName j)) (sOwnD j true) := by
  intro X env σ H D d r l h p n
  refine l.nx _ _ _ _ (r.setOwn (.upd n) n j upd_same (.dt (ks := []) (vs := []) rfl .nil)) (fun a o q => ?_) h
  obtain ⟨n1, e1⟩ := vis_of q
  exact vis_mk (fun z => z.elim n1 (ne_of_none e1 n)) (by rw [upd_ne (ne_of_none e1 n)]; exact e1)
theorem dst_putD {i : Nat} (he : DE C tx ez) (hk : DE C ty ek) : DS C (sDPut (tVar i) ty tx) (sPutD i ek ez) := by
  intro X env σ H D d r l h
  unfold sPutD at h
  split at h
  · rename_i w ei
    refine he X env σ H _ _ _ r h (fun y v H1 f1 r1 hy => ?_) (l.xok r)
    obtain ⟨p, u, es, x1, x2, h1, h2⟩ := (r.step f1).ownAtO ei
    refine ⟨_, es, ?_⟩
    refine hk X env σ H1 _ _ _ (r.step f1) hy (fun k kv H2 f2 r2 hk2 => ?_) ((l.xok r).step f1)
    obtain ⟨kn, w', g, hn⟩ := hk2
    have rp2 := (r.step f1).step f2
    have h3 := f2.1 p _ h1 (r.nh x2)
    have h4 := h2.mono ((r.step f1).vs f2)
    obtain ⟨u', dp, dn⟩ := h4.put vis_sub h3 r2 (Den.mono ((r.step f1).vs f2) r1) kn g
    obtain ⟨r3, sm⟩ := rp2.own ei es x1 x2 dn
    exact ⟨p, _, rfl, dp, l.nx _ _ _ _ r3 ((r.vs f1).trans (((r.step f1).vs f2).trans sm)) hn⟩
  · exact h.elim
end
end Mine

namespace Mine
open PySem PySem.Spec PyProof.Rows L2
theorem mkI_W (cls : Str) (np N : Nat) (s : DSt) {args} {Q} {E} : mkI cls np N s args Q E = (args.length + 1 = np ∧ s ⟨fun (env : List Sl) => match env[0]? with
  | some (Sl.ins C ns ds) => Q (.ins C ns ds)
  | _ => False, fun _ => False, fun _ => False, fun _ => False, fun _ x => E x⟩ (.ins cls [] [] :: (args ++ List.replicate (N - np) .no))) := rfl
theorem mkI0_W (cls : Str) (np N : Nat) (s : DSt) {args} {Q} {E} : mkI0 cls np N s args Q E = (args.length + 1 = np ∧ s ⟨fun (env : List Sl) => match env[0]? with
  | some (Sl.ins C ns ds) => Q (.ins C ns ds)
  | _ => False, fun _ => False, fun _ => False, fun _ => False, fun _ _ => False⟩ (.ins cls [] [] :: (args ++ List.replicate (N - np) .no))) := rfl
theorem eFld_W (tab : Str → Str → Bool) (f : Str) (a : DX) {env} {Q} {E} : eFld tab f a env Q E = (a env (fun d => match d with
  | .ins C ns ds => tab C f = true ∧ ∃ x, (ns.zip ds).lookup f = some x ∧ Q x
  | _ => False) E) := rfl
theorem eFldS_W (tab : Str → Str → Bool) (f : Str) (i : Nat) {env} {Q} {u2} : eFldS tab f i env Q u2 = (match env[i]? with
  | some (.ins C ns ds) => tab C f = true ∧ ∃ x, (ns.zip ds).lookup f = some x ∧ Q x
  | _ => False) := rfl
theorem sSetF_W (tab : Str → Str → Bool) (f : Str) (i : Nat) (e : DX) {d} {env} : sSetF tab f i e d env = (match env[i]? with
  | some (.ins C ns ds) => e env (fun y => tab C f = true ∧ i = 0 ∧ ns.length < 900 ∧ d.nx (env.set i (.ins C (putNs f ns) (putDs f y ns ds)))) (d.xc env)
  | _ => False) := rfl
theorem eMeth_W (c m : Str) (F : DFn) (dd : List Sl) (a : DX) (r : DSX) {env} {Q} {E} : eMeth c m F dd a r env Q E = (a env (fun d => match d with
  | .ins c' ns ds => c' = c ∧ (ns.zip ds).lookup m = none ∧ r env (fun ss => F (.d (.ins c' ns ds) :: (ss ++ dd)) Q E) E
  | _ => False) E) := rfl
theorem eMeth0_W (c m : Str) (F : DFn) (dd : List Sl) (a : DX) (r : DSX) {env} {Q} {E} : eMeth0 c m F dd a r env Q E = (a env (fun d => match d with
  | .ins c' ns ds => c' = c ∧ (ns.zip ds).lookup m = none ∧ r env (fun ss => F (.d (.ins c' ns ds) :: (ss ++ dd)) Q fun _ => False) E
  | _ => False) E) := rfl
theorem eProp_W (c : Str) (F : DFn) (a : DX) {env} {Q} {E} : eProp c F a env Q E = (a env (fun d => match d with
  | .ins c' ns ds => c' = c ∧ F [.d (.ins c' ns ds)] Q fun _ => False
  | _ => False) E) := rfl
theorem eVarD_W (i : Nat) {env} {Q} {u2} : eVarD i env Q u2 = (match env[i]? with
  | some (.d x) => x.ow.isSome = true ∧ Q x
  | some (.own w) => w.fz.ow.isSome = true ∧ Q w.fz
  | _ => False) := rfl
theorem eDic_W (a : DX) {env} {Q} {E} : eDic a env Q E = (a env (fun x => x.ow.isSome = true ∧ Q x) E) := rfl
theorem eGet1_W (ed ek : DX) {env} {Q} {E} : eGet1 ed ek env Q E = (ed env (fun d => ek env (fun k => ∃ w r, d.ow = some w ∧ w.get k = some r ∧ Q (r.getD .non)) E) E) := rfl
theorem eGet2_W (ed ek ez : DX) {env} {Q} {E} : eGet2 ed ek ez env Q E = (ed env (fun d => ek env (fun k => ez env (fun z => ∃ w r, d.ow = some w ∧ w.get k = some r ∧ Q (r.getD z)) E) E) E) := rfl
theorem eAtD_W (ed ek : DX) {env} {Q} {E} : eAtD ed ek env Q E = (ed env (fun d => ek env (fun k => ∃ w r, d.ow = some w ∧ w.get k = some (some r) ∧ Q r) E) E) := rfl
theorem eInD_W (ek ed : DX) {env} {Q} {E} : eInD ek ed env Q E = (ek env (fun k => ed env (fun d => ∃ w r, d.ow = some w ∧ w.get k = some r ∧ Q (.bl r.isSome)) E) E) := rfl
theorem eNotInD_W (ek ed : DX) {env} {Q} {E} : eNotInD ek ed env Q E = (ek env (fun k => ed env (fun d => ∃ w r, d.ow = some w ∧ w.get k = some r ∧ Q (.bl (!r.isSome))) E) E) := rfl
theorem sOwnD_W (j : Nat) (t : Bool) {d} {env} : sOwnD j t d env = (d.nx (env.set j (.own (if t = true then .dt [] [] else .dk [] [])))) := rfl
theorem sPutD_W (i : Nat) (ek e : DX) {d} {env} : sPutD i ek e d env = (match env[i]? with
  | some (.own w) => e env (fun y => ek env (fun k => w.keysN ∧ ∃ w', w.put k y = some w' ∧ d.nx (env.set i (.own w'))) (d.xc env)) (d.xc env)
  | _ => False) := rfl
theorem eIsI_W (tab : Str → Option Bool) (a : DX) {env} {Q} {E} : eIsI tab a env Q E = (a env (fun d => match d with
  | .ins c _ _ => ∃ b, tab c = some b ∧ Q (.bl b)
  | d => d.kind.isSome = true ∧ Q (.bl false)) E) := rfl
end Mine

namespace Mine
open PySem PySem.Spec PyProof.Rows L2
/-! ### C.m(..), m a static method -/
/-- C's attributes are read the usual way; C.m is a static method, its def at g -/
structure StaOf (K : PySem.W.Frag) (C : Addr) (m : Str) (g : Addr) : Prop where
  rd : PySem.W.readsIn K C (.type "type") = true
  ga : PySem.W.specialIn K (.ref C) "__getattribute__" = some (some (.builtin "type.__getattribute__"))
  at_ : ∃ p, PySem.W.findCls K (.ref C) (.type "type") m = some (.get (.builtin "staticmethod.__get__") (.ref p) .none (.ref C)) ∧ ∃ rest, PySem.W.recIn K p "staticmethod" = some (.ref g :: rest)
def staB (C m : Str) (K : PySem.W.Frag) : Bool := PySem.W.readsIn K (He.ga K C) (.type "type") && (He.eqO (PySem.W.specialIn K (.ref (He.ga K C)) "__getattribute__") (some (some (.builtin "type.__getattribute__"))) && He5.wrapB K (He.ga K C) "staticmethod" "staticmethod.__get__" m)
theorem staB_ok {K : PySem.W.Frag} {C m : Str} (h : staB C m K = true) : StaOf K (He.ga K C) m (He5.wf K (He.ga K C) "staticmethod" m) := by
  obtain ⟨h1, h⟩ := He.ba h
  obtain ⟨h2, h3⟩ := He.ba h
  obtain ⟨h4, h5⟩ := He5.wrapB_ok h3
  exact ⟨h1, He.eqO_ok h2, _, h4, h5⟩
section
variable {X : Cx} {CX : CXT} {k : Nat} {C g : Addr} {sp : Sp} {E : XK} {e : Expr} {es : List Expr} {x m : Str} {pos apos p0 : Pos} {t : TA} {pl : Sem Bool} {fd : FuncData} {ps : List Str} {ds : List Value} {dvs : List V}
theorem pe_scall (so : StaOf X.K C m g) (hg : Gl X x) (hm : X.mg x = some (.ref C)) (F : FnOk X.prog X.w X.K X.mg X.base CX k g fd ps sp) (hr : Room k X.A) (hk : PySem.W.keepIn X.K (.ref g) = true) (hb : Binds X.K fd ps ds) (hd : Vals dvs ds) (hx : Passes CX X E) (ha : PA X (e :: es) t)
    (hdb : (x == ("__debug__" : Str)) = false := by decide)
    (hst : starEach (e :: es) X.env = (false, eval e X.env) :: starEach es X.env := by rfl) (hpl : (backTo pos (starEach es X.env)).any (·.1) = false := by rfl)
    (ht : eval (.Call (.Attribute (.Name x p0) m apos) (e :: es) [] pos) X.env = (do
      let ov ← eval (.Name x p0) X.env
      standAt apos.atName
      let (f, first) ← holding [ov] (getMethod ov m pl)
      callWith pos f first (backTo pos (starEach (e :: es) X.env)) (backToKw pos (keywordEach [] X.env))) := by rfl) :
    PE X (.Call (.Attribute (.Name x p0) m apos) (e :: es) [] pos) (tCall sp dvs E t) := by
  refine ⟨fun pins s σ H Q I h => ?_⟩
  refine PySem.W.methodCall_KW (pl := pl) (ld_glob I hg hm ?_ hdb) ht
  obtain ⟨pp, h1, rest, h2⟩ := so.at_
  refine PySem.W.method_cls I.kIn so.ga (PySem.W.cls_bind I.kIn so.rd h1 (wpAny_call (PySem.W.sm_get (s := { s with toks := s.toks + 1 }) I.kIn h2 (PySem.W.handed_on rfl ?_))))
  have I1 : Inv X pins σ H { s with toks := s.toks + 1 } := I.tok _
  refine PySem.W.callWith_K (h₀ := X.base) I.ok.mod.kin hk (thn (ha.run pos pins _ σ H _ I1 h) fun us s1 ⟨vs, H1, I2, r, q⟩ => ⟨I2.kIn, ?_⟩) hst hpl
  exact run_fn F hr hb hd hx I2 r q
end
end Mine

namespace Mine
open PySem PySem.Spec PyProof.Rows L2
/-! ### range(a, b, -1) -/
def eRngD (a : DAX) : DAX := fun env Q E => a env (fun ds => match ds with
  | [.int i, .int j, .int c] => c = -1 ∧ (-(2 ^ 62) ≤ i ∧ i < 2 ^ 62 ∧ -(2 ^ 62) ≤ j ∧ j < 2 ^ 62) ∧ Q ((List.range (i - j).toNat).map fun k => .int (i - (k : Nat)))
  | _ => False) E
theorem eRngD_W (a : DAX) {env} {Q} {E} : eRngD a env Q E = (a env (fun ds => match ds with
  | [.int i, .int j, .int c] => c = -1 ∧ (-(2 ^ 62) ≤ i ∧ i < 2 ^ 62 ∧ -(2 ^ 62) ≤ j ∧ j < 2 ^ 62) ∧ Q ((List.range (i - j).toNat).map fun k => .int (i - (k : Nat)))
  | _ => False) E) := rfl
section
variable {C : Bc} {S : SS} {ta : TA} {ea : DAX}
theorem walk_rngD {X : Addr → Prop} {H1 : Hp} (lo : Int) (n : Nat) : WalkD S C X H1 (Itc lo (-1) n) ((List.range n).map fun k => .int (lo - (k : Nat))) := by
  intro Y i H s
  rw [List.length_map, List.length_range]
  refine ⟨fun hi => ⟨hi, fun x H' ⟨e, hx⟩ => ?_⟩, fun hi => Nat.le_of_eq hi.symm⟩
  subst e hx
  refine ⟨Same.refl _, _, by rw [List.getElem?_map, List.getElem?_range hi]; rfl, ?_⟩
  rw [show lo + (i : Int) * (-1) = lo - (i : Int) by omega]
  exact .int _
theorem di_rngD (h : DAb C ta ea) : DIg S C (iRng3 ta) (eRngD ea) := by
  intro X env σ H Rr Qd Qx rp he q x
  refine h X env σ H _ _ Qx rp he (fun ds vs H1 f1 ra he1 => ?_) x
  split at he1
  · obtain ⟨rfl, ⟨b1, b2, b3, b4⟩, he1⟩ := he1
    cases ra with
    | cons r1 ra =>
      cases ra with
      | cons r2 ra =>
        cases ra with
        | cons r3 ra =>
          cases ra
          exact ⟨_, _, _, _, by rw [r1.int, r2.int, r3.int], RgC.neg b1 b2 b3 b4, q _ _ H1 f1 (walk_rngD _ _) he1⟩
  · exact he1.elim
end
/-! ### isinstance of one's own classes: what of the text it asks -/
structure InsK (K : PySem.W.Frag) (C : Addr) : Prop where
  ha : PySem.W.findIn K (.ref C) "__class__" = some (some (.builtin "object.__class__"))
  hn : PySem.W.specialIn K (.builtin "object.__class__") "__get__" = some (some (.builtin "getset_descriptor.__get__"))
  htk : PySem.W.takesIn K (.builtin "object.__class__") = some true
  hm : PySem.W.mroIn K C (.type "object") = some true
def insB (C : Str) (K : PySem.W.Frag) : Bool := He.eqO (PySem.W.findIn K (.ref (He.ga K C)) "__class__") (some (some (.builtin "object.__class__"))) && (He.eqO (PySem.W.specialIn K (.builtin "object.__class__") "__get__") (some (some (.builtin "getset_descriptor.__get__"))) &&
  (decide (PySem.W.takesIn K (.builtin "object.__class__") = some true) && decide (PySem.W.mroIn K (He.ga K C) (.type "object") = some true)))
theorem insB_ok {C : Str} {K : PySem.W.Frag} (h : insB C K = true) : InsK K (He.ga K C) := by
  obtain ⟨h1, h⟩ := He.ba h
  obtain ⟨h2, h⟩ := He.ba h
  obtain ⟨h3, h4⟩ := He.ba h
  exact ⟨He.eqO_ok h1, He.eqO_ok h2, of_decide_eq_true h3, of_decide_eq_true h4⟩
abbrev kinds7 : List Str := ["NoneType", "bool", "int", "str", "tuple", "list", "dict"]
def kinB (C : Str) (K : PySem.W.Frag) : Bool := decide (PySem.W.kitOne K (.type "NoneType") (.ref (He.ga K C)) = some false) && (decide (PySem.W.kitOne K (.type "bool") (.ref (He.ga K C)) = some false) && (decide (PySem.W.kitOne K (.type "int") (.ref (He.ga K C)) = some false) &&
  (decide (PySem.W.kitOne K (.type "str") (.ref (He.ga K C)) = some false) && (decide (PySem.W.kitOne K (.type "tuple") (.ref (He.ga K C)) = some false) && (decide (PySem.W.kitOne K (.type "list") (.ref (He.ga K C)) = some false) && decide (PySem.W.kitOne K (.type "dict") (.ref (He.ga K C)) = some false))))))
def KinOk (K : PySem.W.Frag) (C : Addr) : Prop := ∀ n, n ∈ ["NoneType", "bool", "int", "str", "tuple", "list", "dict"] → PySem.W.kitOne K (.type n) (.ref C) = some false
theorem kinB_ok {C : Str} {K : PySem.W.Frag} (h : kinB C K = true) : KinOk K (He.ga K C) := by
  obtain ⟨h1, h⟩ := He.ba h
  obtain ⟨h2, h⟩ := He.ba h
  obtain ⟨h3, h⟩ := He.ba h
  obtain ⟨h4, h⟩ := He.ba h
  obtain ⟨h5, h⟩ := He.ba h
  obtain ⟨h6, h7⟩ := He.ba h
  intro n hn
  simp only [List.mem_cons, List.not_mem_nil, or_false] at hn
  rcases hn with rfl | rfl | rfl | rfl | rfl | rfl | rfl
  · exact of_decide_eq_true h1
  · exact of_decide_eq_true h2
  · exact of_decide_eq_true h3
  · exact of_decide_eq_true h4
  · exact of_decide_eq_true h5
  · exact of_decide_eq_true h6
  · exact of_decide_eq_true h7
theorem tyx_ins {K : PySem.W.Frag} {C : Addr} (c : Cls K C) (i : InsK K C) (H : Hp) (a dx : Addr) (fs : List (Str × V)) (e : H a = some (.ins C dx fs)) : TyX K H (.ref a) (.ref C) := .base (.ins e c i.ha i.hn i.htk i.hm)
theorem pe_fldU {X : Cx} {K : PySem.W.Frag} {e : Expr} {f : Str} {pos : Pos} {ta : TE} (eK : X.K = K) (he : PE X e ta) (hb : attributeBase e f X.env (eval e X.env) = eval e X.env) : PE X (.Attribute e f pos) (tFld K ta f) := eK ▸ pe_fld he hb
/-! ### within a try: makings, methods, static methods -/
section
variable {X : Cx} {CX : CXT} {k : Nat} {f C g : Addr} {fd : FuncData} {ps : List Str} {sp : Sp} {dvs : List V} {ds : List Value} {E : L2.St → XK} {x m : Str} {p pos apos p0 : Pos} {e o : Expr} {es : List Expr} {ta : TE} {t : TA} {pl : Sem Bool}
def tMakeS (C : Addr) (sp : Sp) (dvs : List V) (E : L2.St → XK) (t : TA) : TE := fun σ H Q => t σ H fun vs H1 => ∀ x dx, H1 x = none → H1 dx = none → dx ≠ x →
  sp (.ref x :: (vs ++ dvs)) (upd (upd H1 dx (.own x)) x (.ins C dx [])) (fun v H2 => v = .non ∧ Q (.ref x) H2) (E σ)
def tMethS (C : Addr) (m : Str) (sp : Sp) (dvs : List V) (E : L2.St → XK) (ta : TE) (t : TA) : TE := fun σ H Q => ta σ H fun x H1 => ∃ a dx fs, x = .ref a ∧ H1 a = some (.ins C dx fs) ∧ fs.lookup m = none ∧
  t σ H1 fun vs H2 => sp (x :: (vs ++ dvs)) H2 Q (E σ)
theorem run_makeS {pins : List (Addr × Obj)} {σ : L2.St} {H : Hp} {s : Shared} {Q : VK} {us : List Value} {vs : List V} (M : Mk X.K C f) (F : FnOk X.prog X.w X.K X.mg X.base CX k f fd ps sp) (hr : Room (k + 1) X.A) (hb : Binds X.K fd ps ds) (hd : Vals dvs ds)
    (hx : PassesAt CX X σ (E σ)) (I : Inv X pins σ H s) (r : Vals vs us)
    (h : ∀ x dx, H x = none → H dx = none → dx ≠ x → sp (.ref x :: (vs ++ dvs)) (upd (upd H dx (.own x)) x (.ins C dx [])) (fun v H2 => v = .non ∧ Q (.ref x) H2) (E σ)) :
    wpAny (model X.prog X.w) X.A (call (.ref C) us) (EP X pins σ Q) X.xe s := by
  have hq := h (s.heap.objs.size + 1) s.heap.objs.size (I.hok.fresh (Nat.le_succ _)) (I.hok.fresh (Nat.le_refl _)) (Nat.ne_of_lt (Nat.lt_succ_self _))
  have I2 := Inv.made (C := C) I
  have r2 : Vals (V.ref (s.heap.objs.size + 1) :: (vs ++ dvs)) (Value.ref (s.heap.objs.size + 1) :: (us ++ ds)) := .cons rfl (r.append hd)
  have hl : (Value.ref (s.heap.objs.size + 1) :: us ++ ds).length = ps.length := by
    have e := r2.length
    rw [F.len _ _ _ _ hq] at e
    exact e.symm
  refine wpAny_call (make_map (f := f) I.kIn M.makes M.init (beq_iff_eq.mp M.fn) (codeAny_mono (F.run _ X.stack _ _ ⟨Value.ref (s.heap.objs.size + 1) :: us, []⟩ (Value.ref (s.heap.objs.size + 1) :: (us ++ ds)) _ _ (E σ) (hr.make C us [])
    (I2.env0.make C us []) (hb _ (Value.ref (s.heap.objs.size + 1) :: us) I2.kIn hl) r2 hq) fun r s' hq' => ?_))
  cases r with
  | error e => exact hx pins _ _ e s' I2 hq'
  | ok fl =>
    cases fl with
    | ret u =>
      obtain ⟨v, H', I3, rv, ev, q3⟩ := I2.after hq'
      subst ev
      exact ⟨rv, ⟨V.ref (s.heap.objs.size + 1), H', I3, rfl, q3⟩⟩
    | next => exact False.elim hq'
    | brk => exact False.elim hq'
    | cont => exact False.elim hq'
theorem pe_makeS (M : Mk X.K C f) (F : FnOk X.prog X.w X.K X.mg X.base CX k f fd ps sp) (hr : Room (k + 1) X.A) (hg : Gl X x) (hm : X.mg x = some (.ref C)) (hb : Binds X.K fd ps ds) (hd : Vals dvs ds) (hx : ∀ σ, PassesAt CX X σ (E σ))
    (ha : PA X (e :: es) t) (hdb : (x == ("__debug__" : Str)) = false := by decide) (he : starEach (e :: es) X.env = (false, eval e X.env) :: starEach es X.env := by rfl) (hpl : (backTo pos (starEach es X.env)).any (·.1) = false := by rfl) :
    PE X (.Call (.Name x p) (e :: es) [] pos) (tMakeS C sp dvs E t) := by
  refine ⟨fun pins s σ H Q I h => ?_⟩
  refine wpAny_Call_Name_kw (ld_glob I hg hm ?_ hdb)
  refine PySem.W.callWith_K (h₀ := X.base) I.ok.mod.kin M.kp (thn (ha.run pos pins s σ H _ I h) fun us s1 ⟨vs, H1, I1, r, q⟩ => ⟨I1.kIn, ?_⟩) he hpl
  exact run_makeS M F hr hb hd (hx σ) I1 r q
theorem pe_methS (he : PE X o ta) (c : Cls X.K C) (hm : Meth X.K C m f) (F : FnOk X.prog X.w X.K X.mg X.base CX k f fd ps sp) (hr : Room k X.A) (hb : Binds X.K fd ps ds) (hd : Vals dvs ds) (hx : ∀ σ, PassesAt CX X σ (E σ)) (ha : PA X (e :: es) t)
    (hst : starEach (e :: es) X.env = (false, eval e X.env) :: starEach es X.env := by rfl) (hpl : (backTo pos (starEach es X.env)).any (·.1) = false := by rfl)
    (ht : eval (.Call (.Attribute o m apos) (e :: es) [] pos) X.env = (do
      let ov ← eval o X.env
      standAt apos.atName
      let (f, first) ← holding [ov] (getMethod ov m pl)
      callWith pos f first (backTo pos (starEach (e :: es) X.env)) (backToKw pos (keywordEach [] X.env))) := by rfl) :
    PE X (.Call (.Attribute o m apos) (e :: es) [] pos) (tMethS C m sp dvs E ta t) := by
  refine ⟨fun pins s σ H Q I h => ?_⟩
  refine PySem.W.methodCall_KW (pl := pl) (thn (he.run pins s σ H _ I h) fun u s1 ⟨x, H1, I1, rx, a, dx, fs, ex, ea, l, q⟩ => ?_) ht
  subst ex
  obtain rfl : u = Value.ref a := rx
  refine getmeth_ok I1 ea c hm l ?_
  refine PySem.W.callWith_K (first := [.ref a]) (h₀ := X.base) I.ok.mod.kin hm.kp (thn (ha.run pos pins s1 σ H1 _ I1 q) fun us s2 ⟨vs, H2, I2, r, q2⟩ => ⟨I2.kIn, ?_⟩) hst hpl
  exact run_fnSD (us := .ref a :: us) (vs := .ref a :: vs) F hr hb hd (hx σ) I2 (.cons rfl r) q2
theorem pe_scallS (so : StaOf X.K C m g) (hg : Gl X x) (hm : X.mg x = some (.ref C)) (F : FnOk X.prog X.w X.K X.mg X.base CX k g fd ps sp) (hr : Room k X.A) (hk : PySem.W.keepIn X.K (.ref g) = true) (hb : Binds X.K fd ps []) (hx : ∀ σ, PassesAt CX X σ (E σ)) (ha : PA X (e :: es) t)
    (hdb : (x == ("__debug__" : Str)) = false := by decide)
    (hst : starEach (e :: es) X.env = (false, eval e X.env) :: starEach es X.env := by rfl) (hpl : (backTo pos (starEach es X.env)).any (·.1) = false := by rfl)
    (ht : eval (.Call (.Attribute (.Name x p0) m apos) (e :: es) [] pos) X.env = (do
      let ov ← eval (.Name x p0) X.env
      standAt apos.atName
      let (f, first) ← holding [ov] (getMethod ov m pl)
      callWith pos f first (backTo pos (starEach (e :: es) X.env)) (backToKw pos (keywordEach [] X.env))) := by rfl) :
    PE X (.Call (.Attribute (.Name x p0) m apos) (e :: es) [] pos) (tCallS sp E t) := by
  refine ⟨fun pins s σ H Q I h => ?_⟩
  refine PySem.W.methodCall_KW (pl := pl) (ld_glob I hg hm ?_ hdb) ht
  obtain ⟨pp, h1, rest, h2⟩ := so.at_
  refine PySem.W.method_cls I.kIn so.ga (PySem.W.cls_bind I.kIn so.rd h1 (wpAny_call (PySem.W.sm_get (s := { s with toks := s.toks + 1 }) I.kIn h2 (PySem.W.handed_on rfl ?_))))
  have I1 : Inv X pins σ H { s with toks := s.toks + 1 } := I.tok _
  refine PySem.W.callWith_K (h₀ := X.base) I.ok.mod.kin hk (thn (ha.run pos pins _ σ H _ I1 h) fun us s1 ⟨vs, H1, I2, r, q⟩ => ⟨I2.kIn, ?_⟩) hst hpl
  exact run_fnS F hr hb (hx σ) I2 r q
end
section
variable {C : Bc} {F : DFn} {cls c m : Str} {dvs : List V} {dd : List Sl} {t : TA} {a : DSX} {te : TE} {ea : DX}
theorem de_makeS {E : L2.St → XK} (hE : C.E = E) (hd : Dvs dvs dd) (ha : DAs C t a) : DE C (tMakeS (He.ga C.K cls) (spI C.K cls F) dvs E t) (eCall F dd a) := by
  intro X env σ H Q Qd Qx rp he q x
  refine ha X env σ H _ _ Qx rp he (fun ss vs H1 f1 r1 he1 => ?_) x
  intro p dx np nd ne
  have rp1 := rp.step f1
  refine ⟨p, dx, vs ++ dvs, H1, X, C.hd, ss ++ dd, Qd, Qx, rfl, np, nd, ne, rfl, rp1.al, fun h c e => ⟨rp1.hX h c e, (rp1.hands h c e).2.2⟩, SlAll.append r1 (hd C.K C.hd X H1), he1, fun d H' f den qd => ⟨rfl, q d _ H' (f1.trans f) den qd⟩, fun y cls' dx' H' f r z => ?_⟩
  have := x y cls' dx' H' (f1.trans f) r z
  rw [hE] at this
  exact this
theorem de_methS {E : L2.St → XK} (hE : C.E = E) (hd : Dvs dvs dd) (ho : DE C te ea) (ha : DAs C t a) : DE C (tMethS (He.ga C.K c) m (spD C.K F) dvs E te t) (eMeth c m F dd ea a) := by
  intro X env σ H Q Qd Qx rp he q x
  refine ho X env σ H _ _ Qx rp he (fun d v H1 f1 r1 h1 => ?_) x
  split at h1
  · rename_i c' ns ds
    obtain ⟨rfl, h2, h3⟩ := h1
    have rp1 := rp.step f1
    have r1 : Den C.K (vis H1 X) v (.ins c' ns ds) := r1
    have r1' := r1
    cases r1 with
    | @ins p dx _ _ vs _ hp hl al =>
      refine ⟨p, dx, _, rfl, vis_sub _ _ hp, al.lookN h2, ?_⟩
      refine ha X env σ H1 _ _ Qx rp1 h3 (fun ss us H2 f2 r2 h4 => ?_) (x.step f1)
      exact spD_use (rp1.step f2) (.d (r1'.mono (rp1.vs f2)) (SlAll.append r2 (hd C.K C.hd X H2))) h4 (fun d v H' f h => q d v H' (f1.trans (f2.trans f)) h) fun y cls dx H' f r z => by
        have := x y cls dx H' (f1.trans (f2.trans f)) r z
        rw [hE] at this
        exact this
  · exact h1.elim
end
end Mine

namespace Mine
open PySem PySem.Spec PyProof.Rows L2
/-! ### math.gcd, math.comb -/
def rComb : List V → Hp → VK → Prop := fun vs H Q => ∃ a b : Int, vs = [.int a, .int b] ∧ 0 ≤ a ∧ 0 ≤ b ∧ a ≤ 18000 ∧ Q (.int (PySem.W.mcComb a b)) H
theorem cr_comb {X : Cx} : CallR X (.builtin "math.comb") rComb := by
  intro pins s σ H vs us Q I r h
  obtain ⟨a, b, rfl, h1, h2, h3, q⟩ := h
  obtain ⟨t, u, rfl⟩ := Vals.int2 r
  exact PySem.W.mc_comb h1 h2 (by omega) (.inr h3) fun _ => ⟨.int _, H, I.tok _, ⟨_, rfl⟩, q⟩
def dGcd : DL := fun ds Q => match ds with
  | [.int i, .int j] => Q (.int ((Nat.gcd i.natAbs j.natAbs : Nat) : Int))
  | _ => False
def dComb : DL := fun ds Q => match ds with
  | [.int i, .int j] => 0 ≤ i ∧ 0 ≤ j ∧ i ≤ 18000 ∧ Q (.int (PySem.W.mcComb i j))
  | _ => False
theorem dGcd_W {i j : Int} {Q : Dt → Prop} : dGcd [.int i, .int j] Q = Q (.int ((Nat.gcd i.natAbs j.natAbs : Nat) : Int)) := rfl
theorem dComb_W {i j : Int} {Q : Dt → Prop} : dComb [.int i, .int j] Q = (0 ≤ i ∧ 0 ≤ j ∧ i ≤ 18000 ∧ Q (.int (PySem.W.mcComb i j))) := rfl
section
variable {C : Bc}
theorem cg_gcd : CallG Cln C rGcd dGcd := by
  intro X env σ H vs ds Q Qd rp ra he q
  unfold dGcd at he
  split at he
  · obtain ⟨v, u, rfl, r1, r2⟩ := ra.two
    exact ⟨_, _, by rw [r1.int, r2.int], q _ _ H (.refl H) (.int _) he⟩
  · exact he.elim
theorem cg_comb : CallG Cln C rComb dComb := by
  intro X env σ H vs ds Q Qd rp ra he q
  unfold dComb at he
  split at he
  · obtain ⟨v, u, rfl, r1, r2⟩ := ra.two
    obtain ⟨h1, h2, h3, he⟩ := he
    exact ⟨_, _, by rw [r1.int, r2.int], h1, h2, h3, q _ _ H (.refl H) (.int _) he⟩
  · exact he.elim
end
/-! ### sep.join(a list of texts) -/
def rJoinK (K : PySem.W.Frag) : V → List V → Hp → VK → Prop := fun x xs H Q => ∃ a p, ∃ ys : List Str, x = .str a ∧ xs = [.ref p] ∧ (SqL K H p (ys.map V.str) ∨ SqT K H p (ys.map V.str)) ∧
  (ys.map (·.length)).sum + ys.length * a.length ≤ 16777216 ∧ Q (.str (Txt.join a ys)) H
theorem pe_joinU {X : Cx} {K : PySem.W.Frag} {o e : Expr} {to te : TE} {apos pos : Pos} (eK : X.K = K) (ho : PE X o to) (he : PE X e te) (hs : starEach [e] X.env = [(false, eval e X.env)] := by rfl) (hbase : attributeBase o "join" X.env (eval o X.env) = eval o X.env := by rfl) (hline : (apos.endLine == pos.line) = true := by rfl) :
    PE X (.Call (.Attribute o "join" apos) [e] [] pos) (tM1 (rJoinK K) to te) := eK ▸ pe_join ho he hs hbase hline
def eJoin (eo ea : DX) : DX := fun env Q E => eo env (fun d => match d with
  | .str z => ea env (fun y => match y with
    | .lst xs => ∃ ys : List Str, xs = ys.map .str ∧ (ys.map (·.length)).sum + ys.length * z.length ≤ 16777216 ∧ Q (.str (Txt.join z ys))
    | _ => False) E
  | _ => False) E
theorem eJoin_W (eo ea : DX) {env} {Q} {E} : eJoin eo ea env Q E = (eo env (fun d => match d with
  | .str z => ea env (fun y => match y with
    | .lst xs => ∃ ys : List Str, xs = ys.map .str ∧ (ys.map (·.length)).sum + ys.length * z.length ≤ 16777216 ∧ Q (.str (Txt.join z ys))
    | _ => False) E
  | _ => False) E) := rfl
theorem DenAll.strs_of {K : PySem.W.Frag} {H : Hp} : ∀ {vs : List V} {bs : List Str}, DenAll K H vs (bs.map .str) → vs = bs.map V.str
  | _, [], .nil => rfl
  | _, n :: ns, .cons a b => by rw [List.map_cons, a.flat rfl, DenAll.strs_of b]
theorem de_join {C : Bc} {to te : TE} {eo ea : DX} (ho : DE C to eo) (ha : DB C te ea) : DE C (tM1 (rJoinK C.K) to te) (eJoin eo ea) := by
  intro X env σ H Q Qd Qx rp he q x
  refine ho X env σ H _ _ Qx rp he (fun d v H1 f1 r1 h1 => ?_) x
  split at h1
  · rename_i z
    have ev : v = .str z := r1.flat rfl
    refine ⟨⟨_, ev⟩, ha X env σ H1 _ _ Qx (rp.step f1) h1 (fun d2 v2 H2 f2 r2 h2 => ?_) (x.step f1)⟩
    split at h2
    · obtain ⟨ys, rfl, hz, h2⟩ := h2
      obtain ⟨p, vs, rfl, h3, a1⟩ := r2.lst
      rw [a1.strs_of] at h3
      exact ⟨_, p, ys, ev, rfl, .inl (.inl (.inl h3)), hz, q _ _ H2 (f1.trans f2) (.str _) h2⟩
    · exact h2.elim
  · exact h1.elim
/-! ### a text walked through, and numbered -/
def IteS (x : Str) : It :=
  ⟨fun i _ => i < x.cps.size, fun i H v H' => ∃ T c, v = .ref T ∧ H T = none ∧ H' = upd H T (.tup [.int (i : Nat), .str ⟨#[c]⟩]) ∧ x.cps[i]? = some c, fun i _ => x.cps.size ≤ i⟩
theorem turn_enumS {P : Program} {w : World} {K : PySem.W.Frag} {elts : List Expr} {kk : Nat} {tpos : Pos} (x : Str) (t : Tok) (e it : Addr) :
    Turn P w K (.Tuple elts kk tpos) (IteS x) [e, it] e (fun i h => (∃ old, IsEnum h e it ((i : Nat) : Int) old) ∧ h.IsStrIter it (strIterType x) x t i ∧ e ≠ it) where
  mem := by simp
  obj := fun i h st b hb => by
    obtain ⟨⟨old, he⟩, ⟨o, ho, hc, hd⟩, _⟩ := st
    have e' : b = e ∨ b = it := by simpa using hb
    rcases e' with z | z
    · rw [z]; exact ⟨_, he, fun v q => nomatch q⟩
    · rw [z]; exact ⟨o, ho, fun v q => by rw [hd] at q; cases q⟩
  keep := fun i h h' st k => let ⟨⟨old, he⟩, ⟨o, ho, r⟩, hne⟩ := st; ⟨⟨old, k e (by simp) _ he⟩, ⟨o, k it (by simp) o ho, r⟩, hne⟩
  item := by
    intro X hP hw hK hc i pins s σ H E I hf st hg
    subst hP hw hK
    obtain ⟨⟨old, he⟩, hit, hne⟩ := st
    have hel : e < s.heap.objs.size := Heap.lt_size he
    have hil : it < s.heap.objs.size := by obtain ⟨_, q, _⟩ := hit; exact Heap.lt_size q
    refine wpAny_pyNext_enum_itemD (i := i) (Draws.text (A := X.A.in1) (I.ok.hd hc) it x t) he hit hg hne (by simp [hne]) fun x' h' tk hP ho hs' hT hsz hk => ?_
    obtain ⟨c, u, hcx, rfl⟩ := hP
    refine ⟨_, rfl, wpAny_letOwnedTupleGo_enum (s := { s with heap := h', toks := tk + 1 }) ho fun h'' he' sb => ?_⟩
    have hT2 : h''.get? s.heap.objs.size = some { cls := .type "tuple", data := .seq #[.int i tk, .str ⟨#[c]⟩ u] } := (sb.2 _ (Nat.ne_of_gt hel)).trans hT
    have new : ObjOk X.prog X.w (upd H s.heap.objs.size (.tup [.int (i : Nat), .str ⟨#[c]⟩])) h'' s.heap.objs.size (.tup [.int (i : Nat), .str ⟨#[c]⟩]) :=
      ⟨by show 2 ≤ sizeLine; decide, [.int i tk, .str ⟨#[c]⟩ u], .cons ⟨_, rfl⟩ (.cons ⟨_, rfl⟩ .nil), ⟨_, hT2, rfl, _, rfl⟩⟩
    have I1 : Inv X pins σ (upd H s.heap.objs.size (.tup [.int (i : Nat), .str ⟨#[c]⟩])) { s with heap := h'', toks := tk + 1 } :=
      I.turnedNew (ch := [e, it]) (fun b ob hb q => (sb.2 b (fun z => hb (by simp [z]))).trans (hk b ob (fun z => hb (by simp [z])) (fun z => hb (by simp [z])) q)) hf (Nat.le_refl _) new
    refine ⟨.ref s.heap.objs.size, _, I1, rfl, ⟨_, c, rfl, I.hok.fresh (Nat.le_refl _), rfl, hcx⟩, ⟨⟨.str ⟨#[c]⟩ u, ?_⟩, ?_, hne⟩, fun b hb => ?_⟩
    · have e1 : ((i + 1 : Nat) : Int) = (i : Int) + 1 := by omega
      rw [e1]; exact he'
    · obtain ⟨o, ho2, r⟩ := hs'
      exact ⟨o, (sb.2 it (Ne.symm hne)).trans ho2, r⟩
    · have hb' : b < s.heap.objs.size := by
        have e' : b = e ∨ b = it := by simpa using hb
        rcases e' with z | z
        · rw [z]; exact hel
        · rw [z]; exact hil
      rw [upd_ne (Nat.ne_of_lt hb')]
      exact (hf b hb).1
  done := by
    intro X hP hw hK hc i pins s σ H E I hf st hg
    subst hP hw hK
    obtain ⟨⟨old, he⟩, hit, hne⟩ := st
    obtain ⟨f0, f1, f2, f3, f4, f5⟩ := hf it (by simp)
    have hT : s.TypeIs (.ref e) "enumerate" := ⟨_, he, rfl⟩
    have hx : x.cps[i]? = none := Array.getElem?_eq_none hg
    unfold pyNext
    refine wpAny_bind (wpAny_attempt (wpAny_callSpecial?_slot (name := Str.ofString "__next__") hT F.slot_enumerate_next
      (wpAny_call_entry F.slot_enumerate_next hT F.entry_enumerate_next ?_ (F.args_enumerate_next_1 _))))
    show wpAny _ _ (field (.ref e) 2 >>= _) _ _ _
    refine wpAny_bind (wpAny_field he rfl (x := .ref it) rfl ?_)
    cases ha : x.cps.all (· < 128)
    · simp only [strIterType, ha, Bool.false_eq_true, if_false] at hit
      refine wpAny_bind (wpAny_nextOf_wide_end (I.ok.hd hc) hit hx fun h' y he' hx' => ?_)
      obtain ⟨o, ho, hc⟩ := hx'
      refine wpAny_bind (wpAny_isInstance (T := "StopIteration") (b := true) ⟨o, ho, hc⟩ isSubtype_stop ?_)
      exact wpAny_pure ⟨rfl, I.turned (t' := s.toks) (fun b o hb q => he' b o hb q) f0 f1 f3 f4 f5⟩
    · simp only [strIterType, ha, if_true] at hit
      refine wpAny_bind (wpAny_nextOf_ascii_end (I.ok.hd hc) hit hx fun h' y he' hx' => ?_)
      obtain ⟨o, ho, hc⟩ := hx'
      refine wpAny_bind (wpAny_isInstance (T := "StopIteration") (b := true) ⟨o, ho, hc⟩ isSubtype_stop ?_)
      exact wpAny_pure ⟨rfl, I.turned (t' := s.toks) (fun b o hb q => he' b o hb q) f0 f1 f3 f4 f5⟩
  self := fun A i s Q E st h => let ⟨⟨_, he⟩, _⟩ := st; wpAny_pyIter_enum he h
def iEnumS (ta : TA) : TI := fun σ H R => ta σ H fun vs H1 => ∃ x, vs = [.str x] ∧ R (IteS x) H1
theorem pi_enumS {X : Cx} {e : Expr} {ta : TA} {p pos tpos : Pos} {elts : List Expr} {kk : Nat} (hg : Gl X "enumerate") (hm : X.mg "enumerate" = none) (ha : PA X [e] ta) (hs : starEach [e] X.env = [(false, eval e X.env)] := by rfl) :
    PI X (.Tuple elts kk tpos) (.Call (.Name "enumerate" p) [e] [] pos) (iEnumS ta) := by
  refine ⟨fun pins s σ H R I h => ?_⟩
  refine Call_ (ld_blt I hg hm boot_enumerate (PyProof.Rows.callWith_type1 (thn (ha.run pos pins s σ H _ I h) fun us s1 ⟨vs, H1, I1, r1, q1⟩ => ?_) hs rfl))
  obtain ⟨x, ex, q⟩ := q1
  subst ex
  cases r1 with
  | cons r rr =>
    cases rr
    obtain ⟨t, rfl⟩ := r
    have fp2 : ∀ b ∈ [s1.heap.objs.size + 1, s1.heap.objs.size], FpOk X pins H1 b := fun b hb => by
      have e' : b = s1.heap.objs.size + 1 ∨ b = s1.heap.objs.size := by simpa using hb
      have hle : s1.heap.objs.size ≤ b := by
        rcases e' with z | z
        · rw [z]; exact Nat.le_add_right _ _
        · rw [z]; exact Nat.le_refl _
      exact I1.fpOk hle (I1.hok.fresh hle)
    refine mine_enum_call (begins_text x t) trivial fun h' he hit hsz hk => wpAny_pyIter_enum he ?_
    have I2 : Inv X pins σ H1 { s1 with heap := h' } := I1.kept (t' := s1.toks) hk
    exact ⟨s1.heap.objs.size + 1, [s1.heap.objs.size + 1, s1.heap.objs.size], _, _, H1, rfl, I2, turn_enumS x t (s1.heap.objs.size + 1) s1.heap.objs.size, ⟨⟨.none, he⟩, ⟨_, hit, rfl, rfl⟩, Nat.succ_ne_self _⟩, fp2, q⟩
def eEnumS (a : DAX) : DAX := fun env Q E => a env (fun ds => match ds with
  | [.str z] => Q (z.cps.toList.mapIdx fun i c => .tup [.int (i : Nat), .str ⟨#[c]⟩])
  | _ => False) E
theorem eEnumS_W (a : DAX) {env} {Q} {E} : eEnumS a env Q E = (a env (fun ds => match ds with
  | [.str z] => Q (z.cps.toList.mapIdx fun i c => .tup [.int (i : Nat), .str ⟨#[c]⟩])
  | _ => False) E) := rfl
section
variable {C : Bc} {S : SS} {ta : TA} {ea : DAX} {tl : TE} {el : DX}
theorem di_enumS (al : ∀ {C : Bc} {X Y : Addr → Prop} {H1 H : Hp}, S C X H1 Y H → ∀ a, Y a → ∃ o, H a = some o) (h : DAb C ta ea) : DIg S C (iEnumS ta) (eEnumS ea) := by
  intro X env σ H Rr Qd Qx rp he q x
  refine h X env σ H _ _ Qx rp he (fun ds vs H1 f1 ra he1 => ?_) x
  split at he1
  · rename_i z
    obtain ⟨v, rfl, r1⟩ := ra.one
    refine ⟨z, by rw [r1.str], q _ _ H1 f1 ?_ he1⟩
    intro Y i H2 s
    rw [List.length_mapIdx, Array.length_toList]
    refine ⟨fun hi => ⟨hi, fun x H' ⟨T, c, e1, hT, e2, hc⟩ => ?_⟩, fun hi => Nat.le_of_eq hi.symm⟩
    subst e1 e2
    have nT : ¬ Y T := fun y => by
      obtain ⟨o, q⟩ := al s T y
      rw [hT] at q; cases q
    refine ⟨same_upd hT, _, by rw [List.getElem?_mapIdx, Array.getElem?_toList, hc]; rfl, .tup (vis_mk nT upd_same) (.cons (.int _) (.cons (.str _) .nil))⟩
  · exact he1.elim
theorem di_strs (h : DE C tl el) : DIg S C (iStr tl) (eStrs el) := by
  intro X env σ H Rr Qd Qx rp he q x
  refine h X env σ H _ _ Qx rp he (fun d v H1 f1 r1 he1 => ?_) x
  split at he1
  · rename_i z
    refine ⟨z, r1.flat rfl, q _ _ H1 f1 ?_ he1⟩
    intro Y i H2 s
    rw [List.length_map, Array.length_toList]
    refine ⟨fun hi => ⟨hi, fun x H' ⟨e2, c, hc, e1⟩ => ?_⟩, fun hi => Nat.le_of_eq hi.symm⟩
    subst e1 e2
    exact ⟨Same.refl _, _, by rw [List.getElem?_map, Array.getElem?_toList, hc]; rfl, .str _⟩
  · exact he1.elim
end
/-! ### a text times a number -/
def rMulS : R2 := fun x y H Q => ∃ (z : Str) (k : Int), x = .str z ∧ y = .int k ∧ 2 ≤ k ∧ k ≤ 1000 ∧ 1 ≤ z.length ∧ z.length ≤ 1000 ∧ Q (.str ⟨(List.replicate k.toNat z.cps).foldl (· ++ ·) #[]⟩) H
def dMulS : D2 := fun a b Q => match a, b with
  | .str z, .int k => (2 ≤ k ∧ k ≤ 1000 ∧ 1 ≤ z.length ∧ z.length ≤ 1000) ∧ Q (.str ⟨(List.replicate k.toNat z.cps).foldl (· ++ ·) #[]⟩)
  | _, _ => False
theorem fold_cat {a : Array Nat} : ∀ (n : Nat) (b : Array Nat), ((List.replicate n a).foldl (· ++ ·) b).toList = b.toList ++ (List.replicate n a.toList).flatten
  | 0, b => by simp
  | n + 1, b => by
    rw [List.replicate_succ, List.foldl_cons, fold_cat n (b ++ a), List.replicate_succ, List.flatten_cons, Array.toList_append, List.append_assoc]
theorem fold_size {a : Array Nat} (n : Nat) : ((List.replicate n a).foldl (· ++ ·) (#[] : Array Nat)).size = n * a.size := by
  rw [← Array.length_toList, fold_cat n #[]]
  simp
theorem op_mulS {X : Cx} : OpR X (binaryOp .Mult) rMulS := by
  intro pins s σ H x y v u Q I rx ry h
  obtain ⟨z, k, rfl, rfl, h1, h2, h3, h4, q⟩ := h
  obtain ⟨t, rfl⟩ := rx
  obtain ⟨t2, rfl⟩ := ry
  have hk : (k == 1 || z.length == 0) = false := by
    rw [Bool.or_eq_false_iff]
    exact ⟨beq_false_of_ne (by omega), beq_false_of_ne (by omega)⟩
  have hm : z.length * k.toNat ≤ 1000 * 1000 := Nat.mul_le_mul h4 (by omega)
  refine PySem.P.mul_str (by rw [decide_eq_false (by omega), decide_eq_false (by omega)]; rfl) (fun _ _ c => ?_) (fun _ _ => by unfold Builtin.Str.tooLong; exact decide_eq_false (by have := sizeLine_eq; omega)) ?_
  · have : (k : Int) * ((2 ^ 63 - 1) / k) ≥ (2 ^ 63 - 1) - k := by
      have := Int.emod_add_mul_ediv (2 ^ 63 - 1) k
      have := Int.emod_lt_of_pos (2 ^ 63 - 1) (show 0 < k by omega)
      omega
    have h5 : (2 ^ 63 - 1) / k ≥ 9000000 := by
      apply Int.le_ediv_of_mul_le (by omega)
      omega
    omega
  · rw [if_neg (by omega), hk, if_neg (by decide)]
    refine ⟨?_, .str _, H, I.tok _, ⟨_, rfl⟩, q⟩
    show ((List.replicate k.toNat z.cps).foldl (· ++ ·) #[]).size ≤ sizeLine
    rw [fold_size, Nat.mul_comm, sizeLine_eq]
    have : z.cps.size * k.toNat ≤ 1000 * 1000 := hm
    show _ ≤ 16777216
    omega
theorem od_mulS {C : Bc} : OpD C rMulS dMulS := by
  intro X env σ H H1 x y a b Q Qd rp r1 r2 he q
  unfold dMulS at he
  split at he
  · exact ⟨_, _, r1.str, r2.int, he.1.1, he.1.2.1, he.1.2.2.1, he.1.2.2.2, q _ _ H (.refl H) (.str _) he.2⟩
  · exact he.elim
end Mine

namespace Mine
open PySem PySem.Spec PyProof.Rows L2
/-! ### == of instances whose class has its own __eq__ -/
/-- the class at C has an own __eq__ that promises sp -/
def EqC (P : Program) (w : World) (K : PySem.W.Frag) (mg : Str → Option Value) (base : Heap) (n : Nat) (C : Addr) (sp : Sp) : Prop :=
  ∃ f fd ps, FnOk P w K mg base CX0 n f fd ps sp ∧ PySem.W.findIn K (.ref C) "__eq__" = some (some (.ref f)) ∧ PySem.W.isFn K (.ref f) = true ∧ L2.Binds K fd ps []
def rEqO (K : PySem.W.Frag) (ok : Addr → Sp → Prop) : R2 := fun x y H Q => ∃ a C dx fs t sp, x = .ref a ∧ H a = some (.ins C dx fs) ∧ ok C sp ∧ TyX K H y t ∧ PySem.W.notFirst K C t = true ∧ sp [x, y] H (fun v H' => ∃ b, v = .bl b ∧ Q (.bl b) H') E0
theorem op_eqO {X : Cx} {K : PySem.W.Frag} {n : Nat} {ok : Addr → Sp → Prop} (eK : X.K = K) (h : ∀ C sp, ok C sp → EqC X.prog X.w X.K X.mg X.base n C sp) (hr : Room n X.A) : OpR X (compareOp .Eq) (rEqO K ok) := by
  intro pins s σ H x y v u Q I rx ry ⟨a, C, dx, fs, t, sp, ex, ha, hok, ty, nf, hsp⟩
  subst eK ex
  obtain rfl : v = Value.ref a := rx
  obtain ⟨f, fd, ps, F, hs, hf, hb⟩ := h C sp hok
  obtain ⟨Pz, kz, hz, _⟩ := kit_of I ry ty
  obtain ⟨mA, J, _⟩ := ins_get I.hok ha
  obtain ⟨od, J, _⟩ := J.look
  obtain ⟨m, hF⟩ := I.fr
  show wpAny (model X.prog X.w) X.A (richCompare .Eq (.ref a) u) (EP X pins σ Q) X.xe s
  refine PySem.W.cmp_K (op := .Eq) (tb := t) hr.units0 hF I.ok.mod.kin J (kz.ty _ _ I.kIn hz) nf hs hf ?_
  have hl := F.len _ _ _ _ hsp
  have r2 : Vals [V.ref a, y] [Value.ref a, u] := .cons rfl (.cons ry .nil)
  refine wpAny_call (codeAny_mono (F.run X.A X.stack s H ⟨[.ref a, u], []⟩ [.ref a, u] [.ref a, y] _ E0 hr I.env0 (by
    have := hb s [.ref a, u] I.kIn (by simpa using hl)
    simpa using this) r2 hsp) fun r s' hq => ?_)
  cases r with
  | error e => exact pass0 pins σ H s e s' I hq
  | ok fl =>
    cases fl with
    | ret w =>
      obtain ⟨z, H', I', rz, b, ez, q⟩ := I.after hq
      subst ez
      have rz : w = Value.bool b := rz
      subst rz
      exact ⟨.bl b, H', I', rfl, q⟩
    | next => exact False.elim hq
    | brk => exact False.elim hq
    | cont => exact False.elim hq
/-- what of the text == of the classes in the table asks -/
structure EqTab (K : PySem.W.Frag) (tabE : Str → Option DFn) (tabC : Str → Bool) : Prop where
  kin : ∀ c F, tabE c = some F → ∀ n, n ∈ ["NoneType", "bool", "int", "str", "tuple", "list", "dict"] → PySem.W.notFirst K (He.ga K c) (.type n) = true
  own : ∀ c F c', tabE c = some F → tabC c' = true → PySem.W.notFirst K (He.ga K c) (.ref (He.ga K c')) = true
  ins : ∀ c', tabC c' = true → ∀ (H : Hp) (a dx : Addr) (fs : List (Str × V)), H a = some (.ins (He.ga K c') dx fs) → TyX K H (.ref a) (.ref (He.ga K c'))
def dEqO (tabE : Str → Option DFn) (tabC : Str → Bool) : D2 := fun x y Q => match x with
  | .ins c ns ds => ∃ F, tabE c = some F ∧ (match y with
    | .ins c' _ _ => tabC c' = true
    | y => y.kind.isSome = true) ∧ F [.d (.ins c ns ds), .d y] (fun r => ∃ b, r = .bl b ∧ Q (.bl b)) (fun _ => False)
  | x => dEq x y Q
def okE (K : PySem.W.Frag) (tabE : Str → Option DFn) (C : Addr) (sp : Sp) : Prop := ∃ c F, tabE c = some F ∧ C = He.ga K c ∧ sp = spD K F
theorem de_eqO {C : Bc} {ta tb : TE} {a b : DX} {tabE : Str → Option DFn} {tabC : Str → Bool} (T : EqTab C.K tabE tabC) (ha : DE C ta a) (hb : DE C tb b) :
    DE C (tOp (fun x y H Q => rEqO C.K (okE C.K tabE) x y H Q ∨ rEqD C.K x y H Q) ta tb) (eOp (dEqO tabE tabC) a b) := by
  intro X env σ H Q Qd Qx rp he q x
  refine ha X env σ H _ _ Qx rp he (fun d v H1 f1 r1 he1 => ?_) x
  have rp1 := rp.step f1
  refine hb X env σ H1 _ _ Qx rp1 he1 (fun d2 v2 H2 f2 r2 he2 => ?_) (x.step f1)
  have rp2 := rp1.step f2
  have r1 : Den C.K (vis H2 X) v d := Den.mono (rp1.vs f2) r1
  have r2 : Den C.K (vis H2 X) v2 d2 := r2
  have eqs : dEq d d2 Qd → rEqO C.K (okE C.K tabE) v v2 H2 Q ∨ rEqD C.K v v2 H2 Q := fun he2 => .inr (od_eq X env σ H2 H2 v v2 _ _ Q Qd rp2 (.inl r1) (.inl r2) he2 fun d3 v3 H3 f3 r3 => q d3 v3 H3 (f1.trans (f2.trans f3)) r3)
  cases d with
  | ins c ns ds =>
    obtain ⟨F, hF, hy, he3⟩ := he2
    refine .inl ?_
    have r1' := r1
    cases r1 with
    | @ins p dx _ _ vs _ hp hl al =>
      have sp : spD C.K F [.ref p, v2] H2 (fun v H' => ∃ b, v = .bl b ∧ Q (.bl b) H') E0 := by
        refine spD_use rp2 (.d r1' (.d r2 .nil)) he3 (fun d v H' f h hq => ?_) fun _ _ _ _ _ _ z => z.elim
        obtain ⟨b, rfl, hq⟩ := hq
        have ev : v = .bl b := h.flat rfl
        exact ⟨b, ev, q _ _ H' (f1.trans (f2.trans f)) (.bl _) hq⟩
      cases d2 with
      | ins c' ns' ds' =>
        have r2' := r2
        cases r2' with
        | @ins p2 dx2 _ _ vs2 _ hp2 hl2 al2 =>
          exact ⟨p, _, dx, _, _, _, rfl, vis_sub _ _ hp, ⟨c, F, hF, rfl, rfl⟩, T.ins _ hy _ _ _ _ (vis_sub _ _ hp2), T.own _ _ _ hF hy, sp⟩
      | _ =>
        obtain ⟨n, hn⟩ := Option.isSome_iff_exists.mp hy
        exact ⟨p, _, dx, _, _, _, rfl, vis_sub _ _ hp, ⟨c, F, hF, rfl, rfl⟩, (Bor.tyx (H1 := H2) (.inl r2) hn), T.kin _ _ hF n (Dt.kind_mem hn), sp⟩
  | _ => exact eqs he2
end Mine

namespace PySem
open PySem.SeqAt AutoSeq1 MeetsSeq PySem.W
theorem mine_int_eq_ins (b : Int) (u : Tok) (l C dx : Addr) : Meets (Builtin.«int.__eq__» ⟨[.int b u, .ref l], []⟩) (fun _ R s => s.heap.get? l = some (instObj C dx) ∧ R (.ok (.ret .notImplemented)) s) :=
  .of_wp fun prog w A R s h => by
    obtain ⟨hp, g, d, tk, os⟩ := s; obtain ⟨hl, h⟩ := h
    unfold instObj at hl
    wp_walk using wpAny_loadPart' hl, wpAny_load hl; exact ⟨_, rfl, h⟩
theorem mine_bool_eq_ins (b : Bool) (l C dx : Addr) : Meets (Builtin.«int.__eq__» ⟨[.bool b, .ref l], []⟩) (fun _ R s => s.heap.get? l = some (instObj C dx) ∧ R (.ok (.ret .notImplemented)) s) :=
  .of_wp fun prog w A R s h => by
    obtain ⟨hp, g, d, tk, os⟩ := s; obtain ⟨hl, h⟩ := h
    unfold instObj at hl
    wp_walk using wpAny_loadPart' hl, wpAny_load hl; exact ⟨_, rfl, h⟩
theorem mine_str_eq_ins (b : Str) (u : Tok) (l C dx : Addr) : Meets (Builtin.«str.__eq__» ⟨[.str b u, .ref l], []⟩) (fun _ R s => s.heap.get? l = some (instObj C dx) ∧ R (.ok (.ret .notImplemented)) s) :=
  .of_wp fun prog w A R s h => by
    obtain ⟨hp, g, d, tk, os⟩ := s; obtain ⟨hl, h⟩ := h
    unfold instObj at hl
    wp_walk using wpAny_loadPart' hl, wpAny_load hl; exact ⟨_, rfl, h⟩
theorem mine_list_eq_ins (p l C dx : Addr) (items : Array Value) (n : Nat) (dd : Option Addr) (sl : Array (Option Value)) : Meets (Builtin.«list.__eq__» ⟨[.ref p, .ref l], []⟩) (fun _ R s => (s.heap.get? p = some { cls := .type "list", dict := dd, data := .seq items n, slots := sl } ∧ s.heap.get? l = some (instObj C dx) ∧ ∀ M : Model, Looks M s.heap (isSubtype (.ref C) (.type "list")) false) ∧ R (.ok (.ret .notImplemented)) s) :=
  .of_wp fun prog w A R s h => by
    obtain ⟨hp, g, d, tk, os⟩ := s; obtain ⟨⟨hp1, hl, hs⟩, h⟩ := h
    have hs := hs (model prog w)
    unfold instObj at hl
    have q1 : ∀ {A' : Around} {E : Value → Shared → Prop} {Q : Bool → Shared → Prop}, Q false ⟨hp, g, d, tk, os⟩ → wpAny (model prog w) A' (isSubtype (.ref C) (.type "list")) Q E ⟨hp, g, d, tk, os⟩ := fun q => hs.at q
    wp_walk using wpAny_loadPart' hp1, wpAny_loadPart' hl, wpAny_load hl, q1
    exact ⟨_, rfl, h⟩
theorem mine_tuple_eq_ins (p l C dx : Addr) (items : Array Value) (n : Nat) (dd : Option Addr) (sl : Array (Option Value)) : Meets (Builtin.«tuple.__eq__» ⟨[.ref p, .ref l], []⟩) (fun _ R s => (s.heap.get? p = some { cls := .type "tuple", dict := dd, data := .seq items n, slots := sl } ∧ s.heap.get? l = some (instObj C dx) ∧ ∀ M : Model, Looks M s.heap (isSubtype (.ref C) (.type "tuple")) false) ∧ R (.ok (.ret .notImplemented)) s) :=
  .of_wp fun prog w A R s h => by
    obtain ⟨hp, g, d, tk, os⟩ := s; obtain ⟨⟨hp1, hl, hs⟩, h⟩ := h
    have hs := hs (model prog w)
    unfold instObj at hl
    have q1 : ∀ {A' : Around} {E : Value → Shared → Prop} {Q : Bool → Shared → Prop}, Q false ⟨hp, g, d, tk, os⟩ → wpAny (model prog w) A' (isSubtype (.ref C) (.type "tuple")) Q E ⟨hp, g, d, tk, os⟩ := fun q => hs.at q
    wp_walk using wpAny_loadPart' hp1, wpAny_loadPart' hl, wpAny_load hl, q1
    exact ⟨_, rfl, h⟩
section
variable {prog : Program} {w : World} {A : Around} {E : Value → Shared → Prop} {s : Shared} {K : Frag} {x C L f : Addr} {h₀ : Heap} {m : Str → Option Value} {ox : Obj} {od : Option Obj} {a : Value} {Ta ida : String}
theorem mine_rc_refl {Q : Value → Shared → Prop} (hu : A.units < cLine) (X : K.In s.heap) (ha : s.TypeIs a Ta) (I : InstAt s.heap x ox C od) (e : subIn K (.ref C) (.type Ta) = some false) (h1 : Slot Ta (cmpInfo .Eq).2.1 ida)
    (hs : findIn K (.ref C) "__eq__" = some (some (.ref f))) (hf : isFn K (.ref f) = true)
    (hc : ∀ Q' : Value → Shared → Prop, Q' .notImplemented s → wpAny (model prog w) A (call (.builtin ida) [a, .ref x]) Q' E s)
    (h : wpAny (model prog w) A (call (.ref f) [.ref x, a]) (CmpBack Q) E s) : wpAny (model prog w) A (richCompare .Eq a (.ref x)) Q E s := by
  have one : wpAny (model prog w) A (tryCompare (.ref x) "__eq__" a) (fun r s' => ∃ v, r = some v ∧ Q v s') E s := by
    unfold tryCompare
    refine wpAny_bind (ifBound_K X I hs hf (wpAny_mono h (fun v s' hv => ?_) fun _ _ e => e))
    cases v <;> first | exact hv.elim | exact wpAny_pure ⟨_, rfl, hv⟩
  unfold richCompare
  simp only [ha.oneThing_none]
  refine wpAny_holding (wpAny_bind (wpAny_cRoomFor hu ?_))
  refine wpAny_bind (wpAny_typeOf ha (wpAny_bind (I.type.here ?_)))
  have hne : (Value.type Ta != Value.ref C) = true := by simp
  simp only [hne, if_true]
  refine wpAny_bind ((looks_subIn X e).here ?_)
  simp only [Bool.false_eq_true, if_false, Bool.not_false, if_true]
  refine wpAny_bind (m := tryCompare a _ (.ref x)) (wpAny_tryCompare_declines ha h1 (hc _ ⟨rfl, ?_⟩))
  refine wpAny_bind (m := tryCompare (.ref x) _ a) (wpAny_mono one (fun r s' z => ?_) fun _ _ e => e)
  obtain ⟨v, rfl, hq⟩ := z
  exact wpAny_pure hq
end
end PySem

namespace Mine
open PySem PySem.Spec PyProof.Rows L2
/-! ### a built-in value == an instance whose class has its own __eq__ -/
inductive TyP (H : Hp) : V → String → Prop
  | non : TyP H .non "NoneType"
  | bl (b : Bool) : TyP H (.bl b) "bool"
  | int (i : Int) : TyP H (.int i) "int"
  | str (s : Str) : TyP H (.str s) "str"
  | lst {a : Addr} {xs : List V} (e : H a = some (.lst xs)) : TyP H (.ref a) "list"
  | tup {a : Addr} {xs : List V} (e : H a = some (.tup xs)) : TyP H (.ref a) "tuple"
abbrev kinds6 : List String := ["NoneType", "bool", "int", "str", "tuple", "list"]
theorem TyP.mem {H : Hp} {x : V} {n : String} (h : TyP H x n) : n ∈ kinds6 := by cases h <;> decide
def rEqR (K : PySem.W.Frag) (ok : Addr → Sp → Prop) : R2 := fun x y H Q => ∃ a C dx fs n sp, y = .ref a ∧ H a = some (.ins C dx fs) ∧ ok C sp ∧ TyP H x n ∧ PySem.W.subIn K (.ref C) (.type n) = some false ∧ sp [y, x] H (fun v H' => ∃ b, v = .bl b ∧ Q (.bl b) H') E0
theorem op_eqR {X : Cx} {K : PySem.W.Frag} {n : Nat} {ok : Addr → Sp → Prop} (eK : X.K = K) (h : ∀ C sp, ok C sp → EqC X.prog X.w X.K X.mg X.base n C sp) (hr : Room n X.A) : OpR X (compareOp .Eq) (rEqR K ok) := by
  intro pins s σ H x y v u Q I rx ry ⟨a, C, dx, fs, T, sp, ex, ha, hok, ty, nf, hsp⟩
  subst eK ex
  obtain rfl : u = Value.ref a := ry
  obtain ⟨f, fd, ps, FO, hs, hf, hb⟩ := h C sp hok
  obtain ⟨mA, J, _⟩ := ins_get I.hok ha
  have hg : s.heap.get? a = some (PySem.W.instObj C dx) := (show ObjOk X.prog X.w H s.heap a (.ins C dx fs) from I.hok a _ ha).2.2.2.1
  obtain ⟨od, J, _⟩ := J.look
  have hl := FO.len _ _ _ _ hsp
  have fin : ∀ v, RelV x v → wpAny (model X.prog X.w) X.A (call (.ref f) [.ref a, v]) (PySem.W.CmpBack (EP X pins σ Q)) X.xe s := by
    intro v rx
    have r2 : Vals [V.ref a, x] [Value.ref a, v] := .cons rfl (.cons rx .nil)
    refine wpAny_call (codeAny_mono (FO.run X.A X.stack s H ⟨[.ref a, v], []⟩ [.ref a, v] [.ref a, x] _ E0 hr I.env0 (by
      have := hb s [.ref a, v] I.kIn (by simpa using hl)
      simpa using this) r2 hsp) fun r s' hq => ?_)
    cases r with
    | error e => exact pass0 pins σ H s e s' I hq
    | ok fl =>
      cases fl with
      | ret w =>
        obtain ⟨z, H', I', rz, b, ez, q⟩ := I.after hq
        subst ez
        have rz : w = Value.bool b := rz
        subst rz
        exact ⟨.bl b, H', I', rfl, q⟩
      | next => exact False.elim hq
      | brk => exact False.elim hq
      | cont => exact False.elim hq
  show wpAny (model X.prog X.w) X.A (richCompare .Eq v (.ref a)) (EP X pins σ Q) X.xe s
  have lk : ∀ M : Model, PySem.W.Looks M s.heap (isSubtype (.ref C) (.type T)) false := fun M => PySem.W.looks_subIn I.kIn nf
  cases ty with
  | non =>
    obtain rfl : v = Value.none := rx
    exact PySem.mine_rc_refl hr.units0 I.kIn rfl J nf F.slot_NoneType_eq hs hf (fun _ hq => call_gives F.slot_NoneType_eq rfl F.entry_NoneType_eq (F.args_NoneType_eq_2 _ _) (PySem.SeqAt.NoneType___eq___none_ref_0 a) hq) (fin _ rfl)
  | bl b =>
    obtain rfl : v = Value.bool b := rx
    exact PySem.mine_rc_refl hr.units0 I.kIn rfl J nf F.slot_bool_eq hs hf (fun _ hq => call_meets F.slot_bool_eq rfl F.entry_int_eq (F.args_int_eq_2 _ _) (mine_bool_eq_ins b a C dx) ⟨hg, hq⟩) (fin _ rfl)
  | int i =>
    obtain ⟨t, rfl⟩ := (show ∃ t, v = Value.int i t from rx)
    exact PySem.mine_rc_refl hr.units0 I.kIn (typeIs_int s i t) J nf F.slot_int_eq hs hf (fun _ hq => call_meets F.slot_int_eq (typeIs_int s i t) F.entry_int_eq (F.args_int_eq_2 _ _) (mine_int_eq_ins i t a C dx) ⟨hg, hq⟩) (fin _ ⟨t, rfl⟩)
  | str b =>
    obtain ⟨t, rfl⟩ := (show ∃ t, v = Value.str b t from rx)
    exact PySem.mine_rc_refl hr.units0 I.kIn (typeIs_str s b t) J nf F.slot_str_eq hs hf (fun _ hq => call_meets F.slot_str_eq (typeIs_str s b t) F.entry_str_eq (F.args_str_eq_2 _ _) (mine_str_eq_ins b t a C dx) ⟨hg, hq⟩) (fin _ ⟨t, rfl⟩)
  | @lst p xs e =>
    obtain rfl : v = Value.ref p := rx
    obtain ⟨_, its, k, _, ho⟩ := (show ObjOk X.prog X.w H s.heap p (.lst xs) from I.hok p _ e)
    exact PySem.mine_rc_refl hr.units0 I.kIn ⟨_, ho, rfl⟩ J nf F.slot_list_eq hs hf (fun _ hq => call_meets F.slot_list_eq ⟨_, ho, rfl⟩ F.entry_list_eq (F.args_list_eq_2 _ _) (mine_list_eq_ins p a C dx _ _ _ _) ⟨⟨ho, hg, lk⟩, hq⟩) (fin _ rfl)
  | @tup p xs e =>
    obtain rfl : v = Value.ref p := rx
    obtain ⟨_, its, _, ht⟩ := (show ObjOk X.prog X.w H s.heap p (.tup xs) from I.hok p _ e)
    obtain ⟨⟨cls, dd, data, sl⟩, ho, hc, n, hd⟩ := id ht
    simp only at hc hd
    subst hc hd
    exact PySem.mine_rc_refl hr.units0 I.kIn ⟨_, ho, rfl⟩ J nf F.slot_tuple_eq hs hf (fun _ hq => call_meets F.slot_tuple_eq ⟨_, ho, rfl⟩ F.entry_tuple_eq (F.args_tuple_eq_2 _ _) (mine_tuple_eq_ins p a C dx _ _ _ _) ⟨⟨ho, hg, lk⟩, hq⟩) (fin _ rfl)
def Dt.kindR : Dt → Bool
  | .non | .bl _ | .int _ | .str _ | .tup _ | .lst _ => true
  | _ => false
theorem Den.typ {K : PySem.W.Frag} {H : Hp} {X : Addr → Prop} {v : V} {d : Dt} (h : Den K (vis H X) v d) (hk : d.kindR = true) : ∃ n, TyP H v n := by
  cases d with
  | non => rw [h.flat rfl]; exact ⟨_, .non⟩
  | bl b => rw [h.flat rfl]; exact ⟨_, .bl b⟩
  | int b => rw [h.flat rfl]; exact ⟨_, .int b⟩
  | str b => rw [h.flat rfl]; exact ⟨_, .str b⟩
  | tup xs => cases h with
    | tup h1 _ => exact ⟨_, .tup (vis_sub _ _ h1)⟩
  | lst xs => cases h with
    | lst h1 _ => exact ⟨_, .lst (vis_sub _ _ h1)⟩
  | _ => cases hk
/-- of both kinds -/
def dEqB (tabE : Str → Option DFn) (tabC : Str → Bool) : D2 := fun x y Q => match y with
  | .ins c ns ds => (x.kindR = true ∧ ∃ F, tabE c = some F ∧ F [.d (.ins c ns ds), .d x] (fun r => ∃ b, r = .bl b ∧ Q (.bl b)) (fun _ => False)) ∨ (x.kindR = false ∧ dEqO tabE tabC x (.ins c ns ds) Q)
  | y => dEqO tabE tabC x y Q
structure EqTab2 (K : PySem.W.Frag) (tabE : Str → Option DFn) (tabC : Str → Bool) : Prop extends EqTab K tabE tabC where
  sub : ∀ c F, tabE c = some F → ∀ n, n ∈ kinds6 → PySem.W.subIn K (.ref (He.ga K c)) (.type n) = some false
theorem eqO_core {C : Bc} {X : Addr → Prop} {tabE : Str → Option DFn} {tabC : Str → Bool} (T : EqTab C.K tabE tabC) {env σ} {H2 : Hp} {d d2 : Dt} {v v2 : V} {Q : VK} {Qd : Dt → Prop} (rp2 : Rep C X env σ H2) (r1 : Den C.K (vis H2 X) v d) (r2 : Den C.K (vis H2 X) v2 d2) (he2 : dEqO tabE tabC d d2 Qd)
    (q : ∀ d3 v3 H3, Frm C.hd H2 H3 → Den C.K (vis H3 X) v3 d3 → Qd d3 → Q v3 H3) : rEqO C.K (okE C.K tabE) v v2 H2 Q ∨ rEqD C.K v v2 H2 Q := by
  have eqs : dEq d d2 Qd → rEqO C.K (okE C.K tabE) v v2 H2 Q ∨ rEqD C.K v v2 H2 Q := fun he2 => .inr (od_eq X env σ H2 H2 v v2 _ _ Q Qd rp2 (.inl r1) (.inl r2) he2 fun d3 v3 H3 f3 r3 => q d3 v3 H3 f3 r3)
  cases d with
  | ins c ns ds =>
    obtain ⟨F, hF, hy, he3⟩ := he2
    refine .inl ?_
    have r1' := r1
    cases r1 with
    | @ins p dx _ _ vs _ hp hl al =>
      have sp : spD C.K F [.ref p, v2] H2 (fun v H' => ∃ b, v = .bl b ∧ Q (.bl b) H') E0 := by
        refine spD_use rp2 (.d r1' (.d r2 .nil)) he3 (fun d v H' f h hq => ?_) fun _ _ _ _ _ _ z => z.elim
        obtain ⟨b, rfl, hq⟩ := hq
        have ev : v = .bl b := h.flat rfl
        exact ⟨b, ev, q _ _ H' f (.bl _) hq⟩
      cases d2 with
      | ins c' ns' ds' =>
        have r2' := r2
        cases r2' with
        | @ins p2 dx2 _ _ vs2 _ hp2 hl2 al2 =>
          exact ⟨p, _, dx, _, _, _, rfl, vis_sub _ _ hp, ⟨c, F, hF, rfl, rfl⟩, T.ins _ hy _ _ _ _ (vis_sub _ _ hp2), T.own _ _ _ hF hy, sp⟩
      | _ =>
        obtain ⟨n, hn⟩ := Option.isSome_iff_exists.mp hy
        exact ⟨p, _, dx, _, _, _, rfl, vis_sub _ _ hp, ⟨c, F, hF, rfl, rfl⟩, (Bor.tyx (H1 := H2) (.inl r2) hn), T.kin _ _ hF n (Dt.kind_mem hn), sp⟩
  | _ => exact eqs he2
theorem de_eqB {C : Bc} {ta tb : TE} {a b : DX} {tabE : Str → Option DFn} {tabC : Str → Bool} (T : EqTab2 C.K tabE tabC) (ha : DE C ta a) (hb : DE C tb b) :
    DE C (tOp (fun x y H Q => rEqR C.K (okE C.K tabE) x y H Q ∨ (rEqO C.K (okE C.K tabE) x y H Q ∨ rEqD C.K x y H Q)) ta tb) (eOp (dEqB tabE tabC) a b) := by
  intro X env σ H Q Qd Qx rp he q x
  refine ha X env σ H _ _ Qx rp he (fun d v H1 f1 r1 he1 => ?_) x
  have rp1 := rp.step f1
  refine hb X env σ H1 _ _ Qx rp1 he1 (fun d2 v2 H2 f2 r2 he2 => ?_) (x.step f1)
  have rp2 := rp1.step f2
  have r1 : Den C.K (vis H2 X) v d := Den.mono (rp1.vs f2) r1
  have r2 : Den C.K (vis H2 X) v2 d2 := r2
  have old : dEqO tabE tabC d d2 Qd → rEqR C.K (okE C.K tabE) v v2 H2 Q ∨ (rEqO C.K (okE C.K tabE) v v2 H2 Q ∨ rEqD C.K v v2 H2 Q) := fun he2 =>
    .inr (eqO_core T.toEqTab rp2 r1 r2 he2 fun d3 v3 H3 f3 r3 => q d3 v3 H3 (f1.trans (f2.trans f3)) r3)
  cases d2 with
  | ins c' ns' ds' =>
    rcases he2 with ⟨hk, F, hF, he3⟩ | ⟨_, he3⟩
    · refine .inl ?_
      obtain ⟨n, hn⟩ := Den.typ r1 hk
      have r2' := r2
      cases r2' with
      | @ins p dx _ _ vs _ hp hl al =>
        have sp : spD C.K F [.ref p, v] H2 (fun v H' => ∃ b, v = .bl b ∧ Q (.bl b) H') E0 := by
          refine spD_use rp2 (.d r2 (.d r1 .nil)) he3 (fun d v H' f h hq => ?_) fun _ _ _ _ _ _ z => z.elim
          obtain ⟨b, rfl, hq⟩ := hq
          have ev : v = .bl b := h.flat rfl
          exact ⟨b, ev, q _ _ H' (f1.trans (f2.trans f)) (.bl _) hq⟩
        exact ⟨p, _, dx, _, _, _, rfl, vis_sub _ _ hp, ⟨c', F, hF, rfl, rfl⟩, hn, T.sub _ _ hF n hn.mem, sp⟩
    · exact old he3
  | _ => exact old he2
end Mine

namespace Mine
open PySem PySem.Spec PyProof.Rows L2
/-! ### the tables for == of own classes -/
abbrev kindsT : List String := ["NoneType", "bool", "int", "str", "tuple", "list", "dict"]
def eqsB (cs : List Str) (K : PySem.W.Frag) : Bool := cs.all fun c => (kindsT.all fun n => PySem.W.notFirst K (He.ga K c) (.type n)) && ((kinds6.all fun n => decide (PySem.W.subIn K (.ref (He.ga K c)) (.type n) = some false)) && cs.all fun c' => PySem.W.notFirst K (He.ga K c) (.ref (He.ga K c')))
structure EqsOk (K : PySem.W.Frag) (cs : List Str) : Prop where
  kin : ∀ c, c ∈ cs → ∀ n, n ∈ ["NoneType", "bool", "int", "str", "tuple", "list", "dict"] → PySem.W.notFirst K (He.ga K c) (.type n) = true
  sub : ∀ c, c ∈ cs → ∀ n, n ∈ kinds6 → PySem.W.subIn K (.ref (He.ga K c)) (.type n) = some false
  own : ∀ c, c ∈ cs → ∀ c', c' ∈ cs → PySem.W.notFirst K (He.ga K c) (.ref (He.ga K c')) = true
theorem eqsB_ok {cs : List Str} {K : PySem.W.Frag} (h : eqsB cs K = true) : EqsOk K cs := by
  have h1 := fun c hc => (Bool.and_eq_true_iff.mp (List.all_eq_true.mp h c hc))
  refine ⟨fun c hc n hn => List.all_eq_true.mp (h1 c hc).1 n hn, fun c hc n hn => of_decide_eq_true (List.all_eq_true.mp (Bool.and_eq_true_iff.mp (h1 c hc).2).1 n hn), fun c hc c' hc' => List.all_eq_true.mp (Bool.and_eq_true_iff.mp (h1 c hc).2).2 c' hc'⟩
theorem eqt_of {K : PySem.W.Frag} {cs : List Str} {tabE : Str → Option DFn} {tabC : Str → Bool} (e : EqsOk K cs) (hE : ∀ c F, tabE c = some F → c ∈ cs) (hC : ∀ c, tabC c = true → c ∈ cs)
    (hI : ∀ c, c ∈ cs → Cls K (He.ga K c) ∧ InsK K (He.ga K c)) : EqTab2 K tabE tabC where
  kin c F h n hn := e.kin c (hE c F h) n hn
  own c F c' h h' := e.own c (hE c F h) c' (hC c' h')
  ins c' h' := fun H a dx fs q => tyx_ins (hI c' (hC c' h')).1 (hI c' (hC c' h')).2 H a dx fs q
  sub c F h n hn := e.sub c (hE c F h) n hn
/-! what == says in the pure part -/
section
variable {tabE : Str → Option DFn} {tabC : Str → Bool} {Q : Dt → Prop}
theorem eqB_ins {c c' : Str} {ns ns' : List Str} {ds ds' : List Dt} {F : DFn} (hF : tabE c = some F) (hC : tabC c' = true) (h : F [.d (.ins c ns ds), .d (.ins c' ns' ds')] (fun r => ∃ b, r = .bl b ∧ Q (.bl b)) (fun _ => False)) : dEqB tabE tabC (.ins c ns ds) (.ins c' ns' ds') Q := .inr ⟨rfl, F, hF, hC, h⟩
theorem eqB_left {c : Str} {ns : List Str} {ds : List Dt} {y : Dt} {F : DFn} (hF : tabE c = some F) (hy : y.kindR = true) (h : F [.d (.ins c ns ds), .d y] (fun r => ∃ b, r = .bl b ∧ Q (.bl b)) (fun _ => False)) : dEqB tabE tabC (.ins c ns ds) y Q := by
  cases y <;> first | cases hy; done | exact ⟨F, hF, rfl, h⟩
theorem eqB_right {c : Str} {ns : List Str} {ds : List Dt} {x : Dt} {F : DFn} (hF : tabE c = some F) (hx : x.kindR = true) (h : F [.d (.ins c ns ds), .d x] (fun r => ∃ b, r = .bl b ∧ Q (.bl b)) (fun _ => False)) : dEqB tabE tabC x (.ins c ns ds) Q := .inl ⟨hx, F, hF, h⟩
theorem eqB_plain {x y : Dt} (hx : x.kindR = true) (hy : y.kindR = true) (h : dEq x y Q) : dEqB tabE tabC x y Q := by
  cases y <;> first | (cases hy; done) | (cases x <;> first | (cases hx; done) | exact h)
end
end Mine

namespace Mine
open PySem PySem.Spec PyProof.Rows L2
/-! ### the pure part: rules -/
theorem iteQ {c : Prop} [Decidable c] {a b : Prop} (h : c → a) (k : ¬ c → b) : if c then a else b := by
  split
  · exact h (by assumption)
  · exact k (by assumption)
/-- a loop by an invariant over the number of turns; K: what is wanted behind the turn, B: behind a break -/
theorem dFor_inv {f : DGX} {b : DSt} {nx bk ct : List Sl → Prop} {rt : Dt → Prop} {xc : List Sl → Xc → Prop} (I : Nat → List Sl → Prop) : ∀ {xs : List Dt} {env : List Sl}, I 0 env →
    (∀ (i : Nat) (x : Dt) (e : List Sl) (K : List Sl → Prop) (B : { B : List Sl → Prop // ∀ e', nx e' → B e' }), xs[i]? = some x → I i e → (∀ e', I (i + 1) e' → K e') → f x e fun e' => b ⟨K, rt, B.1, K, xc⟩ e') → (∀ e, I xs.length e → nx e) → dFor f b ⟨nx, rt, bk, ct, xc⟩ xs env := by
  intro xs
  induction xs generalizing I with
  | nil => intro env h0 _ fin; exact fin _ h0
  | cons x xs ih =>
    intro env h0 step fin
    refine step 0 x env _ ⟨nx, fun _ h => h⟩ rfl h0 fun e' h1 => ?_
    exact ih (fun i => I (i + 1)) h1 (fun i y e K B e1 => step (i + 1) y e K B (by simpa using e1)) fin
/-- a loop that only looks: what it keeps is the same at each turn -/
theorem dFor_keep {f : DGX} {b : DSt} {nx bk ct : List Sl → Prop} {rt : Dt → Prop} {xc : List Sl → Xc → Prop} (I : List Sl → Prop) {xs : List Dt} {env : List Sl} (h0 : I env)
    (step : ∀ (x : Dt) (e : List Sl) (K : List Sl → Prop) (B : { B : List Sl → Prop // ∀ e', nx e' → B e' }), x ∈ xs → I e → (∀ e', I e' → K e') → f x e fun e' => b ⟨K, rt, B.1, K, xc⟩ e') (fin : ∀ e, I e → nx e) : dFor f b ⟨nx, rt, bk, ct, xc⟩ xs env :=
  dFor_inv (fun _ => I) h0 (fun i x e K B hx => step x e K B (List.mem_of_getElem? hx)) fin
/-- a comprehension: which items stay, what becomes of them -/
theorem lc_ok {α : Type} {f : DGX} {tt : DTX} {te : DX} {env : List Sl} {Q : Dt → Prop} (e : α → Dt) (p : α → Bool) (g : α → Dt) : ∀ {xs : List α} {acc : List Dt},
    (∀ x ∈ xs, ∀ (K1 : Dt → Prop) (K0 : Prop), (p x = true → K1 (g x)) → (p x = false → K0) → f (e x) env fun env' => tt env' (fun b => if b = true then te env' K1 (fun _ => False) else K0) fun _ => False) →
    acc.length + xs.length ≤ 16777216 → Q (.lst (acc ++ (xs.filter p).map g)) → lcGo f tt te env Q (xs.map e) acc := by
  intro xs
  induction xs with
  | nil => intro acc _ _ q; show Q (.lst acc); simpa using q
  | cons x xs ih =>
    intro acc step hl q
    refine step x List.mem_cons_self _ _ (fun hp => ?_) fun hp => ?_
    · rw [List.length_cons] at hl
      refine ⟨by show acc.length < 16777216; omega, ih (fun y hy => step y (List.mem_cons_of_mem _ hy)) (by rw [List.length_append]; show acc.length + 1 + _ ≤ _; omega) ?_⟩
      rw [List.filter_cons, if_pos hp, List.map_cons] at q
      simpa using q
    · rw [List.length_cons] at hl
      refine ih (fun y hy => step y (List.mem_cons_of_mem _ hy)) (by omega) ?_
      rw [List.filter_cons, if_neg (by rw [hp]; decide)] at q
      exact q
/-- without a test -/
theorem lc_map {α : Type} {f : DGX} {te : DX} {env : List Sl} {Q : Dt → Prop} (e : α → Dt) (g : α → Dt) {xs : List α}
    (step : ∀ x ∈ xs, ∀ K1 : Dt → Prop, K1 (g x) → f (e x) env fun env' => te env' K1 (fun _ => False)) (hl : xs.length ≤ 16777216) (q : Q (.lst (xs.map g))) : lcGo f eYes te env Q (xs.map e) [] := by
  refine lc_ok e (fun _ => true) g (fun x hx K1 K0 h1 _ => ?_) (by simpa using hl) (by rw [List.filter_eq_self.mpr fun _ _ => rfl]; exact q)
  exact step x hx K1 (h1 rfl)
/-- a comprehension whose items are any of their kind -/
theorem lc_any {f : DGX} {te : DX} {env : List Sl} {Q : Dt → Prop} (G : Dt → Prop) : ∀ {ds : List Dt} {acc : List Dt}, (∀ x ∈ ds, ∀ K1 : Dt → Prop, (∀ y, G y → K1 y) → f x env fun env' => te env' K1 (fun _ => False)) →
    acc.length + ds.length ≤ 16777216 → (∀ y ∈ acc, G y) → (∀ ys, ys.length = acc.length + ds.length → (∀ y ∈ ys, G y) → Q (.lst ys)) → lcGo f eYes te env Q ds acc := by
  intro ds
  induction ds with
  | nil => intro acc _ _ ha q; exact q acc rfl ha
  | cons x ds ih =>
    intro acc step hl ha q
    rw [List.length_cons] at hl q
    refine step x List.mem_cons_self _ fun y hy => ⟨by show acc.length < 16777216; omega, ih (fun z hz => step z (List.mem_cons_of_mem _ hz)) (by rw [List.length_append]; show acc.length + 1 + _ ≤ _; omega) (fun z hz => ?_) fun ys e h => q ys ?_ h⟩
    · rcases List.mem_append.mp hz with h | h
      · exact ha z h
      · rw [List.mem_singleton.mp h]; exact hy
    · rw [e, List.length_append]; show acc.length + 1 + _ = _; omega
/-! ### data of a type -/
abbrev iT (w : List Int) : Dt := .tup (w.map .int)
abbrev iL (w : List Int) : Dt := .lst (w.map .int)
def Dt.shN (n : Nat) (a : Dt) : Prop := ∃ p, a.py = some p ∧ p.canLay0 = true ∧ p.depth ≤ n
theorem Dt.shN.sh {n : Nat} {a : Dt} (h : a.shN n) (hn : n ≤ 64 := by decide) : a.sh := by
  obtain ⟨p, e, c, d⟩ := h
  exact ⟨p, e, by unfold SeqAt.shaped; rw [c, decide_eq_true (by omega)]; rfl⟩
theorem shN_mono {n m : Nat} {a : Dt} (h : a.shN n) (hn : n ≤ m) : a.shN m := let ⟨p, e, c, d⟩ := h; ⟨p, e, c, Nat.le_trans d hn⟩
theorem shN_non : (Dt.non).shN 0 := ⟨.none, by rw [Dt.py], by rw [PyData.canLay0], by rw [PyData.depth]; exact Nat.le_refl _⟩
theorem shN_bl (b : Bool) : (Dt.bl b).shN 0 := ⟨.bool b, by rw [Dt.py], by rw [PyData.canLay0], by rw [PyData.depth]; exact Nat.le_refl _⟩
theorem shN_int (i : Int) : (Dt.int i).shN 0 := ⟨.int i, by rw [Dt.py], by rw [PyData.canLay0], by rw [PyData.depth]; exact Nat.le_refl _⟩
theorem shN_all {n : Nat} : ∀ {xs : List Dt}, (∀ x ∈ xs, x.shN n) → ∃ ps, Dt.pys xs = some ps ∧ PyData.canLayAll0 ps = true ∧ PyData.depthAll ps ≤ n
  | [], _ => ⟨[], by rw [Dt.pys], by rw [PyData.canLayAll0], by rw [PyData.depthAll]; exact Nat.zero_le _⟩
  | x :: xs, h => by
    obtain ⟨p, e, c, d⟩ := h x List.mem_cons_self
    obtain ⟨ps, e2, c2, d2⟩ := shN_all fun y hy => h y (List.mem_cons_of_mem _ hy)
    exact ⟨p :: ps, by rw [Dt.pys, e, e2], by rw [PyData.canLayAll0, c, c2]; rfl, by rw [PyData.depthAll]; omega⟩
theorem shN_tup {n : Nat} {xs : List Dt} (h : ∀ x ∈ xs, x.shN n) : (Dt.tup xs).shN (n + 1) := by
  obtain ⟨ps, e, c, d⟩ := shN_all h
  exact ⟨.tuple ps, by rw [Dt.py, e]; rfl, by rw [PyData.canLay0]; exact c, by rw [PyData.depth]; omega⟩
theorem shN_lst {n : Nat} {xs : List Dt} (h : ∀ x ∈ xs, x.shN n) : (Dt.lst xs).shN (n + 1) := by
  obtain ⟨ps, e, c, d⟩ := shN_all h
  exact ⟨.list ps, by rw [Dt.py, e]; rfl, by rw [PyData.canLay0]; exact c, by rw [PyData.depth]; omega⟩
theorem shN_str {z : Str} (h : PyData.strOk z = true) : (Dt.str z).shN 0 := ⟨.str z, by rw [Dt.py], by rw [PyData.canLay0]; exact h, by rw [PyData.depth]; exact Nat.le_refl _⟩
/-! equality -/
def eqvL : List Dt → List Dt → Bool
  | [], [] => true
  | x :: xs, y :: ys => x.eqv y && eqvL xs ys
  | _, _ => false
theorem eqvL_of {n m : Nat} : ∀ {xs ys : List Dt} {ps qs : List PyData}, Dt.pys xs = some ps → Dt.pys ys = some qs → PyData.eqvAll ps qs = eqvL xs ys
  | [], [], _, _, e1, e2 => by
    rw [Dt.pys] at e1 e2; cases e1; cases e2; rw [PyData.eqvAll]; rfl
  | [], y :: ys, _, _, e1, e2 => by
    rw [Dt.pys] at e1
    rw [Dt.pys] at e2
    cases e1
    split at e2
    · cases e2; rw [PyData.eqvAll]; rfl
    · cases e2
  | x :: xs, [], _, _, e1, e2 => by
    rw [Dt.pys] at e1
    rw [Dt.pys] at e2
    cases e2
    split at e1
    · cases e1; rw [PyData.eqvAll]; rfl
    · cases e1
  | x :: xs, y :: ys, _, _, e1, e2 => by
    rw [Dt.pys] at e1
    rw [Dt.pys] at e2
    split at e1
    · rename_i p ps h1 h2
      cases e1
      split at e2
      · rename_i q qs h3 h4
        cases e2
        rw [PyData.eqvAll, eqvL_of (n := n) (m := m) h2 h4, ← Dt.eqv_of h1 h3]; rfl
      · cases e2
    · cases e1
theorem eqv_seq {xs ys : List Dt} (h1 : ∃ ps, Dt.pys xs = some ps) (h2 : ∃ ps, Dt.pys ys = some ps) : (Dt.tup xs).eqv (.tup ys) = eqvL xs ys ∧ (Dt.lst xs).eqv (.lst ys) = eqvL xs ys ∧ (Dt.tup xs).eqv (.lst ys) = false ∧ (Dt.lst xs).eqv (.tup ys) = false := by
  obtain ⟨ps, e1⟩ := h1
  obtain ⟨qs, e2⟩ := h2
  have a : (Dt.tup xs).py = some (.tuple ps) := by rw [Dt.py, e1]; rfl
  have b : (Dt.tup ys).py = some (.tuple qs) := by rw [Dt.py, e2]; rfl
  have c : (Dt.lst xs).py = some (.list ps) := by rw [Dt.py, e1]; rfl
  have d : (Dt.lst ys).py = some (.list qs) := by rw [Dt.py, e2]; rfl
  rw [Dt.eqv_of a b, Dt.eqv_of c d, Dt.eqv_of a d, Dt.eqv_of c b]
  refine ⟨?_, ?_, ?_, ?_⟩
  · rw [PyData.eqv]; exact eqvL_of (n := 0) (m := 0) e1 e2
  · rw [PyData.eqv]; exact eqvL_of (n := 0) (m := 0) e1 e2
  · rw [PyData.eqv]
  · rw [PyData.eqv]
theorem eqv_int (i j : Int) : (Dt.int i).eqv (.int j) = decide (i = j) := by
  rw [Dt.eqv_of (a := .int i) (b := .int j) (by rw [Dt.py]) (by rw [Dt.py]), PyData.eqv]; rfl
theorem eqv_bl (i j : Bool) : (Dt.bl i).eqv (.bl j) = decide (i = j) := by
  rw [Dt.eqv_of (a := .bl i) (b := .bl j) (by rw [Dt.py]) (by rw [Dt.py]), PyData.eqv]
  cases i <;> cases j <;> rfl
theorem eqv_str (i j : Str) : (Dt.str i).eqv (.str j) = decide (i = j) := by
  rw [Dt.eqv_of (a := .str i) (b := .str j) (by rw [Dt.py]) (by rw [Dt.py]), PyData.eqv]; rfl
/-- a type whose things are data, equal exactly if they are -/
structure EqE {α : Type} [DecidableEq α] (e : α → Dt) (n : Nat) : Prop where
  sh : ∀ a, (e a).shN n
  eq : ∀ a b, (e a).eqv (e b) = decide (a = b)
theorem eqE_int : EqE Dt.int 0 := ⟨shN_int, eqv_int⟩
theorem eqE_bl : EqE Dt.bl 0 := ⟨shN_bl, eqv_bl⟩
section
variable {α : Type} [DecidableEq α] {e : α → Dt} {n : Nat}
theorem EqE.pys (h : EqE e n) (xs : List α) : ∃ ps, Dt.pys (xs.map e) = some ps := by
  obtain ⟨ps, e1, _⟩ := shN_all (n := n) (xs := xs.map e) fun x hx => by
    obtain ⟨a, _, rfl⟩ := List.mem_map.mp hx
    exact h.sh a
  exact ⟨ps, e1⟩
theorem EqE.eqvL (h : EqE e n) : ∀ xs ys : List α, Mine.eqvL (xs.map e) (ys.map e) = decide (xs = ys)
  | [], [] => by simp [Mine.eqvL]
  | [], y :: ys => by simp [Mine.eqvL]
  | x :: xs, [] => by simp [Mine.eqvL]
  | x :: xs, y :: ys => by
    rw [List.map_cons, List.map_cons, Mine.eqvL, h.eq, EqE.eqvL h xs ys]
    by_cases a : x = y <;> by_cases b : xs = ys <;> simp [a, b]
theorem EqE.tup (h : EqE e n) : EqE (fun xs : List α => Dt.tup (xs.map e)) (n + 1) :=
  ⟨fun xs => shN_tup fun x hx => by obtain ⟨a, _, rfl⟩ := List.mem_map.mp hx; exact h.sh a, fun xs ys => by
    show (Dt.tup (xs.map e)).eqv (.tup (ys.map e)) = _
    rw [(eqv_seq (h.pys xs) (h.pys ys)).1]; exact h.eqvL xs ys⟩
theorem EqE.lst (h : EqE e n) : EqE (fun xs : List α => Dt.lst (xs.map e)) (n + 1) :=
  ⟨fun xs => shN_lst fun x hx => by obtain ⟨a, _, rfl⟩ := List.mem_map.mp hx; exact h.sh a, fun xs ys => by
    show (Dt.lst (xs.map e)).eqv (.lst (ys.map e)) = _
    rw [(eqv_seq (h.pys xs) (h.pys ys)).2.1]; exact h.eqvL xs ys⟩
theorem EqE.dEq (h : EqE e n) {a b : α} {Q : Dt → Prop} (q : Q (.bl (decide (a = b)))) (hn : n ≤ 64 := by decide) : dEq (e a) (e b) Q :=
  ⟨(h.sh a).sh hn, (h.sh b).sh hn, by rw [h.eq]; exact q⟩
theorem EqE.dNe (h : EqE e n) {a b : α} {Q : Dt → Prop} (q : Q (.bl (!decide (a = b)))) (hn : n ≤ 64 := by decide) : dNe (e a) (e b) Q :=
  ⟨(h.sh a).sh hn, (h.sh b).sh hn, by rw [h.eq]; exact q⟩
end
theorem eqE_T : EqE iT 1 := eqE_int.tup
theorem eqE_L : EqE iL 1 := eqE_int.lst
theorem dEq_int {i j : Int} {Q : Dt → Prop} : dEq (.int i) (.int j) Q = Q (.bl (decide (i = j))) := by
  refine propext ⟨fun h => ?_, fun h => eqE_int.dEq h⟩
  have := h.2.2
  rwa [eqv_int] at this
theorem dNe_int {i j : Int} {Q : Dt → Prop} : dNe (.int i) (.int j) Q = Q (.bl (!decide (i = j))) := by
  refine propext ⟨fun h => ?_, fun h => eqE_int.dNe h⟩
  have := h.2.2
  rwa [eqv_int] at this
/-! items -/
theorem ix_at {xs : List Dt} {k : Int} {n : Nat} {Q : Dt → Prop} (e : k = n) (h : n < xs.length) (q : Q xs[n]) : ∃ x, atI xs k = some x ∧ Q x :=
  ⟨xs[n], by rw [e]; exact atI_nat (by rw [List.getElem?_eq_getElem h]), q⟩
theorem ix_map {α : Type} {e : α → Dt} {xs : List α} {k : Int} {n : Nat} {Q : Dt → Prop} (hk : k = n) (h : n < xs.length) (q : Q (e xs[n])) : ∃ x, atI (xs.map e) k = some x ∧ Q x :=
  ix_at hk (by rw [List.length_map]; exact h) (by rw [List.getElem_map]; exact q)
theorem ix_last {xs : List Dt} {Q : Dt → Prop} (h : xs ≠ []) (q : Q (xs.getLast h)) : ∃ x, atI xs (-1) = some x ∧ Q x := by
  have hp := List.length_pos_iff.mpr h
  refine ⟨xs.getLast h, ?_, q⟩
  unfold atI
  rw [ixN_back hp, List.getLast_eq_getElem]
  show xs[xs.length - 1]? = _
  rw [List.getElem?_eq_getElem (by omega)]
end Mine
namespace Mine
open PySem PySem.Spec PyProof.Rows L2
/-- a comprehension by an invariant over what is made so far -/
theorem lc_inv {f : DGX} {tt : DTX} {te : DX} {env : List Sl} {Q : Dt → Prop} (I : Nat → List Dt → Prop) : ∀ {xs : List Dt} {acc : List Dt}, I 0 acc →
    (∀ (i : Nat) (x : Dt) (acc : List Dt) (K : List Dt → Prop), xs[i]? = some x → I i acc → (∀ a, I (i + 1) a → K a) → f x env fun env' => tt env' (fun b => if b = true then te env' (fun y => acc.length < 16777216 ∧ K (acc ++ [y])) (fun _ => False) else K acc) fun _ => False) →
    (∀ a, I xs.length a → Q (.lst a)) → lcGo f tt te env Q xs acc := by
  intro xs
  induction xs generalizing I with
  | nil => intro acc h0 _ fin; exact fin _ h0
  | cons x xs ih =>
    intro acc h0 step fin
    exact step 0 x acc (fun a => lcGo f tt te env Q xs a) rfl h0 fun a h1 => ih (fun i => I (i + 1)) h1 (fun i y acc K e1 => step (i + 1) y acc K (by simpa using e1)) fin
mutual
theorem Dt.eqv_self0 : ∀ {a : Dt} {p : PyData}, a.py = some p → PyData.eqv p p = true
  | .non, _, e => by rw [Dt.py] at e; cases e; rw [PyData.eqv]
  | .bl b, _, e => by rw [Dt.py] at e; cases e; rw [PyData.eqv]; simp
  | .int b, _, e => by rw [Dt.py] at e; cases e; rw [PyData.eqv]; simp
  | .str b, _, e => by rw [Dt.py] at e; cases e; rw [PyData.eqv]; simp
  | .tup xs, _, e => by
    rw [Dt.py, Option.map_eq_some_iff] at e
    obtain ⟨ps, e1, rfl⟩ := e
    rw [PyData.eqv]; exact Dt.eqv_selfs e1
  | .lst xs, _, e => by
    rw [Dt.py, Option.map_eq_some_iff] at e
    obtain ⟨ps, e1, rfl⟩ := e
    rw [PyData.eqv]; exact Dt.eqv_selfs e1
  | .dk _ _, _, e => by rw [Dt.py] at e <;> cases e
  | .ins _ _ _, _, e => by rw [Dt.py] at e <;> cases e
  | .raw _, _, e => by rw [Dt.py] at e <;> cases e
theorem Dt.eqv_selfs : ∀ {xs : List Dt} {ps : List PyData}, Dt.pys xs = some ps → PyData.eqvAll ps ps = true
  | [], _, e => by rw [Dt.pys] at e; cases e; rw [PyData.eqvAll]
  | x :: xs, _, e => by
    rw [Dt.pys] at e
    split at e
    · rename_i p ps h1 h2
      cases e
      rw [PyData.eqvAll, Dt.eqv_self0 h1, Dt.eqv_selfs h2]; rfl
    · cases e
end
theorem Dt.eqv_self {a : Dt} (h : a.sh) : a.eqv a = true := by
  obtain ⟨p, e, _⟩ := h
  rw [Dt.eqv_of e e]; exact Dt.eqv_self0 e
theorem dEq_self {a : Dt} {Q : Dt → Prop} (h : a.sh) (q : Q (.bl true)) : dEq a a Q := ⟨h, h, by rw [Dt.eqv_self h]; exact q⟩
theorem dNe_self {a : Dt} {Q : Dt → Prop} (h : a.sh) (q : Q (.bl false)) : dNe a a Q := ⟨h, h, by rw [Dt.eqv_self h]; exact q⟩
theorem rg_toNat (n : Nat) : ((n : Int)).toNat = n := by omega
theorem take_snoc {α : Type} {xs : List α} {i : Nat} {x : α} (h : xs[i]? = some x) : xs.take (i + 1) = xs.take i ++ [x] := by
  rw [List.take_add_one, h]; rfl
theorem map_get {α : Type} {e : α → Dt} {xs : List α} {i : Nat} {x : Dt} (h : (xs.map e)[i]? = some x) : ∃ a, xs[i]? = some a ∧ x = e a := by
  rw [List.getElem?_map, Option.map_eq_some_iff] at h
  obtain ⟨a, h1, h2⟩ := h
  exact ⟨a, h1, h2.symm⟩
theorem ix_get {xs : List Dt} {k : Int} {n : Nat} {x : Dt} {Q : Dt → Prop} (e : k = n) (h : xs[n]? = some x) (q : Q x) : ∃ x, atI xs k = some x ∧ Q x :=
  ⟨x, by rw [e]; exact atI_nat h, q⟩
theorem ix_mget {α : Type} {f : α → Dt} {xs : List α} {k : Int} {n : Nat} {a : α} {Q : Dt → Prop} (e : k = n) (h : xs[n]? = some a) (q : Q (f a)) : ∃ x, atI (xs.map f) k = some x ∧ Q x :=
  ix_get e (by rw [List.getElem?_map, h]; rfl) q
end Mine
namespace Mine
open PySem PySem.Spec PyProof.Rows L2
theorem cutG_take {α : Type} {xs : List α} {z : Int} {k : Nat} (e : z = k) : cutG xs none (some z) = xs.take k := by
  subst e
  unfold cutG
  rw [HT.sIx_none, HT.sIx_nat, List.drop_zero, Nat.sub_zero]
  by_cases h : k ≤ xs.length
  · rw [Nat.min_eq_left h]
  · rw [Nat.min_eq_right (by omega), List.take_length, List.take_of_length_le (by omega)]
theorem cutG_drop {α : Type} {xs : List α} {z : Int} {k : Nat} (e : z = k) : cutG xs (some z) none = xs.drop k := by
  subst e
  unfold cutG
  rw [HT.sIx_none, HT.sIx_nat]
  by_cases h : k ≤ xs.length
  · rw [Nat.min_eq_left h, List.take_of_length_le (by rw [List.length_drop]; omega)]
  · rw [Nat.min_eq_right (by omega), List.drop_of_length_le (Nat.le_refl _), List.drop_of_length_le (by omega), List.take_nil]
end Mine
namespace Mine
open PySem PySem.Spec PyProof.Rows L2
theorem ix_mem {xs : List Dt} {k : Nat} {Q : Dt → Prop} (h : k < xs.length) (q : ∀ x ∈ xs, Q x) : ∃ x, atI xs (k : Int) = some x ∧ Q x :=
  ix_get rfl (List.getElem?_eq_getElem h) (q _ (List.getElem_mem h))
end Mine

namespace Mine
open PySem PySem.Spec PyProof.Rows L2
/-! ### any thing: its kind -/
/-- a thing whose kind is known -/
def Dt.kn (a : Dt) : Prop := a.kind.isSome = true
theorem kn_int (i : Int) : (Dt.int i).kind.isSome = true := rfl
theorem kn_bl (i : Bool) : (Dt.bl i).kind.isSome = true := rfl
theorem kn_non : (Dt.non).kind.isSome = true := rfl
theorem kn_str (i : Str) : (Dt.str i).kind.isSome = true := rfl
theorem kn_tup (i : List Dt) : (Dt.tup i).kind.isSome = true := rfl
theorem kn_lst (i : List Dt) : (Dt.lst i).kind.isSome = true := rfl
theorem kn_dt (i : List (List Key)) (j : List Dt) : (Dt.dt i j).kind.isSome = true := rfl
theorem isN_dt (i : List (List Key)) (j : List Dt) : Dt.isN (.dt i j) = false := rfl
theorem kn_dk (i : List Key) (j : List Dt) : (Dt.dk i j).kind.isSome = true := rfl
def isW : Dt → Bool
  | .int _ => true
  | _ => false
def isSeq : Dt → Bool
  | .lst _ => true
  | .tup _ => true
  | _ => false
def isTp : Dt → Bool
  | .tup _ => true
  | _ => false
def isSt : Dt → Bool
  | .str _ => true
  | _ => false
def isLs : Dt → Bool
  | .lst _ => true
  | _ => false
def itemsOf : Dt → List Dt
  | .lst xs => xs
  | .tup xs => xs
  | _ => []
/-- a whole number within bounds -/
def inB (lo hi : Int) : Dt → Bool
  | .int i => decide (lo ≤ i) && decide (i ≤ hi)
  | _ => false
theorem isa_int (a : Dt) : a.isa "int" = (isW a || (match a with | .bl _ => true | _ => false)) := by cases a <;> (unfold Dt.isa; rfl)
theorem isa_bool (a : Dt) : a.isa "bool" = (match a with | .bl _ => true | _ => false) := by cases a <;> (unfold Dt.isa; rfl)
theorem isa_tup (a : Dt) : a.isa "tuple" = isTp a := by cases a <;> (unfold Dt.isa; rfl)
theorem isa_str (a : Dt) : a.isa "str" = isSt a := by cases a <;> (unfold Dt.isa; rfl)
theorem isa_lst (a : Dt) : a.isa "list" = isLs a := by cases a <;> (unfold Dt.isa; rfl)
theorem isa_seq (a : Dt) : (a.isa "list" || a.isa "tuple") = isSeq a := by cases a <;> (unfold Dt.isa; rfl)
theorem isa_int_int (i : Int) : (Dt.int i).isa "int" = true := rfl
theorem isa_int_bool (i : Int) : (Dt.int i).isa "bool" = false := rfl
theorem isa_tup_tup (i : List Dt) : (Dt.tup i).isa "tuple" = true := rfl
theorem isa_bl_bool (i : Bool) : (Dt.bl i).isa "bool" = true := rfl
theorem isa_seq_tup (i : List Dt) : ((Dt.tup i).isa "list" || (Dt.tup i).isa "tuple") = true := rfl
theorem isa_seq_lst (i : List Dt) : ((Dt.lst i).isa "list" || (Dt.lst i).isa "tuple") = true := rfl
theorem isa_seq2 (a : Dt) : (isLs a || isTp a) = isSeq a := by cases a <;> rfl
section
variable {i j : Int} {x y : List Dt} {u v : Str} {Q : Dt → Prop}
theorem dAdd_int : dAdd (.int i) (.int j) Q = Q (.int (i + j)) := rfl
theorem dAdd_lst : dAdd (.lst x) (.lst y) Q = (x.length + y.length ≤ 16777216 ∧ Q (.lst (x ++ y))) := rfl
theorem dAdd_tup : dAdd (.tup x) (.tup y) Q = (x.length + y.length ≤ 16777216 ∧ Q (.tup (x ++ y))) := rfl
theorem dAdd_str : dAdd (.str u) (.str v) Q = (u.length + v.length ≤ 16777216 ∧ Q (.str (u ++ v))) := rfl
theorem dAddL_lst : dAddL (.lst x) (.lst y) Q = (x.length + y.length ≤ 16777216 ∧ Q (.lst (x ++ y))) := rfl
theorem dSub_int : dSub (.int i) (.int j) Q = Q (.int (i - j)) := rfl
theorem dMul_int : dMul (.int i) (.int j) Q = (CMul i j ∧ Q (.int (i * j))) := rfl
theorem dMul_lst : dMul (.lst x) (.int j) Q = ((-(2 ^ 63) ≤ j ∧ j < 2 ^ 63 ∧ x.length * j.toNat ≤ 16777216) ∧ Q (.lst (List.replicate j.toNat x).flatten)) := rfl
theorem dMulL_lst : dMulL (.lst x) (.int j) Q = ((-(2 ^ 63) ≤ j ∧ j < 2 ^ 63 ∧ x.length * j.toNat ≤ 16777216) ∧ Q (.lst (List.replicate j.toNat x).flatten)) := rfl
theorem dMul_tup : dMul (.tup x) (.int j) Q = ((x ≠ [] ∧ -(2 ^ 62) ≤ j ∧ j ≤ 1000 ∧ x.length ≤ 1000) ∧ Q (.tup (List.replicate j.toNat x).flatten)) := rfl
theorem dFdiv_int : dFdiv (.int i) (.int j) Q = (CDiv i j ∧ Q (.int (i / j))) := rfl
theorem dMod_int : dMod (.int i) (.int j) Q = (0 < j ∧ Q (.int (i % j))) := rfl
theorem dPow_int : dPow (.int i) (.int j) Q = (CPow i j ∧ Q (.int (i ^ j.toNat))) := rfl
theorem dShl_int : dShl (.int i) (.int j) Q = (CPow i j ∧ Q (.int (i * 2 ^ j.toNat))) := rfl
theorem dShr_int : dShr (.int i) (.int j) Q = (0 ≤ j ∧ Q (.int (i / 2 ^ j.toNat))) := rfl
theorem dLe_int : dLe (.int i) (.int j) Q = Q (.bl (decide (i ≤ j))) := rfl
theorem dLt_int : dLt (.int i) (.int j) Q = Q (.bl (decide (i < j))) := rfl
theorem dGt_int : dGt (.int i) (.int j) Q = Q (.bl (decide (j < i))) := rfl
theorem dGe_int : dGe (.int i) (.int j) Q = Q (.bl (decide (j ≤ i))) := rfl
theorem dNeg_int : dNeg (.int i) Q = Q (.int (-i)) := rfl
end
theorem isSeq_lst (x : List Dt) : isSeq (.lst x) = true := rfl
theorem isSeq_tup (x : List Dt) : isSeq (.tup x) = true := rfl
theorem isTp_tup (x : List Dt) : isTp (.tup x) = true := rfl
theorem isTp_lst (x : List Dt) : isTp (.lst x) = false := rfl
theorem isLs_lst (x : List Dt) : isLs (.lst x) = true := rfl
theorem isLs_tup (x : List Dt) : isLs (.tup x) = false := rfl
theorem isN_non : Dt.isN .non = true := rfl
theorem isN_int (i : Int) : Dt.isN (.int i) = false := rfl
theorem isN_bl (i : Bool) : Dt.isN (.bl i) = false := rfl
theorem isN_str (i : Str) : Dt.isN (.str i) = false := rfl
theorem isN_tup (i : List Dt) : Dt.isN (.tup i) = false := rfl
theorem isN_lst (i : List Dt) : Dt.isN (.lst i) = false := rfl
theorem isN_dk (i : List Key) (j : List Dt) : Dt.isN (.dk i j) = false := rfl
theorem isN_ins (c : Str) (i : List Str) (j : List Dt) : Dt.isN (.ins c i j) = false := rfl
theorem line0 : ((0 : Nat) ≤ 16777216) = True := eq_true (by decide)
theorem line1 : ((1 : Nat) ≤ 16777216) = True := eq_true (by decide)
theorem line2 : ((2 : Nat) ≤ 16777216) = True := eq_true (by decide)
theorem line3 : ((3 : Nat) ≤ 16777216) = True := eq_true (by decide)
theorem line4 : ((4 : Nat) ≤ 16777216) = True := eq_true (by decide)
theorem line5 : ((5 : Nat) ≤ 16777216) = True := eq_true (by decide)
theorem line6 : ((6 : Nat) ≤ 16777216) = True := eq_true (by decide)
theorem line7 : ((7 : Nat) ≤ 16777216) = True := eq_true (by decide)
theorem line8 : ((8 : Nat) ≤ 16777216) = True := eq_true (by decide)
theorem line9 : ((9 : Nat) ≤ 16777216) = True := eq_true (by decide)
theorem line10 : ((10 : Nat) ≤ 16777216) = True := eq_true (by decide)
theorem line11 : ((11 : Nat) ≤ 16777216) = True := eq_true (by decide)
theorem line12 : ((12 : Nat) ≤ 16777216) = True := eq_true (by decide)
theorem dTru_non {Q : Bool → Prop} : dTru .non Q = Q false := rfl
theorem dTru_bl {b : Bool} {Q : Bool → Prop} : dTru (.bl b) Q = Q b := rfl
theorem dTru_int {i : Int} {Q : Bool → Prop} : dTru (.int i) Q = Q (i != 0) := rfl
theorem dTru_lst {x : List Dt} {Q : Bool → Prop} : dTru (.lst x) Q = Q (!x.isEmpty) := rfl
theorem dTru_tup {x : List Dt} {Q : Bool → Prop} : dTru (.tup x) Q = Q (!x.isEmpty) := rfl
theorem dTru_str {x : Str} {Q : Bool → Prop} : dTru (.str x) Q = (x.length ≤ 16777216 ∧ Q ((x.length : Int) != 0)) := rfl
theorem dTru_dk {x : List Key} {y : List Dt} {Q : Bool → Prop} : dTru (.dk x y) Q = Q (!x.isEmpty) := rfl
theorem isTp_non : isTp .non = false := rfl
theorem isTp_int (i : Int) : isTp (.int i) = false := rfl
theorem isTp_str (i : Str) : isTp (.str i) = false := rfl
theorem isW_int (i : Int) : isW (.int i) = true := rfl
/-- a thing that may be asked for its items -/
theorem seq_or {a : Dt} : (∃ xs, a = .lst xs) ∨ (∃ xs, a = .tup xs) ∨ isSeq a = false := by
  cases a <;> first | exact .inl ⟨_, rfl⟩ | exact .inr (.inl ⟨_, rfl⟩) | exact .inr (.inr rfl)
/-- the first place of an item that is not as it should be -/
def badAt (p : Dt → Bool) (xs : List Dt) : Option Nat := xs.findIdx? fun x => !p x
theorem badAt_none {p : Dt → Bool} {xs : List Dt} (h : ∀ (j : Nat) x, xs[j]? = some x → p x = true) : badAt p xs = none := by
  unfold badAt
  rw [List.findIdx?_eq_none_iff]
  intro x hx
  obtain ⟨j, hj⟩ := List.mem_iff_getElem?.mp hx
  rw [h j x hj]; rfl
theorem badAt_some {p : Dt → Bool} {xs : List Dt} {i : Nat} {y : Dt} (h : ∀ (j : Nat) x, j < i → xs[j]? = some x → p x = true) (hy : xs[i]? = some y) (hp : p y = false) : badAt p xs = some i := by
  unfold badAt
  rw [List.findIdx?_eq_some_iff_getElem]
  obtain ⟨hl, he⟩ := List.getElem?_eq_some_iff.mp hy
  refine ⟨hl, by rw [he, hp]; rfl, fun j hj => ?_⟩
  rw [h j _ hj (List.getElem?_eq_getElem (Nat.lt_trans hj hl))]; decide
theorem badAt_spec {p : Dt → Bool} {xs : List Dt} (h : badAt p xs = none) {x : Dt} (hx : x ∈ xs) : p x = true := by
  unfold badAt at h
  rw [List.findIdx?_eq_none_iff] at h
  have := h x hx
  cases e : p x with
  | true => rfl
  | false => rw [e] at this; cases this
theorem badAt_map {p : Dt → Bool} {α : Type} {e : α → Dt} {xs : List α} (h : ∀ a ∈ xs, p (e a) = true) : badAt p (xs.map e) = none :=
  badAt_none fun j x hx => by
    obtain ⟨a, ha, rfl⟩ := List.mem_map.mp (List.mem_of_getElem? hx)
    exact h a ha
/-- the index due of a word that is refused -/
def badWord (q : Int) (m : Nat) (a : Dt) : Option Int := match isSeq a with
  | false => some (-1)
  | true => if m < (itemsOf a).length then some (-1) else (badAt (inB 0 (q - 1)) (itemsOf a)).map fun i : Nat => (i : Int)
/-- an optional index as a value -/
def oD : Option Int → Dt
  | some i => .int i
  | none => .non
theorem oD_eqE : EqE oD 0 := by
  refine ⟨fun a => ?_, fun a b => ?_⟩
  · cases a
    · exact shN_non
    · exact shN_int _
  · cases a <;> cases b
    · rw [show oD none = .non from rfl, Dt.eqv_of (a := .non) (b := .non) (by rw [Dt.py]) (by rw [Dt.py]), PyData.eqv]; rfl
    · rename_i i
      rw [show oD none = .non from rfl, show oD (some i) = .int i from rfl, Dt.eqv_of (a := .non) (b := .int i) (by rw [Dt.py]) (by rw [Dt.py]), PyData.eqv]; simp
    · rename_i i
      rw [show oD none = .non from rfl, show oD (some i) = .int i from rfl, Dt.eqv_of (a := .int i) (b := .non) (by rw [Dt.py]) (by rw [Dt.py]), PyData.eqv]; simp
    · rename_i i j
      rw [show oD (some i) = .int i from rfl, show oD (some j) = .int j from rfl, eqv_int]
      simp
theorem enum_get {xs : List Dt} {i : Nat} {x : Dt} (h : (xs.mapIdx fun i x => Dt.tup [.int (i : Nat), x])[i]? = some x) : ∃ y, xs[i]? = some y ∧ x = .tup [.int (i : Nat), y] := by
  rw [List.getElem?_mapIdx, Option.map_eq_some_iff] at h
  obtain ⟨y, h1, h2⟩ := h
  exact ⟨y, h1, h2.symm⟩
theorem rng_get {n i : Nat} {x : Dt} (h : ((List.range n).map fun i => Dt.int (i : Nat))[i]? = some x) : i < n ∧ x = .int (i : Nat) := by
  rw [List.getElem?_map, Option.map_eq_some_iff] at h
  obtain ⟨y, h1, h2⟩ := h
  obtain ⟨hl, e⟩ := List.getElem?_eq_some_iff.mp h1
  rw [List.length_range] at hl
  rw [List.getElem_range] at e
  exact ⟨hl, by rw [← h2, e]⟩
end Mine

namespace Mine
open PySem PySem.Spec PyProof.Rows L2
/-! ### dicts as tables -/
section
variable {κ : Type} [DecidableEq κ]
theorem putKs_mem {j k : κ} : ∀ {ks : List κ}, k ∈ putKs ks j ↔ k ∈ ks ∨ k = j
  | [] => by simp [putKs]
  | a :: ks => by
    unfold putKs
    by_cases c : a = j
    · rw [if_pos c]
      refine ⟨.inl, fun h => h.elim id fun e => ?_⟩
      rw [e, ← c]; exact List.mem_cons_self
    · rw [if_neg c, List.mem_cons, List.mem_cons, putKs_mem (ks := ks), or_assoc]
theorem putKs_nodup {j : κ} : ∀ {ks : List κ}, ks.Nodup → (putKs ks j).Nodup
  | [], _ => by simp [putKs]
  | a :: ks, h => by
    have h2 := List.nodup_cons.mp h
    unfold putKs
    by_cases c : a = j
    · rw [if_pos c]; exact h
    · rw [if_neg c]
      refine List.nodup_cons.mpr ⟨fun m => ?_, putKs_nodup h2.2⟩
      rcases putKs_mem.mp m with m | m
      · exact h2.1 m
      · exact c m
theorem putKs_len {j : κ} : ∀ {ks : List κ}, (putKs ks j).length ≤ ks.length + 1
  | [] => Nat.le_refl _
  | a :: ks => by
    unfold putKs
    split
    · exact Nat.le_succ _
    · rw [List.length_cons, List.length_cons]; exact Nat.succ_le_succ putKs_len
theorem put_len {j : κ} {y : Dt} : ∀ {ks : List κ} {ds : List Dt}, ks.length = ds.length → (putKs ks j).length = (putVs ks ds j y).length
  | [], [], _ => rfl
  | a :: ks, d :: ds, h => by
    unfold putKs putVs
    split
    · simpa using h
    · rw [List.length_cons, List.length_cons, put_len (by simpa using h)]
theorem valD_put {j k : κ} {y : Dt} : ∀ {ks : List κ} {ds : List Dt}, ks.length = ds.length → valD (putKs ks j) (putVs ks ds j y) k = if k = j then some y else valD ks ds k
  | [], [], _ => by
    show (if j = k then some y else none) = if k = j then some y else none
    by_cases c : k = j
    · rw [if_pos c, if_pos c.symm]
    · rw [if_neg c, if_neg fun e => c e.symm]
  | a :: ks, d :: ds, h => by
    unfold putKs putVs
    by_cases c : a = j
    · rw [if_pos c, if_pos c]
      unfold valD
      by_cases c2 : a = k
      · rw [if_pos c2, if_pos (c2 ▸ c)]
      · rw [if_neg c2, if_neg fun e => c2 (c.trans e.symm), if_neg c2]
    · rw [if_neg c, if_neg c]
      show (if a = k then some d else valD (putKs ks j) (putVs ks ds j y) k) = _
      rw [valD_put (by simpa using h)]
      show _ = if k = j then some y else if a = k then some d else valD ks ds k
      by_cases c2 : a = k
      · rw [if_pos c2, if_pos c2, if_neg fun e => c (c2.trans e)]
      · rw [if_neg c2, if_neg c2]
/-- the dict ks, ds is this table, with at most n keys -/
structure Tb (ks : List κ) (ds : List Dt) (f : κ → Option Dt) (n : Nat) : Prop where
  nd : ks.Nodup
  len : ks.length = ds.length
  few : ks.length ≤ n
  val : ∀ k, valD ks ds k = f k
theorem Tb.nil : Tb ([] : List κ) [] (fun _ => none) 0 := ⟨List.nodup_nil, rfl, Nat.le_refl _, fun _ => rfl⟩
theorem Tb.put {ks : List κ} {ds : List Dt} {f : κ → Option Dt} {n : Nat} (h : Tb ks ds f n) (j : κ) (y : Dt) : Tb (putKs ks j) (putVs ks ds j y) (fun k => if k = j then some y else f k) (n + 1) :=
  ⟨putKs_nodup h.nd, put_len h.len, Nat.le_trans putKs_len (Nat.succ_le_succ h.few), fun k => by rw [valD_put h.len, h.val]⟩
theorem Tb.congr {ks : List κ} {ds : List Dt} {f g : κ → Option Dt} {n m : Nat} (h : Tb ks ds f n) (e : ∀ k, f k = g k) (l : n ≤ m) : Tb ks ds g m := ⟨h.nd, h.len, Nat.le_trans h.few l, fun k => (h.val k).trans (e k)⟩
end
theorem keysOf_ints : ∀ w : List Int, keysOf (w.map .int) = some (w.map .inl)
  | [] => rfl
  | x :: w => by
    rw [List.map_cons, List.map_cons]
    unfold keysOf
    rw [keysOf_ints w]; rfl
theorem get_dt {ks : List (List Key)} {ds : List Dt} {w : List Int} : (Ow.dt ks ds).get (.tup (w.map .int)) = some (valD ks ds (w.map .inl)) := by
  show (keysOf (w.map .int)).map _ = _
  rw [keysOf_ints]; rfl
theorem put_dt {ks : List (List Key)} {ds : List Dt} {w : List Int} {y : Dt} : (Ow.dt ks ds).put (.tup (w.map .int)) y = some (.dt (putKs ks (w.map .inl)) (putVs ks ds (w.map .inl) y)) := by
  show (keysOf (w.map .int)).map _ = _
  rw [keysOf_ints]; rfl
theorem get_dk {ks : List Key} {ds : List Dt} {i : Int} : (Ow.dk ks ds).get (.int i) = some (valD ks ds (.inl i)) := rfl
theorem put_dk {ks : List Key} {ds : List Dt} {i : Int} {y : Dt} : (Ow.dk ks ds).put (.int i) y = some (.dk (putKs ks (.inl i)) (putVs ks ds (.inl i) y)) := rfl
theorem ow_dk {ks : List Key} {ds : List Dt} : (Dt.dk ks ds).ow = some (.dk ks ds) := rfl
theorem ow_dt {ks : List (List Key)} {ds : List Dt} : (Dt.dt ks ds).ow = some (.dt ks ds) := rfl
theorem keysN_dk {ks : List Key} {ds : List Dt} : (Ow.dk ks ds).keysN = (ks.Nodup ∧ ks.length < 16777216) := rfl
theorem keysN_dt {ks : List (List Key)} {ds : List Dt} : (Ow.dt ks ds).keysN = (ks.Nodup ∧ ks.length < 16777216) := rfl
/-- words told apart by their keys -/
theorem inl_inj : ∀ {w v : List Int}, (w.map (Sum.inl : Int → Key) = v.map Sum.inl) ↔ w = v
  | [], [] => by simp
  | [], b :: v => by simp
  | a :: w, [] => by simp
  | a :: w, b :: v => by
    rw [List.map_cons, List.map_cons, List.cons.injEq, List.cons.injEq, inl_inj (w := w) (v := v), Sum.inl.injEq]
end Mine

namespace Mine
open PySem PySem.Spec PyProof.Rows L2
def mt (a b : Str) : Option Bool :=
  none
def ftab (a f : Str) : Bool :=
  if a = "NearPair" ∧ f = "one" then true else
  if a = "NearPair" ∧ f = "other" then true else
  if a = "NearPair" ∧ f = "below" then true else
  if a = "NearPair" ∧ f = "above" then true else
  if a = "Thinned" ∧ f = "book" then true else
  if a = "Thinned" ∧ f = "rows" then true else
  if a = "Web" ∧ f = "starts" then true else
  if a = "Web" ∧ f = "rests" then true else
  if a = "Web" ∧ f = "steps" then true else
  if a = "Told" ∧ f = "wait" then true else
  if a = "Told" ∧ f = "first" then true else
  if a = "Told" ∧ f = "second" then true else
  if a = "Clash" ∧ f = "first" then true else
  if a = "Clash" ∧ f = "second" then true else
  if a = "TwoCuts" ∧ f = "first" then true else
  if a = "TwoCuts" ∧ f = "second" then true else
  if a = "Best" ∧ f = "number" then true else
  if a = "Best" ∧ f = "book" then true else
  if a = "RunPair" ∧ f = "one" then true else
  if a = "RunPair" ∧ f = "other" then true else
  if a = "RunPair" ∧ f = "apart" then true else
  if a = "RunPair" ∧ f = "longer" then true else
  if a = "RunPair" ∧ f = "shorter" then true else
  if a = "Tried" ∧ f = "many" then true else
  if a = "Tried" ∧ f = "borne" then true else
  if a = "Tried" ∧ f = "runs" then true else
  if a = "Tried" ∧ f = "told" then true else
  if a = "Tried" ∧ f = "met" then true else
  if a = "MixClash" ∧ f = "one" then true else
  if a = "MixClash" ∧ f = "other" then true else
  if a = "MixClash" ∧ f = "word" then true else
  if a = "Uneven" ∧ f = "word" then true else
  if a = "Uneven" ∧ f = "above" then true else
  if a = "SumsClash" ∧ f = "one" then true else
  if a = "SumsClash" ∧ f = "other" then true else
  if a = "TooClose" ∧ f = "one" then true else
  if a = "TooClose" ∧ f = "other" then true else
  if a = "Read" ∧ f = "what" then true else
  if a = "Read" ∧ f = "member" then true else
  false
theorem ftab_NearPair_one : ftab "NearPair" "one" = true := by decide +kernel
theorem ftab_NearPair_other : ftab "NearPair" "other" = true := by decide +kernel
theorem ftab_NearPair_below : ftab "NearPair" "below" = true := by decide +kernel
theorem ftab_NearPair_above : ftab "NearPair" "above" = true := by decide +kernel
theorem ftab_Thinned_book : ftab "Thinned" "book" = true := by decide +kernel
theorem ftab_Thinned_rows : ftab "Thinned" "rows" = true := by decide +kernel
theorem ftab_Web_starts : ftab "Web" "starts" = true := by decide +kernel
theorem ftab_Web_rests : ftab "Web" "rests" = true := by decide +kernel
theorem ftab_Web_steps : ftab "Web" "steps" = true := by decide +kernel
theorem ftab_Told_wait : ftab "Told" "wait" = true := by decide +kernel
theorem ftab_Told_first : ftab "Told" "first" = true := by decide +kernel
theorem ftab_Told_second : ftab "Told" "second" = true := by decide +kernel
theorem ftab_Clash_first : ftab "Clash" "first" = true := by decide +kernel
theorem ftab_Clash_second : ftab "Clash" "second" = true := by decide +kernel
theorem ftab_TwoCuts_first : ftab "TwoCuts" "first" = true := by decide +kernel
theorem ftab_TwoCuts_second : ftab "TwoCuts" "second" = true := by decide +kernel
theorem ftab_Best_number : ftab "Best" "number" = true := by decide +kernel
theorem ftab_Best_book : ftab "Best" "book" = true := by decide +kernel
theorem ftab_RunPair_one : ftab "RunPair" "one" = true := by decide +kernel
theorem ftab_RunPair_other : ftab "RunPair" "other" = true := by decide +kernel
theorem ftab_RunPair_apart : ftab "RunPair" "apart" = true := by decide +kernel
theorem ftab_RunPair_longer : ftab "RunPair" "longer" = true := by decide +kernel
theorem ftab_RunPair_shorter : ftab "RunPair" "shorter" = true := by decide +kernel
theorem ftab_Tried_many : ftab "Tried" "many" = true := by decide +kernel
theorem ftab_Tried_borne : ftab "Tried" "borne" = true := by decide +kernel
theorem ftab_Tried_runs : ftab "Tried" "runs" = true := by decide +kernel
theorem ftab_Tried_told : ftab "Tried" "told" = true := by decide +kernel
theorem ftab_Tried_met : ftab "Tried" "met" = true := by decide +kernel
theorem ftab_MixClash_one : ftab "MixClash" "one" = true := by decide +kernel
theorem ftab_MixClash_other : ftab "MixClash" "other" = true := by decide +kernel
theorem ftab_MixClash_word : ftab "MixClash" "word" = true := by decide +kernel
theorem ftab_Uneven_word : ftab "Uneven" "word" = true := by decide +kernel
theorem ftab_Uneven_above : ftab "Uneven" "above" = true := by decide +kernel
theorem ftab_SumsClash_one : ftab "SumsClash" "one" = true := by decide +kernel
theorem ftab_SumsClash_other : ftab "SumsClash" "other" = true := by decide +kernel
theorem ftab_TooClose_one : ftab "TooClose" "one" = true := by decide +kernel
theorem ftab_TooClose_other : ftab "TooClose" "other" = true := by decide +kernel
theorem ftab_Read_what : ftab "Read" "what" = true := by decide +kernel
theorem ftab_Read_member : ftab "Read" "member" = true := by decide +kernel
theorem look_NearPair_one {x0 x1 x2 x3 : Dt} : (List.zip (["one", "other", "below", "above"] : List Str) [x0, x1, x2, x3]).lookup ("one" : Str) = some x0 := rfl
theorem putN_NearPair_one : putNs "one" ([] : List Str) = (["one"] : List Str) := by decide +kernel
theorem putD_NearPair_one { y : Dt} : putDs "one" y ([] : List Str) [] = [y] := rfl
theorem look_NearPair_other {x0 x1 x2 x3 : Dt} : (List.zip (["one", "other", "below", "above"] : List Str) [x0, x1, x2, x3]).lookup ("other" : Str) = some x1 := rfl
theorem putN_NearPair_other : putNs "other" (["one"] : List Str) = (["one", "other"] : List Str) := by decide +kernel
theorem putD_NearPair_other {x0 y : Dt} : putDs "other" y (["one"] : List Str) [x0] = [x0, y] := rfl
theorem look_NearPair_below {x0 x1 x2 x3 : Dt} : (List.zip (["one", "other", "below", "above"] : List Str) [x0, x1, x2, x3]).lookup ("below" : Str) = some x2 := rfl
theorem putN_NearPair_below : putNs "below" (["one", "other"] : List Str) = (["one", "other", "below"] : List Str) := by decide +kernel
theorem putD_NearPair_below {x0 x1 y : Dt} : putDs "below" y (["one", "other"] : List Str) [x0, x1] = [x0, x1, y] := rfl
theorem look_NearPair_above {x0 x1 x2 x3 : Dt} : (List.zip (["one", "other", "below", "above"] : List Str) [x0, x1, x2, x3]).lookup ("above" : Str) = some x3 := rfl
theorem putN_NearPair_above : putNs "above" (["one", "other", "below"] : List Str) = (["one", "other", "below", "above"] : List Str) := by decide +kernel
theorem putD_NearPair_above {x0 x1 x2 y : Dt} : putDs "above" y (["one", "other", "below"] : List Str) [x0, x1, x2] = [x0, x1, x2, y] := rfl
theorem look_Thinned_book {x0 x1 : Dt} : (List.zip (["book", "rows"] : List Str) [x0, x1]).lookup ("book" : Str) = some x0 := rfl
theorem putN_Thinned_book : putNs "book" ([] : List Str) = (["book"] : List Str) := by decide +kernel
theorem putD_Thinned_book { y : Dt} : putDs "book" y ([] : List Str) [] = [y] := rfl
theorem look_Thinned_rows {x0 x1 : Dt} : (List.zip (["book", "rows"] : List Str) [x0, x1]).lookup ("rows" : Str) = some x1 := rfl
theorem putN_Thinned_rows : putNs "rows" (["book"] : List Str) = (["book", "rows"] : List Str) := by decide +kernel
theorem putD_Thinned_rows {x0 y : Dt} : putDs "rows" y (["book"] : List Str) [x0] = [x0, y] := rfl
theorem look_Web_starts {x0 x1 x2 : Dt} : (List.zip (["starts", "rests", "steps"] : List Str) [x0, x1, x2]).lookup ("starts" : Str) = some x0 := rfl
theorem putN_Web_starts : putNs "starts" ([] : List Str) = (["starts"] : List Str) := by decide +kernel
theorem putD_Web_starts { y : Dt} : putDs "starts" y ([] : List Str) [] = [y] := rfl
theorem look_Web_rests {x0 x1 x2 : Dt} : (List.zip (["starts", "rests", "steps"] : List Str) [x0, x1, x2]).lookup ("rests" : Str) = some x1 := rfl
theorem putN_Web_rests : putNs "rests" (["starts"] : List Str) = (["starts", "rests"] : List Str) := by decide +kernel
theorem putD_Web_rests {x0 y : Dt} : putDs "rests" y (["starts"] : List Str) [x0] = [x0, y] := rfl
theorem look_Web_steps {x0 x1 x2 : Dt} : (List.zip (["starts", "rests", "steps"] : List Str) [x0, x1, x2]).lookup ("steps" : Str) = some x2 := rfl
theorem putN_Web_steps : putNs "steps" (["starts", "rests"] : List Str) = (["starts", "rests", "steps"] : List Str) := by decide +kernel
theorem putD_Web_steps {x0 x1 y : Dt} : putDs "steps" y (["starts", "rests"] : List Str) [x0, x1] = [x0, x1, y] := rfl
theorem look_Told_wait {x0 x1 x2 : Dt} : (List.zip (["wait", "first", "second"] : List Str) [x0, x1, x2]).lookup ("wait" : Str) = some x0 := rfl
theorem putN_Told_wait : putNs "wait" ([] : List Str) = (["wait"] : List Str) := by decide +kernel
theorem putD_Told_wait { y : Dt} : putDs "wait" y ([] : List Str) [] = [y] := rfl
theorem look_Told_first {x0 x1 x2 : Dt} : (List.zip (["wait", "first", "second"] : List Str) [x0, x1, x2]).lookup ("first" : Str) = some x1 := rfl
theorem putN_Told_first : putNs "first" (["wait"] : List Str) = (["wait", "first"] : List Str) := by decide +kernel
theorem putD_Told_first {x0 y : Dt} : putDs "first" y (["wait"] : List Str) [x0] = [x0, y] := rfl
theorem look_Told_second {x0 x1 x2 : Dt} : (List.zip (["wait", "first", "second"] : List Str) [x0, x1, x2]).lookup ("second" : Str) = some x2 := rfl
theorem putN_Told_second : putNs "second" (["wait", "first"] : List Str) = (["wait", "first", "second"] : List Str) := by decide +kernel
theorem putD_Told_second {x0 x1 y : Dt} : putDs "second" y (["wait", "first"] : List Str) [x0, x1] = [x0, x1, y] := rfl
theorem look_Clash_first {x0 x1 : Dt} : (List.zip (["first", "second"] : List Str) [x0, x1]).lookup ("first" : Str) = some x0 := rfl
theorem putN_Clash_first : putNs "first" ([] : List Str) = (["first"] : List Str) := by decide +kernel
theorem putD_Clash_first { y : Dt} : putDs "first" y ([] : List Str) [] = [y] := rfl
theorem look_Clash_second {x0 x1 : Dt} : (List.zip (["first", "second"] : List Str) [x0, x1]).lookup ("second" : Str) = some x1 := rfl
theorem putN_Clash_second : putNs "second" (["first"] : List Str) = (["first", "second"] : List Str) := by decide +kernel
theorem putD_Clash_second {x0 y : Dt} : putDs "second" y (["first"] : List Str) [x0] = [x0, y] := rfl
theorem look_TwoCuts_first {x0 x1 : Dt} : (List.zip (["first", "second"] : List Str) [x0, x1]).lookup ("first" : Str) = some x0 := rfl
theorem putN_TwoCuts_first : putNs "first" ([] : List Str) = (["first"] : List Str) := by decide +kernel
theorem putD_TwoCuts_first { y : Dt} : putDs "first" y ([] : List Str) [] = [y] := rfl
theorem look_TwoCuts_second {x0 x1 : Dt} : (List.zip (["first", "second"] : List Str) [x0, x1]).lookup ("second" : Str) = some x1 := rfl
theorem putN_TwoCuts_second : putNs "second" (["first"] : List Str) = (["first", "second"] : List Str) := by decide +kernel
theorem putD_TwoCuts_second {x0 y : Dt} : putDs "second" y (["first"] : List Str) [x0] = [x0, y] := rfl
theorem look_Best_number {x0 x1 : Dt} : (List.zip (["number", "book"] : List Str) [x0, x1]).lookup ("number" : Str) = some x0 := rfl
theorem putN_Best_number : putNs "number" ([] : List Str) = (["number"] : List Str) := by decide +kernel
theorem putD_Best_number { y : Dt} : putDs "number" y ([] : List Str) [] = [y] := rfl
theorem look_Best_book {x0 x1 : Dt} : (List.zip (["number", "book"] : List Str) [x0, x1]).lookup ("book" : Str) = some x1 := rfl
theorem putN_Best_book : putNs "book" (["number"] : List Str) = (["number", "book"] : List Str) := by decide +kernel
theorem putD_Best_book {x0 y : Dt} : putDs "book" y (["number"] : List Str) [x0] = [x0, y] := rfl
theorem look_RunPair_one {x0 x1 x2 x3 x4 : Dt} : (List.zip (["one", "other", "apart", "longer", "shorter"] : List Str) [x0, x1, x2, x3, x4]).lookup ("one" : Str) = some x0 := rfl
theorem putN_RunPair_one : putNs "one" ([] : List Str) = (["one"] : List Str) := by decide +kernel
theorem putD_RunPair_one { y : Dt} : putDs "one" y ([] : List Str) [] = [y] := rfl
theorem look_RunPair_other {x0 x1 x2 x3 x4 : Dt} : (List.zip (["one", "other", "apart", "longer", "shorter"] : List Str) [x0, x1, x2, x3, x4]).lookup ("other" : Str) = some x1 := rfl
theorem putN_RunPair_other : putNs "other" (["one"] : List Str) = (["one", "other"] : List Str) := by decide +kernel
theorem putD_RunPair_other {x0 y : Dt} : putDs "other" y (["one"] : List Str) [x0] = [x0, y] := rfl
theorem look_RunPair_apart {x0 x1 x2 x3 x4 : Dt} : (List.zip (["one", "other", "apart", "longer", "shorter"] : List Str) [x0, x1, x2, x3, x4]).lookup ("apart" : Str) = some x2 := rfl
theorem putN_RunPair_apart : putNs "apart" (["one", "other"] : List Str) = (["one", "other", "apart"] : List Str) := by decide +kernel
theorem putD_RunPair_apart {x0 x1 y : Dt} : putDs "apart" y (["one", "other"] : List Str) [x0, x1] = [x0, x1, y] := rfl
theorem look_RunPair_longer {x0 x1 x2 x3 x4 : Dt} : (List.zip (["one", "other", "apart", "longer", "shorter"] : List Str) [x0, x1, x2, x3, x4]).lookup ("longer" : Str) = some x3 := rfl
theorem putN_RunPair_longer : putNs "longer" (["one", "other", "apart"] : List Str) = (["one", "other", "apart", "longer"] : List Str) := by decide +kernel
theorem putD_RunPair_longer {x0 x1 x2 y : Dt} : putDs "longer" y (["one", "other", "apart"] : List Str) [x0, x1, x2] = [x0, x1, x2, y] := rfl
theorem look_RunPair_shorter {x0 x1 x2 x3 x4 : Dt} : (List.zip (["one", "other", "apart", "longer", "shorter"] : List Str) [x0, x1, x2, x3, x4]).lookup ("shorter" : Str) = some x4 := rfl
theorem putN_RunPair_shorter : putNs "shorter" (["one", "other", "apart", "longer"] : List Str) = (["one", "other", "apart", "longer", "shorter"] : List Str) := by decide +kernel
theorem putD_RunPair_shorter {x0 x1 x2 x3 y : Dt} : putDs "shorter" y (["one", "other", "apart", "longer"] : List Str) [x0, x1, x2, x3] = [x0, x1, x2, x3, y] := rfl
theorem look_Tried_many {x0 x1 x2 x3 x4 : Dt} : (List.zip (["many", "borne", "runs", "told", "met"] : List Str) [x0, x1, x2, x3, x4]).lookup ("many" : Str) = some x0 := rfl
theorem putN_Tried_many : putNs "many" ([] : List Str) = (["many"] : List Str) := by decide +kernel
theorem putD_Tried_many { y : Dt} : putDs "many" y ([] : List Str) [] = [y] := rfl
theorem look_Tried_borne {x0 x1 x2 x3 x4 : Dt} : (List.zip (["many", "borne", "runs", "told", "met"] : List Str) [x0, x1, x2, x3, x4]).lookup ("borne" : Str) = some x1 := rfl
theorem putN_Tried_borne : putNs "borne" (["many"] : List Str) = (["many", "borne"] : List Str) := by decide +kernel
theorem putD_Tried_borne {x0 y : Dt} : putDs "borne" y (["many"] : List Str) [x0] = [x0, y] := rfl
theorem look_Tried_runs {x0 x1 x2 x3 x4 : Dt} : (List.zip (["many", "borne", "runs", "told", "met"] : List Str) [x0, x1, x2, x3, x4]).lookup ("runs" : Str) = some x2 := rfl
theorem putN_Tried_runs : putNs "runs" (["many", "borne"] : List Str) = (["many", "borne", "runs"] : List Str) := by decide +kernel
theorem putD_Tried_runs {x0 x1 y : Dt} : putDs "runs" y (["many", "borne"] : List Str) [x0, x1] = [x0, x1, y] := rfl
theorem look_Tried_told {x0 x1 x2 x3 x4 : Dt} : (List.zip (["many", "borne", "runs", "told", "met"] : List Str) [x0, x1, x2, x3, x4]).lookup ("told" : Str) = some x3 := rfl
theorem putN_Tried_told : putNs "told" (["many", "borne", "runs"] : List Str) = (["many", "borne", "runs", "told"] : List Str) := by decide +kernel
theorem putD_Tried_told {x0 x1 x2 y : Dt} : putDs "told" y (["many", "borne", "runs"] : List Str) [x0, x1, x2] = [x0, x1, x2, y] := rfl
theorem look_Tried_met {x0 x1 x2 x3 x4 : Dt} : (List.zip (["many", "borne", "runs", "told", "met"] : List Str) [x0, x1, x2, x3, x4]).lookup ("met" : Str) = some x4 := rfl
theorem putN_Tried_met : putNs "met" (["many", "borne", "runs", "told"] : List Str) = (["many", "borne", "runs", "told", "met"] : List Str) := by decide +kernel
theorem putD_Tried_met {x0 x1 x2 x3 y : Dt} : putDs "met" y (["many", "borne", "runs", "told"] : List Str) [x0, x1, x2, x3] = [x0, x1, x2, x3, y] := rfl
theorem look_MixClash_one {x0 x1 x2 : Dt} : (List.zip (["one", "other", "word"] : List Str) [x0, x1, x2]).lookup ("one" : Str) = some x0 := rfl
theorem putN_MixClash_one : putNs "one" ([] : List Str) = (["one"] : List Str) := by decide +kernel
theorem putD_MixClash_one { y : Dt} : putDs "one" y ([] : List Str) [] = [y] := rfl
theorem look_MixClash_other {x0 x1 x2 : Dt} : (List.zip (["one", "other", "word"] : List Str) [x0, x1, x2]).lookup ("other" : Str) = some x1 := rfl
theorem putN_MixClash_other : putNs "other" (["one"] : List Str) = (["one", "other"] : List Str) := by decide +kernel
theorem putD_MixClash_other {x0 y : Dt} : putDs "other" y (["one"] : List Str) [x0] = [x0, y] := rfl
theorem look_MixClash_word {x0 x1 x2 : Dt} : (List.zip (["one", "other", "word"] : List Str) [x0, x1, x2]).lookup ("word" : Str) = some x2 := rfl
theorem putN_MixClash_word : putNs "word" (["one", "other"] : List Str) = (["one", "other", "word"] : List Str) := by decide +kernel
theorem putD_MixClash_word {x0 x1 y : Dt} : putDs "word" y (["one", "other"] : List Str) [x0, x1] = [x0, x1, y] := rfl
theorem look_Uneven_word {x0 x1 : Dt} : (List.zip (["word", "above"] : List Str) [x0, x1]).lookup ("word" : Str) = some x0 := rfl
theorem putN_Uneven_word : putNs "word" ([] : List Str) = (["word"] : List Str) := by decide +kernel
theorem putD_Uneven_word { y : Dt} : putDs "word" y ([] : List Str) [] = [y] := rfl
theorem look_Uneven_above {x0 x1 : Dt} : (List.zip (["word", "above"] : List Str) [x0, x1]).lookup ("above" : Str) = some x1 := rfl
theorem putN_Uneven_above : putNs "above" (["word"] : List Str) = (["word", "above"] : List Str) := by decide +kernel
theorem putD_Uneven_above {x0 y : Dt} : putDs "above" y (["word"] : List Str) [x0] = [x0, y] := rfl
theorem look_SumsClash_one {x0 x1 : Dt} : (List.zip (["one", "other"] : List Str) [x0, x1]).lookup ("one" : Str) = some x0 := rfl
theorem putN_SumsClash_one : putNs "one" ([] : List Str) = (["one"] : List Str) := by decide +kernel
theorem putD_SumsClash_one { y : Dt} : putDs "one" y ([] : List Str) [] = [y] := rfl
theorem look_SumsClash_other {x0 x1 : Dt} : (List.zip (["one", "other"] : List Str) [x0, x1]).lookup ("other" : Str) = some x1 := rfl
theorem putN_SumsClash_other : putNs "other" (["one"] : List Str) = (["one", "other"] : List Str) := by decide +kernel
theorem putD_SumsClash_other {x0 y : Dt} : putDs "other" y (["one"] : List Str) [x0] = [x0, y] := rfl
theorem look_TooClose_one {x0 x1 : Dt} : (List.zip (["one", "other"] : List Str) [x0, x1]).lookup ("one" : Str) = some x0 := rfl
theorem putN_TooClose_one : putNs "one" ([] : List Str) = (["one"] : List Str) := by decide +kernel
theorem putD_TooClose_one { y : Dt} : putDs "one" y ([] : List Str) [] = [y] := rfl
theorem look_TooClose_other {x0 x1 : Dt} : (List.zip (["one", "other"] : List Str) [x0, x1]).lookup ("other" : Str) = some x1 := rfl
theorem putN_TooClose_other : putNs "other" (["one"] : List Str) = (["one", "other"] : List Str) := by decide +kernel
theorem putD_TooClose_other {x0 y : Dt} : putDs "other" y (["one"] : List Str) [x0] = [x0, y] := rfl
theorem look_Read_what {x0 x1 : Dt} : (List.zip (["what", "member"] : List Str) [x0, x1]).lookup ("what" : Str) = some x0 := rfl
theorem putN_Read_what : putNs "what" ([] : List Str) = (["what"] : List Str) := by decide +kernel
theorem putD_Read_what { y : Dt} : putDs "what" y ([] : List Str) [] = [y] := rfl
theorem look_Read_member {x0 x1 : Dt} : (List.zip (["what", "member"] : List Str) [x0, x1]).lookup ("member" : Str) = some x1 := rfl
theorem putN_Read_member : putNs "member" (["what"] : List Str) = (["what", "member"] : List Str) := by decide +kernel
theorem putD_Read_member {x0 y : Dt} : putDs "member" y (["what"] : List Str) [x0] = [x0, y] := rfl
def tabI_NearPair (a : Str) : Option Bool :=
  if a = "NearPair" then some true else
  if a = "Thinned" then some false else
  if a = "Web" then some false else
  if a = "Told" then some false else
  if a = "Clash" then some false else
  if a = "TwoCuts" then some false else
  if a = "Best" then some false else
  if a = "RunPair" then some false else
  if a = "Tried" then some false else
  if a = "MixClash" then some false else
  if a = "Uneven" then some false else
  if a = "SumsClash" then some false else
  if a = "TooClose" then some false else
  if a = "Read" then some false else
  none
theorem tabI_NearPair_NearPair : tabI_NearPair "NearPair" = some true := by decide +kernel
theorem tabI_NearPair_Thinned : tabI_NearPair "Thinned" = some false := by decide +kernel
theorem tabI_NearPair_Web : tabI_NearPair "Web" = some false := by decide +kernel
theorem tabI_NearPair_Told : tabI_NearPair "Told" = some false := by decide +kernel
theorem tabI_NearPair_Clash : tabI_NearPair "Clash" = some false := by decide +kernel
theorem tabI_NearPair_TwoCuts : tabI_NearPair "TwoCuts" = some false := by decide +kernel
theorem tabI_NearPair_Best : tabI_NearPair "Best" = some false := by decide +kernel
theorem tabI_NearPair_RunPair : tabI_NearPair "RunPair" = some false := by decide +kernel
theorem tabI_NearPair_Tried : tabI_NearPair "Tried" = some false := by decide +kernel
theorem tabI_NearPair_MixClash : tabI_NearPair "MixClash" = some false := by decide +kernel
theorem tabI_NearPair_Uneven : tabI_NearPair "Uneven" = some false := by decide +kernel
theorem tabI_NearPair_SumsClash : tabI_NearPair "SumsClash" = some false := by decide +kernel
theorem tabI_NearPair_TooClose : tabI_NearPair "TooClose" = some false := by decide +kernel
theorem tabI_NearPair_Read : tabI_NearPair "Read" = some false := by decide +kernel
def tabI_Thinned (a : Str) : Option Bool :=
  if a = "NearPair" then some false else
  if a = "Thinned" then some true else
  if a = "Web" then some false else
  if a = "Told" then some false else
  if a = "Clash" then some false else
  if a = "TwoCuts" then some false else
  if a = "Best" then some false else
  if a = "RunPair" then some false else
  if a = "Tried" then some false else
  if a = "MixClash" then some false else
  if a = "Uneven" then some false else
  if a = "SumsClash" then some false else
  if a = "TooClose" then some false else
  if a = "Read" then some false else
  none
theorem tabI_Thinned_NearPair : tabI_Thinned "NearPair" = some false := by decide +kernel
theorem tabI_Thinned_Thinned : tabI_Thinned "Thinned" = some true := by decide +kernel
theorem tabI_Thinned_Web : tabI_Thinned "Web" = some false := by decide +kernel
theorem tabI_Thinned_Told : tabI_Thinned "Told" = some false := by decide +kernel
theorem tabI_Thinned_Clash : tabI_Thinned "Clash" = some false := by decide +kernel
theorem tabI_Thinned_TwoCuts : tabI_Thinned "TwoCuts" = some false := by decide +kernel
theorem tabI_Thinned_Best : tabI_Thinned "Best" = some false := by decide +kernel
theorem tabI_Thinned_RunPair : tabI_Thinned "RunPair" = some false := by decide +kernel
theorem tabI_Thinned_Tried : tabI_Thinned "Tried" = some false := by decide +kernel
theorem tabI_Thinned_MixClash : tabI_Thinned "MixClash" = some false := by decide +kernel
theorem tabI_Thinned_Uneven : tabI_Thinned "Uneven" = some false := by decide +kernel
theorem tabI_Thinned_SumsClash : tabI_Thinned "SumsClash" = some false := by decide +kernel
theorem tabI_Thinned_TooClose : tabI_Thinned "TooClose" = some false := by decide +kernel
theorem tabI_Thinned_Read : tabI_Thinned "Read" = some false := by decide +kernel
def tabI_Web (a : Str) : Option Bool :=
  if a = "NearPair" then some false else
  if a = "Thinned" then some false else
  if a = "Web" then some true else
  if a = "Told" then some false else
  if a = "Clash" then some false else
  if a = "TwoCuts" then some false else
  if a = "Best" then some false else
  if a = "RunPair" then some false else
  if a = "Tried" then some false else
  if a = "MixClash" then some false else
  if a = "Uneven" then some false else
  if a = "SumsClash" then some false else
  if a = "TooClose" then some false else
  if a = "Read" then some false else
  none
theorem tabI_Web_NearPair : tabI_Web "NearPair" = some false := by decide +kernel
theorem tabI_Web_Thinned : tabI_Web "Thinned" = some false := by decide +kernel
theorem tabI_Web_Web : tabI_Web "Web" = some true := by decide +kernel
theorem tabI_Web_Told : tabI_Web "Told" = some false := by decide +kernel
theorem tabI_Web_Clash : tabI_Web "Clash" = some false := by decide +kernel
theorem tabI_Web_TwoCuts : tabI_Web "TwoCuts" = some false := by decide +kernel
theorem tabI_Web_Best : tabI_Web "Best" = some false := by decide +kernel
theorem tabI_Web_RunPair : tabI_Web "RunPair" = some false := by decide +kernel
theorem tabI_Web_Tried : tabI_Web "Tried" = some false := by decide +kernel
theorem tabI_Web_MixClash : tabI_Web "MixClash" = some false := by decide +kernel
theorem tabI_Web_Uneven : tabI_Web "Uneven" = some false := by decide +kernel
theorem tabI_Web_SumsClash : tabI_Web "SumsClash" = some false := by decide +kernel
theorem tabI_Web_TooClose : tabI_Web "TooClose" = some false := by decide +kernel
theorem tabI_Web_Read : tabI_Web "Read" = some false := by decide +kernel
def tabI_Told (a : Str) : Option Bool :=
  if a = "NearPair" then some false else
  if a = "Thinned" then some false else
  if a = "Web" then some false else
  if a = "Told" then some true else
  if a = "Clash" then some false else
  if a = "TwoCuts" then some false else
  if a = "Best" then some false else
  if a = "RunPair" then some false else
  if a = "Tried" then some false else
  if a = "MixClash" then some false else
  if a = "Uneven" then some false else
  if a = "SumsClash" then some false else
  if a = "TooClose" then some false else
  if a = "Read" then some false else
  none
theorem tabI_Told_NearPair : tabI_Told "NearPair" = some false := by decide +kernel
theorem tabI_Told_Thinned : tabI_Told "Thinned" = some false := by decide +kernel
theorem tabI_Told_Web : tabI_Told "Web" = some false := by decide +kernel
theorem tabI_Told_Told : tabI_Told "Told" = some true := by decide +kernel
theorem tabI_Told_Clash : tabI_Told "Clash" = some false := by decide +kernel
theorem tabI_Told_TwoCuts : tabI_Told "TwoCuts" = some false := by decide +kernel
theorem tabI_Told_Best : tabI_Told "Best" = some false := by decide +kernel
theorem tabI_Told_RunPair : tabI_Told "RunPair" = some false := by decide +kernel
theorem tabI_Told_Tried : tabI_Told "Tried" = some false := by decide +kernel
theorem tabI_Told_MixClash : tabI_Told "MixClash" = some false := by decide +kernel
theorem tabI_Told_Uneven : tabI_Told "Uneven" = some false := by decide +kernel
theorem tabI_Told_SumsClash : tabI_Told "SumsClash" = some false := by decide +kernel
theorem tabI_Told_TooClose : tabI_Told "TooClose" = some false := by decide +kernel
theorem tabI_Told_Read : tabI_Told "Read" = some false := by decide +kernel
def tabI_Clash (a : Str) : Option Bool :=
  if a = "NearPair" then some false else
  if a = "Thinned" then some false else
  if a = "Web" then some false else
  if a = "Told" then some false else
  if a = "Clash" then some true else
  if a = "TwoCuts" then some false else
  if a = "Best" then some false else
  if a = "RunPair" then some false else
  if a = "Tried" then some false else
  if a = "MixClash" then some false else
  if a = "Uneven" then some false else
  if a = "SumsClash" then some false else
  if a = "TooClose" then some false else
  if a = "Read" then some false else
  none
theorem tabI_Clash_NearPair : tabI_Clash "NearPair" = some false := by decide +kernel
theorem tabI_Clash_Thinned : tabI_Clash "Thinned" = some false := by decide +kernel
theorem tabI_Clash_Web : tabI_Clash "Web" = some false := by decide +kernel
theorem tabI_Clash_Told : tabI_Clash "Told" = some false := by decide +kernel
theorem tabI_Clash_Clash : tabI_Clash "Clash" = some true := by decide +kernel
theorem tabI_Clash_TwoCuts : tabI_Clash "TwoCuts" = some false := by decide +kernel
theorem tabI_Clash_Best : tabI_Clash "Best" = some false := by decide +kernel
theorem tabI_Clash_RunPair : tabI_Clash "RunPair" = some false := by decide +kernel
theorem tabI_Clash_Tried : tabI_Clash "Tried" = some false := by decide +kernel
theorem tabI_Clash_MixClash : tabI_Clash "MixClash" = some false := by decide +kernel
theorem tabI_Clash_Uneven : tabI_Clash "Uneven" = some false := by decide +kernel
theorem tabI_Clash_SumsClash : tabI_Clash "SumsClash" = some false := by decide +kernel
theorem tabI_Clash_TooClose : tabI_Clash "TooClose" = some false := by decide +kernel
theorem tabI_Clash_Read : tabI_Clash "Read" = some false := by decide +kernel
def tabI_TwoCuts (a : Str) : Option Bool :=
  if a = "NearPair" then some false else
  if a = "Thinned" then some false else
  if a = "Web" then some false else
  if a = "Told" then some false else
  if a = "Clash" then some false else
  if a = "TwoCuts" then some true else
  if a = "Best" then some false else
  if a = "RunPair" then some false else
  if a = "Tried" then some false else
  if a = "MixClash" then some false else
  if a = "Uneven" then some false else
  if a = "SumsClash" then some false else
  if a = "TooClose" then some false else
  if a = "Read" then some false else
  none
theorem tabI_TwoCuts_NearPair : tabI_TwoCuts "NearPair" = some false := by decide +kernel
theorem tabI_TwoCuts_Thinned : tabI_TwoCuts "Thinned" = some false := by decide +kernel
theorem tabI_TwoCuts_Web : tabI_TwoCuts "Web" = some false := by decide +kernel
theorem tabI_TwoCuts_Told : tabI_TwoCuts "Told" = some false := by decide +kernel
theorem tabI_TwoCuts_Clash : tabI_TwoCuts "Clash" = some false := by decide +kernel
theorem tabI_TwoCuts_TwoCuts : tabI_TwoCuts "TwoCuts" = some true := by decide +kernel
theorem tabI_TwoCuts_Best : tabI_TwoCuts "Best" = some false := by decide +kernel
theorem tabI_TwoCuts_RunPair : tabI_TwoCuts "RunPair" = some false := by decide +kernel
theorem tabI_TwoCuts_Tried : tabI_TwoCuts "Tried" = some false := by decide +kernel
theorem tabI_TwoCuts_MixClash : tabI_TwoCuts "MixClash" = some false := by decide +kernel
theorem tabI_TwoCuts_Uneven : tabI_TwoCuts "Uneven" = some false := by decide +kernel
theorem tabI_TwoCuts_SumsClash : tabI_TwoCuts "SumsClash" = some false := by decide +kernel
theorem tabI_TwoCuts_TooClose : tabI_TwoCuts "TooClose" = some false := by decide +kernel
theorem tabI_TwoCuts_Read : tabI_TwoCuts "Read" = some false := by decide +kernel
def tabI_Best (a : Str) : Option Bool :=
  if a = "NearPair" then some false else
  if a = "Thinned" then some false else
  if a = "Web" then some false else
  if a = "Told" then some false else
  if a = "Clash" then some false else
  if a = "TwoCuts" then some false else
  if a = "Best" then some true else
  if a = "RunPair" then some false else
  if a = "Tried" then some false else
  if a = "MixClash" then some false else
  if a = "Uneven" then some false else
  if a = "SumsClash" then some false else
  if a = "TooClose" then some false else
  if a = "Read" then some false else
  none
theorem tabI_Best_NearPair : tabI_Best "NearPair" = some false := by decide +kernel
theorem tabI_Best_Thinned : tabI_Best "Thinned" = some false := by decide +kernel
theorem tabI_Best_Web : tabI_Best "Web" = some false := by decide +kernel
theorem tabI_Best_Told : tabI_Best "Told" = some false := by decide +kernel
theorem tabI_Best_Clash : tabI_Best "Clash" = some false := by decide +kernel
theorem tabI_Best_TwoCuts : tabI_Best "TwoCuts" = some false := by decide +kernel
theorem tabI_Best_Best : tabI_Best "Best" = some true := by decide +kernel
theorem tabI_Best_RunPair : tabI_Best "RunPair" = some false := by decide +kernel
theorem tabI_Best_Tried : tabI_Best "Tried" = some false := by decide +kernel
theorem tabI_Best_MixClash : tabI_Best "MixClash" = some false := by decide +kernel
theorem tabI_Best_Uneven : tabI_Best "Uneven" = some false := by decide +kernel
theorem tabI_Best_SumsClash : tabI_Best "SumsClash" = some false := by decide +kernel
theorem tabI_Best_TooClose : tabI_Best "TooClose" = some false := by decide +kernel
theorem tabI_Best_Read : tabI_Best "Read" = some false := by decide +kernel
def tabI_RunPair (a : Str) : Option Bool :=
  if a = "NearPair" then some false else
  if a = "Thinned" then some false else
  if a = "Web" then some false else
  if a = "Told" then some false else
  if a = "Clash" then some false else
  if a = "TwoCuts" then some false else
  if a = "Best" then some false else
  if a = "RunPair" then some true else
  if a = "Tried" then some false else
  if a = "MixClash" then some false else
  if a = "Uneven" then some false else
  if a = "SumsClash" then some false else
  if a = "TooClose" then some false else
  if a = "Read" then some false else
  none
theorem tabI_RunPair_NearPair : tabI_RunPair "NearPair" = some false := by decide +kernel
theorem tabI_RunPair_Thinned : tabI_RunPair "Thinned" = some false := by decide +kernel
theorem tabI_RunPair_Web : tabI_RunPair "Web" = some false := by decide +kernel
theorem tabI_RunPair_Told : tabI_RunPair "Told" = some false := by decide +kernel
theorem tabI_RunPair_Clash : tabI_RunPair "Clash" = some false := by decide +kernel
theorem tabI_RunPair_TwoCuts : tabI_RunPair "TwoCuts" = some false := by decide +kernel
theorem tabI_RunPair_Best : tabI_RunPair "Best" = some false := by decide +kernel
theorem tabI_RunPair_RunPair : tabI_RunPair "RunPair" = some true := by decide +kernel
theorem tabI_RunPair_Tried : tabI_RunPair "Tried" = some false := by decide +kernel
theorem tabI_RunPair_MixClash : tabI_RunPair "MixClash" = some false := by decide +kernel
theorem tabI_RunPair_Uneven : tabI_RunPair "Uneven" = some false := by decide +kernel
theorem tabI_RunPair_SumsClash : tabI_RunPair "SumsClash" = some false := by decide +kernel
theorem tabI_RunPair_TooClose : tabI_RunPair "TooClose" = some false := by decide +kernel
theorem tabI_RunPair_Read : tabI_RunPair "Read" = some false := by decide +kernel
def tabI_Tried (a : Str) : Option Bool :=
  if a = "NearPair" then some false else
  if a = "Thinned" then some false else
  if a = "Web" then some false else
  if a = "Told" then some false else
  if a = "Clash" then some false else
  if a = "TwoCuts" then some false else
  if a = "Best" then some false else
  if a = "RunPair" then some false else
  if a = "Tried" then some true else
  if a = "MixClash" then some false else
  if a = "Uneven" then some false else
  if a = "SumsClash" then some false else
  if a = "TooClose" then some false else
  if a = "Read" then some false else
  none
theorem tabI_Tried_NearPair : tabI_Tried "NearPair" = some false := by decide +kernel
theorem tabI_Tried_Thinned : tabI_Tried "Thinned" = some false := by decide +kernel
theorem tabI_Tried_Web : tabI_Tried "Web" = some false := by decide +kernel
theorem tabI_Tried_Told : tabI_Tried "Told" = some false := by decide +kernel
theorem tabI_Tried_Clash : tabI_Tried "Clash" = some false := by decide +kernel
theorem tabI_Tried_TwoCuts : tabI_Tried "TwoCuts" = some false := by decide +kernel
theorem tabI_Tried_Best : tabI_Tried "Best" = some false := by decide +kernel
theorem tabI_Tried_RunPair : tabI_Tried "RunPair" = some false := by decide +kernel
theorem tabI_Tried_Tried : tabI_Tried "Tried" = some true := by decide +kernel
theorem tabI_Tried_MixClash : tabI_Tried "MixClash" = some false := by decide +kernel
theorem tabI_Tried_Uneven : tabI_Tried "Uneven" = some false := by decide +kernel
theorem tabI_Tried_SumsClash : tabI_Tried "SumsClash" = some false := by decide +kernel
theorem tabI_Tried_TooClose : tabI_Tried "TooClose" = some false := by decide +kernel
theorem tabI_Tried_Read : tabI_Tried "Read" = some false := by decide +kernel
def tabI_MixClash (a : Str) : Option Bool :=
  if a = "NearPair" then some false else
  if a = "Thinned" then some false else
  if a = "Web" then some false else
  if a = "Told" then some false else
  if a = "Clash" then some false else
  if a = "TwoCuts" then some false else
  if a = "Best" then some false else
  if a = "RunPair" then some false else
  if a = "Tried" then some false else
  if a = "MixClash" then some true else
  if a = "Uneven" then some false else
  if a = "SumsClash" then some false else
  if a = "TooClose" then some false else
  if a = "Read" then some false else
  none
theorem tabI_MixClash_NearPair : tabI_MixClash "NearPair" = some false := by decide +kernel
theorem tabI_MixClash_Thinned : tabI_MixClash "Thinned" = some false := by decide +kernel
theorem tabI_MixClash_Web : tabI_MixClash "Web" = some false := by decide +kernel
theorem tabI_MixClash_Told : tabI_MixClash "Told" = some false := by decide +kernel
theorem tabI_MixClash_Clash : tabI_MixClash "Clash" = some false := by decide +kernel
theorem tabI_MixClash_TwoCuts : tabI_MixClash "TwoCuts" = some false := by decide +kernel
theorem tabI_MixClash_Best : tabI_MixClash "Best" = some false := by decide +kernel
theorem tabI_MixClash_RunPair : tabI_MixClash "RunPair" = some false := by decide +kernel
theorem tabI_MixClash_Tried : tabI_MixClash "Tried" = some false := by decide +kernel
theorem tabI_MixClash_MixClash : tabI_MixClash "MixClash" = some true := by decide +kernel
theorem tabI_MixClash_Uneven : tabI_MixClash "Uneven" = some false := by decide +kernel
theorem tabI_MixClash_SumsClash : tabI_MixClash "SumsClash" = some false := by decide +kernel
theorem tabI_MixClash_TooClose : tabI_MixClash "TooClose" = some false := by decide +kernel
theorem tabI_MixClash_Read : tabI_MixClash "Read" = some false := by decide +kernel
def tabI_Uneven (a : Str) : Option Bool :=
  if a = "NearPair" then some false else
  if a = "Thinned" then some false else
  if a = "Web" then some false else
  if a = "Told" then some false else
  if a = "Clash" then some false else
  if a = "TwoCuts" then some false else
  if a = "Best" then some false else
  if a = "RunPair" then some false else
  if a = "Tried" then some false else
  if a = "MixClash" then some false else
  if a = "Uneven" then some true else
  if a = "SumsClash" then some false else
  if a = "TooClose" then some false else
  if a = "Read" then some false else
  none
theorem tabI_Uneven_NearPair : tabI_Uneven "NearPair" = some false := by decide +kernel
theorem tabI_Uneven_Thinned : tabI_Uneven "Thinned" = some false := by decide +kernel
theorem tabI_Uneven_Web : tabI_Uneven "Web" = some false := by decide +kernel
theorem tabI_Uneven_Told : tabI_Uneven "Told" = some false := by decide +kernel
theorem tabI_Uneven_Clash : tabI_Uneven "Clash" = some false := by decide +kernel
theorem tabI_Uneven_TwoCuts : tabI_Uneven "TwoCuts" = some false := by decide +kernel
theorem tabI_Uneven_Best : tabI_Uneven "Best" = some false := by decide +kernel
theorem tabI_Uneven_RunPair : tabI_Uneven "RunPair" = some false := by decide +kernel
theorem tabI_Uneven_Tried : tabI_Uneven "Tried" = some false := by decide +kernel
theorem tabI_Uneven_MixClash : tabI_Uneven "MixClash" = some false := by decide +kernel
theorem tabI_Uneven_Uneven : tabI_Uneven "Uneven" = some true := by decide +kernel
theorem tabI_Uneven_SumsClash : tabI_Uneven "SumsClash" = some false := by decide +kernel
theorem tabI_Uneven_TooClose : tabI_Uneven "TooClose" = some false := by decide +kernel
theorem tabI_Uneven_Read : tabI_Uneven "Read" = some false := by decide +kernel
def tabI_SumsClash (a : Str) : Option Bool :=
  if a = "NearPair" then some false else
  if a = "Thinned" then some false else
  if a = "Web" then some false else
  if a = "Told" then some false else
  if a = "Clash" then some false else
  if a = "TwoCuts" then some false else
  if a = "Best" then some false else
  if a = "RunPair" then some false else
  if a = "Tried" then some false else
  if a = "MixClash" then some false else
  if a = "Uneven" then some false else
  if a = "SumsClash" then some true else
  if a = "TooClose" then some false else
  if a = "Read" then some false else
  none
theorem tabI_SumsClash_NearPair : tabI_SumsClash "NearPair" = some false := by decide +kernel
theorem tabI_SumsClash_Thinned : tabI_SumsClash "Thinned" = some false := by decide +kernel
theorem tabI_SumsClash_Web : tabI_SumsClash "Web" = some false := by decide +kernel
theorem tabI_SumsClash_Told : tabI_SumsClash "Told" = some false := by decide +kernel
theorem tabI_SumsClash_Clash : tabI_SumsClash "Clash" = some false := by decide +kernel
theorem tabI_SumsClash_TwoCuts : tabI_SumsClash "TwoCuts" = some false := by decide +kernel
theorem tabI_SumsClash_Best : tabI_SumsClash "Best" = some false := by decide +kernel
theorem tabI_SumsClash_RunPair : tabI_SumsClash "RunPair" = some false := by decide +kernel
theorem tabI_SumsClash_Tried : tabI_SumsClash "Tried" = some false := by decide +kernel
theorem tabI_SumsClash_MixClash : tabI_SumsClash "MixClash" = some false := by decide +kernel
theorem tabI_SumsClash_Uneven : tabI_SumsClash "Uneven" = some false := by decide +kernel
theorem tabI_SumsClash_SumsClash : tabI_SumsClash "SumsClash" = some true := by decide +kernel
theorem tabI_SumsClash_TooClose : tabI_SumsClash "TooClose" = some false := by decide +kernel
theorem tabI_SumsClash_Read : tabI_SumsClash "Read" = some false := by decide +kernel
def tabI_TooClose (a : Str) : Option Bool :=
  if a = "NearPair" then some false else
  if a = "Thinned" then some false else
  if a = "Web" then some false else
  if a = "Told" then some false else
  if a = "Clash" then some false else
  if a = "TwoCuts" then some false else
  if a = "Best" then some false else
  if a = "RunPair" then some false else
  if a = "Tried" then some false else
  if a = "MixClash" then some false else
  if a = "Uneven" then some false else
  if a = "SumsClash" then some false else
  if a = "TooClose" then some true else
  if a = "Read" then some false else
  none
theorem tabI_TooClose_NearPair : tabI_TooClose "NearPair" = some false := by decide +kernel
theorem tabI_TooClose_Thinned : tabI_TooClose "Thinned" = some false := by decide +kernel
theorem tabI_TooClose_Web : tabI_TooClose "Web" = some false := by decide +kernel
theorem tabI_TooClose_Told : tabI_TooClose "Told" = some false := by decide +kernel
theorem tabI_TooClose_Clash : tabI_TooClose "Clash" = some false := by decide +kernel
theorem tabI_TooClose_TwoCuts : tabI_TooClose "TwoCuts" = some false := by decide +kernel
theorem tabI_TooClose_Best : tabI_TooClose "Best" = some false := by decide +kernel
theorem tabI_TooClose_RunPair : tabI_TooClose "RunPair" = some false := by decide +kernel
theorem tabI_TooClose_Tried : tabI_TooClose "Tried" = some false := by decide +kernel
theorem tabI_TooClose_MixClash : tabI_TooClose "MixClash" = some false := by decide +kernel
theorem tabI_TooClose_Uneven : tabI_TooClose "Uneven" = some false := by decide +kernel
theorem tabI_TooClose_SumsClash : tabI_TooClose "SumsClash" = some false := by decide +kernel
theorem tabI_TooClose_TooClose : tabI_TooClose "TooClose" = some true := by decide +kernel
theorem tabI_TooClose_Read : tabI_TooClose "Read" = some false := by decide +kernel
def tabI_Read (a : Str) : Option Bool :=
  if a = "NearPair" then some false else
  if a = "Thinned" then some false else
  if a = "Web" then some false else
  if a = "Told" then some false else
  if a = "Clash" then some false else
  if a = "TwoCuts" then some false else
  if a = "Best" then some false else
  if a = "RunPair" then some false else
  if a = "Tried" then some false else
  if a = "MixClash" then some false else
  if a = "Uneven" then some false else
  if a = "SumsClash" then some false else
  if a = "TooClose" then some false else
  if a = "Read" then some true else
  none
theorem tabI_Read_NearPair : tabI_Read "NearPair" = some false := by decide +kernel
theorem tabI_Read_Thinned : tabI_Read "Thinned" = some false := by decide +kernel
theorem tabI_Read_Web : tabI_Read "Web" = some false := by decide +kernel
theorem tabI_Read_Told : tabI_Read "Told" = some false := by decide +kernel
theorem tabI_Read_Clash : tabI_Read "Clash" = some false := by decide +kernel
theorem tabI_Read_TwoCuts : tabI_Read "TwoCuts" = some false := by decide +kernel
theorem tabI_Read_Best : tabI_Read "Best" = some false := by decide +kernel
theorem tabI_Read_RunPair : tabI_Read "RunPair" = some false := by decide +kernel
theorem tabI_Read_Tried : tabI_Read "Tried" = some false := by decide +kernel
theorem tabI_Read_MixClash : tabI_Read "MixClash" = some false := by decide +kernel
theorem tabI_Read_Uneven : tabI_Read "Uneven" = some false := by decide +kernel
theorem tabI_Read_SumsClash : tabI_Read "SumsClash" = some false := by decide +kernel
theorem tabI_Read_TooClose : tabI_Read "TooClose" = some false := by decide +kernel
theorem tabI_Read_Read : tabI_Read "Read" = some true := by decide +kernel
def S_law_word : DSt := (sRet (eCB dTupOf (eCons (eLc (eRng1 (eCons (eVarB 2) eNil)) (gD 3) eYes (eCall0 F_law_take [] (eConsH 0 (eConsS (eVar 1) eNil))) [3]) eNil)))
theorem F_law_word_ex : ∃ x : DFn, x = mkD0 3 4 S_law_word := ⟨_, rfl⟩
noncomputable def F_law_word : DFn := F_law_word_ex.choose
theorem F_law_word_eq : F_law_word = mkD0 3 4 S_law_word := F_law_word_ex.choose_spec
def S_law_part : DSt := (sSeq (sAsg (eCall0 F_law_take [] (eConsH 0 (eConsS (eC (.int 5)) eNil))) (gD 1))
    (sSeq (sIf (eTest (eOp dEq (eVarB 1) (eC (.int 0))))
    (sRet (eOp dSub (eCall0 F_law_take [] (eConsH 0 (eConsS (eC (.int (1000000))) eNil))) (eC (.int 3))))
    sNext)
    (sSeq (sIf (eTest (eOp dEq (eVarB 1) (eC (.int 1))))
    (sRet (eCall0 F_law_word [] (eConsH 0 (eConsS (eC (.int 4)) (eConsS (eCall0 F_law_take [] (eConsH 0 (eConsS (eC (.int 6)) eNil))) eNil)))))
    sNext)
    (sSeq (sIf (eTest (eOp dEq (eVarB 1) (eC (.int 2))))
    (sRet (eCB dTupOf (eCons (eLc (eRng1 (eCons (eCall0 F_law_take [] (eConsH 0 (eConsS (eC (.int 4)) eNil))) eNil)) (gD 2) eYes (eCall0 F_law_word [] (eConsH 0 (eConsS (eC (.int 3)) (eConsS (eCall0 F_law_take [] (eConsH 0 (eConsS (eC (.int 3)) eNil))) eNil)))) [2]) eNil)))
    sNext)
    (sRet (eOp dIx (eTup (eCons (eC (.bl true)) (eCons (eC (.bl false)) (eCons (eC .non) (eCons (eC (.str "lost")) (eCons (eC (.str "put")) eNil)))))) (eCall0 F_law_take [] (eConsH 0 (eConsS (eC (.int 5)) eNil)))))))))
theorem F_law_part_ex : ∃ x : DFn, x = mkD0 1 3 S_law_part := ⟨_, rfl⟩
noncomputable def F_law_part : DFn := F_law_part_ex.choose
theorem F_law_part_eq : F_law_part = mkD0 1 3 S_law_part := F_law_part_ex.choose_spec
def S_NearPair___eq : DSt := (sRet (eAndV (eIsI tabI_NearPair (eVarB 1)) (eAndV (eOp dEq (eFld ftab "one" (eVarB 0)) (eFld ftab "one" (eVarB 1))) (eAndV (eOp dEq (eFld ftab "other" (eVarB 0)) (eFld ftab "other" (eVarB 1))) (eAndV (eOp dEq (eFld ftab "below" (eVarB 0)) (eFld ftab "below" (eVarB 1))) (eOp dEq (eFld ftab "above" (eVarB 0)) (eFld ftab "above" (eVarB 1))))))))
theorem F_NearPair___eq_ex : ∃ x : DFn, x = mkD0 2 2 S_NearPair___eq := ⟨_, rfl⟩
noncomputable def F_NearPair___eq : DFn := F_NearPair___eq_ex.choose
theorem F_NearPair___eq_eq : F_NearPair___eq = mkD0 2 2 S_NearPair___eq := F_NearPair___eq_ex.choose_spec
def S_Thinned___eq : DSt := (sRet (eAndV (eIsI tabI_Thinned (eVarB 1)) (eAndV (eOp dEq (eFld ftab "book" (eVarB 0)) (eFld ftab "book" (eVarB 1))) (eOp dEq (eFld ftab "rows" (eVarB 0)) (eFld ftab "rows" (eVarB 1))))))
theorem F_Thinned___eq_ex : ∃ x : DFn, x = mkD0 2 2 S_Thinned___eq := ⟨_, rfl⟩
noncomputable def F_Thinned___eq : DFn := F_Thinned___eq_ex.choose
theorem F_Thinned___eq_eq : F_Thinned___eq = mkD0 2 2 S_Thinned___eq := F_Thinned___eq_ex.choose_spec
def S_Web___eq : DSt := (sRet (eAndV (eIsI tabI_Web (eVarB 1)) (eAndV (eOp dEq (eFld ftab "starts" (eVarB 0)) (eFld ftab "starts" (eVarB 1))) (eAndV (eOp dEq (eFld ftab "rests" (eVarB 0)) (eFld ftab "rests" (eVarB 1))) (eOp dEq (eFld ftab "steps" (eVarB 0)) (eFld ftab "steps" (eVarB 1)))))))
theorem F_Web___eq_ex : ∃ x : DFn, x = mkD0 2 2 S_Web___eq := ⟨_, rfl⟩
noncomputable def F_Web___eq : DFn := F_Web___eq_ex.choose
theorem F_Web___eq_eq : F_Web___eq = mkD0 2 2 S_Web___eq := F_Web___eq_ex.choose_spec
def S_Told___eq : DSt := (sRet (eAndV (eIsI tabI_Told (eVarB 1)) (eAndV (eOp dEq (eFld ftab "wait" (eVarB 0)) (eFld ftab "wait" (eVarB 1))) (eAndV (eOp dEq (eFld ftab "first" (eVarB 0)) (eFld ftab "first" (eVarB 1))) (eOp dEq (eFld ftab "second" (eVarB 0)) (eFld ftab "second" (eVarB 1)))))))
theorem F_Told___eq_ex : ∃ x : DFn, x = mkD0 2 2 S_Told___eq := ⟨_, rfl⟩
noncomputable def F_Told___eq : DFn := F_Told___eq_ex.choose
theorem F_Told___eq_eq : F_Told___eq = mkD0 2 2 S_Told___eq := F_Told___eq_ex.choose_spec
def S_Clash___eq : DSt := (sRet (eAndV (eIsI tabI_Clash (eVarB 1)) (eAndV (eOp dEq (eFld ftab "first" (eVarB 0)) (eFld ftab "first" (eVarB 1))) (eOp dEq (eFld ftab "second" (eVarB 0)) (eFld ftab "second" (eVarB 1))))))
theorem F_Clash___eq_ex : ∃ x : DFn, x = mkD0 2 2 S_Clash___eq := ⟨_, rfl⟩
noncomputable def F_Clash___eq : DFn := F_Clash___eq_ex.choose
theorem F_Clash___eq_eq : F_Clash___eq = mkD0 2 2 S_Clash___eq := F_Clash___eq_ex.choose_spec
def S_TwoCuts___eq : DSt := (sRet (eAndV (eIsI tabI_TwoCuts (eVarB 1)) (eAndV (eOp dEq (eFld ftab "first" (eVarB 0)) (eFld ftab "first" (eVarB 1))) (eOp dEq (eFld ftab "second" (eVarB 0)) (eFld ftab "second" (eVarB 1))))))
theorem F_TwoCuts___eq_ex : ∃ x : DFn, x = mkD0 2 2 S_TwoCuts___eq := ⟨_, rfl⟩
noncomputable def F_TwoCuts___eq : DFn := F_TwoCuts___eq_ex.choose
theorem F_TwoCuts___eq_eq : F_TwoCuts___eq = mkD0 2 2 S_TwoCuts___eq := F_TwoCuts___eq_ex.choose_spec
def S_Best___eq : DSt := (sRet (eAndV (eIsI tabI_Best (eVarB 1)) (eAndV (eOp dEq (eFld ftab "number" (eVarB 0)) (eFld ftab "number" (eVarB 1))) (eOp dEq (eFld ftab "book" (eVarB 0)) (eFld ftab "book" (eVarB 1))))))
theorem F_Best___eq_ex : ∃ x : DFn, x = mkD0 2 2 S_Best___eq := ⟨_, rfl⟩
noncomputable def F_Best___eq : DFn := F_Best___eq_ex.choose
theorem F_Best___eq_eq : F_Best___eq = mkD0 2 2 S_Best___eq := F_Best___eq_ex.choose_spec
def S_RunPair___eq : DSt := (sRet (eAndV (eIsI tabI_RunPair (eVarB 1)) (eAndV (eOp dEq (eFld ftab "one" (eVarB 0)) (eFld ftab "one" (eVarB 1))) (eAndV (eOp dEq (eFld ftab "other" (eVarB 0)) (eFld ftab "other" (eVarB 1))) (eAndV (eOp dEq (eFld ftab "apart" (eVarB 0)) (eFld ftab "apart" (eVarB 1))) (eAndV (eOp dEq (eFld ftab "longer" (eVarB 0)) (eFld ftab "longer" (eVarB 1))) (eOp dEq (eFld ftab "shorter" (eVarB 0)) (eFld ftab "shorter" (eVarB 1)))))))))
theorem F_RunPair___eq_ex : ∃ x : DFn, x = mkD0 2 2 S_RunPair___eq := ⟨_, rfl⟩
noncomputable def F_RunPair___eq : DFn := F_RunPair___eq_ex.choose
theorem F_RunPair___eq_eq : F_RunPair___eq = mkD0 2 2 S_RunPair___eq := F_RunPair___eq_ex.choose_spec
def S_Tried___eq : DSt := (sRet (eAndV (eIsI tabI_Tried (eVarB 1)) (eAndV (eOp dEq (eFld ftab "many" (eVarB 0)) (eFld ftab "many" (eVarB 1))) (eAndV (eOp dEq (eFld ftab "borne" (eVarB 0)) (eFld ftab "borne" (eVarB 1))) (eAndV (eOp dEq (eFld ftab "runs" (eVarB 0)) (eFld ftab "runs" (eVarB 1))) (eAndV (eOp dEq (eFld ftab "told" (eVarB 0)) (eFld ftab "told" (eVarB 1))) (eOp dEq (eFld ftab "met" (eVarB 0)) (eFld ftab "met" (eVarB 1)))))))))
theorem F_Tried___eq_ex : ∃ x : DFn, x = mkD0 2 2 S_Tried___eq := ⟨_, rfl⟩
noncomputable def F_Tried___eq : DFn := F_Tried___eq_ex.choose
theorem F_Tried___eq_eq : F_Tried___eq = mkD0 2 2 S_Tried___eq := F_Tried___eq_ex.choose_spec
def S_MixClash___eq : DSt := (sRet (eAndV (eIsI tabI_MixClash (eVarB 1)) (eAndV (eOp dEq (eFld ftab "one" (eVarB 0)) (eFld ftab "one" (eVarB 1))) (eAndV (eOp dEq (eFld ftab "other" (eVarB 0)) (eFld ftab "other" (eVarB 1))) (eOp dEq (eFld ftab "word" (eVarB 0)) (eFld ftab "word" (eVarB 1)))))))
theorem F_MixClash___eq_ex : ∃ x : DFn, x = mkD0 2 2 S_MixClash___eq := ⟨_, rfl⟩
noncomputable def F_MixClash___eq : DFn := F_MixClash___eq_ex.choose
theorem F_MixClash___eq_eq : F_MixClash___eq = mkD0 2 2 S_MixClash___eq := F_MixClash___eq_ex.choose_spec
def S_Uneven___eq : DSt := (sRet (eAndV (eIsI tabI_Uneven (eVarB 1)) (eAndV (eOp dEq (eFld ftab "word" (eVarB 0)) (eFld ftab "word" (eVarB 1))) (eOp dEq (eFld ftab "above" (eVarB 0)) (eFld ftab "above" (eVarB 1))))))
theorem F_Uneven___eq_ex : ∃ x : DFn, x = mkD0 2 2 S_Uneven___eq := ⟨_, rfl⟩
noncomputable def F_Uneven___eq : DFn := F_Uneven___eq_ex.choose
theorem F_Uneven___eq_eq : F_Uneven___eq = mkD0 2 2 S_Uneven___eq := F_Uneven___eq_ex.choose_spec
def S_SumsClash___eq : DSt := (sRet (eAndV (eIsI tabI_SumsClash (eVarB 1)) (eAndV (eOp dEq (eFld ftab "one" (eVarB 0)) (eFld ftab "one" (eVarB 1))) (eOp dEq (eFld ftab "other" (eVarB 0)) (eFld ftab "other" (eVarB 1))))))
theorem F_SumsClash___eq_ex : ∃ x : DFn, x = mkD0 2 2 S_SumsClash___eq := ⟨_, rfl⟩
noncomputable def F_SumsClash___eq : DFn := F_SumsClash___eq_ex.choose
theorem F_SumsClash___eq_eq : F_SumsClash___eq = mkD0 2 2 S_SumsClash___eq := F_SumsClash___eq_ex.choose_spec
def S_TooClose___eq : DSt := (sRet (eAndV (eIsI tabI_TooClose (eVarB 1)) (eAndV (eOp dEq (eFld ftab "one" (eVarB 0)) (eFld ftab "one" (eVarB 1))) (eOp dEq (eFld ftab "other" (eVarB 0)) (eFld ftab "other" (eVarB 1))))))
theorem F_TooClose___eq_ex : ∃ x : DFn, x = mkD0 2 2 S_TooClose___eq := ⟨_, rfl⟩
noncomputable def F_TooClose___eq : DFn := F_TooClose___eq_ex.choose
theorem F_TooClose___eq_eq : F_TooClose___eq = mkD0 2 2 S_TooClose___eq := F_TooClose___eq_ex.choose_spec
def S_Read___eq : DSt := (sRet (eAndV (eIsI tabI_Read (eVarB 1)) (eAndV (eOp dEq (eFld ftab "what" (eVarB 0)) (eFld ftab "what" (eVarB 1))) (eOp dEq (eFld ftab "member" (eVarB 0)) (eFld ftab "member" (eVarB 1))))))
theorem F_Read___eq_ex : ∃ x : DFn, x = mkD0 2 2 S_Read___eq := ⟨_, rfl⟩
noncomputable def F_Read___eq : DFn := F_Read___eq_ex.choose
theorem F_Read___eq_eq : F_Read___eq = mkD0 2 2 S_Read___eq := F_Read___eq_ex.choose_spec
def eqsL : List Str := ["NearPair", "Thinned", "Web", "Told", "Clash", "TwoCuts", "Best", "RunPair", "Tried", "MixClash", "Uneven", "SumsClash", "TooClose", "Read"]
def tabN (a : Str) : Option Nat :=
  if a = "NearPair" then some 0 else
  if a = "Thinned" then some 1 else
  if a = "Web" then some 2 else
  if a = "Told" then some 3 else
  if a = "Clash" then some 4 else
  if a = "TwoCuts" then some 5 else
  if a = "Best" then some 6 else
  if a = "RunPair" then some 7 else
  if a = "Tried" then some 8 else
  if a = "MixClash" then some 9 else
  if a = "Uneven" then some 10 else
  if a = "SumsClash" then some 11 else
  if a = "TooClose" then some 12 else
  if a = "Read" then some 13 else
  none
noncomputable def tabE (a : Str) : Option DFn := (tabN a).bind fun i => [F_NearPair___eq, F_Thinned___eq, F_Web___eq, F_Told___eq, F_Clash___eq, F_TwoCuts___eq, F_Best___eq, F_RunPair___eq, F_Tried___eq, F_MixClash___eq, F_Uneven___eq, F_SumsClash___eq, F_TooClose___eq, F_Read___eq][i]?
def tabC (a : Str) : Bool := (tabN a).isSome
theorem tabN_NearPair : tabN "NearPair" = some 0 := by decide +kernel
theorem tabE_NearPair : tabE "NearPair" = some F_NearPair___eq := by unfold tabE; rw [tabN_NearPair]; rfl
theorem tabC_NearPair : tabC "NearPair" = true := by unfold tabC; rw [tabN_NearPair]; rfl
theorem tabN_Thinned : tabN "Thinned" = some 1 := by decide +kernel
theorem tabE_Thinned : tabE "Thinned" = some F_Thinned___eq := by unfold tabE; rw [tabN_Thinned]; rfl
theorem tabC_Thinned : tabC "Thinned" = true := by unfold tabC; rw [tabN_Thinned]; rfl
theorem tabN_Web : tabN "Web" = some 2 := by decide +kernel
theorem tabE_Web : tabE "Web" = some F_Web___eq := by unfold tabE; rw [tabN_Web]; rfl
theorem tabC_Web : tabC "Web" = true := by unfold tabC; rw [tabN_Web]; rfl
theorem tabN_Told : tabN "Told" = some 3 := by decide +kernel
theorem tabE_Told : tabE "Told" = some F_Told___eq := by unfold tabE; rw [tabN_Told]; rfl
theorem tabC_Told : tabC "Told" = true := by unfold tabC; rw [tabN_Told]; rfl
theorem tabN_Clash : tabN "Clash" = some 4 := by decide +kernel
theorem tabE_Clash : tabE "Clash" = some F_Clash___eq := by unfold tabE; rw [tabN_Clash]; rfl
theorem tabC_Clash : tabC "Clash" = true := by unfold tabC; rw [tabN_Clash]; rfl
theorem tabN_TwoCuts : tabN "TwoCuts" = some 5 := by decide +kernel
theorem tabE_TwoCuts : tabE "TwoCuts" = some F_TwoCuts___eq := by unfold tabE; rw [tabN_TwoCuts]; rfl
theorem tabC_TwoCuts : tabC "TwoCuts" = true := by unfold tabC; rw [tabN_TwoCuts]; rfl
theorem tabN_Best : tabN "Best" = some 6 := by decide +kernel
theorem tabE_Best : tabE "Best" = some F_Best___eq := by unfold tabE; rw [tabN_Best]; rfl
theorem tabC_Best : tabC "Best" = true := by unfold tabC; rw [tabN_Best]; rfl
theorem tabN_RunPair : tabN "RunPair" = some 7 := by decide +kernel
theorem tabE_RunPair : tabE "RunPair" = some F_RunPair___eq := by unfold tabE; rw [tabN_RunPair]; rfl
theorem tabC_RunPair : tabC "RunPair" = true := by unfold tabC; rw [tabN_RunPair]; rfl
theorem tabN_Tried : tabN "Tried" = some 8 := by decide +kernel
theorem tabE_Tried : tabE "Tried" = some F_Tried___eq := by unfold tabE; rw [tabN_Tried]; rfl
theorem tabC_Tried : tabC "Tried" = true := by unfold tabC; rw [tabN_Tried]; rfl
theorem tabN_MixClash : tabN "MixClash" = some 9 := by decide +kernel
theorem tabE_MixClash : tabE "MixClash" = some F_MixClash___eq := by unfold tabE; rw [tabN_MixClash]; rfl
theorem tabC_MixClash : tabC "MixClash" = true := by unfold tabC; rw [tabN_MixClash]; rfl
theorem tabN_Uneven : tabN "Uneven" = some 10 := by decide +kernel
theorem tabE_Uneven : tabE "Uneven" = some F_Uneven___eq := by unfold tabE; rw [tabN_Uneven]; rfl
theorem tabC_Uneven : tabC "Uneven" = true := by unfold tabC; rw [tabN_Uneven]; rfl
theorem tabN_SumsClash : tabN "SumsClash" = some 11 := by decide +kernel
theorem tabE_SumsClash : tabE "SumsClash" = some F_SumsClash___eq := by unfold tabE; rw [tabN_SumsClash]; rfl
theorem tabC_SumsClash : tabC "SumsClash" = true := by unfold tabC; rw [tabN_SumsClash]; rfl
theorem tabN_TooClose : tabN "TooClose" = some 12 := by decide +kernel
theorem tabE_TooClose : tabE "TooClose" = some F_TooClose___eq := by unfold tabE; rw [tabN_TooClose]; rfl
theorem tabC_TooClose : tabC "TooClose" = true := by unfold tabC; rw [tabN_TooClose]; rfl
theorem tabN_Read : tabN "Read" = some 13 := by decide +kernel
theorem tabE_Read : tabE "Read" = some F_Read___eq := by unfold tabE; rw [tabN_Read]; rfl
theorem tabC_Read : tabC "Read" = true := by unfold tabC; rw [tabN_Read]; rfl
theorem tabN_mem : ∀ a i, tabN a = some i → a ∈ eqsL := by
  intro a i h
  unfold tabN at h
  by_cases c : a = "NearPair"
  · subst c; decide +kernel
  rw [if_neg c] at h; clear c
  by_cases c : a = "Thinned"
  · subst c; decide +kernel
  rw [if_neg c] at h; clear c
  by_cases c : a = "Web"
  · subst c; decide +kernel
  rw [if_neg c] at h; clear c
  by_cases c : a = "Told"
  · subst c; decide +kernel
  rw [if_neg c] at h; clear c
  by_cases c : a = "Clash"
  · subst c; decide +kernel
  rw [if_neg c] at h; clear c
  by_cases c : a = "TwoCuts"
  · subst c; decide +kernel
  rw [if_neg c] at h; clear c
  by_cases c : a = "Best"
  · subst c; decide +kernel
  rw [if_neg c] at h; clear c
  by_cases c : a = "RunPair"
  · subst c; decide +kernel
  rw [if_neg c] at h; clear c
  by_cases c : a = "Tried"
  · subst c; decide +kernel
  rw [if_neg c] at h; clear c
  by_cases c : a = "MixClash"
  · subst c; decide +kernel
  rw [if_neg c] at h; clear c
  by_cases c : a = "Uneven"
  · subst c; decide +kernel
  rw [if_neg c] at h; clear c
  by_cases c : a = "SumsClash"
  · subst c; decide +kernel
  rw [if_neg c] at h; clear c
  by_cases c : a = "TooClose"
  · subst c; decide +kernel
  rw [if_neg c] at h; clear c
  by_cases c : a = "Read"
  · subst c; decide +kernel
  rw [if_neg c] at h; clear c
  cases h
def S_NearPair___init : DSt := (sSeq (sSetF ftab "one" 0 (eVar 1))
    (sSeq (sSetF ftab "other" 0 (eVar 2))
    (sSeq (sSetF ftab "below" 0 (eVar 3))
    (sSetF ftab "above" 0 (eVar 4)))))
theorem F_NearPair___init_ex : ∃ x : DFn, x = mkI0 "NearPair" 5 5 S_NearPair___init := ⟨_, rfl⟩
noncomputable def F_NearPair___init : DFn := F_NearPair___init_ex.choose
theorem F_NearPair___init_eq : F_NearPair___init = mkI0 "NearPair" 5 5 S_NearPair___init := F_NearPair___init_ex.choose_spec
def S_Thinned___init : DSt := (sSeq (sSetF ftab "book" 0 (eVar 1))
    (sSetF ftab "rows" 0 (eVar 2)))
theorem F_Thinned___init_ex : ∃ x : DFn, x = mkI0 "Thinned" 3 3 S_Thinned___init := ⟨_, rfl⟩
noncomputable def F_Thinned___init : DFn := F_Thinned___init_ex.choose
theorem F_Thinned___init_eq : F_Thinned___init = mkI0 "Thinned" 3 3 S_Thinned___init := F_Thinned___init_ex.choose_spec
def S_MixClash___init : DSt := (sSeq (sSetF ftab "one" 0 (eVar 1))
    (sSeq (sSetF ftab "other" 0 (eVar 2))
    (sSetF ftab "word" 0 (eVar 3))))
theorem F_MixClash___init_ex : ∃ x : DFn, x = mkI0 "MixClash" 4 4 S_MixClash___init := ⟨_, rfl⟩
noncomputable def F_MixClash___init : DFn := F_MixClash___init_ex.choose
theorem F_MixClash___init_eq : F_MixClash___init = mkI0 "MixClash" 4 4 S_MixClash___init := F_MixClash___init_ex.choose_spec
def S_Uneven___init : DSt := (sSeq (sSetF ftab "word" 0 (eVar 1))
    (sSetF ftab "above" 0 (eVar 2)))
theorem F_Uneven___init_ex : ∃ x : DFn, x = mkI0 "Uneven" 3 3 S_Uneven___init := ⟨_, rfl⟩
noncomputable def F_Uneven___init : DFn := F_Uneven___init_ex.choose
theorem F_Uneven___init_eq : F_Uneven___init = mkI0 "Uneven" 3 3 S_Uneven___init := F_Uneven___init_ex.choose_spec
def S_Read___init : DSt := (sSeq (sSetF ftab "what" 0 (eVar 1))
    (sSetF ftab "member" 0 (eVar 2)))
theorem F_Read___init_ex : ∃ x : DFn, x = mkI0 "Read" 3 3 S_Read___init := ⟨_, rfl⟩
noncomputable def F_Read___init : DFn := F_Read___init_ex.choose
theorem F_Read___init_eq : F_Read___init = mkI0 "Read" 3 3 S_Read___init := F_Read___init_ex.choose_spec
def S_TooClose___init : DSt := (sSeq (sSetF ftab "one" 0 (eVar 1))
    (sSetF ftab "other" 0 (eVar 2)))
theorem F_TooClose___init_ex : ∃ x : DFn, x = mkI0 "TooClose" 3 3 S_TooClose___init := ⟨_, rfl⟩
noncomputable def F_TooClose___init : DFn := F_TooClose___init_ex.choose
theorem F_TooClose___init_eq : F_TooClose___init = mkI0 "TooClose" 3 3 S_TooClose___init := F_TooClose___init_ex.choose_spec
def S_RunPair___init : DSt := (sSeq (sSetF ftab "one" 0 (eVar 1))
    (sSeq (sSetF ftab "other" 0 (eVar 2))
    (sSeq (sSetF ftab "apart" 0 (eVar 3))
    (sSeq (sSetF ftab "longer" 0 (eVar 4))
    (sSetF ftab "shorter" 0 (eVar 5))))))
theorem F_RunPair___init_ex : ∃ x : DFn, x = mkI0 "RunPair" 6 6 S_RunPair___init := ⟨_, rfl⟩
noncomputable def F_RunPair___init : DFn := F_RunPair___init_ex.choose
theorem F_RunPair___init_eq : F_RunPair___init = mkI0 "RunPair" 6 6 S_RunPair___init := F_RunPair___init_ex.choose_spec
def S_SumsClash___init : DSt := (sSeq (sSetF ftab "one" 0 (eVar 1))
    (sSetF ftab "other" 0 (eVar 2)))
theorem F_SumsClash___init_ex : ∃ x : DFn, x = mkI0 "SumsClash" 3 3 S_SumsClash___init := ⟨_, rfl⟩
noncomputable def F_SumsClash___init : DFn := F_SumsClash___init_ex.choose
theorem F_SumsClash___init_eq : F_SumsClash___init = mkI0 "SumsClash" 3 3 S_SumsClash___init := F_SumsClash___init_ex.choose_spec
def S_Web___init : DSt := (sSeq (sSetF ftab "starts" 0 (eVar 1))
    (sSeq (sSetF ftab "rests" 0 (eVar 2))
    (sSetF ftab "steps" 0 (eVar 3))))
theorem F_Web___init_ex : ∃ x : DFn, x = mkI0 "Web" 4 4 S_Web___init := ⟨_, rfl⟩
noncomputable def F_Web___init : DFn := F_Web___init_ex.choose
theorem F_Web___init_eq : F_Web___init = mkI0 "Web" 4 4 S_Web___init := F_Web___init_ex.choose_spec
def S_Told___init : DSt := (sSeq (sSetF ftab "wait" 0 (eVar 1))
    (sSeq (sSetF ftab "first" 0 (eVar 2))
    (sSetF ftab "second" 0 (eVar 3))))
theorem F_Told___init_ex : ∃ x : DFn, x = mkI0 "Told" 4 4 S_Told___init := ⟨_, rfl⟩
noncomputable def F_Told___init : DFn := F_Told___init_ex.choose
theorem F_Told___init_eq : F_Told___init = mkI0 "Told" 4 4 S_Told___init := F_Told___init_ex.choose_spec
def S_Clash___init : DSt := (sSeq (sSetF ftab "first" 0 (eVar 1))
    (sSetF ftab "second" 0 (eVar 2)))
theorem F_Clash___init_ex : ∃ x : DFn, x = mkI0 "Clash" 3 3 S_Clash___init := ⟨_, rfl⟩
noncomputable def F_Clash___init : DFn := F_Clash___init_ex.choose
theorem F_Clash___init_eq : F_Clash___init = mkI0 "Clash" 3 3 S_Clash___init := F_Clash___init_ex.choose_spec
def S_TwoCuts___init : DSt := (sSeq (sSetF ftab "first" 0 (eVar 1))
    (sSetF ftab "second" 0 (eVar 2)))
theorem F_TwoCuts___init_ex : ∃ x : DFn, x = mkI0 "TwoCuts" 3 3 S_TwoCuts___init := ⟨_, rfl⟩
noncomputable def F_TwoCuts___init : DFn := F_TwoCuts___init_ex.choose
theorem F_TwoCuts___init_eq : F_TwoCuts___init = mkI0 "TwoCuts" 3 3 S_TwoCuts___init := F_TwoCuts___init_ex.choose_spec
def S_Best___init : DSt := (sSeq (sSetF ftab "number" 0 (eVar 1))
    (sSetF ftab "book" 0 (eVar 2)))
theorem F_Best___init_ex : ∃ x : DFn, x = mkI0 "Best" 3 3 S_Best___init := ⟨_, rfl⟩
noncomputable def F_Best___init : DFn := F_Best___init_ex.choose
theorem F_Best___init_eq : F_Best___init = mkI0 "Best" 3 3 S_Best___init := F_Best___init_ex.choose_spec
def S_Tried___init : DSt := (sSeq (sSetF ftab "many" 0 (eVar 1))
    (sSeq (sSetF ftab "borne" 0 (eVar 2))
    (sSeq (sSetF ftab "runs" 0 (eVar 3))
    (sSeq (sSetF ftab "told" 0 (eVar 4))
    (sSetF ftab "met" 0 (eVar 5))))))
theorem F_Tried___init_ex : ∃ x : DFn, x = mkI0 "Tried" 6 6 S_Tried___init := ⟨_, rfl⟩
noncomputable def F_Tried___init : DFn := F_Tried___init_ex.choose
theorem F_Tried___init_eq : F_Tried___init = mkI0 "Tried" 6 6 S_Tried___init := F_Tried___init_ex.choose_spec
def S_law_made : DSt := (sSeq (sOwn 1 (eLst eNil))
    (sSeq (sApp 1 (eCall0 F_NearPair___init [] (eConsS (eOp dIx (eVarB 0) (eC (.int 0))) (eConsS (eOp dIx (eVarB 0) (eC (.int 1))) (eConsS (eOp dIx (eVarB 0) (eC (.int 2))) (eConsS (eOp dIx (eVarB 0) (eC (.int 3))) eNil))))))
    (sSeq (sApp 1 (eCall0 F_Thinned___init [] (eConsS (eOp dIx (eVarB 0) (eC (.int 0))) (eConsS (eOp dIx (eVarB 0) (eC (.int 1))) eNil))))
    (sSeq (sApp 1 (eCall0 F_MixClash___init [] (eConsS (eOp dIx (eVarB 0) (eC (.int 0))) (eConsS (eOp dIx (eVarB 0) (eC (.int 1))) (eConsS (eOp dIx (eVarB 0) (eC (.int 2))) eNil)))))
    (sSeq (sApp 1 (eCall0 F_Uneven___init [] (eConsS (eOp dIx (eVarB 0) (eC (.int 0))) (eConsS (eOp dIx (eVarB 0) (eC (.int 1))) eNil))))
    (sSeq (sApp 1 (eCall0 F_Read___init [] (eConsS (eOp dIx (eVarB 0) (eC (.int 0))) (eConsS (eOp dIx (eVarB 0) (eC (.int 1))) eNil))))
    (sSeq (sApp 1 (eCall0 F_TooClose___init [] (eConsS (eOp dIx (eVarB 0) (eC (.int 0))) (eConsS (eOp dIx (eVarB 0) (eC (.int 1))) eNil))))
    (sSeq (sApp 1 (eCall0 F_RunPair___init [] (eConsS (eOp dIx (eVarB 0) (eC (.int 0))) (eConsS (eOp dIx (eVarB 0) (eC (.int 1))) (eConsS (eOp dIx (eVarB 0) (eC (.int 2))) (eConsS (eOp dIx (eVarB 0) (eC (.int 3))) (eConsS (eOp dIx (eVarB 0) (eC (.int 4))) eNil)))))))
    (sSeq (sApp 1 (eCall0 F_SumsClash___init [] (eConsS (eOp dIx (eVarB 0) (eC (.int 0))) (eConsS (eOp dIx (eVarB 0) (eC (.int 1))) eNil))))
    (sSeq (sApp 1 (eCall0 F_Web___init [] (eConsS (eOp dIx (eVarB 0) (eC (.int 0))) (eConsS (eOp dIx (eVarB 0) (eC (.int 1))) (eConsS (eOp dIx (eVarB 0) (eC (.int 2))) eNil)))))
    (sSeq (sApp 1 (eCall0 F_Told___init [] (eConsS (eOp dIx (eVarB 0) (eC (.int 0))) (eConsS (eOp dIx (eVarB 0) (eC (.int 1))) (eConsS (eOp dIx (eVarB 0) (eC (.int 2))) eNil)))))
    (sSeq (sApp 1 (eCall0 F_Clash___init [] (eConsS (eOp dIx (eVarB 0) (eC (.int 0))) (eConsS (eOp dIx (eVarB 0) (eC (.int 1))) eNil))))
    (sSeq (sApp 1 (eCall0 F_TwoCuts___init [] (eConsS (eOp dIx (eVarB 0) (eC (.int 0))) (eConsS (eOp dIx (eVarB 0) (eC (.int 1))) eNil))))
    (sSeq (sApp 1 (eCall0 F_Best___init [] (eConsS (eOp dIx (eVarB 0) (eC (.int 0))) (eConsS (eOp dIx (eVarB 0) (eC (.int 1))) eNil))))
    (sSeq (sApp 1 (eCall0 F_Tried___init [] (eConsS (eOp dIx (eVarB 0) (eC (.int 0))) (eConsS (eOp dIx (eVarB 0) (eC (.int 1))) (eConsS (eOp dIx (eVarB 0) (eC (.int 2))) (eConsS (eOp dIx (eVarB 0) (eC (.int 3))) (eConsS (eOp dIx (eVarB 0) (eC (.int 4))) eNil)))))))
    (sFrz 1 (sRet (eVar 1))))))))))))))))))
theorem F_law_made_ex : ∃ x : DFn, x = mkD0 1 2 S_law_made := ⟨_, rfl⟩
noncomputable def F_law_made : DFn := F_law_made_ex.choose
theorem F_law_made_eq : F_law_made = mkD0 1 2 S_law_made := F_law_made_ex.choose_spec
def S_law_many : DSt := (sRet (eLst (eCons (eC (.int 4)) (eCons (eC (.int 2)) (eCons (eC (.int 3)) (eCons (eC (.int 2)) (eCons (eC (.int 2)) (eCons (eC (.int 2)) (eCons (eC (.int 5)) (eCons (eC (.int 2)) (eCons (eC (.int 3)) (eCons (eC (.int 3)) (eCons (eC (.int 2)) (eCons (eC (.int 2)) (eCons (eC (.int 2)) (eCons (eC (.int 5)) eNil))))))))))))))))
theorem F_law_many_ex : ∃ x : DFn, x = mkD0 0 0 S_law_many := ⟨_, rfl⟩
noncomputable def F_law_many : DFn := F_law_many_ex.choose
theorem F_law_many_eq : F_law_many = mkD0 0 0 S_law_many := F_law_many_ex.choose_spec
def S_law_is_kind : DSt := (sSeq (sOwn 1 (eLst eNil))
    (sSeq (sApp 1 (eIsI tabI_NearPair (eOp dIx (eVarB 0) (eC (.int 0)))))
    (sSeq (sApp 1 (eIsI tabI_Thinned (eOp dIx (eVarB 0) (eC (.int 1)))))
    (sSeq (sApp 1 (eIsI tabI_MixClash (eOp dIx (eVarB 0) (eC (.int 2)))))
    (sSeq (sApp 1 (eIsI tabI_Uneven (eOp dIx (eVarB 0) (eC (.int 3)))))
    (sSeq (sApp 1 (eIsI tabI_Read (eOp dIx (eVarB 0) (eC (.int 4)))))
    (sSeq (sApp 1 (eIsI tabI_TooClose (eOp dIx (eVarB 0) (eC (.int 5)))))
    (sSeq (sApp 1 (eIsI tabI_RunPair (eOp dIx (eVarB 0) (eC (.int 6)))))
    (sSeq (sApp 1 (eIsI tabI_SumsClash (eOp dIx (eVarB 0) (eC (.int 7)))))
    (sSeq (sApp 1 (eIsI tabI_Web (eOp dIx (eVarB 0) (eC (.int 8)))))
    (sSeq (sApp 1 (eIsI tabI_Told (eOp dIx (eVarB 0) (eC (.int 9)))))
    (sSeq (sApp 1 (eIsI tabI_Clash (eOp dIx (eVarB 0) (eC (.int 10)))))
    (sSeq (sApp 1 (eIsI tabI_TwoCuts (eOp dIx (eVarB 0) (eC (.int 11)))))
    (sSeq (sApp 1 (eIsI tabI_Best (eOp dIx (eVarB 0) (eC (.int 12)))))
    (sSeq (sApp 1 (eIsI tabI_Tried (eOp dIx (eVarB 0) (eC (.int 13)))))
    (sFrz 1 (sRet (eVar 1))))))))))))))))))
theorem F_law_is_kind_ex : ∃ x : DFn, x = mkD0 1 2 S_law_is_kind := ⟨_, rfl⟩
noncomputable def F_law_is_kind : DFn := F_law_is_kind_ex.choose
theorem F_law_is_kind_eq : F_law_is_kind = mkD0 1 2 S_law_is_kind := F_law_is_kind_ex.choose_spec
theorem S_law_kept_r30_ex : ∃ x : DSt, x = (sFrz 1 (sRet (eVar 1))) := ⟨_, rfl⟩
noncomputable def S_law_kept_r30 : DSt := S_law_kept_r30_ex.choose
theorem S_law_kept_r30_eq : S_law_kept_r30 = (sFrz 1 (sRet (eVar 1))) := S_law_kept_r30_ex.choose_spec
theorem S_law_kept_r29_ex : ∃ x : DSt, x = (sSeq (sApp 1 (eLst (eCons (eFld ftab "many" (eVarB 2)) (eCons (eFld ftab "borne" (eVarB 2)) (eCons (eFld ftab "runs" (eVarB 2)) (eCons (eFld ftab "told" (eVarB 2)) (eCons (eFld ftab "met" (eVarB 2)) eNil)))))))
    S_law_kept_r30) := ⟨_, rfl⟩
noncomputable def S_law_kept_r29 : DSt := S_law_kept_r29_ex.choose
theorem S_law_kept_r29_eq : S_law_kept_r29 = (sSeq (sApp 1 (eLst (eCons (eFld ftab "many" (eVarB 2)) (eCons (eFld ftab "borne" (eVarB 2)) (eCons (eFld ftab "runs" (eVarB 2)) (eCons (eFld ftab "told" (eVarB 2)) (eCons (eFld ftab "met" (eVarB 2)) eNil)))))))
    S_law_kept_r30) := S_law_kept_r29_ex.choose_spec
theorem S_law_kept_r28_ex : ∃ x : DSt, x = (sSeq (sAsg (eOp dIx (eVarB 0) (eC (.int 13))) (gD 2))
    S_law_kept_r29) := ⟨_, rfl⟩
noncomputable def S_law_kept_r28 : DSt := S_law_kept_r28_ex.choose
theorem S_law_kept_r28_eq : S_law_kept_r28 = (sSeq (sAsg (eOp dIx (eVarB 0) (eC (.int 13))) (gD 2))
    S_law_kept_r29) := S_law_kept_r28_ex.choose_spec
theorem S_law_kept_r27_ex : ∃ x : DSt, x = (sSeq (sApp 1 (eLst (eCons (eFld ftab "number" (eVarB 2)) (eCons (eFld ftab "book" (eVarB 2)) eNil))))
    S_law_kept_r28) := ⟨_, rfl⟩
noncomputable def S_law_kept_r27 : DSt := S_law_kept_r27_ex.choose
theorem S_law_kept_r27_eq : S_law_kept_r27 = (sSeq (sApp 1 (eLst (eCons (eFld ftab "number" (eVarB 2)) (eCons (eFld ftab "book" (eVarB 2)) eNil))))
    S_law_kept_r28) := S_law_kept_r27_ex.choose_spec
theorem S_law_kept_r26_ex : ∃ x : DSt, x = (sSeq (sAsg (eOp dIx (eVarB 0) (eC (.int 12))) (gD 2))
    S_law_kept_r27) := ⟨_, rfl⟩
noncomputable def S_law_kept_r26 : DSt := S_law_kept_r26_ex.choose
theorem S_law_kept_r26_eq : S_law_kept_r26 = (sSeq (sAsg (eOp dIx (eVarB 0) (eC (.int 12))) (gD 2))
    S_law_kept_r27) := S_law_kept_r26_ex.choose_spec
theorem S_law_kept_r25_ex : ∃ x : DSt, x = (sSeq (sApp 1 (eLst (eCons (eFld ftab "first" (eVarB 2)) (eCons (eFld ftab "second" (eVarB 2)) eNil))))
    S_law_kept_r26) := ⟨_, rfl⟩
noncomputable def S_law_kept_r25 : DSt := S_law_kept_r25_ex.choose
theorem S_law_kept_r25_eq : S_law_kept_r25 = (sSeq (sApp 1 (eLst (eCons (eFld ftab "first" (eVarB 2)) (eCons (eFld ftab "second" (eVarB 2)) eNil))))
    S_law_kept_r26) := S_law_kept_r25_ex.choose_spec
theorem S_law_kept_r24_ex : ∃ x : DSt, x = (sSeq (sAsg (eOp dIx (eVarB 0) (eC (.int 11))) (gD 2))
    S_law_kept_r25) := ⟨_, rfl⟩
noncomputable def S_law_kept_r24 : DSt := S_law_kept_r24_ex.choose
theorem S_law_kept_r24_eq : S_law_kept_r24 = (sSeq (sAsg (eOp dIx (eVarB 0) (eC (.int 11))) (gD 2))
    S_law_kept_r25) := S_law_kept_r24_ex.choose_spec
theorem S_law_kept_r23_ex : ∃ x : DSt, x = (sSeq (sApp 1 (eLst (eCons (eFld ftab "first" (eVarB 2)) (eCons (eFld ftab "second" (eVarB 2)) eNil))))
    S_law_kept_r24) := ⟨_, rfl⟩
noncomputable def S_law_kept_r23 : DSt := S_law_kept_r23_ex.choose
theorem S_law_kept_r23_eq : S_law_kept_r23 = (sSeq (sApp 1 (eLst (eCons (eFld ftab "first" (eVarB 2)) (eCons (eFld ftab "second" (eVarB 2)) eNil))))
    S_law_kept_r24) := S_law_kept_r23_ex.choose_spec
theorem S_law_kept_r22_ex : ∃ x : DSt, x = (sSeq (sAsg (eOp dIx (eVarB 0) (eC (.int 10))) (gD 2))
    S_law_kept_r23) := ⟨_, rfl⟩
noncomputable def S_law_kept_r22 : DSt := S_law_kept_r22_ex.choose
theorem S_law_kept_r22_eq : S_law_kept_r22 = (sSeq (sAsg (eOp dIx (eVarB 0) (eC (.int 10))) (gD 2))
    S_law_kept_r23) := S_law_kept_r22_ex.choose_spec
theorem S_law_kept_r21_ex : ∃ x : DSt, x = (sSeq (sApp 1 (eLst (eCons (eFld ftab "wait" (eVarB 2)) (eCons (eFld ftab "first" (eVarB 2)) (eCons (eFld ftab "second" (eVarB 2)) eNil)))))
    S_law_kept_r22) := ⟨_, rfl⟩
noncomputable def S_law_kept_r21 : DSt := S_law_kept_r21_ex.choose
theorem S_law_kept_r21_eq : S_law_kept_r21 = (sSeq (sApp 1 (eLst (eCons (eFld ftab "wait" (eVarB 2)) (eCons (eFld ftab "first" (eVarB 2)) (eCons (eFld ftab "second" (eVarB 2)) eNil)))))
    S_law_kept_r22) := S_law_kept_r21_ex.choose_spec
theorem S_law_kept_r20_ex : ∃ x : DSt, x = (sSeq (sAsg (eOp dIx (eVarB 0) (eC (.int 9))) (gD 2))
    S_law_kept_r21) := ⟨_, rfl⟩
noncomputable def S_law_kept_r20 : DSt := S_law_kept_r20_ex.choose
theorem S_law_kept_r20_eq : S_law_kept_r20 = (sSeq (sAsg (eOp dIx (eVarB 0) (eC (.int 9))) (gD 2))
    S_law_kept_r21) := S_law_kept_r20_ex.choose_spec
theorem S_law_kept_r19_ex : ∃ x : DSt, x = (sSeq (sApp 1 (eLst (eCons (eFld ftab "starts" (eVarB 2)) (eCons (eFld ftab "rests" (eVarB 2)) (eCons (eFld ftab "steps" (eVarB 2)) eNil)))))
    S_law_kept_r20) := ⟨_, rfl⟩
noncomputable def S_law_kept_r19 : DSt := S_law_kept_r19_ex.choose
theorem S_law_kept_r19_eq : S_law_kept_r19 = (sSeq (sApp 1 (eLst (eCons (eFld ftab "starts" (eVarB 2)) (eCons (eFld ftab "rests" (eVarB 2)) (eCons (eFld ftab "steps" (eVarB 2)) eNil)))))
    S_law_kept_r20) := S_law_kept_r19_ex.choose_spec
theorem S_law_kept_r18_ex : ∃ x : DSt, x = (sSeq (sAsg (eOp dIx (eVarB 0) (eC (.int 8))) (gD 2))
    S_law_kept_r19) := ⟨_, rfl⟩
noncomputable def S_law_kept_r18 : DSt := S_law_kept_r18_ex.choose
theorem S_law_kept_r18_eq : S_law_kept_r18 = (sSeq (sAsg (eOp dIx (eVarB 0) (eC (.int 8))) (gD 2))
    S_law_kept_r19) := S_law_kept_r18_ex.choose_spec
theorem S_law_kept_r17_ex : ∃ x : DSt, x = (sSeq (sApp 1 (eLst (eCons (eFld ftab "one" (eVarB 2)) (eCons (eFld ftab "other" (eVarB 2)) eNil))))
    S_law_kept_r18) := ⟨_, rfl⟩
noncomputable def S_law_kept_r17 : DSt := S_law_kept_r17_ex.choose
theorem S_law_kept_r17_eq : S_law_kept_r17 = (sSeq (sApp 1 (eLst (eCons (eFld ftab "one" (eVarB 2)) (eCons (eFld ftab "other" (eVarB 2)) eNil))))
    S_law_kept_r18) := S_law_kept_r17_ex.choose_spec
theorem S_law_kept_r16_ex : ∃ x : DSt, x = (sSeq (sAsg (eOp dIx (eVarB 0) (eC (.int 7))) (gD 2))
    S_law_kept_r17) := ⟨_, rfl⟩
noncomputable def S_law_kept_r16 : DSt := S_law_kept_r16_ex.choose
theorem S_law_kept_r16_eq : S_law_kept_r16 = (sSeq (sAsg (eOp dIx (eVarB 0) (eC (.int 7))) (gD 2))
    S_law_kept_r17) := S_law_kept_r16_ex.choose_spec
theorem S_law_kept_r15_ex : ∃ x : DSt, x = (sSeq (sApp 1 (eLst (eCons (eFld ftab "one" (eVarB 2)) (eCons (eFld ftab "other" (eVarB 2)) (eCons (eFld ftab "apart" (eVarB 2)) (eCons (eFld ftab "longer" (eVarB 2)) (eCons (eFld ftab "shorter" (eVarB 2)) eNil)))))))
    S_law_kept_r16) := ⟨_, rfl⟩
noncomputable def S_law_kept_r15 : DSt := S_law_kept_r15_ex.choose
theorem S_law_kept_r15_eq : S_law_kept_r15 = (sSeq (sApp 1 (eLst (eCons (eFld ftab "one" (eVarB 2)) (eCons (eFld ftab "other" (eVarB 2)) (eCons (eFld ftab "apart" (eVarB 2)) (eCons (eFld ftab "longer" (eVarB 2)) (eCons (eFld ftab "shorter" (eVarB 2)) eNil)))))))
    S_law_kept_r16) := S_law_kept_r15_ex.choose_spec
theorem S_law_kept_r14_ex : ∃ x : DSt, x = (sSeq (sAsg (eOp dIx (eVarB 0) (eC (.int 6))) (gD 2))
    S_law_kept_r15) := ⟨_, rfl⟩
noncomputable def S_law_kept_r14 : DSt := S_law_kept_r14_ex.choose
theorem S_law_kept_r14_eq : S_law_kept_r14 = (sSeq (sAsg (eOp dIx (eVarB 0) (eC (.int 6))) (gD 2))
    S_law_kept_r15) := S_law_kept_r14_ex.choose_spec
theorem S_law_kept_r13_ex : ∃ x : DSt, x = (sSeq (sApp 1 (eLst (eCons (eFld ftab "one" (eVarB 2)) (eCons (eFld ftab "other" (eVarB 2)) eNil))))
    S_law_kept_r14) := ⟨_, rfl⟩
noncomputable def S_law_kept_r13 : DSt := S_law_kept_r13_ex.choose
theorem S_law_kept_r13_eq : S_law_kept_r13 = (sSeq (sApp 1 (eLst (eCons (eFld ftab "one" (eVarB 2)) (eCons (eFld ftab "other" (eVarB 2)) eNil))))
    S_law_kept_r14) := S_law_kept_r13_ex.choose_spec
theorem S_law_kept_r12_ex : ∃ x : DSt, x = (sSeq (sAsg (eOp dIx (eVarB 0) (eC (.int 5))) (gD 2))
    S_law_kept_r13) := ⟨_, rfl⟩
noncomputable def S_law_kept_r12 : DSt := S_law_kept_r12_ex.choose
theorem S_law_kept_r12_eq : S_law_kept_r12 = (sSeq (sAsg (eOp dIx (eVarB 0) (eC (.int 5))) (gD 2))
    S_law_kept_r13) := S_law_kept_r12_ex.choose_spec
theorem S_law_kept_r11_ex : ∃ x : DSt, x = (sSeq (sApp 1 (eLst (eCons (eFld ftab "what" (eVarB 2)) (eCons (eFld ftab "member" (eVarB 2)) eNil))))
    S_law_kept_r12) := ⟨_, rfl⟩
noncomputable def S_law_kept_r11 : DSt := S_law_kept_r11_ex.choose
theorem S_law_kept_r11_eq : S_law_kept_r11 = (sSeq (sApp 1 (eLst (eCons (eFld ftab "what" (eVarB 2)) (eCons (eFld ftab "member" (eVarB 2)) eNil))))
    S_law_kept_r12) := S_law_kept_r11_ex.choose_spec
theorem S_law_kept_r10_ex : ∃ x : DSt, x = (sSeq (sAsg (eOp dIx (eVarB 0) (eC (.int 4))) (gD 2))
    S_law_kept_r11) := ⟨_, rfl⟩
noncomputable def S_law_kept_r10 : DSt := S_law_kept_r10_ex.choose
theorem S_law_kept_r10_eq : S_law_kept_r10 = (sSeq (sAsg (eOp dIx (eVarB 0) (eC (.int 4))) (gD 2))
    S_law_kept_r11) := S_law_kept_r10_ex.choose_spec
theorem S_law_kept_r9_ex : ∃ x : DSt, x = (sSeq (sApp 1 (eLst (eCons (eFld ftab "word" (eVarB 2)) (eCons (eFld ftab "above" (eVarB 2)) eNil))))
    S_law_kept_r10) := ⟨_, rfl⟩
noncomputable def S_law_kept_r9 : DSt := S_law_kept_r9_ex.choose
theorem S_law_kept_r9_eq : S_law_kept_r9 = (sSeq (sApp 1 (eLst (eCons (eFld ftab "word" (eVarB 2)) (eCons (eFld ftab "above" (eVarB 2)) eNil))))
    S_law_kept_r10) := S_law_kept_r9_ex.choose_spec
theorem S_law_kept_r8_ex : ∃ x : DSt, x = (sSeq (sAsg (eOp dIx (eVarB 0) (eC (.int 3))) (gD 2))
    S_law_kept_r9) := ⟨_, rfl⟩
noncomputable def S_law_kept_r8 : DSt := S_law_kept_r8_ex.choose
theorem S_law_kept_r8_eq : S_law_kept_r8 = (sSeq (sAsg (eOp dIx (eVarB 0) (eC (.int 3))) (gD 2))
    S_law_kept_r9) := S_law_kept_r8_ex.choose_spec
theorem S_law_kept_r7_ex : ∃ x : DSt, x = (sSeq (sApp 1 (eLst (eCons (eFld ftab "one" (eVarB 2)) (eCons (eFld ftab "other" (eVarB 2)) (eCons (eFld ftab "word" (eVarB 2)) eNil)))))
    S_law_kept_r8) := ⟨_, rfl⟩
noncomputable def S_law_kept_r7 : DSt := S_law_kept_r7_ex.choose
theorem S_law_kept_r7_eq : S_law_kept_r7 = (sSeq (sApp 1 (eLst (eCons (eFld ftab "one" (eVarB 2)) (eCons (eFld ftab "other" (eVarB 2)) (eCons (eFld ftab "word" (eVarB 2)) eNil)))))
    S_law_kept_r8) := S_law_kept_r7_ex.choose_spec
theorem S_law_kept_r6_ex : ∃ x : DSt, x = (sSeq (sAsg (eOp dIx (eVarB 0) (eC (.int 2))) (gD 2))
    S_law_kept_r7) := ⟨_, rfl⟩
noncomputable def S_law_kept_r6 : DSt := S_law_kept_r6_ex.choose
theorem S_law_kept_r6_eq : S_law_kept_r6 = (sSeq (sAsg (eOp dIx (eVarB 0) (eC (.int 2))) (gD 2))
    S_law_kept_r7) := S_law_kept_r6_ex.choose_spec
theorem S_law_kept_r5_ex : ∃ x : DSt, x = (sSeq (sApp 1 (eLst (eCons (eFld ftab "book" (eVarB 2)) (eCons (eFld ftab "rows" (eVarB 2)) eNil))))
    S_law_kept_r6) := ⟨_, rfl⟩
noncomputable def S_law_kept_r5 : DSt := S_law_kept_r5_ex.choose
theorem S_law_kept_r5_eq : S_law_kept_r5 = (sSeq (sApp 1 (eLst (eCons (eFld ftab "book" (eVarB 2)) (eCons (eFld ftab "rows" (eVarB 2)) eNil))))
    S_law_kept_r6) := S_law_kept_r5_ex.choose_spec
theorem S_law_kept_r4_ex : ∃ x : DSt, x = (sSeq (sAsg (eOp dIx (eVarB 0) (eC (.int 1))) (gD 2))
    S_law_kept_r5) := ⟨_, rfl⟩
noncomputable def S_law_kept_r4 : DSt := S_law_kept_r4_ex.choose
theorem S_law_kept_r4_eq : S_law_kept_r4 = (sSeq (sAsg (eOp dIx (eVarB 0) (eC (.int 1))) (gD 2))
    S_law_kept_r5) := S_law_kept_r4_ex.choose_spec
theorem S_law_kept_r3_ex : ∃ x : DSt, x = (sSeq (sApp 1 (eLst (eCons (eFld ftab "one" (eVarB 2)) (eCons (eFld ftab "other" (eVarB 2)) (eCons (eFld ftab "below" (eVarB 2)) (eCons (eFld ftab "above" (eVarB 2)) eNil))))))
    S_law_kept_r4) := ⟨_, rfl⟩
noncomputable def S_law_kept_r3 : DSt := S_law_kept_r3_ex.choose
theorem S_law_kept_r3_eq : S_law_kept_r3 = (sSeq (sApp 1 (eLst (eCons (eFld ftab "one" (eVarB 2)) (eCons (eFld ftab "other" (eVarB 2)) (eCons (eFld ftab "below" (eVarB 2)) (eCons (eFld ftab "above" (eVarB 2)) eNil))))))
    S_law_kept_r4) := S_law_kept_r3_ex.choose_spec
theorem S_law_kept_r2_ex : ∃ x : DSt, x = (sSeq (sAsg (eOp dIx (eVarB 0) (eC (.int 0))) (gD 2))
    S_law_kept_r3) := ⟨_, rfl⟩
noncomputable def S_law_kept_r2 : DSt := S_law_kept_r2_ex.choose
theorem S_law_kept_r2_eq : S_law_kept_r2 = (sSeq (sAsg (eOp dIx (eVarB 0) (eC (.int 0))) (gD 2))
    S_law_kept_r3) := S_law_kept_r2_ex.choose_spec
def S_law_kept : DSt := (sSeq (sOwn 1 (eLst eNil))
    S_law_kept_r2)
theorem F_law_kept_ex : ∃ x : DFn, x = mkD0 1 3 S_law_kept := ⟨_, rfl⟩
noncomputable def F_law_kept : DFn := F_law_kept_ex.choose
theorem F_law_kept_eq : F_law_kept = mkD0 1 3 S_law_kept := F_law_kept_ex.choose_spec
theorem S_law_b14_ex : ∃ x : DSt, x = (sIf (eOrT (eTest (eOp (dEqB tabE tabC) (eOp dIx (eVarB 3) (eVarB 6)) (eVar 7))) (eTest (eOp (dEqB tabE tabC) (eVar 7) (eOp dIx (eVarB 3) (eVarB 6)))))
    (sRet (eC (.bl false)))
    sNext) := ⟨_, rfl⟩
noncomputable def S_law_b14 : DSt := S_law_b14_ex.choose
theorem S_law_b14_eq : S_law_b14 = (sIf (eOrT (eTest (eOp (dEqB tabE tabC) (eOp dIx (eVarB 3) (eVarB 6)) (eVar 7))) (eTest (eOp (dEqB tabE tabC) (eVar 7) (eOp dIx (eVarB 3) (eVarB 6)))))
    (sRet (eC (.bl false)))
    sNext) := S_law_b14_ex.choose_spec
theorem S_law_b17_ex : ∃ x : DSt, x = (sIf (eAndT (eTest (eOp dNe (eVarB 8) (eVarB 6))) (eTest (eOp (dEqB tabE tabC) (eOp dIx (eVarB 3) (eVarB 6)) (eOp dIx (eVarB 3) (eVarB 8)))))
    (sRet (eC (.bl false)))
    sNext) := ⟨_, rfl⟩
noncomputable def S_law_b17 : DSt := S_law_b17_ex.choose
theorem S_law_b17_eq : S_law_b17 = (sIf (eAndT (eTest (eOp dNe (eVarB 8) (eVarB 6))) (eTest (eOp (dEqB tabE tabC) (eOp dIx (eVarB 3) (eVarB 6)) (eOp dIx (eVarB 3) (eVarB 8)))))
    (sRet (eC (.bl false)))
    sNext) := S_law_b17_ex.choose_spec
theorem S_law_r16_ex : ∃ x : DSt, x = (sFor (eRng1 (eCons (eCB dLen (eCons (eVarB 3) eNil)) eNil)) (gD 8)
    S_law_b17) := ⟨_, rfl⟩
noncomputable def S_law_r16 : DSt := S_law_r16_ex.choose
theorem S_law_r16_eq : S_law_r16 = (sFor (eRng1 (eCons (eCB dLen (eCons (eVarB 3) eNil)) eNil)) (gD 8)
    S_law_b17) := S_law_r16_ex.choose_spec
theorem S_law_r13_ex : ∃ x : DSt, x = (sSeq (sFor (eSeq (eTup (eCons (eC .non) (eCons (eCB dTupOf (eCons (eSl dSl (eVarB 2) eNoPart (ePart (eOp dIx (eVarB 5) (eVarB 6)))) eNil)) (eCons (eSl dSl (eVarB 2) eNoPart (ePart (eOp dIx (eVarB 5) (eVarB 6)))) (eCons (eC (.int 0)) (eCons (eC (.str "")) (eCons (eOp dIx (eVarB 2) (eC (.int 0))) eNil)))))))) (gD 7)
    S_law_b14)
    S_law_r16) := ⟨_, rfl⟩
noncomputable def S_law_r13 : DSt := S_law_r13_ex.choose
theorem S_law_r13_eq : S_law_r13 = (sSeq (sFor (eSeq (eTup (eCons (eC .non) (eCons (eCB dTupOf (eCons (eSl dSl (eVarB 2) eNoPart (ePart (eOp dIx (eVarB 5) (eVarB 6)))) eNil)) (eCons (eSl dSl (eVarB 2) eNoPart (ePart (eOp dIx (eVarB 5) (eVarB 6)))) (eCons (eC (.int 0)) (eCons (eC (.str "")) (eCons (eOp dIx (eVarB 2) (eC (.int 0))) eNil)))))))) (gD 7)
    S_law_b14)
    S_law_r16) := S_law_r13_ex.choose_spec
theorem S_law_b11_ex : ∃ x : DSt, x = (sSeq (sIf (eOrT (eNotT (eTest (eOp (dEqB tabE tabC) (eOp dIx (eVarB 3) (eVarB 6)) (eOp dIx (eVarB 4) (eVarB 6))))) (eNotT (eTest (eOp (dEqB tabE tabC) (eOp dIx (eVarB 4) (eVarB 6)) (eOp dIx (eVarB 3) (eVarB 6))))))
    (sRet (eC (.bl false)))
    sNext)
    S_law_r13) := ⟨_, rfl⟩
noncomputable def S_law_b11 : DSt := S_law_b11_ex.choose
theorem S_law_b11_eq : S_law_b11 = (sSeq (sIf (eOrT (eNotT (eTest (eOp (dEqB tabE tabC) (eOp dIx (eVarB 3) (eVarB 6)) (eOp dIx (eVarB 4) (eVarB 6))))) (eNotT (eTest (eOp (dEqB tabE tabC) (eOp dIx (eVarB 4) (eVarB 6)) (eOp dIx (eVarB 3) (eVarB 6))))))
    (sRet (eC (.bl false)))
    sNext)
    S_law_r13) := S_law_b11_ex.choose_spec
theorem S_law_b22_ex : ∃ x : DSt, x = (sIf (eOrT (eAndT (eTest (eOp dLt (eVarB 9) (eOp dIx (eVarB 5) (eVarB 6)))) (eOrT (eTest (eOp (dEqB tabE tabC) (eOp dIx (eVarB 3) (eVarB 6)) (eOp dIx (eVarB 10) (eVarB 6)))) (eTest (eOp (dEqB tabE tabC) (eOp dIx (eVarB 10) (eVarB 6)) (eOp dIx (eVarB 3) (eVarB 6)))))) (eAndT (eTest (eOp dGe (eVarB 9) (eOp dIx (eVarB 5) (eVarB 6)))) (eNotT (eTest (eOp (dEqB tabE tabC) (eOp dIx (eVarB 3) (eVarB 6)) (eOp dIx (eVarB 10) (eVarB 6)))))))
    (sRet (eC (.bl false)))
    sNext) := ⟨_, rfl⟩
noncomputable def S_law_b22 : DSt := S_law_b22_ex.choose
theorem S_law_b22_eq : S_law_b22 = (sIf (eOrT (eAndT (eTest (eOp dLt (eVarB 9) (eOp dIx (eVarB 5) (eVarB 6)))) (eOrT (eTest (eOp (dEqB tabE tabC) (eOp dIx (eVarB 3) (eVarB 6)) (eOp dIx (eVarB 10) (eVarB 6)))) (eTest (eOp (dEqB tabE tabC) (eOp dIx (eVarB 10) (eVarB 6)) (eOp dIx (eVarB 3) (eVarB 6)))))) (eAndT (eTest (eOp dGe (eVarB 9) (eOp dIx (eVarB 5) (eVarB 6)))) (eNotT (eTest (eOp (dEqB tabE tabC) (eOp dIx (eVarB 3) (eVarB 6)) (eOp dIx (eVarB 10) (eVarB 6)))))))
    (sRet (eC (.bl false)))
    sNext) := S_law_b22_ex.choose_spec
theorem S_law_r21_ex : ∃ x : DSt, x = (sFor (eRng1 (eCons (eCB dLen (eCons (eVarB 3) eNil)) eNil)) (gD 6)
    S_law_b22) := ⟨_, rfl⟩
noncomputable def S_law_r21 : DSt := S_law_r21_ex.choose
theorem S_law_r21_eq : S_law_r21 = (sFor (eRng1 (eCons (eCB dLen (eCons (eVarB 3) eNil)) eNil)) (gD 6)
    S_law_b22) := S_law_r21_ex.choose_spec
theorem S_law_b20_ex : ∃ x : DSt, x = (sSeq (sAsg (eCall0 F_law_made [] (eConsS (eOp dAdd (eOp dAdd (eSl dSl (eVarB 2) eNoPart (ePart (eVar 9))) (eLst (eCons (eTup (eCons (eOp dIx (eVarB 2) (eVarB 9)) (eCons (eC (.int 7)) eNil))) eNil))) (eSl dSl (eVarB 2) (ePart (eOp dAdd (eVarB 9) (eC (.int 1)))) eNoPart)) eNil)) (gD 10))
    S_law_r21) := ⟨_, rfl⟩
noncomputable def S_law_b20 : DSt := S_law_b20_ex.choose
theorem S_law_b20_eq : S_law_b20 = (sSeq (sAsg (eCall0 F_law_made [] (eConsS (eOp dAdd (eOp dAdd (eSl dSl (eVarB 2) eNoPart (ePart (eVar 9))) (eLst (eCons (eTup (eCons (eOp dIx (eVarB 2) (eVarB 9)) (eCons (eC (.int 7)) eNil))) eNil))) (eSl dSl (eVarB 2) (ePart (eOp dAdd (eVarB 9) (eC (.int 1)))) eNoPart)) eNil)) (gD 10))
    S_law_r21) := S_law_b20_ex.choose_spec
theorem S_law_r24_ex : ∃ x : DSt, x = (sRet (eOp (dEqB tabE tabC) (eCall0 F_law_kept [] (eConsS (eVar 3) eNil)) (eLc (eSeq (eVarB 5)) (gD 6) eYes (eSl dSl (eVarB 2) eNoPart (ePart (eVar 6))) [6]))) := ⟨_, rfl⟩
noncomputable def S_law_r24 : DSt := S_law_r24_ex.choose
theorem S_law_r24_eq : S_law_r24 = (sRet (eOp (dEqB tabE tabC) (eCall0 F_law_kept [] (eConsS (eVar 3) eNil)) (eLc (eSeq (eVarB 5)) (gD 6) eYes (eSl dSl (eVarB 2) eNoPart (ePart (eVar 6))) [6]))) := S_law_r24_ex.choose_spec
theorem S_law_r19_ex : ∃ x : DSt, x = (sSeq (sFor (eRng1 (eCons (eC (.int 5)) eNil)) (gD 9)
    S_law_b20)
    S_law_r24) := ⟨_, rfl⟩
noncomputable def S_law_r19 : DSt := S_law_r19_ex.choose
theorem S_law_r19_eq : S_law_r19 = (sSeq (sFor (eRng1 (eCons (eC (.int 5)) eNil)) (gD 9)
    S_law_b20)
    S_law_r24) := S_law_r19_ex.choose_spec
theorem S_law_r10_ex : ∃ x : DSt, x = (sSeq (sFor (eRng1 (eCons (eCB dLen (eCons (eVarB 3) eNil)) eNil)) (gD 6)
    S_law_b11)
    S_law_r19) := ⟨_, rfl⟩
noncomputable def S_law_r10 : DSt := S_law_r10_ex.choose
theorem S_law_r10_eq : S_law_r10 = (sSeq (sFor (eRng1 (eCons (eCB dLen (eCons (eVarB 3) eNil)) eNil)) (gD 6)
    S_law_b11)
    S_law_r19) := S_law_r10_ex.choose_spec
theorem S_law_r8_ex : ∃ x : DSt, x = (sSeq (sIf (eOrT (eTest (eOp dNe (eCall0 F_law_kept [] (eConsS (eVar 3) eNil)) (eLc (eSeq (eVarB 5)) (gD 6) eYes (eSl dSl (eVarB 2) eNoPart (ePart (eVar 6))) [6]))) (eTest (eOp dIn (eC (.bl false)) (eCall0 F_law_is_kind [] (eConsS (eVar 3) eNil)))))
    (sRet (eC (.bl false)))
    sNext)
    S_law_r10) := ⟨_, rfl⟩
noncomputable def S_law_r8 : DSt := S_law_r8_ex.choose
theorem S_law_r8_eq : S_law_r8 = (sSeq (sIf (eOrT (eTest (eOp dNe (eCall0 F_law_kept [] (eConsS (eVar 3) eNil)) (eLc (eSeq (eVarB 5)) (gD 6) eYes (eSl dSl (eVarB 2) eNoPart (ePart (eVar 6))) [6]))) (eTest (eOp dIn (eC (.bl false)) (eCall0 F_law_is_kind [] (eConsS (eVar 3) eNil)))))
    (sRet (eC (.bl false)))
    sNext)
    S_law_r10) := S_law_r8_ex.choose_spec
theorem S_law_r7_ex : ∃ x : DSt, x = (sSeq (sAsg (eCall0 F_law_many [] eNil) (gD 5))
    S_law_r8) := ⟨_, rfl⟩
noncomputable def S_law_r7 : DSt := S_law_r7_ex.choose
theorem S_law_r7_eq : S_law_r7 = (sSeq (sAsg (eCall0 F_law_many [] eNil) (gD 5))
    S_law_r8) := S_law_r7_ex.choose_spec
theorem S_law_r6_ex : ∃ x : DSt, x = (sSeq (sAsg (eCall0 F_law_made [] (eConsS (eCB dLstOf (eCons (eVarB 2) eNil)) eNil)) (gD 4))
    S_law_r7) := ⟨_, rfl⟩
noncomputable def S_law_r6 : DSt := S_law_r6_ex.choose
theorem S_law_r6_eq : S_law_r6 = (sSeq (sAsg (eCall0 F_law_made [] (eConsS (eCB dLstOf (eCons (eVarB 2) eNil)) eNil)) (gD 4))
    S_law_r7) := S_law_r6_ex.choose_spec
theorem S_law_r5_ex : ∃ x : DSt, x = (sSeq (sAsg (eCall0 F_law_made [] (eConsS (eVar 2) eNil)) (gD 3))
    S_law_r6) := ⟨_, rfl⟩
noncomputable def S_law_r5 : DSt := S_law_r5_ex.choose
theorem S_law_r5_eq : S_law_r5 = (sSeq (sAsg (eCall0 F_law_made [] (eConsS (eVar 2) eNil)) (gD 3))
    S_law_r6) := S_law_r5_ex.choose_spec
theorem S_law_r3_ex : ∃ x : DSt, x = (sSeq (sIf (eTest (eOp (dEqB tabE tabC) (eCall0 F_law_take [] (eConsH 1 (eConsS (eC (.int 3)) eNil))) (eC (.int 0))))
    (sAsg (eOp dMul (eLst (eCons (eOp dIx (eVarB 2) (eC (.int 0))) eNil)) (eC (.int 5))) (gD 2))
    sNext)
    S_law_r5) := ⟨_, rfl⟩
noncomputable def S_law_r3 : DSt := S_law_r3_ex.choose
theorem S_law_r3_eq : S_law_r3 = (sSeq (sIf (eTest (eOp (dEqB tabE tabC) (eCall0 F_law_take [] (eConsH 1 (eConsS (eC (.int 3)) eNil))) (eC (.int 0))))
    (sAsg (eOp dMul (eLst (eCons (eOp dIx (eVarB 2) (eC (.int 0))) eNil)) (eC (.int 5))) (gD 2))
    sNext)
    S_law_r5) := S_law_r3_ex.choose_spec
def S_law : DSt := (sSeq (sAsg (eLc (eRng1 (eCons (eC (.int 5)) eNil)) (gD 6) eYes (eCall0 F_law_part [] (eConsH 1 eNil)) [6]) (gD 2))
    S_law_r3)
abbrev Goal : Prop := LawGoal 9 S_law
end Mine

namespace Mine
open PySem PySem.Spec PyProof.Rows L2
local macro_rules | `(tactic| walk_at "wp") => `(tactic| try simp -implicitDefEqProofs only [eFld_W, eFldS_W, sSetF_W, eMeth_W, eMeth0_W, eProp_W, mkI_W, mkI0_W, eVarD_W, eDic_W, eGet1_W, eGet2_W, eAtD_W, eInD_W, eNotInD_W, sOwnD_W, sPutD_W, Bool.false_eq_true, LINE_W, line0, line1, line2, line3, line4, line5, line6, line7, line8, line9, line10, line11, line12, take_W, Int.reduceLT, Int.reduceLE, Int.reduceNeg, mkD_W, mkD0_W, sSeq_W, sAsg_W, sRet_W, sRetN_W, sIf_W, sNext_W, sDrop_W, sBreak_W, sCont_W, sOwn_W, sPar_W, sPar3_W, sFrz_W, frz_W, fz_lst, fz_dk, fz_dt, sApp_W, sExt_W, sPop_W, sPopTo_W, sPut_W, sAugP_W, sAug_W, sFor_W, sRaise_W, sRaise1_W, gD_W, gD2_W, gD3_W, eVar_W, eVarB_W, eC_W, eOp_W, eUn_W, eCB_W, eNil_W, eCons_W, eConsS_W, eConsH_W, eTup_W, eLst_W, eCall_W, eCall0_W, eTest_W, eNotT_W, eAndT_W, eOrT_W, eTru_W, dTru_non, dTru_bl, dTru_int, dTru_lst, dTru_tup, dTru_str, dTru_dk, eBool_W, eAndV_W, eOrV_W, eNotV_W, eNotVT_W, eIf_W, eChain_W, eLc_W, eLc2_W, eYes_W, eSeq_W, eRng1_W, eRng2_W, eEnum_W, eZip_W, eSl_W, ePart_W, eNoPart_W, eRev_W, eRevL_W, eDk0_W, dAdd_int, dAdd_lst, dAdd_tup, dAdd_str, dAddL_lst, dSub_int, dMul_int, dMul_lst, dMulL_lst, dMul_tup, dFdiv_int, dMod_int, dPow_int, dShl_int, dShr_int, dLe_int, dLt_int, dGt_int, dGe_int, dNeg_int, isa_seq2, isLs_lst, isLs_tup, Bool.or_false, Bool.or_true, Bool.true_or, Bool.false_or, Bool.and_true, Bool.true_and, Bool.and_false, Bool.false_and, isSeq_lst, isSeq_tup, isTp_tup, isTp_lst, isTp_non, isTp_int, isTp_str, isW_int, dIsN_W, dNotN_W, isN_non, isN_int, isN_bl, isN_str, isN_tup, isN_lst, isN_dk, isN_dt, isN_ins, dIx_W, dSl_W, dSlL_W, dLen_W, dInt_W, dStr_W, dAbs_W, dMax2_W, dMin2_W, dTupOf_W, dLstOf_W, dIsi_W, dIsi2_W, kn_int, kn_bl, kn_non, kn_str, kn_tup, kn_lst, kn_dk, kn_dt, isa_int_int, isa_int_bool, isa_tup_tup, isa_bl_bool, isa_seq_tup, isa_seq_lst, isa_int, isa_bool, isa_seq, isa_tup, isa_str, isa_lst, dEq_int, dNe_int, Dt.flat, wipeS, List.getElem?_cons_zero, List.getElem?_cons_succ, List.set_cons_zero, List.set_cons_succ, List.replicate, List.append_nil, List.cons_append, List.nil_append, List.length_cons, List.length_nil, Nat.reduceAdd, Nat.reduceSub, Nat.zero_add, Option.isSome_some, Bool.true_eq_false, Bool.false_eq_true, if_true, if_false, ite_true, ite_false, eq_self, not_true_eq_false, not_false_eq_true, true_and, and_true, decide_eq_true_eq, Bool.not_true, Bool.not_false, Bool.not_eq_true', decide_eq_false_iff_not, decide_true, decide_false, List.length_map, List.map_cons, List.map_nil, Option.some.injEq, reduceCtorEq, Bool.not_eq_eq_eq_not, eEnumK_W, eDk1_W, eXf_W, eIsX_W, sTry_W])
theorem NearPair_make {x0 x1 x2 x3 : Dt} {Q : Dt → Prop} {E : Xc → Prop} (q : Q (.ins "NearPair" ["one", "other", "below", "above"] [x0, x1, x2, x3])) : F_NearPair___init [.d x0, .d x1, .d x2, .d x3] Q E := by
  rw [F_NearPair___init_eq]; unfold S_NearPair___init
  walk_at "wp"
  simp only [ftab_NearPair_one, ftab_NearPair_other, ftab_NearPair_below, ftab_NearPair_above, putN_NearPair_one, putN_NearPair_other, putN_NearPair_below, putN_NearPair_above, putD_NearPair_one, putD_NearPair_other, putD_NearPair_below, putD_NearPair_above, List.getElem?_cons_zero, List.set_cons_zero, true_and, List.length_nil, List.length_cons]
  exact ⟨by decide, by decide, by decide, by decide, q⟩
theorem NearPair_same {x0 x1 x2 x3 y0 y1 y2 y3 : Dt} {Q : Dt → Prop} {E : Xc → Prop} (h0 : x0.sh) (g0 : y0.sh) (h1 : x1.sh) (g1 : y1.sh) (h2 : x2.sh) (g2 : y2.sh) (h3 : x3.sh) (g3 : y3.sh) (q : Q (.bl (x0.eqv y0 && (x1.eqv y1 && (x2.eqv y2 && (x3.eqv y3)))))) : F_NearPair___eq [.d (.ins "NearPair" ["one", "other", "below", "above"] [x0, x1, x2, x3]), .d (.ins "NearPair" ["one", "other", "below", "above"] [y0, y1, y2, y3])] Q E := by
  rw [F_NearPair___eq_eq]; unfold S_NearPair___eq
  walk_at "wp"
  rw [eIsI_W]
  walk_at "wp"
  refine ⟨true, tabI_NearPair_NearPair, ?_⟩
  walk_at "wp"
  refine ⟨ftab_NearPair_one, _, look_NearPair_one, ftab_NearPair_one, _, look_NearPair_one, h0, g0, ?_⟩
  refine iteQ (fun c => ?_) fun c => by rw [Bool.not_eq_true _ |>.mp c, Bool.false_and] at q; exact q
  rw [c, Bool.true_and] at q
  refine ⟨ftab_NearPair_other, _, look_NearPair_other, ftab_NearPair_other, _, look_NearPair_other, h1, g1, ?_⟩
  refine iteQ (fun c => ?_) fun c => by rw [Bool.not_eq_true _ |>.mp c, Bool.false_and] at q; exact q
  rw [c, Bool.true_and] at q
  refine ⟨ftab_NearPair_below, _, look_NearPair_below, ftab_NearPair_below, _, look_NearPair_below, h2, g2, ?_⟩
  refine iteQ (fun c => ?_) fun c => by rw [Bool.not_eq_true _ |>.mp c, Bool.false_and] at q; exact q
  rw [c, Bool.true_and] at q
  refine ⟨ftab_NearPair_above, _, look_NearPair_above, ftab_NearPair_above, _, look_NearPair_above, h3, g3, ?_⟩
  exact q
theorem NearPair_class {x0 x1 x2 x3 : Dt} {c : Str} {ns : List Str} {ds : List Dt} {Q : Dt → Prop} {E : Xc → Prop} (h : tabI_NearPair c = some false) (q : Q (.bl false)) : F_NearPair___eq [.d (.ins "NearPair" ["one", "other", "below", "above"] [x0, x1, x2, x3]), .d (.ins c ns ds)] Q E := by
  rw [F_NearPair___eq_eq]; unfold S_NearPair___eq
  walk_at "wp"
  rw [eIsI_W]
  walk_at "wp"
  refine ⟨false, h, ?_⟩
  walk_at "wp"
  exact q
theorem NearPair_other {x0 x1 x2 x3 y : Dt} {Q : Dt → Prop} {E : Xc → Prop} (h : y.kindR = true) (q : Q (.bl false)) : F_NearPair___eq [.d (.ins "NearPair" ["one", "other", "below", "above"] [x0, x1, x2, x3]), .d y] Q E := by
  rw [F_NearPair___eq_eq]; unfold S_NearPair___eq
  walk_at "wp"
  rw [eIsI_W]
  walk_at "wp"
  cases y <;> first | (cases h; done) | exact ⟨rfl, q⟩
theorem Thinned_make {x0 x1 : Dt} {Q : Dt → Prop} {E : Xc → Prop} (q : Q (.ins "Thinned" ["book", "rows"] [x0, x1])) : F_Thinned___init [.d x0, .d x1] Q E := by
  rw [F_Thinned___init_eq]; unfold S_Thinned___init
  walk_at "wp"
  simp only [ftab_Thinned_book, ftab_Thinned_rows, putN_Thinned_book, putN_Thinned_rows, putD_Thinned_book, putD_Thinned_rows, List.getElem?_cons_zero, List.set_cons_zero, true_and, List.length_nil, List.length_cons]
  exact ⟨by decide, by decide, q⟩
theorem Thinned_same {x0 x1 y0 y1 : Dt} {Q : Dt → Prop} {E : Xc → Prop} (h0 : x0.sh) (g0 : y0.sh) (h1 : x1.sh) (g1 : y1.sh) (q : Q (.bl (x0.eqv y0 && (x1.eqv y1)))) : F_Thinned___eq [.d (.ins "Thinned" ["book", "rows"] [x0, x1]), .d (.ins "Thinned" ["book", "rows"] [y0, y1])] Q E := by
  rw [F_Thinned___eq_eq]; unfold S_Thinned___eq
  walk_at "wp"
  rw [eIsI_W]
  walk_at "wp"
  refine ⟨true, tabI_Thinned_Thinned, ?_⟩
  walk_at "wp"
  refine ⟨ftab_Thinned_book, _, look_Thinned_book, ftab_Thinned_book, _, look_Thinned_book, h0, g0, ?_⟩
  refine iteQ (fun c => ?_) fun c => by rw [Bool.not_eq_true _ |>.mp c, Bool.false_and] at q; exact q
  rw [c, Bool.true_and] at q
  refine ⟨ftab_Thinned_rows, _, look_Thinned_rows, ftab_Thinned_rows, _, look_Thinned_rows, h1, g1, ?_⟩
  exact q
theorem Thinned_class {x0 x1 : Dt} {c : Str} {ns : List Str} {ds : List Dt} {Q : Dt → Prop} {E : Xc → Prop} (h : tabI_Thinned c = some false) (q : Q (.bl false)) : F_Thinned___eq [.d (.ins "Thinned" ["book", "rows"] [x0, x1]), .d (.ins c ns ds)] Q E := by
  rw [F_Thinned___eq_eq]; unfold S_Thinned___eq
  walk_at "wp"
  rw [eIsI_W]
  walk_at "wp"
  refine ⟨false, h, ?_⟩
  walk_at "wp"
  exact q
theorem Thinned_other {x0 x1 y : Dt} {Q : Dt → Prop} {E : Xc → Prop} (h : y.kindR = true) (q : Q (.bl false)) : F_Thinned___eq [.d (.ins "Thinned" ["book", "rows"] [x0, x1]), .d y] Q E := by
  rw [F_Thinned___eq_eq]; unfold S_Thinned___eq
  walk_at "wp"
  rw [eIsI_W]
  walk_at "wp"
  cases y <;> first | (cases h; done) | exact ⟨rfl, q⟩
theorem MixClash_make {x0 x1 x2 : Dt} {Q : Dt → Prop} {E : Xc → Prop} (q : Q (.ins "MixClash" ["one", "other", "word"] [x0, x1, x2])) : F_MixClash___init [.d x0, .d x1, .d x2] Q E := by
  rw [F_MixClash___init_eq]; unfold S_MixClash___init
  walk_at "wp"
  simp only [ftab_MixClash_one, ftab_MixClash_other, ftab_MixClash_word, putN_MixClash_one, putN_MixClash_other, putN_MixClash_word, putD_MixClash_one, putD_MixClash_other, putD_MixClash_word, List.getElem?_cons_zero, List.set_cons_zero, true_and, List.length_nil, List.length_cons]
  exact ⟨by decide, by decide, by decide, q⟩
theorem MixClash_same {x0 x1 x2 y0 y1 y2 : Dt} {Q : Dt → Prop} {E : Xc → Prop} (h0 : x0.sh) (g0 : y0.sh) (h1 : x1.sh) (g1 : y1.sh) (h2 : x2.sh) (g2 : y2.sh) (q : Q (.bl (x0.eqv y0 && (x1.eqv y1 && (x2.eqv y2))))) : F_MixClash___eq [.d (.ins "MixClash" ["one", "other", "word"] [x0, x1, x2]), .d (.ins "MixClash" ["one", "other", "word"] [y0, y1, y2])] Q E := by
  rw [F_MixClash___eq_eq]; unfold S_MixClash___eq
  walk_at "wp"
  rw [eIsI_W]
  walk_at "wp"
  refine ⟨true, tabI_MixClash_MixClash, ?_⟩
  walk_at "wp"
  refine ⟨ftab_MixClash_one, _, look_MixClash_one, ftab_MixClash_one, _, look_MixClash_one, h0, g0, ?_⟩
  refine iteQ (fun c => ?_) fun c => by rw [Bool.not_eq_true _ |>.mp c, Bool.false_and] at q; exact q
  rw [c, Bool.true_and] at q
  refine ⟨ftab_MixClash_other, _, look_MixClash_other, ftab_MixClash_other, _, look_MixClash_other, h1, g1, ?_⟩
  refine iteQ (fun c => ?_) fun c => by rw [Bool.not_eq_true _ |>.mp c, Bool.false_and] at q; exact q
  rw [c, Bool.true_and] at q
  refine ⟨ftab_MixClash_word, _, look_MixClash_word, ftab_MixClash_word, _, look_MixClash_word, h2, g2, ?_⟩
  exact q
theorem MixClash_class {x0 x1 x2 : Dt} {c : Str} {ns : List Str} {ds : List Dt} {Q : Dt → Prop} {E : Xc → Prop} (h : tabI_MixClash c = some false) (q : Q (.bl false)) : F_MixClash___eq [.d (.ins "MixClash" ["one", "other", "word"] [x0, x1, x2]), .d (.ins c ns ds)] Q E := by
  rw [F_MixClash___eq_eq]; unfold S_MixClash___eq
  walk_at "wp"
  rw [eIsI_W]
  walk_at "wp"
  refine ⟨false, h, ?_⟩
  walk_at "wp"
  exact q
theorem MixClash_other {x0 x1 x2 y : Dt} {Q : Dt → Prop} {E : Xc → Prop} (h : y.kindR = true) (q : Q (.bl false)) : F_MixClash___eq [.d (.ins "MixClash" ["one", "other", "word"] [x0, x1, x2]), .d y] Q E := by
  rw [F_MixClash___eq_eq]; unfold S_MixClash___eq
  walk_at "wp"
  rw [eIsI_W]
  walk_at "wp"
  cases y <;> first | (cases h; done) | exact ⟨rfl, q⟩
theorem Uneven_make {x0 x1 : Dt} {Q : Dt → Prop} {E : Xc → Prop} (q : Q (.ins "Uneven" ["word", "above"] [x0, x1])) : F_Uneven___init [.d x0, .d x1] Q E := by
  rw [F_Uneven___init_eq]; unfold S_Uneven___init
  walk_at "wp"
  simp only [ftab_Uneven_word, ftab_Uneven_above, putN_Uneven_word, putN_Uneven_above, putD_Uneven_word, putD_Uneven_above, List.getElem?_cons_zero, List.set_cons_zero, true_and, List.length_nil, List.length_cons]
  exact ⟨by decide, by decide, q⟩
theorem Uneven_same {x0 x1 y0 y1 : Dt} {Q : Dt → Prop} {E : Xc → Prop} (h0 : x0.sh) (g0 : y0.sh) (h1 : x1.sh) (g1 : y1.sh) (q : Q (.bl (x0.eqv y0 && (x1.eqv y1)))) : F_Uneven___eq [.d (.ins "Uneven" ["word", "above"] [x0, x1]), .d (.ins "Uneven" ["word", "above"] [y0, y1])] Q E := by
  rw [F_Uneven___eq_eq]; unfold S_Uneven___eq
  walk_at "wp"
  rw [eIsI_W]
  walk_at "wp"
  refine ⟨true, tabI_Uneven_Uneven, ?_⟩
  walk_at "wp"
  refine ⟨ftab_Uneven_word, _, look_Uneven_word, ftab_Uneven_word, _, look_Uneven_word, h0, g0, ?_⟩
  refine iteQ (fun c => ?_) fun c => by rw [Bool.not_eq_true _ |>.mp c, Bool.false_and] at q; exact q
  rw [c, Bool.true_and] at q
  refine ⟨ftab_Uneven_above, _, look_Uneven_above, ftab_Uneven_above, _, look_Uneven_above, h1, g1, ?_⟩
  exact q
theorem Uneven_class {x0 x1 : Dt} {c : Str} {ns : List Str} {ds : List Dt} {Q : Dt → Prop} {E : Xc → Prop} (h : tabI_Uneven c = some false) (q : Q (.bl false)) : F_Uneven___eq [.d (.ins "Uneven" ["word", "above"] [x0, x1]), .d (.ins c ns ds)] Q E := by
  rw [F_Uneven___eq_eq]; unfold S_Uneven___eq
  walk_at "wp"
  rw [eIsI_W]
  walk_at "wp"
  refine ⟨false, h, ?_⟩
  walk_at "wp"
  exact q
theorem Uneven_other {x0 x1 y : Dt} {Q : Dt → Prop} {E : Xc → Prop} (h : y.kindR = true) (q : Q (.bl false)) : F_Uneven___eq [.d (.ins "Uneven" ["word", "above"] [x0, x1]), .d y] Q E := by
  rw [F_Uneven___eq_eq]; unfold S_Uneven___eq
  walk_at "wp"
  rw [eIsI_W]
  walk_at "wp"
  cases y <;> first | (cases h; done) | exact ⟨rfl, q⟩
theorem Read_make {x0 x1 : Dt} {Q : Dt → Prop} {E : Xc → Prop} (q : Q (.ins "Read" ["what", "member"] [x0, x1])) : F_Read___init [.d x0, .d x1] Q E := by
  rw [F_Read___init_eq]; unfold S_Read___init
  walk_at "wp"
  simp only [ftab_Read_what, ftab_Read_member, putN_Read_what, putN_Read_member, putD_Read_what, putD_Read_member, List.getElem?_cons_zero, List.set_cons_zero, true_and, List.length_nil, List.length_cons]
  exact ⟨by decide, by decide, q⟩
theorem Read_same {x0 x1 y0 y1 : Dt} {Q : Dt → Prop} {E : Xc → Prop} (h0 : x0.sh) (g0 : y0.sh) (h1 : x1.sh) (g1 : y1.sh) (q : Q (.bl (x0.eqv y0 && (x1.eqv y1)))) : F_Read___eq [.d (.ins "Read" ["what", "member"] [x0, x1]), .d (.ins "Read" ["what", "member"] [y0, y1])] Q E := by
  rw [F_Read___eq_eq]; unfold S_Read___eq
  walk_at "wp"
  rw [eIsI_W]
  walk_at "wp"
  refine ⟨true, tabI_Read_Read, ?_⟩
  walk_at "wp"
  refine ⟨ftab_Read_what, _, look_Read_what, ftab_Read_what, _, look_Read_what, h0, g0, ?_⟩
  refine iteQ (fun c => ?_) fun c => by rw [Bool.not_eq_true _ |>.mp c, Bool.false_and] at q; exact q
  rw [c, Bool.true_and] at q
  refine ⟨ftab_Read_member, _, look_Read_member, ftab_Read_member, _, look_Read_member, h1, g1, ?_⟩
  exact q
theorem Read_class {x0 x1 : Dt} {c : Str} {ns : List Str} {ds : List Dt} {Q : Dt → Prop} {E : Xc → Prop} (h : tabI_Read c = some false) (q : Q (.bl false)) : F_Read___eq [.d (.ins "Read" ["what", "member"] [x0, x1]), .d (.ins c ns ds)] Q E := by
  rw [F_Read___eq_eq]; unfold S_Read___eq
  walk_at "wp"
  rw [eIsI_W]
  walk_at "wp"
  refine ⟨false, h, ?_⟩
  walk_at "wp"
  exact q
theorem Read_other {x0 x1 y : Dt} {Q : Dt → Prop} {E : Xc → Prop} (h : y.kindR = true) (q : Q (.bl false)) : F_Read___eq [.d (.ins "Read" ["what", "member"] [x0, x1]), .d y] Q E := by
  rw [F_Read___eq_eq]; unfold S_Read___eq
  walk_at "wp"
  rw [eIsI_W]
  walk_at "wp"
  cases y <;> first | (cases h; done) | exact ⟨rfl, q⟩
theorem TooClose_make {x0 x1 : Dt} {Q : Dt → Prop} {E : Xc → Prop} (q : Q (.ins "TooClose" ["one", "other"] [x0, x1])) : F_TooClose___init [.d x0, .d x1] Q E := by
  rw [F_TooClose___init_eq]; unfold S_TooClose___init
  walk_at "wp"
  simp only [ftab_TooClose_one, ftab_TooClose_other, putN_TooClose_one, putN_TooClose_other, putD_TooClose_one, putD_TooClose_other, List.getElem?_cons_zero, List.set_cons_zero, true_and, List.length_nil, List.length_cons]
  exact ⟨by decide, by decide, q⟩
theorem TooClose_same {x0 x1 y0 y1 : Dt} {Q : Dt → Prop} {E : Xc → Prop} (h0 : x0.sh) (g0 : y0.sh) (h1 : x1.sh) (g1 : y1.sh) (q : Q (.bl (x0.eqv y0 && (x1.eqv y1)))) : F_TooClose___eq [.d (.ins "TooClose" ["one", "other"] [x0, x1]), .d (.ins "TooClose" ["one", "other"] [y0, y1])] Q E := by
  rw [F_TooClose___eq_eq]; unfold S_TooClose___eq
  walk_at "wp"
  rw [eIsI_W]
  walk_at "wp"
  refine ⟨true, tabI_TooClose_TooClose, ?_⟩
  walk_at "wp"
  refine ⟨ftab_TooClose_one, _, look_TooClose_one, ftab_TooClose_one, _, look_TooClose_one, h0, g0, ?_⟩
  refine iteQ (fun c => ?_) fun c => by rw [Bool.not_eq_true _ |>.mp c, Bool.false_and] at q; exact q
  rw [c, Bool.true_and] at q
  refine ⟨ftab_TooClose_other, _, look_TooClose_other, ftab_TooClose_other, _, look_TooClose_other, h1, g1, ?_⟩
  exact q
theorem TooClose_class {x0 x1 : Dt} {c : Str} {ns : List Str} {ds : List Dt} {Q : Dt → Prop} {E : Xc → Prop} (h : tabI_TooClose c = some false) (q : Q (.bl false)) : F_TooClose___eq [.d (.ins "TooClose" ["one", "other"] [x0, x1]), .d (.ins c ns ds)] Q E := by
  rw [F_TooClose___eq_eq]; unfold S_TooClose___eq
  walk_at "wp"
  rw [eIsI_W]
  walk_at "wp"
  refine ⟨false, h, ?_⟩
  walk_at "wp"
  exact q
theorem TooClose_other {x0 x1 y : Dt} {Q : Dt → Prop} {E : Xc → Prop} (h : y.kindR = true) (q : Q (.bl false)) : F_TooClose___eq [.d (.ins "TooClose" ["one", "other"] [x0, x1]), .d y] Q E := by
  rw [F_TooClose___eq_eq]; unfold S_TooClose___eq
  walk_at "wp"
  rw [eIsI_W]
  walk_at "wp"
  cases y <;> first | (cases h; done) | exact ⟨rfl, q⟩
theorem RunPair_make {x0 x1 x2 x3 x4 : Dt} {Q : Dt → Prop} {E : Xc → Prop} (q : Q (.ins "RunPair" ["one", "other", "apart", "longer", "shorter"] [x0, x1, x2, x3, x4])) : F_RunPair___init [.d x0, .d x1, .d x2, .d x3, .d x4] Q E := by
  rw [F_RunPair___init_eq]; unfold S_RunPair___init
  walk_at "wp"
  simp only [ftab_RunPair_one, ftab_RunPair_other, ftab_RunPair_apart, ftab_RunPair_longer, ftab_RunPair_shorter, putN_RunPair_one, putN_RunPair_other, putN_RunPair_apart, putN_RunPair_longer, putN_RunPair_shorter, putD_RunPair_one, putD_RunPair_other, putD_RunPair_apart, putD_RunPair_longer, putD_RunPair_shorter, List.getElem?_cons_zero, List.set_cons_zero, true_and, List.length_nil, List.length_cons]
  exact ⟨by decide, by decide, by decide, by decide, by decide, q⟩
theorem RunPair_same {x0 x1 x2 x3 x4 y0 y1 y2 y3 y4 : Dt} {Q : Dt → Prop} {E : Xc → Prop} (h0 : x0.sh) (g0 : y0.sh) (h1 : x1.sh) (g1 : y1.sh) (h2 : x2.sh) (g2 : y2.sh) (h3 : x3.sh) (g3 : y3.sh) (h4 : x4.sh) (g4 : y4.sh) (q : Q (.bl (x0.eqv y0 && (x1.eqv y1 && (x2.eqv y2 && (x3.eqv y3 && (x4.eqv y4))))))) : F_RunPair___eq [.d (.ins "RunPair" ["one", "other", "apart", "longer", "shorter"] [x0, x1, x2, x3, x4]), .d (.ins "RunPair" ["one", "other", "apart", "longer", "shorter"] [y0, y1, y2, y3, y4])] Q E := by
  rw [F_RunPair___eq_eq]; unfold S_RunPair___eq
  walk_at "wp"
  rw [eIsI_W]
  walk_at "wp"
  refine ⟨true, tabI_RunPair_RunPair, ?_⟩
  walk_at "wp"
  refine ⟨ftab_RunPair_one, _, look_RunPair_one, ftab_RunPair_one, _, look_RunPair_one, h0, g0, ?_⟩
  refine iteQ (fun c => ?_) fun c => by rw [Bool.not_eq_true _ |>.mp c, Bool.false_and] at q; exact q
  rw [c, Bool.true_and] at q
  refine ⟨ftab_RunPair_other, _, look_RunPair_other, ftab_RunPair_other, _, look_RunPair_other, h1, g1, ?_⟩
  refine iteQ (fun c => ?_) fun c => by rw [Bool.not_eq_true _ |>.mp c, Bool.false_and] at q; exact q
  rw [c, Bool.true_and] at q
  refine ⟨ftab_RunPair_apart, _, look_RunPair_apart, ftab_RunPair_apart, _, look_RunPair_apart, h2, g2, ?_⟩
  refine iteQ (fun c => ?_) fun c => by rw [Bool.not_eq_true _ |>.mp c, Bool.false_and] at q; exact q
  rw [c, Bool.true_and] at q
  refine ⟨ftab_RunPair_longer, _, look_RunPair_longer, ftab_RunPair_longer, _, look_RunPair_longer, h3, g3, ?_⟩
  refine iteQ (fun c => ?_) fun c => by rw [Bool.not_eq_true _ |>.mp c, Bool.false_and] at q; exact q
  rw [c, Bool.true_and] at q
  refine ⟨ftab_RunPair_shorter, _, look_RunPair_shorter, ftab_RunPair_shorter, _, look_RunPair_shorter, h4, g4, ?_⟩
  exact q
theorem RunPair_class {x0 x1 x2 x3 x4 : Dt} {c : Str} {ns : List Str} {ds : List Dt} {Q : Dt → Prop} {E : Xc → Prop} (h : tabI_RunPair c = some false) (q : Q (.bl false)) : F_RunPair___eq [.d (.ins "RunPair" ["one", "other", "apart", "longer", "shorter"] [x0, x1, x2, x3, x4]), .d (.ins c ns ds)] Q E := by
  rw [F_RunPair___eq_eq]; unfold S_RunPair___eq
  walk_at "wp"
  rw [eIsI_W]
  walk_at "wp"
  refine ⟨false, h, ?_⟩
  walk_at "wp"
  exact q
theorem RunPair_other {x0 x1 x2 x3 x4 y : Dt} {Q : Dt → Prop} {E : Xc → Prop} (h : y.kindR = true) (q : Q (.bl false)) : F_RunPair___eq [.d (.ins "RunPair" ["one", "other", "apart", "longer", "shorter"] [x0, x1, x2, x3, x4]), .d y] Q E := by
  rw [F_RunPair___eq_eq]; unfold S_RunPair___eq
  walk_at "wp"
  rw [eIsI_W]
  walk_at "wp"
  cases y <;> first | (cases h; done) | exact ⟨rfl, q⟩
theorem SumsClash_make {x0 x1 : Dt} {Q : Dt → Prop} {E : Xc → Prop} (q : Q (.ins "SumsClash" ["one", "other"] [x0, x1])) : F_SumsClash___init [.d x0, .d x1] Q E := by
  rw [F_SumsClash___init_eq]; unfold S_SumsClash___init
  walk_at "wp"
  simp only [ftab_SumsClash_one, ftab_SumsClash_other, putN_SumsClash_one, putN_SumsClash_other, putD_SumsClash_one, putD_SumsClash_other, List.getElem?_cons_zero, List.set_cons_zero, true_and, List.length_nil, List.length_cons]
  exact ⟨by decide, by decide, q⟩
theorem SumsClash_same {x0 x1 y0 y1 : Dt} {Q : Dt → Prop} {E : Xc → Prop} (h0 : x0.sh) (g0 : y0.sh) (h1 : x1.sh) (g1 : y1.sh) (q : Q (.bl (x0.eqv y0 && (x1.eqv y1)))) : F_SumsClash___eq [.d (.ins "SumsClash" ["one", "other"] [x0, x1]), .d (.ins "SumsClash" ["one", "other"] [y0, y1])] Q E := by
  rw [F_SumsClash___eq_eq]; unfold S_SumsClash___eq
  walk_at "wp"
  rw [eIsI_W]
  walk_at "wp"
  refine ⟨true, tabI_SumsClash_SumsClash, ?_⟩
  walk_at "wp"
  refine ⟨ftab_SumsClash_one, _, look_SumsClash_one, ftab_SumsClash_one, _, look_SumsClash_one, h0, g0, ?_⟩
  refine iteQ (fun c => ?_) fun c => by rw [Bool.not_eq_true _ |>.mp c, Bool.false_and] at q; exact q
  rw [c, Bool.true_and] at q
  refine ⟨ftab_SumsClash_other, _, look_SumsClash_other, ftab_SumsClash_other, _, look_SumsClash_other, h1, g1, ?_⟩
  exact q
theorem SumsClash_class {x0 x1 : Dt} {c : Str} {ns : List Str} {ds : List Dt} {Q : Dt → Prop} {E : Xc → Prop} (h : tabI_SumsClash c = some false) (q : Q (.bl false)) : F_SumsClash___eq [.d (.ins "SumsClash" ["one", "other"] [x0, x1]), .d (.ins c ns ds)] Q E := by
  rw [F_SumsClash___eq_eq]; unfold S_SumsClash___eq
  walk_at "wp"
  rw [eIsI_W]
  walk_at "wp"
  refine ⟨false, h, ?_⟩
  walk_at "wp"
  exact q
theorem SumsClash_other {x0 x1 y : Dt} {Q : Dt → Prop} {E : Xc → Prop} (h : y.kindR = true) (q : Q (.bl false)) : F_SumsClash___eq [.d (.ins "SumsClash" ["one", "other"] [x0, x1]), .d y] Q E := by
  rw [F_SumsClash___eq_eq]; unfold S_SumsClash___eq
  walk_at "wp"
  rw [eIsI_W]
  walk_at "wp"
  cases y <;> first | (cases h; done) | exact ⟨rfl, q⟩
theorem Web_make {x0 x1 x2 : Dt} {Q : Dt → Prop} {E : Xc → Prop} (q : Q (.ins "Web" ["starts", "rests", "steps"] [x0, x1, x2])) : F_Web___init [.d x0, .d x1, .d x2] Q E := by
  rw [F_Web___init_eq]; unfold S_Web___init
  walk_at "wp"
  simp only [ftab_Web_starts, ftab_Web_rests, ftab_Web_steps, putN_Web_starts, putN_Web_rests, putN_Web_steps, putD_Web_starts, putD_Web_rests, putD_Web_steps, List.getElem?_cons_zero, List.set_cons_zero, true_and, List.length_nil, List.length_cons]
  exact ⟨by decide, by decide, by decide, q⟩
theorem Web_same {x0 x1 x2 y0 y1 y2 : Dt} {Q : Dt → Prop} {E : Xc → Prop} (h0 : x0.sh) (g0 : y0.sh) (h1 : x1.sh) (g1 : y1.sh) (h2 : x2.sh) (g2 : y2.sh) (q : Q (.bl (x0.eqv y0 && (x1.eqv y1 && (x2.eqv y2))))) : F_Web___eq [.d (.ins "Web" ["starts", "rests", "steps"] [x0, x1, x2]), .d (.ins "Web" ["starts", "rests", "steps"] [y0, y1, y2])] Q E := by
  rw [F_Web___eq_eq]; unfold S_Web___eq
  walk_at "wp"
  rw [eIsI_W]
  walk_at "wp"
  refine ⟨true, tabI_Web_Web, ?_⟩
  walk_at "wp"
  refine ⟨ftab_Web_starts, _, look_Web_starts, ftab_Web_starts, _, look_Web_starts, h0, g0, ?_⟩
  refine iteQ (fun c => ?_) fun c => by rw [Bool.not_eq_true _ |>.mp c, Bool.false_and] at q; exact q
  rw [c, Bool.true_and] at q
  refine ⟨ftab_Web_rests, _, look_Web_rests, ftab_Web_rests, _, look_Web_rests, h1, g1, ?_⟩
  refine iteQ (fun c => ?_) fun c => by rw [Bool.not_eq_true _ |>.mp c, Bool.false_and] at q; exact q
  rw [c, Bool.true_and] at q
  refine ⟨ftab_Web_steps, _, look_Web_steps, ftab_Web_steps, _, look_Web_steps, h2, g2, ?_⟩
  exact q
theorem Web_class {x0 x1 x2 : Dt} {c : Str} {ns : List Str} {ds : List Dt} {Q : Dt → Prop} {E : Xc → Prop} (h : tabI_Web c = some false) (q : Q (.bl false)) : F_Web___eq [.d (.ins "Web" ["starts", "rests", "steps"] [x0, x1, x2]), .d (.ins c ns ds)] Q E := by
  rw [F_Web___eq_eq]; unfold S_Web___eq
  walk_at "wp"
  rw [eIsI_W]
  walk_at "wp"
  refine ⟨false, h, ?_⟩
  walk_at "wp"
  exact q
theorem Web_other {x0 x1 x2 y : Dt} {Q : Dt → Prop} {E : Xc → Prop} (h : y.kindR = true) (q : Q (.bl false)) : F_Web___eq [.d (.ins "Web" ["starts", "rests", "steps"] [x0, x1, x2]), .d y] Q E := by
  rw [F_Web___eq_eq]; unfold S_Web___eq
  walk_at "wp"
  rw [eIsI_W]
  walk_at "wp"
  cases y <;> first | (cases h; done) | exact ⟨rfl, q⟩
theorem Told_make {x0 x1 x2 : Dt} {Q : Dt → Prop} {E : Xc → Prop} (q : Q (.ins "Told" ["wait", "first", "second"] [x0, x1, x2])) : F_Told___init [.d x0, .d x1, .d x2] Q E := by
  rw [F_Told___init_eq]; unfold S_Told___init
  walk_at "wp"
  simp only [ftab_Told_wait, ftab_Told_first, ftab_Told_second, putN_Told_wait, putN_Told_first, putN_Told_second, putD_Told_wait, putD_Told_first, putD_Told_second, List.getElem?_cons_zero, List.set_cons_zero, true_and, List.length_nil, List.length_cons]
  exact ⟨by decide, by decide, by decide, q⟩
theorem Told_same {x0 x1 x2 y0 y1 y2 : Dt} {Q : Dt → Prop} {E : Xc → Prop} (h0 : x0.sh) (g0 : y0.sh) (h1 : x1.sh) (g1 : y1.sh) (h2 : x2.sh) (g2 : y2.sh) (q : Q (.bl (x0.eqv y0 && (x1.eqv y1 && (x2.eqv y2))))) : F_Told___eq [.d (.ins "Told" ["wait", "first", "second"] [x0, x1, x2]), .d (.ins "Told" ["wait", "first", "second"] [y0, y1, y2])] Q E := by
  rw [F_Told___eq_eq]; unfold S_Told___eq
  walk_at "wp"
  rw [eIsI_W]
  walk_at "wp"
  refine ⟨true, tabI_Told_Told, ?_⟩
  walk_at "wp"
  refine ⟨ftab_Told_wait, _, look_Told_wait, ftab_Told_wait, _, look_Told_wait, h0, g0, ?_⟩
  refine iteQ (fun c => ?_) fun c => by rw [Bool.not_eq_true _ |>.mp c, Bool.false_and] at q; exact q
  rw [c, Bool.true_and] at q
  refine ⟨ftab_Told_first, _, look_Told_first, ftab_Told_first, _, look_Told_first, h1, g1, ?_⟩
  refine iteQ (fun c => ?_) fun c => by rw [Bool.not_eq_true _ |>.mp c, Bool.false_and] at q; exact q
  rw [c, Bool.true_and] at q
  refine ⟨ftab_Told_second, _, look_Told_second, ftab_Told_second, _, look_Told_second, h2, g2, ?_⟩
  exact q
theorem Told_class {x0 x1 x2 : Dt} {c : Str} {ns : List Str} {ds : List Dt} {Q : Dt → Prop} {E : Xc → Prop} (h : tabI_Told c = some false) (q : Q (.bl false)) : F_Told___eq [.d (.ins "Told" ["wait", "first", "second"] [x0, x1, x2]), .d (.ins c ns ds)] Q E := by
  rw [F_Told___eq_eq]; unfold S_Told___eq
  walk_at "wp"
  rw [eIsI_W]
  walk_at "wp"
  refine ⟨false, h, ?_⟩
  walk_at "wp"
  exact q
theorem Told_other {x0 x1 x2 y : Dt} {Q : Dt → Prop} {E : Xc → Prop} (h : y.kindR = true) (q : Q (.bl false)) : F_Told___eq [.d (.ins "Told" ["wait", "first", "second"] [x0, x1, x2]), .d y] Q E := by
  rw [F_Told___eq_eq]; unfold S_Told___eq
  walk_at "wp"
  rw [eIsI_W]
  walk_at "wp"
  cases y <;> first | (cases h; done) | exact ⟨rfl, q⟩
theorem Clash_make {x0 x1 : Dt} {Q : Dt → Prop} {E : Xc → Prop} (q : Q (.ins "Clash" ["first", "second"] [x0, x1])) : F_Clash___init [.d x0, .d x1] Q E := by
  rw [F_Clash___init_eq]; unfold S_Clash___init
  walk_at "wp"
  simp only [ftab_Clash_first, ftab_Clash_second, putN_Clash_first, putN_Clash_second, putD_Clash_first, putD_Clash_second, List.getElem?_cons_zero, List.set_cons_zero, true_and, List.length_nil, List.length_cons]
  exact ⟨by decide, by decide, q⟩
theorem Clash_same {x0 x1 y0 y1 : Dt} {Q : Dt → Prop} {E : Xc → Prop} (h0 : x0.sh) (g0 : y0.sh) (h1 : x1.sh) (g1 : y1.sh) (q : Q (.bl (x0.eqv y0 && (x1.eqv y1)))) : F_Clash___eq [.d (.ins "Clash" ["first", "second"] [x0, x1]), .d (.ins "Clash" ["first", "second"] [y0, y1])] Q E := by
  rw [F_Clash___eq_eq]; unfold S_Clash___eq
  walk_at "wp"
  rw [eIsI_W]
  walk_at "wp"
  refine ⟨true, tabI_Clash_Clash, ?_⟩
  walk_at "wp"
  refine ⟨ftab_Clash_first, _, look_Clash_first, ftab_Clash_first, _, look_Clash_first, h0, g0, ?_⟩
  refine iteQ (fun c => ?_) fun c => by rw [Bool.not_eq_true _ |>.mp c, Bool.false_and] at q; exact q
  rw [c, Bool.true_and] at q
  refine ⟨ftab_Clash_second, _, look_Clash_second, ftab_Clash_second, _, look_Clash_second, h1, g1, ?_⟩
  exact q
theorem Clash_class {x0 x1 : Dt} {c : Str} {ns : List Str} {ds : List Dt} {Q : Dt → Prop} {E : Xc → Prop} (h : tabI_Clash c = some false) (q : Q (.bl false)) : F_Clash___eq [.d (.ins "Clash" ["first", "second"] [x0, x1]), .d (.ins c ns ds)] Q E := by
  rw [F_Clash___eq_eq]; unfold S_Clash___eq
  walk_at "wp"
  rw [eIsI_W]
  walk_at "wp"
  refine ⟨false, h, ?_⟩
  walk_at "wp"
  exact q
theorem Clash_other {x0 x1 y : Dt} {Q : Dt → Prop} {E : Xc → Prop} (h : y.kindR = true) (q : Q (.bl false)) : F_Clash___eq [.d (.ins "Clash" ["first", "second"] [x0, x1]), .d y] Q E := by
  rw [F_Clash___eq_eq]; unfold S_Clash___eq
  walk_at "wp"
  rw [eIsI_W]
  walk_at "wp"
  cases y <;> first | (cases h; done) | exact ⟨rfl, q⟩
theorem TwoCuts_make {x0 x1 : Dt} {Q : Dt → Prop} {E : Xc → Prop} (q : Q (.ins "TwoCuts" ["first", "second"] [x0, x1])) : F_TwoCuts___init [.d x0, .d x1] Q E := by
  rw [F_TwoCuts___init_eq]; unfold S_TwoCuts___init
  walk_at "wp"
  simp only [ftab_TwoCuts_first, ftab_TwoCuts_second, putN_TwoCuts_first, putN_TwoCuts_second, putD_TwoCuts_first, putD_TwoCuts_second, List.getElem?_cons_zero, List.set_cons_zero, true_and, List.length_nil, List.length_cons]
  exact ⟨by decide, by decide, q⟩
theorem TwoCuts_same {x0 x1 y0 y1 : Dt} {Q : Dt → Prop} {E : Xc → Prop} (h0 : x0.sh) (g0 : y0.sh) (h1 : x1.sh) (g1 : y1.sh) (q : Q (.bl (x0.eqv y0 && (x1.eqv y1)))) : F_TwoCuts___eq [.d (.ins "TwoCuts" ["first", "second"] [x0, x1]), .d (.ins "TwoCuts" ["first", "second"] [y0, y1])] Q E := by
  rw [F_TwoCuts___eq_eq]; unfold S_TwoCuts___eq
  walk_at "wp"
  rw [eIsI_W]
  walk_at "wp"
  refine ⟨true, tabI_TwoCuts_TwoCuts, ?_⟩
  walk_at "wp"
  refine ⟨ftab_TwoCuts_first, _, look_TwoCuts_first, ftab_TwoCuts_first, _, look_TwoCuts_first, h0, g0, ?_⟩
  refine iteQ (fun c => ?_) fun c => by rw [Bool.not_eq_true _ |>.mp c, Bool.false_and] at q; exact q
  rw [c, Bool.true_and] at q
  refine ⟨ftab_TwoCuts_second, _, look_TwoCuts_second, ftab_TwoCuts_second, _, look_TwoCuts_second, h1, g1, ?_⟩
  exact q
theorem TwoCuts_class {x0 x1 : Dt} {c : Str} {ns : List Str} {ds : List Dt} {Q : Dt → Prop} {E : Xc → Prop} (h : tabI_TwoCuts c = some false) (q : Q (.bl false)) : F_TwoCuts___eq [.d (.ins "TwoCuts" ["first", "second"] [x0, x1]), .d (.ins c ns ds)] Q E := by
  rw [F_TwoCuts___eq_eq]; unfold S_TwoCuts___eq
  walk_at "wp"
  rw [eIsI_W]
  walk_at "wp"
  refine ⟨false, h, ?_⟩
  walk_at "wp"
  exact q
theorem TwoCuts_other {x0 x1 y : Dt} {Q : Dt → Prop} {E : Xc → Prop} (h : y.kindR = true) (q : Q (.bl false)) : F_TwoCuts___eq [.d (.ins "TwoCuts" ["first", "second"] [x0, x1]), .d y] Q E := by
  rw [F_TwoCuts___eq_eq]; unfold S_TwoCuts___eq
  walk_at "wp"
  rw [eIsI_W]
  walk_at "wp"
  cases y <;> first | (cases h; done) | exact ⟨rfl, q⟩
theorem Best_make {x0 x1 : Dt} {Q : Dt → Prop} {E : Xc → Prop} (q : Q (.ins "Best" ["number", "book"] [x0, x1])) : F_Best___init [.d x0, .d x1] Q E := by
  rw [F_Best___init_eq]; unfold S_Best___init
  walk_at "wp"
  simp only [ftab_Best_number, ftab_Best_book, putN_Best_number, putN_Best_book, putD_Best_number, putD_Best_book, List.getElem?_cons_zero, List.set_cons_zero, true_and, List.length_nil, List.length_cons]
  exact ⟨by decide, by decide, q⟩
theorem Best_same {x0 x1 y0 y1 : Dt} {Q : Dt → Prop} {E : Xc → Prop} (h0 : x0.sh) (g0 : y0.sh) (h1 : x1.sh) (g1 : y1.sh) (q : Q (.bl (x0.eqv y0 && (x1.eqv y1)))) : F_Best___eq [.d (.ins "Best" ["number", "book"] [x0, x1]), .d (.ins "Best" ["number", "book"] [y0, y1])] Q E := by
  rw [F_Best___eq_eq]; unfold S_Best___eq
  walk_at "wp"
  rw [eIsI_W]
  walk_at "wp"
  refine ⟨true, tabI_Best_Best, ?_⟩
  walk_at "wp"
  refine ⟨ftab_Best_number, _, look_Best_number, ftab_Best_number, _, look_Best_number, h0, g0, ?_⟩
  refine iteQ (fun c => ?_) fun c => by rw [Bool.not_eq_true _ |>.mp c, Bool.false_and] at q; exact q
  rw [c, Bool.true_and] at q
  refine ⟨ftab_Best_book, _, look_Best_book, ftab_Best_book, _, look_Best_book, h1, g1, ?_⟩
  exact q
theorem Best_class {x0 x1 : Dt} {c : Str} {ns : List Str} {ds : List Dt} {Q : Dt → Prop} {E : Xc → Prop} (h : tabI_Best c = some false) (q : Q (.bl false)) : F_Best___eq [.d (.ins "Best" ["number", "book"] [x0, x1]), .d (.ins c ns ds)] Q E := by
  rw [F_Best___eq_eq]; unfold S_Best___eq
  walk_at "wp"
  rw [eIsI_W]
  walk_at "wp"
  refine ⟨false, h, ?_⟩
  walk_at "wp"
  exact q
theorem Best_other {x0 x1 y : Dt} {Q : Dt → Prop} {E : Xc → Prop} (h : y.kindR = true) (q : Q (.bl false)) : F_Best___eq [.d (.ins "Best" ["number", "book"] [x0, x1]), .d y] Q E := by
  rw [F_Best___eq_eq]; unfold S_Best___eq
  walk_at "wp"
  rw [eIsI_W]
  walk_at "wp"
  cases y <;> first | (cases h; done) | exact ⟨rfl, q⟩
theorem Tried_make {x0 x1 x2 x3 x4 : Dt} {Q : Dt → Prop} {E : Xc → Prop} (q : Q (.ins "Tried" ["many", "borne", "runs", "told", "met"] [x0, x1, x2, x3, x4])) : F_Tried___init [.d x0, .d x1, .d x2, .d x3, .d x4] Q E := by
  rw [F_Tried___init_eq]; unfold S_Tried___init
  walk_at "wp"
  simp only [ftab_Tried_many, ftab_Tried_borne, ftab_Tried_runs, ftab_Tried_told, ftab_Tried_met, putN_Tried_many, putN_Tried_borne, putN_Tried_runs, putN_Tried_told, putN_Tried_met, putD_Tried_many, putD_Tried_borne, putD_Tried_runs, putD_Tried_told, putD_Tried_met, List.getElem?_cons_zero, List.set_cons_zero, true_and, List.length_nil, List.length_cons]
  exact ⟨by decide, by decide, by decide, by decide, by decide, q⟩
theorem Tried_same {x0 x1 x2 x3 x4 y0 y1 y2 y3 y4 : Dt} {Q : Dt → Prop} {E : Xc → Prop} (h0 : x0.sh) (g0 : y0.sh) (h1 : x1.sh) (g1 : y1.sh) (h2 : x2.sh) (g2 : y2.sh) (h3 : x3.sh) (g3 : y3.sh) (h4 : x4.sh) (g4 : y4.sh) (q : Q (.bl (x0.eqv y0 && (x1.eqv y1 && (x2.eqv y2 && (x3.eqv y3 && (x4.eqv y4))))))) : F_Tried___eq [.d (.ins "Tried" ["many", "borne", "runs", "told", "met"] [x0, x1, x2, x3, x4]), .d (.ins "Tried" ["many", "borne", "runs", "told", "met"] [y0, y1, y2, y3, y4])] Q E := by
  rw [F_Tried___eq_eq]; unfold S_Tried___eq
  walk_at "wp"
  rw [eIsI_W]
  walk_at "wp"
  refine ⟨true, tabI_Tried_Tried, ?_⟩
  walk_at "wp"
  refine ⟨ftab_Tried_many, _, look_Tried_many, ftab_Tried_many, _, look_Tried_many, h0, g0, ?_⟩
  refine iteQ (fun c => ?_) fun c => by rw [Bool.not_eq_true _ |>.mp c, Bool.false_and] at q; exact q
  rw [c, Bool.true_and] at q
  refine ⟨ftab_Tried_borne, _, look_Tried_borne, ftab_Tried_borne, _, look_Tried_borne, h1, g1, ?_⟩
  refine iteQ (fun c => ?_) fun c => by rw [Bool.not_eq_true _ |>.mp c, Bool.false_and] at q; exact q
  rw [c, Bool.true_and] at q
  refine ⟨ftab_Tried_runs, _, look_Tried_runs, ftab_Tried_runs, _, look_Tried_runs, h2, g2, ?_⟩
  refine iteQ (fun c => ?_) fun c => by rw [Bool.not_eq_true _ |>.mp c, Bool.false_and] at q; exact q
  rw [c, Bool.true_and] at q
  refine ⟨ftab_Tried_told, _, look_Tried_told, ftab_Tried_told, _, look_Tried_told, h3, g3, ?_⟩
  refine iteQ (fun c => ?_) fun c => by rw [Bool.not_eq_true _ |>.mp c, Bool.false_and] at q; exact q
  rw [c, Bool.true_and] at q
  refine ⟨ftab_Tried_met, _, look_Tried_met, ftab_Tried_met, _, look_Tried_met, h4, g4, ?_⟩
  exact q
theorem Tried_class {x0 x1 x2 x3 x4 : Dt} {c : Str} {ns : List Str} {ds : List Dt} {Q : Dt → Prop} {E : Xc → Prop} (h : tabI_Tried c = some false) (q : Q (.bl false)) : F_Tried___eq [.d (.ins "Tried" ["many", "borne", "runs", "told", "met"] [x0, x1, x2, x3, x4]), .d (.ins c ns ds)] Q E := by
  rw [F_Tried___eq_eq]; unfold S_Tried___eq
  walk_at "wp"
  rw [eIsI_W]
  walk_at "wp"
  refine ⟨false, h, ?_⟩
  walk_at "wp"
  exact q
theorem Tried_other {x0 x1 x2 x3 x4 y : Dt} {Q : Dt → Prop} {E : Xc → Prop} (h : y.kindR = true) (q : Q (.bl false)) : F_Tried___eq [.d (.ins "Tried" ["many", "borne", "runs", "told", "met"] [x0, x1, x2, x3, x4]), .d y] Q E := by
  rw [F_Tried___eq_eq]; unfold S_Tried___eq
  walk_at "wp"
  rw [eIsI_W]
  walk_at "wp"
  cases y <;> first | (cases h; done) | exact ⟨rfl, q⟩
end Mine

namespace Mine
open PySem PySem.Spec PyProof.Rows L2
local macro_rules | `(tactic| walk_at "wp") => `(tactic| try simp -implicitDefEqProofs only [eFld_W, eFldS_W, sSetF_W, eMeth_W, eMeth0_W, eProp_W, mkI_W, mkI0_W, eVarD_W, eDic_W, eGet1_W, eGet2_W, eAtD_W, eInD_W, eNotInD_W, sOwnD_W, sPutD_W, Bool.false_eq_true, LINE_W, line0, line1, line2, line3, line4, line5, line6, line7, line8, line9, line10, line11, line12, take_W, Int.reduceLT, Int.reduceLE, Int.reduceNeg, mkD_W, mkD0_W, sSeq_W, sAsg_W, sRet_W, sRetN_W, sIf_W, sNext_W, sDrop_W, sBreak_W, sCont_W, sOwn_W, sPar_W, sPar3_W, sFrz_W, frz_W, fz_lst, fz_dk, fz_dt, sApp_W, sExt_W, sPop_W, sPopTo_W, sPut_W, sAugP_W, sAug_W, sFor_W, sRaise_W, sRaise1_W, gD_W, gD2_W, gD3_W, eVar_W, eVarB_W, eC_W, eOp_W, eUn_W, eCB_W, eNil_W, eCons_W, eConsS_W, eConsH_W, eTup_W, eLst_W, eCall_W, eCall0_W, eTest_W, eNotT_W, eAndT_W, eOrT_W, eTru_W, dTru_non, dTru_bl, dTru_int, dTru_lst, dTru_tup, dTru_str, dTru_dk, eBool_W, eAndV_W, eOrV_W, eNotV_W, eNotVT_W, eIf_W, eChain_W, eLc_W, eLc2_W, eYes_W, eSeq_W, eRng1_W, eRng2_W, eEnum_W, eZip_W, eSl_W, ePart_W, eNoPart_W, eRev_W, eRevL_W, eDk0_W, dAdd_int, dAdd_lst, dAdd_tup, dAdd_str, dAddL_lst, dSub_int, dMul_int, dMul_lst, dMulL_lst, dMul_tup, dFdiv_int, dMod_int, dPow_int, dShl_int, dShr_int, dLe_int, dLt_int, dGt_int, dGe_int, dNeg_int, isa_seq2, isLs_lst, isLs_tup, Bool.or_false, Bool.or_true, Bool.true_or, Bool.false_or, Bool.and_true, Bool.true_and, Bool.and_false, Bool.false_and, isSeq_lst, isSeq_tup, isTp_tup, isTp_lst, isTp_non, isTp_int, isTp_str, isW_int, dIsN_W, dNotN_W, isN_non, isN_int, isN_bl, isN_str, isN_tup, isN_lst, isN_dk, isN_dt, isN_ins, dIx_W, dSl_W, dSlL_W, dLen_W, dInt_W, dStr_W, dAbs_W, dMax2_W, dMin2_W, dTupOf_W, dLstOf_W, dIsi_W, dIsi2_W, kn_int, kn_bl, kn_non, kn_str, kn_tup, kn_lst, kn_dk, kn_dt, isa_int_int, isa_int_bool, isa_tup_tup, isa_bl_bool, isa_seq_tup, isa_seq_lst, isa_int, isa_bool, isa_seq, isa_tup, isa_str, isa_lst, dEq_int, dNe_int, Dt.flat, wipeS, List.getElem?_cons_zero, List.getElem?_cons_succ, List.set_cons_zero, List.set_cons_succ, List.replicate, List.append_nil, List.cons_append, List.nil_append, List.length_cons, List.length_nil, Nat.reduceAdd, Nat.reduceSub, Nat.zero_add, Option.isSome_some, Bool.true_eq_false, Bool.false_eq_true, if_true, if_false, ite_true, ite_false, eq_self, not_true_eq_false, not_false_eq_true, true_and, and_true, decide_eq_true_eq, Bool.not_true, Bool.not_false, Bool.not_eq_true', decide_eq_false_iff_not, decide_true, decide_false, List.length_map, List.map_cons, List.map_nil, Option.some.injEq, reduceCtorEq, Bool.not_eq_eq_eq_not, eEnumK_W, eDk1_W, eXf_W, eIsX_W, sTry_W])
def cn (k : Nat) : Str := (["NearPair", "Thinned", "MixClash", "Uneven", "Read", "TooClose", "RunPair", "SumsClash", "Web", "Told", "Clash", "TwoCuts", "Best", "Tried"] : List Str).getD k ""
def fn_ (k : Nat) : List Str := ([["one", "other", "below", "above"], ["book", "rows"], ["one", "other", "word"], ["word", "above"], ["what", "member"], ["one", "other"], ["one", "other", "apart", "longer", "shorter"], ["one", "other"], ["starts", "rests", "steps"], ["wait", "first", "second"], ["first", "second"], ["first", "second"], ["number", "book"], ["many", "borne", "runs", "told", "met"]] : List (List Str)).getD k []
def dl_ (x : Nat → Dt) (k : Nat) : List Dt := [[x 0, x 1, x 2, x 3], [x 0, x 1], [x 0, x 1, x 2], [x 0, x 1], [x 0, x 1], [x 0, x 1], [x 0, x 1, x 2, x 3, x 4], [x 0, x 1], [x 0, x 1, x 2], [x 0, x 1, x 2], [x 0, x 1], [x 0, x 1], [x 0, x 1], [x 0, x 1, x 2, x 3, x 4]].getD k []
def cnts : List Nat := [4, 2, 3, 2, 2, 2, 5, 2, 3, 3, 2, 2, 2, 5]
def cnt (k : Nat) : Nat := cnts.getD k 0
def mk (x : Nat → Dt) (k : Nat) : Dt := .ins (cn k) (fn_ k) (dl_ x k)
def pl (x : Nat → Dt) : List Dt := [x 0, x 1, x 2, x 3, x 4]
def made (x : Nat → Dt) : List Dt := [mk x 0, mk x 1, mk x 2, mk x 3, mk x 4, mk x 5, mk x 6, mk x 7, mk x 8, mk x 9, mk x 10, mk x 11, mk x 12, mk x 13]
def eqN (x y : Nat → Dt) : Nat → Bool
  | 2 => (x 0).eqv (y 0) && (x 1).eqv (y 1)
  | 3 => (x 0).eqv (y 0) && ((x 1).eqv (y 1) && (x 2).eqv (y 2))
  | 4 => (x 0).eqv (y 0) && ((x 1).eqv (y 1) && ((x 2).eqv (y 2) && (x 3).eqv (y 3)))
  | 5 => (x 0).eqv (y 0) && ((x 1).eqv (y 1) && ((x 2).eqv (y 2) && ((x 3).eqv (y 3) && (x 4).eqv (y 4))))
  | _ => true
theorem eqN_of {x y : Nat → Dt} {a n : Nat} (ha : a < 6) (h : ∀ i, i < 5 → (x i).eqv (y i) = decide (i ≠ a)) (hn : n = 2 ∨ n = 3 ∨ n = 4 ∨ n = 5) : eqN x y n = decide (¬ a < n) := by
  have h0 := h 0 (by decide)
  have h1 := h 1 (by decide)
  have h2 := h 2 (by decide)
  have h3 := h 3 (by decide)
  have h4 := h 4 (by decide)
  rcases hn with rfl | rfl | rfl | rfl <;> (unfold eqN; simp only [h0, h1, h2, h3, h4]; match a, ha with | 0, _ => rfl | 1, _ => rfl | 2, _ => rfl | 3, _ => rfl | 4, _ => rfl | 5, _ => rfl)
theorem cnt_of : ∀ k, k < 14 → cnt k = 2 ∨ cnt k = 3 ∨ cnt k = 4 ∨ cnt k = 5 := by decide +kernel
theorem made_at {x : Nat → Dt} {k : Nat} (hk : k < 14) : (made x)[k]? = some (mk x k) := by
  match k, hk with
  | 0, _ => rfl
  | 1, _ => rfl
  | 2, _ => rfl
  | 3, _ => rfl
  | 4, _ => rfl
  | 5, _ => rfl
  | 6, _ => rfl
  | 7, _ => rfl
  | 8, _ => rfl
  | 9, _ => rfl
  | 10, _ => rfl
  | 11, _ => rfl
  | 12, _ => rfl
  | 13, _ => rfl
theorem tabC_cn : ∀ k, k < 14 → tabC (cn k) = true := by decide +kernel
theorem tabI_ne_NearPair : ∀ j, j < 14 → j ≠ 0 → tabI_NearPair (cn j) = some false := by decide +kernel
theorem tabI_ne_Thinned : ∀ j, j < 14 → j ≠ 1 → tabI_Thinned (cn j) = some false := by decide +kernel
theorem tabI_ne_MixClash : ∀ j, j < 14 → j ≠ 2 → tabI_MixClash (cn j) = some false := by decide +kernel
theorem tabI_ne_Uneven : ∀ j, j < 14 → j ≠ 3 → tabI_Uneven (cn j) = some false := by decide +kernel
theorem tabI_ne_Read : ∀ j, j < 14 → j ≠ 4 → tabI_Read (cn j) = some false := by decide +kernel
theorem tabI_ne_TooClose : ∀ j, j < 14 → j ≠ 5 → tabI_TooClose (cn j) = some false := by decide +kernel
theorem tabI_ne_RunPair : ∀ j, j < 14 → j ≠ 6 → tabI_RunPair (cn j) = some false := by decide +kernel
theorem tabI_ne_SumsClash : ∀ j, j < 14 → j ≠ 7 → tabI_SumsClash (cn j) = some false := by decide +kernel
theorem tabI_ne_Web : ∀ j, j < 14 → j ≠ 8 → tabI_Web (cn j) = some false := by decide +kernel
theorem tabI_ne_Told : ∀ j, j < 14 → j ≠ 9 → tabI_Told (cn j) = some false := by decide +kernel
theorem tabI_ne_Clash : ∀ j, j < 14 → j ≠ 10 → tabI_Clash (cn j) = some false := by decide +kernel
theorem tabI_ne_TwoCuts : ∀ j, j < 14 → j ≠ 11 → tabI_TwoCuts (cn j) = some false := by decide +kernel
theorem tabI_ne_Best : ∀ j, j < 14 → j ≠ 12 → tabI_Best (cn j) = some false := by decide +kernel
theorem tabI_ne_Tried : ∀ j, j < 14 → j ≠ 13 → tabI_Tried (cn j) = some false := by decide +kernel
section
variable {x y : Nat → Dt} {k : Nat} {Q : Dt → Prop}
theorem same_k (hk : k < 14) (hx : ∀ i, i < 5 → (x i).sh) (hy : ∀ i, i < 5 → (y i).sh) (q : Q (.bl (eqN x y (cnt k)))) : dEqB tabE tabC (mk x k) (mk y k) Q := by
  match k, hk with
  | 0, _ => exact eqB_ins tabE_NearPair tabC_NearPair (NearPair_same (hx 0 (by decide)) (hy 0 (by decide)) (hx 1 (by decide)) (hy 1 (by decide)) (hx 2 (by decide)) (hy 2 (by decide)) (hx 3 (by decide)) (hy 3 (by decide)) ⟨_, rfl, q⟩)
  | 1, _ => exact eqB_ins tabE_Thinned tabC_Thinned (Thinned_same (hx 0 (by decide)) (hy 0 (by decide)) (hx 1 (by decide)) (hy 1 (by decide)) ⟨_, rfl, q⟩)
  | 2, _ => exact eqB_ins tabE_MixClash tabC_MixClash (MixClash_same (hx 0 (by decide)) (hy 0 (by decide)) (hx 1 (by decide)) (hy 1 (by decide)) (hx 2 (by decide)) (hy 2 (by decide)) ⟨_, rfl, q⟩)
  | 3, _ => exact eqB_ins tabE_Uneven tabC_Uneven (Uneven_same (hx 0 (by decide)) (hy 0 (by decide)) (hx 1 (by decide)) (hy 1 (by decide)) ⟨_, rfl, q⟩)
  | 4, _ => exact eqB_ins tabE_Read tabC_Read (Read_same (hx 0 (by decide)) (hy 0 (by decide)) (hx 1 (by decide)) (hy 1 (by decide)) ⟨_, rfl, q⟩)
  | 5, _ => exact eqB_ins tabE_TooClose tabC_TooClose (TooClose_same (hx 0 (by decide)) (hy 0 (by decide)) (hx 1 (by decide)) (hy 1 (by decide)) ⟨_, rfl, q⟩)
  | 6, _ => exact eqB_ins tabE_RunPair tabC_RunPair (RunPair_same (hx 0 (by decide)) (hy 0 (by decide)) (hx 1 (by decide)) (hy 1 (by decide)) (hx 2 (by decide)) (hy 2 (by decide)) (hx 3 (by decide)) (hy 3 (by decide)) (hx 4 (by decide)) (hy 4 (by decide)) ⟨_, rfl, q⟩)
  | 7, _ => exact eqB_ins tabE_SumsClash tabC_SumsClash (SumsClash_same (hx 0 (by decide)) (hy 0 (by decide)) (hx 1 (by decide)) (hy 1 (by decide)) ⟨_, rfl, q⟩)
  | 8, _ => exact eqB_ins tabE_Web tabC_Web (Web_same (hx 0 (by decide)) (hy 0 (by decide)) (hx 1 (by decide)) (hy 1 (by decide)) (hx 2 (by decide)) (hy 2 (by decide)) ⟨_, rfl, q⟩)
  | 9, _ => exact eqB_ins tabE_Told tabC_Told (Told_same (hx 0 (by decide)) (hy 0 (by decide)) (hx 1 (by decide)) (hy 1 (by decide)) (hx 2 (by decide)) (hy 2 (by decide)) ⟨_, rfl, q⟩)
  | 10, _ => exact eqB_ins tabE_Clash tabC_Clash (Clash_same (hx 0 (by decide)) (hy 0 (by decide)) (hx 1 (by decide)) (hy 1 (by decide)) ⟨_, rfl, q⟩)
  | 11, _ => exact eqB_ins tabE_TwoCuts tabC_TwoCuts (TwoCuts_same (hx 0 (by decide)) (hy 0 (by decide)) (hx 1 (by decide)) (hy 1 (by decide)) ⟨_, rfl, q⟩)
  | 12, _ => exact eqB_ins tabE_Best tabC_Best (Best_same (hx 0 (by decide)) (hy 0 (by decide)) (hx 1 (by decide)) (hy 1 (by decide)) ⟨_, rfl, q⟩)
  | 13, _ => exact eqB_ins tabE_Tried tabC_Tried (Tried_same (hx 0 (by decide)) (hy 0 (by decide)) (hx 1 (by decide)) (hy 1 (by decide)) (hx 2 (by decide)) (hy 2 (by decide)) (hx 3 (by decide)) (hy 3 (by decide)) (hx 4 (by decide)) (hy 4 (by decide)) ⟨_, rfl, q⟩)
theorem diff_k {j : Nat} (hk : k < 14) (hj : j < 14) (hne : j ≠ k) (q : Q (.bl false)) : dEqB tabE tabC (mk x k) (mk y j) Q := by
  match k, hk with
  | 0, _ => exact eqB_ins tabE_NearPair (tabC_cn j hj) (NearPair_class (tabI_ne_NearPair j hj hne) ⟨_, rfl, q⟩)
  | 1, _ => exact eqB_ins tabE_Thinned (tabC_cn j hj) (Thinned_class (tabI_ne_Thinned j hj hne) ⟨_, rfl, q⟩)
  | 2, _ => exact eqB_ins tabE_MixClash (tabC_cn j hj) (MixClash_class (tabI_ne_MixClash j hj hne) ⟨_, rfl, q⟩)
  | 3, _ => exact eqB_ins tabE_Uneven (tabC_cn j hj) (Uneven_class (tabI_ne_Uneven j hj hne) ⟨_, rfl, q⟩)
  | 4, _ => exact eqB_ins tabE_Read (tabC_cn j hj) (Read_class (tabI_ne_Read j hj hne) ⟨_, rfl, q⟩)
  | 5, _ => exact eqB_ins tabE_TooClose (tabC_cn j hj) (TooClose_class (tabI_ne_TooClose j hj hne) ⟨_, rfl, q⟩)
  | 6, _ => exact eqB_ins tabE_RunPair (tabC_cn j hj) (RunPair_class (tabI_ne_RunPair j hj hne) ⟨_, rfl, q⟩)
  | 7, _ => exact eqB_ins tabE_SumsClash (tabC_cn j hj) (SumsClash_class (tabI_ne_SumsClash j hj hne) ⟨_, rfl, q⟩)
  | 8, _ => exact eqB_ins tabE_Web (tabC_cn j hj) (Web_class (tabI_ne_Web j hj hne) ⟨_, rfl, q⟩)
  | 9, _ => exact eqB_ins tabE_Told (tabC_cn j hj) (Told_class (tabI_ne_Told j hj hne) ⟨_, rfl, q⟩)
  | 10, _ => exact eqB_ins tabE_Clash (tabC_cn j hj) (Clash_class (tabI_ne_Clash j hj hne) ⟨_, rfl, q⟩)
  | 11, _ => exact eqB_ins tabE_TwoCuts (tabC_cn j hj) (TwoCuts_class (tabI_ne_TwoCuts j hj hne) ⟨_, rfl, q⟩)
  | 12, _ => exact eqB_ins tabE_Best (tabC_cn j hj) (Best_class (tabI_ne_Best j hj hne) ⟨_, rfl, q⟩)
  | 13, _ => exact eqB_ins tabE_Tried (tabC_cn j hj) (Tried_class (tabI_ne_Tried j hj hne) ⟨_, rfl, q⟩)
theorem left_k {d : Dt} (hk : k < 14) (hd : d.kindR = true) (q : Q (.bl false)) : dEqB tabE tabC (mk x k) d Q := by
  match k, hk with
  | 0, _ => exact eqB_left tabE_NearPair hd (NearPair_other hd ⟨_, rfl, q⟩)
  | 1, _ => exact eqB_left tabE_Thinned hd (Thinned_other hd ⟨_, rfl, q⟩)
  | 2, _ => exact eqB_left tabE_MixClash hd (MixClash_other hd ⟨_, rfl, q⟩)
  | 3, _ => exact eqB_left tabE_Uneven hd (Uneven_other hd ⟨_, rfl, q⟩)
  | 4, _ => exact eqB_left tabE_Read hd (Read_other hd ⟨_, rfl, q⟩)
  | 5, _ => exact eqB_left tabE_TooClose hd (TooClose_other hd ⟨_, rfl, q⟩)
  | 6, _ => exact eqB_left tabE_RunPair hd (RunPair_other hd ⟨_, rfl, q⟩)
  | 7, _ => exact eqB_left tabE_SumsClash hd (SumsClash_other hd ⟨_, rfl, q⟩)
  | 8, _ => exact eqB_left tabE_Web hd (Web_other hd ⟨_, rfl, q⟩)
  | 9, _ => exact eqB_left tabE_Told hd (Told_other hd ⟨_, rfl, q⟩)
  | 10, _ => exact eqB_left tabE_Clash hd (Clash_other hd ⟨_, rfl, q⟩)
  | 11, _ => exact eqB_left tabE_TwoCuts hd (TwoCuts_other hd ⟨_, rfl, q⟩)
  | 12, _ => exact eqB_left tabE_Best hd (Best_other hd ⟨_, rfl, q⟩)
  | 13, _ => exact eqB_left tabE_Tried hd (Tried_other hd ⟨_, rfl, q⟩)
theorem right_k {d : Dt} (hk : k < 14) (hd : d.kindR = true) (q : Q (.bl false)) : dEqB tabE tabC d (mk x k) Q := by
  match k, hk with
  | 0, _ => exact eqB_right tabE_NearPair hd (NearPair_other hd ⟨_, rfl, q⟩)
  | 1, _ => exact eqB_right tabE_Thinned hd (Thinned_other hd ⟨_, rfl, q⟩)
  | 2, _ => exact eqB_right tabE_MixClash hd (MixClash_other hd ⟨_, rfl, q⟩)
  | 3, _ => exact eqB_right tabE_Uneven hd (Uneven_other hd ⟨_, rfl, q⟩)
  | 4, _ => exact eqB_right tabE_Read hd (Read_other hd ⟨_, rfl, q⟩)
  | 5, _ => exact eqB_right tabE_TooClose hd (TooClose_other hd ⟨_, rfl, q⟩)
  | 6, _ => exact eqB_right tabE_RunPair hd (RunPair_other hd ⟨_, rfl, q⟩)
  | 7, _ => exact eqB_right tabE_SumsClash hd (SumsClash_other hd ⟨_, rfl, q⟩)
  | 8, _ => exact eqB_right tabE_Web hd (Web_other hd ⟨_, rfl, q⟩)
  | 9, _ => exact eqB_right tabE_Told hd (Told_other hd ⟨_, rfl, q⟩)
  | 10, _ => exact eqB_right tabE_Clash hd (Clash_other hd ⟨_, rfl, q⟩)
  | 11, _ => exact eqB_right tabE_TwoCuts hd (TwoCuts_other hd ⟨_, rfl, q⟩)
  | 12, _ => exact eqB_right tabE_Best hd (Best_other hd ⟨_, rfl, q⟩)
  | 13, _ => exact eqB_right tabE_Tried hd (Tried_other hd ⟨_, rfl, q⟩)
end
theorem law_many_ok {Q : Dt → Prop} {E : Xc → Prop} (q : Q (.lst (cnts.map fun n : Nat => .int (n : Nat)))) : F_law_many [] Q E := by
  rw [F_law_many_eq]; unfold S_law_many
  walk_at "wp"
  exact ⟨by decide, q⟩
theorem law_made_ok {x : Nat → Dt} {Q : Dt → Prop} {E : Xc → Prop} (q : Q (.lst (made x))) : F_law_made [.d (.lst (pl x))] Q E := by
  rw [F_law_made_eq]; unfold S_law_made
  walk_at "wp"
  refine ix_get (n := 0) rfl rfl ?_
  walk_at "wp"
  refine ix_get (n := 1) rfl rfl ?_
  walk_at "wp"
  refine ix_get (n := 2) rfl rfl ?_
  walk_at "wp"
  refine ix_get (n := 3) rfl rfl ?_
  walk_at "wp"
  refine NearPair_make ?_
  refine ⟨by decide, ?_⟩
  walk_at "wp"
  refine ix_get (n := 0) rfl rfl ?_
  walk_at "wp"
  refine ix_get (n := 1) rfl rfl ?_
  walk_at "wp"
  refine Thinned_make ?_
  refine ⟨by decide, ?_⟩
  walk_at "wp"
  refine ix_get (n := 0) rfl rfl ?_
  walk_at "wp"
  refine ix_get (n := 1) rfl rfl ?_
  walk_at "wp"
  refine ix_get (n := 2) rfl rfl ?_
  walk_at "wp"
  refine MixClash_make ?_
  refine ⟨by decide, ?_⟩
  walk_at "wp"
  refine ix_get (n := 0) rfl rfl ?_
  walk_at "wp"
  refine ix_get (n := 1) rfl rfl ?_
  walk_at "wp"
  refine Uneven_make ?_
  refine ⟨by decide, ?_⟩
  walk_at "wp"
  refine ix_get (n := 0) rfl rfl ?_
  walk_at "wp"
  refine ix_get (n := 1) rfl rfl ?_
  walk_at "wp"
  refine Read_make ?_
  refine ⟨by decide, ?_⟩
  walk_at "wp"
  refine ix_get (n := 0) rfl rfl ?_
  walk_at "wp"
  refine ix_get (n := 1) rfl rfl ?_
  walk_at "wp"
  refine TooClose_make ?_
  refine ⟨by decide, ?_⟩
  walk_at "wp"
  refine ix_get (n := 0) rfl rfl ?_
  walk_at "wp"
  refine ix_get (n := 1) rfl rfl ?_
  walk_at "wp"
  refine ix_get (n := 2) rfl rfl ?_
  walk_at "wp"
  refine ix_get (n := 3) rfl rfl ?_
  walk_at "wp"
  refine ix_get (n := 4) rfl rfl ?_
  walk_at "wp"
  refine RunPair_make ?_
  refine ⟨by decide, ?_⟩
  walk_at "wp"
  refine ix_get (n := 0) rfl rfl ?_
  walk_at "wp"
  refine ix_get (n := 1) rfl rfl ?_
  walk_at "wp"
  refine SumsClash_make ?_
  refine ⟨by decide, ?_⟩
  walk_at "wp"
  refine ix_get (n := 0) rfl rfl ?_
  walk_at "wp"
  refine ix_get (n := 1) rfl rfl ?_
  walk_at "wp"
  refine ix_get (n := 2) rfl rfl ?_
  walk_at "wp"
  refine Web_make ?_
  refine ⟨by decide, ?_⟩
  walk_at "wp"
  refine ix_get (n := 0) rfl rfl ?_
  walk_at "wp"
  refine ix_get (n := 1) rfl rfl ?_
  walk_at "wp"
  refine ix_get (n := 2) rfl rfl ?_
  walk_at "wp"
  refine Told_make ?_
  refine ⟨by decide, ?_⟩
  walk_at "wp"
  refine ix_get (n := 0) rfl rfl ?_
  walk_at "wp"
  refine ix_get (n := 1) rfl rfl ?_
  walk_at "wp"
  refine Clash_make ?_
  refine ⟨by decide, ?_⟩
  walk_at "wp"
  refine ix_get (n := 0) rfl rfl ?_
  walk_at "wp"
  refine ix_get (n := 1) rfl rfl ?_
  walk_at "wp"
  refine TwoCuts_make ?_
  refine ⟨by decide, ?_⟩
  walk_at "wp"
  refine ix_get (n := 0) rfl rfl ?_
  walk_at "wp"
  refine ix_get (n := 1) rfl rfl ?_
  walk_at "wp"
  refine Best_make ?_
  refine ⟨by decide, ?_⟩
  walk_at "wp"
  refine ix_get (n := 0) rfl rfl ?_
  walk_at "wp"
  refine ix_get (n := 1) rfl rfl ?_
  walk_at "wp"
  refine ix_get (n := 2) rfl rfl ?_
  walk_at "wp"
  refine ix_get (n := 3) rfl rfl ?_
  walk_at "wp"
  refine ix_get (n := 4) rfl rfl ?_
  walk_at "wp"
  refine Tried_make ?_
  refine ⟨by decide, ?_⟩
  walk_at "wp"
  exact q
theorem law_is_kind_ok {x : Nat → Dt} {Q : Dt → Prop} {E : Xc → Prop} (q : Q (.lst (List.replicate 14 (.bl true)))) : F_law_is_kind [.d (.lst (made x))] Q E := by
  rw [F_law_is_kind_eq]; unfold S_law_is_kind
  walk_at "wp"
  rw [eIsI_W]
  walk_at "wp"
  refine ix_get (n := 0) rfl rfl ?_
  refine ⟨true, tabI_NearPair_NearPair, ?_⟩
  refine ⟨by decide, ?_⟩
  walk_at "wp"
  rw [eIsI_W]
  walk_at "wp"
  refine ix_get (n := 1) rfl rfl ?_
  refine ⟨true, tabI_Thinned_Thinned, ?_⟩
  refine ⟨by decide, ?_⟩
  walk_at "wp"
  rw [eIsI_W]
  walk_at "wp"
  refine ix_get (n := 2) rfl rfl ?_
  refine ⟨true, tabI_MixClash_MixClash, ?_⟩
  refine ⟨by decide, ?_⟩
  walk_at "wp"
  rw [eIsI_W]
  walk_at "wp"
  refine ix_get (n := 3) rfl rfl ?_
  refine ⟨true, tabI_Uneven_Uneven, ?_⟩
  refine ⟨by decide, ?_⟩
  walk_at "wp"
  rw [eIsI_W]
  walk_at "wp"
  refine ix_get (n := 4) rfl rfl ?_
  refine ⟨true, tabI_Read_Read, ?_⟩
  refine ⟨by decide, ?_⟩
  walk_at "wp"
  rw [eIsI_W]
  walk_at "wp"
  refine ix_get (n := 5) rfl rfl ?_
  refine ⟨true, tabI_TooClose_TooClose, ?_⟩
  refine ⟨by decide, ?_⟩
  walk_at "wp"
  rw [eIsI_W]
  walk_at "wp"
  refine ix_get (n := 6) rfl rfl ?_
  refine ⟨true, tabI_RunPair_RunPair, ?_⟩
  refine ⟨by decide, ?_⟩
  walk_at "wp"
  rw [eIsI_W]
  walk_at "wp"
  refine ix_get (n := 7) rfl rfl ?_
  refine ⟨true, tabI_SumsClash_SumsClash, ?_⟩
  refine ⟨by decide, ?_⟩
  walk_at "wp"
  rw [eIsI_W]
  walk_at "wp"
  refine ix_get (n := 8) rfl rfl ?_
  refine ⟨true, tabI_Web_Web, ?_⟩
  refine ⟨by decide, ?_⟩
  walk_at "wp"
  rw [eIsI_W]
  walk_at "wp"
  refine ix_get (n := 9) rfl rfl ?_
  refine ⟨true, tabI_Told_Told, ?_⟩
  refine ⟨by decide, ?_⟩
  walk_at "wp"
  rw [eIsI_W]
  walk_at "wp"
  refine ix_get (n := 10) rfl rfl ?_
  refine ⟨true, tabI_Clash_Clash, ?_⟩
  refine ⟨by decide, ?_⟩
  walk_at "wp"
  rw [eIsI_W]
  walk_at "wp"
  refine ix_get (n := 11) rfl rfl ?_
  refine ⟨true, tabI_TwoCuts_TwoCuts, ?_⟩
  refine ⟨by decide, ?_⟩
  walk_at "wp"
  rw [eIsI_W]
  walk_at "wp"
  refine ix_get (n := 12) rfl rfl ?_
  refine ⟨true, tabI_Best_Best, ?_⟩
  refine ⟨by decide, ?_⟩
  walk_at "wp"
  rw [eIsI_W]
  walk_at "wp"
  refine ix_get (n := 13) rfl rfl ?_
  refine ⟨true, tabI_Tried_Tried, ?_⟩
  refine ⟨by decide, ?_⟩
  walk_at "wp"
  exact q
theorem law_kept_ok {x : Nat → Dt} {Q : Dt → Prop} {E : Xc → Prop} (q : Q (.lst (cnts.map fun n : Nat => .lst ((pl x).take n)))) : F_law_kept [.d (.lst (made x))] Q E := by
  rw [F_law_kept_eq]; unfold S_law_kept
  walk_at "wp"
  rw [S_law_kept_r2_eq]
  walk_at "wp"
  refine ix_get (n := 0) rfl rfl ?_
  walk_at "wp"
  rw [S_law_kept_r3_eq]
  walk_at "wp"
  dsimp only [mk]
  refine ⟨ftab_NearPair_one, _, look_NearPair_one, ?_⟩
  walk_at "wp"
  refine ⟨ftab_NearPair_other, _, look_NearPair_other, ?_⟩
  walk_at "wp"
  refine ⟨ftab_NearPair_below, _, look_NearPair_below, ?_⟩
  walk_at "wp"
  refine ⟨ftab_NearPair_above, _, look_NearPair_above, ?_⟩
  walk_at "wp"
  refine ⟨by decide, ?_⟩
  walk_at "wp"
  rw [S_law_kept_r4_eq]
  walk_at "wp"
  refine ix_get (n := 1) rfl rfl ?_
  walk_at "wp"
  rw [S_law_kept_r5_eq]
  walk_at "wp"
  dsimp only [mk]
  refine ⟨ftab_Thinned_book, _, look_Thinned_book, ?_⟩
  walk_at "wp"
  refine ⟨ftab_Thinned_rows, _, look_Thinned_rows, ?_⟩
  walk_at "wp"
  refine ⟨by decide, ?_⟩
  walk_at "wp"
  rw [S_law_kept_r6_eq]
  walk_at "wp"
  refine ix_get (n := 2) rfl rfl ?_
  walk_at "wp"
  rw [S_law_kept_r7_eq]
  walk_at "wp"
  dsimp only [mk]
  refine ⟨ftab_MixClash_one, _, look_MixClash_one, ?_⟩
  walk_at "wp"
  refine ⟨ftab_MixClash_other, _, look_MixClash_other, ?_⟩
  walk_at "wp"
  refine ⟨ftab_MixClash_word, _, look_MixClash_word, ?_⟩
  walk_at "wp"
  refine ⟨by decide, ?_⟩
  walk_at "wp"
  rw [S_law_kept_r8_eq]
  walk_at "wp"
  refine ix_get (n := 3) rfl rfl ?_
  walk_at "wp"
  rw [S_law_kept_r9_eq]
  walk_at "wp"
  dsimp only [mk]
  refine ⟨ftab_Uneven_word, _, look_Uneven_word, ?_⟩
  walk_at "wp"
  refine ⟨ftab_Uneven_above, _, look_Uneven_above, ?_⟩
  walk_at "wp"
  refine ⟨by decide, ?_⟩
  walk_at "wp"
  rw [S_law_kept_r10_eq]
  walk_at "wp"
  refine ix_get (n := 4) rfl rfl ?_
  walk_at "wp"
  rw [S_law_kept_r11_eq]
  walk_at "wp"
  dsimp only [mk]
  refine ⟨ftab_Read_what, _, look_Read_what, ?_⟩
  walk_at "wp"
  refine ⟨ftab_Read_member, _, look_Read_member, ?_⟩
  walk_at "wp"
  refine ⟨by decide, ?_⟩
  walk_at "wp"
  rw [S_law_kept_r12_eq]
  walk_at "wp"
  refine ix_get (n := 5) rfl rfl ?_
  walk_at "wp"
  rw [S_law_kept_r13_eq]
  walk_at "wp"
  dsimp only [mk]
  refine ⟨ftab_TooClose_one, _, look_TooClose_one, ?_⟩
  walk_at "wp"
  refine ⟨ftab_TooClose_other, _, look_TooClose_other, ?_⟩
  walk_at "wp"
  refine ⟨by decide, ?_⟩
  walk_at "wp"
  rw [S_law_kept_r14_eq]
  walk_at "wp"
  refine ix_get (n := 6) rfl rfl ?_
  walk_at "wp"
  rw [S_law_kept_r15_eq]
  walk_at "wp"
  dsimp only [mk]
  refine ⟨ftab_RunPair_one, _, look_RunPair_one, ?_⟩
  walk_at "wp"
  refine ⟨ftab_RunPair_other, _, look_RunPair_other, ?_⟩
  walk_at "wp"
  refine ⟨ftab_RunPair_apart, _, look_RunPair_apart, ?_⟩
  walk_at "wp"
  refine ⟨ftab_RunPair_longer, _, look_RunPair_longer, ?_⟩
  walk_at "wp"
  refine ⟨ftab_RunPair_shorter, _, look_RunPair_shorter, ?_⟩
  walk_at "wp"
  refine ⟨by decide, ?_⟩
  walk_at "wp"
  rw [S_law_kept_r16_eq]
  walk_at "wp"
  refine ix_get (n := 7) rfl rfl ?_
  walk_at "wp"
  rw [S_law_kept_r17_eq]
  walk_at "wp"
  dsimp only [mk]
  refine ⟨ftab_SumsClash_one, _, look_SumsClash_one, ?_⟩
  walk_at "wp"
  refine ⟨ftab_SumsClash_other, _, look_SumsClash_other, ?_⟩
  walk_at "wp"
  refine ⟨by decide, ?_⟩
  walk_at "wp"
  rw [S_law_kept_r18_eq]
  walk_at "wp"
  refine ix_get (n := 8) rfl rfl ?_
  walk_at "wp"
  rw [S_law_kept_r19_eq]
  walk_at "wp"
  dsimp only [mk]
  refine ⟨ftab_Web_starts, _, look_Web_starts, ?_⟩
  walk_at "wp"
  refine ⟨ftab_Web_rests, _, look_Web_rests, ?_⟩
  walk_at "wp"
  refine ⟨ftab_Web_steps, _, look_Web_steps, ?_⟩
  walk_at "wp"
  refine ⟨by decide, ?_⟩
  walk_at "wp"
  rw [S_law_kept_r20_eq]
  walk_at "wp"
  refine ix_get (n := 9) rfl rfl ?_
  walk_at "wp"
  rw [S_law_kept_r21_eq]
  walk_at "wp"
  dsimp only [mk]
  refine ⟨ftab_Told_wait, _, look_Told_wait, ?_⟩
  walk_at "wp"
  refine ⟨ftab_Told_first, _, look_Told_first, ?_⟩
  walk_at "wp"
  refine ⟨ftab_Told_second, _, look_Told_second, ?_⟩
  walk_at "wp"
  refine ⟨by decide, ?_⟩
  walk_at "wp"
  rw [S_law_kept_r22_eq]
  walk_at "wp"
  refine ix_get (n := 10) rfl rfl ?_
  walk_at "wp"
  rw [S_law_kept_r23_eq]
  walk_at "wp"
  dsimp only [mk]
  refine ⟨ftab_Clash_first, _, look_Clash_first, ?_⟩
  walk_at "wp"
  refine ⟨ftab_Clash_second, _, look_Clash_second, ?_⟩
  walk_at "wp"
  refine ⟨by decide, ?_⟩
  walk_at "wp"
  rw [S_law_kept_r24_eq]
  walk_at "wp"
  refine ix_get (n := 11) rfl rfl ?_
  walk_at "wp"
  rw [S_law_kept_r25_eq]
  walk_at "wp"
  dsimp only [mk]
  refine ⟨ftab_TwoCuts_first, _, look_TwoCuts_first, ?_⟩
  walk_at "wp"
  refine ⟨ftab_TwoCuts_second, _, look_TwoCuts_second, ?_⟩
  walk_at "wp"
  refine ⟨by decide, ?_⟩
  walk_at "wp"
  rw [S_law_kept_r26_eq]
  walk_at "wp"
  refine ix_get (n := 12) rfl rfl ?_
  walk_at "wp"
  rw [S_law_kept_r27_eq]
  walk_at "wp"
  dsimp only [mk]
  refine ⟨ftab_Best_number, _, look_Best_number, ?_⟩
  walk_at "wp"
  refine ⟨ftab_Best_book, _, look_Best_book, ?_⟩
  walk_at "wp"
  refine ⟨by decide, ?_⟩
  walk_at "wp"
  rw [S_law_kept_r28_eq]
  walk_at "wp"
  refine ix_get (n := 13) rfl rfl ?_
  walk_at "wp"
  rw [S_law_kept_r29_eq]
  walk_at "wp"
  dsimp only [mk]
  refine ⟨ftab_Tried_many, _, look_Tried_many, ?_⟩
  walk_at "wp"
  refine ⟨ftab_Tried_borne, _, look_Tried_borne, ?_⟩
  walk_at "wp"
  refine ⟨ftab_Tried_runs, _, look_Tried_runs, ?_⟩
  walk_at "wp"
  refine ⟨ftab_Tried_told, _, look_Tried_told, ?_⟩
  walk_at "wp"
  refine ⟨ftab_Tried_met, _, look_Tried_met, ?_⟩
  walk_at "wp"
  refine ⟨by decide, ?_⟩
  walk_at "wp"
  rw [S_law_kept_r30_eq]
  walk_at "wp"
  exact q
end Mine

namespace Mine
open PySem PySem.Spec PyProof.Rows L2
local macro_rules | `(tactic| walk_at "wp") => `(tactic| try simp -implicitDefEqProofs only [eFld_W, eFldS_W, sSetF_W, eMeth_W, eMeth0_W, eProp_W, mkI_W, mkI0_W, eVarD_W, eDic_W, eGet1_W, eGet2_W, eAtD_W, eInD_W, eNotInD_W, sOwnD_W, sPutD_W, Bool.false_eq_true, LINE_W, line0, line1, line2, line3, line4, line5, line6, line7, line8, line9, line10, line11, line12, take_W, Int.reduceLT, Int.reduceLE, Int.reduceNeg, mkD_W, mkD0_W, sSeq_W, sAsg_W, sRet_W, sRetN_W, sIf_W, sNext_W, sDrop_W, sBreak_W, sCont_W, sOwn_W, sPar_W, sPar3_W, sFrz_W, frz_W, fz_lst, fz_dk, fz_dt, sApp_W, sExt_W, sPop_W, sPopTo_W, sPut_W, sAugP_W, sAug_W, sFor_W, sRaise_W, sRaise1_W, gD_W, gD2_W, gD3_W, eVar_W, eVarB_W, eC_W, eOp_W, eUn_W, eCB_W, eNil_W, eCons_W, eConsS_W, eConsH_W, eTup_W, eLst_W, eCall_W, eCall0_W, eTest_W, eNotT_W, eAndT_W, eOrT_W, eTru_W, dTru_non, dTru_bl, dTru_int, dTru_lst, dTru_tup, dTru_str, dTru_dk, eBool_W, eAndV_W, eOrV_W, eNotV_W, eNotVT_W, eIf_W, eChain_W, eLc_W, eLc2_W, eYes_W, eSeq_W, eRng1_W, eRng2_W, eEnum_W, eZip_W, eSl_W, ePart_W, eNoPart_W, eRev_W, eRevL_W, eDk0_W, dAdd_int, dAdd_lst, dAdd_tup, dAdd_str, dAddL_lst, dSub_int, dMul_int, dMul_lst, dMulL_lst, dMul_tup, dFdiv_int, dMod_int, dPow_int, dShl_int, dShr_int, dLe_int, dLt_int, dGt_int, dGe_int, dNeg_int, isa_seq2, isLs_lst, isLs_tup, Bool.or_false, Bool.or_true, Bool.true_or, Bool.false_or, Bool.and_true, Bool.true_and, Bool.and_false, Bool.false_and, isSeq_lst, isSeq_tup, isTp_tup, isTp_lst, isTp_non, isTp_int, isTp_str, isW_int, dIsN_W, dNotN_W, isN_non, isN_int, isN_bl, isN_str, isN_tup, isN_lst, isN_dk, isN_dt, isN_ins, dIx_W, dSl_W, dSlL_W, dLen_W, dInt_W, dStr_W, dAbs_W, dMax2_W, dMin2_W, dTupOf_W, dLstOf_W, dIsi_W, dIsi2_W, kn_int, kn_bl, kn_non, kn_str, kn_tup, kn_lst, kn_dk, kn_dt, isa_int_int, isa_int_bool, isa_tup_tup, isa_bl_bool, isa_seq_tup, isa_seq_lst, isa_int, isa_bool, isa_seq, isa_tup, isa_str, isa_lst, dEq_int, dNe_int, Dt.flat, wipeS, List.getElem?_cons_zero, List.getElem?_cons_succ, List.set_cons_zero, List.set_cons_succ, List.replicate, List.append_nil, List.cons_append, List.nil_append, List.length_cons, List.length_nil, Nat.reduceAdd, Nat.reduceSub, Nat.zero_add, Option.isSome_some, Bool.true_eq_false, Bool.false_eq_true, if_true, if_false, ite_true, ite_false, eq_self, not_true_eq_false, not_false_eq_true, true_and, and_true, decide_eq_true_eq, Bool.not_true, Bool.not_false, Bool.not_eq_true', decide_eq_false_iff_not, decide_true, decide_false, List.length_map, List.map_cons, List.map_nil, Option.some.injEq, reduceCtorEq, Bool.not_eq_eq_eq_not, eEnumK_W, eDk1_W, eXf_W, eIsX_W, sTry_W])
/-- a word of letters below q -/
def Wd (q n : Nat) (w : List Int) : Prop := w.length = n ∧ ∀ x ∈ w, 0 ≤ x ∧ x < q
theorem ints_of_dts {P : Int → Prop} : ∀ {ys : List Dt}, (∀ y ∈ ys, ∃ i : Int, y = .int i ∧ P i) → ∃ w : List Int, ys = w.map .int ∧ ∀ x ∈ w, P x
  | [], _ => ⟨[], rfl, by simp⟩
  | y :: ys, h => by
    obtain ⟨i, e, p⟩ := h y List.mem_cons_self
    obtain ⟨w, e2, p2⟩ := ints_of_dts fun z hz => h z (List.mem_cons_of_mem _ hz)
    exact ⟨i :: w, by rw [e, e2]; rfl, fun x hx => by
      rcases List.mem_cons.mp hx with r | r
      · rw [r]; exact p
      · exact p2 x r⟩
theorem dts_inj2 : ∀ {x y : List Int}, x.map Dt.int = y.map Dt.int → x = y
  | [], [], _ => rfl
  | [], _ :: _, h => by cases h
  | _ :: _, [], h => by cases h
  | a :: x, b :: y, h => by
    rw [List.map_cons, List.map_cons] at h
    injection h with h1 h2
    injection h1 with h1
    rw [h1, dts_inj2 h2]
end Mine

namespace Mine
open PySem PySem.Spec PyProof.Rows L2
local macro_rules | `(tactic| walk_at "wp") => `(tactic| try simp -implicitDefEqProofs only [eFld_W, eFldS_W, sSetF_W, eMeth_W, eMeth0_W, eProp_W, mkI_W, mkI0_W, eVarD_W, eDic_W, eGet1_W, eGet2_W, eAtD_W, eInD_W, eNotInD_W, sOwnD_W, sPutD_W, Bool.false_eq_true, LINE_W, line0, line1, line2, line3, line4, line5, line6, line7, line8, line9, line10, line11, line12, take_W, Int.reduceLT, Int.reduceLE, Int.reduceNeg, mkD_W, mkD0_W, sSeq_W, sAsg_W, sRet_W, sRetN_W, sIf_W, sNext_W, sDrop_W, sBreak_W, sCont_W, sOwn_W, sPar_W, sPar3_W, sFrz_W, frz_W, fz_lst, fz_dk, fz_dt, sApp_W, sExt_W, sPop_W, sPopTo_W, sPut_W, sAugP_W, sAug_W, sFor_W, sRaise_W, sRaise1_W, gD_W, gD2_W, gD3_W, eVar_W, eVarB_W, eC_W, eOp_W, eUn_W, eCB_W, eNil_W, eCons_W, eConsS_W, eConsH_W, eTup_W, eLst_W, eCall_W, eCall0_W, eTest_W, eNotT_W, eAndT_W, eOrT_W, eTru_W, dTru_non, dTru_bl, dTru_int, dTru_lst, dTru_tup, dTru_str, dTru_dk, eBool_W, eAndV_W, eOrV_W, eNotV_W, eNotVT_W, eIf_W, eChain_W, eLc_W, eLc2_W, eYes_W, eSeq_W, eRng1_W, eRng2_W, eEnum_W, eZip_W, eSl_W, ePart_W, eNoPart_W, eRev_W, eRevL_W, eDk0_W, dAdd_int, dAdd_lst, dAdd_tup, dAdd_str, dAddL_lst, dSub_int, dMul_int, dMul_lst, dMulL_lst, dMul_tup, dFdiv_int, dMod_int, dPow_int, dShl_int, dShr_int, dLe_int, dLt_int, dGt_int, dGe_int, dNeg_int, isa_seq2, isLs_lst, isLs_tup, Bool.or_false, Bool.or_true, Bool.true_or, Bool.false_or, Bool.and_true, Bool.true_and, Bool.and_false, Bool.false_and, isSeq_lst, isSeq_tup, isTp_tup, isTp_lst, isTp_non, isTp_int, isTp_str, isW_int, dIsN_W, dNotN_W, isN_non, isN_int, isN_bl, isN_str, isN_tup, isN_lst, isN_dk, isN_dt, isN_ins, dIx_W, dSl_W, dSlL_W, dLen_W, dInt_W, dStr_W, dAbs_W, dMax2_W, dMin2_W, dTupOf_W, dLstOf_W, dIsi_W, dIsi2_W, kn_int, kn_bl, kn_non, kn_str, kn_tup, kn_lst, kn_dk, kn_dt, isa_int_int, isa_int_bool, isa_tup_tup, isa_bl_bool, isa_seq_tup, isa_seq_lst, isa_int, isa_bool, isa_seq, isa_tup, isa_str, isa_lst, dEq_int, dNe_int, Dt.flat, wipeS, List.getElem?_cons_zero, List.getElem?_cons_succ, List.set_cons_zero, List.set_cons_succ, List.replicate, List.append_nil, List.cons_append, List.nil_append, List.length_cons, List.length_nil, Nat.reduceAdd, Nat.reduceSub, Nat.zero_add, Option.isSome_some, Bool.true_eq_false, Bool.false_eq_true, if_true, if_false, ite_true, ite_false, eq_self, not_true_eq_false, not_false_eq_true, true_and, and_true, decide_eq_true_eq, Bool.not_true, Bool.not_false, Bool.not_eq_true', decide_eq_false_iff_not, decide_true, decide_false, List.length_map, List.map_cons, List.map_nil, Option.some.injEq, reduceCtorEq, Bool.not_eq_eq_eq_not, eEnumK_W, eDk1_W, eXf_W, eIsX_W, sTry_W])
theorem law_word_ok {q n : Nat} {Q : Dt → Prop} {E : Xc → Prop} (hq : 0 < q) (hq2 : q < 1000) (hn : n < 1000) (h : ∀ w, Wd q n w → Q (iT w)) : F_law_word [.hand, .d (.int q), .d (.int n)] Q E := by
  rw [F_law_word_eq]; unfold S_law_word
  walk_at "wp"
  refine ⟨by omega, lc_any (fun y => ∃ i : Int, y = .int i ∧ 0 ≤ i ∧ i < q) (fun x hx K hK => ?_) (by simp; omega) (by simp) fun ys e g => ?_⟩
  · walk_at "wp"
    exact ⟨by omega, fun r hr => hK _ ⟨r, rfl, by omega, hr⟩⟩
  · obtain ⟨w, rfl, hw⟩ := ints_of_dts g
    exact h w ⟨by simpa using e, hw⟩
end Mine

namespace Mine
open PySem PySem.Spec PyProof.Rows L2
local macro_rules | `(tactic| walk_at "wp") => `(tactic| try simp -implicitDefEqProofs only [eFld_W, eFldS_W, sSetF_W, eMeth_W, eMeth0_W, eProp_W, mkI_W, mkI0_W, eVarD_W, eDic_W, eGet1_W, eGet2_W, eAtD_W, eInD_W, eNotInD_W, sOwnD_W, sPutD_W, Bool.false_eq_true, LINE_W, line0, line1, line2, line3, line4, line5, line6, line7, line8, line9, line10, line11, line12, take_W, Int.reduceLT, Int.reduceLE, Int.reduceNeg, mkD_W, mkD0_W, sSeq_W, sAsg_W, sRet_W, sRetN_W, sIf_W, sNext_W, sDrop_W, sBreak_W, sCont_W, sOwn_W, sPar_W, sPar3_W, sFrz_W, frz_W, fz_lst, fz_dk, fz_dt, sApp_W, sExt_W, sPop_W, sPopTo_W, sPut_W, sAugP_W, sAug_W, sFor_W, sRaise_W, sRaise1_W, gD_W, gD2_W, gD3_W, eVar_W, eVarB_W, eC_W, eOp_W, eUn_W, eCB_W, eNil_W, eCons_W, eConsS_W, eConsH_W, eTup_W, eLst_W, eCall_W, eCall0_W, eTest_W, eNotT_W, eAndT_W, eOrT_W, eTru_W, dTru_non, dTru_bl, dTru_int, dTru_lst, dTru_tup, dTru_str, dTru_dk, eBool_W, eAndV_W, eOrV_W, eNotV_W, eNotVT_W, eIf_W, eChain_W, eLc_W, eLc2_W, eYes_W, eSeq_W, eRng1_W, eRng2_W, eEnum_W, eZip_W, eSl_W, ePart_W, eNoPart_W, eRev_W, eRevL_W, eDk0_W, dAdd_int, dAdd_lst, dAdd_tup, dAdd_str, dAddL_lst, dSub_int, dMul_int, dMul_lst, dMulL_lst, dMul_tup, dFdiv_int, dMod_int, dPow_int, dShl_int, dShr_int, dLe_int, dLt_int, dGt_int, dGe_int, dNeg_int, isa_seq2, isLs_lst, isLs_tup, Bool.or_false, Bool.or_true, Bool.true_or, Bool.false_or, Bool.and_true, Bool.true_and, Bool.and_false, Bool.false_and, isSeq_lst, isSeq_tup, isTp_tup, isTp_lst, isTp_non, isTp_int, isTp_str, isW_int, dIsN_W, dNotN_W, isN_non, isN_int, isN_bl, isN_str, isN_tup, isN_lst, isN_dk, isN_dt, isN_ins, dIx_W, dSl_W, dSlL_W, dLen_W, dInt_W, dStr_W, dAbs_W, dMax2_W, dMin2_W, dTupOf_W, dLstOf_W, dIsi_W, dIsi2_W, kn_int, kn_bl, kn_non, kn_str, kn_tup, kn_lst, kn_dk, kn_dt, isa_int_int, isa_int_bool, isa_tup_tup, isa_bl_bool, isa_seq_tup, isa_seq_lst, isa_int, isa_bool, isa_seq, isa_tup, isa_str, isa_lst, dEq_int, dNe_int, Dt.flat, wipeS, List.getElem?_cons_zero, List.getElem?_cons_succ, List.set_cons_zero, List.set_cons_succ, List.replicate, List.append_nil, List.cons_append, List.nil_append, List.length_cons, List.length_nil, Nat.reduceAdd, Nat.reduceSub, Nat.zero_add, Option.isSome_some, Bool.true_eq_false, Bool.false_eq_true, if_true, if_false, ite_true, ite_false, eq_self, not_true_eq_false, not_false_eq_true, true_and, and_true, decide_eq_true_eq, Bool.not_true, Bool.not_false, Bool.not_eq_true', decide_eq_false_iff_not, decide_true, decide_false, List.length_map, List.map_cons, List.map_nil, Option.some.injEq, reduceCtorEq, Bool.not_eq_eq_eq_not, eEnumK_W, eDk1_W, eXf_W, eIsX_W, sTry_W])
/-- what a part may be -/
def Part (d : Dt) : Prop := (∃ i, d = .int i) ∨ (∃ w, d = iT w) ∨ (∃ ws : List (List Int), d = .tup (ws.map fun w => iT w)) ∨ (∃ b, d = .bl b) ∨ d = .non ∨ (∃ s, d = .str s ∧ PyData.strOk s = true)
theorem Part.sh2 {d : Dt} (h : Part d) : d.shN 2 := by
  rcases h with ⟨i, rfl⟩ | ⟨w, rfl⟩ | ⟨ws, rfl⟩ | ⟨b, rfl⟩ | rfl | ⟨s, rfl, h⟩
  · exact shN_mono (shN_int i) (by decide)
  · exact shN_mono (eqE_T.sh w) (by decide)
  · exact shN_tup fun x hx => by obtain ⟨w, _, rfl⟩ := List.mem_map.mp hx; exact eqE_T.sh w
  · exact shN_mono (shN_bl b) (by decide)
  · exact shN_mono shN_non (by decide)
  · exact shN_mono (shN_str h) (by decide)
theorem Part.kr {d : Dt} (h : Part d) : d.kindR = true := by
  rcases h with ⟨i, rfl⟩ | ⟨w, rfl⟩ | ⟨ws, rfl⟩ | ⟨b, rfl⟩ | rfl | ⟨s, rfl, h⟩ <;> rfl
abbrev wr (d : Dt) : Dt := .tup [d, .int 7]
theorem wr_sh {d : Dt} (h : Part d) : (wr d).shN 3 := shN_tup fun x hx => by
  rcases List.mem_cons.mp hx with rfl | hx
  · exact h.sh2
  · rw [List.mem_singleton.mp hx]; exact shN_mono (shN_int 7) (by decide)
theorem int_tup (i : Int) {xs : List Dt} (h : (Dt.tup xs).sh) : (Dt.int i).eqv (.tup xs) = false ∧ (Dt.tup xs).eqv (.int i) = false := by
  obtain ⟨p, e, _⟩ := h
  have e' := e
  rw [Dt.py, Option.map_eq_some_iff] at e'
  obtain ⟨ps, _, rfl⟩ := e'
  rw [Dt.eqv_of (a := .int i) (by rw [Dt.py]) e, Dt.eqv_of (b := .int i) e (by rw [Dt.py])]
  exact ⟨by rw [PyData.eqv], by rw [PyData.eqv]⟩
theorem bl_tup (i : Bool) {xs : List Dt} (h : (Dt.tup xs).sh) : (Dt.bl i).eqv (.tup xs) = false ∧ (Dt.tup xs).eqv (.bl i) = false := by
  obtain ⟨p, e, _⟩ := h
  have e' := e
  rw [Dt.py, Option.map_eq_some_iff] at e'
  obtain ⟨ps, _, rfl⟩ := e'
  rw [Dt.eqv_of (a := .bl i) (by rw [Dt.py]) e, Dt.eqv_of (b := .bl i) e (by rw [Dt.py])]
  exact ⟨by rw [PyData.eqv], by rw [PyData.eqv]⟩
theorem str_tup (i : Str) {xs : List Dt} (h : (Dt.tup xs).sh) : (Dt.str i).eqv (.tup xs) = false ∧ (Dt.tup xs).eqv (.str i) = false := by
  obtain ⟨p, e, _⟩ := h
  have e' := e
  rw [Dt.py, Option.map_eq_some_iff] at e'
  obtain ⟨ps, _, rfl⟩ := e'
  rw [Dt.eqv_of (a := .str i) (by rw [Dt.py]) e, Dt.eqv_of (b := .str i) e (by rw [Dt.py])]
  exact ⟨by rw [PyData.eqv], by rw [PyData.eqv]⟩
theorem non_tup {xs : List Dt} (h : (Dt.tup xs).sh) : (Dt.non).eqv (.tup xs) = false ∧ (Dt.tup xs).eqv .non = false := by
  obtain ⟨p, e, _⟩ := h
  have e' := e
  rw [Dt.py, Option.map_eq_some_iff] at e'
  obtain ⟨ps, _, rfl⟩ := e'
  rw [Dt.eqv_of (a := .non) (by rw [Dt.py]) e, Dt.eqv_of (b := .non) e (by rw [Dt.py])]
  exact ⟨by rw [PyData.eqv], by rw [PyData.eqv]⟩
theorem pys_of {xs : List Dt} (h : (Dt.tup xs).sh) : ∃ ps, Dt.pys xs = some ps := by
  obtain ⟨p, e, _⟩ := h
  rw [Dt.py, Option.map_eq_some_iff] at e
  obtain ⟨ps, e, _⟩ := e
  exact ⟨ps, e⟩
theorem Part.ne {d : Dt} (h : Part d) : d.eqv (wr d) = false ∧ (wr d).eqv d = false := by
  have hs := (wr_sh h).sh
  have hp := pys_of hs
  have hd := h.sh2.sh
  rcases h with ⟨i, rfl⟩ | ⟨w, rfl⟩ | ⟨ws, rfl⟩ | ⟨b, rfl⟩ | rfl | ⟨s, rfl, h⟩
  · exact int_tup i hs
  · have := pys_of hd
    refine ⟨?_, ?_⟩
    · rw [(eqv_seq this hp).1]
      cases w with
      | nil => rfl
      | cons a w => rw [List.map_cons, eqvL, (int_tup a hd).1, Bool.false_and]
    · rw [(eqv_seq hp this).1]
      cases w with
      | nil => rfl
      | cons a w => rw [List.map_cons, eqvL, (int_tup a hd).2, Bool.false_and]
  · have := pys_of hd
    refine ⟨?_, ?_⟩
    · rw [(eqv_seq this hp).1]
      match ws with
      | [] => rfl
      | [a] => exact Bool.and_false _
      | a :: b :: ws => rw [List.map_cons, List.map_cons, eqvL, eqvL, (int_tup 7 (eqE_T.sh b).sh).2, Bool.false_and, Bool.and_false]
    · rw [(eqv_seq hp this).1]
      match ws with
      | [] => rfl
      | [a] => exact Bool.and_false _
      | a :: b :: ws => rw [List.map_cons, List.map_cons, eqvL, eqvL, (int_tup 7 (eqE_T.sh b).sh).1, Bool.false_and, Bool.and_false]
  · exact bl_tup b hs
  · exact non_tup hs
  · exact str_tup s hs
theorem iTs_of : ∀ {ys : List Dt}, (∀ y ∈ ys, ∃ w : List Int, y = iT w) → ∃ ws : List (List Int), ys = ws.map fun w => iT w
  | [], _ => ⟨[], rfl⟩
  | y :: ys, h => by
    obtain ⟨w, e⟩ := h y List.mem_cons_self
    obtain ⟨ws, e2⟩ := iTs_of fun z hz => h z (List.mem_cons_of_mem _ hz)
    exact ⟨w :: ws, by rw [e, e2]; rfl⟩
theorem law_part_ok {Q : Dt → Prop} {E : Xc → Prop} (q : ∀ d, Part d → Q d) : F_law_part [.hand] Q E := by
  rw [F_law_part_eq]; unfold S_law_part
  walk_at "wp"
  intro r hr
  refine iteQ (fun _ r2 _ => q _ (.inl ⟨_, rfl⟩)) fun _ => iteQ (fun _ r2 h2 => ?_) fun _ => iteQ (fun _ r2 h2 => ?_) fun _ r2 h2 => ?_
  · exact law_word_ok (q := 4) (by decide) (by decide) (by omega) fun w _ => q _ (.inr (.inl ⟨w, rfl⟩))
  · refine ⟨by omega, lc_any (fun y => ∃ w : List Int, y = iT w) (fun x hx K hK => ?_) (by simp; omega) (by simp) fun ys _ g => ?_⟩
    · walk_at "wp"
      intro r3 h3
      exact law_word_ok (q := 3) (by decide) (by decide) (by omega) fun w _ => hK _ ⟨w, rfl⟩
    · obtain ⟨ws, rfl⟩ := iTs_of g
      exact q _ (.inr (.inr (.inl ⟨ws, rfl⟩)))
  · have : r2 = 0 ∨ r2 = 1 ∨ r2 = 2 ∨ r2 = 3 ∨ r2 = 4 := by omega
    rcases this with rfl | rfl | rfl | rfl | rfl
    · exact ix_get (n := 0) rfl rfl (q _ (.inr (.inr (.inr (.inl ⟨_, rfl⟩)))))
    · exact ix_get (n := 1) rfl rfl (q _ (.inr (.inr (.inr (.inl ⟨_, rfl⟩)))))
    · exact ix_get (n := 2) rfl rfl (q _ (.inr (.inr (.inr (.inr (.inl rfl))))))
    · exact ix_get (n := 3) rfl rfl (q _ (.inr (.inr (.inr (.inr (.inr ⟨_, rfl, by decide +kernel⟩))))))
    · exact ix_get (n := 4) rfl rfl (q _ (.inr (.inr (.inr (.inr (.inr ⟨_, rfl, by decide +kernel⟩))))))
/-! the law's rows, from behind -/
section
variable {x : Nat → Dt}
theorem kept_sh (hx : ∀ i, i < 5 → Part (x i)) : (Dt.lst (cnts.map fun n : Nat => .lst ((pl x).take n))).sh := by
  refine (shN_lst (n := 3) fun d hd => ?_).sh
  obtain ⟨n, _, rfl⟩ := List.mem_map.mp hd
  refine shN_lst fun d hd => ?_
  have := List.mem_of_mem_take hd
  unfold pl at this
  simp only [List.mem_cons, List.not_mem_nil, or_false] at this
  rcases this with rfl | rfl | rfl | rfl | rfl <;> exact (hx _ (by decide)).sh2
theorem law_r24 {D : DEn} {s0 s1 s4 s6 s7 s8 s9 s10 : Sl} (hx : ∀ i, i < 5 → Part (x i)) (q : D.rt (.bl true)) : S_law_r24 D [s0, s1, .d (.lst (pl x)), .d (.lst (made x)), s4, .d (.lst (cnts.map fun n : Nat => .int (n : Nat))), s6, s7, s8, s9, s10] := by
  rw [S_law_r24_eq]
  walk_at "wp"
  refine law_kept_ok ?_
  walk_at "wp"
  refine lc_map (e := fun n : Nat => Dt.int (n : Nat)) (fun n : Nat => Dt.lst ((pl x).take n)) (fun n _ K hK => ?_) (by decide) ?_
  · walk_at "wp"
    rw [cutG_take rfl]; exact hK
  · exact eqB_plain rfl rfl (dEq_self (kept_sh hx) q)
end
end Mine

namespace Mine
open PySem PySem.Spec PyProof.Rows L2
local macro_rules | `(tactic| walk_at "wp") => `(tactic| try simp -implicitDefEqProofs only [eFld_W, eFldS_W, sSetF_W, eMeth_W, eMeth0_W, eProp_W, mkI_W, mkI0_W, eVarD_W, eDic_W, eGet1_W, eGet2_W, eAtD_W, eInD_W, eNotInD_W, sOwnD_W, sPutD_W, Bool.false_eq_true, LINE_W, line0, line1, line2, line3, line4, line5, line6, line7, line8, line9, line10, line11, line12, take_W, Int.reduceLT, Int.reduceLE, Int.reduceNeg, mkD_W, mkD0_W, sSeq_W, sAsg_W, sRet_W, sRetN_W, sIf_W, sNext_W, sDrop_W, sBreak_W, sCont_W, sOwn_W, sPar_W, sPar3_W, sFrz_W, frz_W, fz_lst, fz_dk, fz_dt, sApp_W, sExt_W, sPop_W, sPopTo_W, sPut_W, sAugP_W, sAug_W, sFor_W, sRaise_W, sRaise1_W, gD_W, gD2_W, gD3_W, eVar_W, eVarB_W, eC_W, eOp_W, eUn_W, eCB_W, eNil_W, eCons_W, eConsS_W, eConsH_W, eTup_W, eLst_W, eCall_W, eCall0_W, eTest_W, eNotT_W, eAndT_W, eOrT_W, eTru_W, dTru_non, dTru_bl, dTru_int, dTru_lst, dTru_tup, dTru_str, dTru_dk, eBool_W, eAndV_W, eOrV_W, eNotV_W, eNotVT_W, eIf_W, eChain_W, eLc_W, eLc2_W, eYes_W, eSeq_W, eRng1_W, eRng2_W, eEnum_W, eZip_W, eSl_W, ePart_W, eNoPart_W, eRev_W, eRevL_W, eDk0_W, dAdd_int, dAdd_lst, dAdd_tup, dAdd_str, dAddL_lst, dSub_int, dMul_int, dMul_lst, dMulL_lst, dMul_tup, dFdiv_int, dMod_int, dPow_int, dShl_int, dShr_int, dLe_int, dLt_int, dGt_int, dGe_int, dNeg_int, isa_seq2, isLs_lst, isLs_tup, Bool.or_false, Bool.or_true, Bool.true_or, Bool.false_or, Bool.and_true, Bool.true_and, Bool.and_false, Bool.false_and, isSeq_lst, isSeq_tup, isTp_tup, isTp_lst, isTp_non, isTp_int, isTp_str, isW_int, dIsN_W, dNotN_W, isN_non, isN_int, isN_bl, isN_str, isN_tup, isN_lst, isN_dk, isN_dt, isN_ins, dIx_W, dSl_W, dSlL_W, dLen_W, dInt_W, dStr_W, dAbs_W, dMax2_W, dMin2_W, dTupOf_W, dLstOf_W, dIsi_W, dIsi2_W, kn_int, kn_bl, kn_non, kn_str, kn_tup, kn_lst, kn_dk, kn_dt, isa_int_int, isa_int_bool, isa_tup_tup, isa_bl_bool, isa_seq_tup, isa_seq_lst, isa_int, isa_bool, isa_seq, isa_tup, isa_str, isa_lst, dEq_int, dNe_int, Dt.flat, wipeS, List.getElem?_cons_zero, List.getElem?_cons_succ, List.set_cons_zero, List.set_cons_succ, List.replicate, List.append_nil, List.cons_append, List.nil_append, List.length_cons, List.length_nil, Nat.reduceAdd, Nat.reduceSub, Nat.zero_add, Option.isSome_some, Bool.true_eq_false, Bool.false_eq_true, if_true, if_false, ite_true, ite_false, eq_self, not_true_eq_false, not_false_eq_true, true_and, and_true, decide_eq_true_eq, Bool.not_true, Bool.not_false, Bool.not_eq_true', decide_eq_false_iff_not, decide_true, decide_false, List.length_map, List.map_cons, List.map_nil, Option.some.injEq, reduceCtorEq, Bool.not_eq_eq_eq_not, eEnumK_W, eDk1_W, eXf_W, eIsX_W, sTry_W])
abbrev Mn : Dt := .lst (cnts.map fun n : Nat => .int (n : Nat))
theorem cnts_at : ∀ k, k < 14 → cnts[k]? = some (cnt k) := by decide +kernel
theorem rng14 {x : Nat → Dt} : -2 ^ 62 ≤ ((made x).length : Int) ∧ ((made x).length : Int) < 2 ^ 62 := by
  show -2 ^ 62 ≤ ((14 : Nat) : Int) ∧ ((14 : Nat) : Int) < 2 ^ 62
  omega
section
variable {x y : Nat → Dt}
theorem law_r21 {a : Nat} {D : DEn} {s0 s1 s2 s4 s6 s7 s8 : Sl} (ha : a < 5) (hx : ∀ i, i < 5 → (x i).sh) (hy : ∀ i, i < 5 → (y i).sh) (h1 : ∀ i, i < 5 → (x i).eqv (y i) = decide (i ≠ a)) (h2 : ∀ i, i < 5 → (y i).eqv (x i) = decide (i ≠ a))
    (q : ∀ s6, D.nx [s0, s1, s2, .d (.lst (made x)), s4, .d Mn, s6, s7, s8, .d (.int a), .d (.lst (made y))]) : S_law_r21 D [s0, s1, s2, .d (.lst (made x)), s4, .d Mn, s6, s7, s8, .d (.int a), .d (.lst (made y))] := by
  rw [S_law_r21_eq]
  walk_at "wp"
  refine ⟨rng14, ?_⟩
  refine dFor_inv (fun i e => ∃ s6, e = [s0, s1, s2, .d (.lst (made x)), s4, .d Mn, s6, s7, s8, .d (.int a), .d (.lst (made y))]) ⟨_, rfl⟩ ?_ ?_
  · rintro k z _ K B hz ⟨s6, rfl⟩ hK
    obtain ⟨hk, rfl⟩ := rng_get hz
    have hk : k < 14 := hk
    have ev1 := eqN_of (n := cnt k) (by omega) h1 (cnt_of k hk)
    have ev2 := eqN_of (n := cnt k) (by omega) h2 (cnt_of k hk)
    walk_at "wp"
    rw [S_law_b22_eq]
    walk_at "wp"
    refine ix_mget rfl (cnts_at k hk) ?_
    walk_at "wp"
    refine iteQ (fun c => ?_) fun c => ?_
    · have c : a < cnt k := by omega
      rw [show decide (¬ a < cnt k) = false from decide_eq_false (fun h => h c)] at ev1 ev2
      refine ix_get rfl (made_at hk) (ix_get rfl (made_at hk) (same_k hk hx hy ?_))
      rw [ev1]
      walk_at "wp"
      refine ix_get rfl (made_at hk) (ix_get rfl (made_at hk) (same_k hk hy hx ?_))
      rw [ev2]
      walk_at "wp"
      refine ix_mget rfl (cnts_at k hk) ?_
      walk_at "wp"
      rw [if_neg (by omega)]
      exact hK _ ⟨_, rfl⟩
    · have c : ¬ a < cnt k := by omega
      rw [show decide (¬ a < cnt k) = true from decide_eq_true c] at ev1 ev2
      refine ix_mget rfl (cnts_at k hk) ?_
      walk_at "wp"
      rw [if_pos (by omega)]
      refine ix_get rfl (made_at hk) (ix_get rfl (made_at hk) (same_k hk hx hy ?_))
      rw [ev1]
      walk_at "wp"
      exact hK _ ⟨_, rfl⟩
  · rintro _ ⟨s6, rfl⟩
    exact q _
/-- the parts with one in a tuple -/
def upd5 (x : Nat → Dt) (a : Nat) : Nat → Dt := fun i => if i = a then wr (x a) else x i
theorem pl_upd : ∀ a, a < 5 → (pl x).take a ++ [wr (x a)] ++ (pl x).drop (a + 1) = pl (upd5 x a) := by
  intro a ha
  match a, ha with
  | 0, _ => rfl
  | 1, _ => rfl
  | 2, _ => rfl
  | 3, _ => rfl
  | 4, _ => rfl
theorem pl_at : ∀ a, a < 5 → (pl x)[a]? = some (x a) := by
  intro a ha
  match a, ha with
  | 0, _ => rfl
  | 1, _ => rfl
  | 2, _ => rfl
  | 3, _ => rfl
  | 4, _ => rfl
theorem upd_sh (hx : ∀ i, i < 5 → Part (x i)) {a : Nat} (ha : a < 5) : ∀ i, i < 5 → (upd5 x a i).sh := by
  intro i hi
  unfold upd5
  split
  · exact (wr_sh (hx a ha)).sh
  · exact (hx i hi).sh2.sh
theorem upd_eq (hx : ∀ i, i < 5 → Part (x i)) {a : Nat} (ha : a < 5) : ∀ i, i < 5 → (x i).eqv (upd5 x a i) = decide (i ≠ a) ∧ (upd5 x a i).eqv (x i) = decide (i ≠ a) := by
  intro i hi
  unfold upd5
  by_cases c : i = a
  · rw [if_pos c]; subst c
    rw [(hx i hi).ne.1, (hx i hi).ne.2]
    simp
  · rw [if_neg c, Dt.eqv_self (hx i hi).sh2.sh]
    simp [c]
theorem law_r19 {D : DEn} {s0 s1 s4 s6 s7 s8 s9 s10 : Sl} (hx : ∀ i, i < 5 → Part (x i)) (q : D.rt (.bl true)) : S_law_r19 D [s0, s1, .d (.lst (pl x)), .d (.lst (made x)), s4, .d Mn, s6, s7, s8, s9, s10] := by
  rw [S_law_r19_eq]
  walk_at "wp"
  refine ⟨by omega, ?_⟩
  refine dFor_inv (fun i e => ∃ s6 s9 s10, e = [s0, s1, .d (.lst (pl x)), .d (.lst (made x)), s4, .d Mn, s6, s7, s8, s9, s10]) ⟨_, _, _, rfl⟩ ?_ ?_
  · rintro a z _ K B hz ⟨s6, s9, s10, rfl⟩ hK
    obtain ⟨ha, rfl⟩ := rng_get hz
    have ha : a < 5 := ha
    walk_at "wp"
    rw [S_law_b20_eq]
    walk_at "wp"
    refine ix_get rfl (pl_at a ha) ?_
    walk_at "wp"
    rw [cutG_take rfl, cutG_drop (k := a + 1) (by omega)]
    refine ⟨by rw [List.length_take]; show min a 5 + 1 ≤ _; omega, by rw [List.length_append, List.length_take, List.length_drop]; show min a 5 + 1 + (5 - (a + 1)) ≤ _; omega, ?_⟩
    rw [show (pl x).take a ++ [Dt.tup [x a, Dt.int 7]] ++ (pl x).drop (a + 1) = pl (upd5 x a) from pl_upd a ha]
    refine law_made_ok ?_
    exact law_r21 ha (fun i hi => (hx i hi).sh2.sh) (upd_sh hx ha) (fun i hi => (upd_eq hx ha i hi).1) (fun i hi => (upd_eq hx ha i hi).2) fun s6 => hK _ ⟨_, _, _, rfl⟩
  · rintro _ ⟨s6, s9, s10, rfl⟩
    exact law_r24 hx q
theorem law_r16 {k : Nat} {D : DEn} {s0 s1 s2 s4 s5 s7 s8 s9 s10 : Sl} (hk : k < 14) (q : ∀ s8, D.nx [s0, s1, s2, .d (.lst (made x)), s4, s5, .d (.int k), s7, s8, s9, s10]) : S_law_r16 D [s0, s1, s2, .d (.lst (made x)), s4, s5, .d (.int k), s7, s8, s9, s10] := by
  rw [S_law_r16_eq]
  walk_at "wp"
  refine ⟨rng14, ?_⟩
  refine dFor_inv (fun i e => ∃ s8, e = [s0, s1, s2, .d (.lst (made x)), s4, s5, .d (.int k), s7, s8, s9, s10]) ⟨_, rfl⟩ ?_ ?_
  · rintro j z _ K B hz ⟨s8, rfl⟩ hK
    obtain ⟨hj, rfl⟩ := rng_get hz
    have hj : j < 14 := hj
    walk_at "wp"
    rw [S_law_b17_eq]
    walk_at "wp"
    by_cases c : j = k
    · rw [if_neg (by omega)]
      exact hK _ ⟨_, rfl⟩
    · rw [if_pos (by omega)]
      refine ix_get rfl (made_at hk) (ix_get rfl (made_at hj) (diff_k hk hj c ?_))
      walk_at "wp"
      exact hK _ ⟨_, rfl⟩
  · rintro _ ⟨s8, rfl⟩
    exact q _
theorem law_r13 {k : Nat} {D : DEn} {s0 s1 s4 s7 s8 s9 s10 : Sl} (hx : ∀ i, i < 5 → Part (x i)) (hk : k < 14) (q : ∀ s7 s8, D.nx [s0, s1, .d (.lst (pl x)), .d (.lst (made x)), s4, .d Mn, .d (.int k), s7, s8, s9, s10]) : S_law_r13 D [s0, s1, .d (.lst (pl x)), .d (.lst (made x)), s4, .d Mn, .d (.int k), s7, s8, s9, s10] := by
  rw [S_law_r13_eq]
  walk_at "wp"
  refine ix_mget rfl (cnts_at k hk) ?_
  walk_at "wp"
  refine ix_mget rfl (cnts_at k hk) ?_
  walk_at "wp"
  refine ix_get rfl (pl_at 0 (by decide)) ?_
  walk_at "wp"
  refine dFor_keep (fun e => ∃ s7, e = [s0, s1, .d (.lst (pl x)), .d (.lst (made x)), s4, .d Mn, .d (.int k), s7, s8, s9, s10]) ⟨_, rfl⟩ ?_ ?_
  · rintro z _ K B hz ⟨s7, rfl⟩ hK
    have hz : z.kindR = true := by
      simp only [List.mem_cons, List.not_mem_nil, or_false] at hz
      rcases hz with rfl | rfl | rfl | rfl | rfl | rfl <;> first | rfl | exact (hx 0 (by decide)).kr
    walk_at "wp"
    rw [S_law_b14_eq]
    walk_at "wp"
    refine ix_get rfl (made_at hk) (left_k hk hz ?_)
    walk_at "wp"
    refine ix_get rfl (made_at hk) (right_k hk hz ?_)
    walk_at "wp"
    exact hK _ ⟨_, rfl⟩
  · rintro _ ⟨s7, rfl⟩
    exact law_r16 hk fun s8 => q _ _
theorem law_r10 {D : DEn} {s0 s1 s6 s7 s8 s9 s10 : Sl} (hx : ∀ i, i < 5 → Part (x i)) (q : D.rt (.bl true)) : S_law_r10 D [s0, s1, .d (.lst (pl x)), .d (.lst (made x)), .d (.lst (made x)), .d Mn, s6, s7, s8, s9, s10] := by
  have hs := fun i hi => (hx i hi).sh2.sh
  rw [S_law_r10_eq]
  walk_at "wp"
  refine ⟨rng14, ?_⟩
  refine dFor_inv (fun i e => ∃ s6 s7 s8, e = [s0, s1, .d (.lst (pl x)), .d (.lst (made x)), .d (.lst (made x)), .d Mn, s6, s7, s8, s9, s10]) ⟨_, _, _, rfl⟩ ?_ ?_
  · rintro k z _ K B hz ⟨s6, s7, s8, rfl⟩ hK
    obtain ⟨hk, rfl⟩ := rng_get hz
    have hk : k < 14 := hk
    have ev := eqN_of (x := x) (y := x) (a := 5) (n := cnt k) (by decide) (fun i hi => by rw [Dt.eqv_self (hs i hi)]; exact (decide_eq_true (by omega)).symm) (cnt_of k hk)
    rw [show decide (¬ 5 < cnt k) = true from decide_eq_true (by have := cnt_of k hk; omega)] at ev
    walk_at "wp"
    rw [S_law_b11_eq]
    walk_at "wp"
    refine ix_get rfl (made_at hk) (ix_get rfl (made_at hk) (same_k hk hs hs ?_))
    rw [ev]
    walk_at "wp"
    refine ix_get rfl (made_at hk) (ix_get rfl (made_at hk) (same_k hk hs hs ?_))
    rw [ev]
    walk_at "wp"
    exact law_r13 hx hk fun s7 s8 => hK _ ⟨_, _, _, rfl⟩
  · rintro _ ⟨s6, s7, s8, rfl⟩
    exact law_r19 hx q
theorem law_r8 {D : DEn} {s0 s1 s6 s7 s8 s9 s10 : Sl} (hx : ∀ i, i < 5 → Part (x i)) (q : D.rt (.bl true)) : S_law_r8 D [s0, s1, .d (.lst (pl x)), .d (.lst (made x)), .d (.lst (made x)), .d Mn, s6, s7, s8, s9, s10] := by
  rw [S_law_r8_eq]
  walk_at "wp"
  refine law_kept_ok ?_
  walk_at "wp"
  refine lc_map (e := fun n : Nat => Dt.int (n : Nat)) (fun n : Nat => Dt.lst ((pl x).take n)) (fun n _ K hK => ?_) (by decide) ?_
  · walk_at "wp"
    rw [cutG_take rfl]; exact hK
  refine dNe_self (kept_sh hx) ?_
  walk_at "wp"
  refine law_is_kind_ok ?_
  walk_at "wp"
  refine ⟨(shN_bl false).sh, (shN_lst (n := 0) (xs := List.replicate 14 (.bl true)) fun d hd => by rw [List.eq_of_mem_replicate hd]; exact shN_bl true).sh, ?_⟩
  have e : ((List.replicate 14 (Dt.bl true)).any fun y => y.eqv (.bl false)) = false := by
    rw [List.any_eq_false]
    intro d hd
    rw [List.eq_of_mem_replicate hd, eqv_bl]; decide
  simp only [List.replicate] at e
  rw [e]
  walk_at "wp"
  exact law_r10 hx q
theorem law_r5 {D : DEn} {s0 s1 s3 s4 s5 s6 s7 s8 s9 s10 : Sl} (hx : ∀ i, i < 5 → Part (x i)) (q : D.rt (.bl true)) : S_law_r5 D [s0, s1, .d (.lst (pl x)), s3, s4, s5, s6, s7, s8, s9, s10] := by
  rw [S_law_r5_eq]
  walk_at "wp"
  refine law_made_ok ?_
  walk_at "wp"
  rw [S_law_r6_eq]
  walk_at "wp"
  refine law_made_ok ?_
  walk_at "wp"
  rw [S_law_r7_eq]
  walk_at "wp"
  refine law_many_ok ?_
  walk_at "wp"
  exact law_r8 hx q
end
theorem five {ys : List Dt} (h : ys.length = 5) : ys = pl fun i => ys.getD i .non := by
  match ys, h with
  | [a, b, c, d, e], _ => rfl
theorem goal : Goal := by
  unfold Goal LawGoal S_law
  walk_at "wp"
  refine ⟨by omega, lc_any Part (fun y hy K hK => ?_) (by decide) (by simp) fun ys hl g => ?_⟩
  · walk_at "wp"
    exact law_part_ok hK
  · walk_at "wp"
    have hl : ys.length = 5 := hl
    have hx : ∀ i, i < 5 → Part ((fun i => ys.getD i .non) i) := fun i hi => by
      show Part (ys.getD i .non)
      have : ys.getD i .non = ys[i]'(by omega) := by simp [List.getD, List.getElem?_eq_getElem (show i < ys.length by omega)]
      rw [this]; exact g _ (List.getElem_mem _)
    have e := five hl
    generalize (fun i => ys.getD i .non) = x at e hx
    subst e
    rw [S_law_r3_eq]
    walk_at "wp"
    intro r hr
    refine eqB_plain rfl rfl ?_
    walk_at "wp"
    refine iteQ (fun _ => ?_) fun _ => ?_
    · refine ix_get rfl (pl_at 0 (by decide)) ?_
      refine ⟨⟨by omega, by omega, by decide⟩, ?_⟩
      exact law_r5 (x := fun _ => x 0) (fun i _ => hx 0 (by decide)) rfl
    · exact law_r5 hx rfl
end Mine

namespace Mine
open PySem PySem.Spec PyProof.Rows L2
abbrev PG : Program := PySem.Challenge.pw_lostplaces_k79_whole_results_each_its_ow
def top (i : Nat) : Stmt := PG.main.body.getD i (.Pass ⟨0, 0, 0, 0⟩)
abbrev s_NearPair___init : Stmt := inClass (top 1) 0
abbrev N_NearPair___init : List Str := ["self", "one", "other", "below", "above"]
abbrev P_NearPair___init : List Str := ["self", "one", "other", "below", "above"]
theorem sc_NearPair___init : FnScope N_NearPair___init P_NearPair___init (defScope s_NearPair___init) := ⟨rfl, rfl, rfl, by decide +kernel, rfl, by decide +kernel, by decide +kernel⟩
abbrev D_NearPair___init (K : PySem.W.Frag) (f : Addr) (fd : FuncData) : Prop := FunD K "__init__" "NearPair.__init__" (defArgs s_NearPair___init) (defBody s_NearPair___init) (defScope s_NearPair___init) [] [] f fd
abbrev s_NearPair___eq : Stmt := inClass (top 1) 1
abbrev N_NearPair___eq : List Str := ["self", "other"]
abbrev P_NearPair___eq : List Str := ["self", "other"]
theorem sc_NearPair___eq : FnScope N_NearPair___eq P_NearPair___eq (defScope s_NearPair___eq) := ⟨rfl, rfl, rfl, by decide +kernel, rfl, by decide +kernel, by decide +kernel⟩
abbrev D_NearPair___eq (K : PySem.W.Frag) (f : Addr) (fd : FuncData) : Prop := FunD K "__eq__" "NearPair.__eq__" (defArgs s_NearPair___eq) (defBody s_NearPair___eq) (defScope s_NearPair___eq) [] [] f fd
abbrev s_Thinned___init : Stmt := inClass (top 2) 0
abbrev N_Thinned___init : List Str := ["self", "book", "rows"]
abbrev P_Thinned___init : List Str := ["self", "book", "rows"]
theorem sc_Thinned___init : FnScope N_Thinned___init P_Thinned___init (defScope s_Thinned___init) := ⟨rfl, rfl, rfl, by decide +kernel, rfl, by decide +kernel, by decide +kernel⟩
abbrev D_Thinned___init (K : PySem.W.Frag) (f : Addr) (fd : FuncData) : Prop := FunD K "__init__" "Thinned.__init__" (defArgs s_Thinned___init) (defBody s_Thinned___init) (defScope s_Thinned___init) [] [] f fd
abbrev s_Thinned___eq : Stmt := inClass (top 2) 1
abbrev N_Thinned___eq : List Str := ["self", "other"]
abbrev P_Thinned___eq : List Str := ["self", "other"]
theorem sc_Thinned___eq : FnScope N_Thinned___eq P_Thinned___eq (defScope s_Thinned___eq) := ⟨rfl, rfl, rfl, by decide +kernel, rfl, by decide +kernel, by decide +kernel⟩
abbrev D_Thinned___eq (K : PySem.W.Frag) (f : Addr) (fd : FuncData) : Prop := FunD K "__eq__" "Thinned.__eq__" (defArgs s_Thinned___eq) (defBody s_Thinned___eq) (defScope s_Thinned___eq) [] [] f fd
abbrev s_Web___init : Stmt := inClass (top 4) 0
abbrev N_Web___init : List Str := ["self", "starts", "rests", "steps"]
abbrev P_Web___init : List Str := ["self", "starts", "rests", "steps"]
theorem sc_Web___init : FnScope N_Web___init P_Web___init (defScope s_Web___init) := ⟨rfl, rfl, rfl, by decide +kernel, rfl, by decide +kernel, by decide +kernel⟩
abbrev D_Web___init (K : PySem.W.Frag) (f : Addr) (fd : FuncData) : Prop := FunD K "__init__" "Web.__init__" (defArgs s_Web___init) (defBody s_Web___init) (defScope s_Web___init) [] [] f fd
abbrev s_Web___eq : Stmt := inClass (top 4) 1
abbrev N_Web___eq : List Str := ["self", "other"]
abbrev P_Web___eq : List Str := ["self", "other"]
theorem sc_Web___eq : FnScope N_Web___eq P_Web___eq (defScope s_Web___eq) := ⟨rfl, rfl, rfl, by decide +kernel, rfl, by decide +kernel, by decide +kernel⟩
abbrev D_Web___eq (K : PySem.W.Frag) (f : Addr) (fd : FuncData) : Prop := FunD K "__eq__" "Web.__eq__" (defArgs s_Web___eq) (defBody s_Web___eq) (defScope s_Web___eq) [] [] f fd
abbrev s_Told___init : Stmt := inClass (top 6) 0
abbrev N_Told___init : List Str := ["self", "wait", "first", "second"]
abbrev P_Told___init : List Str := ["self", "wait", "first", "second"]
theorem sc_Told___init : FnScope N_Told___init P_Told___init (defScope s_Told___init) := ⟨rfl, rfl, rfl, by decide +kernel, rfl, by decide +kernel, by decide +kernel⟩
abbrev D_Told___init (K : PySem.W.Frag) (f : Addr) (fd : FuncData) : Prop := FunD K "__init__" "Told.__init__" (defArgs s_Told___init) (defBody s_Told___init) (defScope s_Told___init) [] [] f fd
abbrev s_Told___eq : Stmt := inClass (top 6) 1
abbrev N_Told___eq : List Str := ["self", "other"]
abbrev P_Told___eq : List Str := ["self", "other"]
theorem sc_Told___eq : FnScope N_Told___eq P_Told___eq (defScope s_Told___eq) := ⟨rfl, rfl, rfl, by decide +kernel, rfl, by decide +kernel, by decide +kernel⟩
abbrev D_Told___eq (K : PySem.W.Frag) (f : Addr) (fd : FuncData) : Prop := FunD K "__eq__" "Told.__eq__" (defArgs s_Told___eq) (defBody s_Told___eq) (defScope s_Told___eq) [] [] f fd
abbrev s_Clash___init : Stmt := inClass (top 7) 0
abbrev N_Clash___init : List Str := ["self", "first", "second"]
abbrev P_Clash___init : List Str := ["self", "first", "second"]
theorem sc_Clash___init : FnScope N_Clash___init P_Clash___init (defScope s_Clash___init) := ⟨rfl, rfl, rfl, by decide +kernel, rfl, by decide +kernel, by decide +kernel⟩
abbrev D_Clash___init (K : PySem.W.Frag) (f : Addr) (fd : FuncData) : Prop := FunD K "__init__" "Clash.__init__" (defArgs s_Clash___init) (defBody s_Clash___init) (defScope s_Clash___init) [] [] f fd
abbrev s_Clash___eq : Stmt := inClass (top 7) 1
abbrev N_Clash___eq : List Str := ["self", "other"]
abbrev P_Clash___eq : List Str := ["self", "other"]
theorem sc_Clash___eq : FnScope N_Clash___eq P_Clash___eq (defScope s_Clash___eq) := ⟨rfl, rfl, rfl, by decide +kernel, rfl, by decide +kernel, by decide +kernel⟩
abbrev D_Clash___eq (K : PySem.W.Frag) (f : Addr) (fd : FuncData) : Prop := FunD K "__eq__" "Clash.__eq__" (defArgs s_Clash___eq) (defBody s_Clash___eq) (defScope s_Clash___eq) [] [] f fd
abbrev s_TwoCuts___init : Stmt := inClass (top 8) 0
abbrev N_TwoCuts___init : List Str := ["self", "first", "second"]
abbrev P_TwoCuts___init : List Str := ["self", "first", "second"]
theorem sc_TwoCuts___init : FnScope N_TwoCuts___init P_TwoCuts___init (defScope s_TwoCuts___init) := ⟨rfl, rfl, rfl, by decide +kernel, rfl, by decide +kernel, by decide +kernel⟩
abbrev D_TwoCuts___init (K : PySem.W.Frag) (f : Addr) (fd : FuncData) : Prop := FunD K "__init__" "TwoCuts.__init__" (defArgs s_TwoCuts___init) (defBody s_TwoCuts___init) (defScope s_TwoCuts___init) [] [] f fd
abbrev s_TwoCuts___eq : Stmt := inClass (top 8) 1
abbrev N_TwoCuts___eq : List Str := ["self", "other"]
abbrev P_TwoCuts___eq : List Str := ["self", "other"]
theorem sc_TwoCuts___eq : FnScope N_TwoCuts___eq P_TwoCuts___eq (defScope s_TwoCuts___eq) := ⟨rfl, rfl, rfl, by decide +kernel, rfl, by decide +kernel, by decide +kernel⟩
abbrev D_TwoCuts___eq (K : PySem.W.Frag) (f : Addr) (fd : FuncData) : Prop := FunD K "__eq__" "TwoCuts.__eq__" (defArgs s_TwoCuts___eq) (defBody s_TwoCuts___eq) (defScope s_TwoCuts___eq) [] [] f fd
abbrev s_Best___init : Stmt := inClass (top 10) 0
abbrev N_Best___init : List Str := ["self", "number", "book"]
abbrev P_Best___init : List Str := ["self", "number", "book"]
theorem sc_Best___init : FnScope N_Best___init P_Best___init (defScope s_Best___init) := ⟨rfl, rfl, rfl, by decide +kernel, rfl, by decide +kernel, by decide +kernel⟩
abbrev D_Best___init (K : PySem.W.Frag) (f : Addr) (fd : FuncData) : Prop := FunD K "__init__" "Best.__init__" (defArgs s_Best___init) (defBody s_Best___init) (defScope s_Best___init) [] [] f fd
abbrev s_Best___eq : Stmt := inClass (top 10) 1
abbrev N_Best___eq : List Str := ["self", "other"]
abbrev P_Best___eq : List Str := ["self", "other"]
theorem sc_Best___eq : FnScope N_Best___eq P_Best___eq (defScope s_Best___eq) := ⟨rfl, rfl, rfl, by decide +kernel, rfl, by decide +kernel, by decide +kernel⟩
abbrev D_Best___eq (K : PySem.W.Frag) (f : Addr) (fd : FuncData) : Prop := FunD K "__eq__" "Best.__eq__" (defArgs s_Best___eq) (defBody s_Best___eq) (defScope s_Best___eq) [] [] f fd
abbrev s_RunPair___init : Stmt := inClass (top 12) 0
abbrev N_RunPair___init : List Str := ["self", "one", "other", "apart", "longer", "shorter"]
abbrev P_RunPair___init : List Str := ["self", "one", "other", "apart", "longer", "shorter"]
theorem sc_RunPair___init : FnScope N_RunPair___init P_RunPair___init (defScope s_RunPair___init) := ⟨rfl, rfl, rfl, by decide +kernel, rfl, by decide +kernel, by decide +kernel⟩
abbrev D_RunPair___init (K : PySem.W.Frag) (f : Addr) (fd : FuncData) : Prop := FunD K "__init__" "RunPair.__init__" (defArgs s_RunPair___init) (defBody s_RunPair___init) (defScope s_RunPair___init) [] [] f fd
abbrev s_RunPair___eq : Stmt := inClass (top 12) 1
abbrev N_RunPair___eq : List Str := ["self", "other"]
abbrev P_RunPair___eq : List Str := ["self", "other"]
theorem sc_RunPair___eq : FnScope N_RunPair___eq P_RunPair___eq (defScope s_RunPair___eq) := ⟨rfl, rfl, rfl, by decide +kernel, rfl, by decide +kernel, by decide +kernel⟩
abbrev D_RunPair___eq (K : PySem.W.Frag) (f : Addr) (fd : FuncData) : Prop := FunD K "__eq__" "RunPair.__eq__" (defArgs s_RunPair___eq) (defBody s_RunPair___eq) (defScope s_RunPair___eq) [] [] f fd
abbrev s_Tried___init : Stmt := inClass (top 14) 0
abbrev N_Tried___init : List Str := ["self", "many", "borne", "runs", "told", "met"]
abbrev P_Tried___init : List Str := ["self", "many", "borne", "runs", "told", "met"]
theorem sc_Tried___init : FnScope N_Tried___init P_Tried___init (defScope s_Tried___init) := ⟨rfl, rfl, rfl, by decide +kernel, rfl, by decide +kernel, by decide +kernel⟩
abbrev D_Tried___init (K : PySem.W.Frag) (f : Addr) (fd : FuncData) : Prop := FunD K "__init__" "Tried.__init__" (defArgs s_Tried___init) (defBody s_Tried___init) (defScope s_Tried___init) [] [] f fd
abbrev s_Tried___eq : Stmt := inClass (top 14) 1
abbrev N_Tried___eq : List Str := ["self", "other"]
abbrev P_Tried___eq : List Str := ["self", "other"]
theorem sc_Tried___eq : FnScope N_Tried___eq P_Tried___eq (defScope s_Tried___eq) := ⟨rfl, rfl, rfl, by decide +kernel, rfl, by decide +kernel, by decide +kernel⟩
abbrev D_Tried___eq (K : PySem.W.Frag) (f : Addr) (fd : FuncData) : Prop := FunD K "__eq__" "Tried.__eq__" (defArgs s_Tried___eq) (defBody s_Tried___eq) (defScope s_Tried___eq) [] [] f fd
abbrev s_MixClash___init : Stmt := inClass (top 16) 0
abbrev N_MixClash___init : List Str := ["self", "one", "other", "word"]
abbrev P_MixClash___init : List Str := ["self", "one", "other", "word"]
theorem sc_MixClash___init : FnScope N_MixClash___init P_MixClash___init (defScope s_MixClash___init) := ⟨rfl, rfl, rfl, by decide +kernel, rfl, by decide +kernel, by decide +kernel⟩
abbrev D_MixClash___init (K : PySem.W.Frag) (f : Addr) (fd : FuncData) : Prop := FunD K "__init__" "MixClash.__init__" (defArgs s_MixClash___init) (defBody s_MixClash___init) (defScope s_MixClash___init) [] [] f fd
abbrev s_MixClash___eq : Stmt := inClass (top 16) 1
abbrev N_MixClash___eq : List Str := ["self", "other"]
abbrev P_MixClash___eq : List Str := ["self", "other"]
theorem sc_MixClash___eq : FnScope N_MixClash___eq P_MixClash___eq (defScope s_MixClash___eq) := ⟨rfl, rfl, rfl, by decide +kernel, rfl, by decide +kernel, by decide +kernel⟩
abbrev D_MixClash___eq (K : PySem.W.Frag) (f : Addr) (fd : FuncData) : Prop := FunD K "__eq__" "MixClash.__eq__" (defArgs s_MixClash___eq) (defBody s_MixClash___eq) (defScope s_MixClash___eq) [] [] f fd
abbrev s_Uneven___init : Stmt := inClass (top 18) 0
abbrev N_Uneven___init : List Str := ["self", "word", "above"]
abbrev P_Uneven___init : List Str := ["self", "word", "above"]
theorem sc_Uneven___init : FnScope N_Uneven___init P_Uneven___init (defScope s_Uneven___init) := ⟨rfl, rfl, rfl, by decide +kernel, rfl, by decide +kernel, by decide +kernel⟩
abbrev D_Uneven___init (K : PySem.W.Frag) (f : Addr) (fd : FuncData) : Prop := FunD K "__init__" "Uneven.__init__" (defArgs s_Uneven___init) (defBody s_Uneven___init) (defScope s_Uneven___init) [] [] f fd
abbrev s_Uneven___eq : Stmt := inClass (top 18) 1
abbrev N_Uneven___eq : List Str := ["self", "other"]
abbrev P_Uneven___eq : List Str := ["self", "other"]
theorem sc_Uneven___eq : FnScope N_Uneven___eq P_Uneven___eq (defScope s_Uneven___eq) := ⟨rfl, rfl, rfl, by decide +kernel, rfl, by decide +kernel, by decide +kernel⟩
abbrev D_Uneven___eq (K : PySem.W.Frag) (f : Addr) (fd : FuncData) : Prop := FunD K "__eq__" "Uneven.__eq__" (defArgs s_Uneven___eq) (defBody s_Uneven___eq) (defScope s_Uneven___eq) [] [] f fd
abbrev s_SumsClash___init : Stmt := inClass (top 20) 0
abbrev N_SumsClash___init : List Str := ["self", "one", "other"]
abbrev P_SumsClash___init : List Str := ["self", "one", "other"]
theorem sc_SumsClash___init : FnScope N_SumsClash___init P_SumsClash___init (defScope s_SumsClash___init) := ⟨rfl, rfl, rfl, by decide +kernel, rfl, by decide +kernel, by decide +kernel⟩
abbrev D_SumsClash___init (K : PySem.W.Frag) (f : Addr) (fd : FuncData) : Prop := FunD K "__init__" "SumsClash.__init__" (defArgs s_SumsClash___init) (defBody s_SumsClash___init) (defScope s_SumsClash___init) [] [] f fd
abbrev s_SumsClash___eq : Stmt := inClass (top 20) 1
abbrev N_SumsClash___eq : List Str := ["self", "other"]
abbrev P_SumsClash___eq : List Str := ["self", "other"]
theorem sc_SumsClash___eq : FnScope N_SumsClash___eq P_SumsClash___eq (defScope s_SumsClash___eq) := ⟨rfl, rfl, rfl, by decide +kernel, rfl, by decide +kernel, by decide +kernel⟩
abbrev D_SumsClash___eq (K : PySem.W.Frag) (f : Addr) (fd : FuncData) : Prop := FunD K "__eq__" "SumsClash.__eq__" (defArgs s_SumsClash___eq) (defBody s_SumsClash___eq) (defScope s_SumsClash___eq) [] [] f fd
abbrev s_TooClose___init : Stmt := inClass (top 22) 0
abbrev N_TooClose___init : List Str := ["self", "one", "other"]
abbrev P_TooClose___init : List Str := ["self", "one", "other"]
theorem sc_TooClose___init : FnScope N_TooClose___init P_TooClose___init (defScope s_TooClose___init) := ⟨rfl, rfl, rfl, by decide +kernel, rfl, by decide +kernel, by decide +kernel⟩
abbrev D_TooClose___init (K : PySem.W.Frag) (f : Addr) (fd : FuncData) : Prop := FunD K "__init__" "TooClose.__init__" (defArgs s_TooClose___init) (defBody s_TooClose___init) (defScope s_TooClose___init) [] [] f fd
abbrev s_TooClose___eq : Stmt := inClass (top 22) 1
abbrev N_TooClose___eq : List Str := ["self", "other"]
abbrev P_TooClose___eq : List Str := ["self", "other"]
theorem sc_TooClose___eq : FnScope N_TooClose___eq P_TooClose___eq (defScope s_TooClose___eq) := ⟨rfl, rfl, rfl, by decide +kernel, rfl, by decide +kernel, by decide +kernel⟩
abbrev D_TooClose___eq (K : PySem.W.Frag) (f : Addr) (fd : FuncData) : Prop := FunD K "__eq__" "TooClose.__eq__" (defArgs s_TooClose___eq) (defBody s_TooClose___eq) (defScope s_TooClose___eq) [] [] f fd
abbrev s_Read___init : Stmt := inClass (top 24) 0
abbrev N_Read___init : List Str := ["self", "what", "member"]
abbrev P_Read___init : List Str := ["self", "what", "member"]
theorem sc_Read___init : FnScope N_Read___init P_Read___init (defScope s_Read___init) := ⟨rfl, rfl, rfl, by decide +kernel, rfl, by decide +kernel, by decide +kernel⟩
abbrev D_Read___init (K : PySem.W.Frag) (f : Addr) (fd : FuncData) : Prop := FunD K "__init__" "Read.__init__" (defArgs s_Read___init) (defBody s_Read___init) (defScope s_Read___init) [] [] f fd
abbrev s_Read___eq : Stmt := inClass (top 24) 1
abbrev N_Read___eq : List Str := ["self", "other"]
abbrev P_Read___eq : List Str := ["self", "other"]
theorem sc_Read___eq : FnScope N_Read___eq P_Read___eq (defScope s_Read___eq) := ⟨rfl, rfl, rfl, by decide +kernel, rfl, by decide +kernel, by decide +kernel⟩
abbrev D_Read___eq (K : PySem.W.Frag) (f : Addr) (fd : FuncData) : Prop := FunD K "__eq__" "Read.__eq__" (defArgs s_Read___eq) (defBody s_Read___eq) (defScope s_Read___eq) [] [] f fd
abbrev s_law_hand : Stmt := top 26
abbrev N_law_hand : List Str := ["_law_script", "_law_total", "_law_cells", "_law_cell"]
abbrev P_law_hand : List Str := ["_law_script"]
theorem sc_law_hand : FnScope N_law_hand P_law_hand (defScope s_law_hand) := ⟨rfl, rfl, rfl, by decide +kernel, rfl, by decide +kernel, by decide +kernel⟩
abbrev D_law_hand (K : PySem.W.Frag) (f : Addr) (fd : FuncData) : Prop := FunD K "_law_hand" "_law_hand" (defArgs s_law_hand) (defBody s_law_hand) (defScope s_law_hand) [] [] f fd
abbrev s_law_mixed : Stmt := top 27
abbrev N_law_mixed : List Str := ["_law_number", "_law_turn", "_law_once", "_law_twice"]
abbrev P_law_mixed : List Str := ["_law_number", "_law_turn"]
theorem sc_law_mixed : FnScope N_law_mixed P_law_mixed (defScope s_law_mixed) := ⟨rfl, rfl, rfl, by decide +kernel, rfl, by decide +kernel, by decide +kernel⟩
abbrev D_law_mixed (K : PySem.W.Frag) (f : Addr) (fd : FuncData) : Prop := FunD K "_law_mixed" "_law_mixed" (defArgs s_law_mixed) (defBody s_law_mixed) (defScope s_law_mixed) [] [] f fd
abbrev s_law_take : Stmt := top 28
abbrev N_law_take : List Str := ["_law_hand_here", "_law_many_here", "_law_cell", "_law_rest"]
abbrev P_law_take : List Str := ["_law_hand_here", "_law_many_here"]
theorem sc_law_take : FnScope N_law_take P_law_take (defScope s_law_take) := ⟨rfl, rfl, rfl, by decide +kernel, rfl, by decide +kernel, by decide +kernel⟩
abbrev D_law_take (K : PySem.W.Frag) (f : Addr) (fd : FuncData) : Prop := FunD K "_law_take" "_law_take" (defArgs s_law_take) (defBody s_law_take) (defScope s_law_take) [] [] f fd
abbrev s_law_word : Stmt := top 29
abbrev N_law_word : List Str := ["_law_hand_here", "_law_q", "_law_n", "_law_k"]
abbrev P_law_word : List Str := ["_law_hand_here", "_law_q", "_law_n"]
theorem sc_law_word : FnScope N_law_word P_law_word (defScope s_law_word) := ⟨rfl, rfl, rfl, by decide +kernel, rfl, by decide +kernel, by decide +kernel⟩
abbrev D_law_word (K : PySem.W.Frag) (f : Addr) (fd : FuncData) : Prop := FunD K "_law_word" "_law_word" (defArgs s_law_word) (defBody s_law_word) (defScope s_law_word) [] [] f fd
abbrev s_law_made : Stmt := top 30
abbrev N_law_made : List Str := ["_law_p", "_law_told"]
abbrev P_law_made : List Str := ["_law_p"]
theorem sc_law_made : FnScope N_law_made P_law_made (defScope s_law_made) := ⟨rfl, rfl, rfl, by decide +kernel, rfl, by decide +kernel, by decide +kernel⟩
abbrev D_law_made (K : PySem.W.Frag) (f : Addr) (fd : FuncData) : Prop := FunD K "_law_made" "_law_made" (defArgs s_law_made) (defBody s_law_made) (defScope s_law_made) [] [] f fd
abbrev s_law_many : Stmt := top 31
abbrev N_law_many : List Str := []
abbrev P_law_many : List Str := []
theorem sc_law_many : FnScope N_law_many P_law_many (defScope s_law_many) := ⟨rfl, rfl, rfl, by decide +kernel, rfl, by decide +kernel, by decide +kernel⟩
abbrev D_law_many (K : PySem.W.Frag) (f : Addr) (fd : FuncData) : Prop := FunD K "_law_many" "_law_many" (defArgs s_law_many) (defBody s_law_many) (defScope s_law_many) [] [] f fd
abbrev s_law_kept : Stmt := top 32
abbrev N_law_kept : List Str := ["_law_made_here", "_law_told", "_law_e"]
abbrev P_law_kept : List Str := ["_law_made_here"]
theorem sc_law_kept : FnScope N_law_kept P_law_kept (defScope s_law_kept) := ⟨rfl, rfl, rfl, by decide +kernel, rfl, by decide +kernel, by decide +kernel⟩
abbrev D_law_kept (K : PySem.W.Frag) (f : Addr) (fd : FuncData) : Prop := FunD K "_law_kept" "_law_kept" (defArgs s_law_kept) (defBody s_law_kept) (defScope s_law_kept) [] [] f fd
abbrev s_law_is_kind : Stmt := top 33
abbrev N_law_is_kind : List Str := ["_law_made_here", "_law_told"]
abbrev P_law_is_kind : List Str := ["_law_made_here"]
theorem sc_law_is_kind : FnScope N_law_is_kind P_law_is_kind (defScope s_law_is_kind) := ⟨rfl, rfl, rfl, by decide +kernel, rfl, by decide +kernel, by decide +kernel⟩
abbrev D_law_is_kind (K : PySem.W.Frag) (f : Addr) (fd : FuncData) : Prop := FunD K "_law_is_kind" "_law_is_kind" (defArgs s_law_is_kind) (defBody s_law_is_kind) (defScope s_law_is_kind) [] [] f fd
abbrev s_law_part : Stmt := top 34
abbrev N_law_part : List Str := ["_law_hand_here", "_law_which", "_law_k"]
abbrev P_law_part : List Str := ["_law_hand_here"]
theorem sc_law_part : FnScope N_law_part P_law_part (defScope s_law_part) := ⟨rfl, rfl, rfl, by decide +kernel, rfl, by decide +kernel, by decide +kernel⟩
abbrev D_law_part (K : PySem.W.Frag) (f : Addr) (fd : FuncData) : Prop := FunD K "_law_part" "_law_part" (defArgs s_law_part) (defBody s_law_part) (defScope s_law_part) [] [] f fd
abbrev s_law : Stmt := top 35
abbrev N_law : List Str := ["_law_script", "_law_hand_here", "_law_parts", "_law_first", "_law_twin", "_law_many_here", "_law_k", "_law_thing", "_law_j", "_law_at", "_law_other"]
abbrev P_law : List Str := ["_law_script"]
theorem sc_law : FnScope N_law P_law (defScope s_law) := ⟨rfl, rfl, rfl, by decide +kernel, rfl, by decide +kernel, by decide +kernel⟩
abbrev D_law (K : PySem.W.Frag) (f : Addr) (fd : FuncData) : Prop := FunD K "law" "law" (defArgs s_law) (defBody s_law) (defScope s_law) [] [] f fd
structure Txt (K : PySem.W.Frag) (mg : Str → Option Value) : Prop where
  z_isinstance : mg "isinstance" = none
  g_NearPair : mg "NearPair" = some (.ref (He.ga K "NearPair"))
  g_Thinned : mg "Thinned" = some (.ref (He.ga K "Thinned"))
  g_Web : mg "Web" = some (.ref (He.ga K "Web"))
  g_Told : mg "Told" = some (.ref (He.ga K "Told"))
  g_Clash : mg "Clash" = some (.ref (He.ga K "Clash"))
  g_TwoCuts : mg "TwoCuts" = some (.ref (He.ga K "TwoCuts"))
  g_Best : mg "Best" = some (.ref (He.ga K "Best"))
  g_RunPair : mg "RunPair" = some (.ref (He.ga K "RunPair"))
  g_Tried : mg "Tried" = some (.ref (He.ga K "Tried"))
  g_MixClash : mg "MixClash" = some (.ref (He.ga K "MixClash"))
  g_Uneven : mg "Uneven" = some (.ref (He.ga K "Uneven"))
  g_SumsClash : mg "SumsClash" = some (.ref (He.ga K "SumsClash"))
  g_TooClose : mg "TooClose" = some (.ref (He.ga K "TooClose"))
  g_Read : mg "Read" = some (.ref (He.ga K "Read"))
  z_len : mg "len" = none
  z_int : mg "int" = none
  z_abs : mg "abs" = none
  g__law_mixed : mg "_law_mixed" = some (.ref (He.ga K "_law_mixed"))
  z_tuple : mg "tuple" = none
  z_range : mg "range" = none
  g__law_take : mg "_law_take" = some (.ref (He.ga K "_law_take"))
  r_NearPair : Mk K (He.ga K "NearPair") (He.ma K (He.ga K "NearPair") "__init__")
  r_Thinned : Mk K (He.ga K "Thinned") (He.ma K (He.ga K "Thinned") "__init__")
  r_MixClash : Mk K (He.ga K "MixClash") (He.ma K (He.ga K "MixClash") "__init__")
  r_Uneven : Mk K (He.ga K "Uneven") (He.ma K (He.ga K "Uneven") "__init__")
  r_Read : Mk K (He.ga K "Read") (He.ma K (He.ga K "Read") "__init__")
  r_TooClose : Mk K (He.ga K "TooClose") (He.ma K (He.ga K "TooClose") "__init__")
  r_RunPair : Mk K (He.ga K "RunPair") (He.ma K (He.ga K "RunPair") "__init__")
  r_SumsClash : Mk K (He.ga K "SumsClash") (He.ma K (He.ga K "SumsClash") "__init__")
  r_Web : Mk K (He.ga K "Web") (He.ma K (He.ga K "Web") "__init__")
  r_Told : Mk K (He.ga K "Told") (He.ma K (He.ga K "Told") "__init__")
  r_Clash : Mk K (He.ga K "Clash") (He.ma K (He.ga K "Clash") "__init__")
  r_TwoCuts : Mk K (He.ga K "TwoCuts") (He.ma K (He.ga K "TwoCuts") "__init__")
  r_Best : Mk K (He.ga K "Best") (He.ma K (He.ga K "Best") "__init__")
  r_Tried : Mk K (He.ga K "Tried") (He.ma K (He.ga K "Tried") "__init__")
  g__law_word : mg "_law_word" = some (.ref (He.ga K "_law_word"))
  g__law_hand : mg "_law_hand" = some (.ref (He.ga K "_law_hand"))
  g__law_part : mg "_law_part" = some (.ref (He.ga K "_law_part"))
  g__law_made : mg "_law_made" = some (.ref (He.ga K "_law_made"))
  z_list : mg "list" = none
  g__law_many : mg "_law_many" = some (.ref (He.ga K "_law_many"))
  g__law_is_kind : mg "_law_is_kind" = some (.ref (He.ga K "_law_is_kind"))
  g__law_kept : mg "_law_kept" = some (.ref (He.ga K "_law_kept"))
  l_NearPair : Cls K (He.ga K "NearPair")
  a_NearPair_is_one : NoAttr K (He.ga K "NearPair") "one"
  a_NearPair_is_other : NoAttr K (He.ga K "NearPair") "other"
  a_NearPair_is_below : NoAttr K (He.ga K "NearPair") "below"
  a_NearPair_is_above : NoAttr K (He.ga K "NearPair") "above"
  l_Thinned : Cls K (He.ga K "Thinned")
  a_Thinned_is_book : NoAttr K (He.ga K "Thinned") "book"
  a_Thinned_is_rows : NoAttr K (He.ga K "Thinned") "rows"
  l_Web : Cls K (He.ga K "Web")
  a_Web_is_starts : NoAttr K (He.ga K "Web") "starts"
  a_Web_is_rests : NoAttr K (He.ga K "Web") "rests"
  a_Web_is_steps : NoAttr K (He.ga K "Web") "steps"
  l_Told : Cls K (He.ga K "Told")
  a_Told_is_wait : NoAttr K (He.ga K "Told") "wait"
  a_Told_is_first : NoAttr K (He.ga K "Told") "first"
  a_Told_is_second : NoAttr K (He.ga K "Told") "second"
  l_Clash : Cls K (He.ga K "Clash")
  a_Clash_is_first : NoAttr K (He.ga K "Clash") "first"
  a_Clash_is_second : NoAttr K (He.ga K "Clash") "second"
  l_TwoCuts : Cls K (He.ga K "TwoCuts")
  a_TwoCuts_is_first : NoAttr K (He.ga K "TwoCuts") "first"
  a_TwoCuts_is_second : NoAttr K (He.ga K "TwoCuts") "second"
  l_Best : Cls K (He.ga K "Best")
  a_Best_is_number : NoAttr K (He.ga K "Best") "number"
  a_Best_is_book : NoAttr K (He.ga K "Best") "book"
  l_RunPair : Cls K (He.ga K "RunPair")
  a_RunPair_is_one : NoAttr K (He.ga K "RunPair") "one"
  a_RunPair_is_other : NoAttr K (He.ga K "RunPair") "other"
  a_RunPair_is_apart : NoAttr K (He.ga K "RunPair") "apart"
  a_RunPair_is_longer : NoAttr K (He.ga K "RunPair") "longer"
  a_RunPair_is_shorter : NoAttr K (He.ga K "RunPair") "shorter"
  l_Tried : Cls K (He.ga K "Tried")
  a_Tried_is_many : NoAttr K (He.ga K "Tried") "many"
  a_Tried_is_borne : NoAttr K (He.ga K "Tried") "borne"
  a_Tried_is_runs : NoAttr K (He.ga K "Tried") "runs"
  a_Tried_is_told : NoAttr K (He.ga K "Tried") "told"
  a_Tried_is_met : NoAttr K (He.ga K "Tried") "met"
  l_MixClash : Cls K (He.ga K "MixClash")
  a_MixClash_is_one : NoAttr K (He.ga K "MixClash") "one"
  a_MixClash_is_other : NoAttr K (He.ga K "MixClash") "other"
  a_MixClash_is_word : NoAttr K (He.ga K "MixClash") "word"
  l_Uneven : Cls K (He.ga K "Uneven")
  a_Uneven_is_word : NoAttr K (He.ga K "Uneven") "word"
  a_Uneven_is_above : NoAttr K (He.ga K "Uneven") "above"
  l_SumsClash : Cls K (He.ga K "SumsClash")
  a_SumsClash_is_one : NoAttr K (He.ga K "SumsClash") "one"
  a_SumsClash_is_other : NoAttr K (He.ga K "SumsClash") "other"
  l_TooClose : Cls K (He.ga K "TooClose")
  a_TooClose_is_one : NoAttr K (He.ga K "TooClose") "one"
  a_TooClose_is_other : NoAttr K (He.ga K "TooClose") "other"
  l_Read : Cls K (He.ga K "Read")
  a_Read_is_what : NoAttr K (He.ga K "Read") "what"
  a_Read_is_member : NoAttr K (He.ga K "Read") "member"
  q_eqs : EqsOk K eqsL
  b_NearPair_is___eq__ : Meth K (He.ga K "NearPair") "__eq__" (He.ma K (He.ga K "NearPair") "__eq__")
  o_NearPair : InsK K (He.ga K "NearPair")
  b_Thinned_is___eq__ : Meth K (He.ga K "Thinned") "__eq__" (He.ma K (He.ga K "Thinned") "__eq__")
  o_Thinned : InsK K (He.ga K "Thinned")
  b_Web_is___eq__ : Meth K (He.ga K "Web") "__eq__" (He.ma K (He.ga K "Web") "__eq__")
  o_Web : InsK K (He.ga K "Web")
  b_Told_is___eq__ : Meth K (He.ga K "Told") "__eq__" (He.ma K (He.ga K "Told") "__eq__")
  o_Told : InsK K (He.ga K "Told")
  b_Clash_is___eq__ : Meth K (He.ga K "Clash") "__eq__" (He.ma K (He.ga K "Clash") "__eq__")
  o_Clash : InsK K (He.ga K "Clash")
  b_TwoCuts_is___eq__ : Meth K (He.ga K "TwoCuts") "__eq__" (He.ma K (He.ga K "TwoCuts") "__eq__")
  o_TwoCuts : InsK K (He.ga K "TwoCuts")
  b_Best_is___eq__ : Meth K (He.ga K "Best") "__eq__" (He.ma K (He.ga K "Best") "__eq__")
  o_Best : InsK K (He.ga K "Best")
  b_RunPair_is___eq__ : Meth K (He.ga K "RunPair") "__eq__" (He.ma K (He.ga K "RunPair") "__eq__")
  o_RunPair : InsK K (He.ga K "RunPair")
  b_Tried_is___eq__ : Meth K (He.ga K "Tried") "__eq__" (He.ma K (He.ga K "Tried") "__eq__")
  o_Tried : InsK K (He.ga K "Tried")
  b_MixClash_is___eq__ : Meth K (He.ga K "MixClash") "__eq__" (He.ma K (He.ga K "MixClash") "__eq__")
  o_MixClash : InsK K (He.ga K "MixClash")
  b_Uneven_is___eq__ : Meth K (He.ga K "Uneven") "__eq__" (He.ma K (He.ga K "Uneven") "__eq__")
  o_Uneven : InsK K (He.ga K "Uneven")
  b_SumsClash_is___eq__ : Meth K (He.ga K "SumsClash") "__eq__" (He.ma K (He.ga K "SumsClash") "__eq__")
  o_SumsClash : InsK K (He.ga K "SumsClash")
  b_TooClose_is___eq__ : Meth K (He.ga K "TooClose") "__eq__" (He.ma K (He.ga K "TooClose") "__eq__")
  o_TooClose : InsK K (He.ga K "TooClose")
  b_Read_is___eq__ : Meth K (He.ga K "Read") "__eq__" (He.ma K (He.ga K "Read") "__eq__")
  o_Read : InsK K (He.ga K "Read")
  j_NearPair : KinOk K (He.ga K "NearPair")
  k_NearPair_is_NearPair : PySem.W.kitOne K (.ref (He.ga K "NearPair")) (.ref (He.ga K "NearPair")) = some true
  k_Thinned_is_NearPair : PySem.W.kitOne K (.ref (He.ga K "Thinned")) (.ref (He.ga K "NearPair")) = some false
  k_Web_is_NearPair : PySem.W.kitOne K (.ref (He.ga K "Web")) (.ref (He.ga K "NearPair")) = some false
  k_Told_is_NearPair : PySem.W.kitOne K (.ref (He.ga K "Told")) (.ref (He.ga K "NearPair")) = some false
  k_Clash_is_NearPair : PySem.W.kitOne K (.ref (He.ga K "Clash")) (.ref (He.ga K "NearPair")) = some false
  k_TwoCuts_is_NearPair : PySem.W.kitOne K (.ref (He.ga K "TwoCuts")) (.ref (He.ga K "NearPair")) = some false
  k_Best_is_NearPair : PySem.W.kitOne K (.ref (He.ga K "Best")) (.ref (He.ga K "NearPair")) = some false
  k_RunPair_is_NearPair : PySem.W.kitOne K (.ref (He.ga K "RunPair")) (.ref (He.ga K "NearPair")) = some false
  k_Tried_is_NearPair : PySem.W.kitOne K (.ref (He.ga K "Tried")) (.ref (He.ga K "NearPair")) = some false
  k_MixClash_is_NearPair : PySem.W.kitOne K (.ref (He.ga K "MixClash")) (.ref (He.ga K "NearPair")) = some false
  k_Uneven_is_NearPair : PySem.W.kitOne K (.ref (He.ga K "Uneven")) (.ref (He.ga K "NearPair")) = some false
  k_SumsClash_is_NearPair : PySem.W.kitOne K (.ref (He.ga K "SumsClash")) (.ref (He.ga K "NearPair")) = some false
  k_TooClose_is_NearPair : PySem.W.kitOne K (.ref (He.ga K "TooClose")) (.ref (He.ga K "NearPair")) = some false
  k_Read_is_NearPair : PySem.W.kitOne K (.ref (He.ga K "Read")) (.ref (He.ga K "NearPair")) = some false
  j_Thinned : KinOk K (He.ga K "Thinned")
  k_NearPair_is_Thinned : PySem.W.kitOne K (.ref (He.ga K "NearPair")) (.ref (He.ga K "Thinned")) = some false
  k_Thinned_is_Thinned : PySem.W.kitOne K (.ref (He.ga K "Thinned")) (.ref (He.ga K "Thinned")) = some true
  k_Web_is_Thinned : PySem.W.kitOne K (.ref (He.ga K "Web")) (.ref (He.ga K "Thinned")) = some false
  k_Told_is_Thinned : PySem.W.kitOne K (.ref (He.ga K "Told")) (.ref (He.ga K "Thinned")) = some false
  k_Clash_is_Thinned : PySem.W.kitOne K (.ref (He.ga K "Clash")) (.ref (He.ga K "Thinned")) = some false
  k_TwoCuts_is_Thinned : PySem.W.kitOne K (.ref (He.ga K "TwoCuts")) (.ref (He.ga K "Thinned")) = some false
  k_Best_is_Thinned : PySem.W.kitOne K (.ref (He.ga K "Best")) (.ref (He.ga K "Thinned")) = some false
  k_RunPair_is_Thinned : PySem.W.kitOne K (.ref (He.ga K "RunPair")) (.ref (He.ga K "Thinned")) = some false
  k_Tried_is_Thinned : PySem.W.kitOne K (.ref (He.ga K "Tried")) (.ref (He.ga K "Thinned")) = some false
  k_MixClash_is_Thinned : PySem.W.kitOne K (.ref (He.ga K "MixClash")) (.ref (He.ga K "Thinned")) = some false
  k_Uneven_is_Thinned : PySem.W.kitOne K (.ref (He.ga K "Uneven")) (.ref (He.ga K "Thinned")) = some false
  k_SumsClash_is_Thinned : PySem.W.kitOne K (.ref (He.ga K "SumsClash")) (.ref (He.ga K "Thinned")) = some false
  k_TooClose_is_Thinned : PySem.W.kitOne K (.ref (He.ga K "TooClose")) (.ref (He.ga K "Thinned")) = some false
  k_Read_is_Thinned : PySem.W.kitOne K (.ref (He.ga K "Read")) (.ref (He.ga K "Thinned")) = some false
  j_Web : KinOk K (He.ga K "Web")
  k_NearPair_is_Web : PySem.W.kitOne K (.ref (He.ga K "NearPair")) (.ref (He.ga K "Web")) = some false
  k_Thinned_is_Web : PySem.W.kitOne K (.ref (He.ga K "Thinned")) (.ref (He.ga K "Web")) = some false
  k_Web_is_Web : PySem.W.kitOne K (.ref (He.ga K "Web")) (.ref (He.ga K "Web")) = some true
  k_Told_is_Web : PySem.W.kitOne K (.ref (He.ga K "Told")) (.ref (He.ga K "Web")) = some false
  k_Clash_is_Web : PySem.W.kitOne K (.ref (He.ga K "Clash")) (.ref (He.ga K "Web")) = some false
  k_TwoCuts_is_Web : PySem.W.kitOne K (.ref (He.ga K "TwoCuts")) (.ref (He.ga K "Web")) = some false
  k_Best_is_Web : PySem.W.kitOne K (.ref (He.ga K "Best")) (.ref (He.ga K "Web")) = some false
  k_RunPair_is_Web : PySem.W.kitOne K (.ref (He.ga K "RunPair")) (.ref (He.ga K "Web")) = some false
  k_Tried_is_Web : PySem.W.kitOne K (.ref (He.ga K "Tried")) (.ref (He.ga K "Web")) = some false
  k_MixClash_is_Web : PySem.W.kitOne K (.ref (He.ga K "MixClash")) (.ref (He.ga K "Web")) = some false
  k_Uneven_is_Web : PySem.W.kitOne K (.ref (He.ga K "Uneven")) (.ref (He.ga K "Web")) = some false
  k_SumsClash_is_Web : PySem.W.kitOne K (.ref (He.ga K "SumsClash")) (.ref (He.ga K "Web")) = some false
  k_TooClose_is_Web : PySem.W.kitOne K (.ref (He.ga K "TooClose")) (.ref (He.ga K "Web")) = some false
  k_Read_is_Web : PySem.W.kitOne K (.ref (He.ga K "Read")) (.ref (He.ga K "Web")) = some false
  j_Told : KinOk K (He.ga K "Told")
  k_NearPair_is_Told : PySem.W.kitOne K (.ref (He.ga K "NearPair")) (.ref (He.ga K "Told")) = some false
  k_Thinned_is_Told : PySem.W.kitOne K (.ref (He.ga K "Thinned")) (.ref (He.ga K "Told")) = some false
  k_Web_is_Told : PySem.W.kitOne K (.ref (He.ga K "Web")) (.ref (He.ga K "Told")) = some false
  k_Told_is_Told : PySem.W.kitOne K (.ref (He.ga K "Told")) (.ref (He.ga K "Told")) = some true
  k_Clash_is_Told : PySem.W.kitOne K (.ref (He.ga K "Clash")) (.ref (He.ga K "Told")) = some false
  k_TwoCuts_is_Told : PySem.W.kitOne K (.ref (He.ga K "TwoCuts")) (.ref (He.ga K "Told")) = some false
  k_Best_is_Told : PySem.W.kitOne K (.ref (He.ga K "Best")) (.ref (He.ga K "Told")) = some false
  k_RunPair_is_Told : PySem.W.kitOne K (.ref (He.ga K "RunPair")) (.ref (He.ga K "Told")) = some false
  k_Tried_is_Told : PySem.W.kitOne K (.ref (He.ga K "Tried")) (.ref (He.ga K "Told")) = some false
  k_MixClash_is_Told : PySem.W.kitOne K (.ref (He.ga K "MixClash")) (.ref (He.ga K "Told")) = some false
  k_Uneven_is_Told : PySem.W.kitOne K (.ref (He.ga K "Uneven")) (.ref (He.ga K "Told")) = some false
  k_SumsClash_is_Told : PySem.W.kitOne K (.ref (He.ga K "SumsClash")) (.ref (He.ga K "Told")) = some false
  k_TooClose_is_Told : PySem.W.kitOne K (.ref (He.ga K "TooClose")) (.ref (He.ga K "Told")) = some false
  k_Read_is_Told : PySem.W.kitOne K (.ref (He.ga K "Read")) (.ref (He.ga K "Told")) = some false
  j_Clash : KinOk K (He.ga K "Clash")
  k_NearPair_is_Clash : PySem.W.kitOne K (.ref (He.ga K "NearPair")) (.ref (He.ga K "Clash")) = some false
  k_Thinned_is_Clash : PySem.W.kitOne K (.ref (He.ga K "Thinned")) (.ref (He.ga K "Clash")) = some false
  k_Web_is_Clash : PySem.W.kitOne K (.ref (He.ga K "Web")) (.ref (He.ga K "Clash")) = some false
  k_Told_is_Clash : PySem.W.kitOne K (.ref (He.ga K "Told")) (.ref (He.ga K "Clash")) = some false
  k_Clash_is_Clash : PySem.W.kitOne K (.ref (He.ga K "Clash")) (.ref (He.ga K "Clash")) = some true
  k_TwoCuts_is_Clash : PySem.W.kitOne K (.ref (He.ga K "TwoCuts")) (.ref (He.ga K "Clash")) = some false
  k_Best_is_Clash : PySem.W.kitOne K (.ref (He.ga K "Best")) (.ref (He.ga K "Clash")) = some false
  k_RunPair_is_Clash : PySem.W.kitOne K (.ref (He.ga K "RunPair")) (.ref (He.ga K "Clash")) = some false
  k_Tried_is_Clash : PySem.W.kitOne K (.ref (He.ga K "Tried")) (.ref (He.ga K "Clash")) = some false
  k_MixClash_is_Clash : PySem.W.kitOne K (.ref (He.ga K "MixClash")) (.ref (He.ga K "Clash")) = some false
  k_Uneven_is_Clash : PySem.W.kitOne K (.ref (He.ga K "Uneven")) (.ref (He.ga K "Clash")) = some false
  k_SumsClash_is_Clash : PySem.W.kitOne K (.ref (He.ga K "SumsClash")) (.ref (He.ga K "Clash")) = some false
  k_TooClose_is_Clash : PySem.W.kitOne K (.ref (He.ga K "TooClose")) (.ref (He.ga K "Clash")) = some false
  k_Read_is_Clash : PySem.W.kitOne K (.ref (He.ga K "Read")) (.ref (He.ga K "Clash")) = some false
  j_TwoCuts : KinOk K (He.ga K "TwoCuts")
  k_NearPair_is_TwoCuts : PySem.W.kitOne K (.ref (He.ga K "NearPair")) (.ref (He.ga K "TwoCuts")) = some false
  k_Thinned_is_TwoCuts : PySem.W.kitOne K (.ref (He.ga K "Thinned")) (.ref (He.ga K "TwoCuts")) = some false
  k_Web_is_TwoCuts : PySem.W.kitOne K (.ref (He.ga K "Web")) (.ref (He.ga K "TwoCuts")) = some false
  k_Told_is_TwoCuts : PySem.W.kitOne K (.ref (He.ga K "Told")) (.ref (He.ga K "TwoCuts")) = some false
  k_Clash_is_TwoCuts : PySem.W.kitOne K (.ref (He.ga K "Clash")) (.ref (He.ga K "TwoCuts")) = some false
  k_TwoCuts_is_TwoCuts : PySem.W.kitOne K (.ref (He.ga K "TwoCuts")) (.ref (He.ga K "TwoCuts")) = some true
  k_Best_is_TwoCuts : PySem.W.kitOne K (.ref (He.ga K "Best")) (.ref (He.ga K "TwoCuts")) = some false
  k_RunPair_is_TwoCuts : PySem.W.kitOne K (.ref (He.ga K "RunPair")) (.ref (He.ga K "TwoCuts")) = some false
  k_Tried_is_TwoCuts : PySem.W.kitOne K (.ref (He.ga K "Tried")) (.ref (He.ga K "TwoCuts")) = some false
  k_MixClash_is_TwoCuts : PySem.W.kitOne K (.ref (He.ga K "MixClash")) (.ref (He.ga K "TwoCuts")) = some false
  k_Uneven_is_TwoCuts : PySem.W.kitOne K (.ref (He.ga K "Uneven")) (.ref (He.ga K "TwoCuts")) = some false
  k_SumsClash_is_TwoCuts : PySem.W.kitOne K (.ref (He.ga K "SumsClash")) (.ref (He.ga K "TwoCuts")) = some false
  k_TooClose_is_TwoCuts : PySem.W.kitOne K (.ref (He.ga K "TooClose")) (.ref (He.ga K "TwoCuts")) = some false
  k_Read_is_TwoCuts : PySem.W.kitOne K (.ref (He.ga K "Read")) (.ref (He.ga K "TwoCuts")) = some false
  j_Best : KinOk K (He.ga K "Best")
  k_NearPair_is_Best : PySem.W.kitOne K (.ref (He.ga K "NearPair")) (.ref (He.ga K "Best")) = some false
  k_Thinned_is_Best : PySem.W.kitOne K (.ref (He.ga K "Thinned")) (.ref (He.ga K "Best")) = some false
  k_Web_is_Best : PySem.W.kitOne K (.ref (He.ga K "Web")) (.ref (He.ga K "Best")) = some false
  k_Told_is_Best : PySem.W.kitOne K (.ref (He.ga K "Told")) (.ref (He.ga K "Best")) = some false
  k_Clash_is_Best : PySem.W.kitOne K (.ref (He.ga K "Clash")) (.ref (He.ga K "Best")) = some false
  k_TwoCuts_is_Best : PySem.W.kitOne K (.ref (He.ga K "TwoCuts")) (.ref (He.ga K "Best")) = some false
  k_Best_is_Best : PySem.W.kitOne K (.ref (He.ga K "Best")) (.ref (He.ga K "Best")) = some true
  k_RunPair_is_Best : PySem.W.kitOne K (.ref (He.ga K "RunPair")) (.ref (He.ga K "Best")) = some false
  k_Tried_is_Best : PySem.W.kitOne K (.ref (He.ga K "Tried")) (.ref (He.ga K "Best")) = some false
  k_MixClash_is_Best : PySem.W.kitOne K (.ref (He.ga K "MixClash")) (.ref (He.ga K "Best")) = some false
  k_Uneven_is_Best : PySem.W.kitOne K (.ref (He.ga K "Uneven")) (.ref (He.ga K "Best")) = some false
  k_SumsClash_is_Best : PySem.W.kitOne K (.ref (He.ga K "SumsClash")) (.ref (He.ga K "Best")) = some false
  k_TooClose_is_Best : PySem.W.kitOne K (.ref (He.ga K "TooClose")) (.ref (He.ga K "Best")) = some false
  k_Read_is_Best : PySem.W.kitOne K (.ref (He.ga K "Read")) (.ref (He.ga K "Best")) = some false
  j_RunPair : KinOk K (He.ga K "RunPair")
  k_NearPair_is_RunPair : PySem.W.kitOne K (.ref (He.ga K "NearPair")) (.ref (He.ga K "RunPair")) = some false
  k_Thinned_is_RunPair : PySem.W.kitOne K (.ref (He.ga K "Thinned")) (.ref (He.ga K "RunPair")) = some false
  k_Web_is_RunPair : PySem.W.kitOne K (.ref (He.ga K "Web")) (.ref (He.ga K "RunPair")) = some false
  k_Told_is_RunPair : PySem.W.kitOne K (.ref (He.ga K "Told")) (.ref (He.ga K "RunPair")) = some false
  k_Clash_is_RunPair : PySem.W.kitOne K (.ref (He.ga K "Clash")) (.ref (He.ga K "RunPair")) = some false
  k_TwoCuts_is_RunPair : PySem.W.kitOne K (.ref (He.ga K "TwoCuts")) (.ref (He.ga K "RunPair")) = some false
  k_Best_is_RunPair : PySem.W.kitOne K (.ref (He.ga K "Best")) (.ref (He.ga K "RunPair")) = some false
  k_RunPair_is_RunPair : PySem.W.kitOne K (.ref (He.ga K "RunPair")) (.ref (He.ga K "RunPair")) = some true
  k_Tried_is_RunPair : PySem.W.kitOne K (.ref (He.ga K "Tried")) (.ref (He.ga K "RunPair")) = some false
  k_MixClash_is_RunPair : PySem.W.kitOne K (.ref (He.ga K "MixClash")) (.ref (He.ga K "RunPair")) = some false
  k_Uneven_is_RunPair : PySem.W.kitOne K (.ref (He.ga K "Uneven")) (.ref (He.ga K "RunPair")) = some false
  k_SumsClash_is_RunPair : PySem.W.kitOne K (.ref (He.ga K "SumsClash")) (.ref (He.ga K "RunPair")) = some false
  k_TooClose_is_RunPair : PySem.W.kitOne K (.ref (He.ga K "TooClose")) (.ref (He.ga K "RunPair")) = some false
  k_Read_is_RunPair : PySem.W.kitOne K (.ref (He.ga K "Read")) (.ref (He.ga K "RunPair")) = some false
  j_Tried : KinOk K (He.ga K "Tried")
  k_NearPair_is_Tried : PySem.W.kitOne K (.ref (He.ga K "NearPair")) (.ref (He.ga K "Tried")) = some false
  k_Thinned_is_Tried : PySem.W.kitOne K (.ref (He.ga K "Thinned")) (.ref (He.ga K "Tried")) = some false
  k_Web_is_Tried : PySem.W.kitOne K (.ref (He.ga K "Web")) (.ref (He.ga K "Tried")) = some false
  k_Told_is_Tried : PySem.W.kitOne K (.ref (He.ga K "Told")) (.ref (He.ga K "Tried")) = some false
  k_Clash_is_Tried : PySem.W.kitOne K (.ref (He.ga K "Clash")) (.ref (He.ga K "Tried")) = some false
  k_TwoCuts_is_Tried : PySem.W.kitOne K (.ref (He.ga K "TwoCuts")) (.ref (He.ga K "Tried")) = some false
  k_Best_is_Tried : PySem.W.kitOne K (.ref (He.ga K "Best")) (.ref (He.ga K "Tried")) = some false
  k_RunPair_is_Tried : PySem.W.kitOne K (.ref (He.ga K "RunPair")) (.ref (He.ga K "Tried")) = some false
  k_Tried_is_Tried : PySem.W.kitOne K (.ref (He.ga K "Tried")) (.ref (He.ga K "Tried")) = some true
  k_MixClash_is_Tried : PySem.W.kitOne K (.ref (He.ga K "MixClash")) (.ref (He.ga K "Tried")) = some false
  k_Uneven_is_Tried : PySem.W.kitOne K (.ref (He.ga K "Uneven")) (.ref (He.ga K "Tried")) = some false
  k_SumsClash_is_Tried : PySem.W.kitOne K (.ref (He.ga K "SumsClash")) (.ref (He.ga K "Tried")) = some false
  k_TooClose_is_Tried : PySem.W.kitOne K (.ref (He.ga K "TooClose")) (.ref (He.ga K "Tried")) = some false
  k_Read_is_Tried : PySem.W.kitOne K (.ref (He.ga K "Read")) (.ref (He.ga K "Tried")) = some false
  j_MixClash : KinOk K (He.ga K "MixClash")
  k_NearPair_is_MixClash : PySem.W.kitOne K (.ref (He.ga K "NearPair")) (.ref (He.ga K "MixClash")) = some false
  k_Thinned_is_MixClash : PySem.W.kitOne K (.ref (He.ga K "Thinned")) (.ref (He.ga K "MixClash")) = some false
  k_Web_is_MixClash : PySem.W.kitOne K (.ref (He.ga K "Web")) (.ref (He.ga K "MixClash")) = some false
  k_Told_is_MixClash : PySem.W.kitOne K (.ref (He.ga K "Told")) (.ref (He.ga K "MixClash")) = some false
  k_Clash_is_MixClash : PySem.W.kitOne K (.ref (He.ga K "Clash")) (.ref (He.ga K "MixClash")) = some false
  k_TwoCuts_is_MixClash : PySem.W.kitOne K (.ref (He.ga K "TwoCuts")) (.ref (He.ga K "MixClash")) = some false
  k_Best_is_MixClash : PySem.W.kitOne K (.ref (He.ga K "Best")) (.ref (He.ga K "MixClash")) = some false
  k_RunPair_is_MixClash : PySem.W.kitOne K (.ref (He.ga K "RunPair")) (.ref (He.ga K "MixClash")) = some false
  k_Tried_is_MixClash : PySem.W.kitOne K (.ref (He.ga K "Tried")) (.ref (He.ga K "MixClash")) = some false
  k_MixClash_is_MixClash : PySem.W.kitOne K (.ref (He.ga K "MixClash")) (.ref (He.ga K "MixClash")) = some true
  k_Uneven_is_MixClash : PySem.W.kitOne K (.ref (He.ga K "Uneven")) (.ref (He.ga K "MixClash")) = some false
  k_SumsClash_is_MixClash : PySem.W.kitOne K (.ref (He.ga K "SumsClash")) (.ref (He.ga K "MixClash")) = some false
  k_TooClose_is_MixClash : PySem.W.kitOne K (.ref (He.ga K "TooClose")) (.ref (He.ga K "MixClash")) = some false
  k_Read_is_MixClash : PySem.W.kitOne K (.ref (He.ga K "Read")) (.ref (He.ga K "MixClash")) = some false
  j_Uneven : KinOk K (He.ga K "Uneven")
  k_NearPair_is_Uneven : PySem.W.kitOne K (.ref (He.ga K "NearPair")) (.ref (He.ga K "Uneven")) = some false
  k_Thinned_is_Uneven : PySem.W.kitOne K (.ref (He.ga K "Thinned")) (.ref (He.ga K "Uneven")) = some false
  k_Web_is_Uneven : PySem.W.kitOne K (.ref (He.ga K "Web")) (.ref (He.ga K "Uneven")) = some false
  k_Told_is_Uneven : PySem.W.kitOne K (.ref (He.ga K "Told")) (.ref (He.ga K "Uneven")) = some false
  k_Clash_is_Uneven : PySem.W.kitOne K (.ref (He.ga K "Clash")) (.ref (He.ga K "Uneven")) = some false
  k_TwoCuts_is_Uneven : PySem.W.kitOne K (.ref (He.ga K "TwoCuts")) (.ref (He.ga K "Uneven")) = some false
  k_Best_is_Uneven : PySem.W.kitOne K (.ref (He.ga K "Best")) (.ref (He.ga K "Uneven")) = some false
  k_RunPair_is_Uneven : PySem.W.kitOne K (.ref (He.ga K "RunPair")) (.ref (He.ga K "Uneven")) = some false
  k_Tried_is_Uneven : PySem.W.kitOne K (.ref (He.ga K "Tried")) (.ref (He.ga K "Uneven")) = some false
  k_MixClash_is_Uneven : PySem.W.kitOne K (.ref (He.ga K "MixClash")) (.ref (He.ga K "Uneven")) = some false
  k_Uneven_is_Uneven : PySem.W.kitOne K (.ref (He.ga K "Uneven")) (.ref (He.ga K "Uneven")) = some true
  k_SumsClash_is_Uneven : PySem.W.kitOne K (.ref (He.ga K "SumsClash")) (.ref (He.ga K "Uneven")) = some false
  k_TooClose_is_Uneven : PySem.W.kitOne K (.ref (He.ga K "TooClose")) (.ref (He.ga K "Uneven")) = some false
  k_Read_is_Uneven : PySem.W.kitOne K (.ref (He.ga K "Read")) (.ref (He.ga K "Uneven")) = some false
  j_SumsClash : KinOk K (He.ga K "SumsClash")
  k_NearPair_is_SumsClash : PySem.W.kitOne K (.ref (He.ga K "NearPair")) (.ref (He.ga K "SumsClash")) = some false
  k_Thinned_is_SumsClash : PySem.W.kitOne K (.ref (He.ga K "Thinned")) (.ref (He.ga K "SumsClash")) = some false
  k_Web_is_SumsClash : PySem.W.kitOne K (.ref (He.ga K "Web")) (.ref (He.ga K "SumsClash")) = some false
  k_Told_is_SumsClash : PySem.W.kitOne K (.ref (He.ga K "Told")) (.ref (He.ga K "SumsClash")) = some false
  k_Clash_is_SumsClash : PySem.W.kitOne K (.ref (He.ga K "Clash")) (.ref (He.ga K "SumsClash")) = some false
  k_TwoCuts_is_SumsClash : PySem.W.kitOne K (.ref (He.ga K "TwoCuts")) (.ref (He.ga K "SumsClash")) = some false
  k_Best_is_SumsClash : PySem.W.kitOne K (.ref (He.ga K "Best")) (.ref (He.ga K "SumsClash")) = some false
  k_RunPair_is_SumsClash : PySem.W.kitOne K (.ref (He.ga K "RunPair")) (.ref (He.ga K "SumsClash")) = some false
  k_Tried_is_SumsClash : PySem.W.kitOne K (.ref (He.ga K "Tried")) (.ref (He.ga K "SumsClash")) = some false
  k_MixClash_is_SumsClash : PySem.W.kitOne K (.ref (He.ga K "MixClash")) (.ref (He.ga K "SumsClash")) = some false
  k_Uneven_is_SumsClash : PySem.W.kitOne K (.ref (He.ga K "Uneven")) (.ref (He.ga K "SumsClash")) = some false
  k_SumsClash_is_SumsClash : PySem.W.kitOne K (.ref (He.ga K "SumsClash")) (.ref (He.ga K "SumsClash")) = some true
  k_TooClose_is_SumsClash : PySem.W.kitOne K (.ref (He.ga K "TooClose")) (.ref (He.ga K "SumsClash")) = some false
  k_Read_is_SumsClash : PySem.W.kitOne K (.ref (He.ga K "Read")) (.ref (He.ga K "SumsClash")) = some false
  j_TooClose : KinOk K (He.ga K "TooClose")
  k_NearPair_is_TooClose : PySem.W.kitOne K (.ref (He.ga K "NearPair")) (.ref (He.ga K "TooClose")) = some false
  k_Thinned_is_TooClose : PySem.W.kitOne K (.ref (He.ga K "Thinned")) (.ref (He.ga K "TooClose")) = some false
  k_Web_is_TooClose : PySem.W.kitOne K (.ref (He.ga K "Web")) (.ref (He.ga K "TooClose")) = some false
  k_Told_is_TooClose : PySem.W.kitOne K (.ref (He.ga K "Told")) (.ref (He.ga K "TooClose")) = some false
  k_Clash_is_TooClose : PySem.W.kitOne K (.ref (He.ga K "Clash")) (.ref (He.ga K "TooClose")) = some false
  k_TwoCuts_is_TooClose : PySem.W.kitOne K (.ref (He.ga K "TwoCuts")) (.ref (He.ga K "TooClose")) = some false
  k_Best_is_TooClose : PySem.W.kitOne K (.ref (He.ga K "Best")) (.ref (He.ga K "TooClose")) = some false
  k_RunPair_is_TooClose : PySem.W.kitOne K (.ref (He.ga K "RunPair")) (.ref (He.ga K "TooClose")) = some false
  k_Tried_is_TooClose : PySem.W.kitOne K (.ref (He.ga K "Tried")) (.ref (He.ga K "TooClose")) = some false
  k_MixClash_is_TooClose : PySem.W.kitOne K (.ref (He.ga K "MixClash")) (.ref (He.ga K "TooClose")) = some false
  k_Uneven_is_TooClose : PySem.W.kitOne K (.ref (He.ga K "Uneven")) (.ref (He.ga K "TooClose")) = some false
  k_SumsClash_is_TooClose : PySem.W.kitOne K (.ref (He.ga K "SumsClash")) (.ref (He.ga K "TooClose")) = some false
  k_TooClose_is_TooClose : PySem.W.kitOne K (.ref (He.ga K "TooClose")) (.ref (He.ga K "TooClose")) = some true
  k_Read_is_TooClose : PySem.W.kitOne K (.ref (He.ga K "Read")) (.ref (He.ga K "TooClose")) = some false
  j_Read : KinOk K (He.ga K "Read")
  k_NearPair_is_Read : PySem.W.kitOne K (.ref (He.ga K "NearPair")) (.ref (He.ga K "Read")) = some false
  k_Thinned_is_Read : PySem.W.kitOne K (.ref (He.ga K "Thinned")) (.ref (He.ga K "Read")) = some false
  k_Web_is_Read : PySem.W.kitOne K (.ref (He.ga K "Web")) (.ref (He.ga K "Read")) = some false
  k_Told_is_Read : PySem.W.kitOne K (.ref (He.ga K "Told")) (.ref (He.ga K "Read")) = some false
  k_Clash_is_Read : PySem.W.kitOne K (.ref (He.ga K "Clash")) (.ref (He.ga K "Read")) = some false
  k_TwoCuts_is_Read : PySem.W.kitOne K (.ref (He.ga K "TwoCuts")) (.ref (He.ga K "Read")) = some false
  k_Best_is_Read : PySem.W.kitOne K (.ref (He.ga K "Best")) (.ref (He.ga K "Read")) = some false
  k_RunPair_is_Read : PySem.W.kitOne K (.ref (He.ga K "RunPair")) (.ref (He.ga K "Read")) = some false
  k_Tried_is_Read : PySem.W.kitOne K (.ref (He.ga K "Tried")) (.ref (He.ga K "Read")) = some false
  k_MixClash_is_Read : PySem.W.kitOne K (.ref (He.ga K "MixClash")) (.ref (He.ga K "Read")) = some false
  k_Uneven_is_Read : PySem.W.kitOne K (.ref (He.ga K "Uneven")) (.ref (He.ga K "Read")) = some false
  k_SumsClash_is_Read : PySem.W.kitOne K (.ref (He.ga K "SumsClash")) (.ref (He.ga K "Read")) = some false
  k_TooClose_is_Read : PySem.W.kitOne K (.ref (He.ga K "TooClose")) (.ref (He.ga K "Read")) = some false
  k_Read_is_Read : PySem.W.kitOne K (.ref (He.ga K "Read")) (.ref (He.ga K "Read")) = some true
  F_NearPair___init : ∃ fd, D_NearPair___init K (He.ma K (He.ga K "NearPair") "__init__") fd
  F_NearPair___eq : ∃ fd, D_NearPair___eq K (He.ma K (He.ga K "NearPair") "__eq__") fd
  F_Thinned___init : ∃ fd, D_Thinned___init K (He.ma K (He.ga K "Thinned") "__init__") fd
  F_Thinned___eq : ∃ fd, D_Thinned___eq K (He.ma K (He.ga K "Thinned") "__eq__") fd
  F_Web___init : ∃ fd, D_Web___init K (He.ma K (He.ga K "Web") "__init__") fd
  F_Web___eq : ∃ fd, D_Web___eq K (He.ma K (He.ga K "Web") "__eq__") fd
  F_Told___init : ∃ fd, D_Told___init K (He.ma K (He.ga K "Told") "__init__") fd
  F_Told___eq : ∃ fd, D_Told___eq K (He.ma K (He.ga K "Told") "__eq__") fd
  F_Clash___init : ∃ fd, D_Clash___init K (He.ma K (He.ga K "Clash") "__init__") fd
  F_Clash___eq : ∃ fd, D_Clash___eq K (He.ma K (He.ga K "Clash") "__eq__") fd
  F_TwoCuts___init : ∃ fd, D_TwoCuts___init K (He.ma K (He.ga K "TwoCuts") "__init__") fd
  F_TwoCuts___eq : ∃ fd, D_TwoCuts___eq K (He.ma K (He.ga K "TwoCuts") "__eq__") fd
  F_Best___init : ∃ fd, D_Best___init K (He.ma K (He.ga K "Best") "__init__") fd
  F_Best___eq : ∃ fd, D_Best___eq K (He.ma K (He.ga K "Best") "__eq__") fd
  F_RunPair___init : ∃ fd, D_RunPair___init K (He.ma K (He.ga K "RunPair") "__init__") fd
  F_RunPair___eq : ∃ fd, D_RunPair___eq K (He.ma K (He.ga K "RunPair") "__eq__") fd
  F_Tried___init : ∃ fd, D_Tried___init K (He.ma K (He.ga K "Tried") "__init__") fd
  F_Tried___eq : ∃ fd, D_Tried___eq K (He.ma K (He.ga K "Tried") "__eq__") fd
  F_MixClash___init : ∃ fd, D_MixClash___init K (He.ma K (He.ga K "MixClash") "__init__") fd
  F_MixClash___eq : ∃ fd, D_MixClash___eq K (He.ma K (He.ga K "MixClash") "__eq__") fd
  F_Uneven___init : ∃ fd, D_Uneven___init K (He.ma K (He.ga K "Uneven") "__init__") fd
  F_Uneven___eq : ∃ fd, D_Uneven___eq K (He.ma K (He.ga K "Uneven") "__eq__") fd
  F_SumsClash___init : ∃ fd, D_SumsClash___init K (He.ma K (He.ga K "SumsClash") "__init__") fd
  F_SumsClash___eq : ∃ fd, D_SumsClash___eq K (He.ma K (He.ga K "SumsClash") "__eq__") fd
  F_TooClose___init : ∃ fd, D_TooClose___init K (He.ma K (He.ga K "TooClose") "__init__") fd
  F_TooClose___eq : ∃ fd, D_TooClose___eq K (He.ma K (He.ga K "TooClose") "__eq__") fd
  F_Read___init : ∃ fd, D_Read___init K (He.ma K (He.ga K "Read") "__init__") fd
  F_Read___eq : ∃ fd, D_Read___eq K (He.ma K (He.ga K "Read") "__eq__") fd
  F_law_hand : ∃ fd, D_law_hand K (He.ga K "_law_hand") fd
  F_law_mixed : ∃ fd, D_law_mixed K (He.ga K "_law_mixed") fd
  F_law_take : ∃ fd, D_law_take K (He.ga K "_law_take") fd
  F_law_word : ∃ fd, D_law_word K (He.ga K "_law_word") fd
  F_law_made : ∃ fd, D_law_made K (He.ga K "_law_made") fd
  F_law_many : ∃ fd, D_law_many K (He.ga K "_law_many") fd
  F_law_kept : ∃ fd, D_law_kept K (He.ga K "_law_kept") fd
  F_law_is_kind : ∃ fd, D_law_is_kind K (He.ga K "_law_is_kind") fd
  F_law_part : ∃ fd, D_law_part K (He.ga K "_law_part") fd
  F_law : ∃ fd, D_law K (He.ga K "law") fd
theorem bd_NearPair___init {K : PySem.W.Frag} {f : Addr} {fd : FuncData} (F : D_NearPair___init K f fd) : Binds K fd P_NearPair___init [] := F.bindsN fun _ _ _ _ _ _ us hl => match us, hl with | [_, _, _, _, _], _ => rfl
theorem bd_NearPair___eq {K : PySem.W.Frag} {f : Addr} {fd : FuncData} (F : D_NearPair___eq K f fd) : Binds K fd P_NearPair___eq [] := F.bindsN fun _ _ _ _ _ _ us hl => match us, hl with | [_, _], _ => rfl
theorem bd_Thinned___init {K : PySem.W.Frag} {f : Addr} {fd : FuncData} (F : D_Thinned___init K f fd) : Binds K fd P_Thinned___init [] := F.bindsN fun _ _ _ _ _ _ us hl => match us, hl with | [_, _, _], _ => rfl
theorem bd_Thinned___eq {K : PySem.W.Frag} {f : Addr} {fd : FuncData} (F : D_Thinned___eq K f fd) : Binds K fd P_Thinned___eq [] := F.bindsN fun _ _ _ _ _ _ us hl => match us, hl with | [_, _], _ => rfl
theorem bd_Web___init {K : PySem.W.Frag} {f : Addr} {fd : FuncData} (F : D_Web___init K f fd) : Binds K fd P_Web___init [] := F.bindsN fun _ _ _ _ _ _ us hl => match us, hl with | [_, _, _, _], _ => rfl
theorem bd_Web___eq {K : PySem.W.Frag} {f : Addr} {fd : FuncData} (F : D_Web___eq K f fd) : Binds K fd P_Web___eq [] := F.bindsN fun _ _ _ _ _ _ us hl => match us, hl with | [_, _], _ => rfl
theorem bd_Told___init {K : PySem.W.Frag} {f : Addr} {fd : FuncData} (F : D_Told___init K f fd) : Binds K fd P_Told___init [] := F.bindsN fun _ _ _ _ _ _ us hl => match us, hl with | [_, _, _, _], _ => rfl
theorem bd_Told___eq {K : PySem.W.Frag} {f : Addr} {fd : FuncData} (F : D_Told___eq K f fd) : Binds K fd P_Told___eq [] := F.bindsN fun _ _ _ _ _ _ us hl => match us, hl with | [_, _], _ => rfl
theorem bd_Clash___init {K : PySem.W.Frag} {f : Addr} {fd : FuncData} (F : D_Clash___init K f fd) : Binds K fd P_Clash___init [] := F.bindsN fun _ _ _ _ _ _ us hl => match us, hl with | [_, _, _], _ => rfl
theorem bd_Clash___eq {K : PySem.W.Frag} {f : Addr} {fd : FuncData} (F : D_Clash___eq K f fd) : Binds K fd P_Clash___eq [] := F.bindsN fun _ _ _ _ _ _ us hl => match us, hl with | [_, _], _ => rfl
theorem bd_TwoCuts___init {K : PySem.W.Frag} {f : Addr} {fd : FuncData} (F : D_TwoCuts___init K f fd) : Binds K fd P_TwoCuts___init [] := F.bindsN fun _ _ _ _ _ _ us hl => match us, hl with | [_, _, _], _ => rfl
theorem bd_TwoCuts___eq {K : PySem.W.Frag} {f : Addr} {fd : FuncData} (F : D_TwoCuts___eq K f fd) : Binds K fd P_TwoCuts___eq [] := F.bindsN fun _ _ _ _ _ _ us hl => match us, hl with | [_, _], _ => rfl
theorem bd_Best___init {K : PySem.W.Frag} {f : Addr} {fd : FuncData} (F : D_Best___init K f fd) : Binds K fd P_Best___init [] := F.bindsN fun _ _ _ _ _ _ us hl => match us, hl with | [_, _, _], _ => rfl
theorem bd_Best___eq {K : PySem.W.Frag} {f : Addr} {fd : FuncData} (F : D_Best___eq K f fd) : Binds K fd P_Best___eq [] := F.bindsN fun _ _ _ _ _ _ us hl => match us, hl with | [_, _], _ => rfl
theorem bd_RunPair___init {K : PySem.W.Frag} {f : Addr} {fd : FuncData} (F : D_RunPair___init K f fd) : Binds K fd P_RunPair___init [] := F.bindsN fun _ _ _ _ _ _ us hl => match us, hl with | [_, _, _, _, _, _], _ => rfl
theorem bd_RunPair___eq {K : PySem.W.Frag} {f : Addr} {fd : FuncData} (F : D_RunPair___eq K f fd) : Binds K fd P_RunPair___eq [] := F.bindsN fun _ _ _ _ _ _ us hl => match us, hl with | [_, _], _ => rfl
theorem bd_Tried___init {K : PySem.W.Frag} {f : Addr} {fd : FuncData} (F : D_Tried___init K f fd) : Binds K fd P_Tried___init [] := F.bindsN fun _ _ _ _ _ _ us hl => match us, hl with | [_, _, _, _, _, _], _ => rfl
theorem bd_Tried___eq {K : PySem.W.Frag} {f : Addr} {fd : FuncData} (F : D_Tried___eq K f fd) : Binds K fd P_Tried___eq [] := F.bindsN fun _ _ _ _ _ _ us hl => match us, hl with | [_, _], _ => rfl
theorem bd_MixClash___init {K : PySem.W.Frag} {f : Addr} {fd : FuncData} (F : D_MixClash___init K f fd) : Binds K fd P_MixClash___init [] := F.bindsN fun _ _ _ _ _ _ us hl => match us, hl with | [_, _, _, _], _ => rfl
theorem bd_MixClash___eq {K : PySem.W.Frag} {f : Addr} {fd : FuncData} (F : D_MixClash___eq K f fd) : Binds K fd P_MixClash___eq [] := F.bindsN fun _ _ _ _ _ _ us hl => match us, hl with | [_, _], _ => rfl
theorem bd_Uneven___init {K : PySem.W.Frag} {f : Addr} {fd : FuncData} (F : D_Uneven___init K f fd) : Binds K fd P_Uneven___init [] := F.bindsN fun _ _ _ _ _ _ us hl => match us, hl with | [_, _, _], _ => rfl
theorem bd_Uneven___eq {K : PySem.W.Frag} {f : Addr} {fd : FuncData} (F : D_Uneven___eq K f fd) : Binds K fd P_Uneven___eq [] := F.bindsN fun _ _ _ _ _ _ us hl => match us, hl with | [_, _], _ => rfl
theorem bd_SumsClash___init {K : PySem.W.Frag} {f : Addr} {fd : FuncData} (F : D_SumsClash___init K f fd) : Binds K fd P_SumsClash___init [] := F.bindsN fun _ _ _ _ _ _ us hl => match us, hl with | [_, _, _], _ => rfl
theorem bd_SumsClash___eq {K : PySem.W.Frag} {f : Addr} {fd : FuncData} (F : D_SumsClash___eq K f fd) : Binds K fd P_SumsClash___eq [] := F.bindsN fun _ _ _ _ _ _ us hl => match us, hl with | [_, _], _ => rfl
theorem bd_TooClose___init {K : PySem.W.Frag} {f : Addr} {fd : FuncData} (F : D_TooClose___init K f fd) : Binds K fd P_TooClose___init [] := F.bindsN fun _ _ _ _ _ _ us hl => match us, hl with | [_, _, _], _ => rfl
theorem bd_TooClose___eq {K : PySem.W.Frag} {f : Addr} {fd : FuncData} (F : D_TooClose___eq K f fd) : Binds K fd P_TooClose___eq [] := F.bindsN fun _ _ _ _ _ _ us hl => match us, hl with | [_, _], _ => rfl
theorem bd_Read___init {K : PySem.W.Frag} {f : Addr} {fd : FuncData} (F : D_Read___init K f fd) : Binds K fd P_Read___init [] := F.bindsN fun _ _ _ _ _ _ us hl => match us, hl with | [_, _, _], _ => rfl
theorem bd_Read___eq {K : PySem.W.Frag} {f : Addr} {fd : FuncData} (F : D_Read___eq K f fd) : Binds K fd P_Read___eq [] := F.bindsN fun _ _ _ _ _ _ us hl => match us, hl with | [_, _], _ => rfl
theorem bd_law_hand {K : PySem.W.Frag} {f : Addr} {fd : FuncData} (F : D_law_hand K f fd) : Binds K fd P_law_hand [] := F.bindsN fun _ _ _ _ _ _ us hl => match us, hl with | [_], _ => rfl
theorem bd_law_mixed {K : PySem.W.Frag} {f : Addr} {fd : FuncData} (F : D_law_mixed K f fd) : Binds K fd P_law_mixed [] := F.bindsN fun _ _ _ _ _ _ us hl => match us, hl with | [_, _], _ => rfl
theorem bd_law_take {K : PySem.W.Frag} {f : Addr} {fd : FuncData} (F : D_law_take K f fd) : Binds K fd P_law_take [] := F.bindsN fun _ _ _ _ _ _ us hl => match us, hl with | [_, _], _ => rfl
theorem bd_law_word {K : PySem.W.Frag} {f : Addr} {fd : FuncData} (F : D_law_word K f fd) : Binds K fd P_law_word [] := F.bindsN fun _ _ _ _ _ _ us hl => match us, hl with | [_, _, _], _ => rfl
theorem bd_law_made {K : PySem.W.Frag} {f : Addr} {fd : FuncData} (F : D_law_made K f fd) : Binds K fd P_law_made [] := F.bindsN fun _ _ _ _ _ _ us hl => match us, hl with | [_], _ => rfl
theorem bd_law_many {K : PySem.W.Frag} {f : Addr} {fd : FuncData} (F : D_law_many K f fd) : Binds K fd P_law_many [] := F.bindsN fun _ _ _ _ _ _ us hl => match us, hl with | [], _ => rfl
theorem bd_law_kept {K : PySem.W.Frag} {f : Addr} {fd : FuncData} (F : D_law_kept K f fd) : Binds K fd P_law_kept [] := F.bindsN fun _ _ _ _ _ _ us hl => match us, hl with | [_], _ => rfl
theorem bd_law_is_kind {K : PySem.W.Frag} {f : Addr} {fd : FuncData} (F : D_law_is_kind K f fd) : Binds K fd P_law_is_kind [] := F.bindsN fun _ _ _ _ _ _ us hl => match us, hl with | [_], _ => rfl
theorem bd_law_part {K : PySem.W.Frag} {f : Addr} {fd : FuncData} (F : D_law_part K f fd) : Binds K fd P_law_part [] := F.bindsN fun _ _ _ _ _ _ us hl => match us, hl with | [_], _ => rfl
theorem bd_law {K : PySem.W.Frag} {f : Addr} {fd : FuncData} (F : D_law K f fd) : Binds K fd P_law [] := F.bindsN fun _ _ _ _ _ _ us hl => match us, hl with | [_], _ => rfl
theorem mt_ok {K : PySem.W.Frag} {mg : Str → Option Value} (T : Txt K mg) : ∀ a b r, mt a b = some r → PySem.W.exmOne K (.ref (He.ga K a)) (.ref (He.ga K b)) = some r := by
  intro a b r h
  unfold mt at h
  cases h
theorem fld_ok {K : PySem.W.Frag} {mg : Str → Option Value} (T : Txt K mg) : FldOk K ftab := by
  intro a f h
  unfold ftab at h
  by_cases c : a = "NearPair" ∧ f = "one"
  · obtain ⟨rfl, rfl⟩ := c; exact ⟨T.l_NearPair, T.a_NearPair_is_one⟩
  rw [if_neg c] at h; clear c
  by_cases c : a = "NearPair" ∧ f = "other"
  · obtain ⟨rfl, rfl⟩ := c; exact ⟨T.l_NearPair, T.a_NearPair_is_other⟩
  rw [if_neg c] at h; clear c
  by_cases c : a = "NearPair" ∧ f = "below"
  · obtain ⟨rfl, rfl⟩ := c; exact ⟨T.l_NearPair, T.a_NearPair_is_below⟩
  rw [if_neg c] at h; clear c
  by_cases c : a = "NearPair" ∧ f = "above"
  · obtain ⟨rfl, rfl⟩ := c; exact ⟨T.l_NearPair, T.a_NearPair_is_above⟩
  rw [if_neg c] at h; clear c
  by_cases c : a = "Thinned" ∧ f = "book"
  · obtain ⟨rfl, rfl⟩ := c; exact ⟨T.l_Thinned, T.a_Thinned_is_book⟩
  rw [if_neg c] at h; clear c
  by_cases c : a = "Thinned" ∧ f = "rows"
  · obtain ⟨rfl, rfl⟩ := c; exact ⟨T.l_Thinned, T.a_Thinned_is_rows⟩
  rw [if_neg c] at h; clear c
  by_cases c : a = "Web" ∧ f = "starts"
  · obtain ⟨rfl, rfl⟩ := c; exact ⟨T.l_Web, T.a_Web_is_starts⟩
  rw [if_neg c] at h; clear c
  by_cases c : a = "Web" ∧ f = "rests"
  · obtain ⟨rfl, rfl⟩ := c; exact ⟨T.l_Web, T.a_Web_is_rests⟩
  rw [if_neg c] at h; clear c
  by_cases c : a = "Web" ∧ f = "steps"
  · obtain ⟨rfl, rfl⟩ := c; exact ⟨T.l_Web, T.a_Web_is_steps⟩
  rw [if_neg c] at h; clear c
  by_cases c : a = "Told" ∧ f = "wait"
  · obtain ⟨rfl, rfl⟩ := c; exact ⟨T.l_Told, T.a_Told_is_wait⟩
  rw [if_neg c] at h; clear c
  by_cases c : a = "Told" ∧ f = "first"
  · obtain ⟨rfl, rfl⟩ := c; exact ⟨T.l_Told, T.a_Told_is_first⟩
  rw [if_neg c] at h; clear c
  by_cases c : a = "Told" ∧ f = "second"
  · obtain ⟨rfl, rfl⟩ := c; exact ⟨T.l_Told, T.a_Told_is_second⟩
  rw [if_neg c] at h; clear c
  by_cases c : a = "Clash" ∧ f = "first"
  · obtain ⟨rfl, rfl⟩ := c; exact ⟨T.l_Clash, T.a_Clash_is_first⟩
  rw [if_neg c] at h; clear c
  by_cases c : a = "Clash" ∧ f = "second"
  · obtain ⟨rfl, rfl⟩ := c; exact ⟨T.l_Clash, T.a_Clash_is_second⟩
  rw [if_neg c] at h; clear c
  by_cases c : a = "TwoCuts" ∧ f = "first"
  · obtain ⟨rfl, rfl⟩ := c; exact ⟨T.l_TwoCuts, T.a_TwoCuts_is_first⟩
  rw [if_neg c] at h; clear c
  by_cases c : a = "TwoCuts" ∧ f = "second"
  · obtain ⟨rfl, rfl⟩ := c; exact ⟨T.l_TwoCuts, T.a_TwoCuts_is_second⟩
  rw [if_neg c] at h; clear c
  by_cases c : a = "Best" ∧ f = "number"
  · obtain ⟨rfl, rfl⟩ := c; exact ⟨T.l_Best, T.a_Best_is_number⟩
  rw [if_neg c] at h; clear c
  by_cases c : a = "Best" ∧ f = "book"
  · obtain ⟨rfl, rfl⟩ := c; exact ⟨T.l_Best, T.a_Best_is_book⟩
  rw [if_neg c] at h; clear c
  by_cases c : a = "RunPair" ∧ f = "one"
  · obtain ⟨rfl, rfl⟩ := c; exact ⟨T.l_RunPair, T.a_RunPair_is_one⟩
  rw [if_neg c] at h; clear c
  by_cases c : a = "RunPair" ∧ f = "other"
  · obtain ⟨rfl, rfl⟩ := c; exact ⟨T.l_RunPair, T.a_RunPair_is_other⟩
  rw [if_neg c] at h; clear c
  by_cases c : a = "RunPair" ∧ f = "apart"
  · obtain ⟨rfl, rfl⟩ := c; exact ⟨T.l_RunPair, T.a_RunPair_is_apart⟩
  rw [if_neg c] at h; clear c
  by_cases c : a = "RunPair" ∧ f = "longer"
  · obtain ⟨rfl, rfl⟩ := c; exact ⟨T.l_RunPair, T.a_RunPair_is_longer⟩
  rw [if_neg c] at h; clear c
  by_cases c : a = "RunPair" ∧ f = "shorter"
  · obtain ⟨rfl, rfl⟩ := c; exact ⟨T.l_RunPair, T.a_RunPair_is_shorter⟩
  rw [if_neg c] at h; clear c
  by_cases c : a = "Tried" ∧ f = "many"
  · obtain ⟨rfl, rfl⟩ := c; exact ⟨T.l_Tried, T.a_Tried_is_many⟩
  rw [if_neg c] at h; clear c
  by_cases c : a = "Tried" ∧ f = "borne"
  · obtain ⟨rfl, rfl⟩ := c; exact ⟨T.l_Tried, T.a_Tried_is_borne⟩
  rw [if_neg c] at h; clear c
  by_cases c : a = "Tried" ∧ f = "runs"
  · obtain ⟨rfl, rfl⟩ := c; exact ⟨T.l_Tried, T.a_Tried_is_runs⟩
  rw [if_neg c] at h; clear c
  by_cases c : a = "Tried" ∧ f = "told"
  · obtain ⟨rfl, rfl⟩ := c; exact ⟨T.l_Tried, T.a_Tried_is_told⟩
  rw [if_neg c] at h; clear c
  by_cases c : a = "Tried" ∧ f = "met"
  · obtain ⟨rfl, rfl⟩ := c; exact ⟨T.l_Tried, T.a_Tried_is_met⟩
  rw [if_neg c] at h; clear c
  by_cases c : a = "MixClash" ∧ f = "one"
  · obtain ⟨rfl, rfl⟩ := c; exact ⟨T.l_MixClash, T.a_MixClash_is_one⟩
  rw [if_neg c] at h; clear c
  by_cases c : a = "MixClash" ∧ f = "other"
  · obtain ⟨rfl, rfl⟩ := c; exact ⟨T.l_MixClash, T.a_MixClash_is_other⟩
  rw [if_neg c] at h; clear c
  by_cases c : a = "MixClash" ∧ f = "word"
  · obtain ⟨rfl, rfl⟩ := c; exact ⟨T.l_MixClash, T.a_MixClash_is_word⟩
  rw [if_neg c] at h; clear c
  by_cases c : a = "Uneven" ∧ f = "word"
  · obtain ⟨rfl, rfl⟩ := c; exact ⟨T.l_Uneven, T.a_Uneven_is_word⟩
  rw [if_neg c] at h; clear c
  by_cases c : a = "Uneven" ∧ f = "above"
  · obtain ⟨rfl, rfl⟩ := c; exact ⟨T.l_Uneven, T.a_Uneven_is_above⟩
  rw [if_neg c] at h; clear c
  by_cases c : a = "SumsClash" ∧ f = "one"
  · obtain ⟨rfl, rfl⟩ := c; exact ⟨T.l_SumsClash, T.a_SumsClash_is_one⟩
  rw [if_neg c] at h; clear c
  by_cases c : a = "SumsClash" ∧ f = "other"
  · obtain ⟨rfl, rfl⟩ := c; exact ⟨T.l_SumsClash, T.a_SumsClash_is_other⟩
  rw [if_neg c] at h; clear c
  by_cases c : a = "TooClose" ∧ f = "one"
  · obtain ⟨rfl, rfl⟩ := c; exact ⟨T.l_TooClose, T.a_TooClose_is_one⟩
  rw [if_neg c] at h; clear c
  by_cases c : a = "TooClose" ∧ f = "other"
  · obtain ⟨rfl, rfl⟩ := c; exact ⟨T.l_TooClose, T.a_TooClose_is_other⟩
  rw [if_neg c] at h; clear c
  by_cases c : a = "Read" ∧ f = "what"
  · obtain ⟨rfl, rfl⟩ := c; exact ⟨T.l_Read, T.a_Read_is_what⟩
  rw [if_neg c] at h; clear c
  by_cases c : a = "Read" ∧ f = "member"
  · obtain ⟨rfl, rfl⟩ := c; exact ⟨T.l_Read, T.a_Read_is_member⟩
  rw [if_neg c] at h; clear c
  cases h
theorem isi_NearPair {K : PySem.W.Frag} {mg : Str → Option Value} (T : Txt K mg) : IsOk K "NearPair" tabI_NearPair := by
  refine ⟨fun a r h => ?_, T.j_NearPair⟩
  unfold tabI_NearPair at h
  by_cases c : a = "NearPair"
  · rw [if_pos c] at h; subst c; cases h; exact ⟨T.k_NearPair_is_NearPair, tyx_ins T.l_NearPair T.o_NearPair⟩
  rw [if_neg c] at h; clear c
  by_cases c : a = "Thinned"
  · rw [if_pos c] at h; subst c; cases h; exact ⟨T.k_Thinned_is_NearPair, tyx_ins T.l_Thinned T.o_Thinned⟩
  rw [if_neg c] at h; clear c
  by_cases c : a = "Web"
  · rw [if_pos c] at h; subst c; cases h; exact ⟨T.k_Web_is_NearPair, tyx_ins T.l_Web T.o_Web⟩
  rw [if_neg c] at h; clear c
  by_cases c : a = "Told"
  · rw [if_pos c] at h; subst c; cases h; exact ⟨T.k_Told_is_NearPair, tyx_ins T.l_Told T.o_Told⟩
  rw [if_neg c] at h; clear c
  by_cases c : a = "Clash"
  · rw [if_pos c] at h; subst c; cases h; exact ⟨T.k_Clash_is_NearPair, tyx_ins T.l_Clash T.o_Clash⟩
  rw [if_neg c] at h; clear c
  by_cases c : a = "TwoCuts"
  · rw [if_pos c] at h; subst c; cases h; exact ⟨T.k_TwoCuts_is_NearPair, tyx_ins T.l_TwoCuts T.o_TwoCuts⟩
  rw [if_neg c] at h; clear c
  by_cases c : a = "Best"
  · rw [if_pos c] at h; subst c; cases h; exact ⟨T.k_Best_is_NearPair, tyx_ins T.l_Best T.o_Best⟩
  rw [if_neg c] at h; clear c
  by_cases c : a = "RunPair"
  · rw [if_pos c] at h; subst c; cases h; exact ⟨T.k_RunPair_is_NearPair, tyx_ins T.l_RunPair T.o_RunPair⟩
  rw [if_neg c] at h; clear c
  by_cases c : a = "Tried"
  · rw [if_pos c] at h; subst c; cases h; exact ⟨T.k_Tried_is_NearPair, tyx_ins T.l_Tried T.o_Tried⟩
  rw [if_neg c] at h; clear c
  by_cases c : a = "MixClash"
  · rw [if_pos c] at h; subst c; cases h; exact ⟨T.k_MixClash_is_NearPair, tyx_ins T.l_MixClash T.o_MixClash⟩
  rw [if_neg c] at h; clear c
  by_cases c : a = "Uneven"
  · rw [if_pos c] at h; subst c; cases h; exact ⟨T.k_Uneven_is_NearPair, tyx_ins T.l_Uneven T.o_Uneven⟩
  rw [if_neg c] at h; clear c
  by_cases c : a = "SumsClash"
  · rw [if_pos c] at h; subst c; cases h; exact ⟨T.k_SumsClash_is_NearPair, tyx_ins T.l_SumsClash T.o_SumsClash⟩
  rw [if_neg c] at h; clear c
  by_cases c : a = "TooClose"
  · rw [if_pos c] at h; subst c; cases h; exact ⟨T.k_TooClose_is_NearPair, tyx_ins T.l_TooClose T.o_TooClose⟩
  rw [if_neg c] at h; clear c
  by_cases c : a = "Read"
  · rw [if_pos c] at h; subst c; cases h; exact ⟨T.k_Read_is_NearPair, tyx_ins T.l_Read T.o_Read⟩
  rw [if_neg c] at h; clear c
  cases h
theorem isi_Thinned {K : PySem.W.Frag} {mg : Str → Option Value} (T : Txt K mg) : IsOk K "Thinned" tabI_Thinned := by
  refine ⟨fun a r h => ?_, T.j_Thinned⟩
  unfold tabI_Thinned at h
  by_cases c : a = "NearPair"
  · rw [if_pos c] at h; subst c; cases h; exact ⟨T.k_NearPair_is_Thinned, tyx_ins T.l_NearPair T.o_NearPair⟩
  rw [if_neg c] at h; clear c
  by_cases c : a = "Thinned"
  · rw [if_pos c] at h; subst c; cases h; exact ⟨T.k_Thinned_is_Thinned, tyx_ins T.l_Thinned T.o_Thinned⟩
  rw [if_neg c] at h; clear c
  by_cases c : a = "Web"
  · rw [if_pos c] at h; subst c; cases h; exact ⟨T.k_Web_is_Thinned, tyx_ins T.l_Web T.o_Web⟩
  rw [if_neg c] at h; clear c
  by_cases c : a = "Told"
  · rw [if_pos c] at h; subst c; cases h; exact ⟨T.k_Told_is_Thinned, tyx_ins T.l_Told T.o_Told⟩
  rw [if_neg c] at h; clear c
  by_cases c : a = "Clash"
  · rw [if_pos c] at h; subst c; cases h; exact ⟨T.k_Clash_is_Thinned, tyx_ins T.l_Clash T.o_Clash⟩
  rw [if_neg c] at h; clear c
  by_cases c : a = "TwoCuts"
  · rw [if_pos c] at h; subst c; cases h; exact ⟨T.k_TwoCuts_is_Thinned, tyx_ins T.l_TwoCuts T.o_TwoCuts⟩
  rw [if_neg c] at h; clear c
  by_cases c : a = "Best"
  · rw [if_pos c] at h; subst c; cases h; exact ⟨T.k_Best_is_Thinned, tyx_ins T.l_Best T.o_Best⟩
  rw [if_neg c] at h; clear c
  by_cases c : a = "RunPair"
  · rw [if_pos c] at h; subst c; cases h; exact ⟨T.k_RunPair_is_Thinned, tyx_ins T.l_RunPair T.o_RunPair⟩
  rw [if_neg c] at h; clear c
  by_cases c : a = "Tried"
  · rw [if_pos c] at h; subst c; cases h; exact ⟨T.k_Tried_is_Thinned, tyx_ins T.l_Tried T.o_Tried⟩
  rw [if_neg c] at h; clear c
  by_cases c : a = "MixClash"
  · rw [if_pos c] at h; subst c; cases h; exact ⟨T.k_MixClash_is_Thinned, tyx_ins T.l_MixClash T.o_MixClash⟩
  rw [if_neg c] at h; clear c
  by_cases c : a = "Uneven"
  · rw [if_pos c] at h; subst c; cases h; exact ⟨T.k_Uneven_is_Thinned, tyx_ins T.l_Uneven T.o_Uneven⟩
  rw [if_neg c] at h; clear c
  by_cases c : a = "SumsClash"
  · rw [if_pos c] at h; subst c; cases h; exact ⟨T.k_SumsClash_is_Thinned, tyx_ins T.l_SumsClash T.o_SumsClash⟩
  rw [if_neg c] at h; clear c
  by_cases c : a = "TooClose"
  · rw [if_pos c] at h; subst c; cases h; exact ⟨T.k_TooClose_is_Thinned, tyx_ins T.l_TooClose T.o_TooClose⟩
  rw [if_neg c] at h; clear c
  by_cases c : a = "Read"
  · rw [if_pos c] at h; subst c; cases h; exact ⟨T.k_Read_is_Thinned, tyx_ins T.l_Read T.o_Read⟩
  rw [if_neg c] at h; clear c
  cases h
theorem isi_Web {K : PySem.W.Frag} {mg : Str → Option Value} (T : Txt K mg) : IsOk K "Web" tabI_Web := by
  refine ⟨fun a r h => ?_, T.j_Web⟩
  unfold tabI_Web at h
  by_cases c : a = "NearPair"
  · rw [if_pos c] at h; subst c; cases h; exact ⟨T.k_NearPair_is_Web, tyx_ins T.l_NearPair T.o_NearPair⟩
  rw [if_neg c] at h; clear c
  by_cases c : a = "Thinned"
  · rw [if_pos c] at h; subst c; cases h; exact ⟨T.k_Thinned_is_Web, tyx_ins T.l_Thinned T.o_Thinned⟩
  rw [if_neg c] at h; clear c
  by_cases c : a = "Web"
  · rw [if_pos c] at h; subst c; cases h; exact ⟨T.k_Web_is_Web, tyx_ins T.l_Web T.o_Web⟩
  rw [if_neg c] at h; clear c
  by_cases c : a = "Told"
  · rw [if_pos c] at h; subst c; cases h; exact ⟨T.k_Told_is_Web, tyx_ins T.l_Told T.o_Told⟩
  rw [if_neg c] at h; clear c
  by_cases c : a = "Clash"
  · rw [if_pos c] at h; subst c; cases h; exact ⟨T.k_Clash_is_Web, tyx_ins T.l_Clash T.o_Clash⟩
  rw [if_neg c] at h; clear c
  by_cases c : a = "TwoCuts"
  · rw [if_pos c] at h; subst c; cases h; exact ⟨T.k_TwoCuts_is_Web, tyx_ins T.l_TwoCuts T.o_TwoCuts⟩
  rw [if_neg c] at h; clear c
  by_cases c : a = "Best"
  · rw [if_pos c] at h; subst c; cases h; exact ⟨T.k_Best_is_Web, tyx_ins T.l_Best T.o_Best⟩
  rw [if_neg c] at h; clear c
  by_cases c : a = "RunPair"
  · rw [if_pos c] at h; subst c; cases h; exact ⟨T.k_RunPair_is_Web, tyx_ins T.l_RunPair T.o_RunPair⟩
  rw [if_neg c] at h; clear c
  by_cases c : a = "Tried"
  · rw [if_pos c] at h; subst c; cases h; exact ⟨T.k_Tried_is_Web, tyx_ins T.l_Tried T.o_Tried⟩
  rw [if_neg c] at h; clear c
  by_cases c : a = "MixClash"
  · rw [if_pos c] at h; subst c; cases h; exact ⟨T.k_MixClash_is_Web, tyx_ins T.l_MixClash T.o_MixClash⟩
  rw [if_neg c] at h; clear c
  by_cases c : a = "Uneven"
  · rw [if_pos c] at h; subst c; cases h; exact ⟨T.k_Uneven_is_Web, tyx_ins T.l_Uneven T.o_Uneven⟩
  rw [if_neg c] at h; clear c
  by_cases c : a = "SumsClash"
  · rw [if_pos c] at h; subst c; cases h; exact ⟨T.k_SumsClash_is_Web, tyx_ins T.l_SumsClash T.o_SumsClash⟩
  rw [if_neg c] at h; clear c
  by_cases c : a = "TooClose"
  · rw [if_pos c] at h; subst c; cases h; exact ⟨T.k_TooClose_is_Web, tyx_ins T.l_TooClose T.o_TooClose⟩
  rw [if_neg c] at h; clear c
  by_cases c : a = "Read"
  · rw [if_pos c] at h; subst c; cases h; exact ⟨T.k_Read_is_Web, tyx_ins T.l_Read T.o_Read⟩
  rw [if_neg c] at h; clear c
  cases h
theorem isi_Told {K : PySem.W.Frag} {mg : Str → Option Value} (T : Txt K mg) : IsOk K "Told" tabI_Told := by
  refine ⟨fun a r h => ?_, T.j_Told⟩
  unfold tabI_Told at h
  by_cases c : a = "NearPair"
  · rw [if_pos c] at h; subst c; cases h; exact ⟨T.k_NearPair_is_Told, tyx_ins T.l_NearPair T.o_NearPair⟩
  rw [if_neg c] at h; clear c
  by_cases c : a = "Thinned"
  · rw [if_pos c] at h; subst c; cases h; exact ⟨T.k_Thinned_is_Told, tyx_ins T.l_Thinned T.o_Thinned⟩
  rw [if_neg c] at h; clear c
  by_cases c : a = "Web"
  · rw [if_pos c] at h; subst c; cases h; exact ⟨T.k_Web_is_Told, tyx_ins T.l_Web T.o_Web⟩
  rw [if_neg c] at h; clear c
  by_cases c : a = "Told"
  · rw [if_pos c] at h; subst c; cases h; exact ⟨T.k_Told_is_Told, tyx_ins T.l_Told T.o_Told⟩
  rw [if_neg c] at h; clear c
  by_cases c : a = "Clash"
  · rw [if_pos c] at h; subst c; cases h; exact ⟨T.k_Clash_is_Told, tyx_ins T.l_Clash T.o_Clash⟩
  rw [if_neg c] at h; clear c
  by_cases c : a = "TwoCuts"
  · rw [if_pos c] at h; subst c; cases h; exact ⟨T.k_TwoCuts_is_Told, tyx_ins T.l_TwoCuts T.o_TwoCuts⟩
  rw [if_neg c] at h; clear c
  by_cases c : a = "Best"
  · rw [if_pos c] at h; subst c; cases h; exact ⟨T.k_Best_is_Told, tyx_ins T.l_Best T.o_Best⟩
  rw [if_neg c] at h; clear c
  by_cases c : a = "RunPair"
  · rw [if_pos c] at h; subst c; cases h; exact ⟨T.k_RunPair_is_Told, tyx_ins T.l_RunPair T.o_RunPair⟩
  rw [if_neg c] at h; clear c
  by_cases c : a = "Tried"
  · rw [if_pos c] at h; subst c; cases h; exact ⟨T.k_Tried_is_Told, tyx_ins T.l_Tried T.o_Tried⟩
  rw [if_neg c] at h; clear c
  by_cases c : a = "MixClash"
  · rw [if_pos c] at h; subst c; cases h; exact ⟨T.k_MixClash_is_Told, tyx_ins T.l_MixClash T.o_MixClash⟩
  rw [if_neg c] at h; clear c
  by_cases c : a = "Uneven"
  · rw [if_pos c] at h; subst c; cases h; exact ⟨T.k_Uneven_is_Told, tyx_ins T.l_Uneven T.o_Uneven⟩
  rw [if_neg c] at h; clear c
  by_cases c : a = "SumsClash"
  · rw [if_pos c] at h; subst c; cases h; exact ⟨T.k_SumsClash_is_Told, tyx_ins T.l_SumsClash T.o_SumsClash⟩
  rw [if_neg c] at h; clear c
  by_cases c : a = "TooClose"
  · rw [if_pos c] at h; subst c; cases h; exact ⟨T.k_TooClose_is_Told, tyx_ins T.l_TooClose T.o_TooClose⟩
  rw [if_neg c] at h; clear c
  by_cases c : a = "Read"
  · rw [if_pos c] at h; subst c; cases h; exact ⟨T.k_Read_is_Told, tyx_ins T.l_Read T.o_Read⟩
  rw [if_neg c] at h; clear c
  cases h
theorem isi_Clash {K : PySem.W.Frag} {mg : Str → Option Value} (T : Txt K mg) : IsOk K "Clash" tabI_Clash := by
  refine ⟨fun a r h => ?_, T.j_Clash⟩
  unfold tabI_Clash at h
  by_cases c : a = "NearPair"
  · rw [if_pos c] at h; subst c; cases h; exact ⟨T.k_NearPair_is_Clash, tyx_ins T.l_NearPair T.o_NearPair⟩
  rw [if_neg c] at h; clear c
  by_cases c : a = "Thinned"
  · rw [if_pos c] at h; subst c; cases h; exact ⟨T.k_Thinned_is_Clash, tyx_ins T.l_Thinned T.o_Thinned⟩
  rw [if_neg c] at h; clear c
  by_cases c : a = "Web"
  · rw [if_pos c] at h; subst c; cases h; exact ⟨T.k_Web_is_Clash, tyx_ins T.l_Web T.o_Web⟩
  rw [if_neg c] at h; clear c
  by_cases c : a = "Told"
  · rw [if_pos c] at h; subst c; cases h; exact ⟨T.k_Told_is_Clash, tyx_ins T.l_Told T.o_Told⟩
  rw [if_neg c] at h; clear c
  by_cases c : a = "Clash"
  · rw [if_pos c] at h; subst c; cases h; exact ⟨T.k_Clash_is_Clash, tyx_ins T.l_Clash T.o_Clash⟩
  rw [if_neg c] at h; clear c
  by_cases c : a = "TwoCuts"
  · rw [if_pos c] at h; subst c; cases h; exact ⟨T.k_TwoCuts_is_Clash, tyx_ins T.l_TwoCuts T.o_TwoCuts⟩
  rw [if_neg c] at h; clear c
  by_cases c : a = "Best"
  · rw [if_pos c] at h; subst c; cases h; exact ⟨T.k_Best_is_Clash, tyx_ins T.l_Best T.o_Best⟩
  rw [if_neg c] at h; clear c
  by_cases c : a = "RunPair"
  · rw [if_pos c] at h; subst c; cases h; exact ⟨T.k_RunPair_is_Clash, tyx_ins T.l_RunPair T.o_RunPair⟩
  rw [if_neg c] at h; clear c
  by_cases c : a = "Tried"
  · rw [if_pos c] at h; subst c; cases h; exact ⟨T.k_Tried_is_Clash, tyx_ins T.l_Tried T.o_Tried⟩
  rw [if_neg c] at h; clear c
  by_cases c : a = "MixClash"
  · rw [if_pos c] at h; subst c; cases h; exact ⟨T.k_MixClash_is_Clash, tyx_ins T.l_MixClash T.o_MixClash⟩
  rw [if_neg c] at h; clear c
  by_cases c : a = "Uneven"
  · rw [if_pos c] at h; subst c; cases h; exact ⟨T.k_Uneven_is_Clash, tyx_ins T.l_Uneven T.o_Uneven⟩
  rw [if_neg c] at h; clear c
  by_cases c : a = "SumsClash"
  · rw [if_pos c] at h; subst c; cases h; exact ⟨T.k_SumsClash_is_Clash, tyx_ins T.l_SumsClash T.o_SumsClash⟩
  rw [if_neg c] at h; clear c
  by_cases c : a = "TooClose"
  · rw [if_pos c] at h; subst c; cases h; exact ⟨T.k_TooClose_is_Clash, tyx_ins T.l_TooClose T.o_TooClose⟩
  rw [if_neg c] at h; clear c
  by_cases c : a = "Read"
  · rw [if_pos c] at h; subst c; cases h; exact ⟨T.k_Read_is_Clash, tyx_ins T.l_Read T.o_Read⟩
  rw [if_neg c] at h; clear c
  cases h
theorem isi_TwoCuts {K : PySem.W.Frag} {mg : Str → Option Value} (T : Txt K mg) : IsOk K "TwoCuts" tabI_TwoCuts := by
  refine ⟨fun a r h => ?_, T.j_TwoCuts⟩
  unfold tabI_TwoCuts at h
  by_cases c : a = "NearPair"
  · rw [if_pos c] at h; subst c; cases h; exact ⟨T.k_NearPair_is_TwoCuts, tyx_ins T.l_NearPair T.o_NearPair⟩
  rw [if_neg c] at h; clear c
  by_cases c : a = "Thinned"
  · rw [if_pos c] at h; subst c; cases h; exact ⟨T.k_Thinned_is_TwoCuts, tyx_ins T.l_Thinned T.o_Thinned⟩
  rw [if_neg c] at h; clear c
  by_cases c : a = "Web"
  · rw [if_pos c] at h; subst c; cases h; exact ⟨T.k_Web_is_TwoCuts, tyx_ins T.l_Web T.o_Web⟩
  rw [if_neg c] at h; clear c
  by_cases c : a = "Told"
  · rw [if_pos c] at h; subst c; cases h; exact ⟨T.k_Told_is_TwoCuts, tyx_ins T.l_Told T.o_Told⟩
  rw [if_neg c] at h; clear c
  by_cases c : a = "Clash"
  · rw [if_pos c] at h; subst c; cases h; exact ⟨T.k_Clash_is_TwoCuts, tyx_ins T.l_Clash T.o_Clash⟩
  rw [if_neg c] at h; clear c
  by_cases c : a = "TwoCuts"
  · rw [if_pos c] at h; subst c; cases h; exact ⟨T.k_TwoCuts_is_TwoCuts, tyx_ins T.l_TwoCuts T.o_TwoCuts⟩
  rw [if_neg c] at h; clear c
  by_cases c : a = "Best"
  · rw [if_pos c] at h; subst c; cases h; exact ⟨T.k_Best_is_TwoCuts, tyx_ins T.l_Best T.o_Best⟩
  rw [if_neg c] at h; clear c
  by_cases c : a = "RunPair"
  · rw [if_pos c] at h; subst c; cases h; exact ⟨T.k_RunPair_is_TwoCuts, tyx_ins T.l_RunPair T.o_RunPair⟩
  rw [if_neg c] at h; clear c
  by_cases c : a = "Tried"
  · rw [if_pos c] at h; subst c; cases h; exact ⟨T.k_Tried_is_TwoCuts, tyx_ins T.l_Tried T.o_Tried⟩
  rw [if_neg c] at h; clear c
  by_cases c : a = "MixClash"
  · rw [if_pos c] at h; subst c; cases h; exact ⟨T.k_MixClash_is_TwoCuts, tyx_ins T.l_MixClash T.o_MixClash⟩
  rw [if_neg c] at h; clear c
  by_cases c : a = "Uneven"
  · rw [if_pos c] at h; subst c; cases h; exact ⟨T.k_Uneven_is_TwoCuts, tyx_ins T.l_Uneven T.o_Uneven⟩
  rw [if_neg c] at h; clear c
  by_cases c : a = "SumsClash"
  · rw [if_pos c] at h; subst c; cases h; exact ⟨T.k_SumsClash_is_TwoCuts, tyx_ins T.l_SumsClash T.o_SumsClash⟩
  rw [if_neg c] at h; clear c
  by_cases c : a = "TooClose"
  · rw [if_pos c] at h; subst c; cases h; exact ⟨T.k_TooClose_is_TwoCuts, tyx_ins T.l_TooClose T.o_TooClose⟩
  rw [if_neg c] at h; clear c
  by_cases c : a = "Read"
  · rw [if_pos c] at h; subst c; cases h; exact ⟨T.k_Read_is_TwoCuts, tyx_ins T.l_Read T.o_Read⟩
  rw [if_neg c] at h; clear c
  cases h
theorem isi_Best {K : PySem.W.Frag} {mg : Str → Option Value} (T : Txt K mg) : IsOk K "Best" tabI_Best := by
  refine ⟨fun a r h => ?_, T.j_Best⟩
  unfold tabI_Best at h
  by_cases c : a = "NearPair"
  · rw [if_pos c] at h; subst c; cases h; exact ⟨T.k_NearPair_is_Best, tyx_ins T.l_NearPair T.o_NearPair⟩
  rw [if_neg c] at h; clear c
  by_cases c : a = "Thinned"
  · rw [if_pos c] at h; subst c; cases h; exact ⟨T.k_Thinned_is_Best, tyx_ins T.l_Thinned T.o_Thinned⟩
  rw [if_neg c] at h; clear c
  by_cases c : a = "Web"
  · rw [if_pos c] at h; subst c; cases h; exact ⟨T.k_Web_is_Best, tyx_ins T.l_Web T.o_Web⟩
  rw [if_neg c] at h; clear c
  by_cases c : a = "Told"
  · rw [if_pos c] at h; subst c; cases h; exact ⟨T.k_Told_is_Best, tyx_ins T.l_Told T.o_Told⟩
  rw [if_neg c] at h; clear c
  by_cases c : a = "Clash"
  · rw [if_pos c] at h; subst c; cases h; exact ⟨T.k_Clash_is_Best, tyx_ins T.l_Clash T.o_Clash⟩
  rw [if_neg c] at h; clear c
  by_cases c : a = "TwoCuts"
  · rw [if_pos c] at h; subst c; cases h; exact ⟨T.k_TwoCuts_is_Best, tyx_ins T.l_TwoCuts T.o_TwoCuts⟩
  rw [if_neg c] at h; clear c
  by_cases c : a = "Best"
  · rw [if_pos c] at h; subst c; cases h; exact ⟨T.k_Best_is_Best, tyx_ins T.l_Best T.o_Best⟩
  rw [if_neg c] at h; clear c
  by_cases c : a = "RunPair"
  · rw [if_pos c] at h; subst c; cases h; exact ⟨T.k_RunPair_is_Best, tyx_ins T.l_RunPair T.o_RunPair⟩
  rw [if_neg c] at h; clear c
  by_cases c : a = "Tried"
  · rw [if_pos c] at h; subst c; cases h; exact ⟨T.k_Tried_is_Best, tyx_ins T.l_Tried T.o_Tried⟩
  rw [if_neg c] at h; clear c
  by_cases c : a = "MixClash"
  · rw [if_pos c] at h; subst c; cases h; exact ⟨T.k_MixClash_is_Best, tyx_ins T.l_MixClash T.o_MixClash⟩
  rw [if_neg c] at h; clear c
  by_cases c : a = "Uneven"
  · rw [if_pos c] at h; subst c; cases h; exact ⟨T.k_Uneven_is_Best, tyx_ins T.l_Uneven T.o_Uneven⟩
  rw [if_neg c] at h; clear c
  by_cases c : a = "SumsClash"
  · rw [if_pos c] at h; subst c; cases h; exact ⟨T.k_SumsClash_is_Best, tyx_ins T.l_SumsClash T.o_SumsClash⟩
  rw [if_neg c] at h; clear c
  by_cases c : a = "TooClose"
  · rw [if_pos c] at h; subst c; cases h; exact ⟨T.k_TooClose_is_Best, tyx_ins T.l_TooClose T.o_TooClose⟩
  rw [if_neg c] at h; clear c
  by_cases c : a = "Read"
  · rw [if_pos c] at h; subst c; cases h; exact ⟨T.k_Read_is_Best, tyx_ins T.l_Read T.o_Read⟩
  rw [if_neg c] at h; clear c
  cases h
theorem isi_RunPair {K : PySem.W.Frag} {mg : Str → Option Value} (T : Txt K mg) : IsOk K "RunPair" tabI_RunPair := by
  refine ⟨fun a r h => ?_, T.j_RunPair⟩
  unfold tabI_RunPair at h
  by_cases c : a = "NearPair"
  · rw [if_pos c] at h; subst c; cases h; exact ⟨T.k_NearPair_is_RunPair, tyx_ins T.l_NearPair T.o_NearPair⟩
  rw [if_neg c] at h; clear c
  by_cases c : a = "Thinned"
  · rw [if_pos c] at h; subst c; cases h; exact ⟨T.k_Thinned_is_RunPair, tyx_ins T.l_Thinned T.o_Thinned⟩
  rw [if_neg c] at h; clear c
  by_cases c : a = "Web"
  · rw [if_pos c] at h; subst c; cases h; exact ⟨T.k_Web_is_RunPair, tyx_ins T.l_Web T.o_Web⟩
  rw [if_neg c] at h; clear c
  by_cases c : a = "Told"
  · rw [if_pos c] at h; subst c; cases h; exact ⟨T.k_Told_is_RunPair, tyx_ins T.l_Told T.o_Told⟩
  rw [if_neg c] at h; clear c
  by_cases c : a = "Clash"
  · rw [if_pos c] at h; subst c; cases h; exact ⟨T.k_Clash_is_RunPair, tyx_ins T.l_Clash T.o_Clash⟩
  rw [if_neg c] at h; clear c
  by_cases c : a = "TwoCuts"
  · rw [if_pos c] at h; subst c; cases h; exact ⟨T.k_TwoCuts_is_RunPair, tyx_ins T.l_TwoCuts T.o_TwoCuts⟩
  rw [if_neg c] at h; clear c
  by_cases c : a = "Best"
  · rw [if_pos c] at h; subst c; cases h; exact ⟨T.k_Best_is_RunPair, tyx_ins T.l_Best T.o_Best⟩
  rw [if_neg c] at h; clear c
  by_cases c : a = "RunPair"
  · rw [if_pos c] at h; subst c; cases h; exact ⟨T.k_RunPair_is_RunPair, tyx_ins T.l_RunPair T.o_RunPair⟩
  rw [if_neg c] at h; clear c
  by_cases c : a = "Tried"
  · rw [if_pos c] at h; subst c; cases h; exact ⟨T.k_Tried_is_RunPair, tyx_ins T.l_Tried T.o_Tried⟩
  rw [if_neg c] at h; clear c
  by_cases c : a = "MixClash"
  · rw [if_pos c] at h; subst c; cases h; exact ⟨T.k_MixClash_is_RunPair, tyx_ins T.l_MixClash T.o_MixClash⟩
  rw [if_neg c] at h; clear c
  by_cases c : a = "Uneven"
  · rw [if_pos c] at h; subst c; cases h; exact ⟨T.k_Uneven_is_RunPair, tyx_ins T.l_Uneven T.o_Uneven⟩
  rw [if_neg c] at h; clear c
  by_cases c : a = "SumsClash"
  · rw [if_pos c] at h; subst c; cases h; exact ⟨T.k_SumsClash_is_RunPair, tyx_ins T.l_SumsClash T.o_SumsClash⟩
  rw [if_neg c] at h; clear c
  by_cases c : a = "TooClose"
  · rw [if_pos c] at h; subst c; cases h; exact ⟨T.k_TooClose_is_RunPair, tyx_ins T.l_TooClose T.o_TooClose⟩
  rw [if_neg c] at h; clear c
  by_cases c : a = "Read"
  · rw [if_pos c] at h; subst c; cases h; exact ⟨T.k_Read_is_RunPair, tyx_ins T.l_Read T.o_Read⟩
  rw [if_neg c] at h; clear c
  cases h
theorem isi_Tried {K : PySem.W.Frag} {mg : Str → Option Value} (T : Txt K mg) : IsOk K "Tried" tabI_Tried := by
  refine ⟨fun a r h => ?_, T.j_Tried⟩
  unfold tabI_Tried at h
  by_cases c : a = "NearPair"
  · rw [if_pos c] at h; subst c; cases h; exact ⟨T.k_NearPair_is_Tried, tyx_ins T.l_NearPair T.o_NearPair⟩
  rw [if_neg c] at h; clear c
  by_cases c : a = "Thinned"
  · rw [if_pos c] at h; subst c; cases h; exact ⟨T.k_Thinned_is_Tried, tyx_ins T.l_Thinned T.o_Thinned⟩
  rw [if_neg c] at h; clear c
  by_cases c : a = "Web"
  · rw [if_pos c] at h; subst c; cases h; exact ⟨T.k_Web_is_Tried, tyx_ins T.l_Web T.o_Web⟩
  rw [if_neg c] at h; clear c
  by_cases c : a = "Told"
  · rw [if_pos c] at h; subst c; cases h; exact ⟨T.k_Told_is_Tried, tyx_ins T.l_Told T.o_Told⟩
  rw [if_neg c] at h; clear c
  by_cases c : a = "Clash"
  · rw [if_pos c] at h; subst c; cases h; exact ⟨T.k_Clash_is_Tried, tyx_ins T.l_Clash T.o_Clash⟩
  rw [if_neg c] at h; clear c
  by_cases c : a = "TwoCuts"
  · rw [if_pos c] at h; subst c; cases h; exact ⟨T.k_TwoCuts_is_Tried, tyx_ins T.l_TwoCuts T.o_TwoCuts⟩
  rw [if_neg c] at h; clear c
  by_cases c : a = "Best"
  · rw [if_pos c] at h; subst c; cases h; exact ⟨T.k_Best_is_Tried, tyx_ins T.l_Best T.o_Best⟩
  rw [if_neg c] at h; clear c
  by_cases c : a = "RunPair"
  · rw [if_pos c] at h; subst c; cases h; exact ⟨T.k_RunPair_is_Tried, tyx_ins T.l_RunPair T.o_RunPair⟩
  rw [if_neg c] at h; clear c
  by_cases c : a = "Tried"
  · rw [if_pos c] at h; subst c; cases h; exact ⟨T.k_Tried_is_Tried, tyx_ins T.l_Tried T.o_Tried⟩
  rw [if_neg c] at h; clear c
  by_cases c : a = "MixClash"
  · rw [if_pos c] at h; subst c; cases h; exact ⟨T.k_MixClash_is_Tried, tyx_ins T.l_MixClash T.o_MixClash⟩
  rw [if_neg c] at h; clear c
  by_cases c : a = "Uneven"
  · rw [if_pos c] at h; subst c; cases h; exact ⟨T.k_Uneven_is_Tried, tyx_ins T.l_Uneven T.o_Uneven⟩
  rw [if_neg c] at h; clear c
  by_cases c : a = "SumsClash"
  · rw [if_pos c] at h; subst c; cases h; exact ⟨T.k_SumsClash_is_Tried, tyx_ins T.l_SumsClash T.o_SumsClash⟩
  rw [if_neg c] at h; clear c
  by_cases c : a = "TooClose"
  · rw [if_pos c] at h; subst c; cases h; exact ⟨T.k_TooClose_is_Tried, tyx_ins T.l_TooClose T.o_TooClose⟩
  rw [if_neg c] at h; clear c
  by_cases c : a = "Read"
  · rw [if_pos c] at h; subst c; cases h; exact ⟨T.k_Read_is_Tried, tyx_ins T.l_Read T.o_Read⟩
  rw [if_neg c] at h; clear c
  cases h
theorem isi_MixClash {K : PySem.W.Frag} {mg : Str → Option Value} (T : Txt K mg) : IsOk K "MixClash" tabI_MixClash := by
  refine ⟨fun a r h => ?_, T.j_MixClash⟩
  unfold tabI_MixClash at h
  by_cases c : a = "NearPair"
  · rw [if_pos c] at h; subst c; cases h; exact ⟨T.k_NearPair_is_MixClash, tyx_ins T.l_NearPair T.o_NearPair⟩
  rw [if_neg c] at h; clear c
  by_cases c : a = "Thinned"
  · rw [if_pos c] at h; subst c; cases h; exact ⟨T.k_Thinned_is_MixClash, tyx_ins T.l_Thinned T.o_Thinned⟩
  rw [if_neg c] at h; clear c
  by_cases c : a = "Web"
  · rw [if_pos c] at h; subst c; cases h; exact ⟨T.k_Web_is_MixClash, tyx_ins T.l_Web T.o_Web⟩
  rw [if_neg c] at h; clear c
  by_cases c : a = "Told"
  · rw [if_pos c] at h; subst c; cases h; exact ⟨T.k_Told_is_MixClash, tyx_ins T.l_Told T.o_Told⟩
  rw [if_neg c] at h; clear c
  by_cases c : a = "Clash"
  · rw [if_pos c] at h; subst c; cases h; exact ⟨T.k_Clash_is_MixClash, tyx_ins T.l_Clash T.o_Clash⟩
  rw [if_neg c] at h; clear c
  by_cases c : a = "TwoCuts"
  · rw [if_pos c] at h; subst c; cases h; exact ⟨T.k_TwoCuts_is_MixClash, tyx_ins T.l_TwoCuts T.o_TwoCuts⟩
  rw [if_neg c] at h; clear c
  by_cases c : a = "Best"
  · rw [if_pos c] at h; subst c; cases h; exact ⟨T.k_Best_is_MixClash, tyx_ins T.l_Best T.o_Best⟩
  rw [if_neg c] at h; clear c
  by_cases c : a = "RunPair"
  · rw [if_pos c] at h; subst c; cases h; exact ⟨T.k_RunPair_is_MixClash, tyx_ins T.l_RunPair T.o_RunPair⟩
  rw [if_neg c] at h; clear c
  by_cases c : a = "Tried"
  · rw [if_pos c] at h; subst c; cases h; exact ⟨T.k_Tried_is_MixClash, tyx_ins T.l_Tried T.o_Tried⟩
  rw [if_neg c] at h; clear c
  by_cases c : a = "MixClash"
  · rw [if_pos c] at h; subst c; cases h; exact ⟨T.k_MixClash_is_MixClash, tyx_ins T.l_MixClash T.o_MixClash⟩
  rw [if_neg c] at h; clear c
  by_cases c : a = "Uneven"
  · rw [if_pos c] at h; subst c; cases h; exact ⟨T.k_Uneven_is_MixClash, tyx_ins T.l_Uneven T.o_Uneven⟩
  rw [if_neg c] at h; clear c
  by_cases c : a = "SumsClash"
  · rw [if_pos c] at h; subst c; cases h; exact ⟨T.k_SumsClash_is_MixClash, tyx_ins T.l_SumsClash T.o_SumsClash⟩
  rw [if_neg c] at h; clear c
  by_cases c : a = "TooClose"
  · rw [if_pos c] at h; subst c; cases h; exact ⟨T.k_TooClose_is_MixClash, tyx_ins T.l_TooClose T.o_TooClose⟩
  rw [if_neg c] at h; clear c
  by_cases c : a = "Read"
  · rw [if_pos c] at h; subst c; cases h; exact ⟨T.k_Read_is_MixClash, tyx_ins T.l_Read T.o_Read⟩
  rw [if_neg c] at h; clear c
  cases h
theorem isi_Uneven {K : PySem.W.Frag} {mg : Str → Option Value} (T : Txt K mg) : IsOk K "Uneven" tabI_Uneven := by
  refine ⟨fun a r h => ?_, T.j_Uneven⟩
  unfold tabI_Uneven at h
  by_cases c : a = "NearPair"
  · rw [if_pos c] at h; subst c; cases h; exact ⟨T.k_NearPair_is_Uneven, tyx_ins T.l_NearPair T.o_NearPair⟩
  rw [if_neg c] at h; clear c
  by_cases c : a = "Thinned"
  · rw [if_pos c] at h; subst c; cases h; exact ⟨T.k_Thinned_is_Uneven, tyx_ins T.l_Thinned T.o_Thinned⟩
  rw [if_neg c] at h; clear c
  by_cases c : a = "Web"
  · rw [if_pos c] at h; subst c; cases h; exact ⟨T.k_Web_is_Uneven, tyx_ins T.l_Web T.o_Web⟩
  rw [if_neg c] at h; clear c
  by_cases c : a = "Told"
  · rw [if_pos c] at h; subst c; cases h; exact ⟨T.k_Told_is_Uneven, tyx_ins T.l_Told T.o_Told⟩
  rw [if_neg c] at h; clear c
  by_cases c : a = "Clash"
  · rw [if_pos c] at h; subst c; cases h; exact ⟨T.k_Clash_is_Uneven, tyx_ins T.l_Clash T.o_Clash⟩
  rw [if_neg c] at h; clear c
  by_cases c : a = "TwoCuts"
  · rw [if_pos c] at h; subst c; cases h; exact ⟨T.k_TwoCuts_is_Uneven, tyx_ins T.l_TwoCuts T.o_TwoCuts⟩
  rw [if_neg c] at h; clear c
  by_cases c : a = "Best"
  · rw [if_pos c] at h; subst c; cases h; exact ⟨T.k_Best_is_Uneven, tyx_ins T.l_Best T.o_Best⟩
  rw [if_neg c] at h; clear c
  by_cases c : a = "RunPair"
  · rw [if_pos c] at h; subst c; cases h; exact ⟨T.k_RunPair_is_Uneven, tyx_ins T.l_RunPair T.o_RunPair⟩
  rw [if_neg c] at h; clear c
  by_cases c : a = "Tried"
  · rw [if_pos c] at h; subst c; cases h; exact ⟨T.k_Tried_is_Uneven, tyx_ins T.l_Tried T.o_Tried⟩
  rw [if_neg c] at h; clear c
  by_cases c : a = "MixClash"
  · rw [if_pos c] at h; subst c; cases h; exact ⟨T.k_MixClash_is_Uneven, tyx_ins T.l_MixClash T.o_MixClash⟩
  rw [if_neg c] at h; clear c
  by_cases c : a = "Uneven"
  · rw [if_pos c] at h; subst c; cases h; exact ⟨T.k_Uneven_is_Uneven, tyx_ins T.l_Uneven T.o_Uneven⟩
  rw [if_neg c] at h; clear c
  by_cases c : a = "SumsClash"
  · rw [if_pos c] at h; subst c; cases h; exact ⟨T.k_SumsClash_is_Uneven, tyx_ins T.l_SumsClash T.o_SumsClash⟩
  rw [if_neg c] at h; clear c
  by_cases c : a = "TooClose"
  · rw [if_pos c] at h; subst c; cases h; exact ⟨T.k_TooClose_is_Uneven, tyx_ins T.l_TooClose T.o_TooClose⟩
  rw [if_neg c] at h; clear c
  by_cases c : a = "Read"
  · rw [if_pos c] at h; subst c; cases h; exact ⟨T.k_Read_is_Uneven, tyx_ins T.l_Read T.o_Read⟩
  rw [if_neg c] at h; clear c
  cases h
theorem isi_SumsClash {K : PySem.W.Frag} {mg : Str → Option Value} (T : Txt K mg) : IsOk K "SumsClash" tabI_SumsClash := by
  refine ⟨fun a r h => ?_, T.j_SumsClash⟩
  unfold tabI_SumsClash at h
  by_cases c : a = "NearPair"
  · rw [if_pos c] at h; subst c; cases h; exact ⟨T.k_NearPair_is_SumsClash, tyx_ins T.l_NearPair T.o_NearPair⟩
  rw [if_neg c] at h; clear c
  by_cases c : a = "Thinned"
  · rw [if_pos c] at h; subst c; cases h; exact ⟨T.k_Thinned_is_SumsClash, tyx_ins T.l_Thinned T.o_Thinned⟩
  rw [if_neg c] at h; clear c
  by_cases c : a = "Web"
  · rw [if_pos c] at h; subst c; cases h; exact ⟨T.k_Web_is_SumsClash, tyx_ins T.l_Web T.o_Web⟩
  rw [if_neg c] at h; clear c
  by_cases c : a = "Told"
  · rw [if_pos c] at h; subst c; cases h; exact ⟨T.k_Told_is_SumsClash, tyx_ins T.l_Told T.o_Told⟩
  rw [if_neg c] at h; clear c
  by_cases c : a = "Clash"
  · rw [if_pos c] at h; subst c; cases h; exact ⟨T.k_Clash_is_SumsClash, tyx_ins T.l_Clash T.o_Clash⟩
  rw [if_neg c] at h; clear c
  by_cases c : a = "TwoCuts"
  · rw [if_pos c] at h; subst c; cases h; exact ⟨T.k_TwoCuts_is_SumsClash, tyx_ins T.l_TwoCuts T.o_TwoCuts⟩
  rw [if_neg c] at h; clear c
  by_cases c : a = "Best"
  · rw [if_pos c] at h; subst c; cases h; exact ⟨T.k_Best_is_SumsClash, tyx_ins T.l_Best T.o_Best⟩
  rw [if_neg c] at h; clear c
  by_cases c : a = "RunPair"
  · rw [if_pos c] at h; subst c; cases h; exact ⟨T.k_RunPair_is_SumsClash, tyx_ins T.l_RunPair T.o_RunPair⟩
  rw [if_neg c] at h; clear c
  by_cases c : a = "Tried"
  · rw [if_pos c] at h; subst c; cases h; exact ⟨T.k_Tried_is_SumsClash, tyx_ins T.l_Tried T.o_Tried⟩
  rw [if_neg c] at h; clear c
  by_cases c : a = "MixClash"
  · rw [if_pos c] at h; subst c; cases h; exact ⟨T.k_MixClash_is_SumsClash, tyx_ins T.l_MixClash T.o_MixClash⟩
  rw [if_neg c] at h; clear c
  by_cases c : a = "Uneven"
  · rw [if_pos c] at h; subst c; cases h; exact ⟨T.k_Uneven_is_SumsClash, tyx_ins T.l_Uneven T.o_Uneven⟩
  rw [if_neg c] at h; clear c
  by_cases c : a = "SumsClash"
  · rw [if_pos c] at h; subst c; cases h; exact ⟨T.k_SumsClash_is_SumsClash, tyx_ins T.l_SumsClash T.o_SumsClash⟩
  rw [if_neg c] at h; clear c
  by_cases c : a = "TooClose"
  · rw [if_pos c] at h; subst c; cases h; exact ⟨T.k_TooClose_is_SumsClash, tyx_ins T.l_TooClose T.o_TooClose⟩
  rw [if_neg c] at h; clear c
  by_cases c : a = "Read"
  · rw [if_pos c] at h; subst c; cases h; exact ⟨T.k_Read_is_SumsClash, tyx_ins T.l_Read T.o_Read⟩
  rw [if_neg c] at h; clear c
  cases h
theorem isi_TooClose {K : PySem.W.Frag} {mg : Str → Option Value} (T : Txt K mg) : IsOk K "TooClose" tabI_TooClose := by
  refine ⟨fun a r h => ?_, T.j_TooClose⟩
  unfold tabI_TooClose at h
  by_cases c : a = "NearPair"
  · rw [if_pos c] at h; subst c; cases h; exact ⟨T.k_NearPair_is_TooClose, tyx_ins T.l_NearPair T.o_NearPair⟩
  rw [if_neg c] at h; clear c
  by_cases c : a = "Thinned"
  · rw [if_pos c] at h; subst c; cases h; exact ⟨T.k_Thinned_is_TooClose, tyx_ins T.l_Thinned T.o_Thinned⟩
  rw [if_neg c] at h; clear c
  by_cases c : a = "Web"
  · rw [if_pos c] at h; subst c; cases h; exact ⟨T.k_Web_is_TooClose, tyx_ins T.l_Web T.o_Web⟩
  rw [if_neg c] at h; clear c
  by_cases c : a = "Told"
  · rw [if_pos c] at h; subst c; cases h; exact ⟨T.k_Told_is_TooClose, tyx_ins T.l_Told T.o_Told⟩
  rw [if_neg c] at h; clear c
  by_cases c : a = "Clash"
  · rw [if_pos c] at h; subst c; cases h; exact ⟨T.k_Clash_is_TooClose, tyx_ins T.l_Clash T.o_Clash⟩
  rw [if_neg c] at h; clear c
  by_cases c : a = "TwoCuts"
  · rw [if_pos c] at h; subst c; cases h; exact ⟨T.k_TwoCuts_is_TooClose, tyx_ins T.l_TwoCuts T.o_TwoCuts⟩
  rw [if_neg c] at h; clear c
  by_cases c : a = "Best"
  · rw [if_pos c] at h; subst c; cases h; exact ⟨T.k_Best_is_TooClose, tyx_ins T.l_Best T.o_Best⟩
  rw [if_neg c] at h; clear c
  by_cases c : a = "RunPair"
  · rw [if_pos c] at h; subst c; cases h; exact ⟨T.k_RunPair_is_TooClose, tyx_ins T.l_RunPair T.o_RunPair⟩
  rw [if_neg c] at h; clear c
  by_cases c : a = "Tried"
  · rw [if_pos c] at h; subst c; cases h; exact ⟨T.k_Tried_is_TooClose, tyx_ins T.l_Tried T.o_Tried⟩
  rw [if_neg c] at h; clear c
  by_cases c : a = "MixClash"
  · rw [if_pos c] at h; subst c; cases h; exact ⟨T.k_MixClash_is_TooClose, tyx_ins T.l_MixClash T.o_MixClash⟩
  rw [if_neg c] at h; clear c
  by_cases c : a = "Uneven"
  · rw [if_pos c] at h; subst c; cases h; exact ⟨T.k_Uneven_is_TooClose, tyx_ins T.l_Uneven T.o_Uneven⟩
  rw [if_neg c] at h; clear c
  by_cases c : a = "SumsClash"
  · rw [if_pos c] at h; subst c; cases h; exact ⟨T.k_SumsClash_is_TooClose, tyx_ins T.l_SumsClash T.o_SumsClash⟩
  rw [if_neg c] at h; clear c
  by_cases c : a = "TooClose"
  · rw [if_pos c] at h; subst c; cases h; exact ⟨T.k_TooClose_is_TooClose, tyx_ins T.l_TooClose T.o_TooClose⟩
  rw [if_neg c] at h; clear c
  by_cases c : a = "Read"
  · rw [if_pos c] at h; subst c; cases h; exact ⟨T.k_Read_is_TooClose, tyx_ins T.l_Read T.o_Read⟩
  rw [if_neg c] at h; clear c
  cases h
theorem isi_Read {K : PySem.W.Frag} {mg : Str → Option Value} (T : Txt K mg) : IsOk K "Read" tabI_Read := by
  refine ⟨fun a r h => ?_, T.j_Read⟩
  unfold tabI_Read at h
  by_cases c : a = "NearPair"
  · rw [if_pos c] at h; subst c; cases h; exact ⟨T.k_NearPair_is_Read, tyx_ins T.l_NearPair T.o_NearPair⟩
  rw [if_neg c] at h; clear c
  by_cases c : a = "Thinned"
  · rw [if_pos c] at h; subst c; cases h; exact ⟨T.k_Thinned_is_Read, tyx_ins T.l_Thinned T.o_Thinned⟩
  rw [if_neg c] at h; clear c
  by_cases c : a = "Web"
  · rw [if_pos c] at h; subst c; cases h; exact ⟨T.k_Web_is_Read, tyx_ins T.l_Web T.o_Web⟩
  rw [if_neg c] at h; clear c
  by_cases c : a = "Told"
  · rw [if_pos c] at h; subst c; cases h; exact ⟨T.k_Told_is_Read, tyx_ins T.l_Told T.o_Told⟩
  rw [if_neg c] at h; clear c
  by_cases c : a = "Clash"
  · rw [if_pos c] at h; subst c; cases h; exact ⟨T.k_Clash_is_Read, tyx_ins T.l_Clash T.o_Clash⟩
  rw [if_neg c] at h; clear c
  by_cases c : a = "TwoCuts"
  · rw [if_pos c] at h; subst c; cases h; exact ⟨T.k_TwoCuts_is_Read, tyx_ins T.l_TwoCuts T.o_TwoCuts⟩
  rw [if_neg c] at h; clear c
  by_cases c : a = "Best"
  · rw [if_pos c] at h; subst c; cases h; exact ⟨T.k_Best_is_Read, tyx_ins T.l_Best T.o_Best⟩
  rw [if_neg c] at h; clear c
  by_cases c : a = "RunPair"
  · rw [if_pos c] at h; subst c; cases h; exact ⟨T.k_RunPair_is_Read, tyx_ins T.l_RunPair T.o_RunPair⟩
  rw [if_neg c] at h; clear c
  by_cases c : a = "Tried"
  · rw [if_pos c] at h; subst c; cases h; exact ⟨T.k_Tried_is_Read, tyx_ins T.l_Tried T.o_Tried⟩
  rw [if_neg c] at h; clear c
  by_cases c : a = "MixClash"
  · rw [if_pos c] at h; subst c; cases h; exact ⟨T.k_MixClash_is_Read, tyx_ins T.l_MixClash T.o_MixClash⟩
  rw [if_neg c] at h; clear c
  by_cases c : a = "Uneven"
  · rw [if_pos c] at h; subst c; cases h; exact ⟨T.k_Uneven_is_Read, tyx_ins T.l_Uneven T.o_Uneven⟩
  rw [if_neg c] at h; clear c
  by_cases c : a = "SumsClash"
  · rw [if_pos c] at h; subst c; cases h; exact ⟨T.k_SumsClash_is_Read, tyx_ins T.l_SumsClash T.o_SumsClash⟩
  rw [if_neg c] at h; clear c
  by_cases c : a = "TooClose"
  · rw [if_pos c] at h; subst c; cases h; exact ⟨T.k_TooClose_is_Read, tyx_ins T.l_TooClose T.o_TooClose⟩
  rw [if_neg c] at h; clear c
  by_cases c : a = "Read"
  · rw [if_pos c] at h; subst c; cases h; exact ⟨T.k_Read_is_Read, tyx_ins T.l_Read T.o_Read⟩
  rw [if_neg c] at h; clear c
  cases h
theorem eqt {K : PySem.W.Frag} {mg : Str → Option Value} (T : Txt K mg) : EqTab2 K tabE tabC := by
  refine eqt_of T.q_eqs (fun c F h => ?_) (fun c h => ?_) (fun c h => ?_)
  · unfold tabE at h; cases e : tabN c with
    | none => rw [e] at h; cases h
    | some i => exact tabN_mem _ _ e
  · unfold tabC at h; cases e : tabN c with
    | none => rw [e] at h; cases h
    | some i => exact tabN_mem _ _ e
  · unfold eqsL at h
    rcases List.mem_cons.mp h with e | h
    · subst e; exact ⟨T.l_NearPair, T.o_NearPair⟩
    rcases List.mem_cons.mp h with e | h
    · subst e; exact ⟨T.l_Thinned, T.o_Thinned⟩
    rcases List.mem_cons.mp h with e | h
    · subst e; exact ⟨T.l_Web, T.o_Web⟩
    rcases List.mem_cons.mp h with e | h
    · subst e; exact ⟨T.l_Told, T.o_Told⟩
    rcases List.mem_cons.mp h with e | h
    · subst e; exact ⟨T.l_Clash, T.o_Clash⟩
    rcases List.mem_cons.mp h with e | h
    · subst e; exact ⟨T.l_TwoCuts, T.o_TwoCuts⟩
    rcases List.mem_cons.mp h with e | h
    · subst e; exact ⟨T.l_Best, T.o_Best⟩
    rcases List.mem_cons.mp h with e | h
    · subst e; exact ⟨T.l_RunPair, T.o_RunPair⟩
    rcases List.mem_cons.mp h with e | h
    · subst e; exact ⟨T.l_Tried, T.o_Tried⟩
    rcases List.mem_cons.mp h with e | h
    · subst e; exact ⟨T.l_MixClash, T.o_MixClash⟩
    rcases List.mem_cons.mp h with e | h
    · subst e; exact ⟨T.l_Uneven, T.o_Uneven⟩
    rcases List.mem_cons.mp h with e | h
    · subst e; exact ⟨T.l_SumsClash, T.o_SumsClash⟩
    rcases List.mem_cons.mp h with e | h
    · subst e; exact ⟨T.l_TooClose, T.o_TooClose⟩
    rcases List.mem_cons.mp h with e | h
    · subst e; exact ⟨T.l_Read, T.o_Read⟩
    cases h
end Mine

namespace Mine
open PySem PySem.Spec PyProof.Rows L2
local macro_rules | `(tactic| walk_at "rd") => `(tactic| try simp only [tMk1, iEnumA, iSeq, tPar3, tAugS, ipI, rRepA, rIxA, tCallSD, rExtend, tDNewK, iZipS, tXf, tSeq, tAsg, tCB, tCons, tNil, tVar, tOp, tUn, rI, rI0, rU, gName, gNil, gCons, gSub, rSetL, tC, tRet, tRetN, tNext, tIfS, tTest, tB, tAnd, tOr, tNot, tAndV, tOrV, tNotV, tIf,
  tDrop, tCall, tCallS, tPar, tAug, ipI, tBreak, tCont, tTup, tLst, rEq_int, rNe_int, rEq_bl, rNe_bl, rEq_str, rNe_str, HO.lst.injEq, HO.tup.injEq, Bool.not_eq_true', decide_eq_false_iff_not, rIxH, rIxTH, rCat, tSl, tPart, tNoPart, tBM, rAppend, L2.start, tFor_eq, tLc_eq, iList, iTup, iRng1, iRng2, iEnum, iZip, cx_K, cx_prog, cx_w, cx_nK, forall_const, tYes, wipe, List.foldl_cons, List.foldl_nil, and_assoc, List.map_cons, List.map_nil, List.length_cons, List.length_nil, List.replicate, List.append_nil, List.cons_append, List.nil_append,
  List.getElem?_cons_zero, List.getElem?_cons_succ, List.set_cons_zero, List.set_cons_succ, Nat.zero_add, Nat.add_zero, Nat.reduceAdd, Nat.reduceSub, Option.some.injEq, V.int.injEq, V.bl.injEq, V.ref.injEq, V.str.injEq,
  List.cons.injEq, and_true, true_and, exists_eq_left, exists_eq_left', exists_eq_right, exists_const, exists_eq, exists_and_left, exists_and_right, upd_same, upd_upd, atI_0, atI_1, atI_2, atI_3, ixN_4_0, ixN_4_1, ixN_4_2, ixN_4_3, some_lst, some_tup, decide_eq_true_eq, reduceCtorEq,
  V.int.injEq, Bool.true_eq_false, Bool.false_eq_true, if_true, if_false, ite_true, ite_false, eq_self, not_true_eq_false, not_false_eq_true, decide_true, decide_false, Bool.not_true, Bool.not_false, false_and, and_false, exists_false])
local macro_rules | `(tactic| walk_at "mono") => `(tactic| repeat (first | with_reducible exact mon_var _ | with_reducible exact mon_c _ | with_reducible exact mon_rI _ _ | with_reducible exact mon_rI0 _ | with_reducible exact mon_rEq | with_reducible exact mon_rNe | with_reducible refine mon_test ?_ | with_reducible refine mon_op ?_ ?_ ?_ | with_reducible refine mon_and ?_ ?_ | with_reducible refine mon_or ?_ ?_ | with_reducible exact mon_rU _ | with_reducible refine mon_un ?_ ?_))
local macro_rules | `(tactic| walk_at "sd") => `(tactic| first | assumption | omega | (unfold CMul; omega) | (unfold CDiv; omega) | rfl | decide)
local macro_rules | `(tactic| walk_at "go") => `(tactic| repeat (refine And.intro (by first | assumption | omega | exact tyL (by assumption) | (unfold CMul; omega) | (unfold CDiv; omega) | rfl | decide) ?_))
theorem ok_law_hand {P : Program} {w : World} {K : PySem.W.Frag} {mg : Str → Option Value} {base : Heap} (T : Txt K mg) : ∃ fd, FnOk P w K mg base CX0 1 (He.ga K "_law_hand") fd P_law_hand (sp_hand K) ∧ D_law_hand K (He.ga K "_law_hand") fd := by
  obtain ⟨fd, F⟩ := T.F_law_hand
  refine ⟨fd, F.ok sc_law_hand (fun vs H Q E h => ?_) (fun cdv A outer s H vs Q E hr h => ?_), F⟩
  · obtain ⟨a, ns, rfl, _⟩ := h
    rfl
  ·
    obtain ⟨a, ns, rfl, hS, hl, q⟩ := h
    refine ⟨_, PSs.nox (pss_cons (ps_set (i := 1) sc_law_hand.nd rfl (by first | exact Or.inl rfl | exact Or.inr rfl) (pe_op op_add (pe_callB call_len_seq (by rfl) T.z_len (by decide +kernel) (pa_cons (pv 0) pa_nil)) pe_int))
    (pss_cons (ps_set (i := 2) sc_law_hand.nd rfl (by first | exact Or.inl rfl | exact Or.inr rfl) (pe_lst pa_nil))
    (pss_cons (ps_for PassesOwn.never rfl (pi_list (pv 0)) (pg_name (i := 3) sc_law_hand.nd rfl (by first | exact Or.inl rfl | exact Or.inr rfl))
    (pss_cons (ps_set (i := 1) sc_law_hand.nd rfl (by first | exact Or.inl rfl | exact Or.inr rfl) (pe_op op_mod (pe_callTy call_intI (by rfl) T.z_int (by decide +kernel) (pa_cons (pe_op op_add (pe_op op_mul (pv 1) pe_int) (pe_callTy call_intI (by rfl) T.z_int (by decide +kernel) (pa_cons (pv 3) pa_nil))) pa_nil)) pe_int))
    (pss_one (ps_expr (pe_bm PySem.F.plainAttrs_list PySem.F.slot_list_append PySem.F.type_list_append mt_append (pv 2) (pa_cons (pe_callB call_abs (by rfl) T.z_abs (by decide +kernel) (pa_cons (pe_callTy call_intI (by rfl) T.z_int (by decide +kernel) (pa_cons (pv 3) pa_nil)) pa_nil)) pa_nil))))))
    (pss_one (ps_ret (pe_lst (pa_cons (pv 2) (pa_cons pe_int (pa_cons pe_int (pa_cons (pv 1) pa_nil)))))))))), ?_⟩
    walk_at "rd"
    refine ⟨ns.map V.int, .inl hS, by decide, fun c hc => ⟨⟨_, (same_upd hc).seq hS⟩, ?_⟩⟩
    refine Loop.by (walk_list (xs := ns.map V.int)) (i_hand H a c) ⟨_, none, [], rfl, rfl, upd_same, by simp, same_upd hc, by omega, by rw [List.length_map]; omega⟩
      (fun i σ H' _ ⟨_, _, _, _, _, _, _, sm, _⟩ => sm.seq hS) ?_ ?_
    · rintro i x σ H' H'' hi ⟨tot, v3, cells, rfl, hz, hc', hp, sm, h0, h1⟩ ⟨rfl, hx⟩
      rw [List.length_map] at hi
      rw [List.getElem?_map, List.getElem?_eq_getElem hi] at hx
      obtain rfl := Option.some.inj hx
      walk_at "rd"
      walk_at "go"
      refine ⟨_, hc', by rw [List.length_map]; exact small1000 (by omega), _, _, cells ++ [if ns[i] < 0 then -ns[i] else ns[i]], rfl, by simp [hz], by rw [upd_same, List.map_append]; rfl, ?_, ?_, by omega, by omega⟩
      · intro z hz
        rcases List.mem_append.mp hz with h | h
        · exact hp z h
        · rw [List.mem_singleton] at h; rw [h]; split <;> omega
      · intro b o e
        rw [upd_ne (ne_of_none e hc)]; exact sm b o e
    · rintro σ H' ⟨tot, v3, cells, rfl, hz, hc', hp, sm, h0, h1⟩
      walk_at "rd"
      rw [List.length_map] at hz
      refine ⟨by decide, fun p hp' => q _ p (sm.trans (same_upd hp')) (sm.free hp') ⟨c, cells, 0, 0, tot, upd_same, ?_, hp, by omega, by omega, by omega, h0, h1⟩⟩
      rw [upd_ne (ne_of_none hc' hp')]; exact hc'
end Mine

namespace Mine
open PySem PySem.Spec PyProof.Rows L2
local macro_rules | `(tactic| walk_at "rd") => `(tactic| try simp only [tMk1, iEnumA, iSeq, tPar3, tAugS, ipI, rRepA, rIxA, tCallSD, rExtend, tDNewK, iZipS, tXf, tSeq, tAsg, tCB, tCons, tNil, tVar, tOp, tUn, rI, rI0, rU, gName, gNil, gCons, gSub, rSetL, tC, tRet, tRetN, tNext, tIfS, tTest, tB, tAnd, tOr, tNot, tAndV, tOrV, tNotV, tIf,
  tDrop, tCall, tCallS, tPar, tAug, ipI, tBreak, tCont, tTup, tLst, rEq_int, rNe_int, rEq_bl, rNe_bl, rEq_str, rNe_str, HO.lst.injEq, HO.tup.injEq, Bool.not_eq_true', decide_eq_false_iff_not, rIxH, rIxTH, rCat, tSl, tPart, tNoPart, tBM, rAppend, L2.start, tFor_eq, tLc_eq, iList, iTup, iRng1, iRng2, iEnum, iZip, cx_K, cx_prog, cx_w, cx_nK, forall_const, tYes, wipe, List.foldl_cons, List.foldl_nil, and_assoc, List.map_cons, List.map_nil, List.length_cons, List.length_nil, List.replicate, List.append_nil, List.cons_append, List.nil_append,
  List.getElem?_cons_zero, List.getElem?_cons_succ, List.set_cons_zero, List.set_cons_succ, Nat.zero_add, Nat.add_zero, Nat.reduceAdd, Nat.reduceSub, Option.some.injEq, V.int.injEq, V.bl.injEq, V.ref.injEq, V.str.injEq,
  List.cons.injEq, and_true, true_and, exists_eq_left, exists_eq_left', exists_eq_right, exists_const, exists_eq, exists_and_left, exists_and_right, upd_same, upd_upd, atI_0, atI_1, atI_2, atI_3, ixN_4_0, ixN_4_1, ixN_4_2, ixN_4_3, some_lst, some_tup, decide_eq_true_eq, reduceCtorEq,
  V.int.injEq, Bool.true_eq_false, Bool.false_eq_true, if_true, if_false, ite_true, ite_false, eq_self, not_true_eq_false, not_false_eq_true, decide_true, decide_false, Bool.not_true, Bool.not_false, false_and, and_false, exists_false])
local macro_rules | `(tactic| walk_at "mono") => `(tactic| repeat (first | with_reducible exact mon_var _ | with_reducible exact mon_c _ | with_reducible exact mon_rI _ _ | with_reducible exact mon_rI0 _ | with_reducible exact mon_rEq | with_reducible exact mon_rNe | with_reducible refine mon_test ?_ | with_reducible refine mon_op ?_ ?_ ?_ | with_reducible refine mon_and ?_ ?_ | with_reducible refine mon_or ?_ ?_ | with_reducible exact mon_rU _ | with_reducible refine mon_un ?_ ?_))
local macro_rules | `(tactic| walk_at "sd") => `(tactic| first | assumption | omega | (unfold CMul; omega) | (unfold CDiv; omega) | rfl | decide)
local macro_rules | `(tactic| walk_at "go") => `(tactic| repeat (refine And.intro (by first | assumption | omega | exact tyL (by assumption) | (unfold CMul; omega) | (unfold CDiv; omega) | rfl | decide) ?_))
theorem ok_law_mixed {P : Program} {w : World} {K : PySem.W.Frag} {mg : Str → Option Value} {base : Heap} (T : Txt K mg) : ∃ fd, FnOk P w K mg base CX0 1 (He.ga K "_law_mixed") fd P_law_mixed sp_mixed ∧ D_law_mixed K (He.ga K "_law_mixed") fd := by
  obtain ⟨fd, F⟩ := T.F_law_mixed
  refine ⟨fd, F.ok sc_law_mixed (fun vs H Q E h => ?_) (fun cdv A outer s H vs Q E hr h => ?_), F⟩
  · obtain ⟨n, t, rfl, _⟩ := h
    rfl
  ·
    obtain ⟨n, t, rfl, ⟨h1, h2, h3, h4⟩, q⟩ := h
    refine ⟨_, PSs.nox (pss_cons (ps_set (i := 2) sc_law_mixed.nd rfl (by first | exact Or.inl rfl | exact Or.inr rfl) (pe_op op_mod (pe_callTy call_intI (by rfl) T.z_int (by decide +kernel) (pa_cons (pe_op op_add (pe_op op_add (pe_op op_mul (pv 0) pe_int) (pe_op op_mul (pv 1) pe_int)) pe_int) pa_nil)) pe_int))
    (pss_cons (ps_set (i := 3) sc_law_mixed.nd rfl (by first | exact Or.inl rfl | exact Or.inr rfl) (pe_op op_mod (pe_callTy call_intI (by rfl) T.z_int (by decide +kernel) (pa_cons (pe_op op_add (pe_op op_add (pe_op op_mul (pv 2) (pv 2)) (pe_op op_mul (pv 1) pe_int)) (pe_op op_fdiv (pv 2) pe_int)) pa_nil)) pe_int))
    (pss_one (ps_ret (pe_op op_fdiv (pe_callTy call_intI (by rfl) T.z_int (by decide +kernel) (pa_cons (pe_op op_mod (pe_callTy call_intI (by rfl) T.z_int (by decide +kernel) (pa_cons (pe_op op_add (pe_op op_mul (pv 3) pe_int) (pe_op op_fdiv (pv 2) pe_int)) pa_nil)) pe_int) pa_nil)) pe_int))))), ?_⟩
    walk_at "rd"
    walk_at "go"
    exact q _ (mixedN_pos n t)
end Mine

namespace Mine
open PySem PySem.Spec PyProof.Rows L2
local macro_rules | `(tactic| walk_at "rd") => `(tactic| try simp only [tMk1, iEnumA, iSeq, tPar3, tAugS, ipI, rRepA, rIxA, tCallSD, rExtend, tDNewK, iZipS, tXf, tSeq, tAsg, tCB, tCons, tNil, tVar, tOp, tUn, rI, rI0, rU, gName, gNil, gCons, gSub, rSetL, tC, tRet, tRetN, tNext, tIfS, tTest, tB, tAnd, tOr, tNot, tAndV, tOrV, tNotV, tIf,
  tDrop, tCall, tCallS, tPar, tAug, ipI, tBreak, tCont, tTup, tLst, rEq_int, rNe_int, rEq_bl, rNe_bl, rEq_str, rNe_str, HO.lst.injEq, HO.tup.injEq, Bool.not_eq_true', decide_eq_false_iff_not, rIxH, rIxTH, rCat, tSl, tPart, tNoPart, tBM, rAppend, L2.start, tFor_eq, tLc_eq, iList, iTup, iRng1, iRng2, iEnum, iZip, cx_K, cx_prog, cx_w, cx_nK, forall_const, tYes, wipe, List.foldl_cons, List.foldl_nil, and_assoc, List.map_cons, List.map_nil, List.length_cons, List.length_nil, List.replicate, List.append_nil, List.cons_append, List.nil_append,
  List.getElem?_cons_zero, List.getElem?_cons_succ, List.set_cons_zero, List.set_cons_succ, Nat.zero_add, Nat.add_zero, Nat.reduceAdd, Nat.reduceSub, Option.some.injEq, V.int.injEq, V.bl.injEq, V.ref.injEq, V.str.injEq,
  List.cons.injEq, and_true, true_and, exists_eq_left, exists_eq_left', exists_eq_right, exists_const, exists_eq, exists_and_left, exists_and_right, upd_same, upd_upd, atI_0, atI_1, atI_2, atI_3, ixN_4_0, ixN_4_1, ixN_4_2, ixN_4_3, some_lst, some_tup, decide_eq_true_eq, reduceCtorEq,
  V.int.injEq, Bool.true_eq_false, Bool.false_eq_true, if_true, if_false, ite_true, ite_false, eq_self, not_true_eq_false, not_false_eq_true, decide_true, decide_false, Bool.not_true, Bool.not_false, false_and, and_false, exists_false])
local macro_rules | `(tactic| walk_at "mono") => `(tactic| repeat (first | with_reducible exact mon_var _ | with_reducible exact mon_c _ | with_reducible exact mon_rI _ _ | with_reducible exact mon_rI0 _ | with_reducible exact mon_rEq | with_reducible exact mon_rNe | with_reducible refine mon_test ?_ | with_reducible refine mon_op ?_ ?_ ?_ | with_reducible refine mon_and ?_ ?_ | with_reducible refine mon_or ?_ ?_ | with_reducible exact mon_rU _ | with_reducible refine mon_un ?_ ?_))
local macro_rules | `(tactic| walk_at "sd") => `(tactic| first | assumption | omega | (unfold CMul; omega) | (unfold CDiv; omega) | rfl | decide)
local macro_rules | `(tactic| walk_at "go") => `(tactic| repeat (refine And.intro (by first | assumption | omega | exact tyL (by assumption) | (unfold CMul; omega) | (unfold CDiv; omega) | rfl | decide) ?_))
theorem ok_law_take {P : Program} {w : World} {K : PySem.W.Frag} {mg : Str → Option Value} {base : Heap} (T : Txt K mg) : ∃ fd, FnOk P w K mg base CX0 2 (He.ga K "_law_take") fd P_law_take (spD K F_law_take) ∧ D_law_take K (He.ga K "_law_take") fd := by
  obtain ⟨fd, F⟩ := T.F_law_take
  obtain ⟨fd_law_mixed, G_law_mixed, D_law_mixed⟩ := ok_law_mixed (P := P) (w := w) (base := base) T
  have k_law_mixed := D_law_mixed.kp
  have b_law_mixed := bd_law_mixed D_law_mixed
  refine ⟨fd, F.ok sc_law_take (fun vs H Q E h => ?_) (fun cdv A outer s H vs Q E hr h => ?_), F⟩
  · obtain ⟨h, m, rfl, _⟩ := take_spD _ _ _ _ h -- := h
    rfl
  ·
    replace h := take_spD _ _ _ _ h
    obtain ⟨h, m, rfl, ⟨c, cells, at_, big, mix, hH, hC, hp, ha, hl, hb, hm, hm2⟩, h1, h2, q⟩ := h
    have hc : c ≠ h := ne_of hC hH (by
      intro z
      cases cells with
      | nil => cases z
      | cons x r => cases z)
    have k : ∀ xs, upd H h (.lst xs) c = some (.lst (cells.map V.int)) := fun xs => by rw [upd_ne hc]; exact hC
    have key : ∀ (ai : Int) (a2 : Nat) (b2 m2 : Int), ai = a2 → a2 ≤ cells.length → 0 ≤ b2 → 0 ≤ m2 → m2 < 2147483563 → HandN H h (.lst [.ref c, .int ai, .int b2, .int m2]) :=
      fun ai a2 b2 m2 e x1 x2 x3 x4 => ⟨⟨c, cells, a2, b2, m2, by rw [upd_same, e], k _, hp, x1, hl, x2, x3, x4⟩, c, _, _, hH, rfl⟩
    have emod : ∀ z : Int, 0 ≤ z % m ∧ z % m < m := fun z => ⟨Int.emod_nonneg _ (by omega), Int.emod_lt_of_pos _ h1⟩
    have ediv : ∀ z : Int, 0 ≤ z → 0 ≤ z / m := fun z hz => Int.ediv_nonneg hz (by omega)
    have fresh : ∀ (ai : Int) (a2 : Nat) (b2 : Int), ai = a2 → a2 ≤ cells.length → 0 ≤ b2 → (0 : Int) < 2147483549 ∧ sp_mixed [V.int ((mix + 1) % 2147483549), V.int ai] (upd H h (.lst [.ref c, .int ai, .int b2, .int ((mix + 1) % 2147483549)]))
        (fun x H1 => ∃ i, x = V.int i ∧ 0 < m ∧ Q (V.int (i % m)) H1) E0 := fun ai a2 b2 e x1 x2 => by
      refine ⟨by decide, _, _, rfl, by omega, fun r hr => ⟨r, rfl, h1, q _ _ (emod r).1 (emod r).2 (key ai a2 b2 _ e x1 x2 (by omega) (by omega))⟩⟩
    refine ⟨_, PSs.nox (pss_cons (ps_if (PW.pt (pw_and (pt_cmpR op_eq (pe_ix ix_H (pv 0) pe_int (fun _ _ => rfl)) pe_int (nomark _)) (pw_and1 (pt_cmpR op_lt (pe_ix ix_H (pv 0) pe_int (fun _ _ => rfl)) (pe_callB call_lenL (by rfl) T.z_len (by decide +kernel) (pa_cons (pe_ix ix_H (pv 0) pe_int (fun _ _ => rfl)) pa_nil)) (nomark _)))))
    (pss_cons (ps_set (i := 2) sc_law_take.nd rfl (by first | exact Or.inl rfl | exact Or.inr rfl) (pe_ix ix_H (pe_ix ix_H (pv 0) pe_int (fun _ _ => rfl)) (pe_ix ix_H (pv 0) pe_int (fun _ _ => rfl)) (fun _ _ => rfl)))
    (pss_cons (ps_asg (pe_op op_add (pe_ix ix_H (pv 0) pe_int (fun _ _ => rfl)) pe_int) (pg_sub (pv 0) pe_int set_list))
    (pss_cons (ps_if (pt_cmpR op_lt (pv 2) (pe_op op_pow pe_int pe_int) (nomark _))
    (pss_one (ps_ret (pe_op op_mod (pe_callTy call_intI (by rfl) T.z_int (by decide +kernel) (pa_cons (pe_call G_law_mixed (hr.mono (by decide)) rfl T.g__law_mixed k_law_mixed b_law_mixed .nil pass0 (pa_cons (pe_op op_mod (pe_callTy call_intI (by rfl) T.z_int (by decide +kernel) (pa_cons (pv 2) pa_nil)) pe_int) (pa_cons (pe_ix ix_H (pv 0) pe_int (fun _ _ => rfl)) pa_nil))) pa_nil)) (pv 1))))
    pss_nil)
    (pss_one (ps_asg (pv 2) (pg_sub (pv 0) pe_int set_list))))))
    pss_nil)
    (pss_cons (ps_if (pt_cmpR op_gt (pe_ix ix_H (pv 0) pe_int (fun _ _ => rfl)) pe_int (nomark _))
    (pss_cons (ps_set (i := 3) sc_law_take.nd rfl (by first | exact Or.inl rfl | exact Or.inr rfl) (pe_ix ix_H (pv 0) pe_int (fun _ _ => rfl)))
    (pss_cons (ps_asg (pe_op op_fdiv (pe_callTy call_intI (by rfl) T.z_int (by decide +kernel) (pa_cons (pv 3) pa_nil)) (pv 1)) (pg_sub (pv 0) pe_int set_list))
    (pss_one (ps_ret (pe_op op_mod (pe_callTy call_intI (by rfl) T.z_int (by decide +kernel) (pa_cons (pv 3) pa_nil)) (pv 1))))))
    pss_nil)
    (pss_cons (ps_asg (pe_op op_mod (pe_callTy call_intI (by rfl) T.z_int (by decide +kernel) (pa_cons (pe_op op_add (pe_ix ix_H (pv 0) pe_int (fun _ _ => rfl)) pe_int) pa_nil)) pe_int) (pg_sub (pv 0) pe_int set_list))
    (pss_one (ps_ret (pe_op op_mod (pe_callTy call_intI (by rfl) T.z_int (by decide +kernel) (pa_cons (pe_call G_law_mixed (hr.mono (by decide)) rfl T.g__law_mixed k_law_mixed b_law_mixed .nil pass0 (pa_cons (pe_ix ix_H (pv 0) pe_int (fun _ _ => rfl)) (pa_cons (pe_ix ix_H (pv 0) pe_int (fun _ _ => rfl)) pa_nil))) pa_nil)) (pv 1))))))), ?_⟩
    simp only [tMk1, iEnumA, iSeq, tPar3, tAugS, ipI, rRepA, rIxA, tCallSD, rExtend, tDNewK, iZipS, tXf, tSeq, tAsg, tCB, tCons, tNil, tVar, tOp, tUn, rI, rI0, rU, gName, gNil, gCons, gSub, rSetL, tC, tRet, tRetN, tNext, tIfS, tTest, tB, tAnd, tOr, tNot, tAndV, tOrV, tNotV, tIf,
  tDrop, tCall, tCallS, tPar, tAug, ipI, tBreak, tCont, tTup, tLst, rEq_int, rNe_int, rEq_bl, rNe_bl, rEq_str, rNe_str, HO.lst.injEq, HO.tup.injEq, Bool.not_eq_true', decide_eq_false_iff_not, rIxH, rIxTH, rCat, tSl, tPart, tNoPart, tBM, rAppend, L2.start, tFor_eq, tLc_eq, iList, iTup, iRng1, iRng2, iEnum, iZip, cx_K, cx_prog, cx_w, cx_nK, forall_const, tYes, wipe, List.foldl_cons, List.foldl_nil, and_assoc, List.map_cons, List.map_nil, List.length_cons, List.length_nil, List.replicate, List.append_nil, List.cons_append, List.nil_append,
  List.getElem?_cons_zero, List.getElem?_cons_succ, List.set_cons_zero, List.set_cons_succ, Nat.zero_add, Nat.add_zero, Nat.reduceAdd, Nat.reduceSub, Option.some.injEq, V.int.injEq, V.bl.injEq, V.ref.injEq, V.str.injEq,
  List.cons.injEq, and_true, true_and, exists_eq_left, exists_eq_left', exists_eq_right, exists_const, exists_eq, exists_and_left, exists_and_right, upd_same, upd_upd, atI_0, atI_1, atI_2, atI_3, ixN_4_0, ixN_4_1, ixN_4_2, ixN_4_3, some_lst, some_tup, decide_eq_true_eq, reduceCtorEq,
  V.int.injEq, Bool.true_eq_false, Bool.false_eq_true, if_true, if_false, ite_true, ite_false, eq_self, not_true_eq_false, not_false_eq_true, decide_true, decide_false, Bool.not_true, Bool.not_false, false_and, and_false, exists_false, hH, hC]
    have old : if 0 < big then CDiv big m ∧ 0 < m ∧ Q (V.int (big % m)) (upd H h (HO.lst [V.ref c, V.int ↑at_, V.int (big / m), V.int mix]))
        else (0 : Int) < 2147483549 ∧ sp_mixed [V.int ((mix + 1) % 2147483549), V.int ↑at_] (upd H h (HO.lst [V.ref c, V.int ↑at_, V.int big, V.int ((mix + 1) % 2147483549)])) (fun x H1 => ∃ i, x = V.int i ∧ 0 < m ∧ Q (V.int (i % m)) H1) E0 :=
      ite2 (fun _ => ⟨⟨h1, h2⟩, h1, q _ _ (emod big).1 (emod big).2 (key _ at_ _ _ rfl ha (ediv _ hb) hm hm2)⟩) (fun _ => fresh _ at_ _ rfl ha hb)
    refine ite2 (fun _ => ite2 (fun e => ?_) (fun _ => old)) (fun _ => old)
    have hlt : at_ < cells.length := by rw [List.length_map] at e; omega
    have hz := hp cells[at_] (List.getElem_mem hlt)
    refine ⟨.int cells[at_], atI_nat (by rw [List.getElem?_map, List.getElem?_eq_getElem hlt]; rfl), ⟨by decide, by decide, by decide⟩, _, rfl, ite2 (fun e2 => ?_) (fun e2 => ?_)⟩
    · refine ⟨_, rfl, by decide, _, _, rfl, by omega, fun r hr => ⟨r, rfl, h1, q _ _ (emod r).1 (emod r).2 (key _ (at_ + 1) _ _ (by omega) (by omega) hb hm hm2)⟩⟩
    · refine ⟨_, rfl, ite2 (fun e3 => ?_) (fun e3 => fresh _ (at_ + 1) _ (by omega) (by omega) hz)⟩
      exact ⟨_, rfl, ⟨h1, h2⟩, _, rfl, h1, q _ _ (emod _).1 (emod _).2 (key _ (at_ + 1) _ _ (by omega) (by omega) (ediv _ hz) hm hm2)⟩
end Mine

namespace Mine
open PySem PySem.Spec PyProof.Rows L2
theorem ok_law_word {P : Program} {w : World} {K : PySem.W.Frag} {mg : Str → Option Value} {base : Heap} (T : Txt K mg) : ∃ fd, FnOk P w K mg base CX0 3 (He.ga K "_law_word") fd P_law_word (spD K F_law_word) ∧ D_law_word K (He.ga K "_law_word") fd := by
  obtain ⟨fd, F⟩ := T.F_law_word
  obtain ⟨fd_law_take, G_law_take, D_law_take⟩ := ok_law_take (P := P) (w := w) (base := base) T
  have k_law_take := D_law_take.kp
  have b_law_take := bd_law_take D_law_take
  refine ⟨fd, F.ok sc_law_word (fun vs H Q E h => ?_) (fun cdv A outer s H vs Q E hr h => ?_), F⟩
  · rw [F_law_word_eq] at h
    exact spD_len (np := 3) (fun _ _ _ h => h.1) vs H Q E h
  · rw [F_law_word_eq] at h
    refine ⟨_, PSs.nox (pss_one (ps_ret (pe_callTy (call_tupU (K := K) rfl) (by rfl) T.z_tuple (by decide +kernel) (pa_cons (pe_lc (own := [("_law_k", 3)]) rfl sc_law_word.nd (pi_range1 (by rfl) T.z_range (pa_cons (pv 2) pa_nil)) (blkOk_by (own := [("_law_k", 3)]) (N := N_law_word) (sc := defScope s_law_word) (by decide +kernel)) (fun _ _ _ _ _ => (pg_name (i := 3) sc_law_word.nd rfl (by first | exact Or.inl rfl | exact Or.inr rfl))) (fun _ _ _ _ _ => pts_nil) (fun _ _ _ _ _ => (pe_call G_law_take (hr.mono (by decide)) rfl T.g__law_take k_law_take b_law_take .nil pass0 (pa_cons (pv 0) (pa_cons (pv 1) pa_nil))))) pa_nil)))), ?_⟩
    exact body_of0 rfl h fun X hd => (dst_ret (dg_cb cg_tup (db_cons (DEg.bor (DEg.cln (df_lc (di_rng1 (db_cons (db_var 2) db_nil)) (dg_name 3) dt_yes (de_call0 dv_nil (ds_hand (i := 0) (ds_cons (de_var 1) ds_nil)))))) db_nil)))
end Mine

namespace Mine
open PySem PySem.Spec PyProof.Rows L2
theorem ok_law_part {P : Program} {w : World} {K : PySem.W.Frag} {mg : Str → Option Value} {base : Heap} (T : Txt K mg) : ∃ fd, FnOk P w K mg base CX0 4 (He.ga K "_law_part") fd P_law_part (spD K F_law_part) ∧ D_law_part K (He.ga K "_law_part") fd := by
  obtain ⟨fd, F⟩ := T.F_law_part
  obtain ⟨fd_law_take, G_law_take, D_law_take⟩ := ok_law_take (P := P) (w := w) (base := base) T
  have k_law_take := D_law_take.kp
  have b_law_take := bd_law_take D_law_take
  obtain ⟨fd_law_word, G_law_word, D_law_word⟩ := ok_law_word (P := P) (w := w) (base := base) T
  have k_law_word := D_law_word.kp
  have b_law_word := bd_law_word D_law_word
  refine ⟨fd, F.ok sc_law_part (fun vs H Q E h => ?_) (fun cdv A outer s H vs Q E hr h => ?_), F⟩
  · rw [F_law_part_eq] at h
    exact spD_len (np := 1) (fun _ _ _ h => h.1) vs H Q E h
  · rw [F_law_part_eq] at h
    refine ⟨_, PSs.nox (pss_cons (ps_set (i := 1) sc_law_part.nd rfl (by first | exact Or.inl rfl | exact Or.inr rfl) (pe_call G_law_take (hr.mono (by decide)) rfl T.g__law_take k_law_take b_law_take .nil pass0 (pa_cons (pv 0) (pa_cons pe_int pa_nil))))
    (pss_cons (ps_if (pt_cmpR (op_eqU rfl hr.units) (pv 1) pe_int (by first | exact nomark _ | rfl))
    (pss_one (ps_ret (pe_op op_sub (pe_call G_law_take (hr.mono (by decide)) rfl T.g__law_take k_law_take b_law_take .nil pass0 (pa_cons (pv 0) (pa_cons (pe_op op_pow pe_int pe_int) pa_nil))) pe_int)))
    pss_nil)
    (pss_cons (ps_if (pt_cmpR (op_eqU rfl hr.units) (pv 1) pe_int (by first | exact nomark _ | rfl))
    (pss_one (ps_ret (pe_call G_law_word (hr.mono (by decide)) rfl T.g__law_word k_law_word b_law_word .nil pass0 (pa_cons (pv 0) (pa_cons pe_int (pa_cons (pe_call G_law_take (hr.mono (by decide)) rfl T.g__law_take k_law_take b_law_take .nil pass0 (pa_cons (pv 0) (pa_cons pe_int pa_nil))) pa_nil))))))
    pss_nil)
    (pss_cons (ps_if (pt_cmpR (op_eqU rfl hr.units) (pv 1) pe_int (by first | exact nomark _ | rfl))
    (pss_one (ps_ret (pe_callTy (call_tupU (K := K) rfl) (by rfl) T.z_tuple (by decide +kernel) (pa_cons (pe_lc (own := [("_law_k", 2)]) rfl sc_law_part.nd (pi_range1 (by rfl) T.z_range (pa_cons (pe_call G_law_take (hr.mono (by decide)) rfl T.g__law_take k_law_take b_law_take .nil pass0 (pa_cons (pv 0) (pa_cons pe_int pa_nil))) pa_nil)) (blkOk_by (own := [("_law_k", 2)]) (N := N_law_part) (sc := defScope s_law_part) (by decide +kernel)) (fun _ _ _ _ _ => (pg_name (i := 2) sc_law_part.nd rfl (by first | exact Or.inl rfl | exact Or.inr rfl))) (fun _ _ _ _ _ => pts_nil) (fun _ _ _ _ _ => (pe_call G_law_word (hr.mono (by decide)) rfl T.g__law_word k_law_word b_law_word .nil pass0 (pa_cons (pv 0) (pa_cons pe_int (pa_cons (pe_call G_law_take (hr.mono (by decide)) rfl T.g__law_take k_law_take b_law_take .nil pass0 (pa_cons (pv 0) (pa_cons pe_int pa_nil))) pa_nil)))))) pa_nil))))
    pss_nil)
    (pss_one (ps_ret (pe_ix (ix_U (K := K) rfl) (pe_tup (pa_cons pe_bl (pa_cons pe_bl (pa_cons pe_non (pa_cons pe_str (pa_cons pe_str pa_nil)))))) (pe_call G_law_take (hr.mono (by decide)) rfl T.g__law_take k_law_take b_law_take .nil pass0 (pa_cons (pv 0) (pa_cons pe_int pa_nil))) (fun _ _ => rfl)))))))), ?_⟩
    exact body_of0 rfl h fun X hd => (dst_seq (dst_asg (de_call0 dv_nil (ds_hand (i := 0) (ds_cons (de_int 5) ds_nil))) (dg_name 1))
    (dst_seq (dst_if (dt_test (dg_op od_eq (db_var 1) (DEg.bor (de_int 0))))
    (dst_ret (dg_op od_sub (DEg.bor (de_call0 dv_nil (ds_hand (i := 0) (ds_cons (de_powC (a := 10) (b := 6) (c := 1000000) (cpow_of (by decide +kernel)) (by decide +kernel)) ds_nil)))) (DEg.bor (de_int 3))))
    dst_next)
    (dst_seq (dst_if (dt_test (dg_op od_eq (db_var 1) (DEg.bor (de_int 1))))
    (dst_ret (de_call0 dv_nil (ds_hand (i := 0) (ds_cons (de_int 4) (ds_cons (de_call0 dv_nil (ds_hand (i := 0) (ds_cons (de_int 6) ds_nil))) ds_nil)))))
    dst_next)
    (dst_seq (dst_if (dt_test (dg_op od_eq (db_var 1) (DEg.bor (de_int 2))))
    (dst_ret (dg_cb cg_tup (db_cons (DEg.bor (DEg.cln (df_lc (di_rng1 (db_cons (DEg.bor (de_call0 dv_nil (ds_hand (i := 0) (ds_cons (de_int 4) ds_nil)))) db_nil)) (dg_name 2) dt_yes (de_call0 dv_nil (ds_hand (i := 0) (ds_cons (de_int 3) (ds_cons (de_call0 dv_nil (ds_hand (i := 0) (ds_cons (de_int 3) ds_nil))) ds_nil))))))) db_nil)))
    dst_next)
    (dst_ret (dg_op od_ix (DEg.bor (de_tup (da_cons (de_bl true) (da_cons (de_bl false) (da_cons de_non (da_cons (de_str "lost") (da_cons (de_str "put") da_nil))))))) (DEg.bor (de_call0 dv_nil (ds_hand (i := 0) (ds_cons (de_int 5) ds_nil))))))))))
end Mine

namespace Mine
open PySem PySem.Spec PyProof.Rows L2
theorem ok_NearPair___eq {P : Program} {w : World} {K : PySem.W.Frag} {mg : Str → Option Value} {base : Heap} (T : Txt K mg) : ∃ fd, FnOk P w K mg base CX0 1 (He.ma K (He.ga K "NearPair") "__eq__") fd P_NearPair___eq (spD K F_NearPair___eq) ∧ D_NearPair___eq K (He.ma K (He.ga K "NearPair") "__eq__") fd := by
  obtain ⟨fd, F⟩ := T.F_NearPair___eq
  refine ⟨fd, F.ok sc_NearPair___eq (fun vs H Q E h => ?_) (fun cdv A outer s H vs Q E hr h => ?_), F⟩
  · rw [F_NearPair___eq_eq] at h
    exact spD_len (np := 2) (fun _ _ _ h => h.1) vs H Q E h
  · rw [F_NearPair___eq_eq] at h
    refine ⟨_, PSs.nox (pss_one (ps_ret (pe_and (pe_callB (call_isiU (K := K) rfl) (by rfl) T.z_isinstance (by decide +kernel) (pa_cons (pv 1) (pa_cons (pe_glob (v := .ref (He.ga _ "NearPair")) rfl T.g_NearPair rfl) pa_nil))) (pe_and (pe_cmpR (op_eqU rfl hr.units) (pe_fldU (K := K) rfl (pv 0) (by rfl)) (pe_fldU (K := K) rfl (pv 1) (by rfl)) (by first | exact nomark _ | rfl)) (pe_and (pe_cmpR (op_eqU rfl hr.units) (pe_fldU (K := K) rfl (pv 0) (by rfl)) (pe_fldU (K := K) rfl (pv 1) (by rfl)) (by first | exact nomark _ | rfl)) (pe_and (pe_cmpR (op_eqU rfl hr.units) (pe_fldU (K := K) rfl (pv 0) (by rfl)) (pe_fldU (K := K) rfl (pv 1) (by rfl)) (by first | exact nomark _ | rfl)) (pe_one (pe_cmpR (op_eqU rfl hr.units) (pe_fldU (K := K) rfl (pv 0) (by rfl)) (pe_fldU (K := K) rfl (pv 1) (by rfl)) (by first | exact nomark _ | rfl))))))))), ?_⟩
    exact body_of0 rfl h fun X hd => (dst_ret (de_andV (de_isI (isi_NearPair T) (db_var 1)) (de_andV (dg_op od_eq (DEg.bor (de_fld (fld_ok T) (db_var 0))) (DEg.bor (de_fld (fld_ok T) (db_var 1)))) (de_andV (dg_op od_eq (DEg.bor (de_fld (fld_ok T) (db_var 0))) (DEg.bor (de_fld (fld_ok T) (db_var 1)))) (de_andV (dg_op od_eq (DEg.bor (de_fld (fld_ok T) (db_var 0))) (DEg.bor (de_fld (fld_ok T) (db_var 1)))) (dg_op od_eq (DEg.bor (de_fld (fld_ok T) (db_var 0))) (DEg.bor (de_fld (fld_ok T) (db_var 1)))))))))
end Mine

namespace Mine
open PySem PySem.Spec PyProof.Rows L2
theorem ok_Thinned___eq {P : Program} {w : World} {K : PySem.W.Frag} {mg : Str → Option Value} {base : Heap} (T : Txt K mg) : ∃ fd, FnOk P w K mg base CX0 1 (He.ma K (He.ga K "Thinned") "__eq__") fd P_Thinned___eq (spD K F_Thinned___eq) ∧ D_Thinned___eq K (He.ma K (He.ga K "Thinned") "__eq__") fd := by
  obtain ⟨fd, F⟩ := T.F_Thinned___eq
  refine ⟨fd, F.ok sc_Thinned___eq (fun vs H Q E h => ?_) (fun cdv A outer s H vs Q E hr h => ?_), F⟩
  · rw [F_Thinned___eq_eq] at h
    exact spD_len (np := 2) (fun _ _ _ h => h.1) vs H Q E h
  · rw [F_Thinned___eq_eq] at h
    refine ⟨_, PSs.nox (pss_one (ps_ret (pe_and (pe_callB (call_isiU (K := K) rfl) (by rfl) T.z_isinstance (by decide +kernel) (pa_cons (pv 1) (pa_cons (pe_glob (v := .ref (He.ga _ "Thinned")) rfl T.g_Thinned rfl) pa_nil))) (pe_and (pe_cmpR (op_eqU rfl hr.units) (pe_fldU (K := K) rfl (pv 0) (by rfl)) (pe_fldU (K := K) rfl (pv 1) (by rfl)) (by first | exact nomark _ | rfl)) (pe_one (pe_cmpR (op_eqU rfl hr.units) (pe_fldU (K := K) rfl (pv 0) (by rfl)) (pe_fldU (K := K) rfl (pv 1) (by rfl)) (by first | exact nomark _ | rfl))))))), ?_⟩
    exact body_of0 rfl h fun X hd => (dst_ret (de_andV (de_isI (isi_Thinned T) (db_var 1)) (de_andV (dg_op od_eq (DEg.bor (de_fld (fld_ok T) (db_var 0))) (DEg.bor (de_fld (fld_ok T) (db_var 1)))) (dg_op od_eq (DEg.bor (de_fld (fld_ok T) (db_var 0))) (DEg.bor (de_fld (fld_ok T) (db_var 1)))))))
end Mine

namespace Mine
open PySem PySem.Spec PyProof.Rows L2
theorem ok_Web___eq {P : Program} {w : World} {K : PySem.W.Frag} {mg : Str → Option Value} {base : Heap} (T : Txt K mg) : ∃ fd, FnOk P w K mg base CX0 1 (He.ma K (He.ga K "Web") "__eq__") fd P_Web___eq (spD K F_Web___eq) ∧ D_Web___eq K (He.ma K (He.ga K "Web") "__eq__") fd := by
  obtain ⟨fd, F⟩ := T.F_Web___eq
  refine ⟨fd, F.ok sc_Web___eq (fun vs H Q E h => ?_) (fun cdv A outer s H vs Q E hr h => ?_), F⟩
  · rw [F_Web___eq_eq] at h
    exact spD_len (np := 2) (fun _ _ _ h => h.1) vs H Q E h
  · rw [F_Web___eq_eq] at h
    refine ⟨_, PSs.nox (pss_one (ps_ret (pe_and (pe_callB (call_isiU (K := K) rfl) (by rfl) T.z_isinstance (by decide +kernel) (pa_cons (pv 1) (pa_cons (pe_glob (v := .ref (He.ga _ "Web")) rfl T.g_Web rfl) pa_nil))) (pe_and (pe_cmpR (op_eqU rfl hr.units) (pe_fldU (K := K) rfl (pv 0) (by rfl)) (pe_fldU (K := K) rfl (pv 1) (by rfl)) (by first | exact nomark _ | rfl)) (pe_and (pe_cmpR (op_eqU rfl hr.units) (pe_fldU (K := K) rfl (pv 0) (by rfl)) (pe_fldU (K := K) rfl (pv 1) (by rfl)) (by first | exact nomark _ | rfl)) (pe_one (pe_cmpR (op_eqU rfl hr.units) (pe_fldU (K := K) rfl (pv 0) (by rfl)) (pe_fldU (K := K) rfl (pv 1) (by rfl)) (by first | exact nomark _ | rfl)))))))), ?_⟩
    exact body_of0 rfl h fun X hd => (dst_ret (de_andV (de_isI (isi_Web T) (db_var 1)) (de_andV (dg_op od_eq (DEg.bor (de_fld (fld_ok T) (db_var 0))) (DEg.bor (de_fld (fld_ok T) (db_var 1)))) (de_andV (dg_op od_eq (DEg.bor (de_fld (fld_ok T) (db_var 0))) (DEg.bor (de_fld (fld_ok T) (db_var 1)))) (dg_op od_eq (DEg.bor (de_fld (fld_ok T) (db_var 0))) (DEg.bor (de_fld (fld_ok T) (db_var 1))))))))
end Mine

namespace Mine
open PySem PySem.Spec PyProof.Rows L2
theorem ok_Told___eq {P : Program} {w : World} {K : PySem.W.Frag} {mg : Str → Option Value} {base : Heap} (T : Txt K mg) : ∃ fd, FnOk P w K mg base CX0 1 (He.ma K (He.ga K "Told") "__eq__") fd P_Told___eq (spD K F_Told___eq) ∧ D_Told___eq K (He.ma K (He.ga K "Told") "__eq__") fd := by
  obtain ⟨fd, F⟩ := T.F_Told___eq
  refine ⟨fd, F.ok sc_Told___eq (fun vs H Q E h => ?_) (fun cdv A outer s H vs Q E hr h => ?_), F⟩
  · rw [F_Told___eq_eq] at h
    exact spD_len (np := 2) (fun _ _ _ h => h.1) vs H Q E h
  · rw [F_Told___eq_eq] at h
    refine ⟨_, PSs.nox (pss_one (ps_ret (pe_and (pe_callB (call_isiU (K := K) rfl) (by rfl) T.z_isinstance (by decide +kernel) (pa_cons (pv 1) (pa_cons (pe_glob (v := .ref (He.ga _ "Told")) rfl T.g_Told rfl) pa_nil))) (pe_and (pe_cmpR (op_eqU rfl hr.units) (pe_fldU (K := K) rfl (pv 0) (by rfl)) (pe_fldU (K := K) rfl (pv 1) (by rfl)) (by first | exact nomark _ | rfl)) (pe_and (pe_cmpR (op_eqU rfl hr.units) (pe_fldU (K := K) rfl (pv 0) (by rfl)) (pe_fldU (K := K) rfl (pv 1) (by rfl)) (by first | exact nomark _ | rfl)) (pe_one (pe_cmpR (op_eqU rfl hr.units) (pe_fldU (K := K) rfl (pv 0) (by rfl)) (pe_fldU (K := K) rfl (pv 1) (by rfl)) (by first | exact nomark _ | rfl)))))))), ?_⟩
    exact body_of0 rfl h fun X hd => (dst_ret (de_andV (de_isI (isi_Told T) (db_var 1)) (de_andV (dg_op od_eq (DEg.bor (de_fld (fld_ok T) (db_var 0))) (DEg.bor (de_fld (fld_ok T) (db_var 1)))) (de_andV (dg_op od_eq (DEg.bor (de_fld (fld_ok T) (db_var 0))) (DEg.bor (de_fld (fld_ok T) (db_var 1)))) (dg_op od_eq (DEg.bor (de_fld (fld_ok T) (db_var 0))) (DEg.bor (de_fld (fld_ok T) (db_var 1))))))))
end Mine

namespace Mine
open PySem PySem.Spec PyProof.Rows L2
theorem ok_Clash___eq {P : Program} {w : World} {K : PySem.W.Frag} {mg : Str → Option Value} {base : Heap} (T : Txt K mg) : ∃ fd, FnOk P w K mg base CX0 1 (He.ma K (He.ga K "Clash") "__eq__") fd P_Clash___eq (spD K F_Clash___eq) ∧ D_Clash___eq K (He.ma K (He.ga K "Clash") "__eq__") fd := by
  obtain ⟨fd, F⟩ := T.F_Clash___eq
  refine ⟨fd, F.ok sc_Clash___eq (fun vs H Q E h => ?_) (fun cdv A outer s H vs Q E hr h => ?_), F⟩
  · rw [F_Clash___eq_eq] at h
    exact spD_len (np := 2) (fun _ _ _ h => h.1) vs H Q E h
  · rw [F_Clash___eq_eq] at h
    refine ⟨_, PSs.nox (pss_one (ps_ret (pe_and (pe_callB (call_isiU (K := K) rfl) (by rfl) T.z_isinstance (by decide +kernel) (pa_cons (pv 1) (pa_cons (pe_glob (v := .ref (He.ga _ "Clash")) rfl T.g_Clash rfl) pa_nil))) (pe_and (pe_cmpR (op_eqU rfl hr.units) (pe_fldU (K := K) rfl (pv 0) (by rfl)) (pe_fldU (K := K) rfl (pv 1) (by rfl)) (by first | exact nomark _ | rfl)) (pe_one (pe_cmpR (op_eqU rfl hr.units) (pe_fldU (K := K) rfl (pv 0) (by rfl)) (pe_fldU (K := K) rfl (pv 1) (by rfl)) (by first | exact nomark _ | rfl))))))), ?_⟩
    exact body_of0 rfl h fun X hd => (dst_ret (de_andV (de_isI (isi_Clash T) (db_var 1)) (de_andV (dg_op od_eq (DEg.bor (de_fld (fld_ok T) (db_var 0))) (DEg.bor (de_fld (fld_ok T) (db_var 1)))) (dg_op od_eq (DEg.bor (de_fld (fld_ok T) (db_var 0))) (DEg.bor (de_fld (fld_ok T) (db_var 1)))))))
end Mine

namespace Mine
open PySem PySem.Spec PyProof.Rows L2
theorem ok_TwoCuts___eq {P : Program} {w : World} {K : PySem.W.Frag} {mg : Str → Option Value} {base : Heap} (T : Txt K mg) : ∃ fd, FnOk P w K mg base CX0 1 (He.ma K (He.ga K "TwoCuts") "__eq__") fd P_TwoCuts___eq (spD K F_TwoCuts___eq) ∧ D_TwoCuts___eq K (He.ma K (He.ga K "TwoCuts") "__eq__") fd := by
  obtain ⟨fd, F⟩ := T.F_TwoCuts___eq
  refine ⟨fd, F.ok sc_TwoCuts___eq (fun vs H Q E h => ?_) (fun cdv A outer s H vs Q E hr h => ?_), F⟩
  · rw [F_TwoCuts___eq_eq] at h
    exact spD_len (np := 2) (fun _ _ _ h => h.1) vs H Q E h
  · rw [F_TwoCuts___eq_eq] at h
    refine ⟨_, PSs.nox (pss_one (ps_ret (pe_and (pe_callB (call_isiU (K := K) rfl) (by rfl) T.z_isinstance (by decide +kernel) (pa_cons (pv 1) (pa_cons (pe_glob (v := .ref (He.ga _ "TwoCuts")) rfl T.g_TwoCuts rfl) pa_nil))) (pe_and (pe_cmpR (op_eqU rfl hr.units) (pe_fldU (K := K) rfl (pv 0) (by rfl)) (pe_fldU (K := K) rfl (pv 1) (by rfl)) (by first | exact nomark _ | rfl)) (pe_one (pe_cmpR (op_eqU rfl hr.units) (pe_fldU (K := K) rfl (pv 0) (by rfl)) (pe_fldU (K := K) rfl (pv 1) (by rfl)) (by first | exact nomark _ | rfl))))))), ?_⟩
    exact body_of0 rfl h fun X hd => (dst_ret (de_andV (de_isI (isi_TwoCuts T) (db_var 1)) (de_andV (dg_op od_eq (DEg.bor (de_fld (fld_ok T) (db_var 0))) (DEg.bor (de_fld (fld_ok T) (db_var 1)))) (dg_op od_eq (DEg.bor (de_fld (fld_ok T) (db_var 0))) (DEg.bor (de_fld (fld_ok T) (db_var 1)))))))
end Mine

namespace Mine
open PySem PySem.Spec PyProof.Rows L2
theorem ok_Best___eq {P : Program} {w : World} {K : PySem.W.Frag} {mg : Str → Option Value} {base : Heap} (T : Txt K mg) : ∃ fd, FnOk P w K mg base CX0 1 (He.ma K (He.ga K "Best") "__eq__") fd P_Best___eq (spD K F_Best___eq) ∧ D_Best___eq K (He.ma K (He.ga K "Best") "__eq__") fd := by
  obtain ⟨fd, F⟩ := T.F_Best___eq
  refine ⟨fd, F.ok sc_Best___eq (fun vs H Q E h => ?_) (fun cdv A outer s H vs Q E hr h => ?_), F⟩
  · rw [F_Best___eq_eq] at h
    exact spD_len (np := 2) (fun _ _ _ h => h.1) vs H Q E h
  · rw [F_Best___eq_eq] at h
    refine ⟨_, PSs.nox (pss_one (ps_ret (pe_and (pe_callB (call_isiU (K := K) rfl) (by rfl) T.z_isinstance (by decide +kernel) (pa_cons (pv 1) (pa_cons (pe_glob (v := .ref (He.ga _ "Best")) rfl T.g_Best rfl) pa_nil))) (pe_and (pe_cmpR (op_eqU rfl hr.units) (pe_fldU (K := K) rfl (pv 0) (by rfl)) (pe_fldU (K := K) rfl (pv 1) (by rfl)) (by first | exact nomark _ | rfl)) (pe_one (pe_cmpR (op_eqU rfl hr.units) (pe_fldU (K := K) rfl (pv 0) (by rfl)) (pe_fldU (K := K) rfl (pv 1) (by rfl)) (by first | exact nomark _ | rfl))))))), ?_⟩
    exact body_of0 rfl h fun X hd => (dst_ret (de_andV (de_isI (isi_Best T) (db_var 1)) (de_andV (dg_op od_eq (DEg.bor (de_fld (fld_ok T) (db_var 0))) (DEg.bor (de_fld (fld_ok T) (db_var 1)))) (dg_op od_eq (DEg.bor (de_fld (fld_ok T) (db_var 0))) (DEg.bor (de_fld (fld_ok T) (db_var 1)))))))
end Mine

namespace Mine
open PySem PySem.Spec PyProof.Rows L2
theorem ok_RunPair___eq {P : Program} {w : World} {K : PySem.W.Frag} {mg : Str → Option Value} {base : Heap} (T : Txt K mg) : ∃ fd, FnOk P w K mg base CX0 1 (He.ma K (He.ga K "RunPair") "__eq__") fd P_RunPair___eq (spD K F_RunPair___eq) ∧ D_RunPair___eq K (He.ma K (He.ga K "RunPair") "__eq__") fd := by
  obtain ⟨fd, F⟩ := T.F_RunPair___eq
  refine ⟨fd, F.ok sc_RunPair___eq (fun vs H Q E h => ?_) (fun cdv A outer s H vs Q E hr h => ?_), F⟩
  · rw [F_RunPair___eq_eq] at h
    exact spD_len (np := 2) (fun _ _ _ h => h.1) vs H Q E h
  · rw [F_RunPair___eq_eq] at h
    refine ⟨_, PSs.nox (pss_one (ps_ret (pe_and (pe_callB (call_isiU (K := K) rfl) (by rfl) T.z_isinstance (by decide +kernel) (pa_cons (pv 1) (pa_cons (pe_glob (v := .ref (He.ga _ "RunPair")) rfl T.g_RunPair rfl) pa_nil))) (pe_and (pe_cmpR (op_eqU rfl hr.units) (pe_fldU (K := K) rfl (pv 0) (by rfl)) (pe_fldU (K := K) rfl (pv 1) (by rfl)) (by first | exact nomark _ | rfl)) (pe_and (pe_cmpR (op_eqU rfl hr.units) (pe_fldU (K := K) rfl (pv 0) (by rfl)) (pe_fldU (K := K) rfl (pv 1) (by rfl)) (by first | exact nomark _ | rfl)) (pe_and (pe_cmpR (op_eqU rfl hr.units) (pe_fldU (K := K) rfl (pv 0) (by rfl)) (pe_fldU (K := K) rfl (pv 1) (by rfl)) (by first | exact nomark _ | rfl)) (pe_and (pe_cmpR (op_eqU rfl hr.units) (pe_fldU (K := K) rfl (pv 0) (by rfl)) (pe_fldU (K := K) rfl (pv 1) (by rfl)) (by first | exact nomark _ | rfl)) (pe_one (pe_cmpR (op_eqU rfl hr.units) (pe_fldU (K := K) rfl (pv 0) (by rfl)) (pe_fldU (K := K) rfl (pv 1) (by rfl)) (by first | exact nomark _ | rfl)))))))))), ?_⟩
    exact body_of0 rfl h fun X hd => (dst_ret (de_andV (de_isI (isi_RunPair T) (db_var 1)) (de_andV (dg_op od_eq (DEg.bor (de_fld (fld_ok T) (db_var 0))) (DEg.bor (de_fld (fld_ok T) (db_var 1)))) (de_andV (dg_op od_eq (DEg.bor (de_fld (fld_ok T) (db_var 0))) (DEg.bor (de_fld (fld_ok T) (db_var 1)))) (de_andV (dg_op od_eq (DEg.bor (de_fld (fld_ok T) (db_var 0))) (DEg.bor (de_fld (fld_ok T) (db_var 1)))) (de_andV (dg_op od_eq (DEg.bor (de_fld (fld_ok T) (db_var 0))) (DEg.bor (de_fld (fld_ok T) (db_var 1)))) (dg_op od_eq (DEg.bor (de_fld (fld_ok T) (db_var 0))) (DEg.bor (de_fld (fld_ok T) (db_var 1))))))))))
end Mine

namespace Mine
open PySem PySem.Spec PyProof.Rows L2
theorem ok_Tried___eq {P : Program} {w : World} {K : PySem.W.Frag} {mg : Str → Option Value} {base : Heap} (T : Txt K mg) : ∃ fd, FnOk P w K mg base CX0 1 (He.ma K (He.ga K "Tried") "__eq__") fd P_Tried___eq (spD K F_Tried___eq) ∧ D_Tried___eq K (He.ma K (He.ga K "Tried") "__eq__") fd := by
  obtain ⟨fd, F⟩ := T.F_Tried___eq
  refine ⟨fd, F.ok sc_Tried___eq (fun vs H Q E h => ?_) (fun cdv A outer s H vs Q E hr h => ?_), F⟩
  · rw [F_Tried___eq_eq] at h
    exact spD_len (np := 2) (fun _ _ _ h => h.1) vs H Q E h
  · rw [F_Tried___eq_eq] at h
    refine ⟨_, PSs.nox (pss_one (ps_ret (pe_and (pe_callB (call_isiU (K := K) rfl) (by rfl) T.z_isinstance (by decide +kernel) (pa_cons (pv 1) (pa_cons (pe_glob (v := .ref (He.ga _ "Tried")) rfl T.g_Tried rfl) pa_nil))) (pe_and (pe_cmpR (op_eqU rfl hr.units) (pe_fldU (K := K) rfl (pv 0) (by rfl)) (pe_fldU (K := K) rfl (pv 1) (by rfl)) (by first | exact nomark _ | rfl)) (pe_and (pe_cmpR (op_eqU rfl hr.units) (pe_fldU (K := K) rfl (pv 0) (by rfl)) (pe_fldU (K := K) rfl (pv 1) (by rfl)) (by first | exact nomark _ | rfl)) (pe_and (pe_cmpR (op_eqU rfl hr.units) (pe_fldU (K := K) rfl (pv 0) (by rfl)) (pe_fldU (K := K) rfl (pv 1) (by rfl)) (by first | exact nomark _ | rfl)) (pe_and (pe_cmpR (op_eqU rfl hr.units) (pe_fldU (K := K) rfl (pv 0) (by rfl)) (pe_fldU (K := K) rfl (pv 1) (by rfl)) (by first | exact nomark _ | rfl)) (pe_one (pe_cmpR (op_eqU rfl hr.units) (pe_fldU (K := K) rfl (pv 0) (by rfl)) (pe_fldU (K := K) rfl (pv 1) (by rfl)) (by first | exact nomark _ | rfl)))))))))), ?_⟩
    exact body_of0 rfl h fun X hd => (dst_ret (de_andV (de_isI (isi_Tried T) (db_var 1)) (de_andV (dg_op od_eq (DEg.bor (de_fld (fld_ok T) (db_var 0))) (DEg.bor (de_fld (fld_ok T) (db_var 1)))) (de_andV (dg_op od_eq (DEg.bor (de_fld (fld_ok T) (db_var 0))) (DEg.bor (de_fld (fld_ok T) (db_var 1)))) (de_andV (dg_op od_eq (DEg.bor (de_fld (fld_ok T) (db_var 0))) (DEg.bor (de_fld (fld_ok T) (db_var 1)))) (de_andV (dg_op od_eq (DEg.bor (de_fld (fld_ok T) (db_var 0))) (DEg.bor (de_fld (fld_ok T) (db_var 1)))) (dg_op od_eq (DEg.bor (de_fld (fld_ok T) (db_var 0))) (DEg.bor (de_fld (fld_ok T) (db_var 1))))))))))
end Mine

namespace Mine
open PySem PySem.Spec PyProof.Rows L2
theorem ok_MixClash___eq {P : Program} {w : World} {K : PySem.W.Frag} {mg : Str → Option Value} {base : Heap} (T : Txt K mg) : ∃ fd, FnOk P w K mg base CX0 1 (He.ma K (He.ga K "MixClash") "__eq__") fd P_MixClash___eq (spD K F_MixClash___eq) ∧ D_MixClash___eq K (He.ma K (He.ga K "MixClash") "__eq__") fd := by
  obtain ⟨fd, F⟩ := T.F_MixClash___eq
  refine ⟨fd, F.ok sc_MixClash___eq (fun vs H Q E h => ?_) (fun cdv A outer s H vs Q E hr h => ?_), F⟩
  · rw [F_MixClash___eq_eq] at h
    exact spD_len (np := 2) (fun _ _ _ h => h.1) vs H Q E h
  · rw [F_MixClash___eq_eq] at h
    refine ⟨_, PSs.nox (pss_one (ps_ret (pe_and (pe_callB (call_isiU (K := K) rfl) (by rfl) T.z_isinstance (by decide +kernel) (pa_cons (pv 1) (pa_cons (pe_glob (v := .ref (He.ga _ "MixClash")) rfl T.g_MixClash rfl) pa_nil))) (pe_and (pe_cmpR (op_eqU rfl hr.units) (pe_fldU (K := K) rfl (pv 0) (by rfl)) (pe_fldU (K := K) rfl (pv 1) (by rfl)) (by first | exact nomark _ | rfl)) (pe_and (pe_cmpR (op_eqU rfl hr.units) (pe_fldU (K := K) rfl (pv 0) (by rfl)) (pe_fldU (K := K) rfl (pv 1) (by rfl)) (by first | exact nomark _ | rfl)) (pe_one (pe_cmpR (op_eqU rfl hr.units) (pe_fldU (K := K) rfl (pv 0) (by rfl)) (pe_fldU (K := K) rfl (pv 1) (by rfl)) (by first | exact nomark _ | rfl)))))))), ?_⟩
    exact body_of0 rfl h fun X hd => (dst_ret (de_andV (de_isI (isi_MixClash T) (db_var 1)) (de_andV (dg_op od_eq (DEg.bor (de_fld (fld_ok T) (db_var 0))) (DEg.bor (de_fld (fld_ok T) (db_var 1)))) (de_andV (dg_op od_eq (DEg.bor (de_fld (fld_ok T) (db_var 0))) (DEg.bor (de_fld (fld_ok T) (db_var 1)))) (dg_op od_eq (DEg.bor (de_fld (fld_ok T) (db_var 0))) (DEg.bor (de_fld (fld_ok T) (db_var 1))))))))
end Mine

namespace Mine
open PySem PySem.Spec PyProof.Rows L2
theorem ok_Uneven___eq {P : Program} {w : World} {K : PySem.W.Frag} {mg : Str → Option Value} {base : Heap} (T : Txt K mg) : ∃ fd, FnOk P w K mg base CX0 1 (He.ma K (He.ga K "Uneven") "__eq__") fd P_Uneven___eq (spD K F_Uneven___eq) ∧ D_Uneven___eq K (He.ma K (He.ga K "Uneven") "__eq__") fd := by
  obtain ⟨fd, F⟩ := T.F_Uneven___eq
  refine ⟨fd, F.ok sc_Uneven___eq (fun vs H Q E h => ?_) (fun cdv A outer s H vs Q E hr h => ?_), F⟩
  · rw [F_Uneven___eq_eq] at h
    exact spD_len (np := 2) (fun _ _ _ h => h.1) vs H Q E h
  · rw [F_Uneven___eq_eq] at h
    refine ⟨_, PSs.nox (pss_one (ps_ret (pe_and (pe_callB (call_isiU (K := K) rfl) (by rfl) T.z_isinstance (by decide +kernel) (pa_cons (pv 1) (pa_cons (pe_glob (v := .ref (He.ga _ "Uneven")) rfl T.g_Uneven rfl) pa_nil))) (pe_and (pe_cmpR (op_eqU rfl hr.units) (pe_fldU (K := K) rfl (pv 0) (by rfl)) (pe_fldU (K := K) rfl (pv 1) (by rfl)) (by first | exact nomark _ | rfl)) (pe_one (pe_cmpR (op_eqU rfl hr.units) (pe_fldU (K := K) rfl (pv 0) (by rfl)) (pe_fldU (K := K) rfl (pv 1) (by rfl)) (by first | exact nomark _ | rfl))))))), ?_⟩
    exact body_of0 rfl h fun X hd => (dst_ret (de_andV (de_isI (isi_Uneven T) (db_var 1)) (de_andV (dg_op od_eq (DEg.bor (de_fld (fld_ok T) (db_var 0))) (DEg.bor (de_fld (fld_ok T) (db_var 1)))) (dg_op od_eq (DEg.bor (de_fld (fld_ok T) (db_var 0))) (DEg.bor (de_fld (fld_ok T) (db_var 1)))))))
end Mine

namespace Mine
open PySem PySem.Spec PyProof.Rows L2
theorem ok_SumsClash___eq {P : Program} {w : World} {K : PySem.W.Frag} {mg : Str → Option Value} {base : Heap} (T : Txt K mg) : ∃ fd, FnOk P w K mg base CX0 1 (He.ma K (He.ga K "SumsClash") "__eq__") fd P_SumsClash___eq (spD K F_SumsClash___eq) ∧ D_SumsClash___eq K (He.ma K (He.ga K "SumsClash") "__eq__") fd := by
  obtain ⟨fd, F⟩ := T.F_SumsClash___eq
  refine ⟨fd, F.ok sc_SumsClash___eq (fun vs H Q E h => ?_) (fun cdv A outer s H vs Q E hr h => ?_), F⟩
  · rw [F_SumsClash___eq_eq] at h
    exact spD_len (np := 2) (fun _ _ _ h => h.1) vs H Q E h
  · rw [F_SumsClash___eq_eq] at h
    refine ⟨_, PSs.nox (pss_one (ps_ret (pe_and (pe_callB (call_isiU (K := K) rfl) (by rfl) T.z_isinstance (by decide +kernel) (pa_cons (pv 1) (pa_cons (pe_glob (v := .ref (He.ga _ "SumsClash")) rfl T.g_SumsClash rfl) pa_nil))) (pe_and (pe_cmpR (op_eqU rfl hr.units) (pe_fldU (K := K) rfl (pv 0) (by rfl)) (pe_fldU (K := K) rfl (pv 1) (by rfl)) (by first | exact nomark _ | rfl)) (pe_one (pe_cmpR (op_eqU rfl hr.units) (pe_fldU (K := K) rfl (pv 0) (by rfl)) (pe_fldU (K := K) rfl (pv 1) (by rfl)) (by first | exact nomark _ | rfl))))))), ?_⟩
    exact body_of0 rfl h fun X hd => (dst_ret (de_andV (de_isI (isi_SumsClash T) (db_var 1)) (de_andV (dg_op od_eq (DEg.bor (de_fld (fld_ok T) (db_var 0))) (DEg.bor (de_fld (fld_ok T) (db_var 1)))) (dg_op od_eq (DEg.bor (de_fld (fld_ok T) (db_var 0))) (DEg.bor (de_fld (fld_ok T) (db_var 1)))))))
end Mine

namespace Mine
open PySem PySem.Spec PyProof.Rows L2
theorem ok_TooClose___eq {P : Program} {w : World} {K : PySem.W.Frag} {mg : Str → Option Value} {base : Heap} (T : Txt K mg) : ∃ fd, FnOk P w K mg base CX0 1 (He.ma K (He.ga K "TooClose") "__eq__") fd P_TooClose___eq (spD K F_TooClose___eq) ∧ D_TooClose___eq K (He.ma K (He.ga K "TooClose") "__eq__") fd := by
  obtain ⟨fd, F⟩ := T.F_TooClose___eq
  refine ⟨fd, F.ok sc_TooClose___eq (fun vs H Q E h => ?_) (fun cdv A outer s H vs Q E hr h => ?_), F⟩
  · rw [F_TooClose___eq_eq] at h
    exact spD_len (np := 2) (fun _ _ _ h => h.1) vs H Q E h
  · rw [F_TooClose___eq_eq] at h
    refine ⟨_, PSs.nox (pss_one (ps_ret (pe_and (pe_callB (call_isiU (K := K) rfl) (by rfl) T.z_isinstance (by decide +kernel) (pa_cons (pv 1) (pa_cons (pe_glob (v := .ref (He.ga _ "TooClose")) rfl T.g_TooClose rfl) pa_nil))) (pe_and (pe_cmpR (op_eqU rfl hr.units) (pe_fldU (K := K) rfl (pv 0) (by rfl)) (pe_fldU (K := K) rfl (pv 1) (by rfl)) (by first | exact nomark _ | rfl)) (pe_one (pe_cmpR (op_eqU rfl hr.units) (pe_fldU (K := K) rfl (pv 0) (by rfl)) (pe_fldU (K := K) rfl (pv 1) (by rfl)) (by first | exact nomark _ | rfl))))))), ?_⟩
    exact body_of0 rfl h fun X hd => (dst_ret (de_andV (de_isI (isi_TooClose T) (db_var 1)) (de_andV (dg_op od_eq (DEg.bor (de_fld (fld_ok T) (db_var 0))) (DEg.bor (de_fld (fld_ok T) (db_var 1)))) (dg_op od_eq (DEg.bor (de_fld (fld_ok T) (db_var 0))) (DEg.bor (de_fld (fld_ok T) (db_var 1)))))))
end Mine

namespace Mine
open PySem PySem.Spec PyProof.Rows L2
theorem ok_Read___eq {P : Program} {w : World} {K : PySem.W.Frag} {mg : Str → Option Value} {base : Heap} (T : Txt K mg) : ∃ fd, FnOk P w K mg base CX0 1 (He.ma K (He.ga K "Read") "__eq__") fd P_Read___eq (spD K F_Read___eq) ∧ D_Read___eq K (He.ma K (He.ga K "Read") "__eq__") fd := by
  obtain ⟨fd, F⟩ := T.F_Read___eq
  refine ⟨fd, F.ok sc_Read___eq (fun vs H Q E h => ?_) (fun cdv A outer s H vs Q E hr h => ?_), F⟩
  · rw [F_Read___eq_eq] at h
    exact spD_len (np := 2) (fun _ _ _ h => h.1) vs H Q E h
  · rw [F_Read___eq_eq] at h
    refine ⟨_, PSs.nox (pss_one (ps_ret (pe_and (pe_callB (call_isiU (K := K) rfl) (by rfl) T.z_isinstance (by decide +kernel) (pa_cons (pv 1) (pa_cons (pe_glob (v := .ref (He.ga _ "Read")) rfl T.g_Read rfl) pa_nil))) (pe_and (pe_cmpR (op_eqU rfl hr.units) (pe_fldU (K := K) rfl (pv 0) (by rfl)) (pe_fldU (K := K) rfl (pv 1) (by rfl)) (by first | exact nomark _ | rfl)) (pe_one (pe_cmpR (op_eqU rfl hr.units) (pe_fldU (K := K) rfl (pv 0) (by rfl)) (pe_fldU (K := K) rfl (pv 1) (by rfl)) (by first | exact nomark _ | rfl))))))), ?_⟩
    exact body_of0 rfl h fun X hd => (dst_ret (de_andV (de_isI (isi_Read T) (db_var 1)) (de_andV (dg_op od_eq (DEg.bor (de_fld (fld_ok T) (db_var 0))) (DEg.bor (de_fld (fld_ok T) (db_var 1)))) (dg_op od_eq (DEg.bor (de_fld (fld_ok T) (db_var 0))) (DEg.bor (de_fld (fld_ok T) (db_var 1)))))))
end Mine

namespace Mine
open PySem PySem.Spec PyProof.Rows L2
theorem eqc {P : Program} {w : World} {K : PySem.W.Frag} {mg : Str → Option Value} {base : Heap} (T : Txt K mg) : ∀ C sp, okE K tabE C sp → EqC P w K mg base 1 C sp := by
  rintro C sp ⟨c, F, h, rfl, rfl⟩
  unfold tabE tabN at h
  by_cases e : c = "NearPair"
  · rw [if_pos e] at h; subst e; have h : some F_NearPair___eq = some F := h; cases h; obtain ⟨fd, G, D⟩ := ok_NearPair___eq (P := P) (w := w) (base := base) T; exact ⟨_, fd, _, G, T.b_NearPair_is___eq__.at_, T.b_NearPair_is___eq__.fn, bd_NearPair___eq D⟩
  rw [if_neg e] at h; clear e
  by_cases e : c = "Thinned"
  · rw [if_pos e] at h; subst e; have h : some F_Thinned___eq = some F := h; cases h; obtain ⟨fd, G, D⟩ := ok_Thinned___eq (P := P) (w := w) (base := base) T; exact ⟨_, fd, _, G, T.b_Thinned_is___eq__.at_, T.b_Thinned_is___eq__.fn, bd_Thinned___eq D⟩
  rw [if_neg e] at h; clear e
  by_cases e : c = "Web"
  · rw [if_pos e] at h; subst e; have h : some F_Web___eq = some F := h; cases h; obtain ⟨fd, G, D⟩ := ok_Web___eq (P := P) (w := w) (base := base) T; exact ⟨_, fd, _, G, T.b_Web_is___eq__.at_, T.b_Web_is___eq__.fn, bd_Web___eq D⟩
  rw [if_neg e] at h; clear e
  by_cases e : c = "Told"
  · rw [if_pos e] at h; subst e; have h : some F_Told___eq = some F := h; cases h; obtain ⟨fd, G, D⟩ := ok_Told___eq (P := P) (w := w) (base := base) T; exact ⟨_, fd, _, G, T.b_Told_is___eq__.at_, T.b_Told_is___eq__.fn, bd_Told___eq D⟩
  rw [if_neg e] at h; clear e
  by_cases e : c = "Clash"
  · rw [if_pos e] at h; subst e; have h : some F_Clash___eq = some F := h; cases h; obtain ⟨fd, G, D⟩ := ok_Clash___eq (P := P) (w := w) (base := base) T; exact ⟨_, fd, _, G, T.b_Clash_is___eq__.at_, T.b_Clash_is___eq__.fn, bd_Clash___eq D⟩
  rw [if_neg e] at h; clear e
  by_cases e : c = "TwoCuts"
  · rw [if_pos e] at h; subst e; have h : some F_TwoCuts___eq = some F := h; cases h; obtain ⟨fd, G, D⟩ := ok_TwoCuts___eq (P := P) (w := w) (base := base) T; exact ⟨_, fd, _, G, T.b_TwoCuts_is___eq__.at_, T.b_TwoCuts_is___eq__.fn, bd_TwoCuts___eq D⟩
  rw [if_neg e] at h; clear e
  by_cases e : c = "Best"
  · rw [if_pos e] at h; subst e; have h : some F_Best___eq = some F := h; cases h; obtain ⟨fd, G, D⟩ := ok_Best___eq (P := P) (w := w) (base := base) T; exact ⟨_, fd, _, G, T.b_Best_is___eq__.at_, T.b_Best_is___eq__.fn, bd_Best___eq D⟩
  rw [if_neg e] at h; clear e
  by_cases e : c = "RunPair"
  · rw [if_pos e] at h; subst e; have h : some F_RunPair___eq = some F := h; cases h; obtain ⟨fd, G, D⟩ := ok_RunPair___eq (P := P) (w := w) (base := base) T; exact ⟨_, fd, _, G, T.b_RunPair_is___eq__.at_, T.b_RunPair_is___eq__.fn, bd_RunPair___eq D⟩
  rw [if_neg e] at h; clear e
  by_cases e : c = "Tried"
  · rw [if_pos e] at h; subst e; have h : some F_Tried___eq = some F := h; cases h; obtain ⟨fd, G, D⟩ := ok_Tried___eq (P := P) (w := w) (base := base) T; exact ⟨_, fd, _, G, T.b_Tried_is___eq__.at_, T.b_Tried_is___eq__.fn, bd_Tried___eq D⟩
  rw [if_neg e] at h; clear e
  by_cases e : c = "MixClash"
  · rw [if_pos e] at h; subst e; have h : some F_MixClash___eq = some F := h; cases h; obtain ⟨fd, G, D⟩ := ok_MixClash___eq (P := P) (w := w) (base := base) T; exact ⟨_, fd, _, G, T.b_MixClash_is___eq__.at_, T.b_MixClash_is___eq__.fn, bd_MixClash___eq D⟩
  rw [if_neg e] at h; clear e
  by_cases e : c = "Uneven"
  · rw [if_pos e] at h; subst e; have h : some F_Uneven___eq = some F := h; cases h; obtain ⟨fd, G, D⟩ := ok_Uneven___eq (P := P) (w := w) (base := base) T; exact ⟨_, fd, _, G, T.b_Uneven_is___eq__.at_, T.b_Uneven_is___eq__.fn, bd_Uneven___eq D⟩
  rw [if_neg e] at h; clear e
  by_cases e : c = "SumsClash"
  · rw [if_pos e] at h; subst e; have h : some F_SumsClash___eq = some F := h; cases h; obtain ⟨fd, G, D⟩ := ok_SumsClash___eq (P := P) (w := w) (base := base) T; exact ⟨_, fd, _, G, T.b_SumsClash_is___eq__.at_, T.b_SumsClash_is___eq__.fn, bd_SumsClash___eq D⟩
  rw [if_neg e] at h; clear e
  by_cases e : c = "TooClose"
  · rw [if_pos e] at h; subst e; have h : some F_TooClose___eq = some F := h; cases h; obtain ⟨fd, G, D⟩ := ok_TooClose___eq (P := P) (w := w) (base := base) T; exact ⟨_, fd, _, G, T.b_TooClose_is___eq__.at_, T.b_TooClose_is___eq__.fn, bd_TooClose___eq D⟩
  rw [if_neg e] at h; clear e
  by_cases e : c = "Read"
  · rw [if_pos e] at h; subst e; have h : some F_Read___eq = some F := h; cases h; obtain ⟨fd, G, D⟩ := ok_Read___eq (P := P) (w := w) (base := base) T; exact ⟨_, fd, _, G, T.b_Read_is___eq__.at_, T.b_Read_is___eq__.fn, bd_Read___eq D⟩
  rw [if_neg e] at h; clear e
  cases h
end Mine

namespace Mine
open PySem PySem.Spec PyProof.Rows L2
theorem ok_NearPair___init {P : Program} {w : World} {K : PySem.W.Frag} {mg : Str → Option Value} {base : Heap} (T : Txt K mg) : ∃ fd, FnOk P w K mg base CX0 1 (He.ma K (He.ga K "NearPair") "__init__") fd P_NearPair___init (spI K "NearPair" F_NearPair___init) ∧ D_NearPair___init K (He.ma K (He.ga K "NearPair") "__init__") fd := by
  obtain ⟨fd, F⟩ := T.F_NearPair___init
  refine ⟨fd, F.ok sc_NearPair___init (fun vs H Q E h => ?_) (fun cdv A outer s H vs Q E hr h => ?_), F⟩
  · rw [F_NearPair___init_eq] at h
    exact spI_len (np := 5) (fun _ _ _ h => h.1) vs H Q E h
  · rw [F_NearPair___init_eq] at h
    refine ⟨_, PSs.nox (pss_cons (ps_fld (pv 0) (pv 1) (by rfl))
    (pss_cons (ps_fld (pv 0) (pv 2) (by rfl))
    (pss_cons (ps_fld (pv 0) (pv 3) (by rfl))
    (pss_one (ps_fld (pv 0) (pv 4) (by rfl)))))), ?_⟩
    exact body_ofI0 rfl h fun H X hd x => (dst_seq (dst_setF (fld_ok T) (de_var 1))
    (dst_seq (dst_setF (fld_ok T) (de_var 2))
    (dst_seq (dst_setF (fld_ok T) (de_var 3))
    (dst_setF (fld_ok T) (de_var 4)))))
end Mine

namespace Mine
open PySem PySem.Spec PyProof.Rows L2
theorem ok_Thinned___init {P : Program} {w : World} {K : PySem.W.Frag} {mg : Str → Option Value} {base : Heap} (T : Txt K mg) : ∃ fd, FnOk P w K mg base CX0 1 (He.ma K (He.ga K "Thinned") "__init__") fd P_Thinned___init (spI K "Thinned" F_Thinned___init) ∧ D_Thinned___init K (He.ma K (He.ga K "Thinned") "__init__") fd := by
  obtain ⟨fd, F⟩ := T.F_Thinned___init
  refine ⟨fd, F.ok sc_Thinned___init (fun vs H Q E h => ?_) (fun cdv A outer s H vs Q E hr h => ?_), F⟩
  · rw [F_Thinned___init_eq] at h
    exact spI_len (np := 3) (fun _ _ _ h => h.1) vs H Q E h
  · rw [F_Thinned___init_eq] at h
    refine ⟨_, PSs.nox (pss_cons (ps_fld (pv 0) (pv 1) (by rfl))
    (pss_one (ps_fld (pv 0) (pv 2) (by rfl)))), ?_⟩
    exact body_ofI0 rfl h fun H X hd x => (dst_seq (dst_setF (fld_ok T) (de_var 1))
    (dst_setF (fld_ok T) (de_var 2)))
end Mine

namespace Mine
open PySem PySem.Spec PyProof.Rows L2
theorem ok_MixClash___init {P : Program} {w : World} {K : PySem.W.Frag} {mg : Str → Option Value} {base : Heap} (T : Txt K mg) : ∃ fd, FnOk P w K mg base CX0 1 (He.ma K (He.ga K "MixClash") "__init__") fd P_MixClash___init (spI K "MixClash" F_MixClash___init) ∧ D_MixClash___init K (He.ma K (He.ga K "MixClash") "__init__") fd := by
  obtain ⟨fd, F⟩ := T.F_MixClash___init
  refine ⟨fd, F.ok sc_MixClash___init (fun vs H Q E h => ?_) (fun cdv A outer s H vs Q E hr h => ?_), F⟩
  · rw [F_MixClash___init_eq] at h
    exact spI_len (np := 4) (fun _ _ _ h => h.1) vs H Q E h
  · rw [F_MixClash___init_eq] at h
    refine ⟨_, PSs.nox (pss_cons (ps_fld (pv 0) (pv 1) (by rfl))
    (pss_cons (ps_fld (pv 0) (pv 2) (by rfl))
    (pss_one (ps_fld (pv 0) (pv 3) (by rfl))))), ?_⟩
    exact body_ofI0 rfl h fun H X hd x => (dst_seq (dst_setF (fld_ok T) (de_var 1))
    (dst_seq (dst_setF (fld_ok T) (de_var 2))
    (dst_setF (fld_ok T) (de_var 3))))
end Mine

namespace Mine
open PySem PySem.Spec PyProof.Rows L2
theorem ok_Uneven___init {P : Program} {w : World} {K : PySem.W.Frag} {mg : Str → Option Value} {base : Heap} (T : Txt K mg) : ∃ fd, FnOk P w K mg base CX0 1 (He.ma K (He.ga K "Uneven") "__init__") fd P_Uneven___init (spI K "Uneven" F_Uneven___init) ∧ D_Uneven___init K (He.ma K (He.ga K "Uneven") "__init__") fd := by
  obtain ⟨fd, F⟩ := T.F_Uneven___init
  refine ⟨fd, F.ok sc_Uneven___init (fun vs H Q E h => ?_) (fun cdv A outer s H vs Q E hr h => ?_), F⟩
  · rw [F_Uneven___init_eq] at h
    exact spI_len (np := 3) (fun _ _ _ h => h.1) vs H Q E h
  · rw [F_Uneven___init_eq] at h
    refine ⟨_, PSs.nox (pss_cons (ps_fld (pv 0) (pv 1) (by rfl))
    (pss_one (ps_fld (pv 0) (pv 2) (by rfl)))), ?_⟩
    exact body_ofI0 rfl h fun H X hd x => (dst_seq (dst_setF (fld_ok T) (de_var 1))
    (dst_setF (fld_ok T) (de_var 2)))
end Mine

namespace Mine
open PySem PySem.Spec PyProof.Rows L2
theorem ok_Read___init {P : Program} {w : World} {K : PySem.W.Frag} {mg : Str → Option Value} {base : Heap} (T : Txt K mg) : ∃ fd, FnOk P w K mg base CX0 1 (He.ma K (He.ga K "Read") "__init__") fd P_Read___init (spI K "Read" F_Read___init) ∧ D_Read___init K (He.ma K (He.ga K "Read") "__init__") fd := by
  obtain ⟨fd, F⟩ := T.F_Read___init
  refine ⟨fd, F.ok sc_Read___init (fun vs H Q E h => ?_) (fun cdv A outer s H vs Q E hr h => ?_), F⟩
  · rw [F_Read___init_eq] at h
    exact spI_len (np := 3) (fun _ _ _ h => h.1) vs H Q E h
  · rw [F_Read___init_eq] at h
    refine ⟨_, PSs.nox (pss_cons (ps_fld (pv 0) (pv 1) (by rfl))
    (pss_one (ps_fld (pv 0) (pv 2) (by rfl)))), ?_⟩
    exact body_ofI0 rfl h fun H X hd x => (dst_seq (dst_setF (fld_ok T) (de_var 1))
    (dst_setF (fld_ok T) (de_var 2)))
end Mine

namespace Mine
open PySem PySem.Spec PyProof.Rows L2
theorem ok_TooClose___init {P : Program} {w : World} {K : PySem.W.Frag} {mg : Str → Option Value} {base : Heap} (T : Txt K mg) : ∃ fd, FnOk P w K mg base CX0 1 (He.ma K (He.ga K "TooClose") "__init__") fd P_TooClose___init (spI K "TooClose" F_TooClose___init) ∧ D_TooClose___init K (He.ma K (He.ga K "TooClose") "__init__") fd := by
  obtain ⟨fd, F⟩ := T.F_TooClose___init
  refine ⟨fd, F.ok sc_TooClose___init (fun vs H Q E h => ?_) (fun cdv A outer s H vs Q E hr h => ?_), F⟩
  · rw [F_TooClose___init_eq] at h
    exact spI_len (np := 3) (fun _ _ _ h => h.1) vs H Q E h
  · rw [F_TooClose___init_eq] at h
    refine ⟨_, PSs.nox (pss_cons (ps_fld (pv 0) (pv 1) (by rfl))
    (pss_one (ps_fld (pv 0) (pv 2) (by rfl)))), ?_⟩
    exact body_ofI0 rfl h fun H X hd x => (dst_seq (dst_setF (fld_ok T) (de_var 1))
    (dst_setF (fld_ok T) (de_var 2)))
end Mine

namespace Mine
open PySem PySem.Spec PyProof.Rows L2
theorem ok_RunPair___init {P : Program} {w : World} {K : PySem.W.Frag} {mg : Str → Option Value} {base : Heap} (T : Txt K mg) : ∃ fd, FnOk P w K mg base CX0 1 (He.ma K (He.ga K "RunPair") "__init__") fd P_RunPair___init (spI K "RunPair" F_RunPair___init) ∧ D_RunPair___init K (He.ma K (He.ga K "RunPair") "__init__") fd := by
  obtain ⟨fd, F⟩ := T.F_RunPair___init
  refine ⟨fd, F.ok sc_RunPair___init (fun vs H Q E h => ?_) (fun cdv A outer s H vs Q E hr h => ?_), F⟩
  · rw [F_RunPair___init_eq] at h
    exact spI_len (np := 6) (fun _ _ _ h => h.1) vs H Q E h
  · rw [F_RunPair___init_eq] at h
    refine ⟨_, PSs.nox (pss_cons (ps_fld (pv 0) (pv 1) (by rfl))
    (pss_cons (ps_fld (pv 0) (pv 2) (by rfl))
    (pss_cons (ps_fld (pv 0) (pv 3) (by rfl))
    (pss_cons (ps_fld (pv 0) (pv 4) (by rfl))
    (pss_one (ps_fld (pv 0) (pv 5) (by rfl))))))), ?_⟩
    exact body_ofI0 rfl h fun H X hd x => (dst_seq (dst_setF (fld_ok T) (de_var 1))
    (dst_seq (dst_setF (fld_ok T) (de_var 2))
    (dst_seq (dst_setF (fld_ok T) (de_var 3))
    (dst_seq (dst_setF (fld_ok T) (de_var 4))
    (dst_setF (fld_ok T) (de_var 5))))))
end Mine

namespace Mine
open PySem PySem.Spec PyProof.Rows L2
theorem ok_SumsClash___init {P : Program} {w : World} {K : PySem.W.Frag} {mg : Str → Option Value} {base : Heap} (T : Txt K mg) : ∃ fd, FnOk P w K mg base CX0 1 (He.ma K (He.ga K "SumsClash") "__init__") fd P_SumsClash___init (spI K "SumsClash" F_SumsClash___init) ∧ D_SumsClash___init K (He.ma K (He.ga K "SumsClash") "__init__") fd := by
  obtain ⟨fd, F⟩ := T.F_SumsClash___init
  refine ⟨fd, F.ok sc_SumsClash___init (fun vs H Q E h => ?_) (fun cdv A outer s H vs Q E hr h => ?_), F⟩
  · rw [F_SumsClash___init_eq] at h
    exact spI_len (np := 3) (fun _ _ _ h => h.1) vs H Q E h
  · rw [F_SumsClash___init_eq] at h
    refine ⟨_, PSs.nox (pss_cons (ps_fld (pv 0) (pv 1) (by rfl))
    (pss_one (ps_fld (pv 0) (pv 2) (by rfl)))), ?_⟩
    exact body_ofI0 rfl h fun H X hd x => (dst_seq (dst_setF (fld_ok T) (de_var 1))
    (dst_setF (fld_ok T) (de_var 2)))
end Mine

namespace Mine
open PySem PySem.Spec PyProof.Rows L2
theorem ok_Web___init {P : Program} {w : World} {K : PySem.W.Frag} {mg : Str → Option Value} {base : Heap} (T : Txt K mg) : ∃ fd, FnOk P w K mg base CX0 1 (He.ma K (He.ga K "Web") "__init__") fd P_Web___init (spI K "Web" F_Web___init) ∧ D_Web___init K (He.ma K (He.ga K "Web") "__init__") fd := by
  obtain ⟨fd, F⟩ := T.F_Web___init
  refine ⟨fd, F.ok sc_Web___init (fun vs H Q E h => ?_) (fun cdv A outer s H vs Q E hr h => ?_), F⟩
  · rw [F_Web___init_eq] at h
    exact spI_len (np := 4) (fun _ _ _ h => h.1) vs H Q E h
  · rw [F_Web___init_eq] at h
    refine ⟨_, PSs.nox (pss_cons (ps_fld (pv 0) (pv 1) (by rfl))
    (pss_cons (ps_fld (pv 0) (pv 2) (by rfl))
    (pss_one (ps_fld (pv 0) (pv 3) (by rfl))))), ?_⟩
    exact body_ofI0 rfl h fun H X hd x => (dst_seq (dst_setF (fld_ok T) (de_var 1))
    (dst_seq (dst_setF (fld_ok T) (de_var 2))
    (dst_setF (fld_ok T) (de_var 3))))
end Mine

namespace Mine
open PySem PySem.Spec PyProof.Rows L2
theorem ok_Told___init {P : Program} {w : World} {K : PySem.W.Frag} {mg : Str → Option Value} {base : Heap} (T : Txt K mg) : ∃ fd, FnOk P w K mg base CX0 1 (He.ma K (He.ga K "Told") "__init__") fd P_Told___init (spI K "Told" F_Told___init) ∧ D_Told___init K (He.ma K (He.ga K "Told") "__init__") fd := by
  obtain ⟨fd, F⟩ := T.F_Told___init
  refine ⟨fd, F.ok sc_Told___init (fun vs H Q E h => ?_) (fun cdv A outer s H vs Q E hr h => ?_), F⟩
  · rw [F_Told___init_eq] at h
    exact spI_len (np := 4) (fun _ _ _ h => h.1) vs H Q E h
  · rw [F_Told___init_eq] at h
    refine ⟨_, PSs.nox (pss_cons (ps_fld (pv 0) (pv 1) (by rfl))
    (pss_cons (ps_fld (pv 0) (pv 2) (by rfl))
    (pss_one (ps_fld (pv 0) (pv 3) (by rfl))))), ?_⟩
    exact body_ofI0 rfl h fun H X hd x => (dst_seq (dst_setF (fld_ok T) (de_var 1))
    (dst_seq (dst_setF (fld_ok T) (de_var 2))
    (dst_setF (fld_ok T) (de_var 3))))
end Mine

namespace Mine
open PySem PySem.Spec PyProof.Rows L2
theorem ok_Clash___init {P : Program} {w : World} {K : PySem.W.Frag} {mg : Str → Option Value} {base : Heap} (T : Txt K mg) : ∃ fd, FnOk P w K mg base CX0 1 (He.ma K (He.ga K "Clash") "__init__") fd P_Clash___init (spI K "Clash" F_Clash___init) ∧ D_Clash___init K (He.ma K (He.ga K "Clash") "__init__") fd := by
  obtain ⟨fd, F⟩ := T.F_Clash___init
  refine ⟨fd, F.ok sc_Clash___init (fun vs H Q E h => ?_) (fun cdv A outer s H vs Q E hr h => ?_), F⟩
  · rw [F_Clash___init_eq] at h
    exact spI_len (np := 3) (fun _ _ _ h => h.1) vs H Q E h
  · rw [F_Clash___init_eq] at h
    refine ⟨_, PSs.nox (pss_cons (ps_fld (pv 0) (pv 1) (by rfl))
    (pss_one (ps_fld (pv 0) (pv 2) (by rfl)))), ?_⟩
    exact body_ofI0 rfl h fun H X hd x => (dst_seq (dst_setF (fld_ok T) (de_var 1))
    (dst_setF (fld_ok T) (de_var 2)))
end Mine

namespace Mine
open PySem PySem.Spec PyProof.Rows L2
theorem ok_TwoCuts___init {P : Program} {w : World} {K : PySem.W.Frag} {mg : Str → Option Value} {base : Heap} (T : Txt K mg) : ∃ fd, FnOk P w K mg base CX0 1 (He.ma K (He.ga K "TwoCuts") "__init__") fd P_TwoCuts___init (spI K "TwoCuts" F_TwoCuts___init) ∧ D_TwoCuts___init K (He.ma K (He.ga K "TwoCuts") "__init__") fd := by
  obtain ⟨fd, F⟩ := T.F_TwoCuts___init
  refine ⟨fd, F.ok sc_TwoCuts___init (fun vs H Q E h => ?_) (fun cdv A outer s H vs Q E hr h => ?_), F⟩
  · rw [F_TwoCuts___init_eq] at h
    exact spI_len (np := 3) (fun _ _ _ h => h.1) vs H Q E h
  · rw [F_TwoCuts___init_eq] at h
    refine ⟨_, PSs.nox (pss_cons (ps_fld (pv 0) (pv 1) (by rfl))
    (pss_one (ps_fld (pv 0) (pv 2) (by rfl)))), ?_⟩
    exact body_ofI0 rfl h fun H X hd x => (dst_seq (dst_setF (fld_ok T) (de_var 1))
    (dst_setF (fld_ok T) (de_var 2)))
end Mine

namespace Mine
open PySem PySem.Spec PyProof.Rows L2
theorem ok_Best___init {P : Program} {w : World} {K : PySem.W.Frag} {mg : Str → Option Value} {base : Heap} (T : Txt K mg) : ∃ fd, FnOk P w K mg base CX0 1 (He.ma K (He.ga K "Best") "__init__") fd P_Best___init (spI K "Best" F_Best___init) ∧ D_Best___init K (He.ma K (He.ga K "Best") "__init__") fd := by
  obtain ⟨fd, F⟩ := T.F_Best___init
  refine ⟨fd, F.ok sc_Best___init (fun vs H Q E h => ?_) (fun cdv A outer s H vs Q E hr h => ?_), F⟩
  · rw [F_Best___init_eq] at h
    exact spI_len (np := 3) (fun _ _ _ h => h.1) vs H Q E h
  · rw [F_Best___init_eq] at h
    refine ⟨_, PSs.nox (pss_cons (ps_fld (pv 0) (pv 1) (by rfl))
    (pss_one (ps_fld (pv 0) (pv 2) (by rfl)))), ?_⟩
    exact body_ofI0 rfl h fun H X hd x => (dst_seq (dst_setF (fld_ok T) (de_var 1))
    (dst_setF (fld_ok T) (de_var 2)))
end Mine

namespace Mine
open PySem PySem.Spec PyProof.Rows L2
theorem ok_Tried___init {P : Program} {w : World} {K : PySem.W.Frag} {mg : Str → Option Value} {base : Heap} (T : Txt K mg) : ∃ fd, FnOk P w K mg base CX0 1 (He.ma K (He.ga K "Tried") "__init__") fd P_Tried___init (spI K "Tried" F_Tried___init) ∧ D_Tried___init K (He.ma K (He.ga K "Tried") "__init__") fd := by
  obtain ⟨fd, F⟩ := T.F_Tried___init
  refine ⟨fd, F.ok sc_Tried___init (fun vs H Q E h => ?_) (fun cdv A outer s H vs Q E hr h => ?_), F⟩
  · rw [F_Tried___init_eq] at h
    exact spI_len (np := 6) (fun _ _ _ h => h.1) vs H Q E h
  · rw [F_Tried___init_eq] at h
    refine ⟨_, PSs.nox (pss_cons (ps_fld (pv 0) (pv 1) (by rfl))
    (pss_cons (ps_fld (pv 0) (pv 2) (by rfl))
    (pss_cons (ps_fld (pv 0) (pv 3) (by rfl))
    (pss_cons (ps_fld (pv 0) (pv 4) (by rfl))
    (pss_one (ps_fld (pv 0) (pv 5) (by rfl))))))), ?_⟩
    exact body_ofI0 rfl h fun H X hd x => (dst_seq (dst_setF (fld_ok T) (de_var 1))
    (dst_seq (dst_setF (fld_ok T) (de_var 2))
    (dst_seq (dst_setF (fld_ok T) (de_var 3))
    (dst_seq (dst_setF (fld_ok T) (de_var 4))
    (dst_setF (fld_ok T) (de_var 5))))))
end Mine

namespace Mine
open PySem PySem.Spec PyProof.Rows L2
theorem ok_law_made {P : Program} {w : World} {K : PySem.W.Frag} {mg : Str → Option Value} {base : Heap} (T : Txt K mg) : ∃ fd, FnOk P w K mg base CX0 3 (He.ga K "_law_made") fd P_law_made (spD K F_law_made) ∧ D_law_made K (He.ga K "_law_made") fd := by
  obtain ⟨fd, F⟩ := T.F_law_made
  obtain ⟨fd_NearPair___init, G_NearPair___init, D_NearPair___init⟩ := ok_NearPair___init (P := P) (w := w) (base := base) T
  have k_NearPair___init := D_NearPair___init.kp
  have b_NearPair___init := bd_NearPair___init D_NearPair___init
  obtain ⟨fd_Thinned___init, G_Thinned___init, D_Thinned___init⟩ := ok_Thinned___init (P := P) (w := w) (base := base) T
  have k_Thinned___init := D_Thinned___init.kp
  have b_Thinned___init := bd_Thinned___init D_Thinned___init
  obtain ⟨fd_MixClash___init, G_MixClash___init, D_MixClash___init⟩ := ok_MixClash___init (P := P) (w := w) (base := base) T
  have k_MixClash___init := D_MixClash___init.kp
  have b_MixClash___init := bd_MixClash___init D_MixClash___init
  obtain ⟨fd_Uneven___init, G_Uneven___init, D_Uneven___init⟩ := ok_Uneven___init (P := P) (w := w) (base := base) T
  have k_Uneven___init := D_Uneven___init.kp
  have b_Uneven___init := bd_Uneven___init D_Uneven___init
  obtain ⟨fd_Read___init, G_Read___init, D_Read___init⟩ := ok_Read___init (P := P) (w := w) (base := base) T
  have k_Read___init := D_Read___init.kp
  have b_Read___init := bd_Read___init D_Read___init
  obtain ⟨fd_TooClose___init, G_TooClose___init, D_TooClose___init⟩ := ok_TooClose___init (P := P) (w := w) (base := base) T
  have k_TooClose___init := D_TooClose___init.kp
  have b_TooClose___init := bd_TooClose___init D_TooClose___init
  obtain ⟨fd_RunPair___init, G_RunPair___init, D_RunPair___init⟩ := ok_RunPair___init (P := P) (w := w) (base := base) T
  have k_RunPair___init := D_RunPair___init.kp
  have b_RunPair___init := bd_RunPair___init D_RunPair___init
  obtain ⟨fd_SumsClash___init, G_SumsClash___init, D_SumsClash___init⟩ := ok_SumsClash___init (P := P) (w := w) (base := base) T
  have k_SumsClash___init := D_SumsClash___init.kp
  have b_SumsClash___init := bd_SumsClash___init D_SumsClash___init
  obtain ⟨fd_Web___init, G_Web___init, D_Web___init⟩ := ok_Web___init (P := P) (w := w) (base := base) T
  have k_Web___init := D_Web___init.kp
  have b_Web___init := bd_Web___init D_Web___init
  obtain ⟨fd_Told___init, G_Told___init, D_Told___init⟩ := ok_Told___init (P := P) (w := w) (base := base) T
  have k_Told___init := D_Told___init.kp
  have b_Told___init := bd_Told___init D_Told___init
  obtain ⟨fd_Clash___init, G_Clash___init, D_Clash___init⟩ := ok_Clash___init (P := P) (w := w) (base := base) T
  have k_Clash___init := D_Clash___init.kp
  have b_Clash___init := bd_Clash___init D_Clash___init
  obtain ⟨fd_TwoCuts___init, G_TwoCuts___init, D_TwoCuts___init⟩ := ok_TwoCuts___init (P := P) (w := w) (base := base) T
  have k_TwoCuts___init := D_TwoCuts___init.kp
  have b_TwoCuts___init := bd_TwoCuts___init D_TwoCuts___init
  obtain ⟨fd_Best___init, G_Best___init, D_Best___init⟩ := ok_Best___init (P := P) (w := w) (base := base) T
  have k_Best___init := D_Best___init.kp
  have b_Best___init := bd_Best___init D_Best___init
  obtain ⟨fd_Tried___init, G_Tried___init, D_Tried___init⟩ := ok_Tried___init (P := P) (w := w) (base := base) T
  have k_Tried___init := D_Tried___init.kp
  have b_Tried___init := bd_Tried___init D_Tried___init
  refine ⟨fd, F.ok sc_law_made (fun vs H Q E h => ?_) (fun cdv A outer s H vs Q E hr h => ?_), F⟩
  · rw [F_law_made_eq] at h
    exact spD_len (np := 1) (fun _ _ _ h => h.1) vs H Q E h
  · rw [F_law_made_eq] at h
    refine ⟨_, PSs.nox (pss_cons (ps_set (i := 1) sc_law_made.nd rfl (by first | exact Or.inl rfl | exact Or.inr rfl) (pe_lst pa_nil))
    (pss_cons (ps_expr (pe_bm PySem.F.plainAttrs_list PySem.F.slot_list_append PySem.F.type_list_append mt_append (pv 1) (pa_cons (pe_make T.r_NearPair G_NearPair___init (hr.mono (by decide)) rfl T.g_NearPair b_NearPair___init .nil pass0 (pa_cons (pe_ix (ix_U (K := K) rfl) (pv 0) pe_int (fun _ _ => rfl)) (pa_cons (pe_ix (ix_U (K := K) rfl) (pv 0) pe_int (fun _ _ => rfl)) (pa_cons (pe_ix (ix_U (K := K) rfl) (pv 0) pe_int (fun _ _ => rfl)) (pa_cons (pe_ix (ix_U (K := K) rfl) (pv 0) pe_int (fun _ _ => rfl)) pa_nil))))) pa_nil)))
    (pss_cons (ps_expr (pe_bm PySem.F.plainAttrs_list PySem.F.slot_list_append PySem.F.type_list_append mt_append (pv 1) (pa_cons (pe_make T.r_Thinned G_Thinned___init (hr.mono (by decide)) rfl T.g_Thinned b_Thinned___init .nil pass0 (pa_cons (pe_ix (ix_U (K := K) rfl) (pv 0) pe_int (fun _ _ => rfl)) (pa_cons (pe_ix (ix_U (K := K) rfl) (pv 0) pe_int (fun _ _ => rfl)) pa_nil))) pa_nil)))
    (pss_cons (ps_expr (pe_bm PySem.F.plainAttrs_list PySem.F.slot_list_append PySem.F.type_list_append mt_append (pv 1) (pa_cons (pe_make T.r_MixClash G_MixClash___init (hr.mono (by decide)) rfl T.g_MixClash b_MixClash___init .nil pass0 (pa_cons (pe_ix (ix_U (K := K) rfl) (pv 0) pe_int (fun _ _ => rfl)) (pa_cons (pe_ix (ix_U (K := K) rfl) (pv 0) pe_int (fun _ _ => rfl)) (pa_cons (pe_ix (ix_U (K := K) rfl) (pv 0) pe_int (fun _ _ => rfl)) pa_nil)))) pa_nil)))
    (pss_cons (ps_expr (pe_bm PySem.F.plainAttrs_list PySem.F.slot_list_append PySem.F.type_list_append mt_append (pv 1) (pa_cons (pe_make T.r_Uneven G_Uneven___init (hr.mono (by decide)) rfl T.g_Uneven b_Uneven___init .nil pass0 (pa_cons (pe_ix (ix_U (K := K) rfl) (pv 0) pe_int (fun _ _ => rfl)) (pa_cons (pe_ix (ix_U (K := K) rfl) (pv 0) pe_int (fun _ _ => rfl)) pa_nil))) pa_nil)))
    (pss_cons (ps_expr (pe_bm PySem.F.plainAttrs_list PySem.F.slot_list_append PySem.F.type_list_append mt_append (pv 1) (pa_cons (pe_make T.r_Read G_Read___init (hr.mono (by decide)) rfl T.g_Read b_Read___init .nil pass0 (pa_cons (pe_ix (ix_U (K := K) rfl) (pv 0) pe_int (fun _ _ => rfl)) (pa_cons (pe_ix (ix_U (K := K) rfl) (pv 0) pe_int (fun _ _ => rfl)) pa_nil))) pa_nil)))
    (pss_cons (ps_expr (pe_bm PySem.F.plainAttrs_list PySem.F.slot_list_append PySem.F.type_list_append mt_append (pv 1) (pa_cons (pe_make T.r_TooClose G_TooClose___init (hr.mono (by decide)) rfl T.g_TooClose b_TooClose___init .nil pass0 (pa_cons (pe_ix (ix_U (K := K) rfl) (pv 0) pe_int (fun _ _ => rfl)) (pa_cons (pe_ix (ix_U (K := K) rfl) (pv 0) pe_int (fun _ _ => rfl)) pa_nil))) pa_nil)))
    (pss_cons (ps_expr (pe_bm PySem.F.plainAttrs_list PySem.F.slot_list_append PySem.F.type_list_append mt_append (pv 1) (pa_cons (pe_make T.r_RunPair G_RunPair___init (hr.mono (by decide)) rfl T.g_RunPair b_RunPair___init .nil pass0 (pa_cons (pe_ix (ix_U (K := K) rfl) (pv 0) pe_int (fun _ _ => rfl)) (pa_cons (pe_ix (ix_U (K := K) rfl) (pv 0) pe_int (fun _ _ => rfl)) (pa_cons (pe_ix (ix_U (K := K) rfl) (pv 0) pe_int (fun _ _ => rfl)) (pa_cons (pe_ix (ix_U (K := K) rfl) (pv 0) pe_int (fun _ _ => rfl)) (pa_cons (pe_ix (ix_U (K := K) rfl) (pv 0) pe_int (fun _ _ => rfl)) pa_nil)))))) pa_nil)))
    (pss_cons (ps_expr (pe_bm PySem.F.plainAttrs_list PySem.F.slot_list_append PySem.F.type_list_append mt_append (pv 1) (pa_cons (pe_make T.r_SumsClash G_SumsClash___init (hr.mono (by decide)) rfl T.g_SumsClash b_SumsClash___init .nil pass0 (pa_cons (pe_ix (ix_U (K := K) rfl) (pv 0) pe_int (fun _ _ => rfl)) (pa_cons (pe_ix (ix_U (K := K) rfl) (pv 0) pe_int (fun _ _ => rfl)) pa_nil))) pa_nil)))
    (pss_cons (ps_expr (pe_bm PySem.F.plainAttrs_list PySem.F.slot_list_append PySem.F.type_list_append mt_append (pv 1) (pa_cons (pe_make T.r_Web G_Web___init (hr.mono (by decide)) rfl T.g_Web b_Web___init .nil pass0 (pa_cons (pe_ix (ix_U (K := K) rfl) (pv 0) pe_int (fun _ _ => rfl)) (pa_cons (pe_ix (ix_U (K := K) rfl) (pv 0) pe_int (fun _ _ => rfl)) (pa_cons (pe_ix (ix_U (K := K) rfl) (pv 0) pe_int (fun _ _ => rfl)) pa_nil)))) pa_nil)))
    (pss_cons (ps_expr (pe_bm PySem.F.plainAttrs_list PySem.F.slot_list_append PySem.F.type_list_append mt_append (pv 1) (pa_cons (pe_make T.r_Told G_Told___init (hr.mono (by decide)) rfl T.g_Told b_Told___init .nil pass0 (pa_cons (pe_ix (ix_U (K := K) rfl) (pv 0) pe_int (fun _ _ => rfl)) (pa_cons (pe_ix (ix_U (K := K) rfl) (pv 0) pe_int (fun _ _ => rfl)) (pa_cons (pe_ix (ix_U (K := K) rfl) (pv 0) pe_int (fun _ _ => rfl)) pa_nil)))) pa_nil)))
    (pss_cons (ps_expr (pe_bm PySem.F.plainAttrs_list PySem.F.slot_list_append PySem.F.type_list_append mt_append (pv 1) (pa_cons (pe_make T.r_Clash G_Clash___init (hr.mono (by decide)) rfl T.g_Clash b_Clash___init .nil pass0 (pa_cons (pe_ix (ix_U (K := K) rfl) (pv 0) pe_int (fun _ _ => rfl)) (pa_cons (pe_ix (ix_U (K := K) rfl) (pv 0) pe_int (fun _ _ => rfl)) pa_nil))) pa_nil)))
    (pss_cons (ps_expr (pe_bm PySem.F.plainAttrs_list PySem.F.slot_list_append PySem.F.type_list_append mt_append (pv 1) (pa_cons (pe_make T.r_TwoCuts G_TwoCuts___init (hr.mono (by decide)) rfl T.g_TwoCuts b_TwoCuts___init .nil pass0 (pa_cons (pe_ix (ix_U (K := K) rfl) (pv 0) pe_int (fun _ _ => rfl)) (pa_cons (pe_ix (ix_U (K := K) rfl) (pv 0) pe_int (fun _ _ => rfl)) pa_nil))) pa_nil)))
    (pss_cons (ps_expr (pe_bm PySem.F.plainAttrs_list PySem.F.slot_list_append PySem.F.type_list_append mt_append (pv 1) (pa_cons (pe_make T.r_Best G_Best___init (hr.mono (by decide)) rfl T.g_Best b_Best___init .nil pass0 (pa_cons (pe_ix (ix_U (K := K) rfl) (pv 0) pe_int (fun _ _ => rfl)) (pa_cons (pe_ix (ix_U (K := K) rfl) (pv 0) pe_int (fun _ _ => rfl)) pa_nil))) pa_nil)))
    (pss_cons (ps_expr (pe_bm PySem.F.plainAttrs_list PySem.F.slot_list_append PySem.F.type_list_append mt_append (pv 1) (pa_cons (pe_make T.r_Tried G_Tried___init (hr.mono (by decide)) rfl T.g_Tried b_Tried___init .nil pass0 (pa_cons (pe_ix (ix_U (K := K) rfl) (pv 0) pe_int (fun _ _ => rfl)) (pa_cons (pe_ix (ix_U (K := K) rfl) (pv 0) pe_int (fun _ _ => rfl)) (pa_cons (pe_ix (ix_U (K := K) rfl) (pv 0) pe_int (fun _ _ => rfl)) (pa_cons (pe_ix (ix_U (K := K) rfl) (pv 0) pe_int (fun _ _ => rfl)) (pa_cons (pe_ix (ix_U (K := K) rfl) (pv 0) pe_int (fun _ _ => rfl)) pa_nil)))))) pa_nil)))
    (pss_one (ps_ret (pv 1)))))))))))))))))), ?_⟩
    exact body_of0 rfl h fun X hd => (dst_seq (dst_own (df_lst da_nil))
    (dst_seq (dst_app (de_make0 dv_nil (ds_cons (dg_op od_ix (db_var 0) (DEg.bor (de_int 0))) (ds_cons (dg_op od_ix (db_var 0) (DEg.bor (de_int 1))) (ds_cons (dg_op od_ix (db_var 0) (DEg.bor (de_int 2))) (ds_cons (dg_op od_ix (db_var 0) (DEg.bor (de_int 3))) ds_nil))))))
    (dst_seq (dst_app (de_make0 dv_nil (ds_cons (dg_op od_ix (db_var 0) (DEg.bor (de_int 0))) (ds_cons (dg_op od_ix (db_var 0) (DEg.bor (de_int 1))) ds_nil))))
    (dst_seq (dst_app (de_make0 dv_nil (ds_cons (dg_op od_ix (db_var 0) (DEg.bor (de_int 0))) (ds_cons (dg_op od_ix (db_var 0) (DEg.bor (de_int 1))) (ds_cons (dg_op od_ix (db_var 0) (DEg.bor (de_int 2))) ds_nil)))))
    (dst_seq (dst_app (de_make0 dv_nil (ds_cons (dg_op od_ix (db_var 0) (DEg.bor (de_int 0))) (ds_cons (dg_op od_ix (db_var 0) (DEg.bor (de_int 1))) ds_nil))))
    (dst_seq (dst_app (de_make0 dv_nil (ds_cons (dg_op od_ix (db_var 0) (DEg.bor (de_int 0))) (ds_cons (dg_op od_ix (db_var 0) (DEg.bor (de_int 1))) ds_nil))))
    (dst_seq (dst_app (de_make0 dv_nil (ds_cons (dg_op od_ix (db_var 0) (DEg.bor (de_int 0))) (ds_cons (dg_op od_ix (db_var 0) (DEg.bor (de_int 1))) ds_nil))))
    (dst_seq (dst_app (de_make0 dv_nil (ds_cons (dg_op od_ix (db_var 0) (DEg.bor (de_int 0))) (ds_cons (dg_op od_ix (db_var 0) (DEg.bor (de_int 1))) (ds_cons (dg_op od_ix (db_var 0) (DEg.bor (de_int 2))) (ds_cons (dg_op od_ix (db_var 0) (DEg.bor (de_int 3))) (ds_cons (dg_op od_ix (db_var 0) (DEg.bor (de_int 4))) ds_nil)))))))
    (dst_seq (dst_app (de_make0 dv_nil (ds_cons (dg_op od_ix (db_var 0) (DEg.bor (de_int 0))) (ds_cons (dg_op od_ix (db_var 0) (DEg.bor (de_int 1))) ds_nil))))
    (dst_seq (dst_app (de_make0 dv_nil (ds_cons (dg_op od_ix (db_var 0) (DEg.bor (de_int 0))) (ds_cons (dg_op od_ix (db_var 0) (DEg.bor (de_int 1))) (ds_cons (dg_op od_ix (db_var 0) (DEg.bor (de_int 2))) ds_nil)))))
    (dst_seq (dst_app (de_make0 dv_nil (ds_cons (dg_op od_ix (db_var 0) (DEg.bor (de_int 0))) (ds_cons (dg_op od_ix (db_var 0) (DEg.bor (de_int 1))) (ds_cons (dg_op od_ix (db_var 0) (DEg.bor (de_int 2))) ds_nil)))))
    (dst_seq (dst_app (de_make0 dv_nil (ds_cons (dg_op od_ix (db_var 0) (DEg.bor (de_int 0))) (ds_cons (dg_op od_ix (db_var 0) (DEg.bor (de_int 1))) ds_nil))))
    (dst_seq (dst_app (de_make0 dv_nil (ds_cons (dg_op od_ix (db_var 0) (DEg.bor (de_int 0))) (ds_cons (dg_op od_ix (db_var 0) (DEg.bor (de_int 1))) ds_nil))))
    (dst_seq (dst_app (de_make0 dv_nil (ds_cons (dg_op od_ix (db_var 0) (DEg.bor (de_int 0))) (ds_cons (dg_op od_ix (db_var 0) (DEg.bor (de_int 1))) ds_nil))))
    (dst_seq (dst_app (de_make0 dv_nil (ds_cons (dg_op od_ix (db_var 0) (DEg.bor (de_int 0))) (ds_cons (dg_op od_ix (db_var 0) (DEg.bor (de_int 1))) (ds_cons (dg_op od_ix (db_var 0) (DEg.bor (de_int 2))) (ds_cons (dg_op od_ix (db_var 0) (DEg.bor (de_int 3))) (ds_cons (dg_op od_ix (db_var 0) (DEg.bor (de_int 4))) ds_nil)))))))
    (dst_frz 1 (dst_ret (de_var 1))))))))))))))))))
end Mine

namespace Mine
open PySem PySem.Spec PyProof.Rows L2
theorem ok_law_many {P : Program} {w : World} {K : PySem.W.Frag} {mg : Str → Option Value} {base : Heap} (T : Txt K mg) : ∃ fd, FnOk P w K mg base CX0 1 (He.ga K "_law_many") fd P_law_many (spD K F_law_many) ∧ D_law_many K (He.ga K "_law_many") fd := by
  obtain ⟨fd, F⟩ := T.F_law_many
  refine ⟨fd, F.ok sc_law_many (fun vs H Q E h => ?_) (fun cdv A outer s H vs Q E hr h => ?_), F⟩
  · rw [F_law_many_eq] at h
    exact spD_len (np := 0) (fun _ _ _ h => h.1) vs H Q E h
  · rw [F_law_many_eq] at h
    refine ⟨_, PSs.nox (pss_one (ps_ret (pe_lst (pa_cons pe_int (pa_cons pe_int (pa_cons pe_int (pa_cons pe_int (pa_cons pe_int (pa_cons pe_int (pa_cons pe_int (pa_cons pe_int (pa_cons pe_int (pa_cons pe_int (pa_cons pe_int (pa_cons pe_int (pa_cons pe_int (pa_cons pe_int pa_nil))))))))))))))))), ?_⟩
    exact body_of0 rfl h fun X hd => (dst_ret (DEg.cln (df_lst (da_cons (de_int 4) (da_cons (de_int 2) (da_cons (de_int 3) (da_cons (de_int 2) (da_cons (de_int 2) (da_cons (de_int 2) (da_cons (de_int 5) (da_cons (de_int 2) (da_cons (de_int 3) (da_cons (de_int 3) (da_cons (de_int 2) (da_cons (de_int 2) (da_cons (de_int 2) (da_cons (de_int 5) da_nil)))))))))))))))))
end Mine

namespace Mine
open PySem PySem.Spec PyProof.Rows L2
theorem ok_law_is_kind {P : Program} {w : World} {K : PySem.W.Frag} {mg : Str → Option Value} {base : Heap} (T : Txt K mg) : ∃ fd, FnOk P w K mg base CX0 1 (He.ga K "_law_is_kind") fd P_law_is_kind (spD K F_law_is_kind) ∧ D_law_is_kind K (He.ga K "_law_is_kind") fd := by
  obtain ⟨fd, F⟩ := T.F_law_is_kind
  refine ⟨fd, F.ok sc_law_is_kind (fun vs H Q E h => ?_) (fun cdv A outer s H vs Q E hr h => ?_), F⟩
  · rw [F_law_is_kind_eq] at h
    exact spD_len (np := 1) (fun _ _ _ h => h.1) vs H Q E h
  · rw [F_law_is_kind_eq] at h
    refine ⟨_, PSs.nox (pss_cons (ps_set (i := 1) sc_law_is_kind.nd rfl (by first | exact Or.inl rfl | exact Or.inr rfl) (pe_lst pa_nil))
    (pss_cons (ps_expr (pe_bm PySem.F.plainAttrs_list PySem.F.slot_list_append PySem.F.type_list_append mt_append (pv 1) (pa_cons (pe_callB (call_isiU (K := K) rfl) (by rfl) T.z_isinstance (by decide +kernel) (pa_cons (pe_ix (ix_U (K := K) rfl) (pv 0) pe_int (fun _ _ => rfl)) (pa_cons (pe_glob (v := .ref (He.ga _ "NearPair")) rfl T.g_NearPair rfl) pa_nil))) pa_nil)))
    (pss_cons (ps_expr (pe_bm PySem.F.plainAttrs_list PySem.F.slot_list_append PySem.F.type_list_append mt_append (pv 1) (pa_cons (pe_callB (call_isiU (K := K) rfl) (by rfl) T.z_isinstance (by decide +kernel) (pa_cons (pe_ix (ix_U (K := K) rfl) (pv 0) pe_int (fun _ _ => rfl)) (pa_cons (pe_glob (v := .ref (He.ga _ "Thinned")) rfl T.g_Thinned rfl) pa_nil))) pa_nil)))
    (pss_cons (ps_expr (pe_bm PySem.F.plainAttrs_list PySem.F.slot_list_append PySem.F.type_list_append mt_append (pv 1) (pa_cons (pe_callB (call_isiU (K := K) rfl) (by rfl) T.z_isinstance (by decide +kernel) (pa_cons (pe_ix (ix_U (K := K) rfl) (pv 0) pe_int (fun _ _ => rfl)) (pa_cons (pe_glob (v := .ref (He.ga _ "MixClash")) rfl T.g_MixClash rfl) pa_nil))) pa_nil)))
    (pss_cons (ps_expr (pe_bm PySem.F.plainAttrs_list PySem.F.slot_list_append PySem.F.type_list_append mt_append (pv 1) (pa_cons (pe_callB (call_isiU (K := K) rfl) (by rfl) T.z_isinstance (by decide +kernel) (pa_cons (pe_ix (ix_U (K := K) rfl) (pv 0) pe_int (fun _ _ => rfl)) (pa_cons (pe_glob (v := .ref (He.ga _ "Uneven")) rfl T.g_Uneven rfl) pa_nil))) pa_nil)))
    (pss_cons (ps_expr (pe_bm PySem.F.plainAttrs_list PySem.F.slot_list_append PySem.F.type_list_append mt_append (pv 1) (pa_cons (pe_callB (call_isiU (K := K) rfl) (by rfl) T.z_isinstance (by decide +kernel) (pa_cons (pe_ix (ix_U (K := K) rfl) (pv 0) pe_int (fun _ _ => rfl)) (pa_cons (pe_glob (v := .ref (He.ga _ "Read")) rfl T.g_Read rfl) pa_nil))) pa_nil)))
    (pss_cons (ps_expr (pe_bm PySem.F.plainAttrs_list PySem.F.slot_list_append PySem.F.type_list_append mt_append (pv 1) (pa_cons (pe_callB (call_isiU (K := K) rfl) (by rfl) T.z_isinstance (by decide +kernel) (pa_cons (pe_ix (ix_U (K := K) rfl) (pv 0) pe_int (fun _ _ => rfl)) (pa_cons (pe_glob (v := .ref (He.ga _ "TooClose")) rfl T.g_TooClose rfl) pa_nil))) pa_nil)))
    (pss_cons (ps_expr (pe_bm PySem.F.plainAttrs_list PySem.F.slot_list_append PySem.F.type_list_append mt_append (pv 1) (pa_cons (pe_callB (call_isiU (K := K) rfl) (by rfl) T.z_isinstance (by decide +kernel) (pa_cons (pe_ix (ix_U (K := K) rfl) (pv 0) pe_int (fun _ _ => rfl)) (pa_cons (pe_glob (v := .ref (He.ga _ "RunPair")) rfl T.g_RunPair rfl) pa_nil))) pa_nil)))
    (pss_cons (ps_expr (pe_bm PySem.F.plainAttrs_list PySem.F.slot_list_append PySem.F.type_list_append mt_append (pv 1) (pa_cons (pe_callB (call_isiU (K := K) rfl) (by rfl) T.z_isinstance (by decide +kernel) (pa_cons (pe_ix (ix_U (K := K) rfl) (pv 0) pe_int (fun _ _ => rfl)) (pa_cons (pe_glob (v := .ref (He.ga _ "SumsClash")) rfl T.g_SumsClash rfl) pa_nil))) pa_nil)))
    (pss_cons (ps_expr (pe_bm PySem.F.plainAttrs_list PySem.F.slot_list_append PySem.F.type_list_append mt_append (pv 1) (pa_cons (pe_callB (call_isiU (K := K) rfl) (by rfl) T.z_isinstance (by decide +kernel) (pa_cons (pe_ix (ix_U (K := K) rfl) (pv 0) pe_int (fun _ _ => rfl)) (pa_cons (pe_glob (v := .ref (He.ga _ "Web")) rfl T.g_Web rfl) pa_nil))) pa_nil)))
    (pss_cons (ps_expr (pe_bm PySem.F.plainAttrs_list PySem.F.slot_list_append PySem.F.type_list_append mt_append (pv 1) (pa_cons (pe_callB (call_isiU (K := K) rfl) (by rfl) T.z_isinstance (by decide +kernel) (pa_cons (pe_ix (ix_U (K := K) rfl) (pv 0) pe_int (fun _ _ => rfl)) (pa_cons (pe_glob (v := .ref (He.ga _ "Told")) rfl T.g_Told rfl) pa_nil))) pa_nil)))
    (pss_cons (ps_expr (pe_bm PySem.F.plainAttrs_list PySem.F.slot_list_append PySem.F.type_list_append mt_append (pv 1) (pa_cons (pe_callB (call_isiU (K := K) rfl) (by rfl) T.z_isinstance (by decide +kernel) (pa_cons (pe_ix (ix_U (K := K) rfl) (pv 0) pe_int (fun _ _ => rfl)) (pa_cons (pe_glob (v := .ref (He.ga _ "Clash")) rfl T.g_Clash rfl) pa_nil))) pa_nil)))
    (pss_cons (ps_expr (pe_bm PySem.F.plainAttrs_list PySem.F.slot_list_append PySem.F.type_list_append mt_append (pv 1) (pa_cons (pe_callB (call_isiU (K := K) rfl) (by rfl) T.z_isinstance (by decide +kernel) (pa_cons (pe_ix (ix_U (K := K) rfl) (pv 0) pe_int (fun _ _ => rfl)) (pa_cons (pe_glob (v := .ref (He.ga _ "TwoCuts")) rfl T.g_TwoCuts rfl) pa_nil))) pa_nil)))
    (pss_cons (ps_expr (pe_bm PySem.F.plainAttrs_list PySem.F.slot_list_append PySem.F.type_list_append mt_append (pv 1) (pa_cons (pe_callB (call_isiU (K := K) rfl) (by rfl) T.z_isinstance (by decide +kernel) (pa_cons (pe_ix (ix_U (K := K) rfl) (pv 0) pe_int (fun _ _ => rfl)) (pa_cons (pe_glob (v := .ref (He.ga _ "Best")) rfl T.g_Best rfl) pa_nil))) pa_nil)))
    (pss_cons (ps_expr (pe_bm PySem.F.plainAttrs_list PySem.F.slot_list_append PySem.F.type_list_append mt_append (pv 1) (pa_cons (pe_callB (call_isiU (K := K) rfl) (by rfl) T.z_isinstance (by decide +kernel) (pa_cons (pe_ix (ix_U (K := K) rfl) (pv 0) pe_int (fun _ _ => rfl)) (pa_cons (pe_glob (v := .ref (He.ga _ "Tried")) rfl T.g_Tried rfl) pa_nil))) pa_nil)))
    (pss_one (ps_ret (pv 1)))))))))))))))))), ?_⟩
    exact body_of0 rfl h fun X hd => (dst_seq (dst_own (df_lst da_nil))
    (dst_seq (dst_app (de_isI (isi_NearPair T) (DEg.bor (dg_op od_ix (db_var 0) (DEg.bor (de_int 0))))))
    (dst_seq (dst_app (de_isI (isi_Thinned T) (DEg.bor (dg_op od_ix (db_var 0) (DEg.bor (de_int 1))))))
    (dst_seq (dst_app (de_isI (isi_MixClash T) (DEg.bor (dg_op od_ix (db_var 0) (DEg.bor (de_int 2))))))
    (dst_seq (dst_app (de_isI (isi_Uneven T) (DEg.bor (dg_op od_ix (db_var 0) (DEg.bor (de_int 3))))))
    (dst_seq (dst_app (de_isI (isi_Read T) (DEg.bor (dg_op od_ix (db_var 0) (DEg.bor (de_int 4))))))
    (dst_seq (dst_app (de_isI (isi_TooClose T) (DEg.bor (dg_op od_ix (db_var 0) (DEg.bor (de_int 5))))))
    (dst_seq (dst_app (de_isI (isi_RunPair T) (DEg.bor (dg_op od_ix (db_var 0) (DEg.bor (de_int 6))))))
    (dst_seq (dst_app (de_isI (isi_SumsClash T) (DEg.bor (dg_op od_ix (db_var 0) (DEg.bor (de_int 7))))))
    (dst_seq (dst_app (de_isI (isi_Web T) (DEg.bor (dg_op od_ix (db_var 0) (DEg.bor (de_int 8))))))
    (dst_seq (dst_app (de_isI (isi_Told T) (DEg.bor (dg_op od_ix (db_var 0) (DEg.bor (de_int 9))))))
    (dst_seq (dst_app (de_isI (isi_Clash T) (DEg.bor (dg_op od_ix (db_var 0) (DEg.bor (de_int 10))))))
    (dst_seq (dst_app (de_isI (isi_TwoCuts T) (DEg.bor (dg_op od_ix (db_var 0) (DEg.bor (de_int 11))))))
    (dst_seq (dst_app (de_isI (isi_Best T) (DEg.bor (dg_op od_ix (db_var 0) (DEg.bor (de_int 12))))))
    (dst_seq (dst_app (de_isI (isi_Tried T) (DEg.bor (dg_op od_ix (db_var 0) (DEg.bor (de_int 13))))))
    (dst_frz 1 (dst_ret (de_var 1))))))))))))))))))
end Mine

namespace Mine
open PySem PySem.Spec PyProof.Rows L2
theorem ok_law_kept {P : Program} {w : World} {K : PySem.W.Frag} {mg : Str → Option Value} {base : Heap} (T : Txt K mg) : ∃ fd, FnOk P w K mg base CX0 1 (He.ga K "_law_kept") fd P_law_kept (spD K F_law_kept) ∧ D_law_kept K (He.ga K "_law_kept") fd := by
  obtain ⟨fd, F⟩ := T.F_law_kept
  refine ⟨fd, F.ok sc_law_kept (fun vs H Q E h => ?_) (fun cdv A outer s H vs Q E hr h => ?_), F⟩
  · rw [F_law_kept_eq] at h
    exact spD_len (np := 1) (fun _ _ _ h => h.1) vs H Q E h
  · rw [F_law_kept_eq] at h
    refine ⟨_, PSs.nox (pss_cons (ps_set (i := 1) sc_law_kept.nd rfl (by first | exact Or.inl rfl | exact Or.inr rfl) (pe_lst pa_nil))
    (pss_cons (ps_set (i := 2) sc_law_kept.nd rfl (by first | exact Or.inl rfl | exact Or.inr rfl) (pe_ix (ix_U (K := K) rfl) (pv 0) pe_int (fun _ _ => rfl)))
    (pss_cons (ps_expr (pe_bm PySem.F.plainAttrs_list PySem.F.slot_list_append PySem.F.type_list_append mt_append (pv 1) (pa_cons (pe_lst (pa_cons (pe_fldU (K := K) rfl (pv 2) (by rfl)) (pa_cons (pe_fldU (K := K) rfl (pv 2) (by rfl)) (pa_cons (pe_fldU (K := K) rfl (pv 2) (by rfl)) (pa_cons (pe_fldU (K := K) rfl (pv 2) (by rfl)) pa_nil))))) pa_nil)))
    (pss_cons (ps_set (i := 2) sc_law_kept.nd rfl (by first | exact Or.inl rfl | exact Or.inr rfl) (pe_ix (ix_U (K := K) rfl) (pv 0) pe_int (fun _ _ => rfl)))
    (pss_cons (ps_expr (pe_bm PySem.F.plainAttrs_list PySem.F.slot_list_append PySem.F.type_list_append mt_append (pv 1) (pa_cons (pe_lst (pa_cons (pe_fldU (K := K) rfl (pv 2) (by rfl)) (pa_cons (pe_fldU (K := K) rfl (pv 2) (by rfl)) pa_nil))) pa_nil)))
    (pss_cons (ps_set (i := 2) sc_law_kept.nd rfl (by first | exact Or.inl rfl | exact Or.inr rfl) (pe_ix (ix_U (K := K) rfl) (pv 0) pe_int (fun _ _ => rfl)))
    (pss_cons (ps_expr (pe_bm PySem.F.plainAttrs_list PySem.F.slot_list_append PySem.F.type_list_append mt_append (pv 1) (pa_cons (pe_lst (pa_cons (pe_fldU (K := K) rfl (pv 2) (by rfl)) (pa_cons (pe_fldU (K := K) rfl (pv 2) (by rfl)) (pa_cons (pe_fldU (K := K) rfl (pv 2) (by rfl)) pa_nil)))) pa_nil)))
    (pss_cons (ps_set (i := 2) sc_law_kept.nd rfl (by first | exact Or.inl rfl | exact Or.inr rfl) (pe_ix (ix_U (K := K) rfl) (pv 0) pe_int (fun _ _ => rfl)))
    (pss_cons (ps_expr (pe_bm PySem.F.plainAttrs_list PySem.F.slot_list_append PySem.F.type_list_append mt_append (pv 1) (pa_cons (pe_lst (pa_cons (pe_fldU (K := K) rfl (pv 2) (by rfl)) (pa_cons (pe_fldU (K := K) rfl (pv 2) (by rfl)) pa_nil))) pa_nil)))
    (pss_cons (ps_set (i := 2) sc_law_kept.nd rfl (by first | exact Or.inl rfl | exact Or.inr rfl) (pe_ix (ix_U (K := K) rfl) (pv 0) pe_int (fun _ _ => rfl)))
    (pss_cons (ps_expr (pe_bm PySem.F.plainAttrs_list PySem.F.slot_list_append PySem.F.type_list_append mt_append (pv 1) (pa_cons (pe_lst (pa_cons (pe_fldU (K := K) rfl (pv 2) (by rfl)) (pa_cons (pe_fldU (K := K) rfl (pv 2) (by rfl)) pa_nil))) pa_nil)))
    (pss_cons (ps_set (i := 2) sc_law_kept.nd rfl (by first | exact Or.inl rfl | exact Or.inr rfl) (pe_ix (ix_U (K := K) rfl) (pv 0) pe_int (fun _ _ => rfl)))
    (pss_cons (ps_expr (pe_bm PySem.F.plainAttrs_list PySem.F.slot_list_append PySem.F.type_list_append mt_append (pv 1) (pa_cons (pe_lst (pa_cons (pe_fldU (K := K) rfl (pv 2) (by rfl)) (pa_cons (pe_fldU (K := K) rfl (pv 2) (by rfl)) pa_nil))) pa_nil)))
    (pss_cons (ps_set (i := 2) sc_law_kept.nd rfl (by first | exact Or.inl rfl | exact Or.inr rfl) (pe_ix (ix_U (K := K) rfl) (pv 0) pe_int (fun _ _ => rfl)))
    (pss_cons (ps_expr (pe_bm PySem.F.plainAttrs_list PySem.F.slot_list_append PySem.F.type_list_append mt_append (pv 1) (pa_cons (pe_lst (pa_cons (pe_fldU (K := K) rfl (pv 2) (by rfl)) (pa_cons (pe_fldU (K := K) rfl (pv 2) (by rfl)) (pa_cons (pe_fldU (K := K) rfl (pv 2) (by rfl)) (pa_cons (pe_fldU (K := K) rfl (pv 2) (by rfl)) (pa_cons (pe_fldU (K := K) rfl (pv 2) (by rfl)) pa_nil)))))) pa_nil)))
    (pss_cons (ps_set (i := 2) sc_law_kept.nd rfl (by first | exact Or.inl rfl | exact Or.inr rfl) (pe_ix (ix_U (K := K) rfl) (pv 0) pe_int (fun _ _ => rfl)))
    (pss_cons (ps_expr (pe_bm PySem.F.plainAttrs_list PySem.F.slot_list_append PySem.F.type_list_append mt_append (pv 1) (pa_cons (pe_lst (pa_cons (pe_fldU (K := K) rfl (pv 2) (by rfl)) (pa_cons (pe_fldU (K := K) rfl (pv 2) (by rfl)) pa_nil))) pa_nil)))
    (pss_cons (ps_set (i := 2) sc_law_kept.nd rfl (by first | exact Or.inl rfl | exact Or.inr rfl) (pe_ix (ix_U (K := K) rfl) (pv 0) pe_int (fun _ _ => rfl)))
    (pss_cons (ps_expr (pe_bm PySem.F.plainAttrs_list PySem.F.slot_list_append PySem.F.type_list_append mt_append (pv 1) (pa_cons (pe_lst (pa_cons (pe_fldU (K := K) rfl (pv 2) (by rfl)) (pa_cons (pe_fldU (K := K) rfl (pv 2) (by rfl)) (pa_cons (pe_fldU (K := K) rfl (pv 2) (by rfl)) pa_nil)))) pa_nil)))
    (pss_cons (ps_set (i := 2) sc_law_kept.nd rfl (by first | exact Or.inl rfl | exact Or.inr rfl) (pe_ix (ix_U (K := K) rfl) (pv 0) pe_int (fun _ _ => rfl)))
    (pss_cons (ps_expr (pe_bm PySem.F.plainAttrs_list PySem.F.slot_list_append PySem.F.type_list_append mt_append (pv 1) (pa_cons (pe_lst (pa_cons (pe_fldU (K := K) rfl (pv 2) (by rfl)) (pa_cons (pe_fldU (K := K) rfl (pv 2) (by rfl)) (pa_cons (pe_fldU (K := K) rfl (pv 2) (by rfl)) pa_nil)))) pa_nil)))
    (pss_cons (ps_set (i := 2) sc_law_kept.nd rfl (by first | exact Or.inl rfl | exact Or.inr rfl) (pe_ix (ix_U (K := K) rfl) (pv 0) pe_int (fun _ _ => rfl)))
    (pss_cons (ps_expr (pe_bm PySem.F.plainAttrs_list PySem.F.slot_list_append PySem.F.type_list_append mt_append (pv 1) (pa_cons (pe_lst (pa_cons (pe_fldU (K := K) rfl (pv 2) (by rfl)) (pa_cons (pe_fldU (K := K) rfl (pv 2) (by rfl)) pa_nil))) pa_nil)))
    (pss_cons (ps_set (i := 2) sc_law_kept.nd rfl (by first | exact Or.inl rfl | exact Or.inr rfl) (pe_ix (ix_U (K := K) rfl) (pv 0) pe_int (fun _ _ => rfl)))
    (pss_cons (ps_expr (pe_bm PySem.F.plainAttrs_list PySem.F.slot_list_append PySem.F.type_list_append mt_append (pv 1) (pa_cons (pe_lst (pa_cons (pe_fldU (K := K) rfl (pv 2) (by rfl)) (pa_cons (pe_fldU (K := K) rfl (pv 2) (by rfl)) pa_nil))) pa_nil)))
    (pss_cons (ps_set (i := 2) sc_law_kept.nd rfl (by first | exact Or.inl rfl | exact Or.inr rfl) (pe_ix (ix_U (K := K) rfl) (pv 0) pe_int (fun _ _ => rfl)))
    (pss_cons (ps_expr (pe_bm PySem.F.plainAttrs_list PySem.F.slot_list_append PySem.F.type_list_append mt_append (pv 1) (pa_cons (pe_lst (pa_cons (pe_fldU (K := K) rfl (pv 2) (by rfl)) (pa_cons (pe_fldU (K := K) rfl (pv 2) (by rfl)) pa_nil))) pa_nil)))
    (pss_cons (ps_set (i := 2) sc_law_kept.nd rfl (by first | exact Or.inl rfl | exact Or.inr rfl) (pe_ix (ix_U (K := K) rfl) (pv 0) pe_int (fun _ _ => rfl)))
    (pss_cons (ps_expr (pe_bm PySem.F.plainAttrs_list PySem.F.slot_list_append PySem.F.type_list_append mt_append (pv 1) (pa_cons (pe_lst (pa_cons (pe_fldU (K := K) rfl (pv 2) (by rfl)) (pa_cons (pe_fldU (K := K) rfl (pv 2) (by rfl)) (pa_cons (pe_fldU (K := K) rfl (pv 2) (by rfl)) (pa_cons (pe_fldU (K := K) rfl (pv 2) (by rfl)) (pa_cons (pe_fldU (K := K) rfl (pv 2) (by rfl)) pa_nil)))))) pa_nil)))
    (pss_one (ps_ret (pv 1)))))))))))))))))))))))))))))))), ?_⟩
    exact body_of0 rfl h fun X hd => (dst_seq (dst_own (df_lst da_nil))
    (dst_of S_law_kept_r2_eq
    (dst_seq (dst_asg (dg_op od_ix (db_var 0) (DEg.bor (de_int 0))) (dg_name 2))
    (dst_of S_law_kept_r3_eq
    (dst_seq (dst_app (DEg.cln (df_lst (da_cons (de_fld (fld_ok T) (db_var 2)) (da_cons (de_fld (fld_ok T) (db_var 2)) (da_cons (de_fld (fld_ok T) (db_var 2)) (da_cons (de_fld (fld_ok T) (db_var 2)) da_nil)))))))
    (dst_of S_law_kept_r4_eq
    (dst_seq (dst_asg (dg_op od_ix (db_var 0) (DEg.bor (de_int 1))) (dg_name 2))
    (dst_of S_law_kept_r5_eq
    (dst_seq (dst_app (DEg.cln (df_lst (da_cons (de_fld (fld_ok T) (db_var 2)) (da_cons (de_fld (fld_ok T) (db_var 2)) da_nil)))))
    (dst_of S_law_kept_r6_eq
    (dst_seq (dst_asg (dg_op od_ix (db_var 0) (DEg.bor (de_int 2))) (dg_name 2))
    (dst_of S_law_kept_r7_eq
    (dst_seq (dst_app (DEg.cln (df_lst (da_cons (de_fld (fld_ok T) (db_var 2)) (da_cons (de_fld (fld_ok T) (db_var 2)) (da_cons (de_fld (fld_ok T) (db_var 2)) da_nil))))))
    (dst_of S_law_kept_r8_eq
    (dst_seq (dst_asg (dg_op od_ix (db_var 0) (DEg.bor (de_int 3))) (dg_name 2))
    (dst_of S_law_kept_r9_eq
    (dst_seq (dst_app (DEg.cln (df_lst (da_cons (de_fld (fld_ok T) (db_var 2)) (da_cons (de_fld (fld_ok T) (db_var 2)) da_nil)))))
    (dst_of S_law_kept_r10_eq
    (dst_seq (dst_asg (dg_op od_ix (db_var 0) (DEg.bor (de_int 4))) (dg_name 2))
    (dst_of S_law_kept_r11_eq
    (dst_seq (dst_app (DEg.cln (df_lst (da_cons (de_fld (fld_ok T) (db_var 2)) (da_cons (de_fld (fld_ok T) (db_var 2)) da_nil)))))
    (dst_of S_law_kept_r12_eq
    (dst_seq (dst_asg (dg_op od_ix (db_var 0) (DEg.bor (de_int 5))) (dg_name 2))
    (dst_of S_law_kept_r13_eq
    (dst_seq (dst_app (DEg.cln (df_lst (da_cons (de_fld (fld_ok T) (db_var 2)) (da_cons (de_fld (fld_ok T) (db_var 2)) da_nil)))))
    (dst_of S_law_kept_r14_eq
    (dst_seq (dst_asg (dg_op od_ix (db_var 0) (DEg.bor (de_int 6))) (dg_name 2))
    (dst_of S_law_kept_r15_eq
    (dst_seq (dst_app (DEg.cln (df_lst (da_cons (de_fld (fld_ok T) (db_var 2)) (da_cons (de_fld (fld_ok T) (db_var 2)) (da_cons (de_fld (fld_ok T) (db_var 2)) (da_cons (de_fld (fld_ok T) (db_var 2)) (da_cons (de_fld (fld_ok T) (db_var 2)) da_nil))))))))
    (dst_of S_law_kept_r16_eq
    (dst_seq (dst_asg (dg_op od_ix (db_var 0) (DEg.bor (de_int 7))) (dg_name 2))
    (dst_of S_law_kept_r17_eq
    (dst_seq (dst_app (DEg.cln (df_lst (da_cons (de_fld (fld_ok T) (db_var 2)) (da_cons (de_fld (fld_ok T) (db_var 2)) da_nil)))))
    (dst_of S_law_kept_r18_eq
    (dst_seq (dst_asg (dg_op od_ix (db_var 0) (DEg.bor (de_int 8))) (dg_name 2))
    (dst_of S_law_kept_r19_eq
    (dst_seq (dst_app (DEg.cln (df_lst (da_cons (de_fld (fld_ok T) (db_var 2)) (da_cons (de_fld (fld_ok T) (db_var 2)) (da_cons (de_fld (fld_ok T) (db_var 2)) da_nil))))))
    (dst_of S_law_kept_r20_eq
    (dst_seq (dst_asg (dg_op od_ix (db_var 0) (DEg.bor (de_int 9))) (dg_name 2))
    (dst_of S_law_kept_r21_eq
    (dst_seq (dst_app (DEg.cln (df_lst (da_cons (de_fld (fld_ok T) (db_var 2)) (da_cons (de_fld (fld_ok T) (db_var 2)) (da_cons (de_fld (fld_ok T) (db_var 2)) da_nil))))))
    (dst_of S_law_kept_r22_eq
    (dst_seq (dst_asg (dg_op od_ix (db_var 0) (DEg.bor (de_int 10))) (dg_name 2))
    (dst_of S_law_kept_r23_eq
    (dst_seq (dst_app (DEg.cln (df_lst (da_cons (de_fld (fld_ok T) (db_var 2)) (da_cons (de_fld (fld_ok T) (db_var 2)) da_nil)))))
    (dst_of S_law_kept_r24_eq
    (dst_seq (dst_asg (dg_op od_ix (db_var 0) (DEg.bor (de_int 11))) (dg_name 2))
    (dst_of S_law_kept_r25_eq
    (dst_seq (dst_app (DEg.cln (df_lst (da_cons (de_fld (fld_ok T) (db_var 2)) (da_cons (de_fld (fld_ok T) (db_var 2)) da_nil)))))
    (dst_of S_law_kept_r26_eq
    (dst_seq (dst_asg (dg_op od_ix (db_var 0) (DEg.bor (de_int 12))) (dg_name 2))
    (dst_of S_law_kept_r27_eq
    (dst_seq (dst_app (DEg.cln (df_lst (da_cons (de_fld (fld_ok T) (db_var 2)) (da_cons (de_fld (fld_ok T) (db_var 2)) da_nil)))))
    (dst_of S_law_kept_r28_eq
    (dst_seq (dst_asg (dg_op od_ix (db_var 0) (DEg.bor (de_int 13))) (dg_name 2))
    (dst_of S_law_kept_r29_eq
    (dst_seq (dst_app (DEg.cln (df_lst (da_cons (de_fld (fld_ok T) (db_var 2)) (da_cons (de_fld (fld_ok T) (db_var 2)) (da_cons (de_fld (fld_ok T) (db_var 2)) (da_cons (de_fld (fld_ok T) (db_var 2)) (da_cons (de_fld (fld_ok T) (db_var 2)) da_nil))))))))
    (dst_of S_law_kept_r30_eq
    (dst_frz 1 (dst_ret (de_var 1)))))))))))))))))))))))))))))))))))))))))))))))))))))))))))))
end Mine

namespace Mine
open PySem PySem.Spec PyProof.Rows L2
theorem ok_law {P : Program} {w : World} {K : PySem.W.Frag} {mg : Str → Option Value} {base : Heap} (T : Txt K mg) (g : Goal) : ∃ fd, FnOk P w K mg base CX0 5 (He.ga K "law") fd P_law (sp_law K) ∧ D_law K (He.ga K "law") fd := by
  obtain ⟨fd, F⟩ := T.F_law
  obtain ⟨fd_law_hand, G_law_hand, D_law_hand⟩ := ok_law_hand (P := P) (w := w) (base := base) T
  have k_law_hand := D_law_hand.kp
  have b_law_hand := bd_law_hand D_law_hand
  obtain ⟨fd_law_part, G_law_part, D_law_part⟩ := ok_law_part (P := P) (w := w) (base := base) T
  have k_law_part := D_law_part.kp
  have b_law_part := bd_law_part D_law_part
  obtain ⟨fd_NearPair___eq, G_NearPair___eq, D_NearPair___eq⟩ := ok_NearPair___eq (P := P) (w := w) (base := base) T
  have k_NearPair___eq := D_NearPair___eq.kp
  have b_NearPair___eq := bd_NearPair___eq D_NearPair___eq
  obtain ⟨fd_Thinned___eq, G_Thinned___eq, D_Thinned___eq⟩ := ok_Thinned___eq (P := P) (w := w) (base := base) T
  have k_Thinned___eq := D_Thinned___eq.kp
  have b_Thinned___eq := bd_Thinned___eq D_Thinned___eq
  obtain ⟨fd_Web___eq, G_Web___eq, D_Web___eq⟩ := ok_Web___eq (P := P) (w := w) (base := base) T
  have k_Web___eq := D_Web___eq.kp
  have b_Web___eq := bd_Web___eq D_Web___eq
  obtain ⟨fd_Told___eq, G_Told___eq, D_Told___eq⟩ := ok_Told___eq (P := P) (w := w) (base := base) T
  have k_Told___eq := D_Told___eq.kp
  have b_Told___eq := bd_Told___eq D_Told___eq
  obtain ⟨fd_Clash___eq, G_Clash___eq, D_Clash___eq⟩ := ok_Clash___eq (P := P) (w := w) (base := base) T
  have k_Clash___eq := D_Clash___eq.kp
  have b_Clash___eq := bd_Clash___eq D_Clash___eq
  obtain ⟨fd_TwoCuts___eq, G_TwoCuts___eq, D_TwoCuts___eq⟩ := ok_TwoCuts___eq (P := P) (w := w) (base := base) T
  have k_TwoCuts___eq := D_TwoCuts___eq.kp
  have b_TwoCuts___eq := bd_TwoCuts___eq D_TwoCuts___eq
  obtain ⟨fd_Best___eq, G_Best___eq, D_Best___eq⟩ := ok_Best___eq (P := P) (w := w) (base := base) T
  have k_Best___eq := D_Best___eq.kp
  have b_Best___eq := bd_Best___eq D_Best___eq
  obtain ⟨fd_RunPair___eq, G_RunPair___eq, D_RunPair___eq⟩ := ok_RunPair___eq (P := P) (w := w) (base := base) T
  have k_RunPair___eq := D_RunPair___eq.kp
  have b_RunPair___eq := bd_RunPair___eq D_RunPair___eq
  obtain ⟨fd_Tried___eq, G_Tried___eq, D_Tried___eq⟩ := ok_Tried___eq (P := P) (w := w) (base := base) T
  have k_Tried___eq := D_Tried___eq.kp
  have b_Tried___eq := bd_Tried___eq D_Tried___eq
  obtain ⟨fd_MixClash___eq, G_MixClash___eq, D_MixClash___eq⟩ := ok_MixClash___eq (P := P) (w := w) (base := base) T
  have k_MixClash___eq := D_MixClash___eq.kp
  have b_MixClash___eq := bd_MixClash___eq D_MixClash___eq
  obtain ⟨fd_Uneven___eq, G_Uneven___eq, D_Uneven___eq⟩ := ok_Uneven___eq (P := P) (w := w) (base := base) T
  have k_Uneven___eq := D_Uneven___eq.kp
  have b_Uneven___eq := bd_Uneven___eq D_Uneven___eq
  obtain ⟨fd_SumsClash___eq, G_SumsClash___eq, D_SumsClash___eq⟩ := ok_SumsClash___eq (P := P) (w := w) (base := base) T
  have k_SumsClash___eq := D_SumsClash___eq.kp
  have b_SumsClash___eq := bd_SumsClash___eq D_SumsClash___eq
  obtain ⟨fd_TooClose___eq, G_TooClose___eq, D_TooClose___eq⟩ := ok_TooClose___eq (P := P) (w := w) (base := base) T
  have k_TooClose___eq := D_TooClose___eq.kp
  have b_TooClose___eq := bd_TooClose___eq D_TooClose___eq
  obtain ⟨fd_Read___eq, G_Read___eq, D_Read___eq⟩ := ok_Read___eq (P := P) (w := w) (base := base) T
  have k_Read___eq := D_Read___eq.kp
  have b_Read___eq := bd_Read___eq D_Read___eq
  obtain ⟨fd_law_take, G_law_take, D_law_take⟩ := ok_law_take (P := P) (w := w) (base := base) T
  have k_law_take := D_law_take.kp
  have b_law_take := bd_law_take D_law_take
  obtain ⟨fd_law_made, G_law_made, D_law_made⟩ := ok_law_made (P := P) (w := w) (base := base) T
  have k_law_made := D_law_made.kp
  have b_law_made := bd_law_made D_law_made
  obtain ⟨fd_law_many, G_law_many, D_law_many⟩ := ok_law_many (P := P) (w := w) (base := base) T
  have k_law_many := D_law_many.kp
  have b_law_many := bd_law_many D_law_many
  obtain ⟨fd_law_is_kind, G_law_is_kind, D_law_is_kind⟩ := ok_law_is_kind (P := P) (w := w) (base := base) T
  have k_law_is_kind := D_law_is_kind.kp
  have b_law_is_kind := bd_law_is_kind D_law_is_kind
  obtain ⟨fd_law_kept, G_law_kept, D_law_kept⟩ := ok_law_kept (P := P) (w := w) (base := base) T
  have k_law_kept := D_law_kept.kp
  have b_law_kept := bd_law_kept D_law_kept
  refine ⟨fd, F.ok sc_law (fun vs H Q E h => ?_) (fun cdv A outer s H vs Q E hr h => ?_), F⟩
  · obtain ⟨a, ns, rfl, _⟩ := h
    rfl
  · refine ⟨_, PSs.nox (pss_cons (ps_set (i := 1) sc_law.nd rfl (by first | exact Or.inl rfl | exact Or.inr rfl) (pe_call G_law_hand (hr.mono (by decide)) rfl T.g__law_hand k_law_hand b_law_hand .nil pass0 (pa_cons (pv 0) pa_nil)))
    (pss_cons (ps_set (i := 2) sc_law.nd rfl (by first | exact Or.inl rfl | exact Or.inr rfl) (pe_lc (own := [("_law_k", 6)]) rfl sc_law.nd (pi_range1 (by rfl) T.z_range (pa_cons pe_int pa_nil)) (blkOk_by (own := [("_law_k", 6)]) (N := N_law) (sc := defScope s_law) (by decide +kernel)) (fun _ _ _ _ _ => (pg_name (i := 6) sc_law.nd rfl (by first | exact Or.inl rfl | exact Or.inr rfl))) (fun _ _ _ _ _ => pts_nil) (fun _ _ _ _ _ => (pe_call G_law_part (hr.mono (by decide)) rfl T.g__law_part k_law_part b_law_part .nil pass0 (pa_cons (pv 1) pa_nil)))))
    (pss_cons (ps_if (pt_cmpR ((op_eqR rfl (eqc T) (hr.mono (by decide))).or ((op_eqO rfl (eqc T) (hr.mono (by decide))).or (op_eqU rfl hr.units))) (pe_call G_law_take (hr.mono (by decide)) rfl T.g__law_take k_law_take b_law_take .nil pass0 (pa_cons (pv 1) (pa_cons pe_int pa_nil))) pe_int (by first | exact nomark _ | rfl))
    (pss_one (ps_set (i := 2) sc_law.nd rfl (by first | exact Or.inl rfl | exact Or.inr rfl) (pe_op op_mulU (pe_lst (pa_cons (pe_ix (ix_U (K := K) rfl) (pv 2) pe_int (fun _ _ => rfl)) pa_nil)) pe_int)))
    pss_nil)
    (pss_cons (ps_set (i := 3) sc_law.nd rfl (by first | exact Or.inl rfl | exact Or.inr rfl) (pe_call G_law_made (hr.mono (by decide)) rfl T.g__law_made k_law_made b_law_made .nil pass0 (pa_cons (pv 2) pa_nil)))
    (pss_cons (ps_set (i := 4) sc_law.nd rfl (by first | exact Or.inl rfl | exact Or.inr rfl) (pe_call G_law_made (hr.mono (by decide)) rfl T.g__law_made k_law_made b_law_made .nil pass0 (pa_cons (pe_callTy (call_lstU (K := K) rfl) (by rfl) T.z_list (by decide +kernel) (pa_cons (pv 2) pa_nil)) pa_nil)))
    (pss_cons (ps_set (i := 5) sc_law.nd rfl (by first | exact Or.inl rfl | exact Or.inr rfl) (pe_call0 G_law_many (hr.mono (by decide)) rfl T.g__law_many k_law_many b_law_many .nil pass0))
    (pss_cons (ps_if (PW.pt (pw_or (pt_cmpR (op_neU rfl hr.units) (pe_call G_law_kept (hr.mono (by decide)) rfl T.g__law_kept k_law_kept b_law_kept .nil pass0 (pa_cons (pv 3) pa_nil)) (pe_lc (own := [("_law_k", 6)]) rfl sc_law.nd (pi_seq (pv 5)) (blkOk_by (own := [("_law_k", 6)]) (N := N_law) (sc := defScope s_law) (by decide +kernel)) (fun _ _ _ _ _ => (pg_name (i := 6) sc_law.nd rfl (by first | exact Or.inl rfl | exact Or.inr rfl))) (fun _ _ _ _ _ => pts_nil) (fun _ _ _ _ _ => (pe_slice (sl_U rfl) (pv 2) po_none (po_some (pv 6))))) (by first | exact nomark _ | rfl)) (pw_or1 (pt_cmpR (op_inU rfl (Room.u65 hr)) pe_bl (pe_call G_law_is_kind (hr.mono (by decide)) rfl T.g__law_is_kind k_law_is_kind b_law_is_kind .nil pass0 (pa_cons (pv 3) pa_nil)) (by first | exact nomark _ | rfl)))))
    (pss_one (ps_ret pe_bl))
    pss_nil)
    (pss_cons (ps_for PassesOwn.never rfl (pi_range1 (by rfl) T.z_range (pa_cons (pe_callB (call_lenU (K := K) rfl) (by rfl) T.z_len (by decide +kernel) (pa_cons (pv 3) pa_nil)) pa_nil)) (pg_name (i := 6) sc_law.nd rfl (by first | exact Or.inl rfl | exact Or.inr rfl))
    (pss_cons (ps_if (PW.pt (pw_or (pt_not (pt_cmpR ((op_eqR rfl (eqc T) (hr.mono (by decide))).or ((op_eqO rfl (eqc T) (hr.mono (by decide))).or (op_eqU rfl hr.units))) (pe_ix (ix_U (K := K) rfl) (pv 3) (pv 6) (fun _ _ => rfl)) (pe_ix (ix_U (K := K) rfl) (pv 4) (pv 6) (fun _ _ => rfl)) (by first | exact nomark _ | rfl))) (pw_or1 (pt_not (pt_cmpR ((op_eqR rfl (eqc T) (hr.mono (by decide))).or ((op_eqO rfl (eqc T) (hr.mono (by decide))).or (op_eqU rfl hr.units))) (pe_ix (ix_U (K := K) rfl) (pv 4) (pv 6) (fun _ _ => rfl)) (pe_ix (ix_U (K := K) rfl) (pv 3) (pv 6) (fun _ _ => rfl)) (by first | exact nomark _ | rfl))))))
    (pss_one (ps_ret pe_bl))
    pss_nil)
    (pss_cons (ps_for PassesOwn.never rfl (pi_seq (pe_tup (pa_cons pe_non (pa_cons (pe_callTy (call_tupU (K := K) rfl) (by rfl) T.z_tuple (by decide +kernel) (pa_cons (pe_slice (sl_U rfl) (pv 2) po_none (po_some (pe_ix (ix_U (K := K) rfl) (pv 5) (pv 6) (fun _ _ => rfl)))) pa_nil)) (pa_cons (pe_slice (sl_U rfl) (pv 2) po_none (po_some (pe_ix (ix_U (K := K) rfl) (pv 5) (pv 6) (fun _ _ => rfl)))) (pa_cons pe_int (pa_cons pe_str (pa_cons (pe_ix (ix_U (K := K) rfl) (pv 2) pe_int (fun _ _ => rfl)) pa_nil)))))))) (pg_name (i := 7) sc_law.nd rfl (by first | exact Or.inl rfl | exact Or.inr rfl))
    (pss_one (ps_if (PW.pt (pw_or (pt_cmpR ((op_eqR rfl (eqc T) (hr.mono (by decide))).or ((op_eqO rfl (eqc T) (hr.mono (by decide))).or (op_eqU rfl hr.units))) (pe_ix (ix_U (K := K) rfl) (pv 3) (pv 6) (fun _ _ => rfl)) (pv 7) (by first | exact nomark _ | rfl)) (pw_or1 (pt_cmpR ((op_eqR rfl (eqc T) (hr.mono (by decide))).or ((op_eqO rfl (eqc T) (hr.mono (by decide))).or (op_eqU rfl hr.units))) (pv 7) (pe_ix (ix_U (K := K) rfl) (pv 3) (pv 6) (fun _ _ => rfl)) (by first | exact nomark _ | rfl)))))
    (pss_one (ps_ret pe_bl))
    pss_nil)))
    (pss_one (ps_for PassesOwn.never rfl (pi_range1 (by rfl) T.z_range (pa_cons (pe_callB (call_lenU (K := K) rfl) (by rfl) T.z_len (by decide +kernel) (pa_cons (pv 3) pa_nil)) pa_nil)) (pg_name (i := 8) sc_law.nd rfl (by first | exact Or.inl rfl | exact Or.inr rfl))
    (pss_one (ps_if (PW.pt (pw_and (pt_cmpR (op_neU rfl hr.units) (pv 8) (pv 6) (by first | exact nomark _ | rfl)) (pw_and1 (pt_cmpR ((op_eqR rfl (eqc T) (hr.mono (by decide))).or ((op_eqO rfl (eqc T) (hr.mono (by decide))).or (op_eqU rfl hr.units))) (pe_ix (ix_U (K := K) rfl) (pv 3) (pv 6) (fun _ _ => rfl)) (pe_ix (ix_U (K := K) rfl) (pv 3) (pv 8) (fun _ _ => rfl)) (by first | exact nomark _ | rfl)))))
    (pss_one (ps_ret pe_bl))
    pss_nil)))))))
    (pss_cons (ps_for PassesOwn.never rfl (pi_range1 (by rfl) T.z_range (pa_cons pe_int pa_nil)) (pg_name (i := 9) sc_law.nd rfl (by first | exact Or.inl rfl | exact Or.inr rfl))
    (pss_cons (ps_set (i := 10) sc_law.nd rfl (by first | exact Or.inl rfl | exact Or.inr rfl) (pe_call G_law_made (hr.mono (by decide)) rfl T.g__law_made k_law_made b_law_made .nil pass0 (pa_cons (pe_op (op_addU rfl) (pe_op (op_addU rfl) (pe_slice (sl_U rfl) (pv 2) po_none (po_some (pv 9))) (pe_lst (pa_cons (pe_tup (pa_cons (pe_ix (ix_U (K := K) rfl) (pv 2) (pv 9) (fun _ _ => rfl)) (pa_cons pe_int pa_nil))) pa_nil))) (pe_slice (sl_U rfl) (pv 2) (po_some (pe_op (op_addU rfl) (pv 9) pe_int)) po_none)) pa_nil)))
    (pss_one (ps_for PassesOwn.never rfl (pi_range1 (by rfl) T.z_range (pa_cons (pe_callB (call_lenU (K := K) rfl) (by rfl) T.z_len (by decide +kernel) (pa_cons (pv 3) pa_nil)) pa_nil)) (pg_name (i := 6) sc_law.nd rfl (by first | exact Or.inl rfl | exact Or.inr rfl))
    (pss_one (ps_if (PW.pt (pw_or (PW.pt (pw_and (pt_cmpR (op_ltU rfl hr.units0) (pv 9) (pe_ix (ix_U (K := K) rfl) (pv 5) (pv 6) (fun _ _ => rfl)) (by first | exact nomark _ | rfl)) (pw_and1 (PW.pt (pw_or (pt_cmpR ((op_eqR rfl (eqc T) (hr.mono (by decide))).or ((op_eqO rfl (eqc T) (hr.mono (by decide))).or (op_eqU rfl hr.units))) (pe_ix (ix_U (K := K) rfl) (pv 3) (pv 6) (fun _ _ => rfl)) (pe_ix (ix_U (K := K) rfl) (pv 10) (pv 6) (fun _ _ => rfl)) (by first | exact nomark _ | rfl)) (pw_or1 (pt_cmpR ((op_eqR rfl (eqc T) (hr.mono (by decide))).or ((op_eqO rfl (eqc T) (hr.mono (by decide))).or (op_eqU rfl hr.units))) (pe_ix (ix_U (K := K) rfl) (pv 10) (pv 6) (fun _ _ => rfl)) (pe_ix (ix_U (K := K) rfl) (pv 3) (pv 6) (fun _ _ => rfl)) (by first | exact nomark _ | rfl)))))))) (pw_or1 (PW.pt (pw_and (pt_cmpR op_ge (pv 9) (pe_ix (ix_U (K := K) rfl) (pv 5) (pv 6) (fun _ _ => rfl)) (by first | exact nomark _ | rfl)) (pw_and1 (pt_not (pt_cmpR ((op_eqR rfl (eqc T) (hr.mono (by decide))).or ((op_eqO rfl (eqc T) (hr.mono (by decide))).or (op_eqU rfl hr.units))) (pe_ix (ix_U (K := K) rfl) (pv 3) (pv 6) (fun _ _ => rfl)) (pe_ix (ix_U (K := K) rfl) (pv 10) (pv 6) (fun _ _ => rfl)) (by first | exact nomark _ | rfl)))))))))
    (pss_one (ps_ret pe_bl))
    pss_nil))))))
    (pss_one (ps_ret (pe_cmpR ((op_eqR rfl (eqc T) (hr.mono (by decide))).or ((op_eqO rfl (eqc T) (hr.mono (by decide))).or (op_eqU rfl hr.units))) (pe_call G_law_kept (hr.mono (by decide)) rfl T.g__law_kept k_law_kept b_law_kept .nil pass0 (pa_cons (pv 3) pa_nil)) (pe_lc (own := [("_law_k", 6)]) rfl sc_law.nd (pi_seq (pv 5)) (blkOk_by (own := [("_law_k", 6)]) (N := N_law) (sc := defScope s_law) (by decide +kernel)) (fun _ _ _ _ _ => (pg_name (i := 6) sc_law.nd rfl (by first | exact Or.inl rfl | exact Or.inr rfl))) (fun _ _ _ _ _ => pts_nil) (fun _ _ _ _ _ => (pe_slice (sl_U rfl) (pv 2) po_none (po_some (pv 6))))) (by first | exact nomark _ | rfl))))))))))))), ?_⟩
    exact body_law rfl h g fun H X hd => (dst_seq (dst_asg (DEg.cln (df_lc (di_rng1 (db_cons (DEg.bor (de_int 5)) db_nil)) (dg_name 6) dt_yes (de_call0 dv_nil (ds_hand (i := 1) ds_nil)))) (dg_name 2))
    (dst_of S_law_r3_eq
    (dst_seq (dst_if (dt_test (de_eqB (eqt T) (de_call0 dv_nil (ds_hand (i := 1) (ds_cons (de_int 3) ds_nil))) (de_int 0)))
    (dst_asg (dg_op od_mul (DEg.bor (DEg.cln (df_lst (da_cons (dg_op od_ix (db_var 2) (DEg.bor (de_int 0))) da_nil)))) (DEg.bor (de_int 5))) (dg_name 2))
    dst_next)
    (dst_of S_law_r5_eq
    (dst_seq (dst_asg (de_call0 dv_nil (ds_cons (de_var 2) ds_nil)) (dg_name 3))
    (dst_of S_law_r6_eq
    (dst_seq (dst_asg (de_call0 dv_nil (ds_cons (DEg.cln (dg_cb cg_lst (db_cons (db_var 2) db_nil))) ds_nil)) (dg_name 4))
    (dst_of S_law_r7_eq
    (dst_seq (dst_asg (de_call0 dv_nil ds_nil) (dg_name 5))
    (dst_of S_law_r8_eq
    (dst_seq (dst_if (dt_or (dt_test (dg_op od_ne (DEg.bor (de_call0 dv_nil (ds_cons (de_var 3) ds_nil))) (DEg.bor (DEg.cln (df_lc (di_seq (R := Bor) (db_var 5)) (dg_name 6) dt_yes (dg_sl sg_U (db_var 2) do_none (do_some (de_var 6)))))))) (dt_test (dg_op od_in (DEg.bor (de_bl false)) (DEg.bor (de_call0 dv_nil (ds_cons (de_var 3) ds_nil))))))
    (dst_ret (de_bl false))
    dst_next)
    (dst_of S_law_r10_eq
    (dst_seq (dst_for (di_rng1 (db_cons (DEg.bor (dg_cb cg_len (db_cons (db_var 3) db_nil))) db_nil)) (dg_name 6)
    (dst_of S_law_b11_eq
    (dst_seq (dst_if (dt_or (dt_not (dt_test (de_eqB (eqt T) (dg_op od_ix (db_var 3) (db_var 6)) (dg_op od_ix (db_var 4) (db_var 6))))) (dt_not (dt_test (de_eqB (eqt T) (dg_op od_ix (db_var 4) (db_var 6)) (dg_op od_ix (db_var 3) (db_var 6))))))
    (dst_ret (de_bl false))
    dst_next)
    (dst_of S_law_r13_eq
    (dst_seq (dst_for (di_seq (R := Cln) (de_tup (da_cons de_non (da_cons (dg_cb cg_tup (db_cons (DEg.bor (dg_sl sg_U (db_var 2) do_none (do_some (dg_op od_ix (db_var 5) (db_var 6))))) db_nil)) (da_cons (dg_sl sg_U (db_var 2) do_none (do_some (dg_op od_ix (db_var 5) (db_var 6)))) (da_cons (de_int 0) (da_cons (de_str "") (da_cons (dg_op od_ix (db_var 2) (DEg.bor (de_int 0))) da_nil)))))))) (dg_name 7)
    (dst_of S_law_b14_eq
    (dst_if (dt_or (dt_test (de_eqB (eqt T) (dg_op od_ix (db_var 3) (db_var 6)) (de_var 7))) (dt_test (de_eqB (eqt T) (de_var 7) (dg_op od_ix (db_var 3) (db_var 6)))))
    (dst_ret (de_bl false))
    dst_next)))
    (dst_of S_law_r16_eq
    (dst_for (di_rng1 (db_cons (DEg.bor (dg_cb cg_len (db_cons (db_var 3) db_nil))) db_nil)) (dg_name 8)
    (dst_of S_law_b17_eq
    (dst_if (dt_and (dt_test (dg_op od_ne (db_var 8) (db_var 6))) (dt_test (de_eqB (eqt T) (dg_op od_ix (db_var 3) (db_var 6)) (dg_op od_ix (db_var 3) (db_var 8)))))
    (dst_ret (de_bl false))
    dst_next)))))))))
    (dst_of S_law_r19_eq
    (dst_seq (dst_for (di_rng1 (db_cons (DEg.bor (de_int 5)) db_nil)) (dg_name 9)
    (dst_of S_law_b20_eq
    (dst_seq (dst_asg (de_call0 dv_nil (ds_cons (dg_op od_add (DEg.bor (dg_op od_add (DEg.bor (dg_sl sg_U (db_var 2) do_none (do_some (de_var 9)))) (DEg.bor (DEg.cln (df_lst (da_cons (de_tup (da_cons (dg_op od_ix (db_var 2) (db_var 9)) (da_cons (de_int 7) da_nil))) da_nil)))))) (DEg.bor (dg_sl sg_U (db_var 2) (do_some (dg_op od_add (db_var 9) (DEg.bor (de_int 1)))) do_none))) ds_nil)) (dg_name 10))
    (dst_of S_law_r21_eq
    (dst_for (di_rng1 (db_cons (DEg.bor (dg_cb cg_len (db_cons (db_var 3) db_nil))) db_nil)) (dg_name 6)
    (dst_of S_law_b22_eq
    (dst_if (dt_or (dt_and (dt_test (dg_op od_lt (db_var 9) (DEg.bor (dg_op od_ix (db_var 5) (db_var 6))))) (dt_or (dt_test (de_eqB (eqt T) (dg_op od_ix (db_var 3) (db_var 6)) (dg_op od_ix (db_var 10) (db_var 6)))) (dt_test (de_eqB (eqt T) (dg_op od_ix (db_var 10) (db_var 6)) (dg_op od_ix (db_var 3) (db_var 6)))))) (dt_and (dt_test (dg_op od_ge (db_var 9) (DEg.bor (dg_op od_ix (db_var 5) (db_var 6))))) (dt_not (dt_test (de_eqB (eqt T) (dg_op od_ix (db_var 3) (db_var 6)) (dg_op od_ix (db_var 10) (db_var 6)))))))
    (dst_ret (de_bl false))
    dst_next)))))))
    (dst_of S_law_r24_eq
    (dst_ret (de_eqB (eqt T) (de_call0 dv_nil (ds_cons (de_var 3) ds_nil)) (DEg.cln (df_lc (di_seq (R := Bor) (db_var 5)) (dg_name 6) dt_yes (dg_sl sg_U (db_var 2) do_none (do_some (de_var 6)))))))))))))))))))))))
end Mine

namespace Mine
open PySem PySem.Spec PyProof.Rows L2
def q_NearPair___init : He5.DefA := ⟨fun K => (He.ma K (He.ga K "NearPair") "__init__"), "__init__", "NearPair.__init__", defArgs s_NearPair___init, defBody s_NearPair___init, defScope s_NearPair___init, [], []⟩
def q_NearPair___eq : He5.DefA := ⟨fun K => (He.ma K (He.ga K "NearPair") "__eq__"), "__eq__", "NearPair.__eq__", defArgs s_NearPair___eq, defBody s_NearPair___eq, defScope s_NearPair___eq, [], []⟩
def q_Thinned___init : He5.DefA := ⟨fun K => (He.ma K (He.ga K "Thinned") "__init__"), "__init__", "Thinned.__init__", defArgs s_Thinned___init, defBody s_Thinned___init, defScope s_Thinned___init, [], []⟩
def q_Thinned___eq : He5.DefA := ⟨fun K => (He.ma K (He.ga K "Thinned") "__eq__"), "__eq__", "Thinned.__eq__", defArgs s_Thinned___eq, defBody s_Thinned___eq, defScope s_Thinned___eq, [], []⟩
def q_Web___init : He5.DefA := ⟨fun K => (He.ma K (He.ga K "Web") "__init__"), "__init__", "Web.__init__", defArgs s_Web___init, defBody s_Web___init, defScope s_Web___init, [], []⟩
def q_Web___eq : He5.DefA := ⟨fun K => (He.ma K (He.ga K "Web") "__eq__"), "__eq__", "Web.__eq__", defArgs s_Web___eq, defBody s_Web___eq, defScope s_Web___eq, [], []⟩
def q_Told___init : He5.DefA := ⟨fun K => (He.ma K (He.ga K "Told") "__init__"), "__init__", "Told.__init__", defArgs s_Told___init, defBody s_Told___init, defScope s_Told___init, [], []⟩
def q_Told___eq : He5.DefA := ⟨fun K => (He.ma K (He.ga K "Told") "__eq__"), "__eq__", "Told.__eq__", defArgs s_Told___eq, defBody s_Told___eq, defScope s_Told___eq, [], []⟩
def q_Clash___init : He5.DefA := ⟨fun K => (He.ma K (He.ga K "Clash") "__init__"), "__init__", "Clash.__init__", defArgs s_Clash___init, defBody s_Clash___init, defScope s_Clash___init, [], []⟩
def q_Clash___eq : He5.DefA := ⟨fun K => (He.ma K (He.ga K "Clash") "__eq__"), "__eq__", "Clash.__eq__", defArgs s_Clash___eq, defBody s_Clash___eq, defScope s_Clash___eq, [], []⟩
def q_TwoCuts___init : He5.DefA := ⟨fun K => (He.ma K (He.ga K "TwoCuts") "__init__"), "__init__", "TwoCuts.__init__", defArgs s_TwoCuts___init, defBody s_TwoCuts___init, defScope s_TwoCuts___init, [], []⟩
def q_TwoCuts___eq : He5.DefA := ⟨fun K => (He.ma K (He.ga K "TwoCuts") "__eq__"), "__eq__", "TwoCuts.__eq__", defArgs s_TwoCuts___eq, defBody s_TwoCuts___eq, defScope s_TwoCuts___eq, [], []⟩
def q_Best___init : He5.DefA := ⟨fun K => (He.ma K (He.ga K "Best") "__init__"), "__init__", "Best.__init__", defArgs s_Best___init, defBody s_Best___init, defScope s_Best___init, [], []⟩
def q_Best___eq : He5.DefA := ⟨fun K => (He.ma K (He.ga K "Best") "__eq__"), "__eq__", "Best.__eq__", defArgs s_Best___eq, defBody s_Best___eq, defScope s_Best___eq, [], []⟩
def q_RunPair___init : He5.DefA := ⟨fun K => (He.ma K (He.ga K "RunPair") "__init__"), "__init__", "RunPair.__init__", defArgs s_RunPair___init, defBody s_RunPair___init, defScope s_RunPair___init, [], []⟩
def q_RunPair___eq : He5.DefA := ⟨fun K => (He.ma K (He.ga K "RunPair") "__eq__"), "__eq__", "RunPair.__eq__", defArgs s_RunPair___eq, defBody s_RunPair___eq, defScope s_RunPair___eq, [], []⟩
def q_Tried___init : He5.DefA := ⟨fun K => (He.ma K (He.ga K "Tried") "__init__"), "__init__", "Tried.__init__", defArgs s_Tried___init, defBody s_Tried___init, defScope s_Tried___init, [], []⟩
def q_Tried___eq : He5.DefA := ⟨fun K => (He.ma K (He.ga K "Tried") "__eq__"), "__eq__", "Tried.__eq__", defArgs s_Tried___eq, defBody s_Tried___eq, defScope s_Tried___eq, [], []⟩
def q_MixClash___init : He5.DefA := ⟨fun K => (He.ma K (He.ga K "MixClash") "__init__"), "__init__", "MixClash.__init__", defArgs s_MixClash___init, defBody s_MixClash___init, defScope s_MixClash___init, [], []⟩
def q_MixClash___eq : He5.DefA := ⟨fun K => (He.ma K (He.ga K "MixClash") "__eq__"), "__eq__", "MixClash.__eq__", defArgs s_MixClash___eq, defBody s_MixClash___eq, defScope s_MixClash___eq, [], []⟩
def q_Uneven___init : He5.DefA := ⟨fun K => (He.ma K (He.ga K "Uneven") "__init__"), "__init__", "Uneven.__init__", defArgs s_Uneven___init, defBody s_Uneven___init, defScope s_Uneven___init, [], []⟩
def q_Uneven___eq : He5.DefA := ⟨fun K => (He.ma K (He.ga K "Uneven") "__eq__"), "__eq__", "Uneven.__eq__", defArgs s_Uneven___eq, defBody s_Uneven___eq, defScope s_Uneven___eq, [], []⟩
def q_SumsClash___init : He5.DefA := ⟨fun K => (He.ma K (He.ga K "SumsClash") "__init__"), "__init__", "SumsClash.__init__", defArgs s_SumsClash___init, defBody s_SumsClash___init, defScope s_SumsClash___init, [], []⟩
def q_SumsClash___eq : He5.DefA := ⟨fun K => (He.ma K (He.ga K "SumsClash") "__eq__"), "__eq__", "SumsClash.__eq__", defArgs s_SumsClash___eq, defBody s_SumsClash___eq, defScope s_SumsClash___eq, [], []⟩
def q_TooClose___init : He5.DefA := ⟨fun K => (He.ma K (He.ga K "TooClose") "__init__"), "__init__", "TooClose.__init__", defArgs s_TooClose___init, defBody s_TooClose___init, defScope s_TooClose___init, [], []⟩
def q_TooClose___eq : He5.DefA := ⟨fun K => (He.ma K (He.ga K "TooClose") "__eq__"), "__eq__", "TooClose.__eq__", defArgs s_TooClose___eq, defBody s_TooClose___eq, defScope s_TooClose___eq, [], []⟩
def q_Read___init : He5.DefA := ⟨fun K => (He.ma K (He.ga K "Read") "__init__"), "__init__", "Read.__init__", defArgs s_Read___init, defBody s_Read___init, defScope s_Read___init, [], []⟩
def q_Read___eq : He5.DefA := ⟨fun K => (He.ma K (He.ga K "Read") "__eq__"), "__eq__", "Read.__eq__", defArgs s_Read___eq, defBody s_Read___eq, defScope s_Read___eq, [], []⟩
def q_law_hand : He5.DefA := ⟨fun K => (He.ga K "_law_hand"), "_law_hand", "_law_hand", defArgs s_law_hand, defBody s_law_hand, defScope s_law_hand, [], []⟩
def q_law_mixed : He5.DefA := ⟨fun K => (He.ga K "_law_mixed"), "_law_mixed", "_law_mixed", defArgs s_law_mixed, defBody s_law_mixed, defScope s_law_mixed, [], []⟩
def q_law_take : He5.DefA := ⟨fun K => (He.ga K "_law_take"), "_law_take", "_law_take", defArgs s_law_take, defBody s_law_take, defScope s_law_take, [], []⟩
def q_law_word : He5.DefA := ⟨fun K => (He.ga K "_law_word"), "_law_word", "_law_word", defArgs s_law_word, defBody s_law_word, defScope s_law_word, [], []⟩
def q_law_made : He5.DefA := ⟨fun K => (He.ga K "_law_made"), "_law_made", "_law_made", defArgs s_law_made, defBody s_law_made, defScope s_law_made, [], []⟩
def q_law_many : He5.DefA := ⟨fun K => (He.ga K "_law_many"), "_law_many", "_law_many", defArgs s_law_many, defBody s_law_many, defScope s_law_many, [], []⟩
def q_law_kept : He5.DefA := ⟨fun K => (He.ga K "_law_kept"), "_law_kept", "_law_kept", defArgs s_law_kept, defBody s_law_kept, defScope s_law_kept, [], []⟩
def q_law_is_kind : He5.DefA := ⟨fun K => (He.ga K "_law_is_kind"), "_law_is_kind", "_law_is_kind", defArgs s_law_is_kind, defBody s_law_is_kind, defScope s_law_is_kind, [], []⟩
def q_law_part : He5.DefA := ⟨fun K => (He.ga K "_law_part"), "_law_part", "_law_part", defArgs s_law_part, defBody s_law_part, defScope s_law_part, [], []⟩
def q_law : He5.DefA := ⟨fun K => (He.ga K "law"), "law", "law", defArgs s_law, defBody s_law, defScope s_law, [], []⟩
def fn : List He5.DefA := [q_NearPair___init, q_NearPair___eq, q_Thinned___init, q_Thinned___eq, q_Web___init, q_Web___eq, q_Told___init, q_Told___eq, q_Clash___init, q_Clash___eq, q_TwoCuts___init, q_TwoCuts___eq, q_Best___init, q_Best___eq, q_RunPair___init, q_RunPair___eq, q_Tried___init, q_Tried___eq, q_MixClash___init, q_MixClash___eq, q_Uneven___init, q_Uneven___eq, q_SumsClash___init, q_SumsClash___eq, q_TooClose___init, q_TooClose___eq, q_Read___init, q_Read___eq, q_law_hand, q_law_mixed, q_law_take, q_law_word, q_law_made, q_law_many, q_law_kept, q_law_is_kind, q_law_part, q_law]
def fa : List He.Fa := [.free "isinstance", .glo "NearPair", .glo "Thinned", .glo "Web", .glo "Told", .glo "Clash", .glo "TwoCuts", .glo "Best", .glo "RunPair", .glo "Tried", .glo "MixClash", .glo "Uneven", .glo "SumsClash", .glo "TooClose", .glo "Read", .free "len", .free "int", .free "abs", .glo "_law_mixed", .free "tuple", .free "range", .glo "_law_take", .mkr "NearPair", .mkr "Thinned", .mkr "MixClash", .mkr "Uneven", .mkr "Read", .mkr "TooClose", .mkr "RunPair", .mkr "SumsClash", .mkr "Web", .mkr "Told", .mkr "Clash", .mkr "TwoCuts", .mkr "Best", .mkr "Tried", .glo "_law_word", .glo "_law_hand", .glo "_law_part", .glo "_law_made", .free "list", .glo "_law_many", .glo "_law_is_kind", .glo "_law_kept", .cls "NearPair", .noat "NearPair" "one", .noat "NearPair" "other", .noat "NearPair" "below", .noat "NearPair" "above", .cls "Thinned", .noat "Thinned" "book", .noat "Thinned" "rows", .cls "Web", .noat "Web" "starts", .noat "Web" "rests", .noat "Web" "steps", .cls "Told", .noat "Told" "wait", .noat "Told" "first", .noat "Told" "second", .cls "Clash", .noat "Clash" "first", .noat "Clash" "second", .cls "TwoCuts", .noat "TwoCuts" "first", .noat "TwoCuts" "second", .cls "Best", .noat "Best" "number", .noat "Best" "book", .cls "RunPair", .noat "RunPair" "one", .noat "RunPair" "other", .noat "RunPair" "apart", .noat "RunPair" "longer", .noat "RunPair" "shorter", .cls "Tried", .noat "Tried" "many", .noat "Tried" "borne", .noat "Tried" "runs", .noat "Tried" "told", .noat "Tried" "met", .cls "MixClash", .noat "MixClash" "one", .noat "MixClash" "other", .noat "MixClash" "word", .cls "Uneven", .noat "Uneven" "word", .noat "Uneven" "above", .cls "SumsClash", .noat "SumsClash" "one", .noat "SumsClash" "other", .cls "TooClose", .noat "TooClose" "one", .noat "TooClose" "other", .cls "Read", .noat "Read" "what", .noat "Read" "member", .meth "NearPair" "__eq__", .meth "Thinned" "__eq__", .meth "Web" "__eq__", .meth "Told" "__eq__", .meth "Clash" "__eq__", .meth "TwoCuts" "__eq__", .meth "Best" "__eq__", .meth "RunPair" "__eq__", .meth "Tried" "__eq__", .meth "MixClash" "__eq__", .meth "Uneven" "__eq__", .meth "SumsClash" "__eq__", .meth "TooClose" "__eq__", .meth "Read" "__eq__", .glo "law"]
def ex (K : PySem.W.Frag) : Bool := (eqsB eqsL K && (insB "NearPair" K && (insB "Thinned" K && (insB "Web" K && (insB "Told" K && (insB "Clash" K && (insB "TwoCuts" K && (insB "Best" K && (insB "RunPair" K && (insB "Tried" K && (insB "MixClash" K && (insB "Uneven" K && (insB "SumsClash" K && (insB "TooClose" K && (insB "Read" K && (kinB "NearPair" K && (decide (PySem.W.kitOne K (.ref (He.ga K "NearPair")) (.ref (He.ga K "NearPair")) = some true) && (decide (PySem.W.kitOne K (.ref (He.ga K "Thinned")) (.ref (He.ga K "NearPair")) = some false) && (decide (PySem.W.kitOne K (.ref (He.ga K "Web")) (.ref (He.ga K "NearPair")) = some false) && (decide (PySem.W.kitOne K (.ref (He.ga K "Told")) (.ref (He.ga K "NearPair")) = some false) && (decide (PySem.W.kitOne K (.ref (He.ga K "Clash")) (.ref (He.ga K "NearPair")) = some false) && (decide (PySem.W.kitOne K (.ref (He.ga K "TwoCuts")) (.ref (He.ga K "NearPair")) = some false) && (decide (PySem.W.kitOne K (.ref (He.ga K "Best")) (.ref (He.ga K "NearPair")) = some false) && (decide (PySem.W.kitOne K (.ref (He.ga K "RunPair")) (.ref (He.ga K "NearPair")) = some false) && (decide (PySem.W.kitOne K (.ref (He.ga K "Tried")) (.ref (He.ga K "NearPair")) = some false) && (decide (PySem.W.kitOne K (.ref (He.ga K "MixClash")) (.ref (He.ga K "NearPair")) = some false) && (decide (PySem.W.kitOne K (.ref (He.ga K "Uneven")) (.ref (He.ga K "NearPair")) = some false) && (decide (PySem.W.kitOne K (.ref (He.ga K "SumsClash")) (.ref (He.ga K "NearPair")) = some false) && (decide (PySem.W.kitOne K (.ref (He.ga K "TooClose")) (.ref (He.ga K "NearPair")) = some false) && (decide (PySem.W.kitOne K (.ref (He.ga K "Read")) (.ref (He.ga K "NearPair")) = some false) && (kinB "Thinned" K && (decide (PySem.W.kitOne K (.ref (He.ga K "NearPair")) (.ref (He.ga K "Thinned")) = some false) && (decide (PySem.W.kitOne K (.ref (He.ga K "Thinned")) (.ref (He.ga K "Thinned")) = some true) && (decide (PySem.W.kitOne K (.ref (He.ga K "Web")) (.ref (He.ga K "Thinned")) = some false) && (decide (PySem.W.kitOne K (.ref (He.ga K "Told")) (.ref (He.ga K "Thinned")) = some false) && (decide (PySem.W.kitOne K (.ref (He.ga K "Clash")) (.ref (He.ga K "Thinned")) = some false) && (decide (PySem.W.kitOne K (.ref (He.ga K "TwoCuts")) (.ref (He.ga K "Thinned")) = some false) && (decide (PySem.W.kitOne K (.ref (He.ga K "Best")) (.ref (He.ga K "Thinned")) = some false) && (decide (PySem.W.kitOne K (.ref (He.ga K "RunPair")) (.ref (He.ga K "Thinned")) = some false) && (decide (PySem.W.kitOne K (.ref (He.ga K "Tried")) (.ref (He.ga K "Thinned")) = some false) && (decide (PySem.W.kitOne K (.ref (He.ga K "MixClash")) (.ref (He.ga K "Thinned")) = some false) && (decide (PySem.W.kitOne K (.ref (He.ga K "Uneven")) (.ref (He.ga K "Thinned")) = some false) && (decide (PySem.W.kitOne K (.ref (He.ga K "SumsClash")) (.ref (He.ga K "Thinned")) = some false) && (decide (PySem.W.kitOne K (.ref (He.ga K "TooClose")) (.ref (He.ga K "Thinned")) = some false) && (decide (PySem.W.kitOne K (.ref (He.ga K "Read")) (.ref (He.ga K "Thinned")) = some false) && (kinB "Web" K && (decide (PySem.W.kitOne K (.ref (He.ga K "NearPair")) (.ref (He.ga K "Web")) = some false) && (decide (PySem.W.kitOne K (.ref (He.ga K "Thinned")) (.ref (He.ga K "Web")) = some false) && (decide (PySem.W.kitOne K (.ref (He.ga K "Web")) (.ref (He.ga K "Web")) = some true) && (decide (PySem.W.kitOne K (.ref (He.ga K "Told")) (.ref (He.ga K "Web")) = some false) && (decide (PySem.W.kitOne K (.ref (He.ga K "Clash")) (.ref (He.ga K "Web")) = some false) && (decide (PySem.W.kitOne K (.ref (He.ga K "TwoCuts")) (.ref (He.ga K "Web")) = some false) && (decide (PySem.W.kitOne K (.ref (He.ga K "Best")) (.ref (He.ga K "Web")) = some false) && (decide (PySem.W.kitOne K (.ref (He.ga K "RunPair")) (.ref (He.ga K "Web")) = some false) && (decide (PySem.W.kitOne K (.ref (He.ga K "Tried")) (.ref (He.ga K "Web")) = some false) && (decide (PySem.W.kitOne K (.ref (He.ga K "MixClash")) (.ref (He.ga K "Web")) = some false) && (decide (PySem.W.kitOne K (.ref (He.ga K "Uneven")) (.ref (He.ga K "Web")) = some false) && (decide (PySem.W.kitOne K (.ref (He.ga K "SumsClash")) (.ref (He.ga K "Web")) = some false) && (decide (PySem.W.kitOne K (.ref (He.ga K "TooClose")) (.ref (He.ga K "Web")) = some false) && (decide (PySem.W.kitOne K (.ref (He.ga K "Read")) (.ref (He.ga K "Web")) = some false) && (kinB "Told" K && (decide (PySem.W.kitOne K (.ref (He.ga K "NearPair")) (.ref (He.ga K "Told")) = some false) && (decide (PySem.W.kitOne K (.ref (He.ga K "Thinned")) (.ref (He.ga K "Told")) = some false) && (decide (PySem.W.kitOne K (.ref (He.ga K "Web")) (.ref (He.ga K "Told")) = some false) && (decide (PySem.W.kitOne K (.ref (He.ga K "Told")) (.ref (He.ga K "Told")) = some true) && (decide (PySem.W.kitOne K (.ref (He.ga K "Clash")) (.ref (He.ga K "Told")) = some false) && (decide (PySem.W.kitOne K (.ref (He.ga K "TwoCuts")) (.ref (He.ga K "Told")) = some false) && (decide (PySem.W.kitOne K (.ref (He.ga K "Best")) (.ref (He.ga K "Told")) = some false) && (decide (PySem.W.kitOne K (.ref (He.ga K "RunPair")) (.ref (He.ga K "Told")) = some false) && (decide (PySem.W.kitOne K (.ref (He.ga K "Tried")) (.ref (He.ga K "Told")) = some false) && (decide (PySem.W.kitOne K (.ref (He.ga K "MixClash")) (.ref (He.ga K "Told")) = some false) && (decide (PySem.W.kitOne K (.ref (He.ga K "Uneven")) (.ref (He.ga K "Told")) = some false) && (decide (PySem.W.kitOne K (.ref (He.ga K "SumsClash")) (.ref (He.ga K "Told")) = some false) && (decide (PySem.W.kitOne K (.ref (He.ga K "TooClose")) (.ref (He.ga K "Told")) = some false) && (decide (PySem.W.kitOne K (.ref (He.ga K "Read")) (.ref (He.ga K "Told")) = some false) && (kinB "Clash" K && (decide (PySem.W.kitOne K (.ref (He.ga K "NearPair")) (.ref (He.ga K "Clash")) = some false) && (decide (PySem.W.kitOne K (.ref (He.ga K "Thinned")) (.ref (He.ga K "Clash")) = some false) && (decide (PySem.W.kitOne K (.ref (He.ga K "Web")) (.ref (He.ga K "Clash")) = some false) && (decide (PySem.W.kitOne K (.ref (He.ga K "Told")) (.ref (He.ga K "Clash")) = some false) && (decide (PySem.W.kitOne K (.ref (He.ga K "Clash")) (.ref (He.ga K "Clash")) = some true) && (decide (PySem.W.kitOne K (.ref (He.ga K "TwoCuts")) (.ref (He.ga K "Clash")) = some false) && (decide (PySem.W.kitOne K (.ref (He.ga K "Best")) (.ref (He.ga K "Clash")) = some false) && (decide (PySem.W.kitOne K (.ref (He.ga K "RunPair")) (.ref (He.ga K "Clash")) = some false) && (decide (PySem.W.kitOne K (.ref (He.ga K "Tried")) (.ref (He.ga K "Clash")) = some false) && (decide (PySem.W.kitOne K (.ref (He.ga K "MixClash")) (.ref (He.ga K "Clash")) = some false) && (decide (PySem.W.kitOne K (.ref (He.ga K "Uneven")) (.ref (He.ga K "Clash")) = some false) && (decide (PySem.W.kitOne K (.ref (He.ga K "SumsClash")) (.ref (He.ga K "Clash")) = some false) && (decide (PySem.W.kitOne K (.ref (He.ga K "TooClose")) (.ref (He.ga K "Clash")) = some false) && (decide (PySem.W.kitOne K (.ref (He.ga K "Read")) (.ref (He.ga K "Clash")) = some false) && (kinB "TwoCuts" K && (decide (PySem.W.kitOne K (.ref (He.ga K "NearPair")) (.ref (He.ga K "TwoCuts")) = some false) && (decide (PySem.W.kitOne K (.ref (He.ga K "Thinned")) (.ref (He.ga K "TwoCuts")) = some false) && (decide (PySem.W.kitOne K (.ref (He.ga K "Web")) (.ref (He.ga K "TwoCuts")) = some false) && (decide (PySem.W.kitOne K (.ref (He.ga K "Told")) (.ref (He.ga K "TwoCuts")) = some false) && (decide (PySem.W.kitOne K (.ref (He.ga K "Clash")) (.ref (He.ga K "TwoCuts")) = some false) && (decide (PySem.W.kitOne K (.ref (He.ga K "TwoCuts")) (.ref (He.ga K "TwoCuts")) = some true) && (decide (PySem.W.kitOne K (.ref (He.ga K "Best")) (.ref (He.ga K "TwoCuts")) = some false) && (decide (PySem.W.kitOne K (.ref (He.ga K "RunPair")) (.ref (He.ga K "TwoCuts")) = some false) && (decide (PySem.W.kitOne K (.ref (He.ga K "Tried")) (.ref (He.ga K "TwoCuts")) = some false) && (decide (PySem.W.kitOne K (.ref (He.ga K "MixClash")) (.ref (He.ga K "TwoCuts")) = some false) && (decide (PySem.W.kitOne K (.ref (He.ga K "Uneven")) (.ref (He.ga K "TwoCuts")) = some false) && (decide (PySem.W.kitOne K (.ref (He.ga K "SumsClash")) (.ref (He.ga K "TwoCuts")) = some false) && (decide (PySem.W.kitOne K (.ref (He.ga K "TooClose")) (.ref (He.ga K "TwoCuts")) = some false) && (decide (PySem.W.kitOne K (.ref (He.ga K "Read")) (.ref (He.ga K "TwoCuts")) = some false) && (kinB "Best" K && (decide (PySem.W.kitOne K (.ref (He.ga K "NearPair")) (.ref (He.ga K "Best")) = some false) && (decide (PySem.W.kitOne K (.ref (He.ga K "Thinned")) (.ref (He.ga K "Best")) = some false) && (decide (PySem.W.kitOne K (.ref (He.ga K "Web")) (.ref (He.ga K "Best")) = some false) && (decide (PySem.W.kitOne K (.ref (He.ga K "Told")) (.ref (He.ga K "Best")) = some false) && (decide (PySem.W.kitOne K (.ref (He.ga K "Clash")) (.ref (He.ga K "Best")) = some false) && (decide (PySem.W.kitOne K (.ref (He.ga K "TwoCuts")) (.ref (He.ga K "Best")) = some false) && (decide (PySem.W.kitOne K (.ref (He.ga K "Best")) (.ref (He.ga K "Best")) = some true) && (decide (PySem.W.kitOne K (.ref (He.ga K "RunPair")) (.ref (He.ga K "Best")) = some false) && (decide (PySem.W.kitOne K (.ref (He.ga K "Tried")) (.ref (He.ga K "Best")) = some false) && (decide (PySem.W.kitOne K (.ref (He.ga K "MixClash")) (.ref (He.ga K "Best")) = some false) && (decide (PySem.W.kitOne K (.ref (He.ga K "Uneven")) (.ref (He.ga K "Best")) = some false) && (decide (PySem.W.kitOne K (.ref (He.ga K "SumsClash")) (.ref (He.ga K "Best")) = some false) && (decide (PySem.W.kitOne K (.ref (He.ga K "TooClose")) (.ref (He.ga K "Best")) = some false) && (decide (PySem.W.kitOne K (.ref (He.ga K "Read")) (.ref (He.ga K "Best")) = some false) && (kinB "RunPair" K && (decide (PySem.W.kitOne K (.ref (He.ga K "NearPair")) (.ref (He.ga K "RunPair")) = some false) && (decide (PySem.W.kitOne K (.ref (He.ga K "Thinned")) (.ref (He.ga K "RunPair")) = some false) && (decide (PySem.W.kitOne K (.ref (He.ga K "Web")) (.ref (He.ga K "RunPair")) = some false) && (decide (PySem.W.kitOne K (.ref (He.ga K "Told")) (.ref (He.ga K "RunPair")) = some false) && (decide (PySem.W.kitOne K (.ref (He.ga K "Clash")) (.ref (He.ga K "RunPair")) = some false) && (decide (PySem.W.kitOne K (.ref (He.ga K "TwoCuts")) (.ref (He.ga K "RunPair")) = some false) && (decide (PySem.W.kitOne K (.ref (He.ga K "Best")) (.ref (He.ga K "RunPair")) = some false) && (decide (PySem.W.kitOne K (.ref (He.ga K "RunPair")) (.ref (He.ga K "RunPair")) = some true) && (decide (PySem.W.kitOne K (.ref (He.ga K "Tried")) (.ref (He.ga K "RunPair")) = some false) && (decide (PySem.W.kitOne K (.ref (He.ga K "MixClash")) (.ref (He.ga K "RunPair")) = some false) && (decide (PySem.W.kitOne K (.ref (He.ga K "Uneven")) (.ref (He.ga K "RunPair")) = some false) && (decide (PySem.W.kitOne K (.ref (He.ga K "SumsClash")) (.ref (He.ga K "RunPair")) = some false) && (decide (PySem.W.kitOne K (.ref (He.ga K "TooClose")) (.ref (He.ga K "RunPair")) = some false) && (decide (PySem.W.kitOne K (.ref (He.ga K "Read")) (.ref (He.ga K "RunPair")) = some false) && (kinB "Tried" K && (decide (PySem.W.kitOne K (.ref (He.ga K "NearPair")) (.ref (He.ga K "Tried")) = some false) && (decide (PySem.W.kitOne K (.ref (He.ga K "Thinned")) (.ref (He.ga K "Tried")) = some false) && (decide (PySem.W.kitOne K (.ref (He.ga K "Web")) (.ref (He.ga K "Tried")) = some false) && (decide (PySem.W.kitOne K (.ref (He.ga K "Told")) (.ref (He.ga K "Tried")) = some false) && (decide (PySem.W.kitOne K (.ref (He.ga K "Clash")) (.ref (He.ga K "Tried")) = some false) && (decide (PySem.W.kitOne K (.ref (He.ga K "TwoCuts")) (.ref (He.ga K "Tried")) = some false) && (decide (PySem.W.kitOne K (.ref (He.ga K "Best")) (.ref (He.ga K "Tried")) = some false) && (decide (PySem.W.kitOne K (.ref (He.ga K "RunPair")) (.ref (He.ga K "Tried")) = some false) && (decide (PySem.W.kitOne K (.ref (He.ga K "Tried")) (.ref (He.ga K "Tried")) = some true) && (decide (PySem.W.kitOne K (.ref (He.ga K "MixClash")) (.ref (He.ga K "Tried")) = some false) && (decide (PySem.W.kitOne K (.ref (He.ga K "Uneven")) (.ref (He.ga K "Tried")) = some false) && (decide (PySem.W.kitOne K (.ref (He.ga K "SumsClash")) (.ref (He.ga K "Tried")) = some false) && (decide (PySem.W.kitOne K (.ref (He.ga K "TooClose")) (.ref (He.ga K "Tried")) = some false) && (decide (PySem.W.kitOne K (.ref (He.ga K "Read")) (.ref (He.ga K "Tried")) = some false) && (kinB "MixClash" K && (decide (PySem.W.kitOne K (.ref (He.ga K "NearPair")) (.ref (He.ga K "MixClash")) = some false) && (decide (PySem.W.kitOne K (.ref (He.ga K "Thinned")) (.ref (He.ga K "MixClash")) = some false) && (decide (PySem.W.kitOne K (.ref (He.ga K "Web")) (.ref (He.ga K "MixClash")) = some false) && (decide (PySem.W.kitOne K (.ref (He.ga K "Told")) (.ref (He.ga K "MixClash")) = some false) && (decide (PySem.W.kitOne K (.ref (He.ga K "Clash")) (.ref (He.ga K "MixClash")) = some false) && (decide (PySem.W.kitOne K (.ref (He.ga K "TwoCuts")) (.ref (He.ga K "MixClash")) = some false) && (decide (PySem.W.kitOne K (.ref (He.ga K "Best")) (.ref (He.ga K "MixClash")) = some false) && (decide (PySem.W.kitOne K (.ref (He.ga K "RunPair")) (.ref (He.ga K "MixClash")) = some false) && (decide (PySem.W.kitOne K (.ref (He.ga K "Tried")) (.ref (He.ga K "MixClash")) = some false) && (decide (PySem.W.kitOne K (.ref (He.ga K "MixClash")) (.ref (He.ga K "MixClash")) = some true) && (decide (PySem.W.kitOne K (.ref (He.ga K "Uneven")) (.ref (He.ga K "MixClash")) = some false) && (decide (PySem.W.kitOne K (.ref (He.ga K "SumsClash")) (.ref (He.ga K "MixClash")) = some false) && (decide (PySem.W.kitOne K (.ref (He.ga K "TooClose")) (.ref (He.ga K "MixClash")) = some false) && (decide (PySem.W.kitOne K (.ref (He.ga K "Read")) (.ref (He.ga K "MixClash")) = some false) && (kinB "Uneven" K && (decide (PySem.W.kitOne K (.ref (He.ga K "NearPair")) (.ref (He.ga K "Uneven")) = some false) && (decide (PySem.W.kitOne K (.ref (He.ga K "Thinned")) (.ref (He.ga K "Uneven")) = some false) && (decide (PySem.W.kitOne K (.ref (He.ga K "Web")) (.ref (He.ga K "Uneven")) = some false) && (decide (PySem.W.kitOne K (.ref (He.ga K "Told")) (.ref (He.ga K "Uneven")) = some false) && (decide (PySem.W.kitOne K (.ref (He.ga K "Clash")) (.ref (He.ga K "Uneven")) = some false) && (decide (PySem.W.kitOne K (.ref (He.ga K "TwoCuts")) (.ref (He.ga K "Uneven")) = some false) && (decide (PySem.W.kitOne K (.ref (He.ga K "Best")) (.ref (He.ga K "Uneven")) = some false) && (decide (PySem.W.kitOne K (.ref (He.ga K "RunPair")) (.ref (He.ga K "Uneven")) = some false) && (decide (PySem.W.kitOne K (.ref (He.ga K "Tried")) (.ref (He.ga K "Uneven")) = some false) && (decide (PySem.W.kitOne K (.ref (He.ga K "MixClash")) (.ref (He.ga K "Uneven")) = some false) && (decide (PySem.W.kitOne K (.ref (He.ga K "Uneven")) (.ref (He.ga K "Uneven")) = some true) && (decide (PySem.W.kitOne K (.ref (He.ga K "SumsClash")) (.ref (He.ga K "Uneven")) = some false) && (decide (PySem.W.kitOne K (.ref (He.ga K "TooClose")) (.ref (He.ga K "Uneven")) = some false) && (decide (PySem.W.kitOne K (.ref (He.ga K "Read")) (.ref (He.ga K "Uneven")) = some false) && (kinB "SumsClash" K && (decide (PySem.W.kitOne K (.ref (He.ga K "NearPair")) (.ref (He.ga K "SumsClash")) = some false) && (decide (PySem.W.kitOne K (.ref (He.ga K "Thinned")) (.ref (He.ga K "SumsClash")) = some false) && (decide (PySem.W.kitOne K (.ref (He.ga K "Web")) (.ref (He.ga K "SumsClash")) = some false) && (decide (PySem.W.kitOne K (.ref (He.ga K "Told")) (.ref (He.ga K "SumsClash")) = some false) && (decide (PySem.W.kitOne K (.ref (He.ga K "Clash")) (.ref (He.ga K "SumsClash")) = some false) && (decide (PySem.W.kitOne K (.ref (He.ga K "TwoCuts")) (.ref (He.ga K "SumsClash")) = some false) && (decide (PySem.W.kitOne K (.ref (He.ga K "Best")) (.ref (He.ga K "SumsClash")) = some false) && (decide (PySem.W.kitOne K (.ref (He.ga K "RunPair")) (.ref (He.ga K "SumsClash")) = some false) && (decide (PySem.W.kitOne K (.ref (He.ga K "Tried")) (.ref (He.ga K "SumsClash")) = some false) && (decide (PySem.W.kitOne K (.ref (He.ga K "MixClash")) (.ref (He.ga K "SumsClash")) = some false) && (decide (PySem.W.kitOne K (.ref (He.ga K "Uneven")) (.ref (He.ga K "SumsClash")) = some false) && (decide (PySem.W.kitOne K (.ref (He.ga K "SumsClash")) (.ref (He.ga K "SumsClash")) = some true) && (decide (PySem.W.kitOne K (.ref (He.ga K "TooClose")) (.ref (He.ga K "SumsClash")) = some false) && (decide (PySem.W.kitOne K (.ref (He.ga K "Read")) (.ref (He.ga K "SumsClash")) = some false) && (kinB "TooClose" K && (decide (PySem.W.kitOne K (.ref (He.ga K "NearPair")) (.ref (He.ga K "TooClose")) = some false) && (decide (PySem.W.kitOne K (.ref (He.ga K "Thinned")) (.ref (He.ga K "TooClose")) = some false) && (decide (PySem.W.kitOne K (.ref (He.ga K "Web")) (.ref (He.ga K "TooClose")) = some false) && (decide (PySem.W.kitOne K (.ref (He.ga K "Told")) (.ref (He.ga K "TooClose")) = some false) && (decide (PySem.W.kitOne K (.ref (He.ga K "Clash")) (.ref (He.ga K "TooClose")) = some false) && (decide (PySem.W.kitOne K (.ref (He.ga K "TwoCuts")) (.ref (He.ga K "TooClose")) = some false) && (decide (PySem.W.kitOne K (.ref (He.ga K "Best")) (.ref (He.ga K "TooClose")) = some false) && (decide (PySem.W.kitOne K (.ref (He.ga K "RunPair")) (.ref (He.ga K "TooClose")) = some false) && (decide (PySem.W.kitOne K (.ref (He.ga K "Tried")) (.ref (He.ga K "TooClose")) = some false) && (decide (PySem.W.kitOne K (.ref (He.ga K "MixClash")) (.ref (He.ga K "TooClose")) = some false) && (decide (PySem.W.kitOne K (.ref (He.ga K "Uneven")) (.ref (He.ga K "TooClose")) = some false) && (decide (PySem.W.kitOne K (.ref (He.ga K "SumsClash")) (.ref (He.ga K "TooClose")) = some false) && (decide (PySem.W.kitOne K (.ref (He.ga K "TooClose")) (.ref (He.ga K "TooClose")) = some true) && (decide (PySem.W.kitOne K (.ref (He.ga K "Read")) (.ref (He.ga K "TooClose")) = some false) && (kinB "Read" K && (decide (PySem.W.kitOne K (.ref (He.ga K "NearPair")) (.ref (He.ga K "Read")) = some false) && (decide (PySem.W.kitOne K (.ref (He.ga K "Thinned")) (.ref (He.ga K "Read")) = some false) && (decide (PySem.W.kitOne K (.ref (He.ga K "Web")) (.ref (He.ga K "Read")) = some false) && (decide (PySem.W.kitOne K (.ref (He.ga K "Told")) (.ref (He.ga K "Read")) = some false) && (decide (PySem.W.kitOne K (.ref (He.ga K "Clash")) (.ref (He.ga K "Read")) = some false) && (decide (PySem.W.kitOne K (.ref (He.ga K "TwoCuts")) (.ref (He.ga K "Read")) = some false) && (decide (PySem.W.kitOne K (.ref (He.ga K "Best")) (.ref (He.ga K "Read")) = some false) && (decide (PySem.W.kitOne K (.ref (He.ga K "RunPair")) (.ref (He.ga K "Read")) = some false) && (decide (PySem.W.kitOne K (.ref (He.ga K "Tried")) (.ref (He.ga K "Read")) = some false) && (decide (PySem.W.kitOne K (.ref (He.ga K "MixClash")) (.ref (He.ga K "Read")) = some false) && (decide (PySem.W.kitOne K (.ref (He.ga K "Uneven")) (.ref (He.ga K "Read")) = some false) && (decide (PySem.W.kitOne K (.ref (He.ga K "SumsClash")) (.ref (He.ga K "Read")) = some false) && (decide (PySem.W.kitOne K (.ref (He.ga K "TooClose")) (.ref (He.ga K "Read")) = some false) && (decide (PySem.W.kitOne K (.ref (He.ga K "Read")) (.ref (He.ga K "Read")) = some true) && true)))))))))))))))))))))))))))))))))))))))))))))))))))))))))))))))))))))))))))))))))))))))))))))))))))))))))))))))))))))))))))))))))))))))))))))))))))))))))))))))))))))))))))))))))))))))))))))))))))))))))))))))))))))))))))))))))
theorem txt_of {K : PySem.W.Frag} {h : Heap} {mg : Str → Option Value} (X : K.In h) (G : h.Ns mainGlobals mg) (c : He5.SaysA fa fn K) (E : ex K = true) : Txt K mg := by
  obtain ⟨E0, E⟩ := He.ba E
  obtain ⟨E1, E⟩ := He.ba E
  obtain ⟨E2, E⟩ := He.ba E
  obtain ⟨E3, E⟩ := He.ba E
  obtain ⟨E4, E⟩ := He.ba E
  obtain ⟨E5, E⟩ := He.ba E
  obtain ⟨E6, E⟩ := He.ba E
  obtain ⟨E7, E⟩ := He.ba E
  obtain ⟨E8, E⟩ := He.ba E
  obtain ⟨E9, E⟩ := He.ba E
  obtain ⟨E10, E⟩ := He.ba E
  obtain ⟨E11, E⟩ := He.ba E
  obtain ⟨E12, E⟩ := He.ba E
  obtain ⟨E13, E⟩ := He.ba E
  obtain ⟨E14, E⟩ := He.ba E
  obtain ⟨E15, E⟩ := He.ba E
  obtain ⟨E16, E⟩ := He.ba E
  obtain ⟨E17, E⟩ := He.ba E
  obtain ⟨E18, E⟩ := He.ba E
  obtain ⟨E19, E⟩ := He.ba E
  obtain ⟨E20, E⟩ := He.ba E
  obtain ⟨E21, E⟩ := He.ba E
  obtain ⟨E22, E⟩ := He.ba E
  obtain ⟨E23, E⟩ := He.ba E
  obtain ⟨E24, E⟩ := He.ba E
  obtain ⟨E25, E⟩ := He.ba E
  obtain ⟨E26, E⟩ := He.ba E
  obtain ⟨E27, E⟩ := He.ba E
  obtain ⟨E28, E⟩ := He.ba E
  obtain ⟨E29, E⟩ := He.ba E
  obtain ⟨E30, E⟩ := He.ba E
  obtain ⟨E31, E⟩ := He.ba E
  obtain ⟨E32, E⟩ := He.ba E
  obtain ⟨E33, E⟩ := He.ba E
  obtain ⟨E34, E⟩ := He.ba E
  obtain ⟨E35, E⟩ := He.ba E
  obtain ⟨E36, E⟩ := He.ba E
  obtain ⟨E37, E⟩ := He.ba E
  obtain ⟨E38, E⟩ := He.ba E
  obtain ⟨E39, E⟩ := He.ba E
  obtain ⟨E40, E⟩ := He.ba E
  obtain ⟨E41, E⟩ := He.ba E
  obtain ⟨E42, E⟩ := He.ba E
  obtain ⟨E43, E⟩ := He.ba E
  obtain ⟨E44, E⟩ := He.ba E
  obtain ⟨E45, E⟩ := He.ba E
  obtain ⟨E46, E⟩ := He.ba E
  obtain ⟨E47, E⟩ := He.ba E
  obtain ⟨E48, E⟩ := He.ba E
  obtain ⟨E49, E⟩ := He.ba E
  obtain ⟨E50, E⟩ := He.ba E
  obtain ⟨E51, E⟩ := He.ba E
  obtain ⟨E52, E⟩ := He.ba E
  obtain ⟨E53, E⟩ := He.ba E
  obtain ⟨E54, E⟩ := He.ba E
  obtain ⟨E55, E⟩ := He.ba E
  obtain ⟨E56, E⟩ := He.ba E
  obtain ⟨E57, E⟩ := He.ba E
  obtain ⟨E58, E⟩ := He.ba E
  obtain ⟨E59, E⟩ := He.ba E
  obtain ⟨E60, E⟩ := He.ba E
  obtain ⟨E61, E⟩ := He.ba E
  obtain ⟨E62, E⟩ := He.ba E
  obtain ⟨E63, E⟩ := He.ba E
  obtain ⟨E64, E⟩ := He.ba E
  obtain ⟨E65, E⟩ := He.ba E
  obtain ⟨E66, E⟩ := He.ba E
  obtain ⟨E67, E⟩ := He.ba E
  obtain ⟨E68, E⟩ := He.ba E
  obtain ⟨E69, E⟩ := He.ba E
  obtain ⟨E70, E⟩ := He.ba E
  obtain ⟨E71, E⟩ := He.ba E
  obtain ⟨E72, E⟩ := He.ba E
  obtain ⟨E73, E⟩ := He.ba E
  obtain ⟨E74, E⟩ := He.ba E
  obtain ⟨E75, E⟩ := He.ba E
  obtain ⟨E76, E⟩ := He.ba E
  obtain ⟨E77, E⟩ := He.ba E
  obtain ⟨E78, E⟩ := He.ba E
  obtain ⟨E79, E⟩ := He.ba E
  obtain ⟨E80, E⟩ := He.ba E
  obtain ⟨E81, E⟩ := He.ba E
  obtain ⟨E82, E⟩ := He.ba E
  obtain ⟨E83, E⟩ := He.ba E
  obtain ⟨E84, E⟩ := He.ba E
  obtain ⟨E85, E⟩ := He.ba E
  obtain ⟨E86, E⟩ := He.ba E
  obtain ⟨E87, E⟩ := He.ba E
  obtain ⟨E88, E⟩ := He.ba E
  obtain ⟨E89, E⟩ := He.ba E
  obtain ⟨E90, E⟩ := He.ba E
  obtain ⟨E91, E⟩ := He.ba E
  obtain ⟨E92, E⟩ := He.ba E
  obtain ⟨E93, E⟩ := He.ba E
  obtain ⟨E94, E⟩ := He.ba E
  obtain ⟨E95, E⟩ := He.ba E
  obtain ⟨E96, E⟩ := He.ba E
  obtain ⟨E97, E⟩ := He.ba E
  obtain ⟨E98, E⟩ := He.ba E
  obtain ⟨E99, E⟩ := He.ba E
  obtain ⟨E100, E⟩ := He.ba E
  obtain ⟨E101, E⟩ := He.ba E
  obtain ⟨E102, E⟩ := He.ba E
  obtain ⟨E103, E⟩ := He.ba E
  obtain ⟨E104, E⟩ := He.ba E
  obtain ⟨E105, E⟩ := He.ba E
  obtain ⟨E106, E⟩ := He.ba E
  obtain ⟨E107, E⟩ := He.ba E
  obtain ⟨E108, E⟩ := He.ba E
  obtain ⟨E109, E⟩ := He.ba E
  obtain ⟨E110, E⟩ := He.ba E
  obtain ⟨E111, E⟩ := He.ba E
  obtain ⟨E112, E⟩ := He.ba E
  obtain ⟨E113, E⟩ := He.ba E
  obtain ⟨E114, E⟩ := He.ba E
  obtain ⟨E115, E⟩ := He.ba E
  obtain ⟨E116, E⟩ := He.ba E
  obtain ⟨E117, E⟩ := He.ba E
  obtain ⟨E118, E⟩ := He.ba E
  obtain ⟨E119, E⟩ := He.ba E
  obtain ⟨E120, E⟩ := He.ba E
  obtain ⟨E121, E⟩ := He.ba E
  obtain ⟨E122, E⟩ := He.ba E
  obtain ⟨E123, E⟩ := He.ba E
  obtain ⟨E124, E⟩ := He.ba E
  obtain ⟨E125, E⟩ := He.ba E
  obtain ⟨E126, E⟩ := He.ba E
  obtain ⟨E127, E⟩ := He.ba E
  obtain ⟨E128, E⟩ := He.ba E
  obtain ⟨E129, E⟩ := He.ba E
  obtain ⟨E130, E⟩ := He.ba E
  obtain ⟨E131, E⟩ := He.ba E
  obtain ⟨E132, E⟩ := He.ba E
  obtain ⟨E133, E⟩ := He.ba E
  obtain ⟨E134, E⟩ := He.ba E
  obtain ⟨E135, E⟩ := He.ba E
  obtain ⟨E136, E⟩ := He.ba E
  obtain ⟨E137, E⟩ := He.ba E
  obtain ⟨E138, E⟩ := He.ba E
  obtain ⟨E139, E⟩ := He.ba E
  obtain ⟨E140, E⟩ := He.ba E
  obtain ⟨E141, E⟩ := He.ba E
  obtain ⟨E142, E⟩ := He.ba E
  obtain ⟨E143, E⟩ := He.ba E
  obtain ⟨E144, E⟩ := He.ba E
  obtain ⟨E145, E⟩ := He.ba E
  obtain ⟨E146, E⟩ := He.ba E
  obtain ⟨E147, E⟩ := He.ba E
  obtain ⟨E148, E⟩ := He.ba E
  obtain ⟨E149, E⟩ := He.ba E
  obtain ⟨E150, E⟩ := He.ba E
  obtain ⟨E151, E⟩ := He.ba E
  obtain ⟨E152, E⟩ := He.ba E
  obtain ⟨E153, E⟩ := He.ba E
  obtain ⟨E154, E⟩ := He.ba E
  obtain ⟨E155, E⟩ := He.ba E
  obtain ⟨E156, E⟩ := He.ba E
  obtain ⟨E157, E⟩ := He.ba E
  obtain ⟨E158, E⟩ := He.ba E
  obtain ⟨E159, E⟩ := He.ba E
  obtain ⟨E160, E⟩ := He.ba E
  obtain ⟨E161, E⟩ := He.ba E
  obtain ⟨E162, E⟩ := He.ba E
  obtain ⟨E163, E⟩ := He.ba E
  obtain ⟨E164, E⟩ := He.ba E
  obtain ⟨E165, E⟩ := He.ba E
  obtain ⟨E166, E⟩ := He.ba E
  obtain ⟨E167, E⟩ := He.ba E
  obtain ⟨E168, E⟩ := He.ba E
  obtain ⟨E169, E⟩ := He.ba E
  obtain ⟨E170, E⟩ := He.ba E
  obtain ⟨E171, E⟩ := He.ba E
  obtain ⟨E172, E⟩ := He.ba E
  obtain ⟨E173, E⟩ := He.ba E
  obtain ⟨E174, E⟩ := He.ba E
  obtain ⟨E175, E⟩ := He.ba E
  obtain ⟨E176, E⟩ := He.ba E
  obtain ⟨E177, E⟩ := He.ba E
  obtain ⟨E178, E⟩ := He.ba E
  obtain ⟨E179, E⟩ := He.ba E
  obtain ⟨E180, E⟩ := He.ba E
  obtain ⟨E181, E⟩ := He.ba E
  obtain ⟨E182, E⟩ := He.ba E
  obtain ⟨E183, E⟩ := He.ba E
  obtain ⟨E184, E⟩ := He.ba E
  obtain ⟨E185, E⟩ := He.ba E
  obtain ⟨E186, E⟩ := He.ba E
  obtain ⟨E187, E⟩ := He.ba E
  obtain ⟨E188, E⟩ := He.ba E
  obtain ⟨E189, E⟩ := He.ba E
  obtain ⟨E190, E⟩ := He.ba E
  obtain ⟨E191, E⟩ := He.ba E
  obtain ⟨E192, E⟩ := He.ba E
  obtain ⟨E193, E⟩ := He.ba E
  obtain ⟨E194, E⟩ := He.ba E
  obtain ⟨E195, E⟩ := He.ba E
  obtain ⟨E196, E⟩ := He.ba E
  obtain ⟨E197, E⟩ := He.ba E
  obtain ⟨E198, E⟩ := He.ba E
  obtain ⟨E199, E⟩ := He.ba E
  obtain ⟨E200, E⟩ := He.ba E
  obtain ⟨E201, E⟩ := He.ba E
  obtain ⟨E202, E⟩ := He.ba E
  obtain ⟨E203, E⟩ := He.ba E
  obtain ⟨E204, E⟩ := He.ba E
  obtain ⟨E205, E⟩ := He.ba E
  obtain ⟨E206, E⟩ := He.ba E
  obtain ⟨E207, E⟩ := He.ba E
  obtain ⟨E208, E⟩ := He.ba E
  obtain ⟨E209, E⟩ := He.ba E
  obtain ⟨E210, E⟩ := He.ba E
  obtain ⟨E211, E⟩ := He.ba E
  obtain ⟨E212, E⟩ := He.ba E
  obtain ⟨E213, E⟩ := He.ba E
  obtain ⟨E214, E⟩ := He.ba E
  obtain ⟨E215, E⟩ := He.ba E
  obtain ⟨E216, E⟩ := He.ba E
  obtain ⟨E217, E⟩ := He.ba E
  obtain ⟨E218, E⟩ := He.ba E
  obtain ⟨E219, E⟩ := He.ba E
  obtain ⟨E220, E⟩ := He.ba E
  obtain ⟨E221, E⟩ := He.ba E
  obtain ⟨E222, E⟩ := He.ba E
  obtain ⟨E223, E⟩ := He.ba E
  obtain ⟨E224, E⟩ := He.ba E
  exact {
    z_isinstance := He.free_ok X G (c.fact 0 (f := .free "isinstance") rfl),
    g_NearPair := He.glo_ok X G (c.fact 1 (f := .glo "NearPair") rfl),
    g_Thinned := He.glo_ok X G (c.fact 2 (f := .glo "Thinned") rfl),
    g_Web := He.glo_ok X G (c.fact 3 (f := .glo "Web") rfl),
    g_Told := He.glo_ok X G (c.fact 4 (f := .glo "Told") rfl),
    g_Clash := He.glo_ok X G (c.fact 5 (f := .glo "Clash") rfl),
    g_TwoCuts := He.glo_ok X G (c.fact 6 (f := .glo "TwoCuts") rfl),
    g_Best := He.glo_ok X G (c.fact 7 (f := .glo "Best") rfl),
    g_RunPair := He.glo_ok X G (c.fact 8 (f := .glo "RunPair") rfl),
    g_Tried := He.glo_ok X G (c.fact 9 (f := .glo "Tried") rfl),
    g_MixClash := He.glo_ok X G (c.fact 10 (f := .glo "MixClash") rfl),
    g_Uneven := He.glo_ok X G (c.fact 11 (f := .glo "Uneven") rfl),
    g_SumsClash := He.glo_ok X G (c.fact 12 (f := .glo "SumsClash") rfl),
    g_TooClose := He.glo_ok X G (c.fact 13 (f := .glo "TooClose") rfl),
    g_Read := He.glo_ok X G (c.fact 14 (f := .glo "Read") rfl),
    z_len := He.free_ok X G (c.fact 15 (f := .free "len") rfl),
    z_int := He.free_ok X G (c.fact 16 (f := .free "int") rfl),
    z_abs := He.free_ok X G (c.fact 17 (f := .free "abs") rfl),
    g__law_mixed := He.glo_ok X G (c.fact 18 (f := .glo "_law_mixed") rfl),
    z_tuple := He.free_ok X G (c.fact 19 (f := .free "tuple") rfl),
    z_range := He.free_ok X G (c.fact 20 (f := .free "range") rfl),
    g__law_take := He.glo_ok X G (c.fact 21 (f := .glo "_law_take") rfl),
    r_NearPair := He.mkr_ok (c.fact 22 (f := .mkr "NearPair") rfl),
    r_Thinned := He.mkr_ok (c.fact 23 (f := .mkr "Thinned") rfl),
    r_MixClash := He.mkr_ok (c.fact 24 (f := .mkr "MixClash") rfl),
    r_Uneven := He.mkr_ok (c.fact 25 (f := .mkr "Uneven") rfl),
    r_Read := He.mkr_ok (c.fact 26 (f := .mkr "Read") rfl),
    r_TooClose := He.mkr_ok (c.fact 27 (f := .mkr "TooClose") rfl),
    r_RunPair := He.mkr_ok (c.fact 28 (f := .mkr "RunPair") rfl),
    r_SumsClash := He.mkr_ok (c.fact 29 (f := .mkr "SumsClash") rfl),
    r_Web := He.mkr_ok (c.fact 30 (f := .mkr "Web") rfl),
    r_Told := He.mkr_ok (c.fact 31 (f := .mkr "Told") rfl),
    r_Clash := He.mkr_ok (c.fact 32 (f := .mkr "Clash") rfl),
    r_TwoCuts := He.mkr_ok (c.fact 33 (f := .mkr "TwoCuts") rfl),
    r_Best := He.mkr_ok (c.fact 34 (f := .mkr "Best") rfl),
    r_Tried := He.mkr_ok (c.fact 35 (f := .mkr "Tried") rfl),
    g__law_word := He.glo_ok X G (c.fact 36 (f := .glo "_law_word") rfl),
    g__law_hand := He.glo_ok X G (c.fact 37 (f := .glo "_law_hand") rfl),
    g__law_part := He.glo_ok X G (c.fact 38 (f := .glo "_law_part") rfl),
    g__law_made := He.glo_ok X G (c.fact 39 (f := .glo "_law_made") rfl),
    z_list := He.free_ok X G (c.fact 40 (f := .free "list") rfl),
    g__law_many := He.glo_ok X G (c.fact 41 (f := .glo "_law_many") rfl),
    g__law_is_kind := He.glo_ok X G (c.fact 42 (f := .glo "_law_is_kind") rfl),
    g__law_kept := He.glo_ok X G (c.fact 43 (f := .glo "_law_kept") rfl),
    l_NearPair := He.cls_ok (c.fact 44 (f := .cls "NearPair") rfl),
    a_NearPair_is_one := He.noat_ok (c.fact 45 (f := .noat "NearPair" "one") rfl),
    a_NearPair_is_other := He.noat_ok (c.fact 46 (f := .noat "NearPair" "other") rfl),
    a_NearPair_is_below := He.noat_ok (c.fact 47 (f := .noat "NearPair" "below") rfl),
    a_NearPair_is_above := He.noat_ok (c.fact 48 (f := .noat "NearPair" "above") rfl),
    l_Thinned := He.cls_ok (c.fact 49 (f := .cls "Thinned") rfl),
    a_Thinned_is_book := He.noat_ok (c.fact 50 (f := .noat "Thinned" "book") rfl),
    a_Thinned_is_rows := He.noat_ok (c.fact 51 (f := .noat "Thinned" "rows") rfl),
    l_Web := He.cls_ok (c.fact 52 (f := .cls "Web") rfl),
    a_Web_is_starts := He.noat_ok (c.fact 53 (f := .noat "Web" "starts") rfl),
    a_Web_is_rests := He.noat_ok (c.fact 54 (f := .noat "Web" "rests") rfl),
    a_Web_is_steps := He.noat_ok (c.fact 55 (f := .noat "Web" "steps") rfl),
    l_Told := He.cls_ok (c.fact 56 (f := .cls "Told") rfl),
    a_Told_is_wait := He.noat_ok (c.fact 57 (f := .noat "Told" "wait") rfl),
    a_Told_is_first := He.noat_ok (c.fact 58 (f := .noat "Told" "first") rfl),
    a_Told_is_second := He.noat_ok (c.fact 59 (f := .noat "Told" "second") rfl),
    l_Clash := He.cls_ok (c.fact 60 (f := .cls "Clash") rfl),
    a_Clash_is_first := He.noat_ok (c.fact 61 (f := .noat "Clash" "first") rfl),
    a_Clash_is_second := He.noat_ok (c.fact 62 (f := .noat "Clash" "second") rfl),
    l_TwoCuts := He.cls_ok (c.fact 63 (f := .cls "TwoCuts") rfl),
    a_TwoCuts_is_first := He.noat_ok (c.fact 64 (f := .noat "TwoCuts" "first") rfl),
    a_TwoCuts_is_second := He.noat_ok (c.fact 65 (f := .noat "TwoCuts" "second") rfl),
    l_Best := He.cls_ok (c.fact 66 (f := .cls "Best") rfl),
    a_Best_is_number := He.noat_ok (c.fact 67 (f := .noat "Best" "number") rfl),
    a_Best_is_book := He.noat_ok (c.fact 68 (f := .noat "Best" "book") rfl),
    l_RunPair := He.cls_ok (c.fact 69 (f := .cls "RunPair") rfl),
    a_RunPair_is_one := He.noat_ok (c.fact 70 (f := .noat "RunPair" "one") rfl),
    a_RunPair_is_other := He.noat_ok (c.fact 71 (f := .noat "RunPair" "other") rfl),
    a_RunPair_is_apart := He.noat_ok (c.fact 72 (f := .noat "RunPair" "apart") rfl),
    a_RunPair_is_longer := He.noat_ok (c.fact 73 (f := .noat "RunPair" "longer") rfl),
    a_RunPair_is_shorter := He.noat_ok (c.fact 74 (f := .noat "RunPair" "shorter") rfl),
    l_Tried := He.cls_ok (c.fact 75 (f := .cls "Tried") rfl),
    a_Tried_is_many := He.noat_ok (c.fact 76 (f := .noat "Tried" "many") rfl),
    a_Tried_is_borne := He.noat_ok (c.fact 77 (f := .noat "Tried" "borne") rfl),
    a_Tried_is_runs := He.noat_ok (c.fact 78 (f := .noat "Tried" "runs") rfl),
    a_Tried_is_told := He.noat_ok (c.fact 79 (f := .noat "Tried" "told") rfl),
    a_Tried_is_met := He.noat_ok (c.fact 80 (f := .noat "Tried" "met") rfl),
    l_MixClash := He.cls_ok (c.fact 81 (f := .cls "MixClash") rfl),
    a_MixClash_is_one := He.noat_ok (c.fact 82 (f := .noat "MixClash" "one") rfl),
    a_MixClash_is_other := He.noat_ok (c.fact 83 (f := .noat "MixClash" "other") rfl),
    a_MixClash_is_word := He.noat_ok (c.fact 84 (f := .noat "MixClash" "word") rfl),
    l_Uneven := He.cls_ok (c.fact 85 (f := .cls "Uneven") rfl),
    a_Uneven_is_word := He.noat_ok (c.fact 86 (f := .noat "Uneven" "word") rfl),
    a_Uneven_is_above := He.noat_ok (c.fact 87 (f := .noat "Uneven" "above") rfl),
    l_SumsClash := He.cls_ok (c.fact 88 (f := .cls "SumsClash") rfl),
    a_SumsClash_is_one := He.noat_ok (c.fact 89 (f := .noat "SumsClash" "one") rfl),
    a_SumsClash_is_other := He.noat_ok (c.fact 90 (f := .noat "SumsClash" "other") rfl),
    l_TooClose := He.cls_ok (c.fact 91 (f := .cls "TooClose") rfl),
    a_TooClose_is_one := He.noat_ok (c.fact 92 (f := .noat "TooClose" "one") rfl),
    a_TooClose_is_other := He.noat_ok (c.fact 93 (f := .noat "TooClose" "other") rfl),
    l_Read := He.cls_ok (c.fact 94 (f := .cls "Read") rfl),
    a_Read_is_what := He.noat_ok (c.fact 95 (f := .noat "Read" "what") rfl),
    a_Read_is_member := He.noat_ok (c.fact 96 (f := .noat "Read" "member") rfl),
    q_eqs := eqsB_ok E0,
    b_NearPair_is___eq__ := He.meth_ok (c.fact 97 (f := .meth "NearPair" "__eq__") rfl),
    o_NearPair := insB_ok E1,
    b_Thinned_is___eq__ := He.meth_ok (c.fact 98 (f := .meth "Thinned" "__eq__") rfl),
    o_Thinned := insB_ok E2,
    b_Web_is___eq__ := He.meth_ok (c.fact 99 (f := .meth "Web" "__eq__") rfl),
    o_Web := insB_ok E3,
    b_Told_is___eq__ := He.meth_ok (c.fact 100 (f := .meth "Told" "__eq__") rfl),
    o_Told := insB_ok E4,
    b_Clash_is___eq__ := He.meth_ok (c.fact 101 (f := .meth "Clash" "__eq__") rfl),
    o_Clash := insB_ok E5,
    b_TwoCuts_is___eq__ := He.meth_ok (c.fact 102 (f := .meth "TwoCuts" "__eq__") rfl),
    o_TwoCuts := insB_ok E6,
    b_Best_is___eq__ := He.meth_ok (c.fact 103 (f := .meth "Best" "__eq__") rfl),
    o_Best := insB_ok E7,
    b_RunPair_is___eq__ := He.meth_ok (c.fact 104 (f := .meth "RunPair" "__eq__") rfl),
    o_RunPair := insB_ok E8,
    b_Tried_is___eq__ := He.meth_ok (c.fact 105 (f := .meth "Tried" "__eq__") rfl),
    o_Tried := insB_ok E9,
    b_MixClash_is___eq__ := He.meth_ok (c.fact 106 (f := .meth "MixClash" "__eq__") rfl),
    o_MixClash := insB_ok E10,
    b_Uneven_is___eq__ := He.meth_ok (c.fact 107 (f := .meth "Uneven" "__eq__") rfl),
    o_Uneven := insB_ok E11,
    b_SumsClash_is___eq__ := He.meth_ok (c.fact 108 (f := .meth "SumsClash" "__eq__") rfl),
    o_SumsClash := insB_ok E12,
    b_TooClose_is___eq__ := He.meth_ok (c.fact 109 (f := .meth "TooClose" "__eq__") rfl),
    o_TooClose := insB_ok E13,
    b_Read_is___eq__ := He.meth_ok (c.fact 110 (f := .meth "Read" "__eq__") rfl),
    o_Read := insB_ok E14,
    j_NearPair := kinB_ok E15,
    k_NearPair_is_NearPair := of_decide_eq_true E16,
    k_Thinned_is_NearPair := of_decide_eq_true E17,
    k_Web_is_NearPair := of_decide_eq_true E18,
    k_Told_is_NearPair := of_decide_eq_true E19,
    k_Clash_is_NearPair := of_decide_eq_true E20,
    k_TwoCuts_is_NearPair := of_decide_eq_true E21,
    k_Best_is_NearPair := of_decide_eq_true E22,
    k_RunPair_is_NearPair := of_decide_eq_true E23,
    k_Tried_is_NearPair := of_decide_eq_true E24,
    k_MixClash_is_NearPair := of_decide_eq_true E25,
    k_Uneven_is_NearPair := of_decide_eq_true E26,
    k_SumsClash_is_NearPair := of_decide_eq_true E27,
    k_TooClose_is_NearPair := of_decide_eq_true E28,
    k_Read_is_NearPair := of_decide_eq_true E29,
    j_Thinned := kinB_ok E30,
    k_NearPair_is_Thinned := of_decide_eq_true E31,
    k_Thinned_is_Thinned := of_decide_eq_true E32,
    k_Web_is_Thinned := of_decide_eq_true E33,
    k_Told_is_Thinned := of_decide_eq_true E34,
    k_Clash_is_Thinned := of_decide_eq_true E35,
    k_TwoCuts_is_Thinned := of_decide_eq_true E36,
    k_Best_is_Thinned := of_decide_eq_true E37,
    k_RunPair_is_Thinned := of_decide_eq_true E38,
    k_Tried_is_Thinned := of_decide_eq_true E39,
    k_MixClash_is_Thinned := of_decide_eq_true E40,
    k_Uneven_is_Thinned := of_decide_eq_true E41,
    k_SumsClash_is_Thinned := of_decide_eq_true E42,
    k_TooClose_is_Thinned := of_decide_eq_true E43,
    k_Read_is_Thinned := of_decide_eq_true E44,
    j_Web := kinB_ok E45,
    k_NearPair_is_Web := of_decide_eq_true E46,
    k_Thinned_is_Web := of_decide_eq_true E47,
    k_Web_is_Web := of_decide_eq_true E48,
    k_Told_is_Web := of_decide_eq_true E49,
    k_Clash_is_Web := of_decide_eq_true E50,
    k_TwoCuts_is_Web := of_decide_eq_true E51,
    k_Best_is_Web := of_decide_eq_true E52,
    k_RunPair_is_Web := of_decide_eq_true E53,
    k_Tried_is_Web := of_decide_eq_true E54,
    k_MixClash_is_Web := of_decide_eq_true E55,
    k_Uneven_is_Web := of_decide_eq_true E56,
    k_SumsClash_is_Web := of_decide_eq_true E57,
    k_TooClose_is_Web := of_decide_eq_true E58,
    k_Read_is_Web := of_decide_eq_true E59,
    j_Told := kinB_ok E60,
    k_NearPair_is_Told := of_decide_eq_true E61,
    k_Thinned_is_Told := of_decide_eq_true E62,
    k_Web_is_Told := of_decide_eq_true E63,
    k_Told_is_Told := of_decide_eq_true E64,
    k_Clash_is_Told := of_decide_eq_true E65,
    k_TwoCuts_is_Told := of_decide_eq_true E66,
    k_Best_is_Told := of_decide_eq_true E67,
    k_RunPair_is_Told := of_decide_eq_true E68,
    k_Tried_is_Told := of_decide_eq_true E69,
    k_MixClash_is_Told := of_decide_eq_true E70,
    k_Uneven_is_Told := of_decide_eq_true E71,
    k_SumsClash_is_Told := of_decide_eq_true E72,
    k_TooClose_is_Told := of_decide_eq_true E73,
    k_Read_is_Told := of_decide_eq_true E74,
    j_Clash := kinB_ok E75,
    k_NearPair_is_Clash := of_decide_eq_true E76,
    k_Thinned_is_Clash := of_decide_eq_true E77,
    k_Web_is_Clash := of_decide_eq_true E78,
    k_Told_is_Clash := of_decide_eq_true E79,
    k_Clash_is_Clash := of_decide_eq_true E80,
    k_TwoCuts_is_Clash := of_decide_eq_true E81,
    k_Best_is_Clash := of_decide_eq_true E82,
    k_RunPair_is_Clash := of_decide_eq_true E83,
    k_Tried_is_Clash := of_decide_eq_true E84,
    k_MixClash_is_Clash := of_decide_eq_true E85,
    k_Uneven_is_Clash := of_decide_eq_true E86,
    k_SumsClash_is_Clash := of_decide_eq_true E87,
    k_TooClose_is_Clash := of_decide_eq_true E88,
    k_Read_is_Clash := of_decide_eq_true E89,
    j_TwoCuts := kinB_ok E90,
    k_NearPair_is_TwoCuts := of_decide_eq_true E91,
    k_Thinned_is_TwoCuts := of_decide_eq_true E92,
    k_Web_is_TwoCuts := of_decide_eq_true E93,
    k_Told_is_TwoCuts := of_decide_eq_true E94,
    k_Clash_is_TwoCuts := of_decide_eq_true E95,
    k_TwoCuts_is_TwoCuts := of_decide_eq_true E96,
    k_Best_is_TwoCuts := of_decide_eq_true E97,
    k_RunPair_is_TwoCuts := of_decide_eq_true E98,
    k_Tried_is_TwoCuts := of_decide_eq_true E99,
    k_MixClash_is_TwoCuts := of_decide_eq_true E100,
    k_Uneven_is_TwoCuts := of_decide_eq_true E101,
    k_SumsClash_is_TwoCuts := of_decide_eq_true E102,
    k_TooClose_is_TwoCuts := of_decide_eq_true E103,
    k_Read_is_TwoCuts := of_decide_eq_true E104,
    j_Best := kinB_ok E105,
    k_NearPair_is_Best := of_decide_eq_true E106,
    k_Thinned_is_Best := of_decide_eq_true E107,
    k_Web_is_Best := of_decide_eq_true E108,
    k_Told_is_Best := of_decide_eq_true E109,
    k_Clash_is_Best := of_decide_eq_true E110,
    k_TwoCuts_is_Best := of_decide_eq_true E111,
    k_Best_is_Best := of_decide_eq_true E112,
    k_RunPair_is_Best := of_decide_eq_true E113,
    k_Tried_is_Best := of_decide_eq_true E114,
    k_MixClash_is_Best := of_decide_eq_true E115,
    k_Uneven_is_Best := of_decide_eq_true E116,
    k_SumsClash_is_Best := of_decide_eq_true E117,
    k_TooClose_is_Best := of_decide_eq_true E118,
    k_Read_is_Best := of_decide_eq_true E119,
    j_RunPair := kinB_ok E120,
    k_NearPair_is_RunPair := of_decide_eq_true E121,
    k_Thinned_is_RunPair := of_decide_eq_true E122,
    k_Web_is_RunPair := of_decide_eq_true E123,
    k_Told_is_RunPair := of_decide_eq_true E124,
    k_Clash_is_RunPair := of_decide_eq_true E125,
    k_TwoCuts_is_RunPair := of_decide_eq_true E126,
    k_Best_is_RunPair := of_decide_eq_true E127,
    k_RunPair_is_RunPair := of_decide_eq_true E128,
    k_Tried_is_RunPair := of_decide_eq_true E129,
    k_MixClash_is_RunPair := of_decide_eq_true E130,
    k_Uneven_is_RunPair := of_decide_eq_true E131,
    k_SumsClash_is_RunPair := of_decide_eq_true E132,
    k_TooClose_is_RunPair := of_decide_eq_true E133,
    k_Read_is_RunPair := of_decide_eq_true E134,
    j_Tried := kinB_ok E135,
    k_NearPair_is_Tried := of_decide_eq_true E136,
    k_Thinned_is_Tried := of_decide_eq_true E137,
    k_Web_is_Tried := of_decide_eq_true E138,
    k_Told_is_Tried := of_decide_eq_true E139,
    k_Clash_is_Tried := of_decide_eq_true E140,
    k_TwoCuts_is_Tried := of_decide_eq_true E141,
    k_Best_is_Tried := of_decide_eq_true E142,
    k_RunPair_is_Tried := of_decide_eq_true E143,
    k_Tried_is_Tried := of_decide_eq_true E144,
    k_MixClash_is_Tried := of_decide_eq_true E145,
    k_Uneven_is_Tried := of_decide_eq_true E146,
    k_SumsClash_is_Tried := of_decide_eq_true E147,
    k_TooClose_is_Tried := of_decide_eq_true E148,
    k_Read_is_Tried := of_decide_eq_true E149,
    j_MixClash := kinB_ok E150,
    k_NearPair_is_MixClash := of_decide_eq_true E151,
    k_Thinned_is_MixClash := of_decide_eq_true E152,
    k_Web_is_MixClash := of_decide_eq_true E153,
    k_Told_is_MixClash := of_decide_eq_true E154,
    k_Clash_is_MixClash := of_decide_eq_true E155,
    k_TwoCuts_is_MixClash := of_decide_eq_true E156,
    k_Best_is_MixClash := of_decide_eq_true E157,
    k_RunPair_is_MixClash := of_decide_eq_true E158,
    k_Tried_is_MixClash := of_decide_eq_true E159,
    k_MixClash_is_MixClash := of_decide_eq_true E160,
    k_Uneven_is_MixClash := of_decide_eq_true E161,
    k_SumsClash_is_MixClash := of_decide_eq_true E162,
    k_TooClose_is_MixClash := of_decide_eq_true E163,
    k_Read_is_MixClash := of_decide_eq_true E164,
    j_Uneven := kinB_ok E165,
    k_NearPair_is_Uneven := of_decide_eq_true E166,
    k_Thinned_is_Uneven := of_decide_eq_true E167,
    k_Web_is_Uneven := of_decide_eq_true E168,
    k_Told_is_Uneven := of_decide_eq_true E169,
    k_Clash_is_Uneven := of_decide_eq_true E170,
    k_TwoCuts_is_Uneven := of_decide_eq_true E171,
    k_Best_is_Uneven := of_decide_eq_true E172,
    k_RunPair_is_Uneven := of_decide_eq_true E173,
    k_Tried_is_Uneven := of_decide_eq_true E174,
    k_MixClash_is_Uneven := of_decide_eq_true E175,
    k_Uneven_is_Uneven := of_decide_eq_true E176,
    k_SumsClash_is_Uneven := of_decide_eq_true E177,
    k_TooClose_is_Uneven := of_decide_eq_true E178,
    k_Read_is_Uneven := of_decide_eq_true E179,
    j_SumsClash := kinB_ok E180,
    k_NearPair_is_SumsClash := of_decide_eq_true E181,
    k_Thinned_is_SumsClash := of_decide_eq_true E182,
    k_Web_is_SumsClash := of_decide_eq_true E183,
    k_Told_is_SumsClash := of_decide_eq_true E184,
    k_Clash_is_SumsClash := of_decide_eq_true E185,
    k_TwoCuts_is_SumsClash := of_decide_eq_true E186,
    k_Best_is_SumsClash := of_decide_eq_true E187,
    k_RunPair_is_SumsClash := of_decide_eq_true E188,
    k_Tried_is_SumsClash := of_decide_eq_true E189,
    k_MixClash_is_SumsClash := of_decide_eq_true E190,
    k_Uneven_is_SumsClash := of_decide_eq_true E191,
    k_SumsClash_is_SumsClash := of_decide_eq_true E192,
    k_TooClose_is_SumsClash := of_decide_eq_true E193,
    k_Read_is_SumsClash := of_decide_eq_true E194,
    j_TooClose := kinB_ok E195,
    k_NearPair_is_TooClose := of_decide_eq_true E196,
    k_Thinned_is_TooClose := of_decide_eq_true E197,
    k_Web_is_TooClose := of_decide_eq_true E198,
    k_Told_is_TooClose := of_decide_eq_true E199,
    k_Clash_is_TooClose := of_decide_eq_true E200,
    k_TwoCuts_is_TooClose := of_decide_eq_true E201,
    k_Best_is_TooClose := of_decide_eq_true E202,
    k_RunPair_is_TooClose := of_decide_eq_true E203,
    k_Tried_is_TooClose := of_decide_eq_true E204,
    k_MixClash_is_TooClose := of_decide_eq_true E205,
    k_Uneven_is_TooClose := of_decide_eq_true E206,
    k_SumsClash_is_TooClose := of_decide_eq_true E207,
    k_TooClose_is_TooClose := of_decide_eq_true E208,
    k_Read_is_TooClose := of_decide_eq_true E209,
    j_Read := kinB_ok E210,
    k_NearPair_is_Read := of_decide_eq_true E211,
    k_Thinned_is_Read := of_decide_eq_true E212,
    k_Web_is_Read := of_decide_eq_true E213,
    k_Told_is_Read := of_decide_eq_true E214,
    k_Clash_is_Read := of_decide_eq_true E215,
    k_TwoCuts_is_Read := of_decide_eq_true E216,
    k_Best_is_Read := of_decide_eq_true E217,
    k_RunPair_is_Read := of_decide_eq_true E218,
    k_Tried_is_Read := of_decide_eq_true E219,
    k_MixClash_is_Read := of_decide_eq_true E220,
    k_Uneven_is_Read := of_decide_eq_true E221,
    k_SumsClash_is_Read := of_decide_eq_true E222,
    k_TooClose_is_Read := of_decide_eq_true E223,
    k_Read_is_Read := of_decide_eq_true E224,
    F_NearPair___init := c.def_ 0 (d := q_NearPair___init) rfl,
    F_NearPair___eq := c.def_ 1 (d := q_NearPair___eq) rfl,
    F_Thinned___init := c.def_ 2 (d := q_Thinned___init) rfl,
    F_Thinned___eq := c.def_ 3 (d := q_Thinned___eq) rfl,
    F_Web___init := c.def_ 4 (d := q_Web___init) rfl,
    F_Web___eq := c.def_ 5 (d := q_Web___eq) rfl,
    F_Told___init := c.def_ 6 (d := q_Told___init) rfl,
    F_Told___eq := c.def_ 7 (d := q_Told___eq) rfl,
    F_Clash___init := c.def_ 8 (d := q_Clash___init) rfl,
    F_Clash___eq := c.def_ 9 (d := q_Clash___eq) rfl,
    F_TwoCuts___init := c.def_ 10 (d := q_TwoCuts___init) rfl,
    F_TwoCuts___eq := c.def_ 11 (d := q_TwoCuts___eq) rfl,
    F_Best___init := c.def_ 12 (d := q_Best___init) rfl,
    F_Best___eq := c.def_ 13 (d := q_Best___eq) rfl,
    F_RunPair___init := c.def_ 14 (d := q_RunPair___init) rfl,
    F_RunPair___eq := c.def_ 15 (d := q_RunPair___eq) rfl,
    F_Tried___init := c.def_ 16 (d := q_Tried___init) rfl,
    F_Tried___eq := c.def_ 17 (d := q_Tried___eq) rfl,
    F_MixClash___init := c.def_ 18 (d := q_MixClash___init) rfl,
    F_MixClash___eq := c.def_ 19 (d := q_MixClash___eq) rfl,
    F_Uneven___init := c.def_ 20 (d := q_Uneven___init) rfl,
    F_Uneven___eq := c.def_ 21 (d := q_Uneven___eq) rfl,
    F_SumsClash___init := c.def_ 22 (d := q_SumsClash___init) rfl,
    F_SumsClash___eq := c.def_ 23 (d := q_SumsClash___eq) rfl,
    F_TooClose___init := c.def_ 24 (d := q_TooClose___init) rfl,
    F_TooClose___eq := c.def_ 25 (d := q_TooClose___eq) rfl,
    F_Read___init := c.def_ 26 (d := q_Read___init) rfl,
    F_Read___eq := c.def_ 27 (d := q_Read___eq) rfl,
    F_law_hand := c.def_ 28 (d := q_law_hand) rfl,
    F_law_mixed := c.def_ 29 (d := q_law_mixed) rfl,
    F_law_take := c.def_ 30 (d := q_law_take) rfl,
    F_law_word := c.def_ 31 (d := q_law_word) rfl,
    F_law_made := c.def_ 32 (d := q_law_made) rfl,
    F_law_many := c.def_ 33 (d := q_law_many) rfl,
    F_law_kept := c.def_ 34 (d := q_law_kept) rfl,
    F_law_is_kind := c.def_ 35 (d := q_law_is_kind) rfl,
    F_law_part := c.def_ 36 (d := q_law_part) rfl,
    F_law := c.def_ 37 (d := q_law) rfl }
def loose0 : List Str := ["NearPair", "Thinned", "Web", "Told", "Clash", "TwoCuts", "Best", "RunPair", "Tried", "MixClash", "Uneven", "SumsClash", "TooClose", "Read", "_law_hand", "_law_mixed", "_law_take", "_law_word", "_law_made", "_law_many", "_law_kept", "_law_is_kind", "_law_part"]
def loose : List Str := loose0
abbrev R : PySem.W.OpenRow := PySem.W.OpenLaw.row PySem.Challenge.rw_lostplaces_k79_whole_results_each_its_ow
abbrev hk : PySem.W.Hook := hookN 5 fa fn ex
def ob (s : PySem.W.SharedT) : He.AlD × Bool := obsN 5 fa fn ex (HandSHeadRun.getT s)
theorem ob_eq (s : PySem.W.SharedT) : ob s = hk.obs s.abs := obsN_eq (HandSHeadRun.getT_eq s)
theorem run (w : World) : HandSHeadRun.RunEq R (PySem.W.view R.prog [35]) hk ob 20000 loose w := by
  intro os
  kernel_rfl
end Mine
namespace Mine
open PySem PySem.W PySem.Calls PyProof.Rows HandSHeadRun
abbrev rr := OpenLaw.row PySem.Challenge.rw_lostplaces_k79_whole_results_each_its_ow
abbrev qq := view (OpenLaw.row PySem.Challenge.rw_lostplaces_k79_whole_results_each_its_ow).prog [35]
abbrev dd := HandSHeadRun.topDef rr.prog 35
theorem h_e : opening rr.prog = plainProg rr.prog.main.scope.names := by kernel_rfl
theorem h_f : ∀ s, fenceModules? rr.prog s = some s := fun s => by kernel_rfl
theorem h_def : defOf qq rr.name = some (dd, []) := by kernel_rfl
theorem h_p : rr.prog.theDef rr.name = some (dd.params, dd.body, dd.scope) := by kernel_rfl
theorem h_k : kwWritten? dd.params.kwonlyargs dd.params.kw_defaults = some [] := by kernel_rfl
theorem h_wr : (!rr.writes || rr.records.isEmpty) = true := by rfl
theorem h_ws : rr.wellSaid = true := by first | assumption | decide +kernel
theorem h_ok : (chainsOk qq && opensWell rr.prog && (frees rr.toRowW && rr.within.isEmpty)) = true := by decide +kernel
theorem h_b : rr.prog.bare := ⟨rfl, rfl, rfl, rfl, rfl, by decide +kernel⟩
end Mine
open PySem PySem.W PySem.Calls PyProof.Rows
set_option maxHeartbeats 0 in
theorem PySem.Challenge.cw_lostplaces_k79_whole_results_each_its_ow_holds : PySem.Challenge.rw_lostplaces_k79_whole_results_each_its_ow.Holds := by
  w_on; o_law
  refine HandSHeadRun.head_any (r := OpenLaw.row PySem.Challenge.rw_lostplaces_k79_whole_results_each_its_ow) (q := view (OpenLaw.row PySem.Challenge.rw_lostplaces_k79_whole_results_each_its_ow).prog [35]) (H := Mine.hk) (ob := Mine.ob) (M := 20000) (loose := Mine.loose) (d := HandSHeadRun.topDef (OpenLaw.row PySem.Challenge.rw_lostplaces_k79_whole_results_each_its_ow).prog 35) (kwd := []) Mine.ob_eq
    Mine.h_e Mine.h_f Mine.run Mine.h_def Mine.h_p Mine.h_k Mine.h_wr Mine.h_ws Mine.h_ok Mine.h_b ?hw ?hc
  case hw => w_witness2
  case hc =>
    refine L2.walk_ofE (l := PySem.Challenge.rw_lostplaces_k79_whole_results_each_its_ow) (n := 63) (k := 5) (x := "_law_script") (CX := L2.CX0) rfl (by decide) (by kernel_rfl) ⟨rfl, by decide, by decide⟩ ?F (fun _ _ _ _ z => z)
    intro w mg fa h Y G hmg0
    obtain ⟨K, KX, c, E⟩ := Y
    have hmg : mg ("law" : PySem.Str) = some (.ref fa) := by
      have e : (HandSHeadRun.topDef (OpenLaw.row PySem.Challenge.rw_lostplaces_k79_whole_results_each_its_ow).prog 35).name = ("law" : PySem.Str) := by kernel_rfl
      rw [← e]
      exact hmg0
    have T := Mine.txt_of KX G c E
    obtain ⟨fd0, F0⟩ := T.F_law
    have e : fa = He.ga K "law" := by
      have z := hmg.symm.trans (He.glo_ok KX G (c.fact 111 (f := .glo "law") rfl))
      cases z
      rfl
    subst e
    have b0 : ∀ (s : Shared) (v : Value), BindsTo s fd0 ⟨[v], []⟩ [("_law_script", v)] := fun s v => L2.FunD.bindsA (ps := ["_law_script"]) F0 (fun _ _ _ _ _ _ us hl => match us, hl with | [_], _ => rfl) s [v] rfl
    refine ⟨K, fd0, Mine.sp_law K, KX, b0, fun H a ns hl _ hS => ⟨a, ns, rfl, hS, hl, fun _ => rfl⟩, fun base _ _ => ?_⟩
    obtain ⟨fd1, G1, D1⟩ := Mine.ok_law (g := Mine.goal) (P := (PySem.Challenge.rw_lostplaces_k79_whole_results_each_its_ow).prog) (w := w) (base := base) T
    have ef : fd1 = fd0 := Mine.funD_inj D1 F0
    exact ef ▸ G1
