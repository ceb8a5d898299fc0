import PyProof.Rows.All
import Wide.All
import OpenK.AllK
import Wide.FinOn
import HandS.ForExc
import HandS.Comp
import HandS.Iter
import HandS.Conv
import HandS.Flow
import HandS.Walk
import HandS.TupAny
import HandS.TupSets
import HandS.SortInts
import HandS.TryMany
import HandS.IsInst
import HandS.Defaults
import HandS.Gcd
import HandS.ExcInit
import HandS.Text
import HandS.Head0
import HandS.Head1
import HandS.Head2
import HandS.Head3
import HandS.HeadEnd
import HandS.HeadHook1
import HandS.HeadHook2
import HandS.ExcField
import KE.GoesEnum
import HandS.Deep
import HandS.Strs
import HandS.Style
import PySem.Challenge.RW_lostplaces_k18_whole_rises_of_words_off
set_option Elab.async false
set_option linter.all false
set_option maxRecDepth 100000
set_option maxHeartbeats 4000000
namespace Mine
open PySem PySem.Spec PyProof.Rows L2
/-! ### own errors -/
structure OwnExc (K : PySem.W.Frag) (C : Addr) : Prop where
  ex : PySem.W.excIn K C He.veBase "ValueError.__new__" = true
  kp : PySem.W.keepIn K (.ref C) = true
  sb : PySem.W.subIn K (.ref C) (.type "BaseException") = some true
  ty : PySem.W.typeIn K (.ref C) = some (.type "type")
theorem mk0 {X : Cx} {x : Str} {C : Addr} {p pos : Pos} (e : OwnExc X.K C) (g : X.mg x = some (.ref C)) (hg : Gl X x) (hd : (x == ("__debug__" : Str)) = false := by decide) :
    PMk X (.Call (.Name x p) [] [] pos) (fun _ H Q => Q (.ref C) none H) := by
  intro pn st sg Hh Qq J hq
  refine wpAny_Call_Name_kw (ld_glob J hg g ?_ hd)
  refine PySem.W.callWith_K0 J.kIn e.kp ?_
  have J2 := J
  obtain ⟨bm, N, nm, qn, bs, hdct, sn, sub, ab, col, dd, k0, k1, k2, k3, k5, mN, hC, hN, hni, T⟩ := exc_obj J.kIn e.ex
  obtain ⟨hp, g1, d1, tk, os⟩ := st
  exact wpAny_call_exc_subT PySem.F.excBase_ValueError T hC hN hni (fun h' a hm => mk_of J hm (raises_own e.sb e.ty) hq (J.hok.gone hm.new)) (Nat.zero_le _)
/-! ### len(set(xs)), xs whole numbers -/
def tLenD (K : PySem.W.Frag) (ta : TE) : TE := fun σ H Q => ta σ H fun x H1 => ∃ (l : Addr) (ns : List Int), x = V.ref l ∧ SqL K H1 l (ns.map V.int) ∧ ns.length ≤ 4000 ∧
  ∀ m : Nat, m = (firstMet (fun i => ns.getD i 0) ns.length).length → Q (.int m) H1
theorem firstMet_le (f : Nat → Int) : ∀ n, (firstMet f n).length ≤ n
  | 0 => Nat.le_refl _
  | n + 1 => by
    rw [firstMet_succ]
    unfold step_dedup
    have := firstMet_le f n
    split
    · omega
    · rw [List.length_append]; show _ + 1 ≤ _; omega
theorem pe_lenSetD {X : Cx} {a : Expr} {ta : TE} {p p2 q pos : Pos} (hc : X.calm = true) (hg : Gl X "len") (hm : X.mg "len" = none) (hg2 : Gl X "set") (hm2 : X.mg "set" = none) (ha : PE X a ta)
    (na : starEach [a] X.env = (false, eval a X.env) :: starEach [] X.env := by rfl) : PE X (.Call (.Name "len" p) [.Call (.Name "set" p2) [a] [] q] [] pos) (tLenD X.K ta) := by
  refine ⟨fun pn st sg Hh Qq J hq => ?_⟩
  refine Call_ (ld_blt J hg hm PySem.boot_len ?_)
  refine callWith_builtin1 (args_cons ?_ rfl) rfl rfl
  refine Call_ (ld_blt J hg2 hm2 PyProof.Rows.boot_set ?_)
  refine callWith_type1 (args_cons (thn (ha.run pn st sg Hh _ J hq) fun v s1 ⟨x, H1, J1, r1, q1⟩ => args_nil ?_) na) na rfl
  obtain ⟨l, ns, rfl, hs, hl, q1⟩ := q1
  cases r1
  obtain ⟨its, rv, pl, hz⟩ := J1.list hs
  have e1 : its.toArray.size = ns.length := by rw [List.size_toArray, ← rv.length, List.length_map]
  refine call_set_list (J1.ok.hd hc) pl.isList (ns := ns) (by simpa using rv.ints) (by rw [e1]; unfold scanBound; omega) fun h' tk hS hk => ?_
  rw [e1] at hS
  refine args_nil ?_
  obtain ⟨o, es, ep, t, ho, hex, hd, _, _, _, hf, hn⟩ := hS
  have le := firstMet_le (fun i => ns.getD i 0) ns.length
  have J2 : Inv X pn sg H1 { s1 with heap := h', toks := tk } := J1.kept fun b o e => hk b o (Heap.lt_size e) e
  exact call_len_set ho hex hd hf (by rw [hn]; omega) ⟨.int _, H1, J2.tok _, ⟨_, by rw [hn]⟩, q1 _ rfl⟩
/-! ### rules in a form that simp can read -/
section
variable {X : Cx}
theorem OpR.weak {f : Value → Value → Sem Value} {r r' : R2} (h : OpR X f r) (m : ∀ x y H Q, r' x y H Q → r x y H Q) : OpR X f r' :=
  fun pn st sg Hh x y u v Qq J rx ry hq => h pn st sg Hh x y u v Qq J rx ry (m _ _ _ _ hq)
theorem IxR.weak {r r' : R2} (h : IxR X r) (m : ∀ x y H Q, r' x y H Q → r x y H Q) : IxR X r' :=
  fun e1 e2 pn st sg Hh x y u v Qq J rx ry hq => h e1 e2 pn st sg Hh x y u v Qq J rx ry (m _ _ _ _ hq)
theorem CallR.weak {f : Value} {r r' : List V → Hp → VK → Prop} (h : CallR X f r) (m : ∀ xs H Q, r' xs H Q → r xs H Q) : CallR X f r' :=
  fun pn st sg Hh xs us Qq J rx hq => h pn st sg Hh xs us Qq J rx (m _ _ _ hq)
theorem call_intI : CallR X (.type "int") (fun xs H Q => ∃ i, xs = [.int i] ∧ Q (.int i) H) := CallR.weak call_int1 fun _ _ _ => .inl
def rIxH : R2 := fun x y H Q => ∃ p i xs v, x = .ref p ∧ y = .int i ∧ H p = some (.lst xs) ∧ atI xs i = some v ∧ Q v H
theorem ix_H : IxR X rIxH := IxR.weak ix_list fun _ _ _ _ ⟨p, i, xs, z, e1, e2, e3, e4, q⟩ => ⟨p, xs, i, z, e1, e2, .inl (.inl e3), e4, q⟩
def rIxTH : R2 := fun x y H Q => ∃ p i xs v, x = .ref p ∧ y = .int i ∧ H p = some (.tup xs) ∧ atI xs i = some v ∧ Q v H
theorem ix_TH : IxR X rIxTH := IxR.weak ix_tup fun _ _ _ _ ⟨p, i, xs, z, e1, e2, e3, e4, q⟩ => ⟨p, xs, i, z, e1, e2, .inl (.inl e3), e4, q⟩
theorem call_lenL : CallR X (.builtin "len") (fun xs H Q => ∃ p ys, xs = [.ref p] ∧ H p = some (.lst ys) ∧ Q (.int ys.length) H) :=
  CallR.weak call_len_seq fun _ _ _ ⟨p, ys, e1, e2, q⟩ => ⟨p, ys, e1, .inl (.inl (.inl e2)), q⟩
theorem call_lenT : CallR X (.builtin "len") (fun xs H Q => ∃ p ys, xs = [.ref p] ∧ H p = some (.tup ys) ∧ Q (.int ys.length) H) :=
  CallR.weak call_len_seq fun _ _ _ ⟨p, ys, e1, e2, q⟩ => ⟨p, ys, e1, .inr (.inl (.inl e2)), q⟩
end
theorem call_tupL {X : Cx} : CallR X (.type "tuple") (fun xs H Q => ∃ p ys, xs = [.ref p] ∧ H p = some (.lst ys) ∧ ∀ l, H l = none → Q (.ref l) (upd H l (.tup ys))) :=
  CallR.weak call_tuple_of fun _ _ _ ⟨p, ys, e1, e2, q⟩ => ⟨p, ys, e1, .inl ⟨.inl (.inl e2), q⟩⟩
theorem call_tupT {X : Cx} : CallR X (.type "tuple") (fun xs H Q => ∃ p ys, xs = [.ref p] ∧ H p = some (.tup ys) ∧ Q (.ref p) H) :=
  CallR.weak call_tuple_of fun _ _ _ ⟨p, ys, e1, e2, q⟩ => ⟨p, ys, e1, .inr ⟨.inl (.inl e2), q⟩⟩
theorem call_listL {X : Cx} : CallR X (.type "list") (fun xs H Q => ∃ p ys, xs = [.ref p] ∧ H p = some (.lst ys) ∧ ∀ l, H l = none → Q (.ref l) (upd H l (.lst ys))) :=
  CallR.weak call_list_of fun _ _ _ ⟨p, ys, e1, e2, q⟩ => ⟨p, ys, e1, .inl (.inl (.inl e2)), q⟩
theorem call_listT {X : Cx} : CallR X (.type "list") (fun xs H Q => ∃ p ys, xs = [.ref p] ∧ H p = some (.tup ys) ∧ ∀ l, H l = none → Q (.ref l) (upd H l (.lst ys))) :=
  CallR.weak call_list_of fun _ _ _ ⟨p, ys, e1, e2, q⟩ => ⟨p, ys, e1, .inr (.inl (.inl e2)), q⟩
theorem wipe_1 (x : Option V) (a : Option V) : wipe [a, x] [1] = [a, none] := rfl
theorem tyL {K : PySem.W.Frag} {H : Hp} {p : Addr} {xs : List V} (h : H p = some (.lst xs)) : tyV K "list" (.ref p) H := .inl ⟨rfl, xs, .inl (.inl h)⟩
/-! ### isinstance -/
/-- what the layer can tell the kind of -/
def Kd (K : PySem.W.Frag) (H : Hp) : V → Prop
  | .non => True
  | .bl _ => True
  | .int _ => True
  | .str _ => True
  | .ref a => (∃ xs, SqL K H a xs) ∨ ∃ xs, SqT K H a xs
  | _ => False
def isIntV : V → Bool
  | .int _ => true
  | .bl _ => true
  | _ => false
def isBlV : V → Bool
  | .bl _ => true
  | _ => false
def isStrV : V → Bool
  | .str _ => true
  | _ => false
theorem tyx_L {K : PySem.W.Frag} {H : Hp} {a : Addr} {xs : List V} (h : SqL K H a xs) : TyX K H (.ref a) (.type "list") := by
  rcases h with (h | ⟨o, h⟩) | ⟨o, its, n, h, c, _⟩
  · exact .base (.lst h)
  · exact .base (.frz h)
  · exact .kList h c
theorem tyx_T {K : PySem.W.Frag} {H : Hp} {a : Addr} {xs : List V} (h : SqT K H a xs) : TyX K H (.ref a) (.type "tuple") := by
  rcases h with (h | ⟨o, h⟩) | ⟨o, its, n, h, c, _⟩
  · exact .base (.tup h)
  · exact .fTuple h
  · exact .kTuple h c
theorem kb_NoneType_int : kitB "NoneType" "int" = some false := by decide +kernel
theorem kb_NoneType_bool : kitB "NoneType" "bool" = some false := by decide +kernel
theorem kb_NoneType_str : kitB "NoneType" "str" = some false := by decide +kernel
theorem kb_NoneType_tuple : kitB "NoneType" "tuple" = some false := by decide +kernel
theorem kb_NoneType_list : kitB "NoneType" "list" = some false := by decide +kernel
theorem kb_bool_int : kitB "bool" "int" = some true := by decide +kernel
theorem kb_bool_bool : kitB "bool" "bool" = some true := by decide +kernel
theorem kb_bool_str : kitB "bool" "str" = some false := by decide +kernel
theorem kb_bool_tuple : kitB "bool" "tuple" = some false := by decide +kernel
theorem kb_bool_list : kitB "bool" "list" = some false := by decide +kernel
theorem kb_int_int : kitB "int" "int" = some true := by decide +kernel
theorem kb_int_bool : kitB "int" "bool" = some false := by decide +kernel
theorem kb_int_str : kitB "int" "str" = some false := by decide +kernel
theorem kb_int_tuple : kitB "int" "tuple" = some false := by decide +kernel
theorem kb_int_list : kitB "int" "list" = some false := by decide +kernel
theorem kb_str_int : kitB "str" "int" = some false := by decide +kernel
theorem kb_str_bool : kitB "str" "bool" = some false := by decide +kernel
theorem kb_str_str : kitB "str" "str" = some true := by decide +kernel
theorem kb_str_tuple : kitB "str" "tuple" = some false := by decide +kernel
theorem kb_str_list : kitB "str" "list" = some false := by decide +kernel
theorem kb_list_int : kitB "list" "int" = some false := by decide +kernel
theorem kb_list_bool : kitB "list" "bool" = some false := by decide +kernel
theorem kb_list_str : kitB "list" "str" = some false := by decide +kernel
theorem kb_list_tuple : kitB "list" "tuple" = some false := by decide +kernel
theorem kb_list_list : kitB "list" "list" = some true := by decide +kernel
theorem kb_tuple_int : kitB "tuple" "int" = some false := by decide +kernel
theorem kb_tuple_bool : kitB "tuple" "bool" = some false := by decide +kernel
theorem kb_tuple_str : kitB "tuple" "str" = some false := by decide +kernel
theorem kb_tuple_tuple : kitB "tuple" "tuple" = some true := by decide +kernel
theorem kb_tuple_list : kitB "tuple" "list" = some false := by decide +kernel
theorem Kd.ty {K : PySem.W.Frag} {H : Hp} {x : V} (h : Kd K H x) : ∃ t : String, TyX K H x (.type t) ∧ kitB t "int" = some (isIntV x) ∧ kitB t "bool" = some (isBlV x) ∧ kitB t "str" = some (isStrV x) := by
  cases x with
  | non => exact ⟨_, .base .non, kb_NoneType_int, kb_NoneType_bool, kb_NoneType_str⟩
  | bl b => exact ⟨_, .base (.bl b), kb_bool_int, kb_bool_bool, kb_bool_str⟩
  | int i => exact ⟨_, .base (.int i), kb_int_int, kb_int_bool, kb_int_str⟩
  | str z => exact ⟨_, .base (.str z), kb_str_int, kb_str_bool, kb_str_str⟩
  | ref a =>
    rcases h with ⟨xs, h⟩ | ⟨xs, h⟩
    · exact ⟨_, tyx_L h, kb_list_int, kb_list_bool, kb_list_str⟩
    · exact ⟨_, tyx_T h, kb_tuple_int, kb_tuple_bool, kb_tuple_str⟩
  | byt b => cases h
  | flt b => cases h
  | ty n => cases h
section
variable {X : Cx}
theorem call_isInt : CallR X (.builtin "isinstance") (fun xs H Q => ∃ x, xs = [x, .ty "int"] ∧ Kd X.K H x ∧ Q (.bl (isIntV x)) H) :=
  CallR.weak call_isi fun _ _ _ ⟨x, e, k, q⟩ => by
    obtain ⟨t, ty, h, _⟩ := k.ty
    exact ⟨x, _, _, _, _, e, .ty "int", ty, kit_ty h, q⟩
theorem call_isBool : CallR X (.builtin "isinstance") (fun xs H Q => ∃ x, xs = [x, .ty "bool"] ∧ Kd X.K H x ∧ Q (.bl (isBlV x)) H) :=
  CallR.weak call_isi fun _ _ _ ⟨x, e, k, q⟩ => by
    obtain ⟨t, ty, _, h, _⟩ := k.ty
    exact ⟨x, _, _, _, _, e, .ty "bool", ty, kit_ty h, q⟩
theorem call_isStr : CallR X (.builtin "isinstance") (fun xs H Q => ∃ x, xs = [x, .ty "str"] ∧ Kd X.K H x ∧ Q (.bl (isStrV x)) H) :=
  CallR.weak call_isi fun _ _ _ ⟨x, e, k, q⟩ => by
    obtain ⟨t, ty, _, _, h⟩ := k.ty
    exact ⟨x, _, _, _, _, e, .ty "str", ty, kit_ty h, q⟩
/-- b tells whether x is a tuple -/
def IsTupV (K : PySem.W.Frag) (H : Hp) (x : V) (b : Bool) : Prop := match x with
  | .non => b = false
  | .bl _ => b = false
  | .int _ => b = false
  | .str _ => b = false
  | .ref a => (b = false ∧ ∃ xs, SqL K H a xs) ∨ (b = true ∧ ∃ xs, SqT K H a xs)
  | _ => False
theorem call_isTup : CallR X (.builtin "isinstance") (fun xs H Q => ∃ x b, xs = [x, .ty "tuple"] ∧ IsTupV X.K H x b ∧ Q (.bl b) H) :=
  CallR.weak call_isi fun _ H _ ⟨x, b, e, k, q⟩ => by
    have : ∃ t : String, TyX X.K H x (.type t) ∧ kitB t "tuple" = some b := by
      cases x with
      | non => cases k; exact ⟨_, .base .non, kb_NoneType_tuple⟩
      | bl b => cases k; exact ⟨_, .base (.bl b), kb_bool_tuple⟩
      | int i => cases k; exact ⟨_, .base (.int i), kb_int_tuple⟩
      | str z => cases k; exact ⟨_, .base (.str z), kb_str_tuple⟩
      | ref a =>
        rcases k with ⟨rfl, xs, h⟩ | ⟨rfl, xs, h⟩
        · exact ⟨_, tyx_L h, kb_list_tuple⟩
        · exact ⟨_, tyx_T h, kb_tuple_tuple⟩
      | byt b => cases k
      | flt b => cases k
      | ty n => cases k
    obtain ⟨t, ty, h⟩ := this
    exact ⟨x, _, _, _, _, e, .ty "tuple", ty, kit_ty h, q⟩
end
/-! ### loops -/
def Loop (J : It) (g : TG) (tb : TS) (D : Ends) (σ : L2.St) (H1 : Hp) : Prop := ∃ W : Nat → Nat → L2.St → Hp → Prop, (∃ m, W 0 m σ H1) ∧ ∀ i m σ H, W i m σ H →
  (J.stop i H ∧ D.nx σ H) ∨ (J.go i H ∧ ∃ N : L2.St → Hp → Prop, (∀ s' H', N s' H' → ∃ m', m' < m ∧ W (i + 1) m' s' H') ∧ ∀ x H', J.yld i H x H' → g x σ H' fun σ2 H2 => tb { D with nx := N, ct := N, bk := D.nx } σ2 H2)
theorem tFor_eq (wi : TI) (g : TG) (tb : TS) (D : Ends) (σ : L2.St) (H : Hp) : tFor wi g tb D σ H = wi σ H (fun J H1 => Loop J g tb D σ H1) := rfl
def Lc (J : It) (g : TG) (tt : TT) (te : TE) (vs : List Nat) (D : Addr) (σ : L2.St) (H1 : Hp) (Q : VK) : Prop := ∃ W : Nat → Nat → Hp → Prop, (∃ m, W 0 m (upd H1 D (.lst []))) ∧ ∀ i m H, W i m H →
  (J.stop i H ∧ Q (.ref D) H) ∨ (J.go i H ∧ ∃ Nx : Hp → Prop, (∀ H', Nx H' → ∃ m', m' < m ∧ W (i + 1) m' H') ∧ ∀ x H', J.yld i H x H' → g x (wipe σ vs) H' fun s2 H2 => wipe s2 vs = wipe σ vs ∧ tt s2 H2 fun b H3 =>
    if b = true then te s2 H3 fun y H4 => ∃ acc, H4 D = some (.lst acc) ∧ acc.length < sizeLine ∧ Nx (upd H4 D (.lst (acc ++ [y]))) else Nx H3)
theorem tLc_eq (wi : TI) (g : TG) (tt : TT) (te : TE) (vs : List Nat) (σ : L2.St) (H : Hp) (Q : VK) : tLc wi g tt te vs σ H Q = wi σ H (fun J H1 => ∀ D, H1 D = none → Lc J g tt te vs D σ H1 Q) := rfl
section
variable {J : It} {n : Nat} {G : Hp → Prop} {Y : Nat → Hp → V → Hp → Prop}
theorem Loop.by (w : Walk J n G Y) {g : TG} {tb : TS} {D : Ends} {σ : L2.St} {H : Hp} (Pv : Nat → L2.St → Hp → Prop) (h0 : Pv 0 σ H) (hG : ∀ i σ H, i ≤ n → Pv i σ H → G H)
    (hs : ∀ i x σ H H', i < n → Pv i σ H → Y i H x H' → g x σ H' fun s2 H2 => tb { D with nx := Pv (i + 1), ct := Pv (i + 1), bk := D.nx } s2 H2) (hd : ∀ σ H, Pv n σ H → D.nx σ H) : Loop J g tb D σ H := for_it w Pv h0 hG hs hd
theorem Lc.by (w : Walk J n G Y) {g : TG} {tt : TT} {te : TE} {vs : List Nat} {σ : L2.St} {H1 : Hp} {D : Addr} {Q : VK} (Pv : Nat → Hp → Prop) (h0 : Pv 0 (upd H1 D (.lst []))) (hG : ∀ i H, i ≤ n → Pv i H → G H)
    (hs : ∀ i x H H', i < n → Pv i H → Y i H x H' → g x (wipe σ vs) H' fun s2 H2 => wipe s2 vs = wipe σ vs ∧ tt s2 H2 fun b H3 =>
      if b = true then te s2 H3 fun y H4 => ∃ acc, H4 D = some (.lst acc) ∧ acc.length < sizeLine ∧ Pv (i + 1) (upd H4 D (.lst (acc ++ [y]))) else Pv (i + 1) H3) (hd : ∀ H, Pv n H → Q (.ref D) H) : Lc J g tt te vs D σ H1 Q := lc_it w Pv h0 hG hs hd
end
/-! ### while; what only grows with what is wanted -/
def Mon (t : TE) : Prop := ∀ σ H (Q Q' : VK), (∀ v H', Q v H' → Q' v H') → t σ H Q → t σ H Q'
def MonT (t : TT) : Prop := ∀ σ H (Q Q' : Bool → Hp → Prop), (∀ v H', Q v H' → Q' v H') → t σ H Q → t σ H Q'
def MonR (r : R2) : Prop := ∀ x y H (Q Q' : VK), (∀ v H', Q v H' → Q' v H') → r x y H Q → r x y H Q'
theorem mon_var (i : Nat) : Mon (tVar i) := fun _ _ _ _ m ⟨v, e, q⟩ => ⟨v, e, m _ _ q⟩
theorem mon_c (v : V) : Mon (tC v) := fun _ _ _ _ m q => m _ _ q
theorem mon_op {r : R2} {ta tb : TE} (mr : MonR r) (ma : Mon ta) (mb : Mon tb) : Mon (tOp r ta tb) := fun σ H _ _ m q => ma σ H _ _ (fun _ H1 q1 => mb σ H1 _ _ (fun _ _ q2 => mr _ _ _ _ _ m q2) q1) q
theorem mon_rI (C : Int → Int → Prop) (g : Int → Int → V) : MonR (rI C g) := fun _ _ _ _ _ m ⟨i, j, e1, e2, c, q⟩ => ⟨i, j, e1, e2, c, m _ _ q⟩
theorem mon_rI0 (g : Int → Int → V) : MonR (rI0 g) := fun _ _ _ _ _ m ⟨i, j, e1, e2, q⟩ => ⟨i, j, e1, e2, m _ _ q⟩
theorem mon_rEq : MonR rEq := fun _ _ _ _ _ m ⟨e, q⟩ => ⟨e, m _ _ q⟩
theorem mon_rNe : MonR rNe := fun _ _ _ _ _ m ⟨e, q⟩ => ⟨e, m _ _ q⟩
theorem mon_test {t : TE} (h : Mon t) : MonT (tTest t) := fun σ H _ _ m q => h σ H _ _ (fun _ _ ⟨k, e, q1⟩ => ⟨k, e, m _ _ q1⟩) q
theorem mon_and {t u : TT} (h : MonT t) (k : MonT u) : MonT (tAnd t u) := fun σ H Q Q' m q => h σ H _ _ (fun b H1 q1 => by
  cases b
  · exact m _ _ q1
  · exact k σ H1 _ _ m q1) q
theorem mon_or {t u : TT} (h : MonT t) (k : MonT u) : MonT (tOr t u) := fun σ H Q Q' m q => h σ H _ _ (fun b H1 q1 => by
  cases b
  · exact k σ H1 _ _ m q1
  · exact m _ _ q1) q
def Less (W : Nat → L2.St → Hp → Prop) (m : Nat) (σ : L2.St) (H : Hp) : Prop := ∃ m', m' < m ∧ W m' σ H
theorem While.by {c : TT} {tb : TS} {D : Ends} {σ : L2.St} {H : Hp} (mc : MonT c) (W : Nat → L2.St → Hp → Prop) (m0 : Nat) (h0 : W m0 σ H)
    (hs : ∀ m σ H, W m σ H → c σ H fun b H1 => if b = true then tb { D with nx := Less W m, ct := Less W m, bk := D.nx } σ H1 else D.nx σ H1) : tWhile c tb D σ H :=
  ⟨W, ⟨m0, h0⟩, fun m σ H hw => mc σ H _ _ (fun b H1 q => by
    cases b
    · exact q
    · exact ⟨Less W m, fun _ _ h => h, q⟩) (hs m σ H hw)⟩
/-! ### heaps -/
theorem same_upd {H : Hp} {p : Addr} {o : HO} (h : H p = none) : Same H (upd H p o) := fun b x e => by
  rw [upd_ne (ne_of_none e h)]
  exact e
theorem upd_at {H : Hp} {a b : Addr} {o : HO} : upd H a o b = if b = a then some o else H b := rfl
/-- a comprehension that changes nothing but its own list: kept i is what turn i puts into it -/
theorem Lc.gen {J : It} {n j : Nat} {G : Hp → Prop} {Y : Nat → Hp → V → Hp → Prop} {tt : TT} {te : TE} {vs : List Nat} {D : Addr} {σ : L2.St} {H1 : Hp} {Q : VK} (wk : Walk J n G Y) (it : Nat → V) (kept : Nat → Option V)
    (hY : ∀ i H x H', i < n → Y i H x H' → H' = H ∧ x = it i) (hG : ∀ H', Same H1 H' → G H') (hD : H1 D = none) (hn : n ≤ 100000) (hw : ∀ i, wipe ((wipe σ vs).set j (some (it i))) vs = wipe σ vs)
    (step : ∀ i H (Qk : VK) (Qn : Hp → Prop), i < n → Same H1 H → (∀ y H4, Same H H4 → kept i = some y → Qk y H4) → (∀ H3, Same H H3 → kept i = none → Qn H3) →
      tt ((wipe σ vs).set j (some (it i))) H fun b H3 => if b = true then te ((wipe σ vs).set j (some (it i))) H3 Qk else Qn H3)
    (fin : ∀ H', Same H1 H' → H' D = some (.lst ((List.range n).filterMap kept)) → Q (.ref D) H') : Lc J (gName j) tt te vs D σ H1 Q := by
  refine Lc.by wk (fun i H => Same H1 H ∧ H D = some (.lst ((List.range i).filterMap kept))) ⟨same_upd hD, upd_same⟩ (fun i H _ p => hG H p.1) ?_ fun H p => fin H p.1 p.2
  rintro i x H H' hi ⟨sm, hd⟩ hy
  obtain ⟨rfl, rfl⟩ := hY i H x H' hi hy
  refine ⟨hw i, step i _ _ _ hi sm (fun y H4 s4 hk => ⟨_, s4 _ _ hd, ?_, fun b o e => ?_, ?_⟩) fun H3 s3 hk => ⟨sm.trans s3, ?_⟩⟩
  · refine Nat.lt_of_le_of_lt (Nat.le_trans (List.length_filterMap_le _ _) (by rw [List.length_range]; exact Nat.le_trans (Nat.le_of_lt hi) hn)) (by rw [sizeLine_eq]; omega)
  · rw [upd_ne (ne_of_none e hD)]; exact s4 _ _ (sm _ _ e)
  · rw [upd_same, List.range_succ, List.filterMap_append, List.filterMap_cons_some hk]; rfl
  · rw [s3 _ _ hd, List.range_succ, List.filterMap_append, List.filterMap_cons_none hk]; simp
section
variable {CX : CXT} {P : Program} {w : World} {K : PySem.W.Frag} {mg : Str → Option Value} {base : Heap} {N : List Str} {q : Str} {sc : Scope} {f : Addr} {cd : Value} {A : Around} {o : List Env} {s : Shared} {H : Hp} {E : XK}
theorem cx_K : (cxOf CX P w K mg base N q sc f cd A o s H E).K = K := rfl
theorem cx_prog : (cxOf CX P w K mg base N q sc f cd A o s H E).prog = P := rfl
theorem cx_w : (cxOf CX P w K mg base N q sc f cd A o s H E).w = w := rfl
theorem cx_nK : (cxOf CX P w K mg base N q sc f cd A o s H E).nox.K = K := rfl
end
theorem rEq_int (i j : Int) (H : Hp) (Q : VK) : rEq (.int i) (.int j) H Q = Q (.bl (decide (i = j))) H := by simp [rEq, scal]
theorem rNe_int (i j : Int) (H : Hp) (Q : VK) : rNe (.int i) (.int j) H Q = Q (.bl (!decide (i = j))) H := by simp [rNe, scal]
theorem rEq_bl (i j : Bool) (H : Hp) (Q : VK) : rEq (.bl i) (.bl j) H Q = Q (.bl (decide (i = j))) H := by simp [rEq, scal]
theorem rNe_bl (i j : Bool) (H : Hp) (Q : VK) : rNe (.bl i) (.bl j) H Q = Q (.bl (!decide (i = j))) H := by simp [rNe, scal]
theorem rEq_str (i j : Str) (H : Hp) (Q : VK) : rEq (.str i) (.str j) H Q = Q (.bl (decide (i = j))) H := by simp [rEq, scal]
theorem rNe_str (i j : Str) (H : Hp) (Q : VK) : rNe (.str i) (.str j) H Q = Q (.bl (!decide (i = j))) H := by simp [rNe, scal]
theorem atI_0 {α : Type} (a : α) (r : List α) : atI (a :: r) 0 = some a := atI_nat (j := 0) rfl
theorem atI_1 {α : Type} (a b : α) (r : List α) : atI (a :: b :: r) 1 = some b := atI_nat (j := 1) rfl
theorem atI_2 {α : Type} (a b c : α) (r : List α) : atI (a :: b :: c :: r) 2 = some c := atI_nat (j := 2) rfl
theorem atI_3 {α : Type} (a b c d : α) (r : List α) : atI (a :: b :: c :: d :: r) 3 = some d := atI_nat (j := 3) rfl
theorem ixN_4_0 : ixN 4 0 = some 0 := rfl
theorem ixN_4_1 : ixN 4 1 = some 1 := rfl
theorem ixN_4_2 : ixN 4 2 = some 2 := rfl
theorem ixN_4_3 : ixN 4 3 = some 3 := rfl
theorem some_lst {a b : List V} : (some (HO.lst a) = some (HO.lst b)) = (a = b) := by simp
theorem some_tup {a b : List V} : (some (HO.tup a) = some (HO.tup b)) = (a = b) := by simp
/-! ### the head: facts by names, and one more Bool -/
def obsM (n : Nat) (fa : List He.Fa) (fn : List He.DefD) (ex : PySem.W.Frag → Bool) (g : Addr → Option Obj) : He.AlD × Bool := (He.obsDG n fa fn g, ex (He.frG g (He.asD g n)))
def hookM (n : Nat) (fa : List He.Fa) (fn : List He.DefD) (ex : PySem.W.Frag → Bool) : PySem.W.Hook where
  α := He.AlD × Bool
  obs := fun s => obsM n fa fn ex s.heap.get?
  val := fun _ => (He.valD fn, true)
  says := fun _ h => ∃ K : PySem.W.Frag, K.In h ∧ He.SaysD fa fn K ∧ ex K = true
  of := fun _ _ e => ⟨_, He.frG_in, congrArg (fun z : He.AlD × Bool => z.1) e, congrArg (fun z : He.AlD × Bool => z.2) e⟩
  keeps := fun _ _ _ ⟨K, hK, c⟩ k => ⟨K, PySem.W.Frag.In.keeps hK k, c⟩
theorem obsM_eq {n : Nat} {fa : List He.Fa} {fn : List He.DefD} {ex : PySem.W.Frag → Bool} {g : Addr → Option Obj} {s : Shared} (h : ∀ a, g a = s.heap.get? a) : obsM n fa fn ex g = (hookM n fa fn ex).obs s := by
  have e : g = s.heap.get? := funext h
  rw [e] <;> rfl
theorem own_of {K : PySem.W.Frag} {x : Str} (c : (He.Fa.exc x).ok K = true) : OwnExc K (He.ga K x) := by
  obtain ⟨a, b, d, e⟩ := He.exc_ok c
  exact ⟨a, b, d, e⟩
/-- the module's name x stands for this built-in -/
def isB (x : Str) (id : String) (K : PySem.W.Frag) : Bool := He.eqO (PySem.W.nsIn K mainGlobals x) (some (some (.builtin id)))
theorem isB_ok {K : PySem.W.Frag} {h : Heap} {mg : Str → Option Value} (X : K.In h) (G : h.Ns mainGlobals mg) {x : Str} {id : String} (c : isB x id K = true) : mg x = some (.builtin id) := PySem.W.mg_of X G (He.eqO_ok c)
end Mine

namespace Mine
open PySem PySem.Spec PyProof.Rows L2
/-! ### own errors that keep what they are given -/
def oexB (K : PySem.W.Frag) (C : Addr) : Bool := match K.lookup C with
  | some ⟨.type "type", _, .cls cd, sl⟩ => (match cd.mro, sl.toList with
    | .ref C' :: bm, [_, _, _, _, some (.builtin n), _] => C' == C && (n == "ValueError.__new__" && (!cd.hasDel && (cd.hasDict && PySem.HandSPX.refsVE bm)))
    | _, _ => false)
  | _ => false
theorem oexB_cls {K : PySem.W.Frag} {C : Addr} (q : oexB K C = true) : ∃ nm q N bs bm sn sub ab col dd k0 k1 k2 k3 k5, K.lookup C = some (excClassObj nm q C N bs bm true sn sub ab col dd k0 k1 k2 k3 k5 "ValueError.__new__") ∧ PySem.HandSPX.refsVE bm = true := by
  unfold oexB at q
  split at q
  · rename_i dd cd sl ho
    split at q
    · rename_i C' bm k0 k1 k2 k3 n k5 hm hs
      simp only [Bool.and_eq_true, beq_iff_eq, Bool.not_eq_true'] at q
      obtain ⟨rfl, rfl, hdel, hdict, hb⟩ := q
      obtain ⟨nm, bs, mro, ns, qn, hd, sn, sub, ab, col, del⟩ := cd
      dsimp only at hm hdel hdict
      subst hm hdel hdict
      obtain ⟨l⟩ := sl
      simp only at hs
      subst hs
      exact ⟨nm, qn, ns, bs, bm, sn, sub, ab, col, dd, k0, k1, k2, k3, k5, ho, hb⟩
    · cases q
  · cases q
/-- the class at C: its __init__ at fI puts what it is given into f -/
structure FldExc (K : PySem.W.Frag) (C fI : Addr) : Prop where
  o : OexC K C
  ini : PySem.W.findIn K (.ref C) "__init__" = some (some (.ref fI))
  ty : PySem.W.typeIn K (.ref fI) = some (.type "function")
  x : XfC K C
def fexB (K : PySem.W.Frag) (x : Str) : Bool := oexB K (He.ga K x) && (He.eqO (PySem.W.findIn K (.ref (He.ga K x)) "__setattr__") (some (some (.builtin "object.__setattr__"))) && (decide (PySem.W.subIn K (.ref (He.ga K x)) (.type "BaseException") = some true) &&
  (decide (PySem.W.typeIn K (.ref (He.ga K x)) = some (.type "type")) && (PySem.W.keepIn K (.ref (He.ga K x)) && (He.eqO (PySem.W.findIn K (.ref (He.ga K x)) "__init__") (some (some (.ref (He.ma K (He.ga K x) "__init__")))) &&
  (decide (PySem.W.typeIn K (.ref (He.ma K (He.ga K x) "__init__")) = some (.type "function")) && xfB K (He.ga K x)))))))
theorem fexB_ok {K : PySem.W.Frag} {x : Str} (h : fexB K x = true) : FldExc K (He.ga K x) (He.ma K (He.ga K x) "__init__") := by
  obtain ⟨a, h⟩ := He.ba h
  obtain ⟨b, h⟩ := He.ba h
  obtain ⟨c, h⟩ := He.ba h
  obtain ⟨d, h⟩ := He.ba h
  obtain ⟨e, h⟩ := He.ba h
  obtain ⟨f, h⟩ := He.ba h
  obtain ⟨g, i⟩ := He.ba h
  exact ⟨⟨oexB_cls a, He.eqO_ok b, of_decide_eq_true c, of_decide_eq_true d, e⟩, He.eqO_ok f, of_decide_eq_true g, xfB_ok i⟩
theorem PMk.asks {X : Cx} {e : Expr} {t t' : L2.St → Hp → XK → Prop} (h : PMk X e t) (m : ∀ σ H Q, t' σ H Q → t σ H Q) : PMk X e t' := fun pn st sg Hh Qq J hq => h pn st sg Hh Qq J (m _ _ _ hq)
/-- what such an __init__ does -/
def spFld (C : Addr) (f : Str) : Sp := fun vs H Q _ => ∃ (a : Addr) (v : V), vs = [.ref a, v] ∧ H a = some (exo a C none) ∧ ∀ dx, H dx = none → dx ≠ a → Q .non (upd (upd H dx (exd dx [(f, v)])) a (exo a C (some dx)))
/-- X(e): the error's own dict at d -/
def tMk1 (C : Addr) (f : Str) (te : TE) : L2.St → Hp → XK → Prop := fun σ H Q => te σ H fun v H1 => ∀ d H', Same H1 H' → H1 d = none → H' d = some (.xd [(f, v)]) → Q (.ref C) (some d) H'
theorem mk1 {X : Cx} {x f : Str} {C fI : Addr} {k : Nat} {fd : FuncData} {e : Expr} {te : TE} {p pos : Pos} {ps : List Str} (T : FldExc X.K C fI) (g : X.mg x = some (.ref C)) (F1 : FnOk X.prog X.w X.K X.mg X.base CX0 k fI fd ps (spFld C f)) (hb : Binds X.K fd ps []) (hr : Room (k + 1) X.A)
    (mt : Mon te) (he : PE X e te) (hg : Gl X x) (hd : (x == ("__debug__" : Str)) = false := by decide) (hs : starEach (e :: []) X.env = (false, eval e X.env) :: starEach [] X.env := by rfl) (hpl : (backTo pos (starEach [] X.env)).any (·.1) = false := by rfl) :
    PMk X (.Call (.Name x p) [e] [] pos) (tMk1 C f te) := by
  refine PMk.asks (pmk_oex (dvs := []) (ds := []) T.o T.ini T.ty F1 hr hb .nil (fun _ _ _ _ _ _ _ h => h.elim) hg g (pa_cons he pa_nil hs) hd hs hpl) fun σ H Q h => ?_
  refine mt σ H _ _ (fun v H1 q => ?_) h
  show [v].length ≤ 1000 ∧ ∀ a, H1 a = none → spFld C f (.ref a :: ([v] ++ [])) (upd H1 a (exo a C none)) _ _
  refine ⟨by show 1 ≤ 1000; decide, fun a ha => ⟨a, v, rfl, upd_same, fun dx hdx ne => ⟨rfl, dx, [(f, v)], upd_same, ?_, ?_, ?_⟩⟩⟩
  · rw [upd_ne ne, upd_same]
  · rw [upd_ne ne] at hdx; exact hdx
  · have h1 : H1 dx = none := by rw [upd_ne ne] at hdx; exact hdx
    refine q dx _ (fun b o eb => ?_) h1 upd_same
    have nb : b ≠ a := ne_of_none eb ha
    have nd : b ≠ dx := ne_of_none eb h1
    rw [upd_ne nd, del_ne nb, upd_ne nb, upd_ne nd, upd_ne nb]; exact eb
end Mine

namespace PySem
set_option maxHeartbeats 8000000 in
theorem mine_enum_newB {v : Value} {o : Obj} {H : Heap → Prop} (B : Begins v o H) :
    Meets (Builtin.«enumerate.__new__» ⟨[.type "enumerate", v], []⟩) (fun _ R s => H s.heap ∧
      R (.ok (.ret (.ref (s.heap.push o).objs.size))) { s with heap := (s.heap.push o).push { cls := .type "enumerate", data := .fields #[.none, .bool false, .ref s.heap.objs.size, rawInt 0, .none, .none] } }) :=
  .of_wp fun prog w A R s h => by
    obtain ⟨hp, g, d, tk, os⟩ := s; obtain ⟨h1, h⟩ := h
    have hsub := sub_enumerate
    have q1 : ∀ {A' : Around} {E : Value → Shared → Prop} {Q : Value → Shared → Prop}, Q (.ref hp.objs.size) ⟨hp.push o, g, d, tk, os⟩ → wpAny (model prog w) A' (pyIter v) Q E ⟨hp, g, d, tk, os⟩ :=
      fun q => B.iter prog w _ _ ⟨hp, g, d, tk, os⟩ _ h1 q
    wp_walk using q1
    refine wpAny_stack_any fun st => wpAny_pure ?_
    split
    · rename_i c _ _ _ _ _
      cases (c == Value.type "enumerate")
      · wp_walk using q1
        exact ⟨_, rfl, h⟩
      · wp_walk using q1
        exact ⟨_, rfl, h⟩
    · wp_walk using q1
      exact ⟨_, rfl, h⟩
section
variable {prog : Program} {w : World} {A : Around} {E : Value → Shared → Prop} {s : Shared}
theorem mine_enum_call {v : Value} {o : Obj} {H : Heap → Prop} {Q : Value → Shared → Prop} (B : Begins v o H) (h1 : H s.heap)
    (h : ∀ h', IsEnum h' (s.heap.objs.size + 1) s.heap.objs.size 0 .none → h'.get? s.heap.objs.size = some o → h'.objs.size = s.heap.objs.size + 2 →
      (∀ b o, s.heap.get? b = some o → h'.get? b = some o) → Q (.ref (s.heap.objs.size + 1)) { s with heap := h' }) :
    wpAny (model prog w) A (call (.type "enumerate") [v]) Q E s := by
  refine callType_new F.called_enumerate (by decide) (F.typeCall_enumerate_1 _) (F.newCall_enumerate_1 _) (fun obj => F.args_object_init_2 obj _) F.entry_enumerate_new
    (mine_enum_newB B) ⟨h1, ?_⟩
  have hz : (s.heap.push o).objs.size = s.heap.objs.size + 1 := Heap.size_push ..
  show _ ∧ _
  rw [hz]
  have he : IsEnum ((s.heap.push o).push { cls := .type "enumerate", data := .fields #[.none, .bool false, .ref s.heap.objs.size, rawInt 0, .none, .none] }) (s.heap.objs.size + 1) s.heap.objs.size 0 .none := by
    have := Heap.get?_push_size (s.heap.push o) (o := { cls := .type "enumerate", data := .fields #[.none, .bool false, .ref s.heap.objs.size, rawInt 0, .none, .none] }) rfl
    rw [hz] at this; exact this
  refine ⟨⟨_, he, rfl⟩, h _ he (Heap.get?_push_of_some _ (Heap.get?_push_size _ B.free)) (by rw [Heap.size_push, hz]) fun b o x => Heap.get?_push_of_some _ (Heap.get?_push_of_some _ x)⟩
end
end PySem
namespace Mine
open PySem PySem.Spec PyProof.Rows L2
/-! ### enumerate over a tuple -/
def IteT (K : PySem.W.Frag) (a : Addr) : It :=
  ⟨fun i H => ∃ (xs : List V) (x : V), SqT K H a xs ∧ xs[i]? = some x, fun i H v H' => ∃ T x, v = .ref T ∧ H T = none ∧ H' = upd H T (.tup [.int (i : Nat), x]) ∧ ∀ xs, SqT K H a xs → xs[i]? = some x, fun i H => ∃ xs : List V, SqT K H a xs ∧ xs.length ≤ i⟩
theorem turn_enumT {P : Program} {w : World} {K : PySem.W.Frag} {elts : List Expr} {kk : Nat} {tpos : Pos} (a e it : Addr) (ha : a ≠ it) (hae : e ≠ a) :
    Turn P w K (.Tuple elts kk tpos) (IteT K a) [e, it] e (fun i h => (∃ old, IsEnum h e it ((i : Nat) : Int) old) ∧ h.IsTupleIter it a i ∧ e ≠ it) where
  mem := by simp
  obj := fun i h st b hb => by
    obtain ⟨⟨old, he⟩, ⟨o, ho, hc, hd⟩, _⟩ := st
    have e' : b = e ∨ b = it := by simpa using hb
    rcases e' with z | z
    · rw [z]; exact ⟨_, he, fun v q => nomatch q⟩
    · rw [z]; exact ⟨o, ho, fun v q => by rw [hd] at q; cases q⟩
  keep := fun i h h' st k => let ⟨⟨old, he⟩, hi, hne⟩ := st; ⟨⟨old, k e (by simp) _ he⟩, hi.at fun o q => k it (by simp) o q, hne⟩
  item := by
    intro X hP hw hK hc i pins s σ H E I hf st hg
    subst hP hw hK
    obtain ⟨⟨old, he⟩, hit, hne⟩ := st
    obtain ⟨xs, x, hq, hx⟩ := hg
    obtain ⟨its, rv, p, hz⟩ := I.tuple hq
    obtain ⟨u, hu, ru⟩ := rv.get hx
    have hel : e < s.heap.objs.size := Heap.lt_size he
    have hil : it < s.heap.objs.size := by obtain ⟨_, q, _⟩ := hit; exact Heap.lt_size q
    have pt : s.heap.IsTuple a its.toArray := p
    have hlt : i < its.toArray.size := by
      have := List.getElem?_eq_some_iff.mp hu
      obtain ⟨h, _⟩ := this
      simpa using h
    refine wpAny_pyNext_enum_itemD (i := i) (Draws.tuple (A := X.A.in1) (I.ok.hd hc) it a ha its.toArray) he ⟨hit, pt⟩ hlt hne (by simp [hne, hae]) fun x' h' tk hP ho hs' hT hsz hk => ?_
    have ex : x' = u := by
      have z : its.toArray[i]? = some u := by simpa using hu
      rw [hP] at z; exact Option.some.inj z
    subst ex
    refine ⟨_, rfl, wpAny_letOwnedTupleGo_enum (s := { s with heap := h', toks := tk + 1 }) ho fun h'' he' sb => ?_⟩
    have hT2 : h''.get? s.heap.objs.size = some { cls := .type "tuple", data := .seq #[.int i tk, x'] } := (sb.2 _ (Nat.ne_of_gt hel)).trans hT
    have new : ObjOk X.prog X.w (upd H s.heap.objs.size (.tup [.int (i : Nat), x])) h'' s.heap.objs.size (.tup [.int (i : Nat), x]) :=
      ⟨by show 2 ≤ sizeLine; decide, [.int i tk, x'], .cons ⟨_, rfl⟩ (.cons ru .nil), ⟨_, hT2, rfl, _, rfl⟩⟩
    have I1 : Inv X pins σ (upd H s.heap.objs.size (.tup [.int (i : Nat), x])) { s with heap := h'', toks := tk + 1 } :=
      I.turnedNew (ch := [e, it]) (fun b ob hb q => (sb.2 b (fun z => hb (by simp [z]))).trans (hk b ob (fun z => hb (by simp [z])) (fun z => hb (by simp [z])) q)) hf (Nat.le_refl _) new
    refine ⟨.ref s.heap.objs.size, _, I1, rfl, ⟨_, x, rfl, I.hok.fresh (Nat.le_refl _), rfl, fun ys hy => by rw [I.tuple_inj hy hq]; exact hx⟩, ⟨⟨x', ?_⟩, hs'.1.at fun o q => (sb.2 it (Ne.symm hne)).trans q, hne⟩, fun b hb => ?_⟩
    · have e1 : ((i + 1 : Nat) : Int) = (i : Int) + 1 := by omega
      rw [e1]; exact he'
    · have hb' : b < s.heap.objs.size := by
        have e' : b = e ∨ b = it := by simpa using hb
        rcases e' with z | z
        · rw [z]; exact hel
        · rw [z]; exact hil
      rw [upd_ne (Nat.ne_of_lt hb')]
      exact (hf b hb).1
  done := by
    intro X hP hw hK hc i pins s σ H E I hf st hg
    subst hP hw hK
    obtain ⟨⟨old, he⟩, hit, hne⟩ := st
    obtain ⟨xs, hq, hx⟩ := hg
    obtain ⟨its, rv, p, hz⟩ := I.tuple hq
    obtain ⟨f0, f1, f2, f3, f4, f5⟩ := hf it (by simp)
    have hl := rv.length
    have pt : s.heap.IsTuple a its.toArray := p
    have hT : s.TypeIs (.ref e) "enumerate" := ⟨_, he, rfl⟩
    unfold pyNext
    refine wpAny_bind (wpAny_attempt (wpAny_callSpecial?_slot (name := Str.ofString "__next__") hT F.slot_enumerate_next
      (wpAny_call_entry F.slot_enumerate_next hT F.entry_enumerate_next ?_ (F.args_enumerate_next_1 _))))
    show wpAny _ _ (field (.ref e) 2 >>= _) _ _ _
    refine wpAny_bind (wpAny_field he rfl (x := .ref it) rfl ?_)
    refine wpAny_bind (wpAny_nextOf_tuple_end (I.ok.hd hc) hit pt (by simp; omega) fun h' x he' hx' => ?_)
    obtain ⟨o, ho, hc⟩ := hx'
    refine wpAny_bind (wpAny_isInstance (T := "StopIteration") (b := true) ⟨o, ho, hc⟩ isSubtype_stop ?_)
    exact wpAny_pure ⟨rfl, I.turned (t' := s.toks) (fun b o hb q => he' b o hb q) f0 f1 f3 f4 f5⟩
  self := fun A i s Q E st h => let ⟨⟨_, he⟩, _⟩ := st; wpAny_pyIter_enum he h
def iEnumT (K : PySem.W.Frag) (ta : TA) : TI := fun σ H R => ta σ H fun vs H1 => ∃ a xs, vs = [.ref a] ∧ SqT K H1 a xs ∧ R (IteT K a) H1
def iEnumA (K : PySem.W.Frag) (ta : TA) : TI := fun σ H R => ta σ H fun vs H1 => ∃ a xs, vs = [.ref a] ∧ ((SqL K H1 a xs ∧ R (Ite K a) H1) ∨ (SqT K H1 a xs ∧ R (IteT K a) H1))
theorem pi_enumA {X : Cx} {e : Expr} {ta : TA} {p pos tpos : Pos} {elts : List Expr} {kk : Nat} (hg : Gl X "enumerate") (hm : X.mg "enumerate" = none) (ha : PA X [e] ta) (hs : starEach [e] X.env = [(false, eval e X.env)] := by rfl) :
    PI X (.Tuple elts kk tpos) (.Call (.Name "enumerate" p) [e] [] pos) (iEnumA X.K ta) := by
  refine ⟨fun pins s σ H R I h => ?_⟩
  refine Call_ (ld_blt I hg hm boot_enumerate (PyProof.Rows.callWith_type1 (thn (ha.run pos pins s σ H _ I h) fun us s1 ⟨vs, H1, I1, r1, q1⟩ => ?_) hs rfl))
  obtain ⟨a, xs, ex, q1⟩ := q1
  subst ex
  cases r1 with
  | cons r rr =>
    cases rr
    cases r
    have fp2 : ∀ b ∈ [s1.heap.objs.size + 1, s1.heap.objs.size], FpOk X pins H1 b := fun b hb => by
      have e' : b = s1.heap.objs.size + 1 ∨ b = s1.heap.objs.size := by simpa using hb
      have hle : s1.heap.objs.size ≤ b := by
        rcases e' with z | z
        · rw [z]; exact Nat.le_add_right _ _
        · rw [z]; exact Nat.le_refl _
      exact I1.fpOk hle (I1.hok.fresh hle)
    rcases q1 with ⟨hq, q⟩ | ⟨hq, q⟩
    · obtain ⟨its, rv, p', hz⟩ := I1.list hq
      refine call_enumerate_list p'.isList fun h' he hit hsz hk => wpAny_pyIter_enum he ?_
      have I2 : Inv X pins σ H1 { s1 with heap := h' } := I1.kept (t' := s1.toks) hk
      exact ⟨s1.heap.objs.size + 1, [s1.heap.objs.size + 1, s1.heap.objs.size], _, _, H1, rfl, I2, turn_enum a (s1.heap.objs.size + 1) s1.heap.objs.size, ⟨⟨.none, he⟩, hit, Nat.succ_ne_self _⟩, fp2, q⟩
    · obtain ⟨its, rv, p', hz⟩ := I1.tuple hq
      have pt : s1.heap.IsTuple a its.toArray := p'
      have hlt : a < s1.heap.objs.size := by
        obtain ⟨o, ho, _⟩ := id pt
        exact Heap.lt_size ho
      refine mine_enum_call (begins_tuple a its.toArray) pt fun h' he hit hsz hk => wpAny_pyIter_enum he ?_
      have I2 : Inv X pins σ H1 { s1 with heap := h' } := I1.kept (t' := s1.toks) hk
      exact ⟨s1.heap.objs.size + 1, [s1.heap.objs.size + 1, s1.heap.objs.size], _, _, H1, rfl, I2, turn_enumT a (s1.heap.objs.size + 1) s1.heap.objs.size (Nat.ne_of_lt hlt) (Nat.ne_of_gt (Nat.lt_succ_of_lt hlt)), ⟨⟨.none, he⟩, ⟨_, hit, rfl, rfl⟩, Nat.succ_ne_self _⟩, fp2, q⟩
theorem walk_enumT {K : PySem.W.Frag} {a : Addr} {xs : List V} : Walk (IteT K a) xs.length (fun H => SqT K H a xs) (YPair (fun i => some (.int (i : Nat))) (fun i => xs[i]?)) := by
  refine ⟨fun i _ hi q => ⟨xs, xs[i], q, by simp [hi]⟩, fun _ q => ⟨xs, q, Nat.le_refl _⟩, fun i H v H' _ q y => ?_⟩
  obtain ⟨T, x, h1, h2, h3, h4⟩ := y
  exact ⟨T, .int (i : Nat), x, h1, h2, h3, rfl, h4 xs q⟩
/-! ### a list or a tuple -/
def iSeq (K : PySem.W.Frag) (tl : TE) : TI := fun σ H R => tl σ H fun x H1 => ∃ a xs, x = .ref a ∧ ((SqL K H1 a xs ∧ R (Itl K a) H1) ∨ (SqT K H1 a xs ∧ R (Itt K a) H1))
theorem pi_seq {X : Cx} {tg l : Expr} {tl : TE} (hl : PE X l tl) : PI X tg l (iSeq X.K tl) := by
  refine ⟨fun pins s σ H R I h => ?_⟩
  refine thn (hl.run pins s σ H _ I h) fun v s1 ⟨x, H1, I1, r1, q1⟩ => ?_
  obtain ⟨a, xs, e, q1⟩ := q1
  subst e
  cases r1
  have fp1 : ∀ b ∈ [s1.heap.objs.size], FpOk X pins H1 b := fun b hb => by
    have e : b = s1.heap.objs.size := by simpa using hb
    subst e
    exact I1.fpOk (Nat.le_refl _) (I1.hok.fresh (Nat.le_refl _))
  rcases q1 with ⟨hq, q⟩ | ⟨hq, q⟩
  · obtain ⟨its, rv, p, hz⟩ := I1.list hq
    refine wpAny_pyIter_list p.isList ?_
    exact ⟨s1.heap.objs.size, [s1.heap.objs.size], _, _, H1, rfl, I1.kept (t' := s1.toks) fun b o e => Heap.get?_push_of_some _ e, turn_list a _, ⟨_, Heap.get?_push_size _ rfl, rfl, rfl⟩, fp1, q⟩
  · obtain ⟨its, rv, p, hz⟩ := I1.tuple hq
    refine wpAny_pyIter_tuple (show s1.heap.IsTuple a its.toArray from p) ?_
    exact ⟨s1.heap.objs.size, [s1.heap.objs.size], _, _, H1, rfl, I1.kept (t' := s1.toks) fun b o e => Heap.get?_push_of_some _ e, turn_tuple a _, ⟨_, Heap.get?_push_size _ rfl, rfl, rfl⟩, fp1, q⟩
section
variable {X : Cx}
/-- b tells whether x is a list or a tuple -/
def IsSeqV (K : PySem.W.Frag) (H : Hp) (x : V) (b : Bool) : Prop := match x with
  | .non => b = false
  | .bl _ => b = false
  | .int _ => b = false
  | .str _ => b = false
  | .ref a => (b = true ∧ ∃ xs, SqL K H a xs) ∨ (b = true ∧ ∃ xs, SqT K H a xs) ∨ (b = false ∧ ∃ kvs, H a = some (.dK kvs))
  | _ => False
theorem kb_dict_int : kitB "dict" "int" = some false := by decide +kernel
theorem kb_dict_bool : kitB "dict" "bool" = some false := by decide +kernel
theorem kb_dict_str : kitB "dict" "str" = some false := by decide +kernel
theorem kb_dict_tuple : kitB "dict" "tuple" = some false := by decide +kernel
theorem kb_dict_list : kitB "dict" "list" = some false := by decide +kernel
theorem call_isSeq : CallR X (.builtin "isinstance") (fun xs H Q => ∃ x tp b, xs = [x, .ref tp] ∧ H tp = some (.tup [.ty "list", .ty "tuple"]) ∧ IsSeqV X.K H x b ∧ Q (.bl b) H) :=
  CallR.weak call_isiT fun _ H _ ⟨x, tp, b, e, ht, k, q⟩ => by
    have : ∃ t : String, TyX X.K H x (.type t) ∧ PySem.W.kitAny X.K (.type t) [.type "list", .type "tuple"] = some b := by
      have two : ∀ {t : String} {r1 r2 : Bool}, kitB t "list" = some r1 → kitB t "tuple" = some r2 → (r1 || r2) = b → PySem.W.kitAny X.K (.type t) [.type "list", .type "tuple"] = some b := fun {t r1 r2} h1 h2 h3 => by
        refine kitAny_cons (kit_ty h1) (fun e1 => kitAny_cons (kit_ty h2) (fun e2 => ?_) fun e2 => ?_) fun e1 => ?_
        · subst e1 e2; rw [← h3]; rfl
        · subst e1 e2; rw [← h3]; rfl
        · subst e1; rw [← h3]; rfl
      cases x with
      | non => cases k; exact ⟨_, .base .non, two kb_NoneType_list kb_NoneType_tuple rfl⟩
      | bl y => cases k; exact ⟨_, .base (.bl y), two kb_bool_list kb_bool_tuple rfl⟩
      | int i => cases k; exact ⟨_, .base (.int i), two kb_int_list kb_int_tuple rfl⟩
      | str z => cases k; exact ⟨_, .base (.str z), two kb_str_list kb_str_tuple rfl⟩
      | ref a =>
        rcases k with ⟨rfl, xs, h⟩ | ⟨rfl, xs, h⟩ | ⟨rfl, kvs, h⟩
        · exact ⟨_, tyx_L h, two kb_list_list kb_list_tuple rfl⟩
        · exact ⟨_, tyx_T h, two kb_tuple_list kb_tuple_tuple rfl⟩
        · exact ⟨_, .base (.dK h), two kb_dict_list kb_dict_tuple rfl⟩
      | byt b => cases k
      | flt b => cases k
      | ty n => cases k
    obtain ⟨t, ty, h⟩ := this
    exact ⟨x, tp, _, _, [.type "list", .type "tuple"], b, e, ht, .cons (.ty _) (.cons (.ty _) .nil), ty, h, q⟩
theorem call_lenA : CallR X (.builtin "len") (fun xs H Q => ∃ p ys, xs = [.ref p] ∧ (H p = some (.lst ys) ∨ H p = some (.tup ys)) ∧ Q (.int ys.length) H) :=
  CallR.weak call_len_seq fun _ _ _ ⟨p, ys, e1, e2, q⟩ => ⟨p, ys, e1, e2.elim (fun e => .inl (.inl (.inl e))) (fun e => .inr (.inl (.inl e))), q⟩
/-- tuple(x), x a list or a tuple: the tuple stands at l -/
theorem call_tupA : CallR X (.type "tuple") (fun xs H Q => ∃ p ys, xs = [.ref p] ∧ (H p = some (.lst ys) ∨ H p = some (.tup ys)) ∧ ∀ l H', Same H H' → H' l = some (.tup ys) → Q (.ref l) H') :=
  CallR.weak call_tuple_of fun _ H _ ⟨p, ys, e1, e2, q⟩ => ⟨p, ys, e1, by
    rcases e2 with e2 | e2
    · exact .inl ⟨.inl (.inl e2), fun l hl => q l _ (same_upd hl) upd_same⟩
    · exact .inr ⟨.inl (.inl e2), q p H (Same.refl H) e2⟩⟩
end
end Mine

namespace L2
open PySem PySem.Spec PyProof.Rows
section
variable {P : Program} {w : World} {A : Around} {E : Value → Shared → Prop} {s : Shared}
/-- sorted of a set of one tuple or none: nothing is compared -/
theorem mine_sorted_short {a : Addr} {L : List (Addr × List Int)} {es : Array (Int × Value)} {ep : Nat} {t : SetTable} {Q : Value → Shared → Prop} (R : SetTR P w s.heap a L es ep t) (hh : A.handled = none) (h1 : L.length ≤ 1)
    (hQ : ∀ s' p (out : Array Value) (c : Nat), (∀ b o, s.heap.get? b = some o → s'.heap.get? b = some o) → s'.gens = s.gens → s'.os = s.os → s.heap.objs.size ≤ p →
      s'.heap.get? p = some (seqObj "list" out c) → out.toList = L.map (fun q => Value.ref q.1) → Q (.ref p) s') : wpAny (model P w) A (call (.builtin "sorted") [.ref a]) Q E s := by
  obtain ⟨o, ho, hex, hd⟩ := R.ob
  have few := R.few
  have rsz := R.size
  refine Calls.call_function_entry kind_sorted plain_sorted entry_sorted (args_sorted1 _) ?_
  unfold Builtin.«sorted»
  refine wpAny_bind (m := checkCount "sorted" 1 1 _) (wpAny_pure (wpAny_bind (collect_set (A := A.in1) hh ⟨o, ho, hex.1, hd⟩ R.fits (by unfold scanBound; omega) R.tab.ris R.led fun s1 vs k1 hz g1 o1 pm => ?_)))
  rw [show es.toList.map (·.2) = L.map (fun q => Value.ref q.1) by rw [R.rows]; unfold rowsOf; rw [List.map_map]; rfl] at pm
  have short : ∀ {us : List Value}, us.Perm (L.map fun q => Value.ref q.1) → us = L.map fun q => Value.ref q.1 := fun {us} h => by
    match L, h1, h with
    | [], _, h => exact h.eq_nil
    | [x], _, h => exact List.perm_singleton.mp h
    | _ :: _ :: _, h1, _ => exact absurd h1 (by simp)
  have ev := short pm
  have hl : vs.length ≤ 1 := by rw [ev, List.length_map]; exact h1
  refine wpAny_bind (wpAny_newList ?_ (by rw [sizeLine_eq]; omega))
  have hoL : (s1.heap.push (seqObj "list" vs.toArray 0)).get? s1.heap.objs.size = some (seqObj "list" vs.toArray 0) := Heap.get?_push_size _ rfl
  refine wpAny_bind (wpAny_holding (wpAny_call_entry (s := { s1 with heap := s1.heap.push (seqObj "list" vs.toArray 0) }) slot_list_sort ⟨_, hoL, rfl⟩ entry_list_sort
    (SK.plain_sort (r := fun _ => 0) hoL (by omega) (fun h2 => absurd h2 (by omega)) fun ps out e1 pp _ => ⟨_, rfl, ?_⟩) (args_list_sort _)))
  have eo : out.toList = L.map fun q => Value.ref q.1 := by
    refine short (.trans ?_ pm)
    rw [e1]
    have z := pp.map Prod.snd
    rwa [List.map_snd_zip (Nat.le_refl _)] at z
  obtain ⟨c, hc⟩ := sortedHeap_at (vs := vs) (out := out) hoL
  refine wpAny_pure ⟨_, rfl, hQ _ s1.heap.objs.size out c (fun b u e => ?_) g1 o1 hz hc eo⟩
  have q := k1 b u e
  exact (sortedHeap_old (Nat.ne_of_lt (Heap.lt_size q)) (by rw [size_push']; exact Nat.lt_succ_of_lt (Heap.lt_size q))).trans (Heap.get?_push_of_some _ q)
end
end L2

namespace Mine
open PySem PySem.Spec PyProof.Rows L2
/-- words of whole numbers of one length, each within [0, B) -/
def Even (d : Nat) (B : Int) (ws : List (List Int)) : Prop := ∀ x ∈ ws, x.length = d ∧ TS.Bd B x
theorem few_of_nil {ws : List (List Int)} (n : ws.Nodup) (z : ∀ x ∈ ws, x.length = 0) : ws.length ≤ 1 := by
  match ws, n, z with
  | [], _, _ => exact Nat.zero_le _
  | [_], _, _ => exact Nat.le_refl _
  | x :: y :: _, n, z =>
    have a : x = [] := List.length_eq_zero_iff.mp (z x (by simp))
    have b : y = [] := List.length_eq_zero_iff.mp (z y (by simp))
    exact absurd (a.trans b.symm) (fun e => (List.nodup_cons.mp n).1 (e ▸ List.mem_cons_self))
def rSortedA (K : PySem.W.Frag) (P : Program) (w : World) : List V → Hp → VK → Prop := fun vs H Q => ∃ (a : Addr) (L : List (Addr × List Int)) (d : Nat) (B : Int), vs = [V.ref a] ∧ H a = some (SetTO P w a L) ∧ (∀ p ∈ L, SqT K H p.1 (p.2.map V.int)) ∧
  (∀ p ∈ L, p.2.length = d ∧ TS.Bd B p.2) ∧
  ∀ (L' : List (Addr × List Int)) (p : Addr), L'.Perm L → (L'.map (·.2)).Nodup → L'.length < 64 → L'.Pairwise (fun q r => TS.code B q.2 ≤ TS.code B r.2) → H p = none → Q (.ref p) (upd H p (.lst (L'.map fun q => V.ref q.1)))
theorem cr_sortedA {X : Cx} (hc : X.calm = true) : CallR X (.builtin "sorted") (rSortedA X.K X.prog X.w) := by
  intro pins s σ H vs us Q I r h
  obtain ⟨a, L, d, B, e, ha, hk, hB, q⟩ := h
  by_cases hd : 1 ≤ d
  · exact cr_sortedT hc pins s σ H vs us Q I r ⟨a, L, d, B, e, ha, hk, hd, hB, q⟩
  · subst e
    have R0 : SetT0 X.prog X.w s.heap a L := (I.hok a _ ha).1
    obtain ⟨es, ep, t, R⟩ := R0.full fun p hp => I.isT (hk p hp)
    have few : L.length ≤ 1 := by
      have := few_of_nil R.nd (fun x hx => by
        obtain ⟨p, hp, e⟩ := List.mem_map.mp hx
        rw [← e, (hB p hp).1]; omega)
      rwa [List.length_map] at this
    rw [Vals.ref1 r]
    refine mine_sorted_short R (I.ok.hd hc) few fun s' p out c k g o hp hg hout => ?_
    have hn : H p = none := I.hok.fresh hp
    have J : Inv X pins σ (upd H p (.lst (L.map fun q => V.ref q.1))) { s with heap := s'.heap, gens := s'.gens, drawn := s'.drawn, toks := s'.toks } :=
      I.call (ch := []) (Un.laid k hp hn) (I.hok.laid k hp ⟨by rw [List.length_map, sizeLine_eq]; omega, out.toList, c, by rw [hout]; exact vals_of_refs L, hg⟩) (by rw [g]; exact I.bare) (fun _ z => nomatch z)
    have es' : s' = { s with heap := s'.heap, gens := s'.gens, drawn := s'.drawn, toks := s'.toks } := by
      cases s'; cases s; cases o; rfl
    rw [es']
    refine ⟨.ref p, _, J, rfl, q L p (.refl _) R.nd (by omega) ?_ hn⟩
    match L, few with
    | [], _ => exact .nil
    | [x], _ => exact List.pairwise_singleton _ _
    | _ :: _ :: _, f => exact absurd f (by simp)
/-- at p: a list of tuples, the words ws -/
def Rows (H : Hp) (p : Addr) (ws : List (List Int)) : Prop := ∃ ks : List (Addr × List Int), H p = some (.lst (ks.map fun k => V.ref k.1)) ∧ ks.map (·.2) = ws ∧ ∀ k ∈ ks, H k.1 = some (.tup (k.2.map V.int))
theorem Rows.same {H H' : Hp} {p : Addr} {ws : List (List Int)} (r : Rows H p ws) (s : Same H H') : Rows H' p ws := by
  obtain ⟨ks, a, b, c⟩ := r
  exact ⟨ks, s _ _ a, b, fun k hk => s _ _ (c k hk)⟩
/-- the code in base B is one word's alone -/
theorem code_inj {B : Int} : ∀ {x y : List Int}, x.length = y.length → TS.Bd B x → TS.Bd B y → TS.code B x = TS.code B y → x = y
  | [], [], _, _, _, _ => rfl
  | [], _ :: _, h, _, _, _ => by simp at h
  | _ :: _, [], h, _, _, _ => by simp at h
  | p :: x, q :: y, h, hx, hy, e => by
    have hl : x.length = y.length := by simpa using h
    rcases Int.lt_trichotomy p q with c | c | c
    · have := TS.code_lt hl hx.tail hy.tail c
      omega
    · subst c
      have e2 : TS.code B x = TS.code B y := by
        have e' : p * B ^ x.length + TS.code B x = p * B ^ y.length + TS.code B y := e
        rw [hl] at e'
        omega
      rw [code_inj hl hx.tail hy.tail e2]
    · have := TS.code_lt hl.symm hy.tail hx.tail c
      omega
/-- strictly rising by the code -/
def Rising (B : Int) (ws : List (List Int)) : Prop := ws.Pairwise fun x y => TS.code B x < TS.code B y
theorem Rising.nodup {B : Int} {ws : List (List Int)} (r : Rising B ws) : ws.Nodup := List.Pairwise.imp (fun h e => by rw [e] at h; omega) r
theorem Rising.unique {B : Int} : ∀ {xs ys : List (List Int)}, Rising B xs → Rising B ys → (∀ x, x ∈ xs ↔ x ∈ ys) → xs = ys
  | [], [], _, _, _ => rfl
  | [], y :: _, _, _, h => absurd ((h y).mpr List.mem_cons_self) (by simp)
  | x :: _, [], _, _, h => absurd ((h x).mp List.mem_cons_self) (by simp)
  | x :: xs, y :: ys, hx, hy, h => by
    have hx' := List.pairwise_cons.mp hx
    have hy' := List.pairwise_cons.mp hy
    have e : x = y := by
      rcases List.mem_cons.mp ((h x).mp List.mem_cons_self) with e | m
      · exact e
      · rcases List.mem_cons.mp ((h y).mpr List.mem_cons_self) with e | m2
        · exact e.symm
        · have := hy'.1 x m
          have := hx'.1 y m2
          omega
    subst e
    rw [Rising.unique hx'.2 hy'.2 fun z => ?_]
    refine ⟨fun m => ?_, fun m => ?_⟩
    · rcases List.mem_cons.mp ((h z).mp (List.mem_cons_of_mem _ m)) with e | m2
      · have := hx'.1 z m
        rw [e] at this; omega
      · exact m2
    · rcases List.mem_cons.mp ((h z).mpr (List.mem_cons_of_mem _ m)) with e | m2
      · have := hy'.1 z m
        rw [e] at this; omega
      · exact m2
/-- sorted(set(xs)) of a list of words of one length -/
theorem sorted_set {K : PySem.W.Frag} {P : Program} {w : World} {H : Hp} {l : Addr} {ws : List (List Int)} {d : Nat} {B : Int} {Q : VK} (r : Rows H l ws) (hn : ws.length < 64) (ev : Even d B ws)
    (q : ∀ p H' ws', Same H H' → H p = none → Rows H' p ws' → (∀ x, x ∈ ws' ↔ x ∈ ws) → Rising B ws' → Q (.ref p) H') : rSetOfT K P w [V.ref l] H (fun x H1 => rSortedA K P w [x] H1 Q) := by
  obtain ⟨ks, h1, h2, h3⟩ := r
  have hl : ks.length = ws.length := by rw [← h2, List.length_map]
  refine ⟨l, ks, rfl, .inl (.inl h1), fun k hk => .inl (.inl (h3 k hk)), by omega, fun a L ha hsub hall => ?_⟩
  have sa := same_upd (o := SetTO P w a L) ha
  have hev : ∀ p ∈ L, p.2.length = d ∧ TS.Bd B p.2 := fun p hp => ev p.2 (h2 ▸ List.mem_map.mpr ⟨p, hsub p hp, rfl⟩)
  refine ⟨a, L, d, B, rfl, upd_same, fun k hk => .inl (.inl (sa _ _ (h3 k (hsub k hk)))), hev, fun L' p pm nd few pw hp => ?_⟩
  have sp := same_upd (o := HO.lst (L'.map fun q => V.ref q.1)) hp
  refine q p _ (L'.map (·.2)) (sa.trans sp) (sa.free hp) ⟨L', upd_same, rfl, fun k hk => sp _ _ (sa _ _ (h3 k (hsub k (pm.mem_iff.mp hk))))⟩ (fun x => ?_) ?_
  · constructor
    · intro hx
      obtain ⟨k, hk, e⟩ := List.mem_map.mp hx
      rw [← h2]
      exact List.mem_map.mpr ⟨k, hsub k (pm.mem_iff.mp hk), e⟩
    · intro hx
      rw [← h2] at hx
      obtain ⟨k, hk, e⟩ := List.mem_map.mp hx
      obtain ⟨k2, hk2, e2⟩ := List.mem_map.mp (hall k hk)
      exact List.mem_map.mpr ⟨k2, pm.mem_iff.mpr hk2, e2.trans e⟩
  · have pw2 : (L'.map (·.2)).Pairwise fun x y => TS.code B x ≤ TS.code B y := List.pairwise_map.mpr pw
    have mem : ∀ x ∈ L'.map (·.2), x.length = d ∧ TS.Bd B x := fun x hx => by
      obtain ⟨k, hk, e⟩ := List.mem_map.mp hx
      rw [← e]; exact hev k (pm.mem_iff.mp hk)
    refine List.Pairwise.imp_of_mem (fun {x y} hx hy h => ?_) (pw2.and nd)
    obtain ⟨le, ne⟩ := h
    rcases Int.lt_or_eq_of_le le with c | c
    · exact c
    · exact absurd (code_inj ((mem x hx).1.trans (mem y hy).1.symm) (mem x hx).2 (mem y hy).2 c) ne
end Mine

namespace Mine
open PySem PySem.Spec PyProof.Rows L2
def MonU (r : V → Hp → VK → Prop) : Prop := ∀ x H (Q Q' : VK), (∀ v H', Q v H' → Q' v H') → r x H Q → r x H Q'
theorem mon_rU (g : Int → V) : MonU (rU g) := fun _ _ _ _ m ⟨i, e, q⟩ => ⟨i, e, m _ _ q⟩
theorem mon_un {r : V → Hp → VK → Prop} {ta : TE} (mr : MonU r) (ma : Mon ta) : Mon (tUn r ta) := fun σ H _ _ m q => ma σ H _ _ (fun _ _ q2 => mr _ _ _ _ m q2) q
/-- a for over enumerate of a list or a tuple -/
theorem enumA_by {K : PySem.W.Frag} {a : Addr} {xs : List V} {g : TG} {tb : TS} {D : Ends} {σ : L2.St} {H : Hp} (hS : SqL K H a xs ∨ SqT K H a xs) (Pv : Nat → L2.St → Hp → Prop) (h0 : Pv 0 σ H) (hG : ∀ i σ' H', Pv i σ' H' → Same H H')
    (hs : ∀ i x σ' H' T, i < xs.length → Pv i σ' H' → xs[i]? = some x → H' T = none → g (.ref T) σ' (upd H' T (.tup [.int (i : Nat), x])) fun s2 H2 => tb { D with nx := Pv (i + 1), ct := Pv (i + 1), bk := D.nx } s2 H2) (hd : ∀ σ' H', Pv xs.length σ' H' → D.nx σ' H') :
    ∃ ys, (SqL K H a ys ∧ Loop (Ite K a) g tb D σ H) ∨ (SqT K H a ys ∧ Loop (IteT K a) g tb D σ H) := by
  have step : ∀ i x σ' H' H'', i < xs.length → Pv i σ' H' → YPair (fun i => some (.int (i : Nat))) (fun i => xs[i]?) i H' x H'' → g x σ' H'' fun s2 H2 => tb { D with nx := Pv (i + 1), ct := Pv (i + 1), bk := D.nx } s2 H2 := by
    intro i x σ' H' H'' hi p ⟨T, v, y, e, hT, e2, ev, ey⟩
    dsimp only at ev ey
    cases ev
    subst e e2
    exact hs i y σ' H' T hi p ey hT
  refine ⟨xs, ?_⟩
  rcases hS with hS | hS
  · refine .inl ⟨hS, Loop.by (walk_enum (xs := xs)) Pv h0 (fun i σ' H' _ p => (hG i σ' H' p).seq hS) step hd⟩
  · refine .inr ⟨hS, Loop.by (walk_enumT (xs := xs)) Pv h0 (fun i σ' H' _ p => ?_) step hd⟩
    have s := hG i σ' H' p
    rcases hS with (h | ⟨o, h⟩) | h
    · exact .inl (.inl (s _ _ h))
    · exact .inl (.inr ⟨o, s _ _ h⟩)
    · exact .inr h
end Mine

namespace L2
open PySem PySem.Spec PyProof.Rows
abbrev mineSet0 (w : World) : Obj := { cls := .type "set", dict := none, data := .set #[] 0 (.fresh 0 0 (!w.params.followText "set-order")) }
section
variable {P : Program} {w : World} {A : Around} {E : Value → Shared → Prop} {s : Shared}
/-- set(v), by what its __init__ does with the new set -/
theorem mine_call_set {v : Value} {Q : Value → Shared → Prop}
    (h : wpAny (model P w) A.in1.in1 (Builtin.«set.__init__» ⟨[.ref s.heap.objs.size, v], []⟩)
      (fun fin s' => match fin with | .done f => wants (fun r s₂ => r = .none ∧ Q (.ref s.heap.objs.size) s₂) E (.ok f) s' | .again c' => c'.quiet = true ∧ codeAny (model P w) A.in1 c' (wants (fun r s₂ => r = .none ∧ Q (.ref s.heap.objs.size) s₂) E) s')
      (fun e s' => wants (fun r s₂ => r = .none ∧ Q (.ref s.heap.objs.size) s₂) E (.error e) s') { s with heap := s.heap.push (mineSet0 w) }) : wpAny (model P w) A (call (.type "set") [v]) Q E s := by
  have ft := F.called_set
  obtain ⟨k, ks, order⟩ := ft.mro
  have m1 := ft.made
  have m2 := ft.sub
  have m3 := ft.notType
  have m4 := ft.canCreate
  have m5 := F.typeCall_set_1 v
  refine wpAny_call (codeAny_of_tree ?_)
  show wpAny _ _ (callAny (.type "set") _) _ _ _
  refine wpAny_pure ⟨Code.quiet_builtin _ (by decide +kernel), codeAny_builtin F.entry_type_call ?_⟩
  rw [Around.under_plain (weight_type_call_type "set" [v] []) rfl]
  repeat (any_goals (first | assumption | wp_step))
  refine codeAny_mono (code_set_led1 (E := E) (Q₁ := fun obj s₁ => obj = .ref s.heap.objs.size ∧ s₁ = { s with heap := s.heap.push (mineSet0 w) }) v ⟨rfl, rfl⟩) fun r s₁ hr => ?_
  cases r with
  | error e => exact hr
  | ok f =>
    cases f with
    | ret x =>
      obtain ⟨rfl, rfl⟩ := hr
      have ty : Shared.TypeIs { s with heap := s.heap.push (mineSet0 w) } (.ref s.heap.objs.size) "set" := ⟨_, Heap.get?_push_size _ rfl, rfl⟩
      have m6 := ft.init.lookup
      have m7 := ft.init.bind (.ref s.heap.objs.size)
      repeat (any_goals (first | assumption | wp_step))
      refine codeAny_mono (codeAny_call_builtin ft.init.plain F.entry_set_init (check_set_init_1 ty h)) fun r₂ s₂ hr₂ => ?_
      cases r₂ with
      | error e => exact hr₂
      | ok f₂ =>
        cases f₂ with
        | ret y =>
          obtain ⟨rfl, q⟩ := hr₂
          repeat (any_goals (first | assumption | wp_step))
        | _ => exact hr₂.elim
    | _ => exact hr.elim
/-- set(xs) of a list of whole numbers, with its table -/
theorem mine_set_ints {l : Addr} {items : Array Value} (ns : List Int) {Q : Value → Shared → Prop} (hh : A.handled = none) (hl : s.heap.IsList l items) (hit : IntsAre items.toList ns) (hb : ns.length + 1 < scanBound)
    (h : ∀ (h' : Heap) (tk c : Nat), SetR w h' s.heap.objs.size (fun j => decide (j ∈ ns)) c → c ≤ ns.length → (∀ b o, s.heap.get? b = some o → h'.get? b = some o) → Q (.ref s.heap.objs.size) { s with heap := h', toks := tk }) :
    wpAny (model P w) A (call (.type "set") [.ref l]) Q E s := by
  have len : items.size = ns.length := by rw [← hit.length, Array.length_toList]
  have lt : l < s.heap.objs.size := by obtain ⟨_, e, _⟩ := hl; exact Heap.lt_size e
  have old : ∀ b o, s.heap.get? b = some o → (s.heap.push (mineSet0 w)).get? b = some o := fun b o e => Heap.get?_push_of_some _ e
  have new : (s.heap.push (mineSet0 w)).get? s.heap.objs.size = some (mineSet0 w) := Heap.get?_push_size _ rfl
  have size1 : (s.heap.push (mineSet0 w)).objs.size = s.heap.objs.size + 1 := Heap.size_push ..
  refine mine_call_set ?_
  obtain ⟨⟨c0, d0, dt0, sl0⟩, ho, hc, n0, hd⟩ := id hl
  dsimp only at hc hd
  subst hc hd
  have ho1 := old _ _ ho
  have isL : (s.heap.push (mineSet0 w)).IsList l items := ⟨_, ho1, rfl, n0, rfl⟩
  have notS := F.sub_list_set
  have notF := F.sub_list_frozenset
  have notD : (Value.type "list" == Value.type "dict") = false := by decide
  unfold Builtin.«set.__init__» noKeywords Builtin.Frozenset.updateFrom
  generalize hPI : pyIter = PI
  wp_walk
  subst hPI
  refine wpAny_pyIter_list isL (wpAny_bind (wpAny_runValue ?_))
  refine set_update_ints (A := A.in1.in1) ((Walks.list (A := A.in1.in1.in1) (by simpa using hh) (s.heap.push (mineSet0 w)).objs.size l (by rw [size1]; exact Nat.ne_of_lt (Nat.lt_succ_of_lt lt)) items).toS) s.heap.objs.size
    (by rw [size1]; simp only [List.mem_cons, List.not_mem_nil, or_false, not_or]; exact ⟨Nat.ne_of_lt (Nat.lt_succ_self _), Nat.ne_of_gt lt⟩) ns len hb (fun i v hv => ?_) (items.size - 0) 0 _ (by omega) (Nat.zero_le _) ?_ ⟨0, Nat.le_refl 0, ?_⟩ fun s' c' hm hc' hS' => ?_
  · obtain ⟨hi, _⟩ := Array.getElem?_eq_some_iff.mp hv
    obtain ⟨t, e⟩ := hit.int_at i v (by rw [Array.getElem?_toList]; exact hv)
    exact ⟨ns.getD i 0, t, by rw [List.getD_eq_getElem?_getD, List.getElem?_eq_getElem (by omega)]; rfl, e⟩
  · exact ⟨⟨_, Heap.get?_push_size _ rfl, rfl, rfl⟩, isL.push _⟩
  · exact setR_new_at (Heap.get?_push_of_some _ new)
  · obtain ⟨h', g2, d', tk', os'⟩ := s'
    obtain rfl : g2 = s.gens := hm.gens
    obtain rfl : d' = s.drawn := hm.drawn
    obtain rfl : os' = s.os := hm.os
    refine wpAny_pure (wpAny_pure ⟨rfl, h h' tk' c' hS' (by omega) fun b o e => hm.heap b o ?_ (Heap.get?_push_of_some _ (old b o e))⟩)
    have := Heap.lt_size e
    rw [size1]; simp only [List.mem_cons, List.not_mem_nil, or_false, not_or]
    exact ⟨Nat.ne_of_lt this, Nat.ne_of_lt (Nat.lt_succ_of_lt this)⟩
/-- sum(t) of a tuple of whole numbers -/
theorem mine_sum_tup {l : Addr} {items : Array Value} {ns : List Int} {Q : Value → Shared → Prop} (hh : A.handled = none) (hl : s.heap.IsTuple l items) (hit : IntsAre items.toList ns)
    (h : ∀ h' tk t', (∀ b o, s.heap.get? b = some o → h'.get? b = some o) → Q (.int ns.sum t') { s with heap := h', toks := tk }) : wpAny (model P w) A (call (.builtin "sum") [.ref l]) Q E s := by
  have len : items.size = ns.length := by rw [← hit.length, Array.length_toList]
  have lt : l < s.heap.objs.size := by obtain ⟨_, e, _⟩ := id hl; exact Heap.lt_size e
  have pre : ∀ n, n ≤ ns.length → preSum (fun i => ns.getD i 0) n = (ns.take n).sum := by
    intro n
    induction n with
    | zero => intro _; rfl
    | succ n ih =>
      intro hn
      show preSum _ n + ns.getD n 0 = _
      rw [ih (by omega), PySem.sum_take_succ]
  refine call_sum_walkG (wpAny_pyIter_tuple hl ?_)
  refine ⟨s.heap.objs.size, _, _, _, _, _, fun i => ns.getD i 0, rfl, Walks.tuple (A := A.in1) (by simpa using hh) _ l (Nat.ne_of_lt lt) items, ⟨⟨_, Heap.get?_push_size _ rfl, rfl, rfl⟩, hl.push _⟩, fun b hb => ?_, fun i v hv => hit.int_at i v (by rw [Array.getElem?_toList]; exact hv), fun h' tk t' k => ?_⟩
  · have e : b = s.heap.objs.size ∨ b = l := by simpa using hb
    show b < (s.heap.push _).objs.size
    rw [Heap.size_push]
    rcases e with e | e
    · rw [e]; exact Nat.lt_succ_self _
    · rw [e]; exact Nat.lt_succ_of_lt lt
  · rw [len, pre _ (Nat.le_refl _), List.take_of_length_le (Nat.le_refl _)]
    exact h h' tk t' fun b o e => k b o (by simpa using Nat.ne_of_lt (Heap.lt_size e)) (Heap.get?_push_of_some _ e)
end
end L2
namespace Mine
open PySem PySem.Spec PyProof.Rows L2
theorem Room.u65 {k : Nat} {A : Around} (r : Room k A) : A.units + 65 < cLine := by have := r.un; omega
section
variable {X : Cx}
def rSetOfI (K : PySem.W.Frag) (w : World) : List V → Hp → VK → Prop := fun xs H Q => ∃ (l : Addr) (ns : List Int), xs = [V.ref l] ∧ SqL K H l (ns.map V.int) ∧ ns.length < 4000 ∧
  ∀ a c, c ≤ ns.length → H a = none → Q (.ref a) (upd H a (SetO w a (fun j => decide (j ∈ ns)) c))
theorem cr_setOfI (hc : X.calm = true) : CallR X (.type "set") (rSetOfI X.K X.w) := by
  intro pins s σ H xs us Q I r h
  obtain ⟨l, ns, rfl, hl, hb, q⟩ := h
  rw [Vals.ref1 r]
  obtain ⟨its, rv, pl, hz⟩ := I.list hl
  refine mine_set_ints ns (I.ok.hd hc) pl.isList (by simpa using Vals.ints rv) (by unfold scanBound; omega) fun h' tk c R hcn k => ?_
  exact ⟨.ref s.heap.objs.size, _, I.laid (t' := tk) k (Nat.le_refl _) (setO_new R), rfl, q _ c hcn (I.hok.fresh (Nat.le_refl _))⟩
def rSumT (K : PySem.W.Frag) : List V → Hp → VK → Prop := fun vs H Q => ∃ (a : Addr) (ns : List Int), vs = [V.ref a] ∧ SqT K H a (ns.map V.int) ∧ Q (.int ns.sum) H
theorem cr_sumT (hc : X.calm = true) : CallR X (.builtin "sum") (rSumT X.K) := by
  intro pins s σ H vs us Q I r h
  obtain ⟨a, ns, rfl, ha, q⟩ := h
  rw [Vals.ref1 r]
  obtain ⟨its, rv, pl, hz⟩ := I.tuple ha
  refine mine_sum_tup (items := its.toArray) (I.ok.hd hc) pl (by simpa using Vals.ints rv) fun h' tk t' k => ?_
  exact ⟨.int ns.sum, H, I.kept (t' := tk) k, ⟨t', rfl⟩, q⟩
end
/-- sorted(set(xs)) of whole numbers -/
theorem sorted_setI {K : PySem.W.Frag} {w : World} {H : Hp} {l : Addr} {ns : List Int} {Q : VK} (hl : SqL K H l (ns.map V.int)) (hn : ns.length < 64)
    (q : ∀ (p : Addr) (H' : Hp) (ms : List Int), Same H H' → H p = none → H' p = some (.lst (ms.map V.int)) → ms.Pairwise (· < ·) → (∀ x, x ∈ ms ↔ x ∈ ns) → Q (.ref p) H') : rSetOfI K w [V.ref l] H (fun x H1 => rSortedSet w [x] H1 Q) := by
  refine ⟨l, ns, rfl, hl, by omega, fun a c hc ha => ⟨a, _, c, rfl, upd_same, by omega, fun ms p pw mem _ hp => ?_⟩⟩
  have sa := same_upd (o := SetO w a (fun j => decide (j ∈ ns)) c) ha
  exact q p _ ms (sa.trans (same_upd hp)) (sa.free hp) upd_same pw fun x => by rw [mem x]; exact decide_eq_true_iff
end Mine

namespace Mine
open PySem PySem.Spec PyProof.Rows L2
theorem getD_at {w : List Int} {i : Nat} (h : i < w.length) : w[i]? = some (w.getD i 0) := by rw [List.getD_eq_getElem?_getD, List.getElem?_eq_getElem h]; rfl
/-- the i-th letter -/
theorem atI_w {w : List Int} {i : Nat} {z : Int} (e : z = (i : Nat)) (h : i < w.length) : atI (w.map V.int) z = some (V.int (w.getD i 0)) := by
  subst e
  exact atI_nat (by rw [List.getElem?_map, getD_at h]; rfl)
theorem range_mapI {α : Type} (w : List Int) (f : Int → α) : (List.range w.length).map (fun i => f (w.getD i 0)) = w.map f := by
  refine List.ext_getElem (by simp) fun i h1 h2 => ?_
  have hi : i < w.length := by simpa using h2
  simp only [List.getElem_map, List.getElem_range]
  rw [List.getD_eq_getElem?_getD, List.getElem?_eq_getElem hi]; rfl
theorem range_filterI (w : List Int) (p : Int → Bool) : (List.range w.length).filterMap (fun i => if p (w.getD i 0) = true then some (w.getD i 0) else none) = w.filter p := by
  have h := congrArg (List.filterMap fun x => if p x = true then some x else none) (range_mapI w id)
  rw [List.filterMap_map] at h
  have e : (fun x => if p x = true then some x else none) = Option.guard (fun x => p x = true) := by
    funext x; unfold Option.guard; simp
  rw [show (List.filterMap ((fun x => if p x = true then some x else none) ∘ fun i => id (w.getD i 0)) (List.range w.length)) = (List.range w.length).filterMap (fun i => if p (w.getD i 0) = true then some (w.getD i 0) else none) from rfl] at h
  rw [h, List.map_id, e, List.filterMap_eq_filter]
  congr 1
  funext x; simp
theorem some_map {α β : Type} (f : α → β) (l : List α) : l.filterMap (fun i => some (f i)) = l.map f := congrFun List.filterMap_eq_map' _
section
variable {j : Nat} {tt : TT} {te : TE} {vs : List Nat} {D : Addr} {σ : L2.St} {H1 : Hp} {Q : VK}
/-- a comprehension over a range -/
theorem Lc.rng {lo : Int} {n : Nat} (kept : Nat → Option V) (hD : H1 D = none) (hn : n ≤ 100000) (hw : ∀ x : V, wipe ((wipe σ vs).set j (some x)) vs = wipe σ vs)
    (step : ∀ i H (Qk : VK) (Qn : Hp → Prop), i < n → Same H1 H → (∀ y H4, Same H H4 → kept i = some y → Qk y H4) → (∀ H3, Same H H3 → kept i = none → Qn H3) →
      tt ((wipe σ vs).set j (some (.int (lo + (i : Nat))))) H fun b H3 => if b = true then te ((wipe σ vs).set j (some (.int (lo + (i : Nat))))) H3 Qk else Qn H3)
    (fin : ∀ H', Same H1 H' → H' D = some (.lst ((List.range n).filterMap kept)) → Q (.ref D) H') : Lc (Itr lo n) (gName j) tt te vs D σ H1 Q :=
  Lc.gen walk_range (fun i => V.int (lo + (i : Nat))) kept (fun _ _ _ _ _ ⟨a, b⟩ => ⟨a, b⟩) (fun _ _ => trivial) hD hn (fun i => hw _) step fin
/-- .. over a tuple of whole numbers -/
theorem Lc.ints {K : PySem.W.Frag} {a : Addr} {w : List Int} (kept : Nat → Option V) (hs : SqT K H1 a (w.map V.int)) (hD : H1 D = none) (hn : w.length ≤ 100000) (hw : ∀ x : V, wipe ((wipe σ vs).set j (some x)) vs = wipe σ vs)
    (step : ∀ i H (Qk : VK) (Qn : Hp → Prop), i < w.length → Same H1 H → (∀ y H4, Same H H4 → kept i = some y → Qk y H4) → (∀ H3, Same H H3 → kept i = none → Qn H3) →
      tt ((wipe σ vs).set j (some (.int (w.getD i 0)))) H fun b H3 => if b = true then te ((wipe σ vs).set j (some (.int (w.getD i 0)))) H3 Qk else Qn H3)
    (fin : ∀ H', Same H1 H' → H' D = some (.lst ((List.range w.length).filterMap kept)) → Q (.ref D) H') : Lc (Itt K a) (gName j) tt te vs D σ H1 Q := by
  have wk := walk_tup (K := K) (a := a) (xs := w.map V.int)
  rw [List.length_map] at wk
  refine Lc.gen wk (fun i => V.int (w.getD i 0)) kept ?_ (fun H' s => ?_) hD hn (fun i => hw _) step fin
  · rintro i H x H' hi ⟨rfl, hx⟩
    rw [List.getElem?_map, getD_at hi] at hx
    exact ⟨rfl, (Option.some.inj hx).symm⟩
  · rcases hs with (h | ⟨o, h⟩) | h
    · exact .inl (.inl (s _ _ h))
    · exact .inl (.inr ⟨o, s _ _ h⟩)
    · exact .inr h
/-- a comprehension that makes tuples of whole numbers: f i at turn i -/
theorem Lc.rows {J : It} {n : Nat} {G : Hp → Prop} {Y : Nat → Hp → V → Hp → Prop} (wk : Walk J n G Y) (it : Nat → V) (f : Nat → List Int)
    (hY : ∀ i H x H', i < n → Y i H x H' → H' = H ∧ x = it i) (hG : ∀ H', Same H1 H' → G H') (hD : H1 D = none) (hn : n ≤ 100000) (hw : ∀ x : V, wipe ((wipe σ vs).set j (some x)) vs = wipe σ vs)
    (step : ∀ i H (Qk : VK), i < n → Same H1 H → (∀ p H4, Same H H4 → H4 p = some (.tup ((f i).map V.int)) → Qk (.ref p) H4) → te ((wipe σ vs).set j (some (it i))) H Qk)
    (fin : ∀ H', Same H1 H' → Rows H' D ((List.range n).map f) → Q (.ref D) H') : Lc J (gName j) tYes te vs D σ H1 Q := by
  refine Lc.by wk (fun i H => Same H1 H ∧ Rows H D ((List.range i).map f)) ⟨same_upd hD, [], upd_same, rfl, fun k hk => by cases hk⟩ (fun i H _ p => hG H p.1) ?_ fun H p => fin H p.1 p.2
  rintro i x H H' hi ⟨sm, ks, h1, h2, h3⟩ hy
  obtain ⟨rfl, rfl⟩ := hY i H x H' hi hy
  refine ⟨hw _, ?_⟩
  unfold tYes
  dsimp only
  rw [if_pos rfl]
  refine step i H' _ hi sm fun p H4 s4 hp => ⟨_, s4 _ _ h1, ?_, fun b o e => ?_, ks ++ [(p, f i)], ?_, ?_, fun k hk => ?_⟩
  · have : ks.length = i := by have := congrArg List.length h2; simpa using this
    rw [List.length_map, this, sizeLine_eq]; omega
  · rw [upd_ne (ne_of_none e hD)]; exact s4 _ _ (sm _ _ e)
  · rw [upd_same, List.map_append]; rfl
  · rw [List.map_append, h2, List.range_succ, List.map_append]; rfl
  · have kt : H4 k.1 = some (.tup (k.2.map V.int)) := by
      rcases List.mem_append.mp hk with m | m
      · exact s4 _ _ (h3 k m)
      · have : k = (p, f i) := by simpa using m
        rw [this]; exact hp
    have ne : k.1 ≠ D := fun e => by rw [e, s4 _ _ h1] at kt; cases kt
    rw [upd_ne ne]; exact kt
/-- Lc.rows over a range -/
theorem Lc.rowsR {lo : Int} {n : Nat} (f : Nat → List Int) (hD : H1 D = none) (hn : n ≤ 100000) (hw : ∀ x : V, wipe ((wipe σ vs).set j (some x)) vs = wipe σ vs)
    (step : ∀ i H (Qk : VK), i < n → Same H1 H → (∀ p H4, Same H H4 → H4 p = some (.tup ((f i).map V.int)) → Qk (.ref p) H4) → te ((wipe σ vs).set j (some (.int (lo + (i : Nat))))) H Qk)
    (fin : ∀ H', Same H1 H' → Rows H' D ((List.range n).map f) → Q (.ref D) H') : Lc (Itr lo n) (gName j) tYes te vs D σ H1 Q :=
  Lc.rows walk_range (fun i => V.int (lo + (i : Nat))) f (fun _ _ _ _ _ ⟨a, b⟩ => ⟨a, b⟩) (fun _ _ => trivial) hD hn hw step fin
/-- [f(x) for x in rows], f a new tuple -/
theorem Lc.rowsMap {K : PySem.W.Frag} {a : Addr} {ws : List (List Int)} (f : List Int → List Int) (hr : Rows H1 a ws) (hD : H1 D = none) (hn : ws.length ≤ 100000) (hw : ∀ x : V, wipe ((wipe σ vs).set j (some x)) vs = wipe σ vs)
    (step : ∀ x q H (Qk : VK), x ∈ ws → Same H1 H → H q = some (.tup (x.map V.int)) → (∀ p H4, Same H H4 → H4 p = some (.tup ((f x).map V.int)) → Qk (.ref p) H4) → te ((wipe σ vs).set j (some (.ref q))) H Qk)
    (fin : ∀ H', Same H1 H' → Rows H' D (ws.map f) → Q (.ref D) H') : Lc (Itl K a) (gName j) tYes te vs D σ H1 Q := by
  obtain ⟨ks, h1, rfl, h3⟩ := hr
  have wk := walk_list (K := K) (a := a) (xs := ks.map fun k => V.ref k.1)
  rw [List.length_map] at wk hn
  refine Lc.rows wk (fun i => (ks.map fun k => V.ref k.1).getD i .non) (fun i => f ((ks.map (·.2)).getD i [])) ?_ (fun H' s => .inl (.inl (s _ _ h1))) hD hn hw ?_ fun H' s r => fin H' s ?_
  · rintro i H x H' hi ⟨rfl, hx⟩
    exact ⟨rfl, by rw [List.getD_eq_getElem?_getD, hx]; rfl⟩
  · intro i H Qk hi sm q
    have e1 : (ks.map fun k => V.ref k.1).getD i .non = .ref ks[i].1 := by rw [List.getD_eq_getElem?_getD, List.getElem?_map, List.getElem?_eq_getElem hi]; rfl
    have e2 : (ks.map (·.2)).getD i [] = ks[i].2 := by rw [List.getD_eq_getElem?_getD, List.getElem?_map, List.getElem?_eq_getElem hi]; rfl
    rw [e1]
    rw [e2] at q
    exact step ks[i].2 ks[i].1 H Qk (List.mem_map.mpr ⟨_, List.getElem_mem hi, rfl⟩) sm (sm _ _ (h3 _ (List.getElem_mem hi))) q
  · have e : (List.range ks.length).map (fun i => f ((ks.map (·.2)).getD i [])) = (ks.map (·.2)).map f := by
      refine List.ext_getElem (by simp) fun i g1 g2 => ?_
      have hi : i < ks.length := by simpa using g1
      simp only [List.getElem_map, List.getElem_range]
      rw [List.getD_eq_getElem?_getD, List.getElem?_map, List.getElem?_eq_getElem hi]; rfl
    rw [← e]; exact r
/-- [f(x) for x in rows], f a flat value -/
theorem Lc.rowsFlat {K : PySem.W.Frag} {a : Addr} {ws : List (List Int)} (f : List Int → V) (hr : Rows H1 a ws) (hD : H1 D = none) (hn : ws.length ≤ 100000) (hw : ∀ x : V, wipe ((wipe σ vs).set j (some x)) vs = wipe σ vs)
    (step : ∀ x q H (Qk : VK), x ∈ ws → Same H1 H → H q = some (.tup (x.map V.int)) → (∀ H4, Same H H4 → Qk (f x) H4) → te ((wipe σ vs).set j (some (.ref q))) H Qk)
    (fin : ∀ H', Same H1 H' → H' D = some (.lst (ws.map f)) → Q (.ref D) H') : Lc (Itl K a) (gName j) tYes te vs D σ H1 Q := by
  obtain ⟨ks, h1, rfl, h3⟩ := hr
  have wk := walk_list (K := K) (a := a) (xs := ks.map fun k => V.ref k.1)
  rw [List.length_map] at wk hn
  refine Lc.gen wk (fun i => (ks.map fun k => V.ref k.1).getD i .non) (fun i => some (f ((ks.map (·.2)).getD i []))) ?_ (fun H' s => .inl (.inl (s _ _ h1))) hD hn (fun i => hw _) ?_ fun H' s r => fin H' s ?_
  · rintro i H x H' hi ⟨rfl, hx⟩
    exact ⟨rfl, by rw [List.getD_eq_getElem?_getD, hx]; rfl⟩
  · intro i H Qk Qn hi sm q _
    have e1 : (ks.map fun k => V.ref k.1).getD i .non = .ref ks[i].1 := by rw [List.getD_eq_getElem?_getD, List.getElem?_map, List.getElem?_eq_getElem hi]; rfl
    have e2 : (ks.map (·.2)).getD i [] = ks[i].2 := by rw [List.getD_eq_getElem?_getD, List.getElem?_map, List.getElem?_eq_getElem hi]; rfl
    rw [e1]
    rw [e2] at q
    show if true = true then te _ H Qk else Qn H
    rw [if_pos rfl]
    exact step ks[i].2 ks[i].1 H Qk (List.mem_map.mpr ⟨_, List.getElem_mem hi, rfl⟩) sm (sm _ _ (h3 _ (List.getElem_mem hi))) fun H4 s4 => q _ H4 s4 rfl
  · rw [r, some_map]
    have e : (List.range ks.length).map (fun i => f ((ks.map (·.2)).getD i [])) = (ks.map (·.2)).map f := by
      refine List.ext_getElem (by simp) fun i g1 g2 => ?_
      have hi : i < ks.length := by simpa using g1
      simp only [List.getElem_map, List.getElem_range]
      rw [List.getD_eq_getElem?_getD, List.getElem?_map, List.getElem?_eq_getElem hi]; rfl
    rw [e]
end
/-! ### rules that name the fragment, within a comprehension -/
theorem CallR.k {X : Cx} {f : Value} {r : PySem.W.Frag → List V → Hp → VK → Prop} (h : CallR X f (r X.K)) {K : PySem.W.Frag} (e : X.K = K) : CallR X f (r K) := e ▸ h
theorem OpR.k {X : Cx} {f : Value → Value → Sem Value} {r : PySem.W.Frag → R2} (h : OpR X f (r X.K)) {K : PySem.W.Frag} (e : X.K = K) : OpR X f (r K) := e ▸ h
theorem SlR.k {X : Cx} {r : PySem.W.Frag → V → Option Int → Option Int → Hp → VK → Prop} (h : SlR X (r X.K)) {K : PySem.W.Frag} (e : X.K = K) : SlR X (r K) := e ▸ h
/-! ### pieces of tuples, tuples put together -/
theorem cut_take (xs : List V) (k : Nat) : cutV xs none (some (k : Int)) = xs.take k := by
  unfold cutV
  rw [HT.sIx_none, HT.sIx_nat, List.drop_zero, Nat.sub_zero]
  rcases Nat.le_total k xs.length with h | h
  · rw [Nat.min_eq_left h]
  · rw [Nat.min_eq_right h, List.take_of_length_le (Nat.le_refl _), List.take_of_length_le h]
theorem cut_drop (xs : List V) (k : Nat) : cutV xs (some (k : Int)) none = xs.drop k := by
  unfold cutV
  rw [HT.sIx_none, HT.sIx_nat]
  rcases Nat.le_total k xs.length with h | h
  · rw [Nat.min_eq_left h, List.take_of_length_le (by rw [List.length_drop]; omega)]
  · rw [Nat.min_eq_right h, List.drop_eq_nil_of_le (Nat.le_refl _), List.drop_eq_nil_of_le h, List.take_nil]
theorem cut_all {xs : List V} {lo hi : Option Int} (h1 : HT.sIx xs.length 0 lo = 0) (h2 : HT.sIx xs.length xs.length hi = xs.length) : cutV xs lo hi = xs := by
  unfold cutV
  rw [h1, h2, List.drop_zero, Nat.sub_zero, List.take_of_length_le (Nat.le_refl _)]
section
variable {K : PySem.W.Frag} {H : Hp} {Q : VK} {a b : Addr} {xs ys : List V}
theorem sl_use {lo hi : Option Int} (h : H a = some (.tup xs)) (q : ∀ p H', Same H H' → H' p = some (.tup (cutV xs lo hi)) → Q (.ref p) H') : rSlA K (.ref a) lo hi H Q :=
  ⟨a, xs, rfl, .inl (.inl h), fun ⟨h1, h2⟩ => q a H (Same.refl H) (by rw [cut_all h1 h2]; exact h), fun _ p hp => q p _ (same_upd hp) upd_same⟩
theorem sl_take {z : Int} {k : Nat} (e : z = k) (h : H a = some (.tup xs)) (q : ∀ p H', Same H H' → H' p = some (.tup (xs.take k)) → Q (.ref p) H') : rSlA K (.ref a) none (some z) H Q := by
  subst e
  exact sl_use h fun p H' s e => q p H' s (by rw [← cut_take]; exact e)
theorem sl_drop {z : Int} {k : Nat} (e : z = k) (h : H a = some (.tup xs)) (q : ∀ p H', Same H H' → H' p = some (.tup (xs.drop k)) → Q (.ref p) H') : rSlA K (.ref a) (some z) none H Q := by
  subst e
  exact sl_use h fun p H' s e => q p H' s (by rw [← cut_drop]; exact e)
theorem cat_use (h : H a = some (.tup xs)) (h2 : H b = some (.tup ys)) (hl : xs.length + ys.length ≤ 100000) (q : ∀ p H', Same H H' → H' p = some (.tup (xs ++ ys)) → Q (.ref p) H') : rCatA K (.ref a) (.ref b) H Q :=
  ⟨a, b, xs, ys, rfl, rfl, .inl (.inl h), .inl (.inl h2), by rw [sizeLine_eq]; omega, fun e => q b H (Same.refl H) (by rw [e]; exact h2), fun _ e => q a H (Same.refl H) (by rw [e, List.append_nil]; exact h), fun _ _ p hp => q p _ (same_upd hp) upd_same⟩
end
/-! ### equality of words, of rows of words -/
def pdw (w : List Int) : List PyData := w.map PyData.int
def pdr (ws : List (List Int)) : List PyData := ws.map fun w => PyData.tuple (pdw w)
theorem eqvAll_ints : ∀ x y : List Int, PyData.eqvAll (pdw x) (pdw y) = decide (x = y)
  | [], [] => by simp [pdw, PyData.eqvAll]
  | [], y :: ys => by simp [pdw, PyData.eqvAll]
  | x :: xs, [] => by simp [pdw, PyData.eqvAll]
  | x :: xs, y :: ys => by
    have ih := eqvAll_ints xs ys
    unfold pdw at ih ⊢
    rw [List.map_cons, List.map_cons, PyData.eqvAll, ih, PyData.eqv]
    by_cases e : x = y <;> by_cases f : xs = ys <;> simp [e, f]
theorem eqvAll_rows : ∀ x y : List (List Int), PyData.eqvAll (pdr x) (pdr y) = decide (x = y)
  | [], [] => by simp [pdr, PyData.eqvAll]
  | [], y :: ys => by simp [pdr, PyData.eqvAll]
  | x :: xs, [] => by simp [pdr, PyData.eqvAll]
  | x :: xs, y :: ys => by
    have ih := eqvAll_rows xs ys
    unfold pdr at ih ⊢
    rw [List.map_cons, List.map_cons, PyData.eqvAll, ih, PyData.eqv, eqvAll_ints]
    by_cases e : x = y <;> by_cases f : xs = ys <;> simp [e, f]
theorem lay_ints : ∀ w : List Int, PyData.canLayAll0 (pdw w) = true ∧ PyData.depthAll (pdw w) = 0
  | [] => ⟨by simp [pdw, PyData.canLayAll0], by simp [pdw, PyData.depthAll]⟩
  | x :: w => by
    obtain ⟨a, b⟩ := lay_ints w
    unfold pdw at a b ⊢
    rw [List.map_cons, PyData.canLayAll0, PyData.depthAll, a, b, PyData.canLay0, PyData.depth]
    exact ⟨rfl, rfl⟩
theorem lay_rows : ∀ ws : List (List Int), PyData.canLayAll0 (pdr ws) = true ∧ PyData.depthAll (pdr ws) ≤ 1
  | [] => ⟨by simp [pdr, PyData.canLayAll0], by simp [pdr, PyData.depthAll]⟩
  | x :: ws => by
    obtain ⟨a, b⟩ := lay_rows ws
    obtain ⟨c, d⟩ := lay_ints x
    unfold pdr at a b ⊢
    rw [List.map_cons, PyData.canLayAll0, PyData.depthAll, a, PyData.canLay0, PyData.depth, c, d]
    exact ⟨rfl, Nat.max_le.mpr ⟨by omega, b⟩⟩
theorem shaped_tup (w : List Int) : SeqAt.shaped (.tuple (pdw w)) = true := by
  obtain ⟨a, b⟩ := lay_ints w
  unfold SeqAt.shaped
  rw [PyData.canLay0, PyData.depth, a, b]; rfl
theorem shaped_lst (w : List Int) : SeqAt.shaped (.list (pdw w)) = true := by
  obtain ⟨a, b⟩ := lay_ints w
  unfold SeqAt.shaped
  rw [PyData.canLay0, PyData.depth, a, b]; rfl
theorem shaped_rows (ws : List (List Int)) : SeqAt.shaped (.list (pdr ws)) = true := by
  obtain ⟨a, b⟩ := lay_rows ws
  unfold SeqAt.shaped
  rw [PyData.canLay0, PyData.depth, a, Bool.true_and]
  exact decide_eq_true (by omega)
section
variable {K : PySem.W.Frag} {H : Hp} {Q : VK} {a b : Addr} {x y : List Int} {xs ys : List (List Int)}
theorem dp_ints : ∀ w : List Int, DpAll K H (w.map V.int) (pdw w)
  | [] => .nil
  | x :: w => .cons (.int x) (dp_ints w)
theorem dp_tup (h : H a = some (.tup (x.map V.int))) : Dp K H (.ref a) (.tuple (pdw x)) := .tup (.inl (.inl h)) (dp_ints x)
theorem dp_lst (h : H a = some (.lst (x.map V.int))) : Dp K H (.ref a) (.list (pdw x)) := .lst (.inl (.inl h)) (dp_ints x)
theorem dp_rows (h : Rows H a xs) : Dp K H (.ref a) (.list (pdr xs)) := by
  obtain ⟨ks, h1, rfl, h3⟩ := h
  refine .lst (.inl (.inl h1)) ?_
  clear h1
  induction ks with
  | nil => exact .nil
  | cons k ks ih => exact .cons (dp_tup (h3 k List.mem_cons_self)) (ih fun q hq => h3 q (List.mem_cons_of_mem _ hq))
theorem eqT (ha : H a = some (.tup (x.map V.int))) (hb : H b = some (.tup (y.map V.int))) (q : Q (.bl (decide (x = y))) H) : rEqD K (.ref a) (.ref b) H Q :=
  ⟨_, _, dp_tup ha, dp_tup hb, shaped_tup _, shaped_tup _, by rw [PyData.eqv, eqvAll_ints]; exact q⟩
theorem neT (ha : H a = some (.tup (x.map V.int))) (hb : H b = some (.tup (y.map V.int))) (q : Q (.bl (!decide (x = y))) H) : rNeD K (.ref a) (.ref b) H Q :=
  ⟨_, _, dp_tup ha, dp_tup hb, shaped_tup _, shaped_tup _, by rw [PyData.eqv, eqvAll_ints]; exact q⟩
theorem eqL (ha : H a = some (.lst (x.map V.int))) (hb : H b = some (.lst (y.map V.int))) (q : Q (.bl (decide (x = y))) H) : rEqD K (.ref a) (.ref b) H Q :=
  ⟨_, _, dp_lst ha, dp_lst hb, shaped_lst _, shaped_lst _, by rw [PyData.eqv, eqvAll_ints]; exact q⟩
theorem neL (ha : H a = some (.lst (x.map V.int))) (hb : H b = some (.lst (y.map V.int))) (q : Q (.bl (!decide (x = y))) H) : rNeD K (.ref a) (.ref b) H Q :=
  ⟨_, _, dp_lst ha, dp_lst hb, shaped_lst _, shaped_lst _, by rw [PyData.eqv, eqvAll_ints]; exact q⟩
theorem eqR (ha : Rows H a xs) (hb : Rows H b ys) (q : Q (.bl (decide (xs = ys))) H) : rEqD K (.ref a) (.ref b) H Q :=
  ⟨_, _, dp_rows ha, dp_rows hb, shaped_rows _, shaped_rows _, by rw [PyData.eqv, eqvAll_rows]; exact q⟩
theorem neR (ha : Rows H a xs) (hb : Rows H b ys) (q : Q (.bl (!decide (xs = ys))) H) : rNeD K (.ref a) (.ref b) H Q :=
  ⟨_, _, dp_rows ha, dp_rows hb, shaped_rows _, shaped_rows _, by rw [PyData.eqv, eqvAll_rows]; exact q⟩
theorem any_rows : ∀ ws : List (List Int), ((pdr ws).any fun z => PyData.eqv z (.tuple (pdw x))) = decide (x ∈ ws)
  | [] => by simp [pdr]
  | w :: ws => by
    have ih := any_rows ws
    unfold pdr at ih ⊢
    rw [List.map_cons, List.any_cons, ih, PyData.eqv, eqvAll_ints]
    by_cases e : w = x
    · simp [e]
    · have : ¬ x = w := fun z => e z.symm
      simp [e, this]
theorem inR (ha : H a = some (.tup (x.map V.int))) (hb : Rows H b ys) (q : Q (.bl (decide (x ∈ ys))) H) : rInD K (.ref a) (.ref b) H Q :=
  ⟨_, _, dp_tup ha, dp_rows hb, shaped_tup _, shaped_rows _, by rw [any_rows]; exact q⟩
theorem notInR (ha : H a = some (.tup (x.map V.int))) (hb : Rows H b ys) (q : Q (.bl (!decide (x ∈ ys))) H) : rNotInD K (.ref a) (.ref b) H Q :=
  ⟨_, _, dp_tup ha, dp_rows hb, shaped_tup _, shaped_rows _, by rw [any_rows]; exact q⟩
end
end Mine

namespace Mine
/-! ### letters put in, rises, sums -/
def ins (a : Int) : Nat → List Int → List Int
  | 0, w => a :: w
  | _ + 1, [] => [a]
  | k + 1, c :: w => c :: ins a k w
theorem ins_eq (a : Int) : ∀ (k : Nat) (w : List Int), k ≤ w.length → ins a k w = w.take k ++ a :: w.drop k
  | 0, w, _ => rfl
  | k + 1, [], h => absurd h (by simp)
  | k + 1, c :: w, h => by
    show c :: ins a k w = _
    rw [ins_eq a k w (by simpa using h)]; rfl
theorem ins_len (a : Int) : ∀ (k : Nat) (w : List Int), (ins a k w).length = w.length + 1
  | 0, w => rfl
  | k + 1, [] => rfl
  | k + 1, c :: w => by
    show (ins a k w).length + 1 = _
    rw [ins_len a k w]; rfl
theorem ins_ne (a : Int) (k : Nat) (w : List Int) : ins a k w ≠ [] := fun h => by
  have := ins_len a k w
  rw [h] at this; simp at this
def del : Nat → List Int → List Int
  | _, [] => []
  | 0, _ :: w => w
  | k + 1, c :: w => c :: del k w
theorem del_eq : ∀ (k : Nat) (w : List Int), del k w = w.take k ++ w.drop (k + 1)
  | 0, [] => rfl
  | k + 1, [] => rfl
  | 0, c :: w => rfl
  | k + 1, c :: w => by
    show c :: del k w = _
    rw [del_eq k w]; rfl
theorem del_len : ∀ (k : Nat) (w : List Int), k < w.length → (del k w).length = w.length - 1
  | _, [], h => absurd h (by simp)
  | 0, c :: w, _ => rfl
  | k + 1, c :: w, h => by
    have hk : k < w.length := by simpa using h
    show (del k w).length + 1 = w.length + 1 - 1
    rw [del_len k w hk]; omega
theorem del_ins (a : Int) : ∀ (k : Nat) (w : List Int), k ≤ w.length → del k (ins a k w) = w
  | 0, w, _ => rfl
  | k + 1, [], h => absurd h (by simp)
  | k + 1, c :: w, h => by
    show c :: del k (ins a k w) = c :: w
    rw [del_ins a k w (by simpa using h)]
theorem ins_del : ∀ (k : Nat) (w : List Int), k < w.length → ∃ a, ins a k (del k w) = w
  | _, [], h => absurd h (by simp)
  | 0, c :: w, _ => ⟨c, rfl⟩
  | k + 1, c :: w, h => by
    obtain ⟨a, e⟩ := ins_del k w (by simpa using h)
    exact ⟨a, by show c :: ins a k (del k w) = c :: w; rw [e]⟩
def bit (a b : Int) : Int := if a ≤ b then 1 else 0
theorem bit_01 (a b : Int) : bit a b = 0 ∨ bit a b = 1 := by unfold bit; split <;> simp
def rise : List Int → List Int
  | a :: b :: r => bit a b :: rise (b :: r)
  | _ => []
theorem rise_cons {c : Int} {x : List Int} (h : x ≠ []) : ∃ d r, x = d :: r ∧ rise (c :: x) = bit c d :: rise x := by
  cases x with
  | nil => exact absurd rfl h
  | cons d r => exact ⟨d, r, rfl, rfl⟩
theorem rise_len : ∀ w : List Int, (rise w).length = w.length - 1
  | [] => rfl
  | [_] => rfl
  | a :: b :: r => by
    show (rise (b :: r)).length + 1 = _
    rw [rise_len (b :: r)]; simp
def Bits (y : List Int) : Prop := ∀ x ∈ y, x = 0 ∨ x = 1
theorem rise_bits : ∀ w : List Int, Bits (rise w)
  | [] => fun x h => by cases h
  | [_] => fun x h => by cases h
  | a :: b :: r => fun x h => by
    rcases List.mem_cons.mp h with e | h
    · rw [e]; exact bit_01 a b
    · exact rise_bits (b :: r) x h
theorem Bits.tail {c : Int} {y : List Int} (h : Bits (c :: y)) : Bits y := fun x hx => h x (List.mem_cons_of_mem _ hx)
theorem Bits.head {c : Int} {y : List Int} (h : Bits (c :: y)) : c = 0 ∨ c = 1 := h c List.mem_cons_self
/-- the sum of the places (the first is o + 1) -/
def wsum : Nat → List Int → Int
  | _, [] => 0
  | o, x :: r => ((o : Int) + 1) * x + wsum (o + 1) r
theorem wsum_shift : ∀ (o : Nat) (y : List Int), wsum (o + 1) y = wsum o y + y.sum
  | _, [] => rfl
  | o, x :: r => by
    show (((o + 1 : Nat) : Int) + 1) * x + wsum (o + 1 + 1) r = ((o : Int) + 1) * x + wsum (o + 1) r + (x :: r).sum
    rw [wsum_shift (o + 1) r, List.sum_cons]
    have e : (((o + 1 : Nat) : Int) + 1) * x = ((o : Int) + 1) * x + x := by
      have : ((o + 1 : Nat) : Int) = (o : Int) + 1 := by omega
      rw [this, Int.add_mul ((o : Int) + 1) 1 x, Int.one_mul]
    omega
theorem wsum_ins (b : Int) : ∀ (i o : Nat) (y : List Int), i ≤ y.length → wsum o (ins b i y) = wsum o y + ((o : Int) + i + 1) * b + (y.drop i).sum
  | 0, o, y, _ => by
    show ((o : Int) + 1) * b + wsum (o + 1) y = _
    rw [wsum_shift]
    simp only [Int.natCast_zero, Int.add_zero, List.drop_zero]
    omega
  | i + 1, o, [], h => absurd h (by simp)
  | i + 1, o, c :: y, h => by
    show ((o : Int) + 1) * c + wsum (o + 1) (ins b i y) = ((o : Int) + 1) * c + wsum (o + 1) y + _ + _
    rw [wsum_ins b i (o + 1) y (by simpa using h)]
    have e : (((o + 1 : Nat) : Int) + (i : Int) + 1) * b = ((o : Int) + ((i + 1 : Nat) : Int) + 1) * b := by
      congr 1
      omega
    rw [e, List.drop_succ_cons]
    omega
theorem bits_sum {y : List Int} (h : Bits y) : 0 ≤ y.sum ∧ y.sum ≤ y.length := by
  induction y with
  | nil => simp
  | cons c y ih =>
    have := ih h.tail
    have := h.head
    rw [List.sum_cons, List.length_cons]
    omega
theorem bits_drop {y : List Int} (h : Bits y) : ∀ i : Nat, Bits (y.drop i) := fun i x hx => h x (List.mem_of_mem_drop hx)
theorem sum_drop {y : List Int} (h : Bits y) (i : Nat) (hi : i ≤ y.length) : (y.drop i).sum ≤ y.sum ∧ y.sum ≤ i + (y.drop i).sum := by
  induction y generalizing i with
  | nil => simp
  | cons c y ih =>
    cases i with
    | zero => simp
    | succ i =>
      have := ih h.tail i (by simpa using hi)
      have := h.head
      rw [List.drop_succ_cons, List.sum_cons]
      omega
theorem ins_zero : ∀ (y : List Int) (i j : Nat), Bits y → i ≤ y.length → j ≤ y.length → (y.drop i).sum = (y.drop j).sum → ins 0 i y = ins 0 j y
  | [], i, j, _, hi, hj, _ => by
    have : i = 0 := by simpa using hi
    have : j = 0 := by simpa using hj
    subst i j; rfl
  | c :: y, 0, 0, _, _, _, _ => rfl
  | c :: y, 0, j + 1, h, _, hj, e => by
    have hj' : j ≤ y.length := by simpa using hj
    have e2 : c + y.sum = (y.drop j).sum := by simpa using e
    have := sum_drop h.tail j hj'
    have := h.head
    have c0 : c = 0 := by omega
    subst c0
    show 0 :: 0 :: y = 0 :: ins 0 j y
    rw [← ins_zero y 0 j h.tail (Nat.zero_le _) hj' (by rw [List.drop_zero]; omega)]; rfl
  | c :: y, i + 1, 0, h, hi, _, e => by
    have hi' : i ≤ y.length := by simpa using hi
    have e2 : (y.drop i).sum = c + y.sum := by simpa using e
    have := sum_drop h.tail i hi'
    have := h.head
    have c0 : c = 0 := by omega
    subst c0
    show 0 :: ins 0 i y = 0 :: 0 :: y
    rw [← ins_zero y 0 i h.tail (Nat.zero_le _) hi' (by rw [List.drop_zero]; omega)]; rfl
  | c :: y, i + 1, j + 1, h, hi, hj, e => by
    show c :: ins 0 i y = c :: ins 0 j y
    rw [ins_zero y i j h.tail (by simpa using hi) (by simpa using hj) (by simpa using e)]
theorem ins_one : ∀ (y : List Int) (i j : Nat), Bits y → i ≤ y.length → j ≤ y.length → (i : Int) + (y.drop i).sum = (j : Int) + (y.drop j).sum → ins 1 i y = ins 1 j y
  | [], i, j, _, hi, hj, _ => by
    have : i = 0 := by simpa using hi
    have : j = 0 := by simpa using hj
    subst i j; rfl
  | c :: y, 0, 0, _, _, _, _ => rfl
  | c :: y, 0, j + 1, h, _, hj, e => by
    have hj' : j ≤ y.length := by simpa using hj
    have e2 : 0 + (c + y.sum) = ((j + 1 : Nat) : Int) + (y.drop j).sum := by simpa using e
    have := sum_drop h.tail j hj'
    have := h.head
    have c0 : c = 1 := by omega
    subst c0
    show 1 :: 1 :: y = 1 :: ins 1 j y
    rw [← ins_one y 0 j h.tail (Nat.zero_le _) hj' (by rw [List.drop_zero]; omega)]; rfl
  | c :: y, i + 1, 0, h, hi, _, e => by
    have hi' : i ≤ y.length := by simpa using hi
    have e2 : ((i + 1 : Nat) : Int) + (y.drop i).sum = 0 + (c + y.sum) := by simpa using e
    have := sum_drop h.tail i hi'
    have := h.head
    have c0 : c = 1 := by omega
    subst c0
    show 1 :: ins 1 i y = 1 :: 1 :: y
    rw [← ins_one y 0 i h.tail (Nat.zero_le _) hi' (by rw [List.drop_zero]; omega)]; rfl
  | c :: y, i + 1, j + 1, h, hi, hj, e => by
    show c :: ins 1 i y = c :: ins 1 j y
    have e2 : ((i + 1 : Nat) : Int) + (y.drop i).sum = ((j + 1 : Nat) : Int) + (y.drop j).sum := by simpa using e
    rw [ins_one y i j h.tail (by simpa using hi) (by simpa using hj) (by omega)]
/-- the places of the rises -/
def places (w : List Int) : List Int := (List.range (w.length - 1)).filterMap fun i => if w.getD i 0 ≤ w.getD (i + 1) 0 then some ((i : Int) + 1) else none
theorem rise_map : ∀ w : List Int, rise w = (List.range (w.length - 1)).map fun i => bit (w.getD i 0) (w.getD (i + 1) 0)
  | [] => rfl
  | [_] => rfl
  | a :: b :: r => by
    show bit a b :: rise (b :: r) = (List.range (r.length + 1)).map _
    rw [rise_map (b :: r), List.range_succ_eq_map, List.map_cons, List.map_map]
    rfl
theorem places_from : ∀ (w : List Int) (o : Nat), ((List.range (w.length - 1)).filterMap fun i => if w.getD i 0 ≤ w.getD (i + 1) 0 then some ((o : Int) + (i : Int) + 1) else none).sum = wsum o (rise w)
  | [], _ => rfl
  | [_], _ => rfl
  | a :: b :: r, o => by
    show ((List.range (r.length + 1)).filterMap _).sum = ((o : Int) + 1) * bit a b + wsum (o + 1) (rise (b :: r))
    rw [← places_from (b :: r) (o + 1), List.range_succ_eq_map, List.filterMap_cons, List.filterMap_map]
    have e : ((List.range r.length).filterMap ((fun i => if (a :: b :: r).getD i 0 ≤ (a :: b :: r).getD (i + 1) 0 then some ((o : Int) + (i : Int) + 1) else none) ∘ Nat.succ)) =
        (List.range ((b :: r).length - 1)).filterMap fun i => if (b :: r).getD i 0 ≤ (b :: r).getD (i + 1) 0 then some (((o + 1 : Nat) : Int) + (i : Int) + 1) else none := by
      show _ = (List.range r.length).filterMap _
      congr 1
      funext i
      show (if (b :: r).getD i 0 ≤ (b :: r).getD (i + 1) 0 then some ((o : Int) + ((i + 1 : Nat) : Int) + 1) else none) = _
      have : (o : Int) + ((i + 1 : Nat) : Int) + 1 = ((o + 1 : Nat) : Int) + (i : Int) + 1 := by omega
      rw [this]
    rw [e]
    unfold bit
    by_cases h : a ≤ b
    · rw [if_pos (show (a :: b :: r).getD 0 0 ≤ (a :: b :: r).getD (0 + 1) 0 from h), if_pos h, List.sum_cons]
      simp
    · rw [if_neg (show ¬ (a :: b :: r).getD 0 0 ≤ (a :: b :: r).getD (0 + 1) 0 from h), if_neg h]
      simp
theorem places_sum (w : List Int) : (places w).sum = wsum 0 (rise w) := by
  rw [← places_from w 0]
  unfold places
  congr 2
  funext i
  rw [Int.natCast_zero, Int.zero_add]
/-- what a bit put in at i adds to the sum of the places -/
def dv (b : Int) (i : Nat) (y : List Int) : Int := ((i : Int) + 1) * b + (y.drop i).sum
theorem dv_inj {y : List Int} {b b' : Int} {i j : Nat} (h : Bits y) (hb : b = 0 ∨ b = 1) (hb' : b' = 0 ∨ b' = 1) (hi : i ≤ y.length) (hj : j ≤ y.length) (e : dv b i y = dv b' j y) : ins b i y = ins b' j y := by
  have s1 := sum_drop h i hi
  have s2 := sum_drop h j hj
  unfold dv at e
  rcases hb with rfl | rfl <;> rcases hb' with rfl | rfl
  · exact ins_zero y i j h hi hj (by omega)
  · omega
  · omega
  · exact ins_one y i j h hi hj (by omega)
theorem dv_bound {y : List Int} {b : Int} {i : Nat} (h : Bits y) (hb : b = 0 ∨ b = 1) (hi : i ≤ y.length) : 0 ≤ dv b i y ∧ dv b i y ≤ y.length + 1 := by
  have s1 := bits_sum h
  have s2 := bits_sum (bits_drop h i)
  have s3 := sum_drop h i hi
  rw [List.length_drop] at s2
  unfold dv
  rcases hb with rfl | rfl <;> omega
/-- two words that come of one by a bit put in, of one sum by the modulus, are one -/
theorem vt {y : List Int} {b b' : Int} {i j : Nat} (h : Bits y) (hb : b = 0 ∨ b = 1) (hb' : b' = 0 ∨ b' = 1) (hi : i ≤ y.length) (hj : j ≤ y.length)
    (e : wsum 0 (ins b i y) % ((y.length : Int) + 2) = wsum 0 (ins b' j y) % ((y.length : Int) + 2)) : ins b i y = ins b' j y := by
  refine dv_inj h hb hb' hi hj ?_
  have d1 := dv_bound h hb hi
  have d2 := dv_bound h hb' hj
  have w1 : wsum 0 (ins b i y) = wsum 0 y + dv b i y := by
    rw [wsum_ins b i 0 y hi]; unfold dv
    have : (((0 : Nat) : Int) + (i : Int) + 1) * b = ((i : Int) + 1) * b := by rw [Int.natCast_zero, Int.zero_add]
    rw [this]; omega
  have w2 : wsum 0 (ins b' j y) = wsum 0 y + dv b' j y := by
    rw [wsum_ins b' j 0 y hj]; unfold dv
    have : (((0 : Nat) : Int) + (j : Int) + 1) * b' = ((j : Int) + 1) * b' := by rw [Int.natCast_zero, Int.zero_add]
    rw [this]; omega
  rw [w1, w2] at e
  have e2 := Int.emod_emod_of_dvd (wsum 0 y + dv b i y) (Int.dvd_refl ((y.length : Int) + 2))
  have dvd : ((y.length : Int) + 2) ∣ (wsum 0 y + dv b i y) - (wsum 0 y + dv b' j y) := Int.dvd_of_emod_eq_zero (Int.emod_eq_emod_iff_emod_sub_eq_zero.mp e)
  have e3 : (wsum 0 y + dv b i y) - (wsum 0 y + dv b' j y) = dv b i y - dv b' j y := by omega
  rw [e3] at dvd
  rcases Int.lt_trichotomy (dv b i y) (dv b' j y) with c | c | c
  · have := Int.le_of_dvd (by omega) (Int.dvd_neg.mpr dvd)
    omega
  · exact c
  · have := Int.le_of_dvd (by omega) dvd
    omega
/-- a letter put in puts a bit into the rises -/
theorem rise_ins (a : Int) : ∀ (w : List Int) (k : Nat), w ≠ [] → k ≤ w.length → ∃ b i, (b = 0 ∨ b = 1) ∧ i ≤ (rise w).length ∧ rise (ins a k w) = ins b i (rise w)
  | [], _, h, _ => absurd rfl h
  | c :: t, 0, _, _ => ⟨bit a c, 0, bit_01 a c, Nat.zero_le _, rfl⟩
  | [c], k + 1, _, hk => by
    have : k = 0 := by simpa using hk
    subst this
    exact ⟨bit c a, 0, bit_01 c a, Nat.zero_le _, rfl⟩
  | c :: d :: t, 1, _, _ => by
    show ∃ b i, _ ∧ i ≤ (bit c d :: rise (d :: t)).length ∧ bit c a :: bit a d :: rise (d :: t) = ins b i (bit c d :: rise (d :: t))
    have two : ∀ b, (b = 0 ∨ b = 1) → ((bit c a = b ∧ bit a d = bit c d) ∨ (bit c a = bit c d ∧ bit a d = b)) → ∃ b i, (b = 0 ∨ b = 1) ∧ i ≤ (bit c d :: rise (d :: t)).length ∧ bit c a :: bit a d :: rise (d :: t) = ins b i (bit c d :: rise (d :: t)) := by
      intro b hb h
      rcases h with ⟨h1, h2⟩ | ⟨h1, h2⟩
      · exact ⟨b, 0, hb, Nat.zero_le _, by rw [h1, h2]; rfl⟩
      · exact ⟨b, 1, hb, by simp, by rw [h1, h2]; rfl⟩
    by_cases e : bit c a = bit c d
    · exact two (bit a d) (bit_01 a d) (.inr ⟨e, rfl⟩)
    · refine two (bit c a) (bit_01 c a) (.inl ⟨rfl, ?_⟩)
      unfold bit at e ⊢
      by_cases h1 : c ≤ a <;> by_cases h2 : c ≤ d <;> by_cases h3 : a ≤ d <;> simp [h1, h2, h3] at e ⊢ <;> omega
  | c :: d :: t, k + 2, _, hk => by
    obtain ⟨b, i, hb, hi, e⟩ := rise_ins a (d :: t) (k + 1) (by simp) (by simpa using hk)
    refine ⟨b, i + 1, hb, by show i + 1 ≤ (rise (d :: t)).length + 1; omega, ?_⟩
    show bit c d :: rise (d :: ins a k t) = bit c d :: ins b i (rise (d :: t))
    rw [← e]; rfl
/-- one chain of comparisons -/
theorem chain (a : Int) : ∀ (t : List Int) (x c : Int) (j : Nat), j ≤ t.length → rise (x :: c :: t) = rise (c :: ins a j t) →
    (x ≤ c → c ≤ a ∧ (c = a → x = a → x :: c :: t = c :: ins a j t)) ∧ (c < x → a < c)
  | t, x, c, 0, _, e => by
    have h : bit x c :: rise (c :: t) = bit c a :: rise (a :: t) := e
    injection h with h _
    unfold bit at h
    refine ⟨fun l => ?_, fun l => ?_⟩
    · rw [if_pos l] at h
      have ca : c ≤ a := by
        by_cases q : c ≤ a
        · exact q
        · rw [if_neg q] at h; cases h
      exact ⟨ca, fun e1 e2 => by subst e1 e2; rfl⟩
    · rw [if_neg (by omega)] at h
      by_cases q : c ≤ a
      · rw [if_pos q] at h; cases h
      · omega
  | [], _, _, j + 1, hj, _ => absurd hj (by simp)
  | d :: t, x, c, j + 1, hj, e => by
    have h : bit x c :: rise (c :: d :: t) = bit c d :: rise (d :: ins a j t) := e
    injection h with h h2
    obtain ⟨i1, i2⟩ := chain a t c d j (by simpa using hj) h2
    unfold bit at h
    refine ⟨fun l => ?_, fun l => ?_⟩
    · rw [if_pos l] at h
      have cd : c ≤ d := by
        by_cases q : c ≤ d
        · exact q
        · rw [if_neg q] at h; cases h
      obtain ⟨da, f⟩ := i1 cd
      refine ⟨by omega, fun e1 e2 => ?_⟩
      have hd : d = a := by omega
      have := f hd e1
      show x :: c :: d :: t = c :: d :: ins a j t
      rw [← this, e1, e2]
    · rw [if_neg (by omega)] at h
      have dc : d < c := by
        by_cases q : c ≤ d
        · rw [if_pos q] at h; cases h
        · omega
      have := i2 dc
      omega
theorem rise_front {a c : Int} {t : List Int} {j : Nat} (hj : j ≤ t.length) (e : rise (a :: c :: t) = rise (c :: ins a j t)) : a :: c :: t = c :: ins a j t := by
  obtain ⟨i1, i2⟩ := chain a t a c j hj e
  by_cases l : a ≤ c
  · obtain ⟨ca, f⟩ := i1 l
    exact f (by omega) rfl
  · have := i2 (by omega)
    omega
theorem rise_inj (a : Int) : ∀ (w : List Int) (k j : Nat), k ≤ w.length → j ≤ w.length → rise (ins a k w) = rise (ins a j w) → ins a k w = ins a j w
  | [], k, j, hk, hj, _ => by
    have : k = 0 := by simpa using hk
    have : j = 0 := by simpa using hj
    subst k j; rfl
  | c :: t, 0, 0, _, _, _ => rfl
  | c :: t, 0, j + 1, _, hj, e => rise_front (by simpa using hj) e
  | c :: t, k + 1, 0, hk, _, e => (rise_front (by simpa using hk) e.symm).symm
  | c :: t, k + 1, j + 1, hk, hj, e => by
    show c :: ins a k t = c :: ins a j t
    have e' : rise (c :: ins a k t) = rise (c :: ins a j t) := e
    obtain ⟨d, r, e1, e2⟩ := rise_cons (c := c) (ins_ne a k t)
    obtain ⟨d', r', e1', e2'⟩ := rise_cons (c := c) (ins_ne a j t)
    rw [e2, e2'] at e'
    injection e' with _ e'
    rw [rise_inj a t k j (by simpa using hk) (by simpa using hj) e']
/-- all words that come by the letter a put in, each once -/
def puts (a : Int) : List Int → List (List Int)
  | [] => [[a]]
  | c :: t => if c = a then (puts a t).map (c :: ·) else (a :: c :: t) :: (puts a t).map (c :: ·)
theorem mem_puts {a : Int} : ∀ {w x : List Int}, x ∈ puts a w ↔ ∃ k, k ≤ w.length ∧ x = ins a k w
  | [], x => by
    refine ⟨fun h => ⟨0, Nat.zero_le _, List.mem_singleton.mp h⟩, fun ⟨k, hk, e⟩ => ?_⟩
    have : k = 0 := by simpa using hk
    subst k; rw [e]; exact List.mem_singleton.mpr rfl
  | c :: t, x => by
    have m : x ∈ (puts a t).map (c :: ·) ↔ ∃ k, k ≤ t.length ∧ x = c :: ins a k t := by
      rw [List.mem_map]
      constructor
      · rintro ⟨y, hy, rfl⟩
        obtain ⟨k, hk, e⟩ := mem_puts.mp hy
        exact ⟨k, hk, by rw [e]⟩
      · rintro ⟨k, hk, rfl⟩
        exact ⟨_, mem_puts.mpr ⟨k, hk, rfl⟩, rfl⟩
    unfold puts
    split
    · rename_i e
      subst e
      rw [m]
      constructor
      · rintro ⟨k, hk, rfl⟩
        exact ⟨k + 1, by simp; omega, rfl⟩
      · rintro ⟨k, hk, rfl⟩
        cases k with
        | zero => exact ⟨0, Nat.zero_le _, rfl⟩
        | succ k => exact ⟨k, by simpa using hk, rfl⟩
    · rw [List.mem_cons, m]
      constructor
      · rintro (rfl | ⟨k, hk, rfl⟩)
        · exact ⟨0, Nat.zero_le _, rfl⟩
        · exact ⟨k + 1, by simp; omega, rfl⟩
      · rintro ⟨k, hk, rfl⟩
        cases k with
        | zero => exact .inl rfl
        | succ k => exact .inr ⟨k, by simpa using hk, rfl⟩
theorem nodup_cons_map {c : Int} {l : List (List Int)} (h : l.Nodup) : (l.map (c :: ·)).Nodup :=
  List.pairwise_map.mpr (List.Pairwise.imp (fun hne e => hne (List.cons.inj e).2) h)
theorem puts_nodup (a : Int) : ∀ w : List Int, (puts a w).Nodup
  | [] => List.pairwise_singleton _ _
  | c :: t => by
    unfold puts
    split
    · exact nodup_cons_map (puts_nodup a t)
    · rename_i ne
      refine List.nodup_cons.mpr ⟨fun h => ?_, nodup_cons_map (puts_nodup a t)⟩
      obtain ⟨y, _, e⟩ := List.mem_map.mp h
      injection e with e _
      exact ne e
theorem puts_len (a : Int) : ∀ w : List Int, (puts a w).length + w.count a = w.length + 1
  | [] => rfl
  | c :: t => by
    have ih := puts_len a t
    unfold puts
    split
    · rename_i e
      subst e
      rw [List.length_map, List.count_cons_self, List.length_cons]
      omega
    · rename_i ne
      rw [List.length_cons, List.length_map, List.count_cons_of_ne ne, List.length_cons]
      omega
theorem same_len {α : Type} {xs ys : List α} (hx : xs.Nodup) (hy : ys.Nodup) (h : ∀ x, x ∈ xs ↔ x ∈ ys) : xs.length = ys.length :=
  ((List.perm_ext_iff_of_nodup hx hy).mpr h).length_eq
theorem map_nodup {α β : Type} {f : α → β} {xs : List α} (hx : xs.Nodup) (h : ∀ x ∈ xs, ∀ y ∈ xs, f x = f y → x = y) : (xs.map f).Nodup :=
  List.pairwise_map.mpr (List.Pairwise.imp_of_mem (fun {x y} hx hy hne e => hne (h x hx y hy e)) hx)
/-- a letter lost loses one of the rises -/
theorem rise_del {w : List Int} {k : Nat} (h : 1 < w.length) (hk : k < w.length) : ∃ i, i < (rise w).length ∧ rise (del k w) = del i (rise w) := by
  obtain ⟨a, e⟩ := ins_del k w hk
  have hl := del_len k w hk
  have hne : del k w ≠ [] := fun z => by rw [z] at hl; simp at hl; omega
  obtain ⟨b, i, _, hi, e2⟩ := rise_ins a (del k w) k hne (by omega)
  rw [e] at e2
  refine ⟨i, ?_, ?_⟩
  · rw [rise_len] at hi ⊢; omega
  · rw [e2, del_ins b i _ hi]
theorem ins_sub (b : Int) : ∀ (i : Nat) (y : List Int), y.Sublist (ins b i y)
  | 0, y => List.sublist_cons_self b y
  | i + 1, [] => List.nil_sublist _
  | i + 1, c :: y => (ins_sub b i y).cons₂ c
/-- sums of the rises of the words with one letter put in are apart by the modulus -/
theorem sums_apart {a : Int} {w x y : List Int} (hx : x ∈ puts a w) (hy : y ∈ puts a w) (e : wsum 0 (rise x) % ((w.length : Int) + 1) = wsum 0 (rise y) % ((w.length : Int) + 1)) : x = y := by
  obtain ⟨k, hk, rfl⟩ := mem_puts.mp hx
  obtain ⟨j, hj, rfl⟩ := mem_puts.mp hy
  by_cases hw : w = []
  · subst hw
    have : k = 0 := by simpa using hk
    have : j = 0 := by simpa using hj
    subst k j; rfl
  · obtain ⟨b, i, hb, hi, e1⟩ := rise_ins a w k hw hk
    obtain ⟨b', i', hb', hi', e2⟩ := rise_ins a w j hw hj
    have hl : 0 < w.length := List.length_pos_iff.mpr hw
    refine rise_inj a w k j hk hj ?_
    rw [e1, e2]
    refine vt (rise_bits w) hb hb' hi hi' ?_
    rw [e1, e2] at e
    have : (((rise w).length : Nat) : Int) + 2 = (w.length : Int) + 1 := by rw [rise_len]; omega
    rw [this]; exact e
theorem rises_apart {a : Int} {w x y : List Int} (hx : x ∈ puts a w) (hy : y ∈ puts a w) (e : rise x = rise y) : x = y := sums_apart hx hy (by rw [e])
end Mine

namespace Mine
open PySem PySem.Spec PyProof.Rows L2
abbrev PG : Program := PySem.Challenge.pw_lostplaces_k18_whole_rises_of_words_off
def top (i : Nat) : Stmt := PG.main.body.getD i (.Pass ⟨0, 0, 0, 0⟩)
abbrev s_BadWord___init : Stmt := inClass (top 2) 0
abbrev N_BadWord___init : List Str := ["self", "index"]
abbrev P_BadWord___init : List Str := ["self", "index"]
theorem sc_BadWord___init : FnScope N_BadWord___init P_BadWord___init (defScope s_BadWord___init) := ⟨rfl, rfl, rfl, by decide +kernel, rfl, by decide +kernel, by decide +kernel⟩
abbrev D_BadWord___init (K : PySem.W.Frag) (f : Addr) (fd : FuncData) : Prop := FunD K "__init__" "BadWord.__init__" (defArgs s_BadWord___init) (defBody s_BadWord___init) (defScope s_BadWord___init) [] [] f fd
abbrev s_is_whole : Stmt := top 4
abbrev N_is_whole : List Str := ["thing", "low", "high"]
abbrev P_is_whole : List Str := ["thing", "low", "high"]
theorem sc_is_whole : FnScope N_is_whole P_is_whole (defScope s_is_whole) := ⟨rfl, rfl, rfl, by decide +kernel, rfl, by decide +kernel, by decide +kernel⟩
abbrev D_is_whole (K : PySem.W.Frag) (f : Addr) (fd : FuncData) : Prop := FunD K "is_whole" "is_whole" (defArgs s_is_whole) (defBody s_is_whole) (defScope s_is_whole) [.non, .non] [] f fd
abbrev s_check_word : Stmt := top 5
abbrev N_check_word : List Str := ["letters", "word", "most", "index", "letter"]
abbrev P_check_word : List Str := ["letters", "word", "most"]
theorem sc_check_word : FnScope N_check_word P_check_word (defScope s_check_word) := ⟨rfl, rfl, rfl, by decide +kernel, rfl, by decide +kernel, by decide +kernel⟩
abbrev D_check_word (K : PySem.W.Frag) (f : Addr) (fd : FuncData) : Prop := FunD K "check_word" "check_word" (defArgs s_check_word) (defBody s_check_word) (defScope s_check_word) [.int (24)] [] f fd
abbrev s_rises_of : Stmt := top 8
abbrev N_rises_of : List Str := ["word", "place"]
abbrev P_rises_of : List Str := ["word"]
theorem sc_rises_of : FnScope N_rises_of P_rises_of (defScope s_rises_of) := ⟨rfl, rfl, rfl, by decide +kernel, rfl, by decide +kernel, by decide +kernel⟩
abbrev D_rises_of (K : PySem.W.Frag) (f : Addr) (fd : FuncData) : Prop := FunD K "rises_of" "rises_of" (defArgs s_rises_of) (defBody s_rises_of) (defScope s_rises_of) [] [] f fd
abbrev s_rise_word : Stmt := top 9
abbrev N_rise_word : List Str := ["word", "place"]
abbrev P_rise_word : List Str := ["word"]
theorem sc_rise_word : FnScope N_rise_word P_rise_word (defScope s_rise_word) := ⟨rfl, rfl, rfl, by decide +kernel, rfl, by decide +kernel, by decide +kernel⟩
abbrev D_rise_word (K : PySem.W.Frag) (f : Addr) (fd : FuncData) : Prop := FunD K "rise_word" "rise_word" (defArgs s_rise_word) (defBody s_rise_word) (defScope s_rise_word) [] [] f fd
abbrev s_rise_sum : Stmt := top 10
abbrev N_rise_sum : List Str := ["word"]
abbrev P_rise_sum : List Str := ["word"]
theorem sc_rise_sum : FnScope N_rise_sum P_rise_sum (defScope s_rise_sum) := ⟨rfl, rfl, rfl, by decide +kernel, rfl, by decide +kernel, by decide +kernel⟩
abbrev D_rise_sum (K : PySem.W.Frag) (f : Addr) (fd : FuncData) : Prop := FunD K "rise_sum" "rise_sum" (defArgs s_rise_sum) (defBody s_rise_sum) (defScope s_rise_sum) [] [] f fd
abbrev s_law_hand : Stmt := top 12
abbrev N_law_hand : List Str := ["_law_script", "_law_total", "_law_cells", "_law_cell"]
abbrev P_law_hand : List Str := ["_law_script"]
theorem sc_law_hand : FnScope N_law_hand P_law_hand (defScope s_law_hand) := ⟨rfl, rfl, rfl, by decide +kernel, rfl, by decide +kernel, by decide +kernel⟩
abbrev D_law_hand (K : PySem.W.Frag) (f : Addr) (fd : FuncData) : Prop := FunD K "_law_hand" "_law_hand" (defArgs s_law_hand) (defBody s_law_hand) (defScope s_law_hand) [] [] f fd
abbrev s_law_mixed : Stmt := top 13
abbrev N_law_mixed : List Str := ["_law_number", "_law_turn", "_law_once", "_law_twice"]
abbrev P_law_mixed : List Str := ["_law_number", "_law_turn"]
theorem sc_law_mixed : FnScope N_law_mixed P_law_mixed (defScope s_law_mixed) := ⟨rfl, rfl, rfl, by decide +kernel, rfl, by decide +kernel, by decide +kernel⟩
abbrev D_law_mixed (K : PySem.W.Frag) (f : Addr) (fd : FuncData) : Prop := FunD K "_law_mixed" "_law_mixed" (defArgs s_law_mixed) (defBody s_law_mixed) (defScope s_law_mixed) [] [] f fd
abbrev s_law_take : Stmt := top 14
abbrev N_law_take : List Str := ["_law_hand_here", "_law_many", "_law_cell", "_law_rest"]
abbrev P_law_take : List Str := ["_law_hand_here", "_law_many"]
theorem sc_law_take : FnScope N_law_take P_law_take (defScope s_law_take) := ⟨rfl, rfl, rfl, by decide +kernel, rfl, by decide +kernel, by decide +kernel⟩
abbrev D_law_take (K : PySem.W.Frag) (f : Addr) (fd : FuncData) : Prop := FunD K "_law_take" "_law_take" (defArgs s_law_take) (defBody s_law_take) (defScope s_law_take) [] [] f fd
abbrev s_law_whole : Stmt := top 15
abbrev N_law_whole : List Str := ["_law_thing"]
abbrev P_law_whole : List Str := ["_law_thing"]
theorem sc_law_whole : FnScope N_law_whole P_law_whole (defScope s_law_whole) := ⟨rfl, rfl, rfl, by decide +kernel, rfl, by decide +kernel, by decide +kernel⟩
abbrev D_law_whole (K : PySem.W.Frag) (f : Addr) (fd : FuncData) : Prop := FunD K "_law_whole" "_law_whole" (defArgs s_law_whole) (defBody s_law_whole) (defScope s_law_whole) [] [] f fd
abbrev s_law_word : Stmt := top 16
abbrev N_law_word : List Str := ["_law_hand_here", "_law_q", "_law_n", "_law_k"]
abbrev P_law_word : List Str := ["_law_hand_here", "_law_q", "_law_n"]
theorem sc_law_word : FnScope N_law_word P_law_word (defScope s_law_word) := ⟨rfl, rfl, rfl, by decide +kernel, rfl, by decide +kernel, by decide +kernel⟩
abbrev D_law_word (K : PySem.W.Frag) (f : Addr) (fd : FuncData) : Prop := FunD K "_law_word" "_law_word" (defArgs s_law_word) (defBody s_law_word) (defScope s_law_word) [] [] f fd
abbrev s_law_runny : Stmt := top 17
abbrev N_law_runny : List Str := ["_law_hand_here", "_law_q", "_law_n", "_law_told", "_law_letter", "_law_k"]
abbrev P_law_runny : List Str := ["_law_hand_here", "_law_q", "_law_n"]
theorem sc_law_runny : FnScope N_law_runny P_law_runny (defScope s_law_runny) := ⟨rfl, rfl, rfl, by decide +kernel, rfl, by decide +kernel, by decide +kernel⟩
abbrev D_law_runny (K : PySem.W.Frag) (f : Addr) (fd : FuncData) : Prop := FunD K "_law_runny" "_law_runny" (defArgs s_law_runny) (defBody s_law_runny) (defScope s_law_runny) [] [] f fd
abbrev s_law_is_below : Stmt := top 18
abbrev N_law_is_below : List Str := ["_law_short", "_law_long", "_law_at", "_law_letter"]
abbrev P_law_is_below : List Str := ["_law_short", "_law_long"]
theorem sc_law_is_below : FnScope N_law_is_below P_law_is_below (defScope s_law_is_below) := ⟨rfl, rfl, rfl, by decide +kernel, rfl, by decide +kernel, by decide +kernel⟩
abbrev D_law_is_below (K : PySem.W.Frag) (f : Addr) (fd : FuncData) : Prop := FunD K "_law_is_below" "_law_is_below" (defArgs s_law_is_below) (defBody s_law_is_below) (defScope s_law_is_below) [] [] f fd
abbrev s_law_less_one : Stmt := top 19
abbrev N_law_less_one : List Str := ["_law_word_here", "_law_k"]
abbrev P_law_less_one : List Str := ["_law_word_here"]
theorem sc_law_less_one : FnScope N_law_less_one P_law_less_one (defScope s_law_less_one) := ⟨rfl, rfl, rfl, by decide +kernel, rfl, by decide +kernel, by decide +kernel⟩
abbrev D_law_less_one (K : PySem.W.Frag) (f : Addr) (fd : FuncData) : Prop := FunD K "_law_less_one" "_law_less_one" (defArgs s_law_less_one) (defBody s_law_less_one) (defScope s_law_less_one) [] [] f fd
abbrev s_law_rises : Stmt := top 20
abbrev N_law_rises : List Str := ["_law_word_here", "_law_k"]
abbrev P_law_rises : List Str := ["_law_word_here"]
theorem sc_law_rises : FnScope N_law_rises P_law_rises (defScope s_law_rises) := ⟨rfl, rfl, rfl, by decide +kernel, rfl, by decide +kernel, by decide +kernel⟩
abbrev D_law_rises (K : PySem.W.Frag) (f : Addr) (fd : FuncData) : Prop := FunD K "_law_rises" "_law_rises" (defArgs s_law_rises) (defBody s_law_rises) (defScope s_law_rises) [] [] f fd
abbrev s_law_rise_word : Stmt := top 21
abbrev N_law_rise_word : List Str := ["_law_word_here", "_law_k"]
abbrev P_law_rise_word : List Str := ["_law_word_here"]
theorem sc_law_rise_word : FnScope N_law_rise_word P_law_rise_word (defScope s_law_rise_word) := ⟨rfl, rfl, rfl, by decide +kernel, rfl, by decide +kernel, by decide +kernel⟩
abbrev D_law_rise_word (K : PySem.W.Frag) (f : Addr) (fd : FuncData) : Prop := FunD K "_law_rise_word" "_law_rise_word" (defArgs s_law_rise_word) (defBody s_law_rise_word) (defScope s_law_rise_word) [] [] f fd
abbrev s_law_is_word : Stmt := top 22
abbrev N_law_is_word : List Str := ["_law_thing", "_law_letter"]
abbrev P_law_is_word : List Str := ["_law_thing"]
theorem sc_law_is_word : FnScope N_law_is_word P_law_is_word (defScope s_law_is_word) := ⟨rfl, rfl, rfl, by decide +kernel, rfl, by decide +kernel, by decide +kernel⟩
abbrev D_law_is_word (K : PySem.W.Frag) (f : Addr) (fd : FuncData) : Prop := FunD K "_law_is_word" "_law_is_word" (defArgs s_law_is_word) (defBody s_law_is_word) (defScope s_law_is_word) [] [] f fd
abbrev s_law_rises_told : Stmt := top 23
abbrev N_law_rises_told : List Str := ["_law_word_here", "_law_places", "_law_total", "_law_rises_here"]
abbrev P_law_rises_told : List Str := ["_law_word_here"]
theorem sc_law_rises_told : FnScope N_law_rises_told P_law_rises_told (defScope s_law_rises_told) := ⟨rfl, rfl, rfl, by decide +kernel, rfl, by decide +kernel, by decide +kernel⟩
abbrev D_law_rises_told (K : PySem.W.Frag) (f : Addr) (fd : FuncData) : Prop := FunD K "_law_rises_told" "_law_rises_told" (defArgs s_law_rises_told) (defBody s_law_rises_told) (defScope s_law_rises_told) [] [] f fd
abbrev s_law_lost_below : Stmt := top 24
abbrev N_law_lost_below : List Str := ["_law_word_here", "_law_rises_here", "_law_less"]
abbrev P_law_lost_below : List Str := ["_law_word_here"]
theorem sc_law_lost_below : FnScope N_law_lost_below P_law_lost_below (defScope s_law_lost_below) := ⟨rfl, rfl, rfl, by decide +kernel, rfl, by decide +kernel, by decide +kernel⟩
abbrev D_law_lost_below (K : PySem.W.Frag) (f : Addr) (fd : FuncData) : Prop := FunD K "_law_lost_below" "_law_lost_below" (defArgs s_law_lost_below) (defBody s_law_lost_below) (defScope s_law_lost_below) [] [] f fd
abbrev s_law_put_unlike : Stmt := top 25
abbrev N_law_put_unlike : List Str := ["_law_word_here", "_law_letter", "_law_more", "_law_rises_here", "_law_one", "_law_k"]
abbrev P_law_put_unlike : List Str := ["_law_word_here", "_law_letter"]
theorem sc_law_put_unlike : FnScope N_law_put_unlike P_law_put_unlike (defScope s_law_put_unlike) := ⟨rfl, rfl, rfl, by decide +kernel, rfl, by decide +kernel, by decide +kernel⟩
abbrev D_law_put_unlike (K : PySem.W.Frag) (f : Addr) (fd : FuncData) : Prop := FunD K "_law_put_unlike" "_law_put_unlike" (defArgs s_law_put_unlike) (defBody s_law_put_unlike) (defScope s_law_put_unlike) [] [] f fd
abbrev s_law : Stmt := top 26
abbrev N_law : List Str := ["_law_script", "_law_hand_here", "_law_turn", "_law_q", "_law_n", "_law_word_here", "_law_letter"]
abbrev P_law : List Str := ["_law_script"]
theorem sc_law : FnScope N_law P_law (defScope s_law) := ⟨rfl, rfl, rfl, by decide +kernel, rfl, by decide +kernel, by decide +kernel⟩
abbrev D_law (K : PySem.W.Frag) (f : Addr) (fd : FuncData) : Prop := FunD K "law" "law" (defArgs s_law) (defBody s_law) (defScope s_law) [] [] f fd
structure Txt (K : PySem.W.Frag) (mg : Str → Option Value) : Prop where
  x_BadWord : FldExc K (He.ga K "BadWord") (He.ma K (He.ga K "BadWord") "__init__")
  n_BadWord_is_index : PySem.W.findIn K (.ref (He.ga K "BadWord")) "index" = some none
  z_isinstance : mg "isinstance" = none
  z_bool : mg "bool" = none
  z_int : mg "int" = none
  z_len : mg "len" = none
  z_list : mg "list" = none
  z_tuple : mg "tuple" = none
  g_BadWord : mg "BadWord" = some (.ref (He.ga K "BadWord"))
  z_enumerate : mg "enumerate" = none
  g_is_whole : mg "is_whole" = some (.ref (He.ga K "is_whole"))
  g_check_word : mg "check_word" = some (.ref (He.ga K "check_word"))
  c_MOST_HERE : ∃ t, mg "MOST_HERE" = some (.int 61 t)
  z_range : mg "range" = none
  z_sum : mg "sum" = none
  g_rises_of : mg "rises_of" = some (.ref (He.ga K "rises_of"))
  z_abs : mg "abs" = none
  g__law_mixed : mg "_law_mixed" = some (.ref (He.ga K "_law_mixed"))
  g__law_take : mg "_law_take" = some (.ref (He.ga K "_law_take"))
  g__law_word : mg "_law_word" = some (.ref (He.ga K "_law_word"))
  z_sorted : mg "sorted" = none
  z_set : mg "set" = none
  z_all : mg "all" = none
  g__law_whole : mg "_law_whole" = some (.ref (He.ga K "_law_whole"))
  g_rise_sum : mg "rise_sum" = some (.ref (He.ga K "rise_sum"))
  g_rise_word : mg "rise_word" = some (.ref (He.ga K "rise_word"))
  g__law_is_word : mg "_law_is_word" = some (.ref (He.ga K "_law_is_word"))
  g__law_rise_word : mg "_law_rise_word" = some (.ref (He.ga K "_law_rise_word"))
  g__law_rises : mg "_law_rises" = some (.ref (He.ga K "_law_rises"))
  g__law_less_one : mg "_law_less_one" = some (.ref (He.ga K "_law_less_one"))
  g__law_rises_told : mg "_law_rises_told" = some (.ref (He.ga K "_law_rises_told"))
  g__law_is_below : mg "_law_is_below" = some (.ref (He.ga K "_law_is_below"))
  g__law_hand : mg "_law_hand" = some (.ref (He.ga K "_law_hand"))
  g__law_runny : mg "_law_runny" = some (.ref (He.ga K "_law_runny"))
  g__law_lost_below : mg "_law_lost_below" = some (.ref (He.ga K "_law_lost_below"))
  g__law_put_unlike : mg "_law_put_unlike" = some (.ref (He.ga K "_law_put_unlike"))
  F_BadWord___init : ∃ fd, D_BadWord___init K (He.ma K (He.ga K "BadWord") "__init__") fd
  F_is_whole : ∃ fd, D_is_whole K (He.ga K "is_whole") fd
  F_check_word : ∃ fd, D_check_word K (He.ga K "check_word") fd
  F_rises_of : ∃ fd, D_rises_of K (He.ga K "rises_of") fd
  F_rise_word : ∃ fd, D_rise_word K (He.ga K "rise_word") fd
  F_rise_sum : ∃ fd, D_rise_sum K (He.ga K "rise_sum") fd
  F_law_hand : ∃ fd, D_law_hand K (He.ga K "_law_hand") fd
  F_law_mixed : ∃ fd, D_law_mixed K (He.ga K "_law_mixed") fd
  F_law_take : ∃ fd, D_law_take K (He.ga K "_law_take") fd
  F_law_whole : ∃ fd, D_law_whole K (He.ga K "_law_whole") fd
  F_law_word : ∃ fd, D_law_word K (He.ga K "_law_word") fd
  F_law_runny : ∃ fd, D_law_runny K (He.ga K "_law_runny") fd
  F_law_is_below : ∃ fd, D_law_is_below K (He.ga K "_law_is_below") fd
  F_law_less_one : ∃ fd, D_law_less_one K (He.ga K "_law_less_one") fd
  F_law_rises : ∃ fd, D_law_rises K (He.ga K "_law_rises") fd
  F_law_rise_word : ∃ fd, D_law_rise_word K (He.ga K "_law_rise_word") fd
  F_law_is_word : ∃ fd, D_law_is_word K (He.ga K "_law_is_word") fd
  F_law_rises_told : ∃ fd, D_law_rises_told K (He.ga K "_law_rises_told") fd
  F_law_lost_below : ∃ fd, D_law_lost_below K (He.ga K "_law_lost_below") fd
  F_law_put_unlike : ∃ fd, D_law_put_unlike K (He.ga K "_law_put_unlike") fd
  F_law : ∃ fd, D_law K (He.ga K "law") fd
theorem bd_BadWord___init {K : PySem.W.Frag} {f : Addr} {fd : FuncData} (F : D_BadWord___init K f fd) : Binds K fd P_BadWord___init [] := F.bindsN fun _ _ _ _ _ _ us hl => match us, hl with | [_, _], _ => rfl
theorem bd_rises_of {K : PySem.W.Frag} {f : Addr} {fd : FuncData} (F : D_rises_of K f fd) : Binds K fd P_rises_of [] := F.bindsN fun _ _ _ _ _ _ us hl => match us, hl with | [_], _ => rfl
theorem bd_rise_word {K : PySem.W.Frag} {f : Addr} {fd : FuncData} (F : D_rise_word K f fd) : Binds K fd P_rise_word [] := F.bindsN fun _ _ _ _ _ _ us hl => match us, hl with | [_], _ => rfl
theorem bd_rise_sum {K : PySem.W.Frag} {f : Addr} {fd : FuncData} (F : D_rise_sum K f fd) : Binds K fd P_rise_sum [] := F.bindsN fun _ _ _ _ _ _ us hl => match us, hl with | [_], _ => rfl
theorem bd_law_hand {K : PySem.W.Frag} {f : Addr} {fd : FuncData} (F : D_law_hand K f fd) : Binds K fd P_law_hand [] := F.bindsN fun _ _ _ _ _ _ us hl => match us, hl with | [_], _ => rfl
theorem bd_law_mixed {K : PySem.W.Frag} {f : Addr} {fd : FuncData} (F : D_law_mixed K f fd) : Binds K fd P_law_mixed [] := F.bindsN fun _ _ _ _ _ _ us hl => match us, hl with | [_, _], _ => rfl
theorem bd_law_take {K : PySem.W.Frag} {f : Addr} {fd : FuncData} (F : D_law_take K f fd) : Binds K fd P_law_take [] := F.bindsN fun _ _ _ _ _ _ us hl => match us, hl with | [_, _], _ => rfl
theorem bd_law_whole {K : PySem.W.Frag} {f : Addr} {fd : FuncData} (F : D_law_whole K f fd) : Binds K fd P_law_whole [] := F.bindsN fun _ _ _ _ _ _ us hl => match us, hl with | [_], _ => rfl
theorem bd_law_word {K : PySem.W.Frag} {f : Addr} {fd : FuncData} (F : D_law_word K f fd) : Binds K fd P_law_word [] := F.bindsN fun _ _ _ _ _ _ us hl => match us, hl with | [_, _, _], _ => rfl
theorem bd_law_runny {K : PySem.W.Frag} {f : Addr} {fd : FuncData} (F : D_law_runny K f fd) : Binds K fd P_law_runny [] := F.bindsN fun _ _ _ _ _ _ us hl => match us, hl with | [_, _, _], _ => rfl
theorem bd_law_is_below {K : PySem.W.Frag} {f : Addr} {fd : FuncData} (F : D_law_is_below K f fd) : Binds K fd P_law_is_below [] := F.bindsN fun _ _ _ _ _ _ us hl => match us, hl with | [_, _], _ => rfl
theorem bd_law_less_one {K : PySem.W.Frag} {f : Addr} {fd : FuncData} (F : D_law_less_one K f fd) : Binds K fd P_law_less_one [] := F.bindsN fun _ _ _ _ _ _ us hl => match us, hl with | [_], _ => rfl
theorem bd_law_rises {K : PySem.W.Frag} {f : Addr} {fd : FuncData} (F : D_law_rises K f fd) : Binds K fd P_law_rises [] := F.bindsN fun _ _ _ _ _ _ us hl => match us, hl with | [_], _ => rfl
theorem bd_law_rise_word {K : PySem.W.Frag} {f : Addr} {fd : FuncData} (F : D_law_rise_word K f fd) : Binds K fd P_law_rise_word [] := F.bindsN fun _ _ _ _ _ _ us hl => match us, hl with | [_], _ => rfl
theorem bd_law_is_word {K : PySem.W.Frag} {f : Addr} {fd : FuncData} (F : D_law_is_word K f fd) : Binds K fd P_law_is_word [] := F.bindsN fun _ _ _ _ _ _ us hl => match us, hl with | [_], _ => rfl
theorem bd_law_rises_told {K : PySem.W.Frag} {f : Addr} {fd : FuncData} (F : D_law_rises_told K f fd) : Binds K fd P_law_rises_told [] := F.bindsN fun _ _ _ _ _ _ us hl => match us, hl with | [_], _ => rfl
theorem bd_law_lost_below {K : PySem.W.Frag} {f : Addr} {fd : FuncData} (F : D_law_lost_below K f fd) : Binds K fd P_law_lost_below [] := F.bindsN fun _ _ _ _ _ _ us hl => match us, hl with | [_], _ => rfl
theorem bd_law_put_unlike {K : PySem.W.Frag} {f : Addr} {fd : FuncData} (F : D_law_put_unlike K f fd) : Binds K fd P_law_put_unlike [] := F.bindsN fun _ _ _ _ _ _ us hl => match us, hl with | [_, _], _ => rfl
theorem bd_law {K : PySem.W.Frag} {f : Addr} {fd : FuncData} (F : D_law K f fd) : Binds K fd P_law [] := F.bindsN fun _ _ _ _ _ _ us hl => match us, hl with | [_], _ => rfl
theorem bd_is_whole_3 {K : PySem.W.Frag} {f : Addr} {fd : FuncData} (F : D_is_whole K f fd) : ∃ ds, Vals [] ds ∧ Binds K fd P_is_whole ds := F.binds1 3 2 (by simp) rfl fun _ _ _ _ _ _ _ us its h1 h2 => match us, its, h1, h2 with | [_, _, _], [_, _], _, _ => ⟨_, rfl, rfl⟩
theorem bd_check_word_3 {K : PySem.W.Frag} {f : Addr} {fd : FuncData} (F : D_check_word K f fd) : ∃ ds, Vals [] ds ∧ Binds K fd P_check_word ds := F.binds1 3 1 (by simp) rfl fun _ _ _ _ _ _ _ us its h1 h2 => match us, its, h1, h2 with | [_, _, _], [_], _, _ => ⟨_, rfl, rfl⟩
end Mine

namespace Mine
open PySem PySem.Spec PyProof.Rows L2
local macro_rules | `(tactic| walk_at "rd") => `(tactic| try simp only [tMk1, iEnumA, iSeq, tPar3, tSeq, tAsg, tCB, tCons, tNil, tVar, tOp, tUn, rI, rI0, rU, gName, gNil, gCons, gSub, rSetL, tC, tRet, tRetN, tNext, tIfS, tTest, tB, tAnd, tOr, tNot, tAndV, tOrV, tNotV, tIf,
  tDrop, tCall, tCallS, tPar, tAug, ipI, tBreak, tCont, tTup, tLst, rEq_int, rNe_int, rEq_bl, rNe_bl, rEq_str, rNe_str, HO.lst.injEq, HO.tup.injEq, Bool.not_eq_true', decide_eq_false_iff_not, rIxH, rIxTH, rCat, tSl, tPart, tNoPart, tBM, rAppend, L2.start, tFor_eq, tLc_eq, iList, iTup, iRng1, iRng2, iEnum, iZip, cx_K, cx_prog, cx_w, cx_nK, forall_const, tYes, wipe, List.foldl_cons, List.foldl_nil, and_assoc, List.map_cons, List.map_nil, List.length_cons, List.length_nil, List.replicate, List.append_nil, List.cons_append, List.nil_append,
  List.getElem?_cons_zero, List.getElem?_cons_succ, List.set_cons_zero, List.set_cons_succ, Nat.zero_add, Nat.add_zero, Nat.reduceAdd, Nat.reduceSub, Option.some.injEq, V.int.injEq, V.bl.injEq, V.ref.injEq, V.str.injEq,
  List.cons.injEq, and_true, true_and, exists_eq_left, exists_eq_left', exists_eq_right, exists_const, exists_eq, exists_and_left, exists_and_right, upd_same, upd_upd, atI_0, atI_1, atI_2, atI_3, ixN_4_0, ixN_4_1, ixN_4_2, ixN_4_3, some_lst, some_tup, decide_eq_true_eq, reduceCtorEq,
  V.int.injEq, Bool.true_eq_false, Bool.false_eq_true, if_true, if_false, ite_true, ite_false, eq_self, not_true_eq_false, not_false_eq_true, decide_true, decide_false, Bool.not_true, Bool.not_false, false_and, and_false, exists_false])
local macro_rules | `(tactic| walk_at "mono") => `(tactic| repeat (first | with_reducible exact mon_var _ | with_reducible exact mon_c _ | with_reducible exact mon_rI _ _ | with_reducible exact mon_rI0 _ | with_reducible exact mon_rEq | with_reducible exact mon_rNe | with_reducible refine mon_test ?_ | with_reducible refine mon_op ?_ ?_ ?_ | with_reducible refine mon_and ?_ ?_ | with_reducible refine mon_or ?_ ?_ | with_reducible exact mon_rU _ | with_reducible refine mon_un ?_ ?_))
local macro_rules | `(tactic| walk_at "sd") => `(tactic| first | assumption | omega | (unfold CMul; omega) | (unfold CDiv; omega) | rfl | decide)
local macro_rules | `(tactic| walk_at "go") => `(tactic| repeat (refine And.intro (by first | assumption | omega | exact tyL (by assumption) | (unfold CMul; omega) | (unfold CDiv; omega) | rfl | decide) ?_))
/-- the hand at h: its cells at c -/
def HandAt (H : Hp) (h : Addr) : Prop := ∃ (c : Addr) (cells : List Int) (at_ : Nat) (big mix : Int), H h = some (.lst [.ref c, .int at_, .int big, .int mix]) ∧ H c = some (.lst (cells.map V.int)) ∧
  (∀ z ∈ cells, 0 ≤ z) ∧ at_ ≤ cells.length ∧ cells.length ≤ 63 ∧ 0 ≤ big ∧ 0 ≤ mix ∧ mix < 2147483563
def sp_hand (K : PySem.W.Frag) : Sp := fun vs H Q _ => ∃ (a : Addr) (ns : List Int), vs = [.ref a] ∧ SqL K H a (ns.map V.int) ∧ ns.length ≤ 63 ∧ ∀ H' h, Same H H' → H h = none → HandAt H' h → Q (.ref h) H'
def i_hand (H : Hp) (a c : Addr) (i : Nat) (σ : L2.St) (H' : Hp) : Prop := ∃ (tot : Int) (v3 : Option V) (cells : List Int), σ = [some (.ref a), some (.int tot), some (.ref c), v3] ∧ cells.length = i ∧ H' c = some (.lst (cells.map V.int)) ∧
  (∀ z ∈ cells, 0 ≤ z) ∧ Same H H' ∧ 0 ≤ tot ∧ tot < 2147483563
theorem ok_law_hand {P : Program} {w : World} {K : PySem.W.Frag} {mg : Str → Option Value} {base : Heap} (T : Txt K mg) : ∃ fd, FnOk P w K mg base CX0 1 (He.ga K "_law_hand") fd P_law_hand (sp_hand K) ∧ D_law_hand K (He.ga K "_law_hand") fd := by
  obtain ⟨fd, F⟩ := T.F_law_hand
  refine ⟨fd, F.ok sc_law_hand (fun vs H Q E h => ?_) (fun cdv A outer s H vs Q E hr h => ?_), F⟩
  · obtain ⟨a, ns, rfl, _⟩ := h
    rfl
  ·
    obtain ⟨a, ns, rfl, hS, hl, q⟩ := h
    refine ⟨_, PSs.nox (pss_cons (ps_set (i := 1) sc_law_hand.nd rfl (by first | exact Or.inl rfl | exact Or.inr rfl) (pe_op op_add (pe_callB call_len_seq (by rfl) T.z_len (by decide +kernel) (pa_cons (pv 0) pa_nil)) pe_int))
    (pss_cons (ps_set (i := 2) sc_law_hand.nd rfl (by first | exact Or.inl rfl | exact Or.inr rfl) (pe_lst pa_nil))
    (pss_cons (ps_for PassesOwn.never rfl (pi_list (pv 0)) (pg_name (i := 3) sc_law_hand.nd rfl (by first | exact Or.inl rfl | exact Or.inr rfl))
    (pss_cons (ps_set (i := 1) sc_law_hand.nd rfl (by first | exact Or.inl rfl | exact Or.inr rfl) (pe_op op_mod (pe_callTy call_intI (by rfl) T.z_int (by decide +kernel) (pa_cons (pe_op op_add (pe_op op_mul (pv 1) pe_int) (pe_callTy call_intI (by rfl) T.z_int (by decide +kernel) (pa_cons (pv 3) pa_nil))) pa_nil)) pe_int))
    (pss_one (ps_expr (pe_bm PySem.F.plainAttrs_list PySem.F.slot_list_append PySem.F.type_list_append mt_append (pv 2) (pa_cons (pe_callB call_abs (by rfl) T.z_abs (by decide +kernel) (pa_cons (pe_callTy call_intI (by rfl) T.z_int (by decide +kernel) (pa_cons (pv 3) pa_nil)) pa_nil)) pa_nil))))))
    (pss_one (ps_ret (pe_lst (pa_cons (pv 2) (pa_cons pe_int (pa_cons pe_int (pa_cons (pv 1) pa_nil)))))))))), ?_⟩
    walk_at "rd"
    refine ⟨ns.map V.int, .inl hS, by decide, fun c hc => ⟨⟨_, (same_upd hc).seq hS⟩, ?_⟩⟩
    refine Loop.by (walk_list (xs := ns.map V.int)) (i_hand H a c) ⟨_, none, [], rfl, rfl, upd_same, by simp, same_upd hc, by omega, by rw [List.length_map]; omega⟩
      (fun i σ H' _ ⟨_, _, _, _, _, _, _, sm, _⟩ => sm.seq hS) ?_ ?_
    · rintro i x σ H' H'' hi ⟨tot, v3, cells, rfl, hz, hc', hp, sm, h0, h1⟩ ⟨rfl, hx⟩
      rw [List.length_map] at hi
      rw [List.getElem?_map, List.getElem?_eq_getElem hi] at hx
      obtain rfl := Option.some.inj hx
      walk_at "rd"
      walk_at "go"
      refine ⟨_, hc', by rw [List.length_map]; exact small1000 (by omega), _, _, cells ++ [if ns[i] < 0 then -ns[i] else ns[i]], rfl, by simp [hz], by rw [upd_same, List.map_append]; rfl, ?_, ?_, by omega, by omega⟩
      · intro z hz
        rcases List.mem_append.mp hz with h | h
        · exact hp z h
        · rw [List.mem_singleton] at h; rw [h]; split <;> omega
      · intro b o e
        rw [upd_ne (ne_of_none e hc)]; exact sm b o e
    · rintro σ H' ⟨tot, v3, cells, rfl, hz, hc', hp, sm, h0, h1⟩
      walk_at "rd"
      rw [List.length_map] at hz
      refine ⟨by decide, fun p hp' => q _ p (sm.trans (same_upd hp')) (sm.free hp') ⟨c, cells, 0, 0, tot, upd_same, ?_, hp, by omega, by omega, by omega, h0, h1⟩⟩
      rw [upd_ne (ne_of_none hc' hp')]; exact hc'
end Mine

namespace Mine
open PySem PySem.Spec PyProof.Rows L2
local macro_rules | `(tactic| walk_at "rd") => `(tactic| try simp only [tMk1, iEnumA, iSeq, tPar3, tSeq, tAsg, tCB, tCons, tNil, tVar, tOp, tUn, rI, rI0, rU, gName, gNil, gCons, gSub, rSetL, tC, tRet, tRetN, tNext, tIfS, tTest, tB, tAnd, tOr, tNot, tAndV, tOrV, tNotV, tIf,
  tDrop, tCall, tCallS, tPar, tAug, ipI, tBreak, tCont, tTup, tLst, rEq_int, rNe_int, rEq_bl, rNe_bl, rEq_str, rNe_str, HO.lst.injEq, HO.tup.injEq, Bool.not_eq_true', decide_eq_false_iff_not, rIxH, rIxTH, rCat, tSl, tPart, tNoPart, tBM, rAppend, L2.start, tFor_eq, tLc_eq, iList, iTup, iRng1, iRng2, iEnum, iZip, cx_K, cx_prog, cx_w, cx_nK, forall_const, tYes, wipe, List.foldl_cons, List.foldl_nil, and_assoc, List.map_cons, List.map_nil, List.length_cons, List.length_nil, List.replicate, List.append_nil, List.cons_append, List.nil_append,
  List.getElem?_cons_zero, List.getElem?_cons_succ, List.set_cons_zero, List.set_cons_succ, Nat.zero_add, Nat.add_zero, Nat.reduceAdd, Nat.reduceSub, Option.some.injEq, V.int.injEq, V.bl.injEq, V.ref.injEq, V.str.injEq,
  List.cons.injEq, and_true, true_and, exists_eq_left, exists_eq_left', exists_eq_right, exists_const, exists_eq, exists_and_left, exists_and_right, upd_same, upd_upd, atI_0, atI_1, atI_2, atI_3, ixN_4_0, ixN_4_1, ixN_4_2, ixN_4_3, some_lst, some_tup, decide_eq_true_eq, reduceCtorEq,
  V.int.injEq, Bool.true_eq_false, Bool.false_eq_true, if_true, if_false, ite_true, ite_false, eq_self, not_true_eq_false, not_false_eq_true, decide_true, decide_false, Bool.not_true, Bool.not_false, false_and, and_false, exists_false])
local macro_rules | `(tactic| walk_at "mono") => `(tactic| repeat (first | with_reducible exact mon_var _ | with_reducible exact mon_c _ | with_reducible exact mon_rI _ _ | with_reducible exact mon_rI0 _ | with_reducible exact mon_rEq | with_reducible exact mon_rNe | with_reducible refine mon_test ?_ | with_reducible refine mon_op ?_ ?_ ?_ | with_reducible refine mon_and ?_ ?_ | with_reducible refine mon_or ?_ ?_ | with_reducible exact mon_rU _ | with_reducible refine mon_un ?_ ?_))
local macro_rules | `(tactic| walk_at "sd") => `(tactic| first | assumption | omega | (unfold CMul; omega) | (unfold CDiv; omega) | rfl | decide)
local macro_rules | `(tactic| walk_at "go") => `(tactic| repeat (refine And.intro (by first | assumption | omega | exact tyL (by assumption) | (unfold CMul; omega) | (unfold CDiv; omega) | rfl | decide) ?_))
def mixedN (n t : Int) : Int :=
  ((((n * 39373 + t * 6151 + 50021) % 2147483399 * ((n * 39373 + t * 6151 + 50021) % 2147483399) + t * 81071 + (n * 39373 + t * 6151 + 50021) % 2147483399 / 137) % 2147483629 * 62089 +
    (n * 39373 + t * 6151 + 50021) % 2147483399 / 11) % 2147483587) / 64
theorem mixedN_pos (n t : Int) : 0 ≤ mixedN n t := Int.ediv_nonneg (Int.emod_nonneg _ (by decide)) (by decide)
def sp_mixed : Sp := fun vs H Q _ => ∃ n t : Int, vs = [.int n, .int t] ∧ (-(2 ^ 40) < n ∧ n < 2 ^ 40 ∧ -(2 ^ 40) < t ∧ t < 2 ^ 40) ∧ ∀ r, 0 ≤ r → Q (.int r) H
theorem ok_law_mixed {P : Program} {w : World} {K : PySem.W.Frag} {mg : Str → Option Value} {base : Heap} (T : Txt K mg) : ∃ fd, FnOk P w K mg base CX0 1 (He.ga K "_law_mixed") fd P_law_mixed sp_mixed ∧ D_law_mixed K (He.ga K "_law_mixed") fd := by
  obtain ⟨fd, F⟩ := T.F_law_mixed
  refine ⟨fd, F.ok sc_law_mixed (fun vs H Q E h => ?_) (fun cdv A outer s H vs Q E hr h => ?_), F⟩
  · obtain ⟨n, t, rfl, _⟩ := h
    rfl
  ·
    obtain ⟨n, t, rfl, ⟨h1, h2, h3, h4⟩, q⟩ := h
    refine ⟨_, PSs.nox (pss_cons (ps_set (i := 2) sc_law_mixed.nd rfl (by first | exact Or.inl rfl | exact Or.inr rfl) (pe_op op_mod (pe_callTy call_intI (by rfl) T.z_int (by decide +kernel) (pa_cons (pe_op op_add (pe_op op_add (pe_op op_mul (pv 0) pe_int) (pe_op op_mul (pv 1) pe_int)) pe_int) pa_nil)) pe_int))
    (pss_cons (ps_set (i := 3) sc_law_mixed.nd rfl (by first | exact Or.inl rfl | exact Or.inr rfl) (pe_op op_mod (pe_callTy call_intI (by rfl) T.z_int (by decide +kernel) (pa_cons (pe_op op_add (pe_op op_add (pe_op op_mul (pv 2) (pv 2)) (pe_op op_mul (pv 1) pe_int)) (pe_op op_fdiv (pv 2) pe_int)) pa_nil)) pe_int))
    (pss_one (ps_ret (pe_op op_fdiv (pe_callTy call_intI (by rfl) T.z_int (by decide +kernel) (pa_cons (pe_op op_mod (pe_callTy call_intI (by rfl) T.z_int (by decide +kernel) (pa_cons (pe_op op_add (pe_op op_mul (pv 3) pe_int) (pe_op op_fdiv (pv 2) pe_int)) pa_nil)) pe_int) pa_nil)) pe_int))))), ?_⟩
    walk_at "rd"
    walk_at "go"
    exact q _ (mixedN_pos n t)
end Mine

namespace Mine
open PySem PySem.Spec PyProof.Rows L2
local macro_rules | `(tactic| walk_at "rd") => `(tactic| try simp only [tMk1, iEnumA, iSeq, tPar3, tSeq, tAsg, tCB, tCons, tNil, tVar, tOp, tUn, rI, rI0, rU, gName, gNil, gCons, gSub, rSetL, tC, tRet, tRetN, tNext, tIfS, tTest, tB, tAnd, tOr, tNot, tAndV, tOrV, tNotV, tIf,
  tDrop, tCall, tCallS, tPar, tAug, ipI, tBreak, tCont, tTup, tLst, rEq_int, rNe_int, rEq_bl, rNe_bl, rEq_str, rNe_str, HO.lst.injEq, HO.tup.injEq, Bool.not_eq_true', decide_eq_false_iff_not, rIxH, rIxTH, rCat, tSl, tPart, tNoPart, tBM, rAppend, L2.start, tFor_eq, tLc_eq, iList, iTup, iRng1, iRng2, iEnum, iZip, cx_K, cx_prog, cx_w, cx_nK, forall_const, tYes, wipe, List.foldl_cons, List.foldl_nil, and_assoc, List.map_cons, List.map_nil, List.length_cons, List.length_nil, List.replicate, List.append_nil, List.cons_append, List.nil_append,
  List.getElem?_cons_zero, List.getElem?_cons_succ, List.set_cons_zero, List.set_cons_succ, Nat.zero_add, Nat.add_zero, Nat.reduceAdd, Nat.reduceSub, Option.some.injEq, V.int.injEq, V.bl.injEq, V.ref.injEq, V.str.injEq,
  List.cons.injEq, and_true, true_and, exists_eq_left, exists_eq_left', exists_eq_right, exists_const, exists_eq, exists_and_left, exists_and_right, upd_same, upd_upd, atI_0, atI_1, atI_2, atI_3, ixN_4_0, ixN_4_1, ixN_4_2, ixN_4_3, some_lst, some_tup, decide_eq_true_eq, reduceCtorEq,
  V.int.injEq, Bool.true_eq_false, Bool.false_eq_true, if_true, if_false, ite_true, ite_false, eq_self, not_true_eq_false, not_false_eq_true, decide_true, decide_false, Bool.not_true, Bool.not_false, false_and, and_false, exists_false])
local macro_rules | `(tactic| walk_at "mono") => `(tactic| repeat (first | with_reducible exact mon_var _ | with_reducible exact mon_c _ | with_reducible exact mon_rI _ _ | with_reducible exact mon_rI0 _ | with_reducible exact mon_rEq | with_reducible exact mon_rNe | with_reducible refine mon_test ?_ | with_reducible refine mon_op ?_ ?_ ?_ | with_reducible refine mon_and ?_ ?_ | with_reducible refine mon_or ?_ ?_ | with_reducible exact mon_rU _ | with_reducible refine mon_un ?_ ?_))
local macro_rules | `(tactic| walk_at "sd") => `(tactic| first | assumption | omega | (unfold CMul; omega) | (unfold CDiv; omega) | rfl | decide)
local macro_rules | `(tactic| walk_at "go") => `(tactic| repeat (refine And.intro (by first | assumption | omega | exact tyL (by assumption) | (unfold CMul; omega) | (unfold CDiv; omega) | rfl | decide) ?_))
-- needs: law_hand
/-- what a drawing may make of the hand -/
def HandN (H : Hp) (h : Addr) (o : HO) : Prop := HandAt (upd H h o) h ∧ ∃ c r r', H h = some (.lst (V.ref c :: r)) ∧ o = .lst (V.ref c :: r')
def sp_take : Sp := fun vs H Q _ => ∃ (h : Addr) (m : Int), vs = [.ref h, .int m] ∧ HandAt H h ∧ 0 < m ∧ m < 1073741824 ∧ ∀ r o, 0 ≤ r → r < m → HandN H h o → Q (.int r) (upd H h o)
/-- what a drawing changes: the hand alone; new things may stand -/
structure Aft (h : Addr) (H H' : Hp) : Prop where
  hand : HandAt H' h
  keep : ∀ b o, b ≠ h → H b = some o → H' b = some o
  cell : ∀ c r, H h = some (.lst (V.ref c :: r)) → ∃ r', H' h = some (.lst (V.ref c :: r'))
theorem Aft.free {h : Addr} {H H' : Hp} (a : Aft h H H') {p : Addr} (hp : H' p = none) : H p = none := by
  cases e : H p with
  | none => rfl
  | some o =>
    by_cases hb : p = h
    · obtain ⟨c, cells, _, _, _, q, _⟩ := a.hand
      rw [hb, q] at hp; cases hp
    · rw [a.keep p o hb e] at hp; cases hp
theorem Aft.trans {h : Addr} {H H1 H2 : Hp} (a : Aft h H H1) (b : Aft h H1 H2) : Aft h H H2 := ⟨b.hand, fun c o n e => b.keep c o n (a.keep c o n e), fun c r e => let ⟨_, e'⟩ := a.cell c r e; b.cell c _ e'⟩
theorem HandAt.same {H H' : Hp} {h : Addr} (x : HandAt H h) (s : Same H H') : HandAt H' h := by
  obtain ⟨c, cells, at_, big, mix, a, b, r⟩ := x
  exact ⟨c, cells, at_, big, mix, s _ _ a, s _ _ b, r⟩
theorem Aft.same {h : Addr} {H H1 H2 : Hp} (a : Aft h H H1) (s : Same H1 H2) : Aft h H H2 := ⟨a.hand.same s, fun c o n e => s _ _ (a.keep c o n e), fun c r e => let ⟨r', e'⟩ := a.cell c r e; ⟨r', s _ _ e'⟩⟩
theorem Aft.of_same {h : Addr} {H H1 : Hp} (x : HandAt H h) (s : Same H H1) : Aft h H H1 := ⟨x.same s, fun c o _ e => s _ _ e, fun c r e => ⟨r, s _ _ e⟩⟩
theorem Aft.refl {h : Addr} {H : Hp} (x : HandAt H h) : Aft h H H := ⟨x, fun _ _ _ e => e, fun c r e => ⟨r, e⟩⟩
theorem HandAt.some {H : Hp} {h : Addr} (x : HandAt H h) : ∃ o, H h = some o := by
  obtain ⟨c, cells, at_, big, mix, a, _⟩ := x
  exact ⟨_, a⟩
/-- a thing of one's own, laid since, is written -/
theorem Aft.upd {h D : Addr} {H H' : Hp} {o : HO} (a : Aft h H H') (x : HandAt H h) (hD : H D = none) : Aft h H (upd H' D o) := by
  obtain ⟨c, cells, at_, big, mix, hh, hc, _⟩ := x
  have nh : h ≠ D := ne_of_none hh hD
  have nc : c ≠ D := ne_of_none hc hD
  obtain ⟨r', e'⟩ := a.cell c _ hh
  refine ⟨?_, fun b o' n e => by rw [upd_ne (ne_of_none e hD)]; exact a.keep b o' n e, fun c' r e => ?_⟩
  · obtain ⟨c2, cells2, at2, big2, mix2, hh2, hc2, z⟩ := a.hand
    rw [hh2] at e'
    cases e'
    exact ⟨c, cells2, at2, big2, mix2, by rw [upd_ne nh]; exact hh2, by rw [upd_ne nc]; exact hc2, z⟩
  · rw [upd_ne nh]; exact a.cell c' r e
/-- the use of a drawing -/
theorem take_use {H : Hp} {h : Addr} {m : Int} {Q : VK} {E : XK} (x : HandAt H h) (h1 : 0 < m) (h2 : m < 1073741824) (q : ∀ (r : Nat) H', r < m → Aft h H H' → Q (.int r) H') : sp_take [V.ref h, V.int m] H Q E :=
  ⟨h, m, rfl, x, h1, h2, fun r o r1 r2 hx => by
    have := q r.toNat (upd H h o) (by omega) ⟨hx.1, fun b o' n e => by rw [upd_ne n]; exact e, fun c r e => by
      obtain ⟨c', r1, r2, e1, rfl⟩ := hx.2
      rw [e1] at e
      cases e
      exact ⟨r2, upd_same⟩⟩
    rwa [Int.toNat_of_nonneg r1] at this⟩
theorem ok_law_take {P : Program} {w : World} {K : PySem.W.Frag} {mg : Str → Option Value} {base : Heap} (T : Txt K mg) : ∃ fd, FnOk P w K mg base CX0 2 (He.ga K "_law_take") fd P_law_take sp_take ∧ D_law_take K (He.ga K "_law_take") fd := by
  obtain ⟨fd, F⟩ := T.F_law_take
  obtain ⟨fd_law_mixed, G_law_mixed, D_law_mixed⟩ := ok_law_mixed (P := P) (w := w) (base := base) T
  have k_law_mixed := D_law_mixed.kp
  have b_law_mixed := bd_law_mixed D_law_mixed
  refine ⟨fd, F.ok sc_law_take (fun vs H Q E h => ?_) (fun cdv A outer s H vs Q E hr h => ?_), F⟩
  · obtain ⟨h, m, rfl, _⟩ := h
    rfl
  ·
    obtain ⟨h, m, rfl, ⟨c, cells, at_, big, mix, hH, hC, hp, ha, hl, hb, hm, hm2⟩, h1, h2, q⟩ := h
    have hc : c ≠ h := ne_of hC hH (by
      intro z
      cases cells with
      | nil => cases z
      | cons x r => cases z)
    have k : ∀ xs, upd H h (.lst xs) c = some (.lst (cells.map V.int)) := fun xs => by rw [upd_ne hc]; exact hC
    have key : ∀ (ai : Int) (a2 : Nat) (b2 m2 : Int), ai = a2 → a2 ≤ cells.length → 0 ≤ b2 → 0 ≤ m2 → m2 < 2147483563 → HandN H h (.lst [.ref c, .int ai, .int b2, .int m2]) :=
      fun ai a2 b2 m2 e x1 x2 x3 x4 => ⟨⟨c, cells, a2, b2, m2, by rw [upd_same, e], k _, hp, x1, hl, x2, x3, x4⟩, c, _, _, hH, rfl⟩
    have emod : ∀ z : Int, 0 ≤ z % m ∧ z % m < m := fun z => ⟨Int.emod_nonneg _ (by omega), Int.emod_lt_of_pos _ h1⟩
    have ediv : ∀ z : Int, 0 ≤ z → 0 ≤ z / m := fun z hz => Int.ediv_nonneg hz (by omega)
    have fresh : ∀ (ai : Int) (a2 : Nat) (b2 : Int), ai = a2 → a2 ≤ cells.length → 0 ≤ b2 → (0 : Int) < 2147483549 ∧ sp_mixed [V.int ((mix + 1) % 2147483549), V.int ai] (upd H h (.lst [.ref c, .int ai, .int b2, .int ((mix + 1) % 2147483549)]))
        (fun x H1 => ∃ i, x = V.int i ∧ 0 < m ∧ Q (V.int (i % m)) H1) E0 := fun ai a2 b2 e x1 x2 => by
      refine ⟨by decide, _, _, rfl, by omega, fun r hr => ⟨r, rfl, h1, q _ _ (emod r).1 (emod r).2 (key ai a2 b2 _ e x1 x2 (by omega) (by omega))⟩⟩
    refine ⟨_, PSs.nox (pss_cons (ps_if (PW.pt (pw_and (pt_cmpR op_eq (pe_ix ix_H (pv 0) pe_int (fun _ _ => rfl)) pe_int (nomark _)) (pw_and1 (pt_cmpR op_lt (pe_ix ix_H (pv 0) pe_int (fun _ _ => rfl)) (pe_callB call_lenL (by rfl) T.z_len (by decide +kernel) (pa_cons (pe_ix ix_H (pv 0) pe_int (fun _ _ => rfl)) pa_nil)) (nomark _)))))
    (pss_cons (ps_set (i := 2) sc_law_take.nd rfl (by first | exact Or.inl rfl | exact Or.inr rfl) (pe_ix ix_H (pe_ix ix_H (pv 0) pe_int (fun _ _ => rfl)) (pe_ix ix_H (pv 0) pe_int (fun _ _ => rfl)) (fun _ _ => rfl)))
    (pss_cons (ps_asg (pe_op op_add (pe_ix ix_H (pv 0) pe_int (fun _ _ => rfl)) pe_int) (pg_sub (pv 0) pe_int set_list))
    (pss_cons (ps_if (pt_cmpR op_lt (pv 2) (pe_op op_pow pe_int pe_int) (nomark _))
    (pss_one (ps_ret (pe_op op_mod (pe_callTy call_intI (by rfl) T.z_int (by decide +kernel) (pa_cons (pe_call G_law_mixed (hr.mono (by decide)) rfl T.g__law_mixed k_law_mixed b_law_mixed .nil pass0 (pa_cons (pe_op op_mod (pe_callTy call_intI (by rfl) T.z_int (by decide +kernel) (pa_cons (pv 2) pa_nil)) pe_int) (pa_cons (pe_ix ix_H (pv 0) pe_int (fun _ _ => rfl)) pa_nil))) pa_nil)) (pv 1))))
    pss_nil)
    (pss_one (ps_asg (pv 2) (pg_sub (pv 0) pe_int set_list))))))
    pss_nil)
    (pss_cons (ps_if (pt_cmpR op_gt (pe_ix ix_H (pv 0) pe_int (fun _ _ => rfl)) pe_int (nomark _))
    (pss_cons (ps_set (i := 3) sc_law_take.nd rfl (by first | exact Or.inl rfl | exact Or.inr rfl) (pe_ix ix_H (pv 0) pe_int (fun _ _ => rfl)))
    (pss_cons (ps_asg (pe_op op_fdiv (pe_callTy call_intI (by rfl) T.z_int (by decide +kernel) (pa_cons (pv 3) pa_nil)) (pv 1)) (pg_sub (pv 0) pe_int set_list))
    (pss_one (ps_ret (pe_op op_mod (pe_callTy call_intI (by rfl) T.z_int (by decide +kernel) (pa_cons (pv 3) pa_nil)) (pv 1))))))
    pss_nil)
    (pss_cons (ps_asg (pe_op op_mod (pe_callTy call_intI (by rfl) T.z_int (by decide +kernel) (pa_cons (pe_op op_add (pe_ix ix_H (pv 0) pe_int (fun _ _ => rfl)) pe_int) pa_nil)) pe_int) (pg_sub (pv 0) pe_int set_list))
    (pss_one (ps_ret (pe_op op_mod (pe_callTy call_intI (by rfl) T.z_int (by decide +kernel) (pa_cons (pe_call G_law_mixed (hr.mono (by decide)) rfl T.g__law_mixed k_law_mixed b_law_mixed .nil pass0 (pa_cons (pe_ix ix_H (pv 0) pe_int (fun _ _ => rfl)) (pa_cons (pe_ix ix_H (pv 0) pe_int (fun _ _ => rfl)) pa_nil))) pa_nil)) (pv 1))))))), ?_⟩
    simp only [tMk1, iEnumA, iSeq, tPar3, tSeq, tAsg, tCB, tCons, tNil, tVar, tOp, tUn, rI, rI0, rU, gName, gNil, gCons, gSub, rSetL, tC, tRet, tRetN, tNext, tIfS, tTest, tB, tAnd, tOr, tNot, tAndV, tOrV, tNotV, tIf,
  tDrop, tCall, tCallS, tPar, tAug, ipI, tBreak, tCont, tTup, tLst, rEq_int, rNe_int, rEq_bl, rNe_bl, rEq_str, rNe_str, HO.lst.injEq, HO.tup.injEq, Bool.not_eq_true', decide_eq_false_iff_not, rIxH, rIxTH, rCat, tSl, tPart, tNoPart, tBM, rAppend, L2.start, tFor_eq, tLc_eq, iList, iTup, iRng1, iRng2, iEnum, iZip, cx_K, cx_prog, cx_w, cx_nK, forall_const, tYes, wipe, List.foldl_cons, List.foldl_nil, and_assoc, List.map_cons, List.map_nil, List.length_cons, List.length_nil, List.replicate, List.append_nil, List.cons_append, List.nil_append,
  List.getElem?_cons_zero, List.getElem?_cons_succ, List.set_cons_zero, List.set_cons_succ, Nat.zero_add, Nat.add_zero, Nat.reduceAdd, Nat.reduceSub, Option.some.injEq, V.int.injEq, V.bl.injEq, V.ref.injEq, V.str.injEq,
  List.cons.injEq, and_true, true_and, exists_eq_left, exists_eq_left', exists_eq_right, exists_const, exists_eq, exists_and_left, exists_and_right, upd_same, upd_upd, atI_0, atI_1, atI_2, atI_3, ixN_4_0, ixN_4_1, ixN_4_2, ixN_4_3, some_lst, some_tup, decide_eq_true_eq, reduceCtorEq,
  V.int.injEq, Bool.true_eq_false, Bool.false_eq_true, if_true, if_false, ite_true, ite_false, eq_self, not_true_eq_false, not_false_eq_true, decide_true, decide_false, Bool.not_true, Bool.not_false, false_and, and_false, exists_false, hH, hC]
    have old : if 0 < big then CDiv big m ∧ 0 < m ∧ Q (V.int (big % m)) (upd H h (HO.lst [V.ref c, V.int ↑at_, V.int (big / m), V.int mix]))
        else (0 : Int) < 2147483549 ∧ sp_mixed [V.int ((mix + 1) % 2147483549), V.int ↑at_] (upd H h (HO.lst [V.ref c, V.int ↑at_, V.int big, V.int ((mix + 1) % 2147483549)])) (fun x H1 => ∃ i, x = V.int i ∧ 0 < m ∧ Q (V.int (i % m)) H1) E0 :=
      ite2 (fun _ => ⟨⟨h1, h2⟩, h1, q _ _ (emod big).1 (emod big).2 (key _ at_ _ _ rfl ha (ediv _ hb) hm hm2)⟩) (fun _ => fresh _ at_ _ rfl ha hb)
    refine ite2 (fun _ => ite2 (fun e => ?_) (fun _ => old)) (fun _ => old)
    have hlt : at_ < cells.length := by rw [List.length_map] at e; omega
    have hz := hp cells[at_] (List.getElem_mem hlt)
    refine ⟨.int cells[at_], atI_nat (by rw [List.getElem?_map, List.getElem?_eq_getElem hlt]; rfl), ⟨by decide, by decide, by decide⟩, _, rfl, ite2 (fun e2 => ?_) (fun e2 => ?_)⟩
    · refine ⟨_, rfl, by decide, _, _, rfl, by omega, fun r hr => ⟨r, rfl, h1, q _ _ (emod r).1 (emod r).2 (key _ (at_ + 1) _ _ (by omega) (by omega) hb hm hm2)⟩⟩
    · refine ⟨_, rfl, ite2 (fun e3 => ?_) (fun e3 => fresh _ (at_ + 1) _ (by omega) (by omega) hz)⟩
      exact ⟨_, rfl, ⟨h1, h2⟩, _, rfl, h1, q _ _ (emod _).1 (emod _).2 (key _ (at_ + 1) _ _ (by omega) (by omega) (ediv _ hz) hm hm2)⟩
end Mine

namespace Mine
open PySem PySem.Spec PyProof.Rows L2
local macro_rules | `(tactic| walk_at "rd") => `(tactic| try simp only [tMk1, iEnumA, iSeq, tPar3, tSeq, tAsg, tCB, tCons, tNil, tVar, tOp, tUn, rI, rI0, rU, gName, gNil, gCons, gSub, rSetL, tC, tRet, tRetN, tNext, tIfS, tTest, tB, tAnd, tOr, tNot, tAndV, tOrV, tNotV, tIf,
  tDrop, tCall, tCallS, tPar, tAug, ipI, tBreak, tCont, tTup, tLst, rEq_int, rNe_int, rEq_bl, rNe_bl, rEq_str, rNe_str, HO.lst.injEq, HO.tup.injEq, Bool.not_eq_true', decide_eq_false_iff_not, rIxH, rIxTH, rCat, tSl, tPart, tNoPart, tBM, rAppend, L2.start, tFor_eq, tLc_eq, iList, iTup, iRng1, iRng2, iEnum, iZip, cx_K, cx_prog, cx_w, cx_nK, forall_const, tYes, wipe, List.foldl_cons, List.foldl_nil, and_assoc, List.map_cons, List.map_nil, List.length_cons, List.length_nil, List.replicate, List.append_nil, List.cons_append, List.nil_append,
  List.getElem?_cons_zero, List.getElem?_cons_succ, List.set_cons_zero, List.set_cons_succ, Nat.zero_add, Nat.add_zero, Nat.reduceAdd, Nat.reduceSub, Option.some.injEq, V.int.injEq, V.bl.injEq, V.ref.injEq, V.str.injEq,
  List.cons.injEq, and_true, true_and, exists_eq_left, exists_eq_left', exists_eq_right, exists_const, exists_eq, exists_and_left, exists_and_right, upd_same, upd_upd, atI_0, atI_1, atI_2, atI_3, ixN_4_0, ixN_4_1, ixN_4_2, ixN_4_3, some_lst, some_tup, decide_eq_true_eq, reduceCtorEq,
  V.int.injEq, Bool.true_eq_false, Bool.false_eq_true, if_true, if_false, ite_true, ite_false, eq_self, not_true_eq_false, not_false_eq_true, decide_true, decide_false, Bool.not_true, Bool.not_false, false_and, and_false, exists_false])
local macro_rules | `(tactic| walk_at "mono") => `(tactic| repeat (first | with_reducible exact mon_var _ | with_reducible exact mon_c _ | with_reducible exact mon_rI _ _ | with_reducible exact mon_rI0 _ | with_reducible exact mon_rEq | with_reducible exact mon_rNe | with_reducible refine mon_test ?_ | with_reducible refine mon_op ?_ ?_ ?_ | with_reducible refine mon_and ?_ ?_ | with_reducible refine mon_or ?_ ?_ | with_reducible exact mon_rU _ | with_reducible refine mon_un ?_ ?_))
local macro_rules | `(tactic| walk_at "sd") => `(tactic| first | assumption | omega | (unfold CMul; omega) | (unfold CDiv; omega) | rfl | decide)
local macro_rules | `(tactic| walk_at "go") => `(tactic| repeat (refine And.intro (by first | assumption | omega | exact tyL (by assumption) | (unfold CMul; omega) | (unfold CDiv; omega) | rfl | decide) ?_))
-- needs: law_take
/-- a drawn word -/
def sp_law_word : Sp := fun vs H Q _ => ∃ (h : Addr) (m : Int) (n : Nat), vs = [.ref h, .int m, .int n] ∧ HandAt H h ∧ 0 < m ∧ m < 1073741824 ∧ n ≤ 1000 ∧
  ∀ p w H', TS.Bd m w → w.length = n → Aft h H H' → H' p = some (.tup (w.map V.int)) → p ≠ h → Q (.ref p) H'
def i_word (H : Hp) (h D : Addr) (m : Int) (i : Nat) (H' : Hp) : Prop := ∃ w : List Int, Aft h H H' ∧ TS.Bd m w ∧ w.length = i ∧ H' D = some (.lst (w.map V.int))
theorem ok_law_word {P : Program} {w : World} {K : PySem.W.Frag} {mg : Str → Option Value} {base : Heap} (T : Txt K mg) : ∃ fd, FnOk P w K mg base CX0 3 (He.ga K "_law_word") fd P_law_word sp_law_word ∧ D_law_word K (He.ga K "_law_word") fd := by
  obtain ⟨fd, F⟩ := T.F_law_word
  obtain ⟨fd_law_take, G_law_take, D_law_take⟩ := ok_law_take (P := P) (w := w) (base := base) T
  have k_law_take := D_law_take.kp
  have b_law_take := bd_law_take D_law_take
  refine ⟨fd, F.ok sc_law_word (fun vs H Q E h => ?_) (fun cdv A outer s H vs Q E hr h => ?_), F⟩
  · obtain ⟨h, m, n, rfl, _⟩ := h
    rfl
  ·
    obtain ⟨h, m, n, rfl, hH, m0, m1, hn, q⟩ := h
    refine ⟨_, PSs.nox (pss_one (ps_ret (pe_callTy call_tupL (by rfl) T.z_tuple (by decide +kernel) (pa_cons (pe_lc (own := [("_law_k", 3)]) rfl sc_law_word.nd (pi_range1 (by rfl) T.z_range (pa_cons (pv 2) pa_nil)) (blkOk_by (own := [("_law_k", 3)]) (N := N_law_word) (sc := defScope s_law_word) (by decide +kernel)) (fun _ _ _ _ _ => (pg_name (i := 3) sc_law_word.nd rfl (by first | exact Or.inl rfl | exact Or.inr rfl))) (fun _ _ _ _ _ => pts_nil) (fun _ _ _ _ _ => (pe_call G_law_take (hr.mono (by decide)) rfl T.g__law_take k_law_take b_law_take .nil pass0 (pa_cons (pv 0) (pa_cons (pv 1) pa_nil))))) pa_nil)))), ?_⟩
    walk_at "rd"
    refine ⟨by omega, by omega, fun D hD => ?_⟩
    have hDh : D ≠ h := by
      obtain ⟨o, e⟩ := hH.some
      exact (ne_of_none e hD).symm
    have sD := same_upd (o := HO.lst []) hD
    refine Lc.by (walk_range (n := (n : Int).toNat)) (i_word H h D m) ⟨[], Aft.of_same hH sD, fun _ h => (by cases h), rfl, upd_same⟩ (fun _ _ _ _ => trivial) ?_ ?_
    · rintro i x H1 H2 hi ⟨w, af, hb, hl, hd⟩ ⟨rfl, rfl⟩
      walk_at "rd"
      refine take_use af.hand m0 m1 fun r H3 hr a3 => ?_
      have sz : (w.map V.int).length < sizeLine := by rw [List.length_map, hl, sizeLine_eq]; omega
      refine ⟨_, a3.keep _ _ hDh hd, sz, w ++ [(r : Int)], ?_, fun z hz => ?_, by simp [hl], by rw [upd_same, List.map_append]; rfl⟩
      · exact (af.trans a3).upd hH hD
      · rcases List.mem_append.mp hz with m | m
        · exact hb z m
        · have : z = r := by simpa using m
          omega
    · rintro H1 ⟨w, af, hb, hl, hd⟩
      simp only [tMk1, iEnumA, iSeq, tPar3, tSeq, tAsg, tCB, tCons, tNil, tVar, tOp, tUn, rI, rI0, rU, gName, gNil, gCons, gSub, rSetL, tC, tRet, tRetN, tNext, tIfS, tTest, tB, tAnd, tOr, tNot, tAndV, tOrV, tNotV, tIf,
  tDrop, tCall, tCallS, tPar, tAug, ipI, tBreak, tCont, tTup, tLst, rEq_int, rNe_int, rEq_bl, rNe_bl, rEq_str, rNe_str, HO.lst.injEq, HO.tup.injEq, Bool.not_eq_true', decide_eq_false_iff_not, rIxH, rIxTH, rCat, tSl, tPart, tNoPart, tBM, rAppend, L2.start, tFor_eq, tLc_eq, iList, iTup, iRng1, iRng2, iEnum, iZip, cx_K, cx_prog, cx_w, cx_nK, forall_const, tYes, wipe, List.foldl_cons, List.foldl_nil, and_assoc, List.map_cons, List.map_nil, List.length_cons, List.length_nil, List.replicate, List.append_nil, List.cons_append, List.nil_append,
  List.getElem?_cons_zero, List.getElem?_cons_succ, List.set_cons_zero, List.set_cons_succ, Nat.zero_add, Nat.add_zero, Nat.reduceAdd, Nat.reduceSub, Option.some.injEq, V.int.injEq, V.bl.injEq, V.ref.injEq, V.str.injEq,
  List.cons.injEq, and_true, true_and, exists_eq_left, exists_eq_left', exists_eq_right, exists_const, exists_eq, exists_and_left, exists_and_right, upd_same, upd_upd, atI_0, atI_1, atI_2, atI_3, ixN_4_0, ixN_4_1, ixN_4_2, ixN_4_3, some_lst, some_tup, decide_eq_true_eq, reduceCtorEq,
  V.int.injEq, Bool.true_eq_false, Bool.false_eq_true, if_true, if_false, ite_true, ite_false, eq_self, not_true_eq_false, not_false_eq_true, decide_true, decide_false, Bool.not_true, Bool.not_false, false_and, and_false, exists_false, hd]
      refine fun l hl2 => q l w _ hb (by omega) (af.same (same_upd hl2)) upd_same ?_
      obtain ⟨o, e⟩ := af.hand.some
      exact (ne_of_none e hl2).symm
end Mine

namespace Mine
open PySem PySem.Spec PyProof.Rows L2
local macro_rules | `(tactic| walk_at "rd") => `(tactic| try simp only [tMk1, iEnumA, iSeq, tPar3, tSeq, tAsg, tCB, tCons, tNil, tVar, tOp, tUn, rI, rI0, rU, gName, gNil, gCons, gSub, rSetL, tC, tRet, tRetN, tNext, tIfS, tTest, tB, tAnd, tOr, tNot, tAndV, tOrV, tNotV, tIf,
  tDrop, tCall, tCallS, tPar, tAug, ipI, tBreak, tCont, tTup, tLst, rEq_int, rNe_int, rEq_bl, rNe_bl, rEq_str, rNe_str, HO.lst.injEq, HO.tup.injEq, Bool.not_eq_true', decide_eq_false_iff_not, rIxH, rIxTH, rCat, tSl, tPart, tNoPart, tBM, rAppend, L2.start, tFor_eq, tLc_eq, iList, iTup, iRng1, iRng2, iEnum, iZip, cx_K, cx_prog, cx_w, cx_nK, forall_const, tYes, wipe, List.foldl_cons, List.foldl_nil, and_assoc, List.map_cons, List.map_nil, List.length_cons, List.length_nil, List.replicate, List.append_nil, List.cons_append, List.nil_append,
  List.getElem?_cons_zero, List.getElem?_cons_succ, List.set_cons_zero, List.set_cons_succ, Nat.zero_add, Nat.add_zero, Nat.reduceAdd, Nat.reduceSub, Option.some.injEq, V.int.injEq, V.bl.injEq, V.ref.injEq, V.str.injEq,
  List.cons.injEq, and_true, true_and, exists_eq_left, exists_eq_left', exists_eq_right, exists_const, exists_eq, exists_and_left, exists_and_right, upd_same, upd_upd, atI_0, atI_1, atI_2, atI_3, ixN_4_0, ixN_4_1, ixN_4_2, ixN_4_3, some_lst, some_tup, decide_eq_true_eq, reduceCtorEq,
  V.int.injEq, Bool.true_eq_false, Bool.false_eq_true, if_true, if_false, ite_true, ite_false, eq_self, not_true_eq_false, not_false_eq_true, decide_true, decide_false, Bool.not_true, Bool.not_false, false_and, and_false, exists_false])
local macro_rules | `(tactic| walk_at "mono") => `(tactic| repeat (first | with_reducible exact mon_var _ | with_reducible exact mon_c _ | with_reducible exact mon_rI _ _ | with_reducible exact mon_rI0 _ | with_reducible exact mon_rEq | with_reducible exact mon_rNe | with_reducible refine mon_test ?_ | with_reducible refine mon_op ?_ ?_ ?_ | with_reducible refine mon_and ?_ ?_ | with_reducible refine mon_or ?_ ?_ | with_reducible exact mon_rU _ | with_reducible refine mon_un ?_ ?_))
local macro_rules | `(tactic| walk_at "sd") => `(tactic| first | assumption | omega | (unfold CMul; omega) | (unfold CDiv; omega) | rfl | decide)
local macro_rules | `(tactic| walk_at "go") => `(tactic| repeat (refine And.intro (by first | assumption | omega | exact tyL (by assumption) | (unfold CMul; omega) | (unfold CDiv; omega) | rfl | decide) ?_))
-- needs: law_take, law_word
def i_runny (H : Hp) (h D : Addr) (m : Int) (n i : Nat) (σ : L2.St) (H' : Hp) : Prop := ∃ (t : Int) (v5 : Option V) (w : List Int), σ = [some (.ref h), some (.int m), some (.int n), some (.ref D), some (.int t), v5] ∧ (0 ≤ t ∧ t < m) ∧ Aft h H H' ∧ TS.Bd m w ∧ w.length = i ∧ H' D = some (.lst (w.map V.int))
theorem ok_law_runny {P : Program} {w : World} {K : PySem.W.Frag} {mg : Str → Option Value} {base : Heap} (T : Txt K mg) : ∃ fd, FnOk P w K mg base CX0 4 (He.ga K "_law_runny") fd P_law_runny sp_law_word ∧ D_law_runny K (He.ga K "_law_runny") fd := by
  obtain ⟨fd, F⟩ := T.F_law_runny
  obtain ⟨fd_law_take, G_law_take, D_law_take⟩ := ok_law_take (P := P) (w := w) (base := base) T
  have k_law_take := D_law_take.kp
  have b_law_take := bd_law_take D_law_take
  obtain ⟨fd_law_word, G_law_word, D_law_word⟩ := ok_law_word (P := P) (w := w) (base := base) T
  have k_law_word := D_law_word.kp
  have b_law_word := bd_law_word D_law_word
  refine ⟨fd, F.ok sc_law_runny (fun vs H Q E h => ?_) (fun cdv A outer s H vs Q E hr h => ?_), F⟩
  · obtain ⟨h, m, n, rfl, _⟩ := h
    rfl
  ·
    obtain ⟨h, m, n, rfl, hH, m0, m1, hn, q⟩ := h
    refine ⟨_, PSs.nox (pss_cons (ps_if (pt_cmpR op_gt (pe_call G_law_take (hr.mono (by decide)) rfl T.g__law_take k_law_take b_law_take .nil pass0 (pa_cons (pv 0) (pa_cons pe_int pa_nil))) pe_int (nomark _))
    (pss_one (ps_ret (pe_call G_law_word (hr.mono (by decide)) rfl T.g__law_word k_law_word b_law_word .nil pass0 (pa_cons (pv 0) (pa_cons (pv 1) (pa_cons (pv 2) pa_nil))))))
    pss_nil)
    (pss_cons (ps_set (i := 3) sc_law_runny.nd rfl (by first | exact Or.inl rfl | exact Or.inr rfl) (pe_lst pa_nil))
    (pss_cons (ps_set (i := 4) sc_law_runny.nd rfl (by first | exact Or.inl rfl | exact Or.inr rfl) (pe_call G_law_take (hr.mono (by decide)) rfl T.g__law_take k_law_take b_law_take .nil pass0 (pa_cons (pv 0) (pa_cons (pv 1) pa_nil))))
    (pss_cons (ps_for PassesOwn.never rfl (pi_range1 (by rfl) T.z_range (pa_cons (pv 2) pa_nil)) (pg_name (i := 5) sc_law_runny.nd rfl (by first | exact Or.inl rfl | exact Or.inr rfl))
    (pss_cons (ps_if (pt_cmpR op_eq (pe_call G_law_take (hr.mono (by decide)) rfl T.g__law_take k_law_take b_law_take .nil pass0 (pa_cons (pv 0) (pa_cons pe_int pa_nil))) pe_int (nomark _))
    (pss_one (ps_set (i := 4) sc_law_runny.nd rfl (by first | exact Or.inl rfl | exact Or.inr rfl) (pe_call G_law_take (hr.mono (by decide)) rfl T.g__law_take k_law_take b_law_take .nil pass0 (pa_cons (pv 0) (pa_cons (pv 1) pa_nil)))))
    pss_nil)
    (pss_one (ps_expr (pe_bm PySem.F.plainAttrs_list PySem.F.slot_list_append PySem.F.type_list_append mt_append (pv 3) (pa_cons (pv 4) pa_nil))))))
    (pss_one (ps_ret (pe_callTy call_tupL (by rfl) T.z_tuple (by decide +kernel) (pa_cons (pv 3) pa_nil)))))))), ?_⟩
    walk_at "rd"
    refine take_use hH (by decide) (by decide) fun r H1 hr a1 => ?_
    walk_at "rd"
    refine ite2 (fun _ => ?_) (fun _ => ?_)
    · exact ⟨h, m, n, rfl, a1.hand, m0, m1, hn, fun p w H' hb hl a2 hp ne => q p w H' hb hl (a1.trans a2) hp ne⟩
    · refine ⟨by decide, fun D hD => ?_⟩
      have hDh : D ≠ h := by
        obtain ⟨o, e⟩ := a1.hand.some
        exact (ne_of_none e hD).symm
      have sD := same_upd (o := HO.lst []) hD
      refine take_use (a1.hand.same sD) m0 m1 fun t H2 ht a2 => ?_
      walk_at "rd"
      refine ⟨by omega, by omega, ?_⟩
      have a12 : Aft h H1 H2 := (Aft.of_same a1.hand sD).trans a2
      refine Loop.by (walk_range (n := (n : Int).toNat)) (i_runny H1 h D m n) ⟨t, none, [], rfl, by omega, a12, fun _ h => (by cases h), rfl, a2.keep _ _ hDh upd_same⟩ (fun _ _ _ _ _ => trivial) ?_ ?_
      · rintro i x σ H3 H4 hi ⟨t', v5, w, rfl, ht', af, hb, hl, hd⟩ ⟨rfl, rfl⟩
        walk_at "rd"
        have fin : ∀ (z : Int) (H5 : Hp), (0 ≤ z ∧ z < m) → Aft h H1 H5 → H5 D = some (.lst (w.map V.int)) → i_runny H1 h D m n (i + 1) [some (.ref h), some (.int m), some (.int n), some (.ref D), some (.int z), some (.int (0 + (i : Int)))] (upd H5 D (.lst (w.map V.int ++ [.int z]))) := fun z H5 hz a5 d5 => by
          refine ⟨z, _, w ++ [z], rfl, hz, a5.upd a1.hand hD, fun y hy => ?_, by simp [hl], by rw [upd_same, List.map_append]; rfl⟩
          rcases List.mem_append.mp hy with k | k
          · exact hb y k
          · have : y = z := by simpa using k
            rw [this]; exact hz
        have sz : (w.map V.int).length < sizeLine := by rw [List.length_map, hl, sizeLine_eq]; omega
        refine take_use af.hand (by decide) (by decide) fun r5 H5 hr5 a5 => ?_
        have d5 := a5.keep _ _ hDh hd
        rw [rEq_int]
        refine ⟨_, rfl, ite2 (fun _ => ?_) (fun _ => ⟨tyL d5, _, d5, sz, fin t' H5 ht' (af.trans a5) d5⟩)⟩
        refine take_use a5.hand m0 m1 fun r6 H6 hr6 a6 => ?_
        have d6 := a6.keep _ _ hDh d5
        exact ⟨tyL d6, _, d6, sz, fin r6 H6 (by omega) ((af.trans a5).trans a6) d6⟩
      · rintro σ H3 ⟨t', v5, w, rfl, ht', af, hb, hl, hd⟩
        simp only [tMk1, iEnumA, iSeq, tPar3, tSeq, tAsg, tCB, tCons, tNil, tVar, tOp, tUn, rI, rI0, rU, gName, gNil, gCons, gSub, rSetL, tC, tRet, tRetN, tNext, tIfS, tTest, tB, tAnd, tOr, tNot, tAndV, tOrV, tNotV, tIf,
  tDrop, tCall, tCallS, tPar, tAug, ipI, tBreak, tCont, tTup, tLst, rEq_int, rNe_int, rEq_bl, rNe_bl, rEq_str, rNe_str, HO.lst.injEq, HO.tup.injEq, Bool.not_eq_true', decide_eq_false_iff_not, rIxH, rIxTH, rCat, tSl, tPart, tNoPart, tBM, rAppend, L2.start, tFor_eq, tLc_eq, iList, iTup, iRng1, iRng2, iEnum, iZip, cx_K, cx_prog, cx_w, cx_nK, forall_const, tYes, wipe, List.foldl_cons, List.foldl_nil, and_assoc, List.map_cons, List.map_nil, List.length_cons, List.length_nil, List.replicate, List.append_nil, List.cons_append, List.nil_append,
  List.getElem?_cons_zero, List.getElem?_cons_succ, List.set_cons_zero, List.set_cons_succ, Nat.zero_add, Nat.add_zero, Nat.reduceAdd, Nat.reduceSub, Option.some.injEq, V.int.injEq, V.bl.injEq, V.ref.injEq, V.str.injEq,
  List.cons.injEq, and_true, true_and, exists_eq_left, exists_eq_left', exists_eq_right, exists_const, exists_eq, exists_and_left, exists_and_right, upd_same, upd_upd, atI_0, atI_1, atI_2, atI_3, ixN_4_0, ixN_4_1, ixN_4_2, ixN_4_3, some_lst, some_tup, decide_eq_true_eq, reduceCtorEq,
  V.int.injEq, Bool.true_eq_false, Bool.false_eq_true, if_true, if_false, ite_true, ite_false, eq_self, not_true_eq_false, not_false_eq_true, decide_true, decide_false, Bool.not_true, Bool.not_false, false_and, and_false, exists_false, hd]
        refine fun l hl2 => q l w _ hb (by omega) ((a1.trans af).same (same_upd hl2)) upd_same ?_
        obtain ⟨o, e⟩ := af.hand.some
        exact (ne_of_none e hl2).symm
end Mine

namespace Mine
open PySem PySem.Spec PyProof.Rows L2
local macro_rules | `(tactic| walk_at "rd") => `(tactic| try simp only [tMk1, iEnumA, iSeq, tPar3, tSeq, tAsg, tCB, tCons, tNil, tVar, tOp, tUn, rI, rI0, rU, gName, gNil, gCons, gSub, rSetL, tC, tRet, tRetN, tNext, tIfS, tTest, tB, tAnd, tOr, tNot, tAndV, tOrV, tNotV, tIf,
  tDrop, tCall, tCallS, tPar, tAug, ipI, tBreak, tCont, tTup, tLst, rEq_int, rNe_int, rEq_bl, rNe_bl, rEq_str, rNe_str, HO.lst.injEq, HO.tup.injEq, Bool.not_eq_true', decide_eq_false_iff_not, rIxH, rIxTH, rCat, tSl, tPart, tNoPart, tBM, rAppend, L2.start, tFor_eq, tLc_eq, iList, iTup, iRng1, iRng2, iEnum, iZip, cx_K, cx_prog, cx_w, cx_nK, forall_const, tYes, wipe, List.foldl_cons, List.foldl_nil, and_assoc, List.map_cons, List.map_nil, List.length_cons, List.length_nil, List.replicate, List.append_nil, List.cons_append, List.nil_append,
  List.getElem?_cons_zero, List.getElem?_cons_succ, List.set_cons_zero, List.set_cons_succ, Nat.zero_add, Nat.add_zero, Nat.reduceAdd, Nat.reduceSub, Option.some.injEq, V.int.injEq, V.bl.injEq, V.ref.injEq, V.str.injEq,
  List.cons.injEq, and_true, true_and, exists_eq_left, exists_eq_left', exists_eq_right, exists_const, exists_eq, exists_and_left, exists_and_right, upd_same, upd_upd, atI_0, atI_1, atI_2, atI_3, ixN_4_0, ixN_4_1, ixN_4_2, ixN_4_3, some_lst, some_tup, decide_eq_true_eq, reduceCtorEq,
  V.int.injEq, Bool.true_eq_false, Bool.false_eq_true, if_true, if_false, ite_true, ite_false, eq_self, not_true_eq_false, not_false_eq_true, decide_true, decide_false, Bool.not_true, Bool.not_false, false_and, and_false, exists_false])
local macro_rules | `(tactic| walk_at "mono") => `(tactic| repeat (first | with_reducible exact mon_var _ | with_reducible exact mon_c _ | with_reducible exact mon_rI _ _ | with_reducible exact mon_rI0 _ | with_reducible exact mon_rEq | with_reducible exact mon_rNe | with_reducible refine mon_test ?_ | with_reducible refine mon_op ?_ ?_ ?_ | with_reducible refine mon_and ?_ ?_ | with_reducible refine mon_or ?_ ?_ | with_reducible exact mon_rU _ | with_reducible refine mon_un ?_ ?_))
local macro_rules | `(tactic| walk_at "sd") => `(tactic| first | assumption | omega | (unfold CMul; omega) | (unfold CDiv; omega) | rfl | decide)
local macro_rules | `(tactic| walk_at "go") => `(tactic| repeat (refine And.intro (by first | assumption | omega | exact tyL (by assumption) | (unfold CMul; omega) | (unfold CDiv; omega) | rfl | decide) ?_))
theorem ok_BadWord___init {P : Program} {w : World} {K : PySem.W.Frag} {mg : Str → Option Value} {base : Heap} (T : Txt K mg) : ∃ fd, FnOk P w K mg base CX0 1 (He.ma K (He.ga K "BadWord") "__init__") fd P_BadWord___init (spFld (He.ga K "BadWord") "index") ∧ D_BadWord___init K (He.ma K (He.ga K "BadWord") "__init__") fd := by
  obtain ⟨fd, F⟩ := T.F_BadWord___init
  refine ⟨fd, F.ok sc_BadWord___init (fun vs H Q E h => ?_) (fun cdv A outer s H vs Q E hr h => ?_), F⟩
  · obtain ⟨a, v, rfl, _⟩ := h
    rfl
  ·
    obtain ⟨a, v, rfl, ha, q⟩ := h
    refine ⟨_, PSs.nox (pss_one (ps_ost (pv 0) (pv 1))), ?_⟩
    simp only [tMk1, iEnumA, iSeq, tPar3, tSeq, tAsg, tCB, tCons, tNil, tVar, tOp, tUn, rI, rI0, rU, gName, gNil, gCons, gSub, rSetL, tC, tRet, tRetN, tNext, tIfS, tTest, tB, tAnd, tOr, tNot, tAndV, tOrV, tNotV, tIf,
  tDrop, tCall, tCallS, tPar, tAug, ipI, tBreak, tCont, tTup, tLst, rEq_int, rNe_int, rEq_bl, rNe_bl, rEq_str, rNe_str, HO.lst.injEq, HO.tup.injEq, Bool.not_eq_true', decide_eq_false_iff_not, rIxH, rIxTH, rCat, tSl, tPart, tNoPart, tBM, rAppend, L2.start, tFor_eq, tLc_eq, iList, iTup, iRng1, iRng2, iEnum, iZip, cx_K, cx_prog, cx_w, cx_nK, forall_const, tYes, wipe, List.foldl_cons, List.foldl_nil, and_assoc, List.map_cons, List.map_nil, List.length_cons, List.length_nil, List.replicate, List.append_nil, List.cons_append, List.nil_append,
  List.getElem?_cons_zero, List.getElem?_cons_succ, List.set_cons_zero, List.set_cons_succ, Nat.zero_add, Nat.add_zero, Nat.reduceAdd, Nat.reduceSub, Option.some.injEq, V.int.injEq, V.bl.injEq, V.ref.injEq, V.str.injEq,
  List.cons.injEq, and_true, true_and, exists_eq_left, exists_eq_left', exists_eq_right, exists_const, exists_eq, exists_and_left, exists_and_right, upd_same, upd_upd, atI_0, atI_1, atI_2, atI_3, ixN_4_0, ixN_4_1, ixN_4_2, ixN_4_3, some_lst, some_tup, decide_eq_true_eq, reduceCtorEq,
  V.int.injEq, Bool.true_eq_false, Bool.false_eq_true, if_true, if_false, ite_true, ite_false, eq_self, not_true_eq_false, not_false_eq_true, decide_true, decide_false, Bool.not_true, Bool.not_false, false_and, and_false, exists_false, tOst]
    exact ⟨_, T.x_BadWord.o, T.n_BadWord_is_index, .inl ⟨ha, fun dx h1 h2 => q dx h1 h2⟩⟩
end Mine

namespace Mine
open PySem PySem.Spec PyProof.Rows L2
local macro_rules | `(tactic| walk_at "rd") => `(tactic| try simp only [tMk1, iEnumA, iSeq, tPar3, tSeq, tAsg, tCB, tCons, tNil, tVar, tOp, tUn, rI, rI0, rU, gName, gNil, gCons, gSub, rSetL, tC, tRet, tRetN, tNext, tIfS, tTest, tB, tAnd, tOr, tNot, tAndV, tOrV, tNotV, tIf,
  tDrop, tCall, tCallS, tPar, tAug, ipI, tBreak, tCont, tTup, tLst, rEq_int, rNe_int, rEq_bl, rNe_bl, rEq_str, rNe_str, HO.lst.injEq, HO.tup.injEq, Bool.not_eq_true', decide_eq_false_iff_not, rIxH, rIxTH, rCat, tSl, tPart, tNoPart, tBM, rAppend, L2.start, tFor_eq, tLc_eq, iList, iTup, iRng1, iRng2, iEnum, iZip, cx_K, cx_prog, cx_w, cx_nK, forall_const, tYes, wipe, List.foldl_cons, List.foldl_nil, and_assoc, List.map_cons, List.map_nil, List.length_cons, List.length_nil, List.replicate, List.append_nil, List.cons_append, List.nil_append,
  List.getElem?_cons_zero, List.getElem?_cons_succ, List.set_cons_zero, List.set_cons_succ, Nat.zero_add, Nat.add_zero, Nat.reduceAdd, Nat.reduceSub, Option.some.injEq, V.int.injEq, V.bl.injEq, V.ref.injEq, V.str.injEq,
  List.cons.injEq, and_true, true_and, exists_eq_left, exists_eq_left', exists_eq_right, exists_const, exists_eq, exists_and_left, exists_and_right, upd_same, upd_upd, atI_0, atI_1, atI_2, atI_3, ixN_4_0, ixN_4_1, ixN_4_2, ixN_4_3, some_lst, some_tup, decide_eq_true_eq, reduceCtorEq,
  V.int.injEq, Bool.true_eq_false, Bool.false_eq_true, if_true, if_false, ite_true, ite_false, eq_self, not_true_eq_false, not_false_eq_true, decide_true, decide_false, Bool.not_true, Bool.not_false, false_and, and_false, exists_false])
local macro_rules | `(tactic| walk_at "mono") => `(tactic| repeat (first | with_reducible exact mon_var _ | with_reducible exact mon_c _ | with_reducible exact mon_rI _ _ | with_reducible exact mon_rI0 _ | with_reducible exact mon_rEq | with_reducible exact mon_rNe | with_reducible refine mon_test ?_ | with_reducible refine mon_op ?_ ?_ ?_ | with_reducible refine mon_and ?_ ?_ | with_reducible refine mon_or ?_ ?_ | with_reducible exact mon_rU _ | with_reducible refine mon_un ?_ ?_))
local macro_rules | `(tactic| walk_at "sd") => `(tactic| first | assumption | omega | (unfold CMul; omega) | (unfold CDiv; omega) | rfl | decide)
local macro_rules | `(tactic| walk_at "go") => `(tactic| repeat (refine And.intro (by first | assumption | omega | exact tyL (by assumption) | (unfold CMul; omega) | (unfold CDiv; omega) | rfl | decide) ?_))
def oV : Option Int → V
  | some i => .int i
  | none => .non
def geO : Option Int → Int → Bool
  | some l, i => decide (l ≤ i)
  | none, _ => true
def leO : Option Int → Int → Bool
  | some l, i => decide (i ≤ l)
  | none, _ => true
/-- a whole number within bounds -/
def wholeB (x : V) (lo hi : Option Int) : Bool := match x with
  | .int i => geO lo i && leO hi i
  | _ => false
def sp_is_whole (K : PySem.W.Frag) : Sp := fun vs H Q _ => ∃ (x : V) (lo hi : Option Int), vs = [x, oV lo, oV hi] ∧ Kd K H x ∧ Q (.bl (wholeB x lo hi)) H
theorem ok_is_whole {P : Program} {w : World} {K : PySem.W.Frag} {mg : Str → Option Value} {base : Heap} (T : Txt K mg) : ∃ fd, FnOk P w K mg base CX0 1 (He.ga K "is_whole") fd P_is_whole (sp_is_whole K) ∧ D_is_whole K (He.ga K "is_whole") fd := by
  obtain ⟨fd, F⟩ := T.F_is_whole
  refine ⟨fd, F.ok sc_is_whole (fun vs H Q E h => ?_) (fun cdv A outer s H vs Q E hr h => ?_), F⟩
  · obtain ⟨x, lo, hi, rfl, _⟩ := h
    rfl
  ·
    obtain ⟨x, lo, hi, rfl, hx, q⟩ := h
    refine ⟨_, PSs.nox (pss_cons (ps_if (PW.pt (pw_or (pt_not (pt_val (pe_callB call_isInt (by rfl) T.z_isinstance (by decide +kernel) (pa_cons (pv 0) (pa_cons (pe_bltn (v := .ty "int") (by rfl) T.z_int (by decide +kernel) rfl) pa_nil))))) (pw_or1 (pt_val (pe_callB call_isBool (by rfl) T.z_isinstance (by decide +kernel) (pa_cons (pv 0) (pa_cons (pe_bltn (v := .ty "bool") (by rfl) T.z_bool (by decide +kernel) rfl) pa_nil)))))))
    (pss_one (ps_ret pe_bl))
    pss_nil)
    (pss_one (ps_ret (pe_and (pe_or (pe_cmpR op_isN (pv 1) pe_non (nomark _)) (pe_one (pe_cmpR op_ge (pv 0) (pv 1) (nomark _)))) (pe_one (pe_or (pe_cmpR op_isN (pv 2) pe_non (nomark _)) (pe_one (pe_cmpR op_le (pv 0) (pv 2) (nomark _))))))))), ?_⟩
    walk_at "rd"
    cases x with
    | int i =>
      have e : ∀ c : Bool, wholeB (.int i) lo hi = c → Q (.bl c) H := fun c e => e ▸ q
      cases lo <;> cases hi <;> simp [isIntV, isBlV, oV, Kd]
      · exact e _ rfl
      · exact e _ (by simp [wholeB, geO, leO])
      · refine ite2 (fun z => e _ ?_) (fun z => e _ ?_) <;> simp [wholeB, geO, leO, z]
      · refine ite2 (fun z => e _ ?_) (fun z => e _ ?_) <;> simp [wholeB, geO, leO, z]
    | non => simpa [isIntV, Kd, wholeB] using q
    | bl b => simpa [isIntV, isBlV, Kd, wholeB] using q
    | str z => simpa [isIntV, Kd, wholeB] using q
    | ref a => exact ⟨hx, by simpa [isIntV, wholeB] using q⟩
    | byt b => cases hx
    | flt b => cases hx
    | ty n => cases hx
end Mine

namespace Mine
open PySem PySem.Spec PyProof.Rows L2
local macro_rules | `(tactic| walk_at "rd") => `(tactic| try simp only [tMk1, iEnumA, iSeq, tPar3, tSeq, tAsg, tCB, tCons, tNil, tVar, tOp, tUn, rI, rI0, rU, gName, gNil, gCons, gSub, rSetL, tC, tRet, tRetN, tNext, tIfS, tTest, tB, tAnd, tOr, tNot, tAndV, tOrV, tNotV, tIf,
  tDrop, tCall, tCallS, tPar, tAug, ipI, tBreak, tCont, tTup, tLst, rEq_int, rNe_int, rEq_bl, rNe_bl, rEq_str, rNe_str, HO.lst.injEq, HO.tup.injEq, Bool.not_eq_true', decide_eq_false_iff_not, rIxH, rIxTH, rCat, tSl, tPart, tNoPart, tBM, rAppend, L2.start, tFor_eq, tLc_eq, iList, iTup, iRng1, iRng2, iEnum, iZip, cx_K, cx_prog, cx_w, cx_nK, forall_const, tYes, wipe, List.foldl_cons, List.foldl_nil, and_assoc, List.map_cons, List.map_nil, List.length_cons, List.length_nil, List.replicate, List.append_nil, List.cons_append, List.nil_append,
  List.getElem?_cons_zero, List.getElem?_cons_succ, List.set_cons_zero, List.set_cons_succ, Nat.zero_add, Nat.add_zero, Nat.reduceAdd, Nat.reduceSub, Option.some.injEq, V.int.injEq, V.bl.injEq, V.ref.injEq, V.str.injEq,
  List.cons.injEq, and_true, true_and, exists_eq_left, exists_eq_left', exists_eq_right, exists_const, exists_eq, exists_and_left, exists_and_right, upd_same, upd_upd, atI_0, atI_1, atI_2, atI_3, ixN_4_0, ixN_4_1, ixN_4_2, ixN_4_3, some_lst, some_tup, decide_eq_true_eq, reduceCtorEq,
  V.int.injEq, Bool.true_eq_false, Bool.false_eq_true, if_true, if_false, ite_true, ite_false, eq_self, not_true_eq_false, not_false_eq_true, decide_true, decide_false, Bool.not_true, Bool.not_false, false_and, and_false, exists_false])
local macro_rules | `(tactic| walk_at "mono") => `(tactic| repeat (first | with_reducible exact mon_var _ | with_reducible exact mon_c _ | with_reducible exact mon_rI _ _ | with_reducible exact mon_rI0 _ | with_reducible exact mon_rEq | with_reducible exact mon_rNe | with_reducible refine mon_test ?_ | with_reducible refine mon_op ?_ ?_ ?_ | with_reducible refine mon_and ?_ ?_ | with_reducible refine mon_or ?_ ?_ | with_reducible exact mon_rU _ | with_reducible refine mon_un ?_ ?_))
local macro_rules | `(tactic| walk_at "sd") => `(tactic| first | assumption | omega | (unfold CMul; omega) | (unfold CDiv; omega) | rfl | decide)
local macro_rules | `(tactic| walk_at "go") => `(tactic| repeat (refine And.intro (by first | assumption | omega | exact tyL (by assumption) | (unfold CMul; omega) | (unfold CDiv; omega) | rfl | decide) ?_))
-- needs: is_whole
/-- what is asked of: a list or a tuple of things, or something else -/
inductive Th where
  | odd
  | row (t : Bool) (xs : List V)
def HO.seq (t : Bool) (xs : List V) : HO := if t = true then .tup xs else .lst xs
def ThAt (K : PySem.W.Frag) (H : Hp) (x : V) : Th → Prop
  | .odd => IsSeqV K H x false
  | .row t xs => ∃ a, x = .ref a ∧ H a = some (HO.seq t xs) ∧ xs.length ≤ 100000 ∧ ∀ y ∈ xs, Kd K H y
/-- the first that is no letter -/
def badAt (q : Int) : List V → Nat → Option Int
  | [], _ => none
  | x :: r, i => if wholeB x (some 0) (some (q - 1)) = true then badAt q r (i + 1) else some i
def wordDue (q most : Int) : Th → Option Int
  | .odd => some (-1)
  | .row _ xs => if most < xs.length then some (-1) else badAt q xs 0
theorem SqT.same {K : PySem.W.Frag} {H H' : Hp} {a : Addr} {xs : List V} (h : SqT K H a xs) (s : Same H H') : SqT K H' a xs := by
  rcases h with (h | ⟨o, h⟩) | h
  · exact .inl (.inl (s _ _ h))
  · exact .inl (.inr ⟨o, s _ _ h⟩)
  · exact .inr h
theorem Kd.same {K : PySem.W.Frag} {H H' : Hp} {x : V} (h : Kd K H x) (s : Same H H') : Kd K H' x := by
  cases x with
  | ref a =>
    rcases h with ⟨xs, h⟩ | ⟨xs, h⟩
    · exact .inl ⟨xs, s.seq h⟩
    · exact .inr ⟨xs, SqT.same h s⟩
  | _ => exact h
theorem badAt_app (q : Int) : ∀ (xs ys : List V) (i : Nat), (∀ x ∈ xs, wholeB x (some 0) (some (q - 1)) = true) → badAt q (xs ++ ys) i = badAt q ys (i + xs.length)
  | [], ys, i, _ => rfl
  | x :: xs, ys, i, h => by
    show (if wholeB x (some 0) (some (q - 1)) = true then badAt q (xs ++ ys) (i + 1) else some (i : Int)) = _
    rw [if_pos (h x List.mem_cons_self), badAt_app q xs ys (i + 1) fun y hy => h y (List.mem_cons_of_mem _ hy)]
    congr 1
    simp; omega
theorem whole_int {z q : Int} : wholeB (.int z) (some 0) (some (q - 1)) = true ↔ 0 ≤ z ∧ z < q := by
  show (decide (0 ≤ z) && decide (z ≤ q - 1)) = true ↔ _
  rw [Bool.and_eq_true, decide_eq_true_eq, decide_eq_true_eq]
  omega
theorem badAt_none {q : Int} : ∀ {xs : List V} {i : Nat}, badAt q xs i = none → ∃ w : List Int, xs = w.map V.int ∧ TS.Bd q w
  | [], _, _ => ⟨[], rfl, fun m hm => by cases hm⟩
  | x :: xs, i, h => by
    have h' : (if wholeB x (some 0) (some (q - 1)) = true then badAt q xs (i + 1) else some (i : Int)) = none := h
    by_cases e : wholeB x (some 0) (some (q - 1)) = true
    · rw [if_pos e] at h'
      obtain ⟨w, rfl, hw⟩ := badAt_none h'
      cases x with
      | int z =>
        refine ⟨z :: w, rfl, fun m hm => ?_⟩
        rcases List.mem_cons.mp hm with r | r
        · rw [r]; exact whole_int.mp e
        · exact hw m r
      | _ => cases e
    · rw [if_neg e] at h'; cases h'
theorem due_none {q most : Int} {t : Bool} {xs : List V} (h : wordDue q most (.row t xs) = none) : ∃ w : List Int, xs = w.map V.int ∧ TS.Bd q w ∧ (w.length : Int) ≤ most := by
  have h' : (if most < (xs.length : Int) then some (-1) else badAt q xs 0) = none := h
  by_cases e : most < (xs.length : Int)
  · rw [if_pos e] at h'; cases h'
  · rw [if_neg e] at h'
    obtain ⟨w, rfl, hw⟩ := badAt_none h'
    exact ⟨w, rfl, hw, by rw [List.length_map] at e; omega⟩
theorem due_good {q most : Int} {t : Bool} {w : List Int} (hb : TS.Bd q w) (hl : (w.length : Int) ≤ most) : wordDue q most (.row t (w.map V.int)) = none := by
  show (if most < ((w.map V.int).length : Int) then some (-1) else badAt q (w.map V.int) 0) = none
  rw [List.length_map, if_neg (by omega), ← List.append_nil (w.map V.int), badAt_app q _ [] 0 fun x hx => ?_]
  · rfl
  · obtain ⟨z, hz, rfl⟩ := List.mem_map.mp hx
    exact whole_int.mpr (hb z hz)
theorem map_int_inj : ∀ {x y : List Int}, x.map V.int = y.map V.int → x = y
  | [], [], _ => rfl
  | [], _ :: _, h => by cases h
  | _ :: _, [], h => by cases h
  | a :: x, b :: y, h => by
    injection h with h1 h2
    injection h1 with h1
    rw [h1, map_int_inj h2]
/-- a word that is let, as a list or a tuple -/
theorem th_tup {K : PySem.W.Frag} {H : Hp} {p : Addr} {w : List Int} (h : H p = some (.tup (w.map V.int))) (hl : w.length ≤ 100000) : ThAt K H (.ref p) (.row true (w.map V.int)) :=
  ⟨p, rfl, h, by rw [List.length_map]; exact hl, fun y hy => by obtain ⟨z, _, rfl⟩ := List.mem_map.mp hy; exact trivial⟩
theorem th_lst {K : PySem.W.Frag} {H : Hp} {p : Addr} {w : List Int} (h : H p = some (.lst (w.map V.int))) (hl : w.length ≤ 100000) : ThAt K H (.ref p) (.row false (w.map V.int)) :=
  ⟨p, rfl, h, by rw [List.length_map]; exact hl, fun y hy => by obtain ⟨z, _, rfl⟩ := List.mem_map.mp hy; exact trivial⟩
def sp_check_word (K : PySem.W.Frag) : Sp := fun vs H Q E => ∃ (q most : Int) (x : V) (th : Th), vs = [.int q, x, .int most] ∧ ThAt K H x th ∧
  (∀ t xs, th = .row t xs → wordDue q most th = none → ∀ l H', Same H H' → H' l = some (.tup xs) → Q (.ref l) H') ∧
  (∀ i, wordDue q most th = some i → ∀ d H', Same H H' → H' d = some (.xd [("index", .int i)]) → E (.ref (He.ga K "BadWord")) (some d) H')
def i_check_word (H : Hp) (q most : Int) (x : V) (xs : List V) (i : Nat) (σ : L2.St) (H' : Hp) : Prop := ∃ v3 v4, σ = [some (.int q), some x, some (.int most), v3, v4] ∧ Same H H' ∧ ∀ y ∈ xs.take i, wholeB y (some 0) (some (q - 1)) = true
theorem ok_check_word {P : Program} {w : World} {K : PySem.W.Frag} {mg : Str → Option Value} {base : Heap} (T : Txt K mg) : ∃ fd, FnOk P w K mg base (L2.CX P w) 3 (He.ga K "check_word") fd P_check_word (sp_check_word K) ∧ D_check_word K (He.ga K "check_word") fd := by
  obtain ⟨fd, F⟩ := T.F_check_word
  obtain ⟨fd_BadWord___init, G_BadWord___init, D_BadWord___init⟩ := ok_BadWord___init (P := P) (w := w) (base := base) T
  have k_BadWord___init := D_BadWord___init.kp
  have b_BadWord___init := bd_BadWord___init D_BadWord___init
  obtain ⟨fd_is_whole, G_is_whole, D_is_whole⟩ := ok_is_whole (P := P) (w := w) (base := base) T
  have k_is_whole := D_is_whole.kp
  obtain ⟨ds_is_whole_3, r_is_whole_3, b_is_whole_3⟩ := bd_is_whole_3 D_is_whole
  refine ⟨fd, F.ok sc_check_word (fun vs H Q E h => ?_) (fun cdv A outer s H vs Q E hr h => ?_), F⟩
  · obtain ⟨q, most, x, th, rfl, _⟩ := h
    rfl
  ·
    obtain ⟨q, most, x, th, rfl, hT, hok, hbad⟩ := h
    refine ⟨_, (pss_cons (ps_if (PW.pt (pw_or (pt_not (pt_val (pe_callB call_isSeq (by rfl) T.z_isinstance (by decide +kernel) (pa_cons (pv 1) (pa_cons (pe_tup (pa_cons (pe_bltn (v := .ty "list") (by rfl) T.z_list (by decide +kernel) rfl) (pa_cons (pe_bltn (v := .ty "tuple") (by rfl) T.z_tuple (by decide +kernel) rfl) pa_nil))) pa_nil))))) (pw_or1 (pt_cmpR op_gt (pe_callB call_lenA (by rfl) T.z_len (by decide +kernel) (pa_cons (pv 1) pa_nil)) (pv 2) (nomark _)))))
    (pss_one (ps_raise rfl (takes_of rfl rfl rfl rfl) (mk1 T.x_BadWord T.g_BadWord G_BadWord___init b_BadWord___init (hr.mono (by decide)) (by walk_at "mono") (pe_un un_neg pe_int) rfl)))
    pss_nil)
    (pss_cons (ps_for (passes_of rfl) rfl (pi_enumA (by rfl) T.z_enumerate (pa_cons (pv 1) pa_nil)) (pg_tup (by rfl) (pgs_cons (pg_name (i := 3) sc_check_word.nd rfl (by first | exact Or.inl rfl | exact Or.inr rfl)) (pgs_cons (pg_name (i := 4) sc_check_word.nd rfl (by first | exact Or.inl rfl | exact Or.inr rfl)) pgs_nil)))
    (pss_one (ps_if (pt_not (pt_val (pe_call G_is_whole (hr.mono (by decide)) rfl T.g_is_whole k_is_whole b_is_whole_3 r_is_whole_3 pass0 (pa_cons (pv 4) (pa_cons pe_int (pa_cons (pe_op op_sub (pv 0) pe_int) pa_nil))))))
    (pss_one (ps_raise rfl (takes_of rfl rfl rfl rfl) (mk1 T.x_BadWord T.g_BadWord G_BadWord___init b_BadWord___init (hr.mono (by decide)) (by walk_at "mono") (pv 3) rfl)))
    pss_nil)))
    (pss_one (ps_ret (pe_callTy call_tupA (by rfl) T.z_tuple (by decide +kernel) (pa_cons (pv 1) pa_nil)))))), ?_⟩
    walk_at "rd"
    refine ⟨by decide, fun p hp => ?_⟩
    have sp := same_upd (o := HO.tup [V.ty "list", V.ty "tuple"]) hp
    have bad : ∀ i, wordDue q most th = some i → ∀ (d : Addr) (H' : Hp), Same (upd H p (HO.tup [V.ty "list", V.ty "tuple"])) H' → H' d = some (HO.xd [("index", V.int i)]) → E (Value.ref (He.ga K "BadWord")) (some d) H' := fun i e d H' s h => hbad i e d H' (sp.trans s) h
    generalize upd H p (HO.tup [V.ty "list", V.ty "tuple"]) = H1 at sp bad
    cases th with
    | odd =>
      refine ⟨false, ?_, ?_⟩
      · cases x with
        | ref a =>
          rcases hT with h | h | ⟨_, kvs, h⟩
          · cases h.1
          · cases h.1
          · exact .inr (.inr ⟨rfl, kvs, sp _ _ h⟩)
        | _ => exact hT
      · rw [if_pos rfl]
        exact fun d H' s _ h => bad _ rfl d H' s h
    | row t xs =>
      obtain ⟨a, rfl, ha, hl, hk⟩ := hT
      have ha1 := sp _ _ ha
      refine ⟨true, ?_, ?_⟩
      · cases t
        · exact .inl ⟨rfl, xs, .inl (.inl ha1)⟩
        · exact .inr (.inl ⟨rfl, xs, .inl (.inl ha1)⟩)
      rw [if_neg (by decide)]
      refine ⟨a, rfl, xs, by cases t; exact .inl ha1; exact .inr ha1, ite2 (fun z => ?_) (fun z => ⟨a, rfl, ?_⟩)⟩
      · exact fun d H' s _ h => bad _ (if_pos z) d H' s h
      have hS : SqL K H1 a xs ∨ SqT K H1 a xs := by
        cases t
        · exact .inl (.inl (.inl ha1))
        · exact .inr (.inl (.inl ha1))
      have due : wordDue q most (.row t xs) = badAt q xs 0 := if_neg z
      refine enumA_by hS (i_check_word H1 q most (V.ref a) xs) ⟨_, _, rfl, Same.refl _, by simp⟩ (fun _ _ _ ⟨_, _, _, s, _⟩ => s) ?_ ?_
      · rintro i y σ' H' T hi ⟨v3, v4, rfl, sm, hg⟩ hy hT
        refine ⟨T, _, rfl, .inl (.inl upd_same), rfl, ?_⟩
        walk_at "rd"
        have sT := same_upd (o := HO.tup [V.int (i : Nat), y]) hT
        have hx : xs = xs.take i ++ y :: xs.drop (i + 1) := by
          obtain ⟨h, e⟩ := List.getElem?_eq_some_iff.mp hy
          rw [← e, List.getElem_cons_drop, List.take_append_drop]
        have ky := hk y (by rw [hx]; simp)
        refine ⟨y, some 0, some (q - 1), rfl, ky.same (sp.trans (sm.trans sT)), ?_⟩
        have ev : badAt q xs 0 = badAt q (y :: xs.drop (i + 1)) i := by
          conv => lhs; rw [hx]
          rw [badAt_app q _ _ 0 hg, List.length_take, Nat.min_eq_left (by omega), Nat.zero_add]
        refine ⟨_, rfl, ?_⟩
        refine ite2 (fun e => ?_) (fun e => ?_)
        · refine fun d H'' s _ h => bad i ?_ d H'' ((sm.trans sT).trans s) h
          rw [due, ev]
          show (if wholeB y (some 0) (some (q - 1)) = true then _ else _) = _
          rw [e, if_neg (by decide)]
        · refine ⟨_, _, rfl, sm.trans sT, fun z hz => ?_⟩
          rw [List.take_add_one, hy] at hz
          rcases List.mem_append.mp hz with h | h
          · exact hg z h
          · have : z = y := by simpa using h
            rw [this]; simpa using e
      · rintro σ' H' ⟨v3, v4, rfl, sm, hg⟩
        walk_at "rd"
        refine ⟨xs, by cases t; exact .inl (sm _ _ ha1); exact .inr (sm _ _ ha1), fun l H'' s h => ?_⟩
        have all : wordDue q most (.row t xs) = none := by
          rw [due, ← List.append_nil xs, badAt_app q xs [] 0 (by rw [← List.take_length (l := xs)]; exact hg)]; rfl
        exact hok t xs rfl all l H'' ((sp.trans sm).trans s) h
end Mine

namespace Mine
open PySem PySem.Spec PyProof.Rows L2
local macro_rules | `(tactic| walk_at "rd") => `(tactic| try simp only [tMk1, iEnumA, iSeq, tPar3, tSeq, tAsg, tCB, tCons, tNil, tVar, tOp, tUn, rI, rI0, rU, gName, gNil, gCons, gSub, rSetL, tC, tRet, tRetN, tNext, tIfS, tTest, tB, tAnd, tOr, tNot, tAndV, tOrV, tNotV, tIf,
  tDrop, tCall, tCallS, tPar, tAug, ipI, tBreak, tCont, tTup, tLst, rEq_int, rNe_int, rEq_bl, rNe_bl, rEq_str, rNe_str, HO.lst.injEq, HO.tup.injEq, Bool.not_eq_true', decide_eq_false_iff_not, rIxH, rIxTH, rCat, tSl, tPart, tNoPart, tBM, rAppend, L2.start, tFor_eq, tLc_eq, iList, iTup, iRng1, iRng2, iEnum, iZip, cx_K, cx_prog, cx_w, cx_nK, forall_const, tYes, wipe, List.foldl_cons, List.foldl_nil, and_assoc, List.map_cons, List.map_nil, List.length_cons, List.length_nil, List.replicate, List.append_nil, List.cons_append, List.nil_append,
  List.getElem?_cons_zero, List.getElem?_cons_succ, List.set_cons_zero, List.set_cons_succ, Nat.zero_add, Nat.add_zero, Nat.reduceAdd, Nat.reduceSub, Option.some.injEq, V.int.injEq, V.bl.injEq, V.ref.injEq, V.str.injEq,
  List.cons.injEq, and_true, true_and, exists_eq_left, exists_eq_left', exists_eq_right, exists_const, exists_eq, exists_and_left, exists_and_right, upd_same, upd_upd, atI_0, atI_1, atI_2, atI_3, ixN_4_0, ixN_4_1, ixN_4_2, ixN_4_3, some_lst, some_tup, decide_eq_true_eq, reduceCtorEq,
  V.int.injEq, Bool.true_eq_false, Bool.false_eq_true, if_true, if_false, ite_true, ite_false, eq_self, not_true_eq_false, not_false_eq_true, decide_true, decide_false, Bool.not_true, Bool.not_false, false_and, and_false, exists_false])
local macro_rules | `(tactic| walk_at "mono") => `(tactic| repeat (first | with_reducible exact mon_var _ | with_reducible exact mon_c _ | with_reducible exact mon_rI _ _ | with_reducible exact mon_rI0 _ | with_reducible exact mon_rEq | with_reducible exact mon_rNe | with_reducible refine mon_test ?_ | with_reducible refine mon_op ?_ ?_ ?_ | with_reducible refine mon_and ?_ ?_ | with_reducible refine mon_or ?_ ?_ | with_reducible exact mon_rU _ | with_reducible refine mon_un ?_ ?_))
local macro_rules | `(tactic| walk_at "sd") => `(tactic| first | assumption | omega | (unfold CMul; omega) | (unfold CDiv; omega) | rfl | decide)
local macro_rules | `(tactic| walk_at "go") => `(tactic| repeat (refine And.intro (by first | assumption | omega | exact tyL (by assumption) | (unfold CMul; omega) | (unfold CDiv; omega) | rfl | decide) ?_))
-- needs: check_word
def sp_rises_of (K : PySem.W.Frag) : Sp := fun vs H Q E => ∃ (x : V) (th : Th), vs = [x] ∧ ThAt K H x th ∧
  (∀ t w, th = .row t (w.map V.int) → TS.Bd 4 w → w.length ≤ 61 → ∀ p H', Same H H' → H' p = some (.tup ((places w).map V.int)) → Q (.ref p) H') ∧
  (∀ i, wordDue 4 61 th = some i → ∀ d H', Same H H' → H' d = some (.xd [("index", .int i)]) → E (.ref (He.ga K "BadWord")) (some d) H')
theorem rises_of_use {K : PySem.W.Frag} {H : Hp} {x : V} {t : Bool} {w : List Int} {Q : VK} {E : XK} (h : ThAt K H x (.row t (w.map V.int))) (hb : TS.Bd 4 w) (hl : w.length ≤ 61) (q : ∀ p H', Same H H' → H' p = some (.tup ((places w).map V.int)) → Q (.ref p) H') : sp_rises_of K [x] H Q E :=
  ⟨x, _, rfl, h, fun t2 w2 e _ _ p H2 s h => q p H2 s (by obtain rfl := map_int_inj (Th.row.inj e).2; exact h), fun i e => by rw [due_good hb (by omega)] at e; cases e⟩
theorem ok_rises_of {P : Program} {w : World} {K : PySem.W.Frag} {mg : Str → Option Value} {base : Heap} (T : Txt K mg) : ∃ fd, FnOk P w K mg base (L2.CX P w) 4 (He.ga K "rises_of") fd P_rises_of (sp_rises_of K) ∧ D_rises_of K (He.ga K "rises_of") fd := by
  obtain ⟨fd, F⟩ := T.F_rises_of
  obtain ⟨fd_check_word, G_check_word, D_check_word⟩ := ok_check_word (P := P) (w := w) (base := base) T
  have k_check_word := D_check_word.kp
  obtain ⟨ds_check_word_3, r_check_word_3, b_check_word_3⟩ := bd_check_word_3 D_check_word
  refine ⟨fd, F.ok sc_rises_of (fun vs H Q E h => ?_) (fun cdv A outer s H vs Q E hr h => ?_), F⟩
  · obtain ⟨x, th, rfl, _⟩ := h
    rfl
  ·
    obtain ⟨x, th, rfl, hT, hok, hbad⟩ := h
    refine ⟨_, (pss_cons (ps_set (i := 0) sc_rises_of.nd rfl (by first | exact Or.inl rfl | exact Or.inr rfl) (pe_call G_check_word (hr.mono (by decide)) rfl T.g_check_word k_check_word b_check_word_3 r_check_word_3 (E := E) (passes_call (takes_of rfl rfl rfl rfl) fun _ _ _ _ h => h) (pa_cons pe_int (pa_cons (pv 0) (pa_cons (pe_glob (v := .int (61)) rfl T.c_MOST_HERE.choose_spec ⟨_, rfl⟩) pa_nil)))))
    (pss_one (ps_ret (pe_callTy call_tupL (by rfl) T.z_tuple (by decide +kernel) (pa_cons (pe_lc (own := [("place", 1)]) rfl sc_rises_of.nd (pi_range2 (by rfl) T.z_range (pa_cons pe_int (pa_cons (pe_callB call_lenT (by rfl) T.z_len (by decide +kernel) (pa_cons (pv 0) pa_nil)) pa_nil))) (blkOk_by (own := [("place", 1)]) (N := N_rises_of) (sc := defScope s_rises_of) (by decide +kernel)) (fun _ _ _ _ _ => (pg_name (i := 1) sc_rises_of.nd rfl (by first | exact Or.inl rfl | exact Or.inr rfl))) (fun _ _ _ _ _ => (pts_one (pt_cmpR op_ge (pe_ix ix_TH (pv 0) (pv 1) (fun _ _ => rfl)) (pe_ix ix_TH (pv 0) (pe_op op_sub (pv 1) pe_int) (fun _ _ => rfl)) (nomark _)))) (fun _ _ _ _ _ => (pv 1))) pa_nil))))), ?_⟩
    walk_at "rd"
    refine ⟨4, 61, x, th, rfl, hT, fun t xs eth due p H1 sm hp => ?_, hbad⟩
    obtain ⟨w, rfl, hb, hl⟩ := due_none (eth ▸ due)
    simp only [tMk1, iEnumA, iSeq, tPar3, tSeq, tAsg, tCB, tCons, tNil, tVar, tOp, tUn, rI, rI0, rU, gName, gNil, gCons, gSub, rSetL, tC, tRet, tRetN, tNext, tIfS, tTest, tB, tAnd, tOr, tNot, tAndV, tOrV, tNotV, tIf,
  tDrop, tCall, tCallS, tPar, tAug, ipI, tBreak, tCont, tTup, tLst, rEq_int, rNe_int, rEq_bl, rNe_bl, rEq_str, rNe_str, HO.lst.injEq, HO.tup.injEq, Bool.not_eq_true', decide_eq_false_iff_not, rIxH, rIxTH, rCat, tSl, tPart, tNoPart, tBM, rAppend, L2.start, tFor_eq, tLc_eq, iList, iTup, iRng1, iRng2, iEnum, iZip, cx_K, cx_prog, cx_w, cx_nK, forall_const, tYes, wipe, List.foldl_cons, List.foldl_nil, and_assoc, List.map_cons, List.map_nil, List.length_cons, List.length_nil, List.replicate, List.append_nil, List.cons_append, List.nil_append,
  List.getElem?_cons_zero, List.getElem?_cons_succ, List.set_cons_zero, List.set_cons_succ, Nat.zero_add, Nat.add_zero, Nat.reduceAdd, Nat.reduceSub, Option.some.injEq, V.int.injEq, V.bl.injEq, V.ref.injEq, V.str.injEq,
  List.cons.injEq, and_true, true_and, exists_eq_left, exists_eq_left', exists_eq_right, exists_const, exists_eq, exists_and_left, exists_and_right, upd_same, upd_upd, atI_0, atI_1, atI_2, atI_3, ixN_4_0, ixN_4_1, ixN_4_2, ixN_4_3, some_lst, some_tup, decide_eq_true_eq, reduceCtorEq,
  V.int.injEq, Bool.true_eq_false, Bool.false_eq_true, if_true, if_false, ite_true, ite_false, eq_self, not_true_eq_false, not_false_eq_true, decide_true, decide_false, Bool.not_true, Bool.not_false, false_and, and_false, exists_false, hp]
    rw [List.length_map]
    refine ⟨by decide, by decide, by omega, by omega, fun D hD => ?_⟩
    refine Lc.rng (fun i => if w.getD i 0 ≤ w.getD (i + 1) 0 then some (V.int (1 + (i : Nat))) else none) hD (by omega) (fun _ => rfl) (fun i H Qk Qn hi s2 qk qn => ?_) fun H' s2 hd => ?_
    · have e1 : atI (w.map V.int) (1 + (i : Int)) = some (V.int (w.getD (i + 1) 0)) := atI_w (by omega) (by omega)
      have e2 : atI (w.map V.int) (1 + (i : Int) - 1) = some (V.int (w.getD i 0)) := atI_w (by omega) (by omega)
      simp only [tMk1, iEnumA, iSeq, tPar3, tSeq, tAsg, tCB, tCons, tNil, tVar, tOp, tUn, rI, rI0, rU, gName, gNil, gCons, gSub, rSetL, tC, tRet, tRetN, tNext, tIfS, tTest, tB, tAnd, tOr, tNot, tAndV, tOrV, tNotV, tIf,
  tDrop, tCall, tCallS, tPar, tAug, ipI, tBreak, tCont, tTup, tLst, rEq_int, rNe_int, rEq_bl, rNe_bl, rEq_str, rNe_str, HO.lst.injEq, HO.tup.injEq, Bool.not_eq_true', decide_eq_false_iff_not, rIxH, rIxTH, rCat, tSl, tPart, tNoPart, tBM, rAppend, L2.start, tFor_eq, tLc_eq, iList, iTup, iRng1, iRng2, iEnum, iZip, cx_K, cx_prog, cx_w, cx_nK, forall_const, tYes, wipe, List.foldl_cons, List.foldl_nil, and_assoc, List.map_cons, List.map_nil, List.length_cons, List.length_nil, List.replicate, List.append_nil, List.cons_append, List.nil_append,
  List.getElem?_cons_zero, List.getElem?_cons_succ, List.set_cons_zero, List.set_cons_succ, Nat.zero_add, Nat.add_zero, Nat.reduceAdd, Nat.reduceSub, Option.some.injEq, V.int.injEq, V.bl.injEq, V.ref.injEq, V.str.injEq,
  List.cons.injEq, and_true, true_and, exists_eq_left, exists_eq_left', exists_eq_right, exists_const, exists_eq, exists_and_left, exists_and_right, upd_same, upd_upd, atI_0, atI_1, atI_2, atI_3, ixN_4_0, ixN_4_1, ixN_4_2, ixN_4_3, some_lst, some_tup, decide_eq_true_eq, reduceCtorEq,
  V.int.injEq, Bool.true_eq_false, Bool.false_eq_true, if_true, if_false, ite_true, ite_false, eq_self, not_true_eq_false, not_false_eq_true, decide_true, decide_false, Bool.not_true, Bool.not_false, false_and, and_false, exists_false, s2 _ _ hp, e1, e2]
      by_cases c : w.getD i 0 ≤ w.getD (i + 1) 0
      · rw [if_pos c]
        exact qk _ H (Same.refl H) (if_pos c)
      · rw [if_neg c]
        exact qn H (Same.refl H) (if_neg c)
    · refine ⟨D, rfl, _, hd, fun l hl2 => ?_⟩
      have e : (List.range ((w.length : Int) - 1).toNat).filterMap (fun i => if w.getD i 0 ≤ w.getD (i + 1) 0 then some (V.int (1 + (i : Nat))) else none) = (places w).map V.int := by
        have n : ((w.length : Int) - 1).toNat = w.length - 1 := by omega
        unfold places
        rw [n, List.map_filterMap]
        congr 1
        funext i
        by_cases c : w.getD i 0 ≤ w.getD (i + 1) 0
        · rw [if_pos c, if_pos c, Int.add_comm]; rfl
        · rw [if_neg c, if_neg c]; rfl
      rw [e]
      exact hok t w eth hb (by omega) l _ ((sm.trans s2).trans (same_upd hl2)) upd_same
end Mine

namespace Mine
open PySem PySem.Spec PyProof.Rows L2
local macro_rules | `(tactic| walk_at "rd") => `(tactic| try simp only [tMk1, iEnumA, iSeq, tPar3, tSeq, tAsg, tCB, tCons, tNil, tVar, tOp, tUn, rI, rI0, rU, gName, gNil, gCons, gSub, rSetL, tC, tRet, tRetN, tNext, tIfS, tTest, tB, tAnd, tOr, tNot, tAndV, tOrV, tNotV, tIf,
  tDrop, tCall, tCallS, tPar, tAug, ipI, tBreak, tCont, tTup, tLst, rEq_int, rNe_int, rEq_bl, rNe_bl, rEq_str, rNe_str, HO.lst.injEq, HO.tup.injEq, Bool.not_eq_true', decide_eq_false_iff_not, rIxH, rIxTH, rCat, tSl, tPart, tNoPart, tBM, rAppend, L2.start, tFor_eq, tLc_eq, iList, iTup, iRng1, iRng2, iEnum, iZip, cx_K, cx_prog, cx_w, cx_nK, forall_const, tYes, wipe, List.foldl_cons, List.foldl_nil, and_assoc, List.map_cons, List.map_nil, List.length_cons, List.length_nil, List.replicate, List.append_nil, List.cons_append, List.nil_append,
  List.getElem?_cons_zero, List.getElem?_cons_succ, List.set_cons_zero, List.set_cons_succ, Nat.zero_add, Nat.add_zero, Nat.reduceAdd, Nat.reduceSub, Option.some.injEq, V.int.injEq, V.bl.injEq, V.ref.injEq, V.str.injEq,
  List.cons.injEq, and_true, true_and, exists_eq_left, exists_eq_left', exists_eq_right, exists_const, exists_eq, exists_and_left, exists_and_right, upd_same, upd_upd, atI_0, atI_1, atI_2, atI_3, ixN_4_0, ixN_4_1, ixN_4_2, ixN_4_3, some_lst, some_tup, decide_eq_true_eq, reduceCtorEq,
  V.int.injEq, Bool.true_eq_false, Bool.false_eq_true, if_true, if_false, ite_true, ite_false, eq_self, not_true_eq_false, not_false_eq_true, decide_true, decide_false, Bool.not_true, Bool.not_false, false_and, and_false, exists_false])
local macro_rules | `(tactic| walk_at "mono") => `(tactic| repeat (first | with_reducible exact mon_var _ | with_reducible exact mon_c _ | with_reducible exact mon_rI _ _ | with_reducible exact mon_rI0 _ | with_reducible exact mon_rEq | with_reducible exact mon_rNe | with_reducible refine mon_test ?_ | with_reducible refine mon_op ?_ ?_ ?_ | with_reducible refine mon_and ?_ ?_ | with_reducible refine mon_or ?_ ?_ | with_reducible exact mon_rU _ | with_reducible refine mon_un ?_ ?_))
local macro_rules | `(tactic| walk_at "sd") => `(tactic| first | assumption | omega | (unfold CMul; omega) | (unfold CDiv; omega) | rfl | decide)
local macro_rules | `(tactic| walk_at "go") => `(tactic| repeat (refine And.intro (by first | assumption | omega | exact tyL (by assumption) | (unfold CMul; omega) | (unfold CDiv; omega) | rfl | decide) ?_))
-- needs: check_word, rises_of
def sp_rise_sum (K : PySem.W.Frag) : Sp := fun vs H Q E => ∃ (x : V) (th : Th), vs = [x] ∧ ThAt K H x th ∧
  (∀ t w, th = .row t (w.map V.int) → TS.Bd 4 w → w.length ≤ 61 → ∀ H', Same H H' → Q (.int (wsum 0 (rise w))) H') ∧
  (∀ i, wordDue 4 61 th = some i → ∀ d H', Same H H' → H' d = some (.xd [("index", .int i)]) → E (.ref (He.ga K "BadWord")) (some d) H')
theorem rise_sum_use {K : PySem.W.Frag} {H : Hp} {x : V} {t : Bool} {w : List Int} {Q : VK} {E : XK} (h : ThAt K H x (.row t (w.map V.int))) (hb : TS.Bd 4 w) (hl : w.length ≤ 61) (q : ∀ H', Same H H' → Q (.int (wsum 0 (rise w))) H') : sp_rise_sum K [x] H Q E :=
  ⟨x, _, rfl, h, fun t2 w2 e _ _ H2 s => by obtain rfl := map_int_inj (Th.row.inj e).2; exact q H2 s, fun i e => by rw [due_good hb (by omega)] at e; cases e⟩
theorem ok_rise_sum {P : Program} {w : World} {K : PySem.W.Frag} {mg : Str → Option Value} {base : Heap} (T : Txt K mg) : ∃ fd, FnOk P w K mg base (L2.CX P w) 5 (He.ga K "rise_sum") fd P_rise_sum (sp_rise_sum K) ∧ D_rise_sum K (He.ga K "rise_sum") fd := by
  obtain ⟨fd, F⟩ := T.F_rise_sum
  obtain ⟨fd_rises_of, G_rises_of, D_rises_of⟩ := ok_rises_of (P := P) (w := w) (base := base) T
  have k_rises_of := D_rises_of.kp
  have b_rises_of := bd_rises_of D_rises_of
  refine ⟨fd, F.ok sc_rise_sum (fun vs H Q E h => ?_) (fun cdv A outer s H vs Q E hr h => ?_), F⟩
  · obtain ⟨x, th, rfl, _⟩ := h
    rfl
  ·
    obtain ⟨x, th, rfl, hT, hok, hbad⟩ := h
    refine ⟨_, (pss_one (ps_ret (pe_callB (CallR.k (r := rSumT) (K := K) (cr_sumT rfl) rfl) (by rfl) T.z_sum (by decide +kernel) (pa_cons (pe_call G_rises_of (hr.mono (by decide)) rfl T.g_rises_of k_rises_of b_rises_of .nil (E := E) (passes_call (takes_of rfl rfl rfl rfl) fun _ _ _ _ h => h) (pa_cons (pv 0) pa_nil)) pa_nil)))), ?_⟩
    walk_at "rd"
    refine ⟨x, th, rfl, hT, fun t w e hb hl p H1 sm hp => ?_, hbad⟩
    refine ⟨p, places w, rfl, .inl (.inl hp), ?_⟩
    rw [places_sum]
    exact hok t w e hb hl H1 sm
end Mine

namespace Mine
open PySem PySem.Spec PyProof.Rows L2
local macro_rules | `(tactic| walk_at "rd") => `(tactic| try simp only [tMk1, iEnumA, iSeq, tPar3, tSeq, tAsg, tCB, tCons, tNil, tVar, tOp, tUn, rI, rI0, rU, gName, gNil, gCons, gSub, rSetL, tC, tRet, tRetN, tNext, tIfS, tTest, tB, tAnd, tOr, tNot, tAndV, tOrV, tNotV, tIf,
  tDrop, tCall, tCallS, tPar, tAug, ipI, tBreak, tCont, tTup, tLst, rEq_int, rNe_int, rEq_bl, rNe_bl, rEq_str, rNe_str, HO.lst.injEq, HO.tup.injEq, Bool.not_eq_true', decide_eq_false_iff_not, rIxH, rIxTH, rCat, tSl, tPart, tNoPart, tBM, rAppend, L2.start, tFor_eq, tLc_eq, iList, iTup, iRng1, iRng2, iEnum, iZip, cx_K, cx_prog, cx_w, cx_nK, forall_const, tYes, wipe, List.foldl_cons, List.foldl_nil, and_assoc, List.map_cons, List.map_nil, List.length_cons, List.length_nil, List.replicate, List.append_nil, List.cons_append, List.nil_append,
  List.getElem?_cons_zero, List.getElem?_cons_succ, List.set_cons_zero, List.set_cons_succ, Nat.zero_add, Nat.add_zero, Nat.reduceAdd, Nat.reduceSub, Option.some.injEq, V.int.injEq, V.bl.injEq, V.ref.injEq, V.str.injEq,
  List.cons.injEq, and_true, true_and, exists_eq_left, exists_eq_left', exists_eq_right, exists_const, exists_eq, exists_and_left, exists_and_right, upd_same, upd_upd, atI_0, atI_1, atI_2, atI_3, ixN_4_0, ixN_4_1, ixN_4_2, ixN_4_3, some_lst, some_tup, decide_eq_true_eq, reduceCtorEq,
  V.int.injEq, Bool.true_eq_false, Bool.false_eq_true, if_true, if_false, ite_true, ite_false, eq_self, not_true_eq_false, not_false_eq_true, decide_true, decide_false, Bool.not_true, Bool.not_false, false_and, and_false, exists_false])
local macro_rules | `(tactic| walk_at "mono") => `(tactic| repeat (first | with_reducible exact mon_var _ | with_reducible exact mon_c _ | with_reducible exact mon_rI _ _ | with_reducible exact mon_rI0 _ | with_reducible exact mon_rEq | with_reducible exact mon_rNe | with_reducible refine mon_test ?_ | with_reducible refine mon_op ?_ ?_ ?_ | with_reducible refine mon_and ?_ ?_ | with_reducible refine mon_or ?_ ?_ | with_reducible exact mon_rU _ | with_reducible refine mon_un ?_ ?_))
local macro_rules | `(tactic| walk_at "sd") => `(tactic| first | assumption | omega | (unfold CMul; omega) | (unfold CDiv; omega) | rfl | decide)
local macro_rules | `(tactic| walk_at "go") => `(tactic| repeat (refine And.intro (by first | assumption | omega | exact tyL (by assumption) | (unfold CMul; omega) | (unfold CDiv; omega) | rfl | decide) ?_))
-- needs: check_word
def sp_rise_word (K : PySem.W.Frag) : Sp := fun vs H Q E => ∃ (x : V) (th : Th), vs = [x] ∧ ThAt K H x th ∧
  (∀ t w, th = .row t (w.map V.int) → TS.Bd 4 w → w.length ≤ 61 → ∀ p H', Same H H' → H' p = some (.tup ((rise w).map V.int)) → Q (.ref p) H') ∧
  (∀ i, wordDue 4 61 th = some i → ∀ d H', Same H H' → H' d = some (.xd [("index", .int i)]) → E (.ref (He.ga K "BadWord")) (some d) H')
theorem rise_word_use {K : PySem.W.Frag} {H : Hp} {x : V} {t : Bool} {w : List Int} {Q : VK} {E : XK} (h : ThAt K H x (.row t (w.map V.int))) (hb : TS.Bd 4 w) (hl : w.length ≤ 61) (q : ∀ p H', Same H H' → H' p = some (.tup ((rise w).map V.int)) → Q (.ref p) H') : sp_rise_word K [x] H Q E :=
  ⟨x, _, rfl, h, fun t2 w2 e _ _ p H2 s h => q p H2 s (by obtain rfl := map_int_inj (Th.row.inj e).2; exact h), fun i e => by rw [due_good hb (by omega)] at e; cases e⟩
theorem ok_rise_word {P : Program} {w : World} {K : PySem.W.Frag} {mg : Str → Option Value} {base : Heap} (T : Txt K mg) : ∃ fd, FnOk P w K mg base (L2.CX P w) 4 (He.ga K "rise_word") fd P_rise_word (sp_rise_word K) ∧ D_rise_word K (He.ga K "rise_word") fd := by
  obtain ⟨fd, F⟩ := T.F_rise_word
  obtain ⟨fd_check_word, G_check_word, D_check_word⟩ := ok_check_word (P := P) (w := w) (base := base) T
  have k_check_word := D_check_word.kp
  obtain ⟨ds_check_word_3, r_check_word_3, b_check_word_3⟩ := bd_check_word_3 D_check_word
  refine ⟨fd, F.ok sc_rise_word (fun vs H Q E h => ?_) (fun cdv A outer s H vs Q E hr h => ?_), F⟩
  · obtain ⟨x, th, rfl, _⟩ := h
    rfl
  ·
    obtain ⟨x, th, rfl, hT, hok, hbad⟩ := h
    refine ⟨_, (pss_cons (ps_set (i := 0) sc_rise_word.nd rfl (by first | exact Or.inl rfl | exact Or.inr rfl) (pe_call G_check_word (hr.mono (by decide)) rfl T.g_check_word k_check_word b_check_word_3 r_check_word_3 (E := E) (passes_call (takes_of rfl rfl rfl rfl) fun _ _ _ _ h => h) (pa_cons pe_int (pa_cons (pv 0) (pa_cons (pe_glob (v := .int (61)) rfl T.c_MOST_HERE.choose_spec ⟨_, rfl⟩) pa_nil)))))
    (pss_one (ps_ret (pe_callTy call_tupL (by rfl) T.z_tuple (by decide +kernel) (pa_cons (pe_lc (own := [("place", 1)]) rfl sc_rise_word.nd (pi_range2 (by rfl) T.z_range (pa_cons pe_int (pa_cons (pe_callB call_lenT (by rfl) T.z_len (by decide +kernel) (pa_cons (pv 0) pa_nil)) pa_nil))) (blkOk_by (own := [("place", 1)]) (N := N_rise_word) (sc := defScope s_rise_word) (by decide +kernel)) (fun _ _ _ _ _ => (pg_name (i := 1) sc_rise_word.nd rfl (by first | exact Or.inl rfl | exact Or.inr rfl))) (fun _ _ _ _ _ => pts_nil) (fun _ _ _ _ _ => (pe_ifExp (pt_cmpR op_ge (pe_ix ix_TH (pv 0) (pv 1) (fun _ _ => rfl)) (pe_ix ix_TH (pv 0) (pe_op op_sub (pv 1) pe_int) (fun _ _ => rfl)) (nomark _)) pe_int pe_int))) pa_nil))))), ?_⟩
    walk_at "rd"
    refine ⟨4, 61, x, th, rfl, hT, fun t xs eth due p H1 sm hp => ?_, hbad⟩
    obtain ⟨w, rfl, hb, hl⟩ := due_none (eth ▸ due)
    simp only [tMk1, iEnumA, iSeq, tPar3, tSeq, tAsg, tCB, tCons, tNil, tVar, tOp, tUn, rI, rI0, rU, gName, gNil, gCons, gSub, rSetL, tC, tRet, tRetN, tNext, tIfS, tTest, tB, tAnd, tOr, tNot, tAndV, tOrV, tNotV, tIf,
  tDrop, tCall, tCallS, tPar, tAug, ipI, tBreak, tCont, tTup, tLst, rEq_int, rNe_int, rEq_bl, rNe_bl, rEq_str, rNe_str, HO.lst.injEq, HO.tup.injEq, Bool.not_eq_true', decide_eq_false_iff_not, rIxH, rIxTH, rCat, tSl, tPart, tNoPart, tBM, rAppend, L2.start, tFor_eq, tLc_eq, iList, iTup, iRng1, iRng2, iEnum, iZip, cx_K, cx_prog, cx_w, cx_nK, forall_const, tYes, wipe, List.foldl_cons, List.foldl_nil, and_assoc, List.map_cons, List.map_nil, List.length_cons, List.length_nil, List.replicate, List.append_nil, List.cons_append, List.nil_append,
  List.getElem?_cons_zero, List.getElem?_cons_succ, List.set_cons_zero, List.set_cons_succ, Nat.zero_add, Nat.add_zero, Nat.reduceAdd, Nat.reduceSub, Option.some.injEq, V.int.injEq, V.bl.injEq, V.ref.injEq, V.str.injEq,
  List.cons.injEq, and_true, true_and, exists_eq_left, exists_eq_left', exists_eq_right, exists_const, exists_eq, exists_and_left, exists_and_right, upd_same, upd_upd, atI_0, atI_1, atI_2, atI_3, ixN_4_0, ixN_4_1, ixN_4_2, ixN_4_3, some_lst, some_tup, decide_eq_true_eq, reduceCtorEq,
  V.int.injEq, Bool.true_eq_false, Bool.false_eq_true, if_true, if_false, ite_true, ite_false, eq_self, not_true_eq_false, not_false_eq_true, decide_true, decide_false, Bool.not_true, Bool.not_false, false_and, and_false, exists_false, hp]
    rw [List.length_map]
    refine ⟨by decide, by decide, by omega, by omega, fun D hD => ?_⟩
    refine Lc.rng (fun i => some (V.int (bit (w.getD i 0) (w.getD (i + 1) 0)))) hD (by omega) (fun _ => rfl) (fun i H Qk Qn hi s2 qk qn => ?_) fun H' s2 hd => ?_
    · have e1 : atI (w.map V.int) (1 + (i : Int)) = some (V.int (w.getD (i + 1) 0)) := atI_w (by omega) (by omega)
      have e2 : atI (w.map V.int) (1 + (i : Int) - 1) = some (V.int (w.getD i 0)) := atI_w (by omega) (by omega)
      simp only [tMk1, iEnumA, iSeq, tPar3, tSeq, tAsg, tCB, tCons, tNil, tVar, tOp, tUn, rI, rI0, rU, gName, gNil, gCons, gSub, rSetL, tC, tRet, tRetN, tNext, tIfS, tTest, tB, tAnd, tOr, tNot, tAndV, tOrV, tNotV, tIf,
  tDrop, tCall, tCallS, tPar, tAug, ipI, tBreak, tCont, tTup, tLst, rEq_int, rNe_int, rEq_bl, rNe_bl, rEq_str, rNe_str, HO.lst.injEq, HO.tup.injEq, Bool.not_eq_true', decide_eq_false_iff_not, rIxH, rIxTH, rCat, tSl, tPart, tNoPart, tBM, rAppend, L2.start, tFor_eq, tLc_eq, iList, iTup, iRng1, iRng2, iEnum, iZip, cx_K, cx_prog, cx_w, cx_nK, forall_const, tYes, wipe, List.foldl_cons, List.foldl_nil, and_assoc, List.map_cons, List.map_nil, List.length_cons, List.length_nil, List.replicate, List.append_nil, List.cons_append, List.nil_append,
  List.getElem?_cons_zero, List.getElem?_cons_succ, List.set_cons_zero, List.set_cons_succ, Nat.zero_add, Nat.add_zero, Nat.reduceAdd, Nat.reduceSub, Option.some.injEq, V.int.injEq, V.bl.injEq, V.ref.injEq, V.str.injEq,
  List.cons.injEq, and_true, true_and, exists_eq_left, exists_eq_left', exists_eq_right, exists_const, exists_eq, exists_and_left, exists_and_right, upd_same, upd_upd, atI_0, atI_1, atI_2, atI_3, ixN_4_0, ixN_4_1, ixN_4_2, ixN_4_3, some_lst, some_tup, decide_eq_true_eq, reduceCtorEq,
  V.int.injEq, Bool.true_eq_false, Bool.false_eq_true, if_true, if_false, ite_true, ite_false, eq_self, not_true_eq_false, not_false_eq_true, decide_true, decide_false, Bool.not_true, Bool.not_false, false_and, and_false, exists_false, s2 _ _ hp, e1, e2]
      by_cases c : w.getD i 0 ≤ w.getD (i + 1) 0
      · simp only [c, if_true]
        exact qk _ H (Same.refl H) (by unfold bit; rw [if_pos c])
      · simp only [c, if_false]
        exact qk _ H (Same.refl H) (by unfold bit; rw [if_neg c])
    · refine ⟨D, rfl, _, hd, fun l hl2 => ?_⟩
      have n : ((w.length : Int) - 1).toNat = w.length - 1 := by omega
      have e : (List.range ((w.length : Int) - 1).toNat).filterMap (fun i => some (V.int (bit (w.getD i 0) (w.getD (i + 1) 0)))) = (rise w).map V.int := by
        rw [some_map, rise_map, List.map_map, n]; rfl
      rw [e]
      exact hok t w eth hb (by omega) l _ ((sm.trans s2).trans (same_upd hl2)) upd_same
end Mine

namespace Mine
open PySem PySem.Spec PyProof.Rows L2
local macro_rules | `(tactic| walk_at "rd") => `(tactic| try simp only [tMk1, iEnumA, iSeq, tPar3, tSeq, tAsg, tCB, tCons, tNil, tVar, tOp, tUn, rI, rI0, rU, gName, gNil, gCons, gSub, rSetL, tC, tRet, tRetN, tNext, tIfS, tTest, tB, tAnd, tOr, tNot, tAndV, tOrV, tNotV, tIf,
  tDrop, tCall, tCallS, tPar, tAug, ipI, tBreak, tCont, tTup, tLst, rEq_int, rNe_int, rEq_bl, rNe_bl, rEq_str, rNe_str, HO.lst.injEq, HO.tup.injEq, Bool.not_eq_true', decide_eq_false_iff_not, rIxH, rIxTH, rCat, tSl, tPart, tNoPart, tBM, rAppend, L2.start, tFor_eq, tLc_eq, iList, iTup, iRng1, iRng2, iEnum, iZip, cx_K, cx_prog, cx_w, cx_nK, forall_const, tYes, wipe, List.foldl_cons, List.foldl_nil, and_assoc, List.map_cons, List.map_nil, List.length_cons, List.length_nil, List.replicate, List.append_nil, List.cons_append, List.nil_append,
  List.getElem?_cons_zero, List.getElem?_cons_succ, List.set_cons_zero, List.set_cons_succ, Nat.zero_add, Nat.add_zero, Nat.reduceAdd, Nat.reduceSub, Option.some.injEq, V.int.injEq, V.bl.injEq, V.ref.injEq, V.str.injEq,
  List.cons.injEq, and_true, true_and, exists_eq_left, exists_eq_left', exists_eq_right, exists_const, exists_eq, exists_and_left, exists_and_right, upd_same, upd_upd, atI_0, atI_1, atI_2, atI_3, ixN_4_0, ixN_4_1, ixN_4_2, ixN_4_3, some_lst, some_tup, decide_eq_true_eq, reduceCtorEq,
  V.int.injEq, Bool.true_eq_false, Bool.false_eq_true, if_true, if_false, ite_true, ite_false, eq_self, not_true_eq_false, not_false_eq_true, decide_true, decide_false, Bool.not_true, Bool.not_false, false_and, and_false, exists_false])
local macro_rules | `(tactic| walk_at "mono") => `(tactic| repeat (first | with_reducible exact mon_var _ | with_reducible exact mon_c _ | with_reducible exact mon_rI _ _ | with_reducible exact mon_rI0 _ | with_reducible exact mon_rEq | with_reducible exact mon_rNe | with_reducible refine mon_test ?_ | with_reducible refine mon_op ?_ ?_ ?_ | with_reducible refine mon_and ?_ ?_ | with_reducible refine mon_or ?_ ?_ | with_reducible exact mon_rU _ | with_reducible refine mon_un ?_ ?_))
local macro_rules | `(tactic| walk_at "sd") => `(tactic| first | assumption | omega | (unfold CMul; omega) | (unfold CDiv; omega) | rfl | decide)
local macro_rules | `(tactic| walk_at "go") => `(tactic| repeat (refine And.intro (by first | assumption | omega | exact tyL (by assumption) | (unfold CMul; omega) | (unfold CDiv; omega) | rfl | decide) ?_))
-- needs: is_whole
def sp_law_whole (K : PySem.W.Frag) : Sp := fun vs H Q _ => ∃ x : V, vs = [x] ∧ Kd K H x ∧ Q (.bl (wholeB x none none)) H
theorem ok_law_whole {P : Program} {w : World} {K : PySem.W.Frag} {mg : Str → Option Value} {base : Heap} (T : Txt K mg) : ∃ fd, FnOk P w K mg base CX0 1 (He.ga K "_law_whole") fd P_law_whole (sp_law_whole K) ∧ D_law_whole K (He.ga K "_law_whole") fd := by
  obtain ⟨fd, F⟩ := T.F_law_whole
  refine ⟨fd, F.ok sc_law_whole (fun vs H Q E h => ?_) (fun cdv A outer s H vs Q E hr h => ?_), F⟩
  · obtain ⟨x, rfl, _⟩ := h
    rfl
  ·
    obtain ⟨x, rfl, hx, q⟩ := h
    refine ⟨_, PSs.nox (pss_one (ps_ret (pe_and (pe_callB call_isInt (by rfl) T.z_isinstance (by decide +kernel) (pa_cons (pv 0) (pa_cons (pe_bltn (v := .ty "int") (by rfl) T.z_int (by decide +kernel) rfl) pa_nil))) (pe_one (pe_not (pe_callB call_isBool (by rfl) T.z_isinstance (by decide +kernel) (pa_cons (pv 0) (pa_cons (pe_bltn (v := .ty "bool") (by rfl) T.z_bool (by decide +kernel) rfl) pa_nil)))))))), ?_⟩
    walk_at "rd"
    refine ⟨hx, ?_⟩
    cases x with
    | int i => exact ite2 (fun z => ⟨hx, q⟩) (fun z => absurd rfl z)
    | bl b => exact ite2 (fun z => ⟨hx, q⟩) (fun z => absurd rfl z)
    | non => exact ite2 (fun z => by cases z) (fun z => q)
    | str z => exact ite2 (fun z => by cases z) (fun z => q)
    | ref a => exact ite2 (fun z => by cases z) (fun z => q)
    | byt b => cases hx
    | flt b => cases hx
    | ty n => cases hx
end Mine

namespace Mine
open PySem PySem.Spec PyProof.Rows L2
local macro_rules | `(tactic| walk_at "rd") => `(tactic| try simp only [tMk1, iEnumA, iSeq, tPar3, tSeq, tAsg, tCB, tCons, tNil, tVar, tOp, tUn, rI, rI0, rU, gName, gNil, gCons, gSub, rSetL, tC, tRet, tRetN, tNext, tIfS, tTest, tB, tAnd, tOr, tNot, tAndV, tOrV, tNotV, tIf,
  tDrop, tCall, tCallS, tPar, tAug, ipI, tBreak, tCont, tTup, tLst, rEq_int, rNe_int, rEq_bl, rNe_bl, rEq_str, rNe_str, HO.lst.injEq, HO.tup.injEq, Bool.not_eq_true', decide_eq_false_iff_not, rIxH, rIxTH, rCat, tSl, tPart, tNoPart, tBM, rAppend, L2.start, tFor_eq, tLc_eq, iList, iTup, iRng1, iRng2, iEnum, iZip, cx_K, cx_prog, cx_w, cx_nK, forall_const, tYes, wipe, List.foldl_cons, List.foldl_nil, and_assoc, List.map_cons, List.map_nil, List.length_cons, List.length_nil, List.replicate, List.append_nil, List.cons_append, List.nil_append,
  List.getElem?_cons_zero, List.getElem?_cons_succ, List.set_cons_zero, List.set_cons_succ, Nat.zero_add, Nat.add_zero, Nat.reduceAdd, Nat.reduceSub, Option.some.injEq, V.int.injEq, V.bl.injEq, V.ref.injEq, V.str.injEq,
  List.cons.injEq, and_true, true_and, exists_eq_left, exists_eq_left', exists_eq_right, exists_const, exists_eq, exists_and_left, exists_and_right, upd_same, upd_upd, atI_0, atI_1, atI_2, atI_3, ixN_4_0, ixN_4_1, ixN_4_2, ixN_4_3, some_lst, some_tup, decide_eq_true_eq, reduceCtorEq,
  V.int.injEq, Bool.true_eq_false, Bool.false_eq_true, if_true, if_false, ite_true, ite_false, eq_self, not_true_eq_false, not_false_eq_true, decide_true, decide_false, Bool.not_true, Bool.not_false, false_and, and_false, exists_false])
local macro_rules | `(tactic| walk_at "mono") => `(tactic| repeat (first | with_reducible exact mon_var _ | with_reducible exact mon_c _ | with_reducible exact mon_rI _ _ | with_reducible exact mon_rI0 _ | with_reducible exact mon_rEq | with_reducible exact mon_rNe | with_reducible refine mon_test ?_ | with_reducible refine mon_op ?_ ?_ ?_ | with_reducible refine mon_and ?_ ?_ | with_reducible refine mon_or ?_ ?_ | with_reducible exact mon_rU _ | with_reducible refine mon_un ?_ ?_))
local macro_rules | `(tactic| walk_at "sd") => `(tactic| first | assumption | omega | (unfold CMul; omega) | (unfold CDiv; omega) | rfl | decide)
local macro_rules | `(tactic| walk_at "go") => `(tactic| repeat (refine And.intro (by first | assumption | omega | exact tyL (by assumption) | (unfold CMul; omega) | (unfold CDiv; omega) | rfl | decide) ?_))
-- needs: law_whole
def sp_law_is_word : Sp := fun vs H Q _ => ∃ (a : Addr) (w : List Int), vs = [.ref a] ∧ H a = some (.tup (w.map V.int)) ∧ w.length ≤ 1000 ∧ ∀ H', Same H H' → Q (.bl true) H'
theorem ok_law_is_word {P : Program} {w : World} {K : PySem.W.Frag} {mg : Str → Option Value} {base : Heap} (T : Txt K mg) : ∃ fd, FnOk P w K mg base CX0 2 (He.ga K "_law_is_word") fd P_law_is_word sp_law_is_word ∧ D_law_is_word K (He.ga K "_law_is_word") fd := by
  obtain ⟨fd, F⟩ := T.F_law_is_word
  obtain ⟨fd_law_whole, G_law_whole, D_law_whole⟩ := ok_law_whole (P := P) (w := w) (base := base) T
  have k_law_whole := D_law_whole.kp
  have b_law_whole := bd_law_whole D_law_whole
  refine ⟨fd, F.ok sc_law_is_word (fun vs H Q E h => ?_) (fun cdv A outer s H vs Q E hr h => ?_), F⟩
  · obtain ⟨a, w, rfl, _⟩ := h
    rfl
  ·
    obtain ⟨a, w, rfl, ha, hl, q⟩ := h
    refine ⟨_, PSs.nox (pss_one (ps_ret (pe_and (pe_callB call_isTup (by rfl) T.z_isinstance (by decide +kernel) (pa_cons (pv 0) (pa_cons (pe_bltn (v := .ty "tuple") (by rfl) T.z_tuple (by decide +kernel) rfl) pa_nil))) (pe_one (pe_callB (CallR.k (r := rAll) (K := K) (cr_all rfl) rfl) (by rfl) T.z_all (by decide +kernel) (pa_cons (pe_lc (own := [("_law_letter", 1)]) rfl sc_law_is_word.nd (pi_tup (pv 0)) (blkOk_by (own := [("_law_letter", 1)]) (N := N_law_is_word) (sc := defScope s_law_is_word) (by decide +kernel)) (fun _ _ _ _ _ => (pg_name (i := 1) sc_law_is_word.nd rfl (by first | exact Or.inl rfl | exact Or.inr rfl))) (fun _ _ _ _ _ => pts_nil) (fun _ _ _ _ _ => (pe_call G_law_whole (hr.mono (by decide)) rfl T.g__law_whole k_law_whole b_law_whole .nil pass0 (pa_cons (pv 1) pa_nil)))) pa_nil)))))), ?_⟩
    simp only [tMk1, iEnumA, iSeq, tPar3, tSeq, tAsg, tCB, tCons, tNil, tVar, tOp, tUn, rI, rI0, rU, gName, gNil, gCons, gSub, rSetL, tC, tRet, tRetN, tNext, tIfS, tTest, tB, tAnd, tOr, tNot, tAndV, tOrV, tNotV, tIf,
  tDrop, tCall, tCallS, tPar, tAug, ipI, tBreak, tCont, tTup, tLst, rEq_int, rNe_int, rEq_bl, rNe_bl, rEq_str, rNe_str, HO.lst.injEq, HO.tup.injEq, Bool.not_eq_true', decide_eq_false_iff_not, rIxH, rIxTH, rCat, tSl, tPart, tNoPart, tBM, rAppend, L2.start, tFor_eq, tLc_eq, iList, iTup, iRng1, iRng2, iEnum, iZip, cx_K, cx_prog, cx_w, cx_nK, forall_const, tYes, wipe, List.foldl_cons, List.foldl_nil, and_assoc, List.map_cons, List.map_nil, List.length_cons, List.length_nil, List.replicate, List.append_nil, List.cons_append, List.nil_append,
  List.getElem?_cons_zero, List.getElem?_cons_succ, List.set_cons_zero, List.set_cons_succ, Nat.zero_add, Nat.add_zero, Nat.reduceAdd, Nat.reduceSub, Option.some.injEq, V.int.injEq, V.bl.injEq, V.ref.injEq, V.str.injEq,
  List.cons.injEq, and_true, true_and, exists_eq_left, exists_eq_left', exists_eq_right, exists_const, exists_eq, exists_and_left, exists_and_right, upd_same, upd_upd, atI_0, atI_1, atI_2, atI_3, ixN_4_0, ixN_4_1, ixN_4_2, ixN_4_3, some_lst, some_tup, decide_eq_true_eq, reduceCtorEq,
  V.int.injEq, Bool.true_eq_false, Bool.false_eq_true, if_true, if_false, ite_true, ite_false, eq_self, not_true_eq_false, not_false_eq_true, decide_true, decide_false, Bool.not_true, Bool.not_false, false_and, and_false, exists_false, ha]
    refine ⟨true, .inr ⟨rfl, _, .inl (.inl ha)⟩, ?_⟩
    rw [if_pos rfl]
    refine ⟨⟨_, .inl (.inl ha)⟩, fun D hD => ?_⟩
    refine Lc.ints (fun _ => some (V.bl true)) (.inl (.inl ha)) hD (by omega) (fun _ => rfl) (fun i H1 Qk Qn hi s1 qk _ => ?_) fun H1 s1 hd => ?_
    · walk_at "rd"
      exact ⟨_, rfl, trivial, qk _ H1 (Same.refl H1) rfl⟩
    · refine ⟨D, List.replicate w.length true, rfl, .inl (.inl ?_), ?_⟩
      · rw [hd, some_map, List.map_replicate]
        congr 2
        refine List.ext_getElem (by simp) fun i h1 h2 => by simp
      · have : (List.replicate w.length true).all id = true := List.all_eq_true.mpr fun x hx => (List.mem_replicate.mp hx).2
        rw [this]
        exact q H1 s1
end Mine

namespace Mine
open PySem PySem.Spec PyProof.Rows L2
local macro_rules | `(tactic| walk_at "rd") => `(tactic| try simp only [tMk1, iEnumA, iSeq, tPar3, tSeq, tAsg, tCB, tCons, tNil, tVar, tOp, tUn, rI, rI0, rU, gName, gNil, gCons, gSub, rSetL, tC, tRet, tRetN, tNext, tIfS, tTest, tB, tAnd, tOr, tNot, tAndV, tOrV, tNotV, tIf,
  tDrop, tCall, tCallS, tPar, tAug, ipI, tBreak, tCont, tTup, tLst, rEq_int, rNe_int, rEq_bl, rNe_bl, rEq_str, rNe_str, HO.lst.injEq, HO.tup.injEq, Bool.not_eq_true', decide_eq_false_iff_not, rIxH, rIxTH, rCat, tSl, tPart, tNoPart, tBM, rAppend, L2.start, tFor_eq, tLc_eq, iList, iTup, iRng1, iRng2, iEnum, iZip, cx_K, cx_prog, cx_w, cx_nK, forall_const, tYes, wipe, List.foldl_cons, List.foldl_nil, and_assoc, List.map_cons, List.map_nil, List.length_cons, List.length_nil, List.replicate, List.append_nil, List.cons_append, List.nil_append,
  List.getElem?_cons_zero, List.getElem?_cons_succ, List.set_cons_zero, List.set_cons_succ, Nat.zero_add, Nat.add_zero, Nat.reduceAdd, Nat.reduceSub, Option.some.injEq, V.int.injEq, V.bl.injEq, V.ref.injEq, V.str.injEq,
  List.cons.injEq, and_true, true_and, exists_eq_left, exists_eq_left', exists_eq_right, exists_const, exists_eq, exists_and_left, exists_and_right, upd_same, upd_upd, atI_0, atI_1, atI_2, atI_3, ixN_4_0, ixN_4_1, ixN_4_2, ixN_4_3, some_lst, some_tup, decide_eq_true_eq, reduceCtorEq,
  V.int.injEq, Bool.true_eq_false, Bool.false_eq_true, if_true, if_false, ite_true, ite_false, eq_self, not_true_eq_false, not_false_eq_true, decide_true, decide_false, Bool.not_true, Bool.not_false, false_and, and_false, exists_false])
local macro_rules | `(tactic| walk_at "mono") => `(tactic| repeat (first | with_reducible exact mon_var _ | with_reducible exact mon_c _ | with_reducible exact mon_rI _ _ | with_reducible exact mon_rI0 _ | with_reducible exact mon_rEq | with_reducible exact mon_rNe | with_reducible refine mon_test ?_ | with_reducible refine mon_op ?_ ?_ ?_ | with_reducible refine mon_and ?_ ?_ | with_reducible refine mon_or ?_ ?_ | with_reducible exact mon_rU _ | with_reducible refine mon_un ?_ ?_))
local macro_rules | `(tactic| walk_at "sd") => `(tactic| first | assumption | omega | (unfold CMul; omega) | (unfold CDiv; omega) | rfl | decide)
local macro_rules | `(tactic| walk_at "go") => `(tactic| repeat (refine And.intro (by first | assumption | omega | exact tyL (by assumption) | (unfold CMul; omega) | (unfold CDiv; omega) | rfl | decide) ?_))
def sp_law_rise_word : Sp := fun vs H Q _ => ∃ (a : Addr) (w : List Int), vs = [.ref a] ∧ H a = some (.tup (w.map V.int)) ∧ w.length ≤ 1000 ∧
  ∀ p H', Same H H' → H' p = some (.tup ((rise w).map V.int)) → Q (.ref p) H'
theorem ok_law_rise_word {P : Program} {w : World} {K : PySem.W.Frag} {mg : Str → Option Value} {base : Heap} (T : Txt K mg) : ∃ fd, FnOk P w K mg base CX0 1 (He.ga K "_law_rise_word") fd P_law_rise_word sp_law_rise_word ∧ D_law_rise_word K (He.ga K "_law_rise_word") fd := by
  obtain ⟨fd, F⟩ := T.F_law_rise_word
  refine ⟨fd, F.ok sc_law_rise_word (fun vs H Q E h => ?_) (fun cdv A outer s H vs Q E hr h => ?_), F⟩
  · obtain ⟨a, w, rfl, _⟩ := h
    rfl
  ·
    obtain ⟨a, w, rfl, ha, hl, q⟩ := h
    refine ⟨_, PSs.nox (pss_one (ps_ret (pe_callTy call_tupL (by rfl) T.z_tuple (by decide +kernel) (pa_cons (pe_lc (own := [("_law_k", 1)]) rfl sc_law_rise_word.nd (pi_range1 (by rfl) T.z_range (pa_cons (pe_op op_sub (pe_callB call_lenT (by rfl) T.z_len (by decide +kernel) (pa_cons (pv 0) pa_nil)) pe_int) pa_nil)) (blkOk_by (own := [("_law_k", 1)]) (N := N_law_rise_word) (sc := defScope s_law_rise_word) (by decide +kernel)) (fun _ _ _ _ _ => (pg_name (i := 1) sc_law_rise_word.nd rfl (by first | exact Or.inl rfl | exact Or.inr rfl))) (fun _ _ _ _ _ => pts_nil) (fun _ _ _ _ _ => (pe_ifExp (pt_cmpR op_ge (pe_ix ix_TH (pv 0) (pe_op op_add (pv 1) pe_int) (fun _ _ => rfl)) (pe_ix ix_TH (pv 0) (pv 1) (fun _ _ => rfl)) (nomark _)) pe_int pe_int))) pa_nil)))), ?_⟩
    simp only [tMk1, iEnumA, iSeq, tPar3, tSeq, tAsg, tCB, tCons, tNil, tVar, tOp, tUn, rI, rI0, rU, gName, gNil, gCons, gSub, rSetL, tC, tRet, tRetN, tNext, tIfS, tTest, tB, tAnd, tOr, tNot, tAndV, tOrV, tNotV, tIf,
  tDrop, tCall, tCallS, tPar, tAug, ipI, tBreak, tCont, tTup, tLst, rEq_int, rNe_int, rEq_bl, rNe_bl, rEq_str, rNe_str, HO.lst.injEq, HO.tup.injEq, Bool.not_eq_true', decide_eq_false_iff_not, rIxH, rIxTH, rCat, tSl, tPart, tNoPart, tBM, rAppend, L2.start, tFor_eq, tLc_eq, iList, iTup, iRng1, iRng2, iEnum, iZip, cx_K, cx_prog, cx_w, cx_nK, forall_const, tYes, wipe, List.foldl_cons, List.foldl_nil, and_assoc, List.map_cons, List.map_nil, List.length_cons, List.length_nil, List.replicate, List.append_nil, List.cons_append, List.nil_append,
  List.getElem?_cons_zero, List.getElem?_cons_succ, List.set_cons_zero, List.set_cons_succ, Nat.zero_add, Nat.add_zero, Nat.reduceAdd, Nat.reduceSub, Option.some.injEq, V.int.injEq, V.bl.injEq, V.ref.injEq, V.str.injEq,
  List.cons.injEq, and_true, true_and, exists_eq_left, exists_eq_left', exists_eq_right, exists_const, exists_eq, exists_and_left, exists_and_right, upd_same, upd_upd, atI_0, atI_1, atI_2, atI_3, ixN_4_0, ixN_4_1, ixN_4_2, ixN_4_3, some_lst, some_tup, decide_eq_true_eq, reduceCtorEq,
  V.int.injEq, Bool.true_eq_false, Bool.false_eq_true, if_true, if_false, ite_true, ite_false, eq_self, not_true_eq_false, not_false_eq_true, decide_true, decide_false, Bool.not_true, Bool.not_false, false_and, and_false, exists_false, ha]
    rw [List.length_map]
    refine ⟨by omega, by omega, fun D hD => ?_⟩
    refine Lc.rng (fun i => some (V.int (bit (w.getD i 0) (w.getD (i + 1) 0)))) hD (by omega) (fun _ => rfl) (fun i H1 Qk Qn hi s2 qk qn => ?_) fun H' s2 hd => ?_
    · have e1 : atI (w.map V.int) (0 + (i : Int) + 1) = some (V.int (w.getD (i + 1) 0)) := atI_w (by omega) (by omega)
      have e2 : atI (w.map V.int) (0 + (i : Int)) = some (V.int (w.getD i 0)) := atI_w (by omega) (by omega)
      simp only [tMk1, iEnumA, iSeq, tPar3, tSeq, tAsg, tCB, tCons, tNil, tVar, tOp, tUn, rI, rI0, rU, gName, gNil, gCons, gSub, rSetL, tC, tRet, tRetN, tNext, tIfS, tTest, tB, tAnd, tOr, tNot, tAndV, tOrV, tNotV, tIf,
  tDrop, tCall, tCallS, tPar, tAug, ipI, tBreak, tCont, tTup, tLst, rEq_int, rNe_int, rEq_bl, rNe_bl, rEq_str, rNe_str, HO.lst.injEq, HO.tup.injEq, Bool.not_eq_true', decide_eq_false_iff_not, rIxH, rIxTH, rCat, tSl, tPart, tNoPart, tBM, rAppend, L2.start, tFor_eq, tLc_eq, iList, iTup, iRng1, iRng2, iEnum, iZip, cx_K, cx_prog, cx_w, cx_nK, forall_const, tYes, wipe, List.foldl_cons, List.foldl_nil, and_assoc, List.map_cons, List.map_nil, List.length_cons, List.length_nil, List.replicate, List.append_nil, List.cons_append, List.nil_append,
  List.getElem?_cons_zero, List.getElem?_cons_succ, List.set_cons_zero, List.set_cons_succ, Nat.zero_add, Nat.add_zero, Nat.reduceAdd, Nat.reduceSub, Option.some.injEq, V.int.injEq, V.bl.injEq, V.ref.injEq, V.str.injEq,
  List.cons.injEq, and_true, true_and, exists_eq_left, exists_eq_left', exists_eq_right, exists_const, exists_eq, exists_and_left, exists_and_right, upd_same, upd_upd, atI_0, atI_1, atI_2, atI_3, ixN_4_0, ixN_4_1, ixN_4_2, ixN_4_3, some_lst, some_tup, decide_eq_true_eq, reduceCtorEq,
  V.int.injEq, Bool.true_eq_false, Bool.false_eq_true, if_true, if_false, ite_true, ite_false, eq_self, not_true_eq_false, not_false_eq_true, decide_true, decide_false, Bool.not_true, Bool.not_false, false_and, and_false, exists_false, s2 _ _ ha, e1, e2]
      by_cases c : w.getD i 0 ≤ w.getD (i + 1) 0
      · simp only [c, if_true]
        exact qk _ H1 (Same.refl H1) (by unfold bit; rw [if_pos c])
      · simp only [c, if_false]
        exact qk _ H1 (Same.refl H1) (by unfold bit; rw [if_neg c])
    · refine ⟨D, rfl, _, hd, fun l hl2 => ?_⟩
      have n : ((w.length : Int) - 1).toNat = w.length - 1 := by omega
      have e : (List.range ((w.length : Int) - 1).toNat).filterMap (fun i => some (V.int (bit (w.getD i 0) (w.getD (i + 1) 0)))) = (rise w).map V.int := by
        rw [some_map, rise_map, List.map_map, n]; rfl
      rw [e]
      exact q l _ (s2.trans (same_upd hl2)) upd_same
end Mine

namespace Mine
open PySem PySem.Spec PyProof.Rows L2
local macro_rules | `(tactic| walk_at "rd") => `(tactic| try simp only [tMk1, iEnumA, iSeq, tPar3, tSeq, tAsg, tCB, tCons, tNil, tVar, tOp, tUn, rI, rI0, rU, gName, gNil, gCons, gSub, rSetL, tC, tRet, tRetN, tNext, tIfS, tTest, tB, tAnd, tOr, tNot, tAndV, tOrV, tNotV, tIf,
  tDrop, tCall, tCallS, tPar, tAug, ipI, tBreak, tCont, tTup, tLst, rEq_int, rNe_int, rEq_bl, rNe_bl, rEq_str, rNe_str, HO.lst.injEq, HO.tup.injEq, Bool.not_eq_true', decide_eq_false_iff_not, rIxH, rIxTH, rCat, tSl, tPart, tNoPart, tBM, rAppend, L2.start, tFor_eq, tLc_eq, iList, iTup, iRng1, iRng2, iEnum, iZip, cx_K, cx_prog, cx_w, cx_nK, forall_const, tYes, wipe, List.foldl_cons, List.foldl_nil, and_assoc, List.map_cons, List.map_nil, List.length_cons, List.length_nil, List.replicate, List.append_nil, List.cons_append, List.nil_append,
  List.getElem?_cons_zero, List.getElem?_cons_succ, List.set_cons_zero, List.set_cons_succ, Nat.zero_add, Nat.add_zero, Nat.reduceAdd, Nat.reduceSub, Option.some.injEq, V.int.injEq, V.bl.injEq, V.ref.injEq, V.str.injEq,
  List.cons.injEq, and_true, true_and, exists_eq_left, exists_eq_left', exists_eq_right, exists_const, exists_eq, exists_and_left, exists_and_right, upd_same, upd_upd, atI_0, atI_1, atI_2, atI_3, ixN_4_0, ixN_4_1, ixN_4_2, ixN_4_3, some_lst, some_tup, decide_eq_true_eq, reduceCtorEq,
  V.int.injEq, Bool.true_eq_false, Bool.false_eq_true, if_true, if_false, ite_true, ite_false, eq_self, not_true_eq_false, not_false_eq_true, decide_true, decide_false, Bool.not_true, Bool.not_false, false_and, and_false, exists_false])
local macro_rules | `(tactic| walk_at "mono") => `(tactic| repeat (first | with_reducible exact mon_var _ | with_reducible exact mon_c _ | with_reducible exact mon_rI _ _ | with_reducible exact mon_rI0 _ | with_reducible exact mon_rEq | with_reducible exact mon_rNe | with_reducible refine mon_test ?_ | with_reducible refine mon_op ?_ ?_ ?_ | with_reducible refine mon_and ?_ ?_ | with_reducible refine mon_or ?_ ?_ | with_reducible exact mon_rU _ | with_reducible refine mon_un ?_ ?_))
local macro_rules | `(tactic| walk_at "sd") => `(tactic| first | assumption | omega | (unfold CMul; omega) | (unfold CDiv; omega) | rfl | decide)
local macro_rules | `(tactic| walk_at "go") => `(tactic| repeat (refine And.intro (by first | assumption | omega | exact tyL (by assumption) | (unfold CMul; omega) | (unfold CDiv; omega) | rfl | decide) ?_))
-- needs: rises_of
def sp_law_rises : Sp := fun vs H Q _ => ∃ (a : Addr) (w : List Int), vs = [.ref a] ∧ H a = some (.tup (w.map V.int)) ∧ w.length ≤ 1000 ∧
  ∀ p H', Same H H' → H' p = some (.lst ((places w).map V.int)) → Q (.ref p) H'
theorem ok_law_rises {P : Program} {w : World} {K : PySem.W.Frag} {mg : Str → Option Value} {base : Heap} (T : Txt K mg) : ∃ fd, FnOk P w K mg base CX0 1 (He.ga K "_law_rises") fd P_law_rises sp_law_rises ∧ D_law_rises K (He.ga K "_law_rises") fd := by
  obtain ⟨fd, F⟩ := T.F_law_rises
  refine ⟨fd, F.ok sc_law_rises (fun vs H Q E h => ?_) (fun cdv A outer s H vs Q E hr h => ?_), F⟩
  · obtain ⟨a, w, rfl, _⟩ := h
    rfl
  ·
    obtain ⟨a, w, rfl, ha, hl, q⟩ := h
    refine ⟨_, PSs.nox (pss_one (ps_ret (pe_lc (own := [("_law_k", 1)]) rfl sc_law_rises.nd (pi_range1 (by rfl) T.z_range (pa_cons (pe_op op_sub (pe_callB call_lenT (by rfl) T.z_len (by decide +kernel) (pa_cons (pv 0) pa_nil)) pe_int) pa_nil)) (blkOk_by (own := [("_law_k", 1)]) (N := N_law_rises) (sc := defScope s_law_rises) (by decide +kernel)) (fun _ _ _ _ _ => (pg_name (i := 1) sc_law_rises.nd rfl (by first | exact Or.inl rfl | exact Or.inr rfl))) (fun _ _ _ _ _ => (pts_one (pt_cmpR op_ge (pe_ix ix_TH (pv 0) (pe_op op_add (pv 1) pe_int) (fun _ _ => rfl)) (pe_ix ix_TH (pv 0) (pv 1) (fun _ _ => rfl)) (nomark _)))) (fun _ _ _ _ _ => (pe_op op_add (pv 1) pe_int))))), ?_⟩
    simp only [tMk1, iEnumA, iSeq, tPar3, tSeq, tAsg, tCB, tCons, tNil, tVar, tOp, tUn, rI, rI0, rU, gName, gNil, gCons, gSub, rSetL, tC, tRet, tRetN, tNext, tIfS, tTest, tB, tAnd, tOr, tNot, tAndV, tOrV, tNotV, tIf,
  tDrop, tCall, tCallS, tPar, tAug, ipI, tBreak, tCont, tTup, tLst, rEq_int, rNe_int, rEq_bl, rNe_bl, rEq_str, rNe_str, HO.lst.injEq, HO.tup.injEq, Bool.not_eq_true', decide_eq_false_iff_not, rIxH, rIxTH, rCat, tSl, tPart, tNoPart, tBM, rAppend, L2.start, tFor_eq, tLc_eq, iList, iTup, iRng1, iRng2, iEnum, iZip, cx_K, cx_prog, cx_w, cx_nK, forall_const, tYes, wipe, List.foldl_cons, List.foldl_nil, and_assoc, List.map_cons, List.map_nil, List.length_cons, List.length_nil, List.replicate, List.append_nil, List.cons_append, List.nil_append,
  List.getElem?_cons_zero, List.getElem?_cons_succ, List.set_cons_zero, List.set_cons_succ, Nat.zero_add, Nat.add_zero, Nat.reduceAdd, Nat.reduceSub, Option.some.injEq, V.int.injEq, V.bl.injEq, V.ref.injEq, V.str.injEq,
  List.cons.injEq, and_true, true_and, exists_eq_left, exists_eq_left', exists_eq_right, exists_const, exists_eq, exists_and_left, exists_and_right, upd_same, upd_upd, atI_0, atI_1, atI_2, atI_3, ixN_4_0, ixN_4_1, ixN_4_2, ixN_4_3, some_lst, some_tup, decide_eq_true_eq, reduceCtorEq,
  V.int.injEq, Bool.true_eq_false, Bool.false_eq_true, if_true, if_false, ite_true, ite_false, eq_self, not_true_eq_false, not_false_eq_true, decide_true, decide_false, Bool.not_true, Bool.not_false, false_and, and_false, exists_false, ha]
    rw [List.length_map]
    refine ⟨by omega, by omega, fun D hD => ?_⟩
    refine Lc.rng (fun i => if w.getD i 0 ≤ w.getD (i + 1) 0 then some (V.int ((i : Int) + 1)) else none) hD (by omega) (fun _ => rfl) (fun i H1 Qk Qn hi s2 qk qn => ?_) fun H' s2 hd => ?_
    · have e1 : atI (w.map V.int) (0 + (i : Int) + 1) = some (V.int (w.getD (i + 1) 0)) := atI_w (by omega) (by omega)
      have e2 : atI (w.map V.int) (0 + (i : Int)) = some (V.int (w.getD i 0)) := atI_w (by omega) (by omega)
      simp only [tMk1, iEnumA, iSeq, tPar3, tSeq, tAsg, tCB, tCons, tNil, tVar, tOp, tUn, rI, rI0, rU, gName, gNil, gCons, gSub, rSetL, tC, tRet, tRetN, tNext, tIfS, tTest, tB, tAnd, tOr, tNot, tAndV, tOrV, tNotV, tIf,
  tDrop, tCall, tCallS, tPar, tAug, ipI, tBreak, tCont, tTup, tLst, rEq_int, rNe_int, rEq_bl, rNe_bl, rEq_str, rNe_str, HO.lst.injEq, HO.tup.injEq, Bool.not_eq_true', decide_eq_false_iff_not, rIxH, rIxTH, rCat, tSl, tPart, tNoPart, tBM, rAppend, L2.start, tFor_eq, tLc_eq, iList, iTup, iRng1, iRng2, iEnum, iZip, cx_K, cx_prog, cx_w, cx_nK, forall_const, tYes, wipe, List.foldl_cons, List.foldl_nil, and_assoc, List.map_cons, List.map_nil, List.length_cons, List.length_nil, List.replicate, List.append_nil, List.cons_append, List.nil_append,
  List.getElem?_cons_zero, List.getElem?_cons_succ, List.set_cons_zero, List.set_cons_succ, Nat.zero_add, Nat.add_zero, Nat.reduceAdd, Nat.reduceSub, Option.some.injEq, V.int.injEq, V.bl.injEq, V.ref.injEq, V.str.injEq,
  List.cons.injEq, and_true, true_and, exists_eq_left, exists_eq_left', exists_eq_right, exists_const, exists_eq, exists_and_left, exists_and_right, upd_same, upd_upd, atI_0, atI_1, atI_2, atI_3, ixN_4_0, ixN_4_1, ixN_4_2, ixN_4_3, some_lst, some_tup, decide_eq_true_eq, reduceCtorEq,
  V.int.injEq, Bool.true_eq_false, Bool.false_eq_true, if_true, if_false, ite_true, ite_false, eq_self, not_true_eq_false, not_false_eq_true, decide_true, decide_false, Bool.not_true, Bool.not_false, false_and, and_false, exists_false, s2 _ _ ha, e1, e2]
      by_cases c : w.getD i 0 ≤ w.getD (i + 1) 0
      · rw [if_pos c]
        exact qk _ H1 (Same.refl H1) (by rw [if_pos c]; simp)
      · rw [if_neg c]
        exact qn H1 (Same.refl H1) (if_neg c)
    · have e : (List.range ((w.length : Int) - 1).toNat).filterMap (fun i => if w.getD i 0 ≤ w.getD (i + 1) 0 then some (V.int ((i : Int) + 1)) else none) = (places w).map V.int := by
        have n : ((w.length : Int) - 1).toNat = w.length - 1 := by omega
        unfold places
        rw [n, List.map_filterMap]
        congr 1
        funext i
        by_cases c : w.getD i 0 ≤ w.getD (i + 1) 0
        · rw [if_pos c, if_pos c]; rfl
        · rw [if_neg c, if_neg c]; rfl
      rw [e] at hd
      exact q D H' s2 hd
end Mine

namespace Mine
open PySem PySem.Spec PyProof.Rows L2
local macro_rules | `(tactic| walk_at "rd") => `(tactic| try simp only [tMk1, iEnumA, iSeq, tPar3, tSeq, tAsg, tCB, tCons, tNil, tVar, tOp, tUn, rI, rI0, rU, gName, gNil, gCons, gSub, rSetL, tC, tRet, tRetN, tNext, tIfS, tTest, tB, tAnd, tOr, tNot, tAndV, tOrV, tNotV, tIf,
  tDrop, tCall, tCallS, tPar, tAug, ipI, tBreak, tCont, tTup, tLst, rEq_int, rNe_int, rEq_bl, rNe_bl, rEq_str, rNe_str, HO.lst.injEq, HO.tup.injEq, Bool.not_eq_true', decide_eq_false_iff_not, rIxH, rIxTH, rCat, tSl, tPart, tNoPart, tBM, rAppend, L2.start, tFor_eq, tLc_eq, iList, iTup, iRng1, iRng2, iEnum, iZip, cx_K, cx_prog, cx_w, cx_nK, forall_const, tYes, wipe, List.foldl_cons, List.foldl_nil, and_assoc, List.map_cons, List.map_nil, List.length_cons, List.length_nil, List.replicate, List.append_nil, List.cons_append, List.nil_append,
  List.getElem?_cons_zero, List.getElem?_cons_succ, List.set_cons_zero, List.set_cons_succ, Nat.zero_add, Nat.add_zero, Nat.reduceAdd, Nat.reduceSub, Option.some.injEq, V.int.injEq, V.bl.injEq, V.ref.injEq, V.str.injEq,
  List.cons.injEq, and_true, true_and, exists_eq_left, exists_eq_left', exists_eq_right, exists_const, exists_eq, exists_and_left, exists_and_right, upd_same, upd_upd, atI_0, atI_1, atI_2, atI_3, ixN_4_0, ixN_4_1, ixN_4_2, ixN_4_3, some_lst, some_tup, decide_eq_true_eq, reduceCtorEq,
  V.int.injEq, Bool.true_eq_false, Bool.false_eq_true, if_true, if_false, ite_true, ite_false, eq_self, not_true_eq_false, not_false_eq_true, decide_true, decide_false, Bool.not_true, Bool.not_false, false_and, and_false, exists_false])
local macro_rules | `(tactic| walk_at "mono") => `(tactic| repeat (first | with_reducible exact mon_var _ | with_reducible exact mon_c _ | with_reducible exact mon_rI _ _ | with_reducible exact mon_rI0 _ | with_reducible exact mon_rEq | with_reducible exact mon_rNe | with_reducible refine mon_test ?_ | with_reducible refine mon_op ?_ ?_ ?_ | with_reducible refine mon_and ?_ ?_ | with_reducible refine mon_or ?_ ?_ | with_reducible exact mon_rU _ | with_reducible refine mon_un ?_ ?_))
local macro_rules | `(tactic| walk_at "sd") => `(tactic| first | assumption | omega | (unfold CMul; omega) | (unfold CDiv; omega) | rfl | decide)
local macro_rules | `(tactic| walk_at "go") => `(tactic| repeat (refine And.intro (by first | assumption | omega | exact tyL (by assumption) | (unfold CMul; omega) | (unfold CDiv; omega) | rfl | decide) ?_))
-- needs: rises_of, rise_word, rise_sum, law_is_word, law_whole, law_rises, law_rise_word
def sp_law_rises_told : Sp := fun vs H Q _ => ∃ (a : Addr) (w : List Int), vs = [.ref a] ∧ H a = some (.tup (w.map V.int)) ∧ TS.Bd 4 w ∧ w.length ≤ 61 ∧ ∀ H', Same H H' → Q (.bl true) H'
theorem ok_law_rises_told {P : Program} {w : World} {K : PySem.W.Frag} {mg : Str → Option Value} {base : Heap} (T : Txt K mg) : ∃ fd, FnOk P w K mg base CX0 6 (He.ga K "_law_rises_told") fd P_law_rises_told sp_law_rises_told ∧ D_law_rises_told K (He.ga K "_law_rises_told") fd := by
  obtain ⟨fd, F⟩ := T.F_law_rises_told
  obtain ⟨fd_rises_of, G_rises_of, D_rises_of⟩ := ok_rises_of (P := P) (w := w) (base := base) T
  have k_rises_of := D_rises_of.kp
  have b_rises_of := bd_rises_of D_rises_of
  obtain ⟨fd_rise_sum, G_rise_sum, D_rise_sum⟩ := ok_rise_sum (P := P) (w := w) (base := base) T
  have k_rise_sum := D_rise_sum.kp
  have b_rise_sum := bd_rise_sum D_rise_sum
  obtain ⟨fd_rise_word, G_rise_word, D_rise_word⟩ := ok_rise_word (P := P) (w := w) (base := base) T
  have k_rise_word := D_rise_word.kp
  have b_rise_word := bd_rise_word D_rise_word
  obtain ⟨fd_law_whole, G_law_whole, D_law_whole⟩ := ok_law_whole (P := P) (w := w) (base := base) T
  have k_law_whole := D_law_whole.kp
  have b_law_whole := bd_law_whole D_law_whole
  obtain ⟨fd_law_is_word, G_law_is_word, D_law_is_word⟩ := ok_law_is_word (P := P) (w := w) (base := base) T
  have k_law_is_word := D_law_is_word.kp
  have b_law_is_word := bd_law_is_word D_law_is_word
  obtain ⟨fd_law_rise_word, G_law_rise_word, D_law_rise_word⟩ := ok_law_rise_word (P := P) (w := w) (base := base) T
  have k_law_rise_word := D_law_rise_word.kp
  have b_law_rise_word := bd_law_rise_word D_law_rise_word
  obtain ⟨fd_law_rises, G_law_rises, D_law_rises⟩ := ok_law_rises (P := P) (w := w) (base := base) T
  have k_law_rises := D_law_rises.kp
  have b_law_rises := bd_law_rises D_law_rises
  refine ⟨fd, F.ok sc_law_rises_told (fun vs H Q E h => ?_) (fun cdv A outer s H vs Q E hr h => ?_), F⟩
  · obtain ⟨a, w, rfl, _⟩ := h
    rfl
  ·
    obtain ⟨a, w, rfl, ha, hb, hl, q⟩ := h
    refine ⟨_, PSs.nox (pss_cons (ps_par3 (i := 1) (j := 2) (l := 3) (by rfl) sc_law_rises_told.nd rfl rfl rfl (by decide) (by decide) (by decide) rfl rfl rfl (pa_cons (pe_call G_rises_of (hr.mono (by decide)) rfl T.g_rises_of k_rises_of b_rises_of .nil passL (pa_cons (pe_callTy call_listT (by rfl) T.z_list (by decide +kernel) (pa_cons (pv 0) pa_nil)) pa_nil)) (pa_cons (pe_call G_rise_sum (hr.mono (by decide)) rfl T.g_rise_sum k_rise_sum b_rise_sum .nil passL (pa_cons (pv 0) pa_nil)) (pa_cons (pe_call G_rise_word (hr.mono (by decide)) rfl T.g_rise_word k_rise_word b_rise_word .nil passL (pa_cons (pv 0) pa_nil)) pa_nil))) (by rfl))
    (pss_cons (ps_if (PW.pt (pw_or (pt_not (pt_val (pe_call G_law_is_word (hr.mono (by decide)) rfl T.g__law_is_word k_law_is_word b_law_is_word .nil pass0 (pa_cons (pv 1) pa_nil)))) (pw_or (pt_not (pt_val (pe_call G_law_is_word (hr.mono (by decide)) rfl T.g__law_is_word k_law_is_word b_law_is_word .nil pass0 (pa_cons (pv 3) pa_nil)))) (pw_or1 (pt_not (pt_val (pe_call G_law_whole (hr.mono (by decide)) rfl T.g__law_whole k_law_whole b_law_whole .nil pass0 (pa_cons (pv 2) pa_nil))))))))
    (pss_one (ps_ret pe_bl))
    pss_nil)
    (pss_one (ps_ret (pe_and (pe_cmpR (op_eqD hr.units) (pv 1) (pe_callTy call_tupL (by rfl) T.z_tuple (by decide +kernel) (pa_cons (pe_call G_law_rises (hr.mono (by decide)) rfl T.g__law_rises k_law_rises b_law_rises .nil pass0 (pa_cons (pv 0) pa_nil)) pa_nil)) (nomark _)) (pe_and (pe_cmpR op_eq (pv 2) (pe_callB (CallR.k (r := rSum) (K := K) (cr_sum rfl) rfl) (by rfl) T.z_sum (by decide +kernel) (pa_cons (pe_call G_law_rises (hr.mono (by decide)) rfl T.g__law_rises k_law_rises b_law_rises .nil pass0 (pa_cons (pv 0) pa_nil)) pa_nil)) (nomark _)) (pe_one (pe_cmpR (op_eqD hr.units) (pv 3) (pe_call G_law_rise_word (hr.mono (by decide)) rfl T.g__law_rise_word k_law_rise_word b_law_rise_word .nil pass0 (pa_cons (pv 0) pa_nil)) (nomark _))))))))), ?_⟩
    simp only [tMk1, iEnumA, iSeq, tPar3, tSeq, tAsg, tCB, tCons, tNil, tVar, tOp, tUn, rI, rI0, rU, gName, gNil, gCons, gSub, rSetL, tC, tRet, tRetN, tNext, tIfS, tTest, tB, tAnd, tOr, tNot, tAndV, tOrV, tNotV, tIf,
  tDrop, tCall, tCallS, tPar, tAug, ipI, tBreak, tCont, tTup, tLst, rEq_int, rNe_int, rEq_bl, rNe_bl, rEq_str, rNe_str, HO.lst.injEq, HO.tup.injEq, Bool.not_eq_true', decide_eq_false_iff_not, rIxH, rIxTH, rCat, tSl, tPart, tNoPart, tBM, rAppend, L2.start, tFor_eq, tLc_eq, iList, iTup, iRng1, iRng2, iEnum, iZip, cx_K, cx_prog, cx_w, cx_nK, forall_const, tYes, wipe, List.foldl_cons, List.foldl_nil, and_assoc, List.map_cons, List.map_nil, List.length_cons, List.length_nil, List.replicate, List.append_nil, List.cons_append, List.nil_append,
  List.getElem?_cons_zero, List.getElem?_cons_succ, List.set_cons_zero, List.set_cons_succ, Nat.zero_add, Nat.add_zero, Nat.reduceAdd, Nat.reduceSub, Option.some.injEq, V.int.injEq, V.bl.injEq, V.ref.injEq, V.str.injEq,
  List.cons.injEq, and_true, true_and, exists_eq_left, exists_eq_left', exists_eq_right, exists_const, exists_eq, exists_and_left, exists_and_right, upd_same, upd_upd, atI_0, atI_1, atI_2, atI_3, ixN_4_0, ixN_4_1, ixN_4_2, ixN_4_3, some_lst, some_tup, decide_eq_true_eq, reduceCtorEq,
  V.int.injEq, Bool.true_eq_false, Bool.false_eq_true, if_true, if_false, ite_true, ite_false, eq_self, not_true_eq_false, not_false_eq_true, decide_true, decide_false, Bool.not_true, Bool.not_false, false_and, and_false, exists_false, ha]
    refine fun l hl2 => ?_
    have s0 := same_upd (o := HO.lst (w.map V.int)) hl2
    refine rises_of_use (th_lst upd_same (by omega)) hb hl fun p1 H1 s1 h1 => ?_
    have a1 := s1 _ _ (s0 _ _ ha)
    refine rise_sum_use (th_tup a1 (by omega)) hb hl fun H2 s2 => ?_
    refine rise_word_use (th_tup (s2 _ _ a1) (by omega)) hb hl fun p3 H3 s3 h3 => ?_
    have a3 := s3 _ _ (s2 _ _ a1)
    have h13 := s3 _ _ (s2 _ _ h1)
    have pl : (places w).length ≤ 61 := by
      unfold places
      exact Nat.le_trans (List.length_filterMap_le _ _) (by rw [List.length_range]; omega)
    have rl : (rise w).length ≤ 61 := by rw [rise_len]; omega
    refine ⟨p1, places w, rfl, h13, by omega, fun H4 s4 => ⟨true, rfl, ?_⟩⟩
    rw [if_neg (by decide)]
    refine ⟨p3, rise w, rfl, s4 _ _ h3, by omega, fun H5 s5 => ⟨true, rfl, ?_⟩⟩
    rw [if_neg (by decide)]
    refine ⟨_, rfl, trivial, true, rfl, ?_⟩
    rw [if_neg (by decide)]
    have a5 := s5 _ _ (s4 _ _ a3)
    have r5 := s5 _ _ (s4 _ _ h3)
    have b5 := s5 _ _ (s4 _ _ h13)
    refine ⟨a, w, rfl, a5, by omega, fun p6 H6 s6 h6 => ⟨p6, rfl, _, h6, fun l7 hl7 => ?_⟩⟩
    have s7 := same_upd (o := HO.tup ((places w).map V.int)) hl7
    refine eqT (s7 _ _ (s6 _ _ b5)) upd_same ⟨true, by rw [decide_eq_true rfl], ?_⟩
    rw [if_pos rfl]
    have s57 := s6.trans s7
    refine ⟨a, w, rfl, s57 _ _ a5, by omega, fun p8 H8 s8 h8 => ⟨p8, places w, rfl, .inl (.inl h8), ?_⟩⟩
    dsimp only
    rw [rEq_int, places_sum]
    refine ⟨true, by rw [decide_eq_true rfl], ?_⟩
    rw [if_pos rfl]
    refine ⟨a, w, rfl, s8 _ _ (s57 _ _ a5), by omega, fun p9 H9 s9 h9 => eqT (s9 _ _ (s8 _ _ (s57 _ _ r5))) h9 ?_⟩
    rw [decide_eq_true rfl]
    exact q H9 (((((((s0.trans s1).trans s2).trans s3).trans s4).trans s5).trans s57).trans (s8.trans s9))
end Mine

namespace Mine
open PySem PySem.Spec PyProof.Rows L2
local macro_rules | `(tactic| walk_at "rd") => `(tactic| try simp only [tMk1, iEnumA, iSeq, tPar3, tSeq, tAsg, tCB, tCons, tNil, tVar, tOp, tUn, rI, rI0, rU, gName, gNil, gCons, gSub, rSetL, tC, tRet, tRetN, tNext, tIfS, tTest, tB, tAnd, tOr, tNot, tAndV, tOrV, tNotV, tIf,
  tDrop, tCall, tCallS, tPar, tAug, ipI, tBreak, tCont, tTup, tLst, rEq_int, rNe_int, rEq_bl, rNe_bl, rEq_str, rNe_str, HO.lst.injEq, HO.tup.injEq, Bool.not_eq_true', decide_eq_false_iff_not, rIxH, rIxTH, rCat, tSl, tPart, tNoPart, tBM, rAppend, L2.start, tFor_eq, tLc_eq, iList, iTup, iRng1, iRng2, iEnum, iZip, cx_K, cx_prog, cx_w, cx_nK, forall_const, tYes, wipe, List.foldl_cons, List.foldl_nil, and_assoc, List.map_cons, List.map_nil, List.length_cons, List.length_nil, List.replicate, List.append_nil, List.cons_append, List.nil_append,
  List.getElem?_cons_zero, List.getElem?_cons_succ, List.set_cons_zero, List.set_cons_succ, Nat.zero_add, Nat.add_zero, Nat.reduceAdd, Nat.reduceSub, Option.some.injEq, V.int.injEq, V.bl.injEq, V.ref.injEq, V.str.injEq,
  List.cons.injEq, and_true, true_and, exists_eq_left, exists_eq_left', exists_eq_right, exists_const, exists_eq, exists_and_left, exists_and_right, upd_same, upd_upd, atI_0, atI_1, atI_2, atI_3, ixN_4_0, ixN_4_1, ixN_4_2, ixN_4_3, some_lst, some_tup, decide_eq_true_eq, reduceCtorEq,
  V.int.injEq, Bool.true_eq_false, Bool.false_eq_true, if_true, if_false, ite_true, ite_false, eq_self, not_true_eq_false, not_false_eq_true, decide_true, decide_false, Bool.not_true, Bool.not_false, false_and, and_false, exists_false])
local macro_rules | `(tactic| walk_at "mono") => `(tactic| repeat (first | with_reducible exact mon_var _ | with_reducible exact mon_c _ | with_reducible exact mon_rI _ _ | with_reducible exact mon_rI0 _ | with_reducible exact mon_rEq | with_reducible exact mon_rNe | with_reducible refine mon_test ?_ | with_reducible refine mon_op ?_ ?_ ?_ | with_reducible refine mon_and ?_ ?_ | with_reducible refine mon_or ?_ ?_ | with_reducible exact mon_rU _ | with_reducible refine mon_un ?_ ?_))
local macro_rules | `(tactic| walk_at "sd") => `(tactic| first | assumption | omega | (unfold CMul; omega) | (unfold CDiv; omega) | rfl | decide)
local macro_rules | `(tactic| walk_at "go") => `(tactic| repeat (refine And.intro (by first | assumption | omega | exact tyL (by assumption) | (unfold CMul; omega) | (unfold CDiv; omega) | rfl | decide) ?_))
def sp_law_less_one : Sp := fun vs H Q _ => ∃ (a : Addr) (w : List Int), vs = [.ref a] ∧ H a = some (.tup (w.map V.int)) ∧ TS.Bd 4 w ∧ w.length < 64 ∧
  ∀ p H' ws, Same H H' → Rows H' p ws → (∀ x, x ∈ ws ↔ ∃ k, k < w.length ∧ x = del k w) → Rising 4 ws → Q (.ref p) H'
theorem ok_law_less_one {P : Program} {w : World} {K : PySem.W.Frag} {mg : Str → Option Value} {base : Heap} (T : Txt K mg) : ∃ fd, FnOk P w K mg base CX0 1 (He.ga K "_law_less_one") fd P_law_less_one sp_law_less_one ∧ D_law_less_one K (He.ga K "_law_less_one") fd := by
  obtain ⟨fd, F⟩ := T.F_law_less_one
  refine ⟨fd, F.ok sc_law_less_one (fun vs H Q E h => ?_) (fun cdv A outer s H vs Q E hr h => ?_), F⟩
  · obtain ⟨a, w, rfl, _⟩ := h
    rfl
  ·
    obtain ⟨a, w, rfl, ha, hb, hl, q⟩ := h
    refine ⟨_, PSs.nox (pss_one (ps_ret (pe_callB (cr_sortedA rfl) (by rfl) T.z_sorted (by decide +kernel) (pa_cons (pe_callTy (cr_setOfT rfl hr.units) (by rfl) T.z_set (by decide +kernel) (pa_cons (pe_lc (own := [("_law_k", 1)]) rfl sc_law_less_one.nd (pi_range1 (by rfl) T.z_range (pa_cons (pe_callB call_lenT (by rfl) T.z_len (by decide +kernel) (pa_cons (pv 0) pa_nil)) pa_nil)) (blkOk_by (own := [("_law_k", 1)]) (N := N_law_less_one) (sc := defScope s_law_less_one) (by decide +kernel)) (fun _ _ _ _ _ => (pg_name (i := 1) sc_law_less_one.nd rfl (by first | exact Or.inl rfl | exact Or.inr rfl))) (fun _ _ _ _ _ => pts_nil) (fun _ _ _ _ _ => (pe_op (OpR.k (r := rCatA) (K := K) op_catA rfl) (pe_slice (SlR.k (r := rSlA) (K := K) sl_tupA rfl) (pv 0) po_none (po_some (pv 1))) (pe_slice (SlR.k (r := rSlA) (K := K) sl_tupA rfl) (pv 0) (po_some (pe_op op_add (pv 1) pe_int)) po_none)))) pa_nil)) pa_nil)))), ?_⟩
    simp only [tMk1, iEnumA, iSeq, tPar3, tSeq, tAsg, tCB, tCons, tNil, tVar, tOp, tUn, rI, rI0, rU, gName, gNil, gCons, gSub, rSetL, tC, tRet, tRetN, tNext, tIfS, tTest, tB, tAnd, tOr, tNot, tAndV, tOrV, tNotV, tIf,
  tDrop, tCall, tCallS, tPar, tAug, ipI, tBreak, tCont, tTup, tLst, rEq_int, rNe_int, rEq_bl, rNe_bl, rEq_str, rNe_str, HO.lst.injEq, HO.tup.injEq, Bool.not_eq_true', decide_eq_false_iff_not, rIxH, rIxTH, rCat, tSl, tPart, tNoPart, tBM, rAppend, L2.start, tFor_eq, tLc_eq, iList, iTup, iRng1, iRng2, iEnum, iZip, cx_K, cx_prog, cx_w, cx_nK, forall_const, tYes, wipe, List.foldl_cons, List.foldl_nil, and_assoc, List.map_cons, List.map_nil, List.length_cons, List.length_nil, List.replicate, List.append_nil, List.cons_append, List.nil_append,
  List.getElem?_cons_zero, List.getElem?_cons_succ, List.set_cons_zero, List.set_cons_succ, Nat.zero_add, Nat.add_zero, Nat.reduceAdd, Nat.reduceSub, Option.some.injEq, V.int.injEq, V.bl.injEq, V.ref.injEq, V.str.injEq,
  List.cons.injEq, and_true, true_and, exists_eq_left, exists_eq_left', exists_eq_right, exists_const, exists_eq, exists_and_left, exists_and_right, upd_same, upd_upd, atI_0, atI_1, atI_2, atI_3, ixN_4_0, ixN_4_1, ixN_4_2, ixN_4_3, some_lst, some_tup, decide_eq_true_eq, reduceCtorEq,
  V.int.injEq, Bool.true_eq_false, Bool.false_eq_true, if_true, if_false, ite_true, ite_false, eq_self, not_true_eq_false, not_false_eq_true, decide_true, decide_false, Bool.not_true, Bool.not_false, false_and, and_false, exists_false, ha]
    rw [List.length_map]
    refine ⟨by omega, by omega, fun D hD => ?_⟩
    refine Lc.rowsR (fun k => del k w) hD (by omega) (fun _ => rfl) (fun i H1 Qk hi s1 qk => ?_) fun H1 s1 hr => ?_
    · walk_at "rd"
      refine sl_take (k := i) (by omega) (s1 _ _ ha) fun p1 H2 s2 h2 => ?_
      walk_at "rd"
      refine sl_drop (k := i + 1) (by omega) (s2 _ _ (s1 _ _ ha)) fun p2 H3 s3 h3 => ?_
      refine cat_use (s3 _ _ h2) h3 (by rw [List.length_take, List.length_drop, List.length_map]; omega) fun p3 H4 s4 h4 => qk p3 H4 ((s2.trans s3).trans s4) ?_
      rw [h4, del_eq, List.map_append, List.map_take, List.map_drop]
    · have n : ((w.length : Int)).toNat = w.length := by omega
      rw [n] at hr
      refine sorted_set (d := w.length - 1) (B := 4) hr (by rw [List.length_map, List.length_range]; exact hl) (fun x hx => ?_) fun p H2 ws s2 _ hr2 mem ris => q p H2 ws (s1.trans s2) hr2 (fun x => ?_) ris
      · obtain ⟨k, hk, rfl⟩ := List.mem_map.mp hx
        have hk2 := List.mem_range.mp hk
        refine ⟨del_len k w hk2, fun z hz => hb z ?_⟩
        rw [del_eq] at hz
        rcases List.mem_append.mp hz with m | m
        · exact List.mem_of_mem_take m
        · exact List.mem_of_mem_drop m
      · rw [mem, List.mem_map]
        exact ⟨fun ⟨k, hk, e⟩ => ⟨k, List.mem_range.mp hk, e.symm⟩, fun ⟨k, hk, e⟩ => ⟨k, List.mem_range.mpr hk, e.symm⟩⟩
end Mine

namespace Mine
open PySem PySem.Spec PyProof.Rows L2
local macro_rules | `(tactic| walk_at "rd") => `(tactic| try simp only [tMk1, iEnumA, iSeq, tPar3, tSeq, tAsg, tCB, tCons, tNil, tVar, tOp, tUn, rI, rI0, rU, gName, gNil, gCons, gSub, rSetL, tC, tRet, tRetN, tNext, tIfS, tTest, tB, tAnd, tOr, tNot, tAndV, tOrV, tNotV, tIf,
  tDrop, tCall, tCallS, tPar, tAug, ipI, tBreak, tCont, tTup, tLst, rEq_int, rNe_int, rEq_bl, rNe_bl, rEq_str, rNe_str, HO.lst.injEq, HO.tup.injEq, Bool.not_eq_true', decide_eq_false_iff_not, rIxH, rIxTH, rCat, tSl, tPart, tNoPart, tBM, rAppend, L2.start, tFor_eq, tLc_eq, iList, iTup, iRng1, iRng2, iEnum, iZip, cx_K, cx_prog, cx_w, cx_nK, forall_const, tYes, wipe, List.foldl_cons, List.foldl_nil, and_assoc, List.map_cons, List.map_nil, List.length_cons, List.length_nil, List.replicate, List.append_nil, List.cons_append, List.nil_append,
  List.getElem?_cons_zero, List.getElem?_cons_succ, List.set_cons_zero, List.set_cons_succ, Nat.zero_add, Nat.add_zero, Nat.reduceAdd, Nat.reduceSub, Option.some.injEq, V.int.injEq, V.bl.injEq, V.ref.injEq, V.str.injEq,
  List.cons.injEq, and_true, true_and, exists_eq_left, exists_eq_left', exists_eq_right, exists_const, exists_eq, exists_and_left, exists_and_right, upd_same, upd_upd, atI_0, atI_1, atI_2, atI_3, ixN_4_0, ixN_4_1, ixN_4_2, ixN_4_3, some_lst, some_tup, decide_eq_true_eq, reduceCtorEq,
  V.int.injEq, Bool.true_eq_false, Bool.false_eq_true, if_true, if_false, ite_true, ite_false, eq_self, not_true_eq_false, not_false_eq_true, decide_true, decide_false, Bool.not_true, Bool.not_false, false_and, and_false, exists_false])
local macro_rules | `(tactic| walk_at "mono") => `(tactic| repeat (first | with_reducible exact mon_var _ | with_reducible exact mon_c _ | with_reducible exact mon_rI _ _ | with_reducible exact mon_rI0 _ | with_reducible exact mon_rEq | with_reducible exact mon_rNe | with_reducible refine mon_test ?_ | with_reducible refine mon_op ?_ ?_ ?_ | with_reducible refine mon_and ?_ ?_ | with_reducible refine mon_or ?_ ?_ | with_reducible exact mon_rU _ | with_reducible refine mon_un ?_ ?_))
local macro_rules | `(tactic| walk_at "sd") => `(tactic| first | assumption | omega | (unfold CMul; omega) | (unfold CDiv; omega) | rfl | decide)
local macro_rules | `(tactic| walk_at "go") => `(tactic| repeat (refine And.intro (by first | assumption | omega | exact tyL (by assumption) | (unfold CMul; omega) | (unfold CDiv; omega) | rfl | decide) ?_))
-- needs: rise_word, law_less_one, law_rises_told
def sp_law_lost_below : Sp := fun vs H Q _ => ∃ (a : Addr) (w : List Int), vs = [.ref a] ∧ H a = some (.tup (w.map V.int)) ∧ TS.Bd 4 w ∧ w.length ≤ 61 ∧ ∀ H', Same H H' → Q (.bl true) H'
theorem rise_bd (w : List Int) : TS.Bd 4 (rise w) := fun z hz => by
  have := rise_bits w z hz
  omega
def i_lost_below (H : Hp) (a r : Addr) (_i : Nat) (σ : L2.St) (H' : Hp) : Prop := ∃ v2 : Option V, σ = [some (.ref a), some (.ref r), v2] ∧ Same H H'
theorem ok_law_lost_below {P : Program} {w : World} {K : PySem.W.Frag} {mg : Str → Option Value} {base : Heap} (T : Txt K mg) : ∃ fd, FnOk P w K mg base CX0 7 (He.ga K "_law_lost_below") fd P_law_lost_below sp_law_lost_below ∧ D_law_lost_below K (He.ga K "_law_lost_below") fd := by
  obtain ⟨fd, F⟩ := T.F_law_lost_below
  obtain ⟨fd_rise_word, G_rise_word, D_rise_word⟩ := ok_rise_word (P := P) (w := w) (base := base) T
  have k_rise_word := D_rise_word.kp
  have b_rise_word := bd_rise_word D_rise_word
  obtain ⟨fd_law_less_one, G_law_less_one, D_law_less_one⟩ := ok_law_less_one (P := P) (w := w) (base := base) T
  have k_law_less_one := D_law_less_one.kp
  have b_law_less_one := bd_law_less_one D_law_less_one
  obtain ⟨fd_law_rises_told, G_law_rises_told, D_law_rises_told⟩ := ok_law_rises_told (P := P) (w := w) (base := base) T
  have k_law_rises_told := D_law_rises_told.kp
  have b_law_rises_told := bd_law_rises_told D_law_rises_told
  refine ⟨fd, F.ok sc_law_lost_below (fun vs H Q E h => ?_) (fun cdv A outer s H vs Q E hr h => ?_), F⟩
  · obtain ⟨a, w, rfl, _⟩ := h
    rfl
  ·
    obtain ⟨a, w, rfl, ha, hb, hl, q⟩ := h
    refine ⟨_, PSs.nox (pss_cons (ps_set (i := 1) sc_law_lost_below.nd rfl (by first | exact Or.inl rfl | exact Or.inr rfl) (pe_call G_rise_word (hr.mono (by decide)) rfl T.g_rise_word k_rise_word b_rise_word .nil passL (pa_cons (pv 0) pa_nil)))
    (pss_cons (ps_for PassesOwn.never rfl (pi_list (pe_call G_law_less_one (hr.mono (by decide)) rfl T.g__law_less_one k_law_less_one b_law_less_one .nil pass0 (pa_cons (pv 0) pa_nil))) (pg_name (i := 2) sc_law_lost_below.nd rfl (by first | exact Or.inl rfl | exact Or.inr rfl))
    (pss_cons (ps_if (PW.pt (pw_and (pt_cmpR op_gt (pe_callB call_lenT (by rfl) T.z_len (by decide +kernel) (pa_cons (pv 0) pa_nil)) pe_int (nomark _)) (pw_and1 (pt_cmpR (op_notInD (Room.u65 hr)) (pe_call G_rise_word (hr.mono (by decide)) rfl T.g_rise_word k_rise_word b_rise_word .nil passL (pa_cons (pv 2) pa_nil)) (pe_call G_law_less_one (hr.mono (by decide)) rfl T.g__law_less_one k_law_less_one b_law_less_one .nil pass0 (pa_cons (pv 1) pa_nil)) (by first | exact nomark _ | rfl)))))
    (pss_one (ps_ret pe_bl))
    pss_nil)
    (pss_one (ps_if (pt_not (pt_val (pe_call G_law_rises_told (hr.mono (by decide)) rfl T.g__law_rises_told k_law_rises_told b_law_rises_told .nil pass0 (pa_cons (pv 2) pa_nil))))
    (pss_one (ps_ret pe_bl))
    pss_nil))))
    (pss_one (ps_ret pe_bl)))), ?_⟩
    simp only [tMk1, iEnumA, iSeq, tPar3, tSeq, tAsg, tCB, tCons, tNil, tVar, tOp, tUn, rI, rI0, rU, gName, gNil, gCons, gSub, rSetL, tC, tRet, tRetN, tNext, tIfS, tTest, tB, tAnd, tOr, tNot, tAndV, tOrV, tNotV, tIf,
  tDrop, tCall, tCallS, tPar, tAug, ipI, tBreak, tCont, tTup, tLst, rEq_int, rNe_int, rEq_bl, rNe_bl, rEq_str, rNe_str, HO.lst.injEq, HO.tup.injEq, Bool.not_eq_true', decide_eq_false_iff_not, rIxH, rIxTH, rCat, tSl, tPart, tNoPart, tBM, rAppend, L2.start, tFor_eq, tLc_eq, iList, iTup, iRng1, iRng2, iEnum, iZip, cx_K, cx_prog, cx_w, cx_nK, forall_const, tYes, wipe, List.foldl_cons, List.foldl_nil, and_assoc, List.map_cons, List.map_nil, List.length_cons, List.length_nil, List.replicate, List.append_nil, List.cons_append, List.nil_append,
  List.getElem?_cons_zero, List.getElem?_cons_succ, List.set_cons_zero, List.set_cons_succ, Nat.zero_add, Nat.add_zero, Nat.reduceAdd, Nat.reduceSub, Option.some.injEq, V.int.injEq, V.bl.injEq, V.ref.injEq, V.str.injEq,
  List.cons.injEq, and_true, true_and, exists_eq_left, exists_eq_left', exists_eq_right, exists_const, exists_eq, exists_and_left, exists_and_right, upd_same, upd_upd, atI_0, atI_1, atI_2, atI_3, ixN_4_0, ixN_4_1, ixN_4_2, ixN_4_3, some_lst, some_tup, decide_eq_true_eq, reduceCtorEq,
  V.int.injEq, Bool.true_eq_false, Bool.false_eq_true, if_true, if_false, ite_true, ite_false, eq_self, not_true_eq_false, not_false_eq_true, decide_true, decide_false, Bool.not_true, Bool.not_false, false_and, and_false, exists_false, ha]
    refine rise_word_use (th_tup ha (by omega)) hb hl fun r H1 s1 h1 => ?_
    walk_at "rd"
    refine ⟨a, w, rfl, s1 _ _ ha, hb, by omega, fun l H2 ws s2 hr mem ris => ?_⟩
    obtain ⟨ks, k1, rfl, k3⟩ := hr
    refine ⟨l, rfl, ⟨_, .inl (.inl k1)⟩, ?_⟩
    have wk := walk_list (K := K) (a := l) (xs := ks.map fun k => V.ref k.1)
    rw [List.length_map] at wk
    refine Loop.by wk (i_lost_below H2 a r) ⟨none, rfl, Same.refl _⟩ (fun i σ H' _ ⟨_, _, s⟩ => .inl (.inl (s _ _ k1))) ?_ ?_
    · rintro i x σ H3 H4 hi ⟨v2, rfl, sm⟩ ⟨rfl, hx⟩
      rw [List.getElem?_map, List.getElem?_eq_getElem hi] at hx
      obtain rfl := Option.some.inj hx
      have a3 := sm _ _ (s2 _ _ (s1 _ _ ha))
      have r3 := sm _ _ (s2 _ _ h1)
      have x3 := sm _ _ (k3 ks[i] (List.getElem_mem hi))
      obtain ⟨k, hk, ex⟩ := (mem ks[i].2).mp (List.mem_map.mpr ⟨_, List.getElem_mem hi, rfl⟩)
      have bx : TS.Bd 4 ks[i].2 := by
        rw [ex, del_eq]
        intro z hz
        rcases List.mem_append.mp hz with m | m
        · exact hb z (List.mem_of_mem_take m)
        · exact hb z (List.mem_of_mem_drop m)
      have lx : ks[i].2.length ≤ 61 := by rw [ex, del_len k w hk]; omega
      have last : ∀ H5, Same H4 H5 → sp_law_rises_told [V.ref ks[i].1] H5 (fun x H1 => ∃ c, x = V.bl c ∧ if c = false then Q (V.bl false) H1 else i_lost_below H2 a r (i + 1) [some (.ref a), some (.ref r), some (.ref ks[i].1)] H1) E0 := fun H5 s5 =>
        ⟨ks[i].1, ks[i].2, rfl, s5 _ _ x3, bx, lx, fun H6 s6 => ⟨true, rfl, by rw [if_neg (by decide)]; exact ⟨_, rfl, (sm.trans s5).trans s6⟩⟩⟩
      simp only [tMk1, iEnumA, iSeq, tPar3, tSeq, tAsg, tCB, tCons, tNil, tVar, tOp, tUn, rI, rI0, rU, gName, gNil, gCons, gSub, rSetL, tC, tRet, tRetN, tNext, tIfS, tTest, tB, tAnd, tOr, tNot, tAndV, tOrV, tNotV, tIf,
  tDrop, tCall, tCallS, tPar, tAug, ipI, tBreak, tCont, tTup, tLst, rEq_int, rNe_int, rEq_bl, rNe_bl, rEq_str, rNe_str, HO.lst.injEq, HO.tup.injEq, Bool.not_eq_true', decide_eq_false_iff_not, rIxH, rIxTH, rCat, tSl, tPart, tNoPart, tBM, rAppend, L2.start, tFor_eq, tLc_eq, iList, iTup, iRng1, iRng2, iEnum, iZip, cx_K, cx_prog, cx_w, cx_nK, forall_const, tYes, wipe, List.foldl_cons, List.foldl_nil, and_assoc, List.map_cons, List.map_nil, List.length_cons, List.length_nil, List.replicate, List.append_nil, List.cons_append, List.nil_append,
  List.getElem?_cons_zero, List.getElem?_cons_succ, List.set_cons_zero, List.set_cons_succ, Nat.zero_add, Nat.add_zero, Nat.reduceAdd, Nat.reduceSub, Option.some.injEq, V.int.injEq, V.bl.injEq, V.ref.injEq, V.str.injEq,
  List.cons.injEq, and_true, true_and, exists_eq_left, exists_eq_left', exists_eq_right, exists_const, exists_eq, exists_and_left, exists_and_right, upd_same, upd_upd, atI_0, atI_1, atI_2, atI_3, ixN_4_0, ixN_4_1, ixN_4_2, ixN_4_3, some_lst, some_tup, decide_eq_true_eq, reduceCtorEq,
  V.int.injEq, Bool.true_eq_false, Bool.false_eq_true, if_true, if_false, ite_true, ite_false, eq_self, not_true_eq_false, not_false_eq_true, decide_true, decide_false, Bool.not_true, Bool.not_false, false_and, and_false, exists_false, a3, List.length_map]
      refine ite2 (fun c => ?_) (fun _ => last H4 (Same.refl H4))
      refine rise_word_use (th_tup x3 (by omega)) bx lx fun p5 H5 s5 h5 => ?_
      refine ⟨r, rise w, rfl, s5 _ _ r3, rise_bd w, by rw [rise_len]; omega, fun p6 H6 ws6 s6 hr6 mem6 _ => notInR (s6 _ _ h5) hr6 ⟨false, ?_, ?_⟩⟩
      · obtain ⟨j, hj, ej⟩ := rise_del (w := w) (k := k) (by omega) hk
        rw [decide_eq_true ((mem6 _).mpr ⟨j, hj, by rw [ex, ej]⟩)]; rfl
      · rw [if_neg (by decide)]
        exact last H6 (s5.trans s6)
    · rintro σ H3 ⟨v2, rfl, sm⟩
      walk_at "rd"
      exact q H3 ((s1.trans s2).trans sm)
end Mine

namespace Mine
open PySem PySem.Spec PyProof.Rows L2
local macro_rules | `(tactic| walk_at "rd") => `(tactic| try simp only [tMk1, iEnumA, iSeq, tPar3, tSeq, tAsg, tCB, tCons, tNil, tVar, tOp, tUn, rI, rI0, rU, gName, gNil, gCons, gSub, rSetL, tC, tRet, tRetN, tNext, tIfS, tTest, tB, tAnd, tOr, tNot, tAndV, tOrV, tNotV, tIf,
  tDrop, tCall, tCallS, tPar, tAug, ipI, tBreak, tCont, tTup, tLst, rEq_int, rNe_int, rEq_bl, rNe_bl, rEq_str, rNe_str, HO.lst.injEq, HO.tup.injEq, Bool.not_eq_true', decide_eq_false_iff_not, rIxH, rIxTH, rCat, tSl, tPart, tNoPart, tBM, rAppend, L2.start, tFor_eq, tLc_eq, iList, iTup, iRng1, iRng2, iEnum, iZip, cx_K, cx_prog, cx_w, cx_nK, forall_const, tYes, wipe, List.foldl_cons, List.foldl_nil, and_assoc, List.map_cons, List.map_nil, List.length_cons, List.length_nil, List.replicate, List.append_nil, List.cons_append, List.nil_append,
  List.getElem?_cons_zero, List.getElem?_cons_succ, List.set_cons_zero, List.set_cons_succ, Nat.zero_add, Nat.add_zero, Nat.reduceAdd, Nat.reduceSub, Option.some.injEq, V.int.injEq, V.bl.injEq, V.ref.injEq, V.str.injEq,
  List.cons.injEq, and_true, true_and, exists_eq_left, exists_eq_left', exists_eq_right, exists_const, exists_eq, exists_and_left, exists_and_right, upd_same, upd_upd, atI_0, atI_1, atI_2, atI_3, ixN_4_0, ixN_4_1, ixN_4_2, ixN_4_3, some_lst, some_tup, decide_eq_true_eq, reduceCtorEq,
  V.int.injEq, Bool.true_eq_false, Bool.false_eq_true, if_true, if_false, ite_true, ite_false, eq_self, not_true_eq_false, not_false_eq_true, decide_true, decide_false, Bool.not_true, Bool.not_false, false_and, and_false, exists_false])
local macro_rules | `(tactic| walk_at "mono") => `(tactic| repeat (first | with_reducible exact mon_var _ | with_reducible exact mon_c _ | with_reducible exact mon_rI _ _ | with_reducible exact mon_rI0 _ | with_reducible exact mon_rEq | with_reducible exact mon_rNe | with_reducible refine mon_test ?_ | with_reducible refine mon_op ?_ ?_ ?_ | with_reducible refine mon_and ?_ ?_ | with_reducible refine mon_or ?_ ?_ | with_reducible exact mon_rU _ | with_reducible refine mon_un ?_ ?_))
local macro_rules | `(tactic| walk_at "sd") => `(tactic| first | assumption | omega | (unfold CMul; omega) | (unfold CDiv; omega) | rfl | decide)
local macro_rules | `(tactic| walk_at "go") => `(tactic| repeat (refine And.intro (by first | assumption | omega | exact tyL (by assumption) | (unfold CMul; omega) | (unfold CDiv; omega) | rfl | decide) ?_))
/-- what is left of s, its letters met one after the other in l -/
def rem : List Int → List Int → List Int
  | [], s => s
  | _ :: l, [] => rem l []
  | c :: l, x :: s => if x = c then rem l s else rem l (x :: s)
theorem rem_nil : ∀ l : List Int, rem l [] = []
  | [] => rfl
  | _ :: l => rem_nil l
theorem rem_app : ∀ a b s : List Int, rem (a ++ b) s = rem b (rem a s)
  | [], b, s => rfl
  | c :: a, b, [] => by
    show rem (a ++ b) [] = rem b (rem a [])
    exact rem_app a b []
  | c :: a, b, x :: s => by
    show (if x = c then rem (a ++ b) s else rem (a ++ b) (x :: s)) = rem b (if x = c then rem a s else rem a (x :: s))
    split
    · exact rem_app a b s
    · exact rem_app a b (x :: s)
theorem rem_sub : ∀ {l s : List Int}, s.Sublist l → rem l s = []
  | [], s, h => List.sublist_nil.mp h
  | c :: l, [], _ => rem_nil l
  | c :: l, x :: s, h => by
    show (if x = c then rem l s else rem l (x :: s)) = []
    split
    · rename_i e
      subst e
      exact rem_sub (List.cons_sublist_cons.mp h)
    · rename_i ne
      cases h with
      | cons _ h => exact rem_sub h
      | cons_cons _ h => exact absurd rfl ne
theorem sub_rem : ∀ {l s : List Int}, rem l s = [] → s.Sublist l
  | [], s, h => by
    have : s = [] := h
    rw [this]; exact List.Sublist.refl _
  | c :: l, [], _ => List.nil_sublist _
  | c :: l, x :: s, h => by
    have h' : (if x = c then rem l s else rem l (x :: s)) = [] := h
    by_cases e : x = c
    · rw [if_pos e] at h'
      rw [e]; exact (sub_rem h').cons_cons c
    · rw [if_neg e] at h'
      exact (sub_rem h').cons c
def sp_law_is_below : Sp := fun vs H Q _ => ∃ (a b : Addr) (s l : List Int), vs = [.ref a, .ref b] ∧ H a = some (.tup (s.map V.int)) ∧ H b = some (.tup (l.map V.int)) ∧ (∀ k : Bool, (k = true ↔ s.Sublist l) → Q (.bl k) H)
def i_is_below (H : Hp) (a b : Addr) (s l : List Int) (i : Nat) (σ : L2.St) (H' : Hp) : Prop := ∃ (at_ : Nat) (v3 : Option V), σ = [some (.ref a), some (.ref b), some (.int at_), v3] ∧ H' = H ∧ at_ ≤ s.length ∧ s.drop at_ = rem (l.take i) s
theorem ok_law_is_below {P : Program} {w : World} {K : PySem.W.Frag} {mg : Str → Option Value} {base : Heap} (T : Txt K mg) : ∃ fd, FnOk P w K mg base CX0 1 (He.ga K "_law_is_below") fd P_law_is_below sp_law_is_below ∧ D_law_is_below K (He.ga K "_law_is_below") fd := by
  obtain ⟨fd, F⟩ := T.F_law_is_below
  refine ⟨fd, F.ok sc_law_is_below (fun vs H Q E h => ?_) (fun cdv A outer s H vs Q E hr h => ?_), F⟩
  · obtain ⟨a, b, s, l, rfl, _⟩ := h
    rfl
  ·
    obtain ⟨a, b, s, l, rfl, ha, hb, q⟩ := h
    refine ⟨_, PSs.nox (pss_cons (ps_set (i := 2) sc_law_is_below.nd rfl (by first | exact Or.inl rfl | exact Or.inr rfl) pe_int)
    (pss_cons (ps_for PassesOwn.never rfl (pi_tup (pv 1)) (pg_name (i := 3) sc_law_is_below.nd rfl (by first | exact Or.inl rfl | exact Or.inr rfl))
    (pss_one (ps_if (PW.pt (pw_and (pt_cmpR op_lt (pv 2) (pe_callB call_lenT (by rfl) T.z_len (by decide +kernel) (pa_cons (pv 0) pa_nil)) (nomark _)) (pw_and1 (pt_cmpR op_eq (pe_ix ix_TH (pv 0) (pv 2) (fun _ _ => rfl)) (pv 3) (nomark _)))))
    (pss_one (ps_set (i := 2) sc_law_is_below.nd rfl (by first | exact Or.inl rfl | exact Or.inr rfl) (pe_op op_add (pv 2) pe_int)))
    pss_nil)))
    (pss_one (ps_ret (pe_cmpR op_eq (pv 2) (pe_callB call_lenT (by rfl) T.z_len (by decide +kernel) (pa_cons (pv 0) pa_nil)) (nomark _)))))), ?_⟩
    simp only [tMk1, iEnumA, iSeq, tPar3, tSeq, tAsg, tCB, tCons, tNil, tVar, tOp, tUn, rI, rI0, rU, gName, gNil, gCons, gSub, rSetL, tC, tRet, tRetN, tNext, tIfS, tTest, tB, tAnd, tOr, tNot, tAndV, tOrV, tNotV, tIf,
  tDrop, tCall, tCallS, tPar, tAug, ipI, tBreak, tCont, tTup, tLst, rEq_int, rNe_int, rEq_bl, rNe_bl, rEq_str, rNe_str, HO.lst.injEq, HO.tup.injEq, Bool.not_eq_true', decide_eq_false_iff_not, rIxH, rIxTH, rCat, tSl, tPart, tNoPart, tBM, rAppend, L2.start, tFor_eq, tLc_eq, iList, iTup, iRng1, iRng2, iEnum, iZip, cx_K, cx_prog, cx_w, cx_nK, forall_const, tYes, wipe, List.foldl_cons, List.foldl_nil, and_assoc, List.map_cons, List.map_nil, List.length_cons, List.length_nil, List.replicate, List.append_nil, List.cons_append, List.nil_append,
  List.getElem?_cons_zero, List.getElem?_cons_succ, List.set_cons_zero, List.set_cons_succ, Nat.zero_add, Nat.add_zero, Nat.reduceAdd, Nat.reduceSub, Option.some.injEq, V.int.injEq, V.bl.injEq, V.ref.injEq, V.str.injEq,
  List.cons.injEq, and_true, true_and, exists_eq_left, exists_eq_left', exists_eq_right, exists_const, exists_eq, exists_and_left, exists_and_right, upd_same, upd_upd, atI_0, atI_1, atI_2, atI_3, ixN_4_0, ixN_4_1, ixN_4_2, ixN_4_3, some_lst, some_tup, decide_eq_true_eq, reduceCtorEq,
  V.int.injEq, Bool.true_eq_false, Bool.false_eq_true, if_true, if_false, ite_true, ite_false, eq_self, not_true_eq_false, not_false_eq_true, decide_true, decide_false, Bool.not_true, Bool.not_false, false_and, and_false, exists_false, ha, hb]
    refine ⟨⟨_, .inl (.inl hb)⟩, ?_⟩
    have wk := walk_tup (K := K) (a := b) (xs := l.map V.int)
    rw [List.length_map] at wk
    refine Loop.by wk (i_is_below H a b s l) ⟨0, none, rfl, rfl, Nat.zero_le _, rfl⟩ (fun i σ H' _ ⟨_, _, _, e, _⟩ => by rw [e]; exact .inl (.inl hb)) ?_ ?_
    · rintro i x σ H1 H2 hi ⟨at_, v3, rfl, rfl, hat, hr⟩ ⟨rfl, hx⟩
      rw [List.getElem?_map, getD_at hi] at hx
      obtain rfl := Option.some.inj hx
      simp only [tMk1, iEnumA, iSeq, tPar3, tSeq, tAsg, tCB, tCons, tNil, tVar, tOp, tUn, rI, rI0, rU, gName, gNil, gCons, gSub, rSetL, tC, tRet, tRetN, tNext, tIfS, tTest, tB, tAnd, tOr, tNot, tAndV, tOrV, tNotV, tIf,
  tDrop, tCall, tCallS, tPar, tAug, ipI, tBreak, tCont, tTup, tLst, rEq_int, rNe_int, rEq_bl, rNe_bl, rEq_str, rNe_str, HO.lst.injEq, HO.tup.injEq, Bool.not_eq_true', decide_eq_false_iff_not, rIxH, rIxTH, rCat, tSl, tPart, tNoPart, tBM, rAppend, L2.start, tFor_eq, tLc_eq, iList, iTup, iRng1, iRng2, iEnum, iZip, cx_K, cx_prog, cx_w, cx_nK, forall_const, tYes, wipe, List.foldl_cons, List.foldl_nil, and_assoc, List.map_cons, List.map_nil, List.length_cons, List.length_nil, List.replicate, List.append_nil, List.cons_append, List.nil_append,
  List.getElem?_cons_zero, List.getElem?_cons_succ, List.set_cons_zero, List.set_cons_succ, Nat.zero_add, Nat.add_zero, Nat.reduceAdd, Nat.reduceSub, Option.some.injEq, V.int.injEq, V.bl.injEq, V.ref.injEq, V.str.injEq,
  List.cons.injEq, and_true, true_and, exists_eq_left, exists_eq_left', exists_eq_right, exists_const, exists_eq, exists_and_left, exists_and_right, upd_same, upd_upd, atI_0, atI_1, atI_2, atI_3, ixN_4_0, ixN_4_1, ixN_4_2, ixN_4_3, some_lst, some_tup, decide_eq_true_eq, reduceCtorEq,
  V.int.injEq, Bool.true_eq_false, Bool.false_eq_true, if_true, if_false, ite_true, ite_false, eq_self, not_true_eq_false, not_false_eq_true, decide_true, decide_false, Bool.not_true, Bool.not_false, false_and, and_false, exists_false, ha, List.length_map]
      have hr2 : rem (l.take (i + 1)) s = rem [l.getD i 0] (s.drop at_) := by
        rw [List.take_add_one, getD_at hi, rem_app, ← hr]; rfl
      refine ite2 (fun c => ⟨_, atI_w rfl (by omega), ?_⟩) (fun c => ?_)
      rw [rEq_int]
      refine ⟨_, rfl, ite2 (fun e => ?_) (fun e => ?_)⟩
      · have e0 : s.drop at_ = s.getD at_ 0 :: s.drop (at_ + 1) := by
          rw [List.getD_eq_getElem?_getD, List.getElem?_eq_getElem (by omega)]
          exact (List.getElem_cons_drop (by omega)).symm
        refine ⟨at_ + 1, _, rfl, rfl, by omega, ?_⟩
        rw [hr2, e0]
        show _ = (if s.getD at_ 0 = l.getD i 0 then rem [] (s.drop (at_ + 1)) else rem [] _)
        rw [if_pos (of_decide_eq_true e)]; rfl
      · have e0 : s.drop at_ = s.getD at_ 0 :: s.drop (at_ + 1) := by
          rw [List.getD_eq_getElem?_getD, List.getElem?_eq_getElem (by omega)]
          exact (List.getElem_cons_drop (by omega)).symm
        refine ⟨at_, _, rfl, rfl, by omega, ?_⟩
        rw [hr2, e0]
        show _ = (if s.getD at_ 0 = l.getD i 0 then rem [] (s.drop (at_ + 1)) else rem [] (s.getD at_ 0 :: s.drop (at_ + 1)))
        rw [if_neg (fun z => e (decide_eq_true z))]; rfl
      · refine ⟨at_, _, rfl, rfl, by omega, ?_⟩
        rw [hr2, List.drop_eq_nil_of_le (by omega)]; rfl
    · rintro σ H1 ⟨at_, v3, rfl, rfl, hat, hr⟩
      simp only [tMk1, iEnumA, iSeq, tPar3, tSeq, tAsg, tCB, tCons, tNil, tVar, tOp, tUn, rI, rI0, rU, gName, gNil, gCons, gSub, rSetL, tC, tRet, tRetN, tNext, tIfS, tTest, tB, tAnd, tOr, tNot, tAndV, tOrV, tNotV, tIf,
  tDrop, tCall, tCallS, tPar, tAug, ipI, tBreak, tCont, tTup, tLst, rEq_int, rNe_int, rEq_bl, rNe_bl, rEq_str, rNe_str, HO.lst.injEq, HO.tup.injEq, Bool.not_eq_true', decide_eq_false_iff_not, rIxH, rIxTH, rCat, tSl, tPart, tNoPart, tBM, rAppend, L2.start, tFor_eq, tLc_eq, iList, iTup, iRng1, iRng2, iEnum, iZip, cx_K, cx_prog, cx_w, cx_nK, forall_const, tYes, wipe, List.foldl_cons, List.foldl_nil, and_assoc, List.map_cons, List.map_nil, List.length_cons, List.length_nil, List.replicate, List.append_nil, List.cons_append, List.nil_append,
  List.getElem?_cons_zero, List.getElem?_cons_succ, List.set_cons_zero, List.set_cons_succ, Nat.zero_add, Nat.add_zero, Nat.reduceAdd, Nat.reduceSub, Option.some.injEq, V.int.injEq, V.bl.injEq, V.ref.injEq, V.str.injEq,
  List.cons.injEq, and_true, true_and, exists_eq_left, exists_eq_left', exists_eq_right, exists_const, exists_eq, exists_and_left, exists_and_right, upd_same, upd_upd, atI_0, atI_1, atI_2, atI_3, ixN_4_0, ixN_4_1, ixN_4_2, ixN_4_3, some_lst, some_tup, decide_eq_true_eq, reduceCtorEq,
  V.int.injEq, Bool.true_eq_false, Bool.false_eq_true, if_true, if_false, ite_true, ite_false, eq_self, not_true_eq_false, not_false_eq_true, decide_true, decide_false, Bool.not_true, Bool.not_false, false_and, and_false, exists_false, ha, List.length_map]
      refine q _ ?_
      rw [List.take_of_length_le (Nat.le_refl _)] at hr
      rw [decide_eq_true_eq]
      constructor
      · intro e
        refine sub_rem ?_
        rw [← hr, List.drop_eq_nil_of_le (by omega)]
      · intro e
        rw [rem_sub e] at hr
        have := List.drop_eq_nil_iff.mp hr
        omega
end Mine

namespace Mine
open PySem PySem.Spec PyProof.Rows L2
local macro_rules | `(tactic| walk_at "rd") => `(tactic| try simp only [tMk1, iEnumA, iSeq, tPar3, tSeq, tAsg, tCB, tCons, tNil, tVar, tOp, tUn, rI, rI0, rU, gName, gNil, gCons, gSub, rSetL, tC, tRet, tRetN, tNext, tIfS, tTest, tB, tAnd, tOr, tNot, tAndV, tOrV, tNotV, tIf,
  tDrop, tCall, tCallS, tPar, tAug, ipI, tBreak, tCont, tTup, tLst, rEq_int, rNe_int, rEq_bl, rNe_bl, rEq_str, rNe_str, HO.lst.injEq, HO.tup.injEq, Bool.not_eq_true', decide_eq_false_iff_not, rIxH, rIxTH, rCat, tSl, tPart, tNoPart, tBM, rAppend, L2.start, tFor_eq, tLc_eq, iList, iTup, iRng1, iRng2, iEnum, iZip, cx_K, cx_prog, cx_w, cx_nK, forall_const, tYes, wipe, List.foldl_cons, List.foldl_nil, and_assoc, List.map_cons, List.map_nil, List.length_cons, List.length_nil, List.replicate, List.append_nil, List.cons_append, List.nil_append,
  List.getElem?_cons_zero, List.getElem?_cons_succ, List.set_cons_zero, List.set_cons_succ, Nat.zero_add, Nat.add_zero, Nat.reduceAdd, Nat.reduceSub, Option.some.injEq, V.int.injEq, V.bl.injEq, V.ref.injEq, V.str.injEq,
  List.cons.injEq, and_true, true_and, exists_eq_left, exists_eq_left', exists_eq_right, exists_const, exists_eq, exists_and_left, exists_and_right, upd_same, upd_upd, atI_0, atI_1, atI_2, atI_3, ixN_4_0, ixN_4_1, ixN_4_2, ixN_4_3, some_lst, some_tup, decide_eq_true_eq, reduceCtorEq,
  V.int.injEq, Bool.true_eq_false, Bool.false_eq_true, if_true, if_false, ite_true, ite_false, eq_self, not_true_eq_false, not_false_eq_true, decide_true, decide_false, Bool.not_true, Bool.not_false, false_and, and_false, exists_false])
local macro_rules | `(tactic| walk_at "mono") => `(tactic| repeat (first | with_reducible exact mon_var _ | with_reducible exact mon_c _ | with_reducible exact mon_rI _ _ | with_reducible exact mon_rI0 _ | with_reducible exact mon_rEq | with_reducible exact mon_rNe | with_reducible refine mon_test ?_ | with_reducible refine mon_op ?_ ?_ ?_ | with_reducible refine mon_and ?_ ?_ | with_reducible refine mon_or ?_ ?_ | with_reducible exact mon_rU _ | with_reducible refine mon_un ?_ ?_))
local macro_rules | `(tactic| walk_at "sd") => `(tactic| first | assumption | omega | (unfold CMul; omega) | (unfold CDiv; omega) | rfl | decide)
local macro_rules | `(tactic| walk_at "go") => `(tactic| repeat (refine And.intro (by first | assumption | omega | exact tyL (by assumption) | (unfold CMul; omega) | (unfold CDiv; omega) | rfl | decide) ?_))
-- needs: rise_word, rise_sum, law_rise_word, law_rises, law_is_below
def sp_law_put_unlike : Sp := fun vs H Q _ => ∃ (a : Addr) (w : List Int) (c : Int), vs = [.ref a, .int c] ∧ H a = some (.tup (w.map V.int)) ∧ TS.Bd 4 w ∧ w.length ≤ 60 ∧ (0 ≤ c ∧ c < 4) ∧ ∀ H', Same H H' → Q (.bl true) H'
theorem ok_law_put_unlike {P : Program} {w : World} {K : PySem.W.Frag} {mg : Str → Option Value} {base : Heap} (T : Txt K mg) : ∃ fd, FnOk P w K mg base CX0 6 (He.ga K "_law_put_unlike") fd P_law_put_unlike sp_law_put_unlike ∧ D_law_put_unlike K (He.ga K "_law_put_unlike") fd := by
  obtain ⟨fd, F⟩ := T.F_law_put_unlike
  obtain ⟨fd_rise_word, G_rise_word, D_rise_word⟩ := ok_rise_word (P := P) (w := w) (base := base) T
  have k_rise_word := D_rise_word.kp
  have b_rise_word := bd_rise_word D_rise_word
  obtain ⟨fd_rise_sum, G_rise_sum, D_rise_sum⟩ := ok_rise_sum (P := P) (w := w) (base := base) T
  have k_rise_sum := D_rise_sum.kp
  have b_rise_sum := bd_rise_sum D_rise_sum
  obtain ⟨fd_law_rises, G_law_rises, D_law_rises⟩ := ok_law_rises (P := P) (w := w) (base := base) T
  have k_law_rises := D_law_rises.kp
  have b_law_rises := bd_law_rises D_law_rises
  obtain ⟨fd_law_rise_word, G_law_rise_word, D_law_rise_word⟩ := ok_law_rise_word (P := P) (w := w) (base := base) T
  have k_law_rise_word := D_law_rise_word.kp
  have b_law_rise_word := bd_law_rise_word D_law_rise_word
  obtain ⟨fd_law_is_below, G_law_is_below, D_law_is_below⟩ := ok_law_is_below (P := P) (w := w) (base := base) T
  have k_law_is_below := D_law_is_below.kp
  have b_law_is_below := bd_law_is_below D_law_is_below
  refine ⟨fd, F.ok sc_law_put_unlike (fun vs H Q E h => ?_) (fun cdv A outer s H vs Q E hr h => ?_), F⟩
  · obtain ⟨a, w, c, rfl, _⟩ := h
    rfl
  ·
    rename World => w_1
    obtain ⟨a, w, c, rfl, ha, hb, hl, hc, q⟩ := h
    refine ⟨_, PSs.nox (pss_cons (ps_set (i := 2) sc_law_put_unlike.nd rfl (by first | exact Or.inl rfl | exact Or.inr rfl) (pe_callB (cr_sortedA rfl) (by rfl) T.z_sorted (by decide +kernel) (pa_cons (pe_callTy (cr_setOfT rfl hr.units) (by rfl) T.z_set (by decide +kernel) (pa_cons (pe_lc (own := [("_law_k", 5)]) rfl sc_law_put_unlike.nd (pi_range1 (by rfl) T.z_range (pa_cons (pe_op op_add (pe_callB call_lenT (by rfl) T.z_len (by decide +kernel) (pa_cons (pv 0) pa_nil)) pe_int) pa_nil)) (blkOk_by (own := [("_law_k", 5)]) (N := N_law_put_unlike) (sc := defScope s_law_put_unlike) (by decide +kernel)) (fun _ _ _ _ _ => (pg_name (i := 5) sc_law_put_unlike.nd rfl (by first | exact Or.inl rfl | exact Or.inr rfl))) (fun _ _ _ _ _ => pts_nil) (fun _ _ _ _ _ => (pe_op (OpR.k (r := rCatA) (K := K) op_catA rfl) (pe_op (OpR.k (r := rCatA) (K := K) op_catA rfl) (pe_slice (SlR.k (r := rSlA) (K := K) sl_tupA rfl) (pv 0) po_none (po_some (pv 5))) (pe_tup (pa_cons (pv 1) pa_nil))) (pe_slice (SlR.k (r := rSlA) (K := K) sl_tupA rfl) (pv 0) (po_some (pv 5)) po_none)))) pa_nil)) pa_nil)))
    (pss_cons (ps_if (pt_cmpR op_ne (pe_callB call_lenL (by rfl) T.z_len (by decide +kernel) (pa_cons (pv 2) pa_nil)) (pe_op op_sub (pe_op op_add (pe_callB call_lenT (by rfl) T.z_len (by decide +kernel) (pa_cons (pv 0) pa_nil)) pe_int) (pe_callB call_lenL (by rfl) T.z_len (by decide +kernel) (pa_cons (pe_lc (own := [("_law_one", 4)]) rfl sc_law_put_unlike.nd (pi_tup (pv 0)) (blkOk_by (own := [("_law_one", 4)]) (N := N_law_put_unlike) (sc := defScope s_law_put_unlike) (by decide +kernel)) (fun _ _ _ _ _ => (pg_name (i := 4) sc_law_put_unlike.nd rfl (by first | exact Or.inl rfl | exact Or.inr rfl))) (fun _ _ _ _ _ => (pts_one (pt_cmpR op_eq (pv 4) (pv 1) (nomark _)))) (fun _ _ _ _ _ => (pv 4))) pa_nil))) (nomark _))
    (pss_one (ps_ret pe_bl))
    pss_nil)
    (pss_cons (ps_setLc (i := 3) (own := [("_law_one", 4)]) rfl sc_law_put_unlike.nd rfl rfl (sw_true rfl rfl rfl (by decide +kernel)) (pi_list (pv 2)) (blkOk_by (own := [("_law_one", 4)]) (N := N_law_put_unlike) (sc := defScope s_law_put_unlike) (by decide +kernel)) (fun _ _ _ _ _ => (pg_name (i := 4) sc_law_put_unlike.nd rfl (by first | exact Or.inl rfl | exact Or.inr rfl))) (fun _ _ _ _ _ => pts_nil) (fun _ _ _ _ _ => (pe_call G_rise_word (hr.mono (by decide)) rfl T.g_rise_word k_rise_word b_rise_word .nil passL (pa_cons (pv 4) pa_nil))))
    (pss_cons (ps_if (PW.pt (pw_or (pt_cmpR (op_neD hr.units) (pv 3) (pe_lc (own := [("_law_one", 4)]) rfl sc_law_put_unlike.nd (pi_list (pv 2)) (blkOk_by (own := [("_law_one", 4)]) (N := N_law_put_unlike) (sc := defScope s_law_put_unlike) (by decide +kernel)) (fun _ _ _ _ _ => (pg_name (i := 4) sc_law_put_unlike.nd rfl (by first | exact Or.inl rfl | exact Or.inr rfl))) (fun _ _ _ _ _ => pts_nil) (fun _ _ _ _ _ => (pe_call G_law_rise_word (hr.mono (by decide)) rfl T.g__law_rise_word k_law_rise_word b_law_rise_word .nil pass0 (pa_cons (pv 4) pa_nil)))) (nomark _)) (pw_or1 (pt_cmpR (op_neD hr.units) (pe_lc (own := [("_law_one", 4)]) rfl sc_law_put_unlike.nd (pi_list (pv 2)) (blkOk_by (own := [("_law_one", 4)]) (N := N_law_put_unlike) (sc := defScope s_law_put_unlike) (by decide +kernel)) (fun _ _ _ _ _ => (pg_name (i := 4) sc_law_put_unlike.nd rfl (by first | exact Or.inl rfl | exact Or.inr rfl))) (fun _ _ _ _ _ => pts_nil) (fun _ _ _ _ _ => (pe_call G_rise_sum (hr.mono (by decide)) rfl T.g_rise_sum k_rise_sum b_rise_sum .nil passL (pa_cons (pv 4) pa_nil)))) (pe_lc (own := [("_law_one", 4)]) rfl sc_law_put_unlike.nd (pi_list (pv 2)) (blkOk_by (own := [("_law_one", 4)]) (N := N_law_put_unlike) (sc := defScope s_law_put_unlike) (by decide +kernel)) (fun _ _ _ _ _ => (pg_name (i := 4) sc_law_put_unlike.nd rfl (by first | exact Or.inl rfl | exact Or.inr rfl))) (fun _ _ _ _ _ => pts_nil) (fun _ _ _ _ _ => (pe_callB (CallR.k (r := rSum) (K := K) (cr_sum rfl) rfl) (by rfl) T.z_sum (by decide +kernel) (pa_cons (pe_call G_law_rises (hr.mono (by decide)) rfl T.g__law_rises k_law_rises b_law_rises .nil pass0 (pa_cons (pv 4) pa_nil)) pa_nil)))) (nomark _)))))
    (pss_one (ps_ret pe_bl))
    pss_nil)
    (pss_cons (ps_if (pt_cmpR op_ne (pe_callB call_lenL (by rfl) T.z_len (by decide +kernel) (pa_cons (pe_callB (cr_sortedA rfl) (by rfl) T.z_sorted (by decide +kernel) (pa_cons (pe_callTy (cr_setOfT rfl hr.units) (by rfl) T.z_set (by decide +kernel) (pa_cons (pv 3) pa_nil)) pa_nil)) pa_nil)) (pe_callB call_lenL (by rfl) T.z_len (by decide +kernel) (pa_cons (pv 2) pa_nil)) (nomark _))
    (pss_one (ps_ret pe_bl))
    pss_nil)
    (pss_cons (ps_if (PW.pt (pw_and (pt_cmpR op_gt (pe_callB call_lenT (by rfl) T.z_len (by decide +kernel) (pa_cons (pv 0) pa_nil)) pe_int (nomark _)) (pw_and1 (pt_not (pt_val (pe_callB (CallR.k (r := rAll) (K := K) (cr_all rfl) rfl) (by rfl) T.z_all (by decide +kernel) (pa_cons (pe_lc (own := [("_law_one", 4)]) rfl sc_law_put_unlike.nd (pi_list (pv 3)) (blkOk_by (own := [("_law_one", 4)]) (N := N_law_put_unlike) (sc := defScope s_law_put_unlike) (by decide +kernel)) (fun _ _ _ _ _ => (pg_name (i := 4) sc_law_put_unlike.nd rfl (by first | exact Or.inl rfl | exact Or.inr rfl))) (fun _ _ _ _ _ => pts_nil) (fun _ _ _ _ _ => (pe_call G_law_is_below (hr.mono (by decide)) rfl T.g__law_is_below k_law_is_below b_law_is_below .nil pass0 (pa_cons (pe_call G_rise_word (hr.mono (by decide)) rfl T.g_rise_word k_rise_word b_rise_word .nil passL (pa_cons (pv 0) pa_nil)) (pa_cons (pv 4) pa_nil))))) pa_nil)))))))
    (pss_one (ps_ret pe_bl))
    pss_nil)
    (pss_one (ps_ret (pe_cmpR op_eq (pe_callB call_lenL (by rfl) T.z_len (by decide +kernel) (pa_cons (pe_callB (cr_sortedSet rfl) (by rfl) T.z_sorted (by decide +kernel) (pa_cons (pe_callTy (cr_setOfI rfl) (by rfl) T.z_set (by decide +kernel) (pa_cons (pe_lc (own := [("_law_one", 4)]) rfl sc_law_put_unlike.nd (pi_list (pv 2)) (blkOk_by (own := [("_law_one", 4)]) (N := N_law_put_unlike) (sc := defScope s_law_put_unlike) (by decide +kernel)) (fun _ _ _ _ _ => (pg_name (i := 4) sc_law_put_unlike.nd rfl (by first | exact Or.inl rfl | exact Or.inr rfl))) (fun _ _ _ _ _ => pts_nil) (fun _ _ _ _ _ => (pe_op op_mod (pe_callTy call_intI (by rfl) T.z_int (by decide +kernel) (pa_cons (pe_call G_rise_sum (hr.mono (by decide)) rfl T.g_rise_sum k_rise_sum b_rise_sum .nil passL (pa_cons (pv 4) pa_nil)) pa_nil)) (pe_op op_add (pe_callB call_lenT (by rfl) T.z_len (by decide +kernel) (pa_cons (pv 0) pa_nil)) pe_int)))) pa_nil)) pa_nil)) pa_nil)) (pe_callB call_lenL (by rfl) T.z_len (by decide +kernel) (pa_cons (pv 2) pa_nil)) (nomark _)))))))))), ?_⟩
    simp only [tMk1, iEnumA, iSeq, tPar3, tSeq, tAsg, tCB, tCons, tNil, tVar, tOp, tUn, rI, rI0, rU, gName, gNil, gCons, gSub, rSetL, tC, tRet, tRetN, tNext, tIfS, tTest, tB, tAnd, tOr, tNot, tAndV, tOrV, tNotV, tIf,
  tDrop, tCall, tCallS, tPar, tAug, ipI, tBreak, tCont, tTup, tLst, rEq_int, rNe_int, rEq_bl, rNe_bl, rEq_str, rNe_str, HO.lst.injEq, HO.tup.injEq, Bool.not_eq_true', decide_eq_false_iff_not, rIxH, rIxTH, rCat, tSl, tPart, tNoPart, tBM, rAppend, L2.start, tFor_eq, tLc_eq, iList, iTup, iRng1, iRng2, iEnum, iZip, cx_K, cx_prog, cx_w, cx_nK, forall_const, tYes, wipe, List.foldl_cons, List.foldl_nil, and_assoc, List.map_cons, List.map_nil, List.length_cons, List.length_nil, List.replicate, List.append_nil, List.cons_append, List.nil_append,
  List.getElem?_cons_zero, List.getElem?_cons_succ, List.set_cons_zero, List.set_cons_succ, Nat.zero_add, Nat.add_zero, Nat.reduceAdd, Nat.reduceSub, Option.some.injEq, V.int.injEq, V.bl.injEq, V.ref.injEq, V.str.injEq,
  List.cons.injEq, and_true, true_and, exists_eq_left, exists_eq_left', exists_eq_right, exists_const, exists_eq, exists_and_left, exists_and_right, upd_same, upd_upd, atI_0, atI_1, atI_2, atI_3, ixN_4_0, ixN_4_1, ixN_4_2, ixN_4_3, some_lst, some_tup, decide_eq_true_eq, reduceCtorEq,
  V.int.injEq, Bool.true_eq_false, Bool.false_eq_true, if_true, if_false, ite_true, ite_false, eq_self, not_true_eq_false, not_false_eq_true, decide_true, decide_false, Bool.not_true, Bool.not_false, false_and, and_false, exists_false, ha, List.length_map]
    refine ⟨by omega, by omega, fun D hD => ?_⟩
    have n1 : ((w.length : Int) + 1).toNat = w.length + 1 := by omega
    rw [n1]
    refine Lc.rowsR (fun k => ins c k w) hD (by omega) (fun _ => rfl) (fun i H1 Qk hi s1 qk => ?_) fun H1 s1 hr => ?_
    · walk_at "rd"
      refine sl_take (k := i) (by omega) (s1 _ _ ha) fun p1 H2 s2 h2 => ?_
      walk_at "rd"
      refine ⟨by decide, fun p hp => ?_⟩
      have s3 := same_upd (o := HO.tup [V.int c]) hp
      have a2 := s2 _ _ (s1 _ _ ha)
      refine cat_use (s3 _ _ h2) upd_same (by rw [List.length_take, List.length_map]; simp; omega) fun p3 H3 s3' h3 => ?_
      walk_at "rd"
      refine sl_drop (k := i) (by omega) (s3' _ _ (s3 _ _ a2)) fun p4 H4 s4 h4 => ?_
      refine cat_use (s4 _ _ h3) h4 (by simp only [List.length_append, List.length_take, List.length_drop, List.length_map, List.length_cons, List.length_nil]; omega) fun p5 H5 s5 h5 => qk p5 H5 ((((s2.trans s3).trans s3').trans s4).trans s5) ?_
      rw [h5, ins_eq c i w (by omega), List.map_append, List.map_take, List.map_cons, List.map_drop, List.append_assoc]
      rfl
    refine sorted_set (d := w.length + 1) (B := 4) hr (by rw [List.length_map, List.length_range]; omega) (fun x hx => ?_) fun pm H2 ws s2 _ hr2 mem ris => ?_
    · obtain ⟨k, hk, rfl⟩ := List.mem_map.mp hx
      have hk2 := List.mem_range.mp hk
      refine ⟨ins_len c k w, fun z hz => ?_⟩
      rw [ins_eq c k w (by omega)] at hz
      rcases List.mem_append.mp hz with m | m
      · exact hb z (List.mem_of_mem_take m)
      · rcases List.mem_cons.mp m with e | m
        · rw [e]; exact hc
        · exact hb z (List.mem_of_mem_drop m)
    have memP : ∀ x, x ∈ ws ↔ x ∈ puts c w := fun x => by
      rw [mem x, List.mem_map, mem_puts]
      exact ⟨fun ⟨k, hk, e⟩ => ⟨k, by have := List.mem_range.mp hk; omega, e.symm⟩, fun ⟨k, hk, e⟩ => ⟨k, List.mem_range.mpr (by omega), e.symm⟩⟩
    have nd := ris.nodup
    have lenP : ws.length = (puts c w).length := same_len nd (puts_nodup c w) memP
    have lenC := puts_len c w
    have a2 := s2 _ _ (s1 _ _ ha)
    have hr2' := hr2
    obtain ⟨ks, k1, rfl, k3⟩ := hr2'
    simp only [tMk1, iEnumA, iSeq, tPar3, tSeq, tAsg, tCB, tCons, tNil, tVar, tOp, tUn, rI, rI0, rU, gName, gNil, gCons, gSub, rSetL, tC, tRet, tRetN, tNext, tIfS, tTest, tB, tAnd, tOr, tNot, tAndV, tOrV, tNotV, tIf,
  tDrop, tCall, tCallS, tPar, tAug, ipI, tBreak, tCont, tTup, tLst, rEq_int, rNe_int, rEq_bl, rNe_bl, rEq_str, rNe_str, HO.lst.injEq, HO.tup.injEq, Bool.not_eq_true', decide_eq_false_iff_not, rIxH, rIxTH, rCat, tSl, tPart, tNoPart, tBM, rAppend, L2.start, tFor_eq, tLc_eq, iList, iTup, iRng1, iRng2, iEnum, iZip, cx_K, cx_prog, cx_w, cx_nK, forall_const, tYes, wipe, List.foldl_cons, List.foldl_nil, and_assoc, List.map_cons, List.map_nil, List.length_cons, List.length_nil, List.replicate, List.append_nil, List.cons_append, List.nil_append,
  List.getElem?_cons_zero, List.getElem?_cons_succ, List.set_cons_zero, List.set_cons_succ, Nat.zero_add, Nat.add_zero, Nat.reduceAdd, Nat.reduceSub, Option.some.injEq, V.int.injEq, V.bl.injEq, V.ref.injEq, V.str.injEq,
  List.cons.injEq, and_true, true_and, exists_eq_left, exists_eq_left', exists_eq_right, exists_const, exists_eq, exists_and_left, exists_and_right, upd_same, upd_upd, atI_0, atI_1, atI_2, atI_3, ixN_4_0, ixN_4_1, ixN_4_2, ixN_4_3, some_lst, some_tup, decide_eq_true_eq, reduceCtorEq,
  V.int.injEq, Bool.true_eq_false, Bool.false_eq_true, if_true, if_false, ite_true, ite_false, eq_self, not_true_eq_false, not_false_eq_true, decide_true, decide_false, Bool.not_true, Bool.not_false, false_and, and_false, exists_false, k1, a2, List.length_map]
    refine ⟨⟨_, .inl (.inl a2)⟩, fun D3 hD3 => ?_⟩
    refine Lc.ints (fun i => if w.getD i 0 = c then some (V.int (w.getD i 0)) else none) (.inl (.inl a2)) hD3 (by omega) (fun _ => rfl) (fun i H3 Qk Qn hi s3 qk qn => ?_) fun H3 s3 hd3 => ?_
    · walk_at "rd"
      by_cases e : w.getD i 0 = c
      · simp only [e, decide_true, if_true]
        exact qk _ H3 (Same.refl H3) (by rw [if_pos e, e])
      · simp only [e, decide_false, if_false, Bool.false_eq_true]
        exact qn H3 (Same.refl H3) (if_neg e)
    have e3 : (List.range w.length).filterMap (fun i => if w.getD i 0 = c then some (V.int (w.getD i 0)) else none) = (w.filter fun x => decide (x = c)).map V.int := by
      rw [← range_filterI w fun x => decide (x = c), List.map_filterMap]
      congr 1
      funext i
      by_cases e : w.getD i 0 = c
      · rw [if_pos e, if_pos (decide_eq_true e)]; rfl
      · rw [if_neg e, if_neg (by rw [decide_eq_false e]; decide)]; rfl
    have e4 : (w.filter fun x => decide (x = c)).length = w.count c := by
      rw [List.count, List.countP_eq_length_filter]
      congr 2
    rw [e3] at hd3
    have kl : ks.length = (puts c w).length := by rw [← lenP, List.length_map]
    refine ⟨D3, rfl, _, hd3, ?_⟩
    rw [List.length_map, e4, if_neg (by omega)]
    have inP : ∀ x ∈ ks.map (·.2), TS.Bd 4 x ∧ x.length = w.length + 1 := fun x hx => by
      obtain ⟨k, hk, rfl⟩ := mem_puts.mp ((memP x).mp hx)
      refine ⟨fun z hz => ?_, ins_len c k w⟩
      rw [ins_eq c k w hk] at hz
      rcases List.mem_append.mp hz with m | m
      · exact hb z (List.mem_of_mem_take m)
      · rcases List.mem_cons.mp m with e | m
        · rw [e]; exact hc
        · exact hb z (List.mem_of_mem_drop m)
    have lenK : (ks.map (·.2)).length ≤ 1000 := by rw [List.length_map, kl]; omega
    refine ⟨⟨_, .inl (.inl (s3 _ _ k1))⟩, fun D4 hD4 => ?_⟩
    refine Lc.rowsMap rise (hr2.same s3) hD4 (by omega) (fun _ => rfl) (fun x qx H4 Qk hx s4 hq qk => ?_) fun H4 s4 hr4 => ?_
    · walk_at "rd"
      exact rise_word_use (th_tup hq (by have := (inP x hx).2; omega)) (inP x hx).1 (by have := (inP x hx).2; omega) qk
    walk_at "rd"
    have s24 := s3.trans s4
    refine ⟨⟨_, .inl (.inl (s24 _ _ k1))⟩, fun D5 hD5 => ?_⟩
    refine Lc.rowsMap rise (hr2.same s24) hD5 (by omega) (fun _ => rfl) (fun x qx H5 Qk hx s5 hq qk => ?_) fun H5 s5 hr5 => ?_
    · walk_at "rd"
      exact ⟨qx, x, rfl, hq, by have := (inP x hx).2; omega, qk⟩
    refine neR (hr4.same s5) hr5 ⟨false, by rw [decide_eq_true rfl]; rfl, ?_⟩
    rw [if_neg (by decide)]
    have s25 := s24.trans s5
    refine ⟨⟨_, .inl (.inl (s25 _ _ k1))⟩, fun D6 hD6 => ?_⟩
    refine Lc.rowsFlat (fun x => V.int (wsum 0 (rise x))) (hr2.same s25) hD6 (by omega) (fun _ => rfl) (fun x qx H6 Qk hx s6 hq qk => ?_) fun H6 s6 hr6 => ?_
    · walk_at "rd"
      exact rise_sum_use (th_tup hq (by have := (inP x hx).2; omega)) (inP x hx).1 (by have := (inP x hx).2; omega) qk
    walk_at "rd"
    have s26 := s25.trans s6
    refine ⟨⟨_, .inl (.inl (s26 _ _ k1))⟩, fun D7 hD7 => ?_⟩
    refine Lc.rowsFlat (fun x => V.int (wsum 0 (rise x))) (hr2.same s26) hD7 (by omega) (fun _ => rfl) (fun x qx H7 Qk hx s7 hq qk => ?_) fun H7 s7 hr7 => ?_
    · walk_at "rd"
      refine ⟨qx, x, rfl, hq, by have := (inP x hx).2; omega, fun p8 H8 s8 h8 => ⟨p8, places x, rfl, .inl (.inl h8), ?_⟩⟩
      rw [places_sum]
      exact qk H8 s8
    have mm : ∀ g : List Int → Int, (ks.map (·.2)).map (fun x => V.int (g x)) = ((ks.map (·.2)).map g).map V.int := fun g => by rw [List.map_map (g := V.int)]; rfl
    rw [mm fun x => wsum 0 (rise x)] at hr6 hr7
    refine neL (s7 _ _ hr6) hr7 ⟨false, by rw [decide_eq_true rfl]; rfl, ?_⟩
    rw [if_neg (by decide)]
    have s27 := s26.trans s7
    have s47 := (s5.trans s6).trans s7
    have rlen : ∀ x ∈ ks.map (·.2), (rise x).length = w.length := fun x hx => by rw [rise_len, (inP x hx).2]; omega
    have rows4 := hr4.same s47
    refine sorted_set (d := w.length) (B := 4) rows4 (by rw [List.length_map, List.length_map, kl]; omega) (fun x hx => ?_) fun p8 H8 ws8 s8 _ hr8 mem8 ris8 => ?_
    · obtain ⟨y, hy, rfl⟩ := List.mem_map.mp hx
      exact ⟨rlen y hy, fun z hz => by have := rise_bits y z hz; omega⟩
    have nd8 : ((ks.map (·.2)).map rise).Nodup := map_nodup nd fun x hx y hy e => rises_apart ((memP x).mp hx) ((memP y).mp hy) e
    have len8 : ws8.length = ks.length := by rw [same_len ris8.nodup nd8 mem8, List.length_map, List.length_map]
    obtain ⟨k8, j1, rfl, _⟩ := hr8
    rw [List.length_map] at len8
    have s28 := s27.trans s8
    have pm8 := s28 _ _ k1
    have a8 := s28 _ _ a2
    simp only [tMk1, iEnumA, iSeq, tPar3, tSeq, tAsg, tCB, tCons, tNil, tVar, tOp, tUn, rI, rI0, rU, gName, gNil, gCons, gSub, rSetL, tC, tRet, tRetN, tNext, tIfS, tTest, tB, tAnd, tOr, tNot, tAndV, tOrV, tNotV, tIf,
  tDrop, tCall, tCallS, tPar, tAug, ipI, tBreak, tCont, tTup, tLst, rEq_int, rNe_int, rEq_bl, rNe_bl, rEq_str, rNe_str, HO.lst.injEq, HO.tup.injEq, Bool.not_eq_true', decide_eq_false_iff_not, rIxH, rIxTH, rCat, tSl, tPart, tNoPart, tBM, rAppend, L2.start, tFor_eq, tLc_eq, iList, iTup, iRng1, iRng2, iEnum, iZip, cx_K, cx_prog, cx_w, cx_nK, forall_const, tYes, wipe, List.foldl_cons, List.foldl_nil, and_assoc, List.map_cons, List.map_nil, List.length_cons, List.length_nil, List.replicate, List.append_nil, List.cons_append, List.nil_append,
  List.getElem?_cons_zero, List.getElem?_cons_succ, List.set_cons_zero, List.set_cons_succ, Nat.zero_add, Nat.add_zero, Nat.reduceAdd, Nat.reduceSub, Option.some.injEq, V.int.injEq, V.bl.injEq, V.ref.injEq, V.str.injEq,
  List.cons.injEq, and_true, true_and, exists_eq_left, exists_eq_left', exists_eq_right, exists_const, exists_eq, exists_and_left, exists_and_right, upd_same, upd_upd, atI_0, atI_1, atI_2, atI_3, ixN_4_0, ixN_4_1, ixN_4_2, ixN_4_3, some_lst, some_tup, decide_eq_true_eq, reduceCtorEq,
  V.int.injEq, Bool.true_eq_false, Bool.false_eq_true, if_true, if_false, ite_true, ite_false, eq_self, not_true_eq_false, not_false_eq_true, decide_true, decide_false, Bool.not_true, Bool.not_false, false_and, and_false, exists_false, j1, pm8, a8, List.length_map]
    rw [if_neg (by omega)]
    have rows8 := rows4.same s8
    have tail : ∀ H9, Same H8 H9 → (∃ xs, SqL K H9 pm xs) ∧ ∀ D, H9 D = none → Lc (Itl K pm) (gName 4) tYes (tOp (rI (fun _ j => 0 < j) fun i j => V.int (i % j)) (tCB (fun xs H Q => ∃ i, xs = [V.int i] ∧ Q (V.int i) H) (tCons (tCall (sp_rise_sum K) [] E0 (tCons (tVar 4) tNil)) tNil))
        (tOp (rI0 fun i j => V.int (i + j)) (tCB (fun xs H Q => ∃ p, xs = [V.ref p] ∧ ∃ x, H p = some (HO.tup x) ∧ Q (V.int x.length) H) (tCons (tVar 0) tNil)) (tC (V.int 1)))) [4] D [some (V.ref a), some (V.int c), some (V.ref pm), some (V.ref D4), none, none] H9
        fun x H1 => rSetOfI K w_1 [x] H1 fun x H1 => rSortedSet w_1 [x] H1 fun x H1 => ∃ p, x = V.ref p ∧ ∃ x, H1 p = some (HO.lst x) ∧ ∃ x_1, H1 pm = some (HO.lst x_1) ∧ Q (V.bl (decide ((x.length : Int) = x_1.length))) H1 := by
      intro H9 s9
      have s29 := s28.trans s9
      refine ⟨⟨_, .inl (.inl (s29 _ _ k1))⟩, fun D9 hD9 => ?_⟩
      refine Lc.rowsFlat (fun x => V.int (wsum 0 (rise x) % ((w.length : Int) + 1))) (hr2.same s29) hD9 (by omega) (fun _ => rfl) (fun x qx H10 Qk hx s10 hq qk => ?_) fun H10 s10 hr10 => ?_
      · walk_at "rd"
        refine rise_sum_use (th_tup hq (by have := (inP x hx).2; omega)) (inP x hx).1 (by have := (inP x hx).2; omega) fun H11 s11 => ?_
        have a11 := s11 _ _ (s10 _ _ (s29 _ _ a2))
        simp only [tMk1, iEnumA, iSeq, tPar3, tSeq, tAsg, tCB, tCons, tNil, tVar, tOp, tUn, rI, rI0, rU, gName, gNil, gCons, gSub, rSetL, tC, tRet, tRetN, tNext, tIfS, tTest, tB, tAnd, tOr, tNot, tAndV, tOrV, tNotV, tIf,
  tDrop, tCall, tCallS, tPar, tAug, ipI, tBreak, tCont, tTup, tLst, rEq_int, rNe_int, rEq_bl, rNe_bl, rEq_str, rNe_str, HO.lst.injEq, HO.tup.injEq, Bool.not_eq_true', decide_eq_false_iff_not, rIxH, rIxTH, rCat, tSl, tPart, tNoPart, tBM, rAppend, L2.start, tFor_eq, tLc_eq, iList, iTup, iRng1, iRng2, iEnum, iZip, cx_K, cx_prog, cx_w, cx_nK, forall_const, tYes, wipe, List.foldl_cons, List.foldl_nil, and_assoc, List.map_cons, List.map_nil, List.length_cons, List.length_nil, List.replicate, List.append_nil, List.cons_append, List.nil_append,
  List.getElem?_cons_zero, List.getElem?_cons_succ, List.set_cons_zero, List.set_cons_succ, Nat.zero_add, Nat.add_zero, Nat.reduceAdd, Nat.reduceSub, Option.some.injEq, V.int.injEq, V.bl.injEq, V.ref.injEq, V.str.injEq,
  List.cons.injEq, and_true, true_and, exists_eq_left, exists_eq_left', exists_eq_right, exists_const, exists_eq, exists_and_left, exists_and_right, upd_same, upd_upd, atI_0, atI_1, atI_2, atI_3, ixN_4_0, ixN_4_1, ixN_4_2, ixN_4_3, some_lst, some_tup, decide_eq_true_eq, reduceCtorEq,
  V.int.injEq, Bool.true_eq_false, Bool.false_eq_true, if_true, if_false, ite_true, ite_false, eq_self, not_true_eq_false, not_false_eq_true, decide_true, decide_false, Bool.not_true, Bool.not_false, false_and, and_false, exists_false, a11, List.length_map]
        exact ⟨by omega, qk H11 s11⟩
      rw [mm fun x => wsum 0 (rise x) % ((w.length : Int) + 1)] at hr10
      refine sorted_setI (.inl (.inl hr10)) (by rw [List.length_map, List.length_map, kl]; omega) fun p11 H11 ms s11 _ hm11 pw11 mem11 => ?_
      have nd11 : ((ks.map (·.2)).map fun x => wsum 0 (rise x) % ((w.length : Int) + 1)).Nodup := map_nodup nd fun x hx y hy e => sums_apart ((memP x).mp hx) ((memP y).mp hy) e
      have ndm : ms.Nodup := List.Pairwise.imp (fun h e => by rw [e] at h; omega) pw11
      have len11 : ms.length = ks.length := by rw [same_len ndm nd11 mem11, List.length_map, List.length_map]
      have pm11 := s11 _ _ (s10 _ _ (s29 _ _ k1))
      simp only [tMk1, iEnumA, iSeq, tPar3, tSeq, tAsg, tCB, tCons, tNil, tVar, tOp, tUn, rI, rI0, rU, gName, gNil, gCons, gSub, rSetL, tC, tRet, tRetN, tNext, tIfS, tTest, tB, tAnd, tOr, tNot, tAndV, tOrV, tNotV, tIf,
  tDrop, tCall, tCallS, tPar, tAug, ipI, tBreak, tCont, tTup, tLst, rEq_int, rNe_int, rEq_bl, rNe_bl, rEq_str, rNe_str, HO.lst.injEq, HO.tup.injEq, Bool.not_eq_true', decide_eq_false_iff_not, rIxH, rIxTH, rCat, tSl, tPart, tNoPart, tBM, rAppend, L2.start, tFor_eq, tLc_eq, iList, iTup, iRng1, iRng2, iEnum, iZip, cx_K, cx_prog, cx_w, cx_nK, forall_const, tYes, wipe, List.foldl_cons, List.foldl_nil, and_assoc, List.map_cons, List.map_nil, List.length_cons, List.length_nil, List.replicate, List.append_nil, List.cons_append, List.nil_append,
  List.getElem?_cons_zero, List.getElem?_cons_succ, List.set_cons_zero, List.set_cons_succ, Nat.zero_add, Nat.add_zero, Nat.reduceAdd, Nat.reduceSub, Option.some.injEq, V.int.injEq, V.bl.injEq, V.ref.injEq, V.str.injEq,
  List.cons.injEq, and_true, true_and, exists_eq_left, exists_eq_left', exists_eq_right, exists_const, exists_eq, exists_and_left, exists_and_right, upd_same, upd_upd, atI_0, atI_1, atI_2, atI_3, ixN_4_0, ixN_4_1, ixN_4_2, ixN_4_3, some_lst, some_tup, decide_eq_true_eq, reduceCtorEq,
  V.int.injEq, Bool.true_eq_false, Bool.false_eq_true, if_true, if_false, ite_true, ite_false, eq_self, not_true_eq_false, not_false_eq_true, decide_true, decide_false, Bool.not_true, Bool.not_false, false_and, and_false, exists_false, hm11, pm11, List.length_map]
      rw [len11]
      simp only [decide_true]
      exact q H11 ((((s1.trans s2).trans s29).trans s10).trans s11)
    refine ite2 (fun z => ?_) (fun _ => tail H8 (Same.refl H8))
    · refine ⟨(by obtain ⟨_, e, _⟩ := rows8; exact ⟨_, .inl (.inl e)⟩), fun D9 hD9 => ?_⟩
      refine Lc.rowsFlat (fun _ => V.bl true) rows8 hD9 (by rw [List.length_map]; omega) (fun _ => rfl) (fun x qx H10 Qk hx s10 hq qk => ?_) fun H10 s10 hr10 => ?_
      · walk_at "rd"
        refine rise_word_use (th_tup (s10 _ _ a8) (by omega)) hb (by omega) fun p11 H11 s11 h11 => ?_
        refine ⟨p11, qx, rise w, x, rfl, h11, s11 _ _ hq, fun k hk => ?_⟩
        have : k = true := by
          rw [hk]
          obtain ⟨y, hy, rfl⟩ := List.mem_map.mp hx
          obtain ⟨j, hj, rfl⟩ := mem_puts.mp ((memP y).mp hy)
          obtain ⟨b, i, _, _, e⟩ := rise_ins c w j (fun e => by rw [e] at z; simp at z) hj
          rw [e]; exact ins_sub b i (rise w)
        rw [this]
        exact qk H11 s11
      · refine ⟨D9, List.replicate ks.length true, rfl, .inl (.inl ?_), true, ?_, ?_⟩
        · rw [hr10]
          congr 2
          refine List.ext_getElem (by simp) fun i h1 h2 => by simp
        · congr 1
          exact List.all_eq_true.mpr fun x hx => (List.mem_replicate.mp hx).2
        · rw [if_neg (by decide)]
          exact tail H10 s10
end Mine

namespace Mine
open PySem PySem.Spec PyProof.Rows L2
local macro_rules | `(tactic| walk_at "rd") => `(tactic| try simp only [tMk1, iEnumA, iSeq, tPar3, tSeq, tAsg, tCB, tCons, tNil, tVar, tOp, tUn, rI, rI0, rU, gName, gNil, gCons, gSub, rSetL, tC, tRet, tRetN, tNext, tIfS, tTest, tB, tAnd, tOr, tNot, tAndV, tOrV, tNotV, tIf,
  tDrop, tCall, tCallS, tPar, tAug, ipI, tBreak, tCont, tTup, tLst, rEq_int, rNe_int, rEq_bl, rNe_bl, rEq_str, rNe_str, HO.lst.injEq, HO.tup.injEq, Bool.not_eq_true', decide_eq_false_iff_not, rIxH, rIxTH, rCat, tSl, tPart, tNoPart, tBM, rAppend, L2.start, tFor_eq, tLc_eq, iList, iTup, iRng1, iRng2, iEnum, iZip, cx_K, cx_prog, cx_w, cx_nK, forall_const, tYes, wipe, List.foldl_cons, List.foldl_nil, and_assoc, List.map_cons, List.map_nil, List.length_cons, List.length_nil, List.replicate, List.append_nil, List.cons_append, List.nil_append,
  List.getElem?_cons_zero, List.getElem?_cons_succ, List.set_cons_zero, List.set_cons_succ, Nat.zero_add, Nat.add_zero, Nat.reduceAdd, Nat.reduceSub, Option.some.injEq, V.int.injEq, V.bl.injEq, V.ref.injEq, V.str.injEq,
  List.cons.injEq, and_true, true_and, exists_eq_left, exists_eq_left', exists_eq_right, exists_const, exists_eq, exists_and_left, exists_and_right, upd_same, upd_upd, atI_0, atI_1, atI_2, atI_3, ixN_4_0, ixN_4_1, ixN_4_2, ixN_4_3, some_lst, some_tup, decide_eq_true_eq, reduceCtorEq,
  V.int.injEq, Bool.true_eq_false, Bool.false_eq_true, if_true, if_false, ite_true, ite_false, eq_self, not_true_eq_false, not_false_eq_true, decide_true, decide_false, Bool.not_true, Bool.not_false, false_and, and_false, exists_false])
local macro_rules | `(tactic| walk_at "mono") => `(tactic| repeat (first | with_reducible exact mon_var _ | with_reducible exact mon_c _ | with_reducible exact mon_rI _ _ | with_reducible exact mon_rI0 _ | with_reducible exact mon_rEq | with_reducible exact mon_rNe | with_reducible refine mon_test ?_ | with_reducible refine mon_op ?_ ?_ ?_ | with_reducible refine mon_and ?_ ?_ | with_reducible refine mon_or ?_ ?_ | with_reducible exact mon_rU _ | with_reducible refine mon_un ?_ ?_))
local macro_rules | `(tactic| walk_at "sd") => `(tactic| first | assumption | omega | (unfold CMul; omega) | (unfold CDiv; omega) | rfl | decide)
local macro_rules | `(tactic| walk_at "go") => `(tactic| repeat (refine And.intro (by first | assumption | omega | exact tyL (by assumption) | (unfold CMul; omega) | (unfold CDiv; omega) | rfl | decide) ?_))
-- needs: law_take, law_hand, law_word, law_runny, law_rises_told, law_lost_below, law_put_unlike
def i_turn (h : Addr) (a : Addr) (_i : Nat) (σ : L2.St) (H' : Hp) : Prop := ∃ v2 v3 v4 v5 v6 : Option V, σ = [some (.ref a), some (.ref h), v2, v3, v4, v5, v6] ∧ HandAt H' h
def i_letter (h : Addr) (H : Hp) (σ0 : L2.St) (_i : Nat) (σ : L2.St) (H' : Hp) : Prop := ∃ v6 : Option V, σ = σ0 ++ [v6] ∧ Same H H'
def sp_law (K : PySem.W.Frag) : Sp := fun vs H Q _ => ∃ (a : Addr) (ns : List Int), vs = [.ref a] ∧ SqL K H a (ns.map V.int) ∧ ns.length ≤ 63 ∧ ∀ H', Q (.bl true) H'
theorem ok_law {P : Program} {w : World} {K : PySem.W.Frag} {mg : Str → Option Value} {base : Heap} (T : Txt K mg) : ∃ fd, FnOk P w K mg base CX0 8 (He.ga K "law") fd P_law (sp_law K) ∧ D_law K (He.ga K "law") fd := by
  obtain ⟨fd, F⟩ := T.F_law
  obtain ⟨fd_law_hand, G_law_hand, D_law_hand⟩ := ok_law_hand (P := P) (w := w) (base := base) T
  have k_law_hand := D_law_hand.kp
  have b_law_hand := bd_law_hand D_law_hand
  obtain ⟨fd_law_take, G_law_take, D_law_take⟩ := ok_law_take (P := P) (w := w) (base := base) T
  have k_law_take := D_law_take.kp
  have b_law_take := bd_law_take D_law_take
  obtain ⟨fd_law_runny, G_law_runny, D_law_runny⟩ := ok_law_runny (P := P) (w := w) (base := base) T
  have k_law_runny := D_law_runny.kp
  have b_law_runny := bd_law_runny D_law_runny
  obtain ⟨fd_law_rises_told, G_law_rises_told, D_law_rises_told⟩ := ok_law_rises_told (P := P) (w := w) (base := base) T
  have k_law_rises_told := D_law_rises_told.kp
  have b_law_rises_told := bd_law_rises_told D_law_rises_told
  obtain ⟨fd_law_lost_below, G_law_lost_below, D_law_lost_below⟩ := ok_law_lost_below (P := P) (w := w) (base := base) T
  have k_law_lost_below := D_law_lost_below.kp
  have b_law_lost_below := bd_law_lost_below D_law_lost_below
  obtain ⟨fd_law_put_unlike, G_law_put_unlike, D_law_put_unlike⟩ := ok_law_put_unlike (P := P) (w := w) (base := base) T
  have k_law_put_unlike := D_law_put_unlike.kp
  have b_law_put_unlike := bd_law_put_unlike D_law_put_unlike
  refine ⟨fd, F.ok sc_law (fun vs H Q E h => ?_) (fun cdv A outer s H vs Q E hr h => ?_), F⟩
  · obtain ⟨a, ns, rfl, _⟩ := h
    rfl
  ·
    obtain ⟨a, ns, rfl, hS, hl, q⟩ := h
    refine ⟨_, PSs.nox (pss_cons (ps_set (i := 1) sc_law.nd rfl (by first | exact Or.inl rfl | exact Or.inr rfl) (pe_call G_law_hand (hr.mono (by decide)) rfl T.g__law_hand k_law_hand b_law_hand .nil pass0 (pa_cons (pv 0) pa_nil)))
    (pss_cons (ps_for PassesOwn.never rfl (pi_range1 (by rfl) T.z_range (pa_cons pe_int pa_nil)) (pg_name (i := 2) sc_law.nd rfl (by first | exact Or.inl rfl | exact Or.inr rfl))
    (pss_cons (ps_set (i := 3) sc_law.nd rfl (by first | exact Or.inl rfl | exact Or.inr rfl) (pe_op op_add pe_int (pe_call G_law_take (hr.mono (by decide)) rfl T.g__law_take k_law_take b_law_take .nil pass0 (pa_cons (pv 1) (pa_cons pe_int pa_nil)))))
    (pss_cons (ps_set (i := 4) sc_law.nd rfl (by first | exact Or.inl rfl | exact Or.inr rfl) (pe_call G_law_take (hr.mono (by decide)) rfl T.g__law_take k_law_take b_law_take .nil pass0 (pa_cons (pv 1) (pa_cons pe_int pa_nil))))
    (pss_cons (ps_if (PW.pt (pw_and (pt_cmpR op_eq (pv 2) pe_int (nomark _)) (pw_and1 (pt_cmpR op_eq (pe_call G_law_take (hr.mono (by decide)) rfl T.g__law_take k_law_take b_law_take .nil pass0 (pa_cons (pv 1) (pa_cons pe_int pa_nil))) pe_int (nomark _)))))
    (pss_one (ps_set (i := 4) sc_law.nd rfl (by first | exact Or.inl rfl | exact Or.inr rfl) (pe_call G_law_take (hr.mono (by decide)) rfl T.g__law_take k_law_take b_law_take .nil pass0 (pa_cons (pv 1) (pa_cons pe_int pa_nil)))))
    pss_nil)
    (pss_cons (ps_set (i := 5) sc_law.nd rfl (by first | exact Or.inl rfl | exact Or.inr rfl) (pe_call G_law_runny (hr.mono (by decide)) rfl T.g__law_runny k_law_runny b_law_runny .nil pass0 (pa_cons (pv 1) (pa_cons (pv 3) (pa_cons (pv 4) pa_nil)))))
    (pss_cons (ps_if (PW.pt (pw_or (pt_not (pt_val (pe_call G_law_rises_told (hr.mono (by decide)) rfl T.g__law_rises_told k_law_rises_told b_law_rises_told .nil pass0 (pa_cons (pv 5) pa_nil)))) (pw_or (pt_not (pt_val (pe_call G_law_lost_below (hr.mono (by decide)) rfl T.g__law_lost_below k_law_lost_below b_law_lost_below .nil pass0 (pa_cons (pv 5) pa_nil)))) (pw_or1 (pt_not (pt_val (pe_call G_law_rises_told (hr.mono (by decide)) rfl T.g__law_rises_told k_law_rises_told b_law_rises_told .nil pass0 (pa_cons (pv 5) pa_nil))))))))
    (pss_one (ps_ret pe_bl))
    pss_nil)
    (pss_one (ps_for PassesOwn.never rfl (pi_range1 (by rfl) T.z_range (pa_cons pe_int pa_nil)) (pg_name (i := 6) sc_law.nd rfl (by first | exact Or.inl rfl | exact Or.inr rfl))
    (pss_one (ps_if (pt_not (pt_val (pe_call G_law_put_unlike (hr.mono (by decide)) rfl T.g__law_put_unlike k_law_put_unlike b_law_put_unlike .nil pass0 (pa_cons (pv 5) (pa_cons (pv 6) pa_nil)))))
    (pss_one (ps_ret pe_bl))
    pss_nil))))))))))
    (pss_one (ps_ret pe_bl)))), ?_⟩
    walk_at "rd"
    refine ⟨a, ns, rfl, hS, hl, fun H1 h s1 hn1 hH1 => ?_⟩
    walk_at "rd"
    refine ⟨by decide, by decide, ?_⟩
    refine Loop.by (walk_range (n := Int.toNat 3)) (i_turn h a) ⟨none, none, none, none, none, rfl, hH1⟩ (fun _ _ _ _ _ => trivial) ?_ ?_
    · rintro i x σ H2 H3 hi ⟨v2, v3, v4, v5, v6, rfl, hH2⟩ ⟨rfl, rfl⟩
      walk_at "rd"
      refine take_use hH2 (by decide) (by decide) fun r H4 hr a4 => ?_
      walk_at "rd"
      refine take_use a4.hand (by decide) (by decide) fun n H5 hn a5 => ?_
      walk_at "rd"
      have tail : ∀ (n : Nat) (H6 : Hp), n ≤ 60 → HandAt H6 h → sp_law_word [V.ref h, V.int (2 + (r : Int)), V.int n] H6 (fun x_1 H1 => sp_law_rises_told [x_1] H1 (fun x_2 H1 => ∃ c, x_2 = V.bl c ∧ if c = false then Q (V.bl false) H1 else
          sp_law_lost_below [x_1] H1 (fun x_3 H1 => ∃ c, x_3 = V.bl c ∧ if c = false then Q (V.bl false) H1 else sp_law_rises_told [x_1] H1 (fun x_4 H1 => ∃ c, x_4 = V.bl c ∧ if c = false then Q (V.bl false) H1 else
          -2 ^ 62 ≤ (4 : Int) ∧ (4 : Int) < 2 ^ 62 ∧ Loop (Itr 0 (Int.toNat 4)) (gName 6) (tIfS (tNot (tB (tCall sp_law_put_unlike [] E0 (tCons (tVar 5) (tCons (tVar 6) tNil))))) (tRet (tC (V.bl false))) tNext)
            { nx := i_turn h a (i + 1), rt := Q, bk := tRet (tC (V.bl true)) { nx := fun x H' => Q V.non H', rt := Q }, ct := i_turn h a (i + 1) } [some (V.ref a), some (V.ref h), some (V.int (0 + (i : Int))), some (V.int (2 + (r : Int))), some (V.int n), some x_1, v6] H1) E0) E0) E0) E0 := by
        intro n H6 hn6 hH6
        refine ⟨h, 2 + (r : Int), n, rfl, hH6, by omega, by omega, by omega, fun p u H7 hb hlu a7 hp ne => ?_⟩
        have b4 : TS.Bd 4 u := fun z hz => by have := hb z hz; omega
        refine ⟨p, u, rfl, hp, b4, by omega, fun H8 s8 => ⟨true, rfl, ?_⟩⟩
        rw [if_neg (by decide)]
        refine ⟨p, u, rfl, s8 _ _ hp, b4, by omega, fun H9 s9 => ⟨true, rfl, ?_⟩⟩
        rw [if_neg (by decide)]
        refine ⟨p, u, rfl, s9 _ _ (s8 _ _ hp), b4, by omega, fun H10 s10 => ⟨true, rfl, ?_⟩⟩
        rw [if_neg (by decide)]
        refine ⟨by decide, by decide, ?_⟩
        have s7 := (s8.trans s9).trans s10
        have hp10 := s7 _ _ hp
        refine Loop.by (walk_range (n := Int.toNat 4)) (i_letter h H10 [some (V.ref a), some (V.ref h), some (V.int (0 + (i : Int))), some (V.int (2 + (r : Int))), some (V.int n), some (V.ref p)]) ⟨v6, rfl, Same.refl _⟩ (fun _ _ _ _ _ => trivial) ?_ ?_
        · rintro j x σ H11 H12 hj ⟨v6', rfl, sm⟩ ⟨rfl, rfl⟩
          have hj4 : j < 4 := hj
          walk_at "rd"
          refine ⟨p, u, 0 + (j : Int), rfl, sm _ _ hp10, b4, by omega, by omega, fun H13 s13 => ⟨true, rfl, ?_⟩⟩
          rw [if_neg (by decide)]
          exact ⟨_, rfl, sm.trans s13⟩
        · rintro σ H11 ⟨v6', rfl, sm⟩
          exact ⟨_, _, _, _, _, rfl, a7.hand.same (s7.trans sm)⟩
      refine ite2 (fun _ => ?_) (fun _ => tail n H5 (by omega) a5.hand)
      refine take_use a5.hand (by decide) (by decide) fun r6 H6 hr6 a6 => ?_
      rw [rEq_int]
      refine ⟨_, rfl, ite2 (fun _ => ?_) (fun _ => tail n H6 (by omega) a6.hand)⟩
      exact take_use a6.hand (by decide) (by decide) fun n7 H7 hn7 a7 => tail n7 H7 (by omega) a7.hand
    · rintro σ H2 ⟨v2, v3, v4, v5, v6, rfl, hH2⟩
      walk_at "rd"
      exact q H2
end Mine

namespace Mine
open PySem PySem.Spec PyProof.Rows L2
def q_BadWord___init : He.DefD := ⟨("BadWord", some "__init__"), "__init__", "BadWord.__init__", defArgs s_BadWord___init, defBody s_BadWord___init, defScope s_BadWord___init, [], []⟩
def q_is_whole : He.DefD := ⟨("is_whole", none), "is_whole", "is_whole", defArgs s_is_whole, defBody s_is_whole, defScope s_is_whole, [.non, .non], []⟩
def q_check_word : He.DefD := ⟨("check_word", none), "check_word", "check_word", defArgs s_check_word, defBody s_check_word, defScope s_check_word, [.int (24)], []⟩
def q_rises_of : He.DefD := ⟨("rises_of", none), "rises_of", "rises_of", defArgs s_rises_of, defBody s_rises_of, defScope s_rises_of, [], []⟩
def q_rise_word : He.DefD := ⟨("rise_word", none), "rise_word", "rise_word", defArgs s_rise_word, defBody s_rise_word, defScope s_rise_word, [], []⟩
def q_rise_sum : He.DefD := ⟨("rise_sum", none), "rise_sum", "rise_sum", defArgs s_rise_sum, defBody s_rise_sum, defScope s_rise_sum, [], []⟩
def q_law_hand : He.DefD := ⟨("_law_hand", none), "_law_hand", "_law_hand", defArgs s_law_hand, defBody s_law_hand, defScope s_law_hand, [], []⟩
def q_law_mixed : He.DefD := ⟨("_law_mixed", none), "_law_mixed", "_law_mixed", defArgs s_law_mixed, defBody s_law_mixed, defScope s_law_mixed, [], []⟩
def q_law_take : He.DefD := ⟨("_law_take", none), "_law_take", "_law_take", defArgs s_law_take, defBody s_law_take, defScope s_law_take, [], []⟩
def q_law_whole : He.DefD := ⟨("_law_whole", none), "_law_whole", "_law_whole", defArgs s_law_whole, defBody s_law_whole, defScope s_law_whole, [], []⟩
def q_law_word : He.DefD := ⟨("_law_word", none), "_law_word", "_law_word", defArgs s_law_word, defBody s_law_word, defScope s_law_word, [], []⟩
def q_law_runny : He.DefD := ⟨("_law_runny", none), "_law_runny", "_law_runny", defArgs s_law_runny, defBody s_law_runny, defScope s_law_runny, [], []⟩
def q_law_is_below : He.DefD := ⟨("_law_is_below", none), "_law_is_below", "_law_is_below", defArgs s_law_is_below, defBody s_law_is_below, defScope s_law_is_below, [], []⟩
def q_law_less_one : He.DefD := ⟨("_law_less_one", none), "_law_less_one", "_law_less_one", defArgs s_law_less_one, defBody s_law_less_one, defScope s_law_less_one, [], []⟩
def q_law_rises : He.DefD := ⟨("_law_rises", none), "_law_rises", "_law_rises", defArgs s_law_rises, defBody s_law_rises, defScope s_law_rises, [], []⟩
def q_law_rise_word : He.DefD := ⟨("_law_rise_word", none), "_law_rise_word", "_law_rise_word", defArgs s_law_rise_word, defBody s_law_rise_word, defScope s_law_rise_word, [], []⟩
def q_law_is_word : He.DefD := ⟨("_law_is_word", none), "_law_is_word", "_law_is_word", defArgs s_law_is_word, defBody s_law_is_word, defScope s_law_is_word, [], []⟩
def q_law_rises_told : He.DefD := ⟨("_law_rises_told", none), "_law_rises_told", "_law_rises_told", defArgs s_law_rises_told, defBody s_law_rises_told, defScope s_law_rises_told, [], []⟩
def q_law_lost_below : He.DefD := ⟨("_law_lost_below", none), "_law_lost_below", "_law_lost_below", defArgs s_law_lost_below, defBody s_law_lost_below, defScope s_law_lost_below, [], []⟩
def q_law_put_unlike : He.DefD := ⟨("_law_put_unlike", none), "_law_put_unlike", "_law_put_unlike", defArgs s_law_put_unlike, defBody s_law_put_unlike, defScope s_law_put_unlike, [], []⟩
def q_law : He.DefD := ⟨("law", none), "law", "law", defArgs s_law, defBody s_law, defScope s_law, [], []⟩
def fn : List He.DefD := [q_BadWord___init, q_is_whole, q_check_word, q_rises_of, q_rise_word, q_rise_sum, q_law_hand, q_law_mixed, q_law_take, q_law_whole, q_law_word, q_law_runny, q_law_is_below, q_law_less_one, q_law_rises, q_law_rise_word, q_law_is_word, q_law_rises_told, q_law_lost_below, q_law_put_unlike, q_law]
def fa : List He.Fa := [.free "isinstance", .free "bool", .free "int", .free "len", .free "list", .free "tuple", .glo "BadWord", .free "enumerate", .glo "is_whole", .glo "check_word", .int "MOST_HERE" 61, .free "range", .free "sum", .glo "rises_of", .free "abs", .glo "_law_mixed", .glo "_law_take", .glo "_law_word", .free "sorted", .free "set", .free "all", .glo "_law_whole", .glo "rise_sum", .glo "rise_word", .glo "_law_is_word", .glo "_law_rise_word", .glo "_law_rises", .glo "_law_less_one", .glo "_law_rises_told", .glo "_law_is_below", .glo "_law_hand", .glo "_law_runny", .glo "_law_lost_below", .glo "_law_put_unlike", .glo "law"]
def ex (K : PySem.W.Frag) : Bool := (fexB K "BadWord" && (He.eqO (PySem.W.findIn K (.ref (He.ga K "BadWord")) "index") (some none) && true))
theorem txt_of {K : PySem.W.Frag} {h : Heap} {mg : Str → Option Value} (X : K.In h) (G : h.Ns mainGlobals mg) (c : He.SaysD fa fn K) (E : ex K = true) : Txt K mg := by
  obtain ⟨E0, E⟩ := He.ba E
  obtain ⟨E1, E⟩ := He.ba E
  exact {
    x_BadWord := fexB_ok E0,
    n_BadWord_is_index := He.eqO_ok E1,
    z_isinstance := He.free_ok X G (c.fact 0 (f := .free "isinstance") rfl),
    z_bool := He.free_ok X G (c.fact 1 (f := .free "bool") rfl),
    z_int := He.free_ok X G (c.fact 2 (f := .free "int") rfl),
    z_len := He.free_ok X G (c.fact 3 (f := .free "len") rfl),
    z_list := He.free_ok X G (c.fact 4 (f := .free "list") rfl),
    z_tuple := He.free_ok X G (c.fact 5 (f := .free "tuple") rfl),
    g_BadWord := He.glo_ok X G (c.fact 6 (f := .glo "BadWord") rfl),
    z_enumerate := He.free_ok X G (c.fact 7 (f := .free "enumerate") rfl),
    g_is_whole := He.glo_ok X G (c.fact 8 (f := .glo "is_whole") rfl),
    g_check_word := He.glo_ok X G (c.fact 9 (f := .glo "check_word") rfl),
    c_MOST_HERE := He.int_ok X G (c.fact 10 (f := .int "MOST_HERE" 61) rfl),
    z_range := He.free_ok X G (c.fact 11 (f := .free "range") rfl),
    z_sum := He.free_ok X G (c.fact 12 (f := .free "sum") rfl),
    g_rises_of := He.glo_ok X G (c.fact 13 (f := .glo "rises_of") rfl),
    z_abs := He.free_ok X G (c.fact 14 (f := .free "abs") rfl),
    g__law_mixed := He.glo_ok X G (c.fact 15 (f := .glo "_law_mixed") rfl),
    g__law_take := He.glo_ok X G (c.fact 16 (f := .glo "_law_take") rfl),
    g__law_word := He.glo_ok X G (c.fact 17 (f := .glo "_law_word") rfl),
    z_sorted := He.free_ok X G (c.fact 18 (f := .free "sorted") rfl),
    z_set := He.free_ok X G (c.fact 19 (f := .free "set") rfl),
    z_all := He.free_ok X G (c.fact 20 (f := .free "all") rfl),
    g__law_whole := He.glo_ok X G (c.fact 21 (f := .glo "_law_whole") rfl),
    g_rise_sum := He.glo_ok X G (c.fact 22 (f := .glo "rise_sum") rfl),
    g_rise_word := He.glo_ok X G (c.fact 23 (f := .glo "rise_word") rfl),
    g__law_is_word := He.glo_ok X G (c.fact 24 (f := .glo "_law_is_word") rfl),
    g__law_rise_word := He.glo_ok X G (c.fact 25 (f := .glo "_law_rise_word") rfl),
    g__law_rises := He.glo_ok X G (c.fact 26 (f := .glo "_law_rises") rfl),
    g__law_less_one := He.glo_ok X G (c.fact 27 (f := .glo "_law_less_one") rfl),
    g__law_rises_told := He.glo_ok X G (c.fact 28 (f := .glo "_law_rises_told") rfl),
    g__law_is_below := He.glo_ok X G (c.fact 29 (f := .glo "_law_is_below") rfl),
    g__law_hand := He.glo_ok X G (c.fact 30 (f := .glo "_law_hand") rfl),
    g__law_runny := He.glo_ok X G (c.fact 31 (f := .glo "_law_runny") rfl),
    g__law_lost_below := He.glo_ok X G (c.fact 32 (f := .glo "_law_lost_below") rfl),
    g__law_put_unlike := He.glo_ok X G (c.fact 33 (f := .glo "_law_put_unlike") rfl),
    F_BadWord___init := c.def_ 0 (d := q_BadWord___init) rfl,
    F_is_whole := c.def_ 1 (d := q_is_whole) rfl,
    F_check_word := c.def_ 2 (d := q_check_word) rfl,
    F_rises_of := c.def_ 3 (d := q_rises_of) rfl,
    F_rise_word := c.def_ 4 (d := q_rise_word) rfl,
    F_rise_sum := c.def_ 5 (d := q_rise_sum) rfl,
    F_law_hand := c.def_ 6 (d := q_law_hand) rfl,
    F_law_mixed := c.def_ 7 (d := q_law_mixed) rfl,
    F_law_take := c.def_ 8 (d := q_law_take) rfl,
    F_law_whole := c.def_ 9 (d := q_law_whole) rfl,
    F_law_word := c.def_ 10 (d := q_law_word) rfl,
    F_law_runny := c.def_ 11 (d := q_law_runny) rfl,
    F_law_is_below := c.def_ 12 (d := q_law_is_below) rfl,
    F_law_less_one := c.def_ 13 (d := q_law_less_one) rfl,
    F_law_rises := c.def_ 14 (d := q_law_rises) rfl,
    F_law_rise_word := c.def_ 15 (d := q_law_rise_word) rfl,
    F_law_is_word := c.def_ 16 (d := q_law_is_word) rfl,
    F_law_rises_told := c.def_ 17 (d := q_law_rises_told) rfl,
    F_law_lost_below := c.def_ 18 (d := q_law_lost_below) rfl,
    F_law_put_unlike := c.def_ 19 (d := q_law_put_unlike) rfl,
    F_law := c.def_ 20 (d := q_law) rfl }
def loose0 : List Str := ["PlaceError", "BadWord", "is_whole", "check_word", "MOST_HERE", "rises_of", "rise_word", "rise_sum", "_law_hand", "_law_mixed", "_law_take", "_law_whole", "_law_word", "_law_runny", "_law_is_below", "_law_less_one", "_law_rises", "_law_rise_word", "_law_is_word", "_law_rises_told", "_law_lost_below", "_law_put_unlike"]
def loose : List Str := loose0
abbrev R : PySem.W.OpenRow := PySem.W.OpenLaw.row PySem.Challenge.rw_lostplaces_k18_whole_rises_of_words_off
abbrev hk : PySem.W.Hook := hookM 5 fa fn ex
def ob (s : PySem.W.SharedT) : He.AlD × Bool := obsM 5 fa fn ex (HandSHeadRun.getT s)
theorem ob_eq (s : PySem.W.SharedT) : ob s = hk.obs s.abs := obsM_eq (HandSHeadRun.getT_eq s)
theorem run (w : World) : HandSHeadRun.RunEq R (PySem.W.view R.prog [26]) hk ob 20000 loose w := by
  intro os
  kernel_rfl
end Mine
open PySem PySem.W PySem.Calls PyProof.Rows
set_option maxHeartbeats 0 in
theorem PySem.Challenge.cw_lostplaces_k18_whole_rises_of_words_off_holds : PySem.Challenge.rw_lostplaces_k18_whole_rises_of_words_off.Holds := by
  w_on; o_law
  refine HandSHeadRun.head_any (r := OpenLaw.row PySem.Challenge.rw_lostplaces_k18_whole_rises_of_words_off) (q := view (OpenLaw.row PySem.Challenge.rw_lostplaces_k18_whole_rises_of_words_off).prog [26]) (H := Mine.hk) (ob := Mine.ob) (M := 20000) (loose := Mine.loose) (d := HandSHeadRun.topDef (OpenLaw.row PySem.Challenge.rw_lostplaces_k18_whole_rises_of_words_off).prog 26) (kwd := []) Mine.ob_eq
    (by kernel_rfl) (fun s => by kernel_rfl) Mine.run (by kernel_rfl) (by kernel_rfl) (by kernel_rfl) (by rfl) (by first | assumption | decide +kernel) (by decide +kernel) ⟨rfl, rfl, rfl, rfl, rfl, by decide +kernel⟩ ?hw ?hc
  case hw => w_witness2
  case hc =>
    refine L2.walk_ofE (l := PySem.Challenge.rw_lostplaces_k18_whole_rises_of_words_off) (n := 63) (k := 8) (x := "_law_script") (CX := L2.CX0) rfl (by decide) (by kernel_rfl) ⟨rfl, by decide, by decide⟩ ?F (fun _ _ _ _ z => z)
    intro w mg fa h Y G hmg0
    obtain ⟨K, KX, c, E⟩ := Y
    have hmg : mg ("law" : PySem.Str) = some (.ref fa) := by
      have e : (HandSHeadRun.topDef (OpenLaw.row PySem.Challenge.rw_lostplaces_k18_whole_rises_of_words_off).prog 26).name = ("law" : PySem.Str) := by kernel_rfl
      rw [← e]
      exact hmg0
    have T := Mine.txt_of KX G c E
    obtain ⟨fd0, F0⟩ := T.F_law
    have e : fa = He.ga K "law" := by
      have z := hmg.symm.trans (He.glo_ok KX G (c.fact 34 (f := .glo "law") rfl))
      cases z
      rfl
    subst e
    have b0 : ∀ (s : Shared) (v : Value), BindsTo s fd0 ⟨[v], []⟩ [("_law_script", v)] := fun s v => L2.FunD.bindsA (ps := ["_law_script"]) F0 (fun _ _ _ _ _ _ us hl => match us, hl with | [_], _ => rfl) s [v] rfl
    refine ⟨K, fd0, Mine.sp_law K, KX, b0, fun H a ns hl _ hS => ⟨a, ns, rfl, hS, hl, fun _ => rfl⟩, fun base _ _ => ?_⟩
    obtain ⟨fd1, G1, D1⟩ := Mine.ok_law (P := (PySem.Challenge.rw_lostplaces_k18_whole_rises_of_words_off).prog) (w := w) (base := base) T
    have ef : fd1 = fd0 := by
      obtain ⟨_, _, _, _, _, _, _, _, _, _, rfl, l1, _⟩ := D1.ex
      obtain ⟨_, _, _, _, _, _, _, _, _, _, rfl, l0, _⟩ := F0.ex
      have z := l1.symm.trans l0
      injection z with z
      injection z with z1 z2 z3
      injection z3
    exact ef ▸ G1
