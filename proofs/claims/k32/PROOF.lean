import PyProof.Rows.All
import Wide.All
import OpenK.AllK
import Wide.FinOn
import HandS.ForExc
import HandS.Comp
import HandS.Iter
import HandS.Conv
import HandS.Flow
import HandS.Walk
import HandS.TupAny
import HandS.TupSets
import HandS.SortInts
import HandS.TryMany
import HandS.IsInst
import HandS.Defaults
import HandS.Gcd
import HandS.ExcInit
import HandS.Text
import HandS.Head0
import HandS.Head1
import HandS.Head2
import HandS.Head3
import HandS.HeadEnd
import HandS.HeadHook1
import HandS.HeadHook2
import HandS.ExcField
import KE.GoesEnum
import HandS.Deep
import HandS.Strs
import HandS.Style
import HandS.ExcIs
import KE.GoesZip
import HandS.TupMul
import HandS.Zip
import HandS.CallSlots
import HandS.WordsDict
import HandS.Dict
import KE.GoesEnumKw
import HandS.Property
import HandS.HeadNt
import HandS.Small
import KE.KMathGC
import HandS.OwnEq
import HandS.SetBool
import HandS.FStr
import HandS.Star
import HandS.GenList
import HandS.SetFor
import KE.SortData
import KE.DataMinMax
import HandS.WideBits
import HandS.NoneIn
import KE.KxField
import PyProof.StrLawsIn
import KE.GoesMore
import KE.DataCmp
import PyProof.ReprRoads
import PySem.Challenge.RW_lostplaces_k32_whole_data_in_every_rest
set_option Elab.async false
set_option linter.all false
set_option maxRecDepth 100000
set_option maxHeartbeats 4000000
namespace Mine
open PySem PySem.Spec PyProof.Rows L2
/-! ### own errors -/
structure OwnExc (K : PySem.W.Frag) (C : Addr) : Prop where
  ex : PySem.W.excIn K C He.veBase "ValueError.__new__" = true
  kp : PySem.W.keepIn K (.ref C) = true
  sb : PySem.W.subIn K (.ref C) (.type "BaseException") = some true
  ty : PySem.W.typeIn K (.ref C) = some (.type "type")
theorem mk0 {X : Cx} {x : Str} {C : Addr} {p pos : Pos} (e : OwnExc X.K C) (g : X.mg x = some (.ref C)) (hg : Gl X x) (hd : (x == ("__debug__" : Str)) = false := by decide) :
    PMk X (.Call (.Name x p) [] [] pos) (fun _ H Q => Q (.ref C) none H) := by
  intro pn st sg Hh Qq J hq
  refine wpAny_Call_Name_kw (ld_glob J hg g ?_ hd)
  refine PySem.W.callWith_K0 J.kIn e.kp ?_
  have J2 := J
  obtain ⟨bm, N, nm, qn, bs, hdct, sn, sub, ab, col, dd, k0, k1, k2, k3, k5, mN, hC, hN, hni, T⟩ := exc_obj J.kIn e.ex
  obtain ⟨hp, g1, d1, tk, os⟩ := st
  exact wpAny_call_exc_subT PySem.F.excBase_ValueError T hC hN hni (fun h' a hm => mk_of J hm (raises_own e.sb e.ty) hq (J.hok.gone hm.new)) (Nat.zero_le _)
/-! ### len(set(xs)), xs whole numbers -/
def tLenD (K : PySem.W.Frag) (ta : TE) : TE := fun σ H Q => ta σ H fun x H1 => ∃ (l : Addr) (ns : List Int), x = V.ref l ∧ SqL K H1 l (ns.map V.int) ∧ ns.length ≤ 4000 ∧
  ∀ m : Nat, m = (firstMet (fun i => ns.getD i 0) ns.length).length → Q (.int m) H1
theorem firstMet_le (f : Nat → Int) : ∀ n, (firstMet f n).length ≤ n
  | 0 => Nat.le_refl _
  | n + 1 => by
    rw [firstMet_succ]
    unfold step_dedup
    have := firstMet_le f n
    split
    · omega
    · rw [List.length_append]; show _ + 1 ≤ _; omega
theorem pe_lenSetD {X : Cx} {a : Expr} {ta : TE} {p p2 q pos : Pos} (hc : X.calm = true) (hg : Gl X "len") (hm : X.mg "len" = none) (hg2 : Gl X "set") (hm2 : X.mg "set" = none) (ha : PE X a ta)
    (na : starEach [a] X.env = (false, eval a X.env) :: starEach [] X.env := by rfl) : PE X (.Call (.Name "len" p) [.Call (.Name "set" p2) [a] [] q] [] pos) (tLenD X.K ta) := by
  refine ⟨fun pn st sg Hh Qq J hq => ?_⟩
  refine Call_ (ld_blt J hg hm PySem.boot_len ?_)
  refine callWith_builtin1 (args_cons ?_ rfl) rfl rfl
  refine Call_ (ld_blt J hg2 hm2 PyProof.Rows.boot_set ?_)
  refine callWith_type1 (args_cons (thn (ha.run pn st sg Hh _ J hq) fun v s1 ⟨x, H1, J1, r1, q1⟩ => args_nil ?_) na) na rfl
  obtain ⟨l, ns, rfl, hs, hl, q1⟩ := q1
  cases r1
  obtain ⟨its, rv, pl, hz⟩ := J1.list hs
  have e1 : its.toArray.size = ns.length := by rw [List.size_toArray, ← rv.length, List.length_map]
  refine call_set_list (J1.ok.hd hc) pl.isList (ns := ns) (by simpa using rv.ints) (by rw [e1]; unfold scanBound; omega) fun h' tk hS hk => ?_
  rw [e1] at hS
  refine args_nil ?_
  obtain ⟨o, es, ep, t, ho, hex, hd, _, _, _, hf, hn⟩ := hS
  have le := firstMet_le (fun i => ns.getD i 0) ns.length
  have J2 : Inv X pn sg H1 { s1 with heap := h', toks := tk } := J1.kept fun b o e => hk b o (Heap.lt_size e) e
  exact call_len_set ho hex hd hf (by rw [hn]; omega) ⟨.int _, H1, J2.tok _, ⟨_, by rw [hn]⟩, q1 _ rfl⟩
/-! ### rules in a form that simp can read -/
section
variable {X : Cx}
theorem OpR.weak {f : Value → Value → Sem Value} {r r' : R2} (h : OpR X f r) (m : ∀ x y H Q, r' x y H Q → r x y H Q) : OpR X f r' :=
  fun pn st sg Hh x y u v Qq J rx ry hq => h pn st sg Hh x y u v Qq J rx ry (m _ _ _ _ hq)
theorem IxR.weak {r r' : R2} (h : IxR X r) (m : ∀ x y H Q, r' x y H Q → r x y H Q) : IxR X r' :=
  fun e1 e2 pn st sg Hh x y u v Qq J rx ry hq => h e1 e2 pn st sg Hh x y u v Qq J rx ry (m _ _ _ _ hq)
theorem CallR.weak {f : Value} {r r' : List V → Hp → VK → Prop} (h : CallR X f r) (m : ∀ xs H Q, r' xs H Q → r xs H Q) : CallR X f r' :=
  fun pn st sg Hh xs us Qq J rx hq => h pn st sg Hh xs us Qq J rx (m _ _ _ hq)
theorem call_intI : CallR X (.type "int") (fun xs H Q => ∃ i, xs = [.int i] ∧ Q (.int i) H) := CallR.weak call_int1 fun _ _ _ => .inl
def rIxH : R2 := fun x y H Q => ∃ p i xs v, x = .ref p ∧ y = .int i ∧ H p = some (.lst xs) ∧ atI xs i = some v ∧ Q v H
theorem ix_H : IxR X rIxH := IxR.weak ix_list fun _ _ _ _ ⟨p, i, xs, z, e1, e2, e3, e4, q⟩ => ⟨p, xs, i, z, e1, e2, .inl (.inl e3), e4, q⟩
def rIxTH : R2 := fun x y H Q => ∃ p i xs v, x = .ref p ∧ y = .int i ∧ H p = some (.tup xs) ∧ atI xs i = some v ∧ Q v H
theorem call_lenL : CallR X (.builtin "len") (fun xs H Q => ∃ p ys, xs = [.ref p] ∧ H p = some (.lst ys) ∧ Q (.int ys.length) H) :=
  CallR.weak call_len_seq fun _ _ _ ⟨p, ys, e1, e2, q⟩ => ⟨p, ys, e1, .inl (.inl (.inl e2)), q⟩
end
theorem tyL {K : PySem.W.Frag} {H : Hp} {p : Addr} {xs : List V} (h : H p = some (.lst xs)) : tyV K "list" (.ref p) H := .inl ⟨rfl, xs, .inl (.inl h)⟩
/-! ### isinstance -/
/-- what the layer can tell the kind of -/
def Kd (K : PySem.W.Frag) (H : Hp) : V → Prop
  | .non => True
  | .bl _ => True
  | .int _ => True
  | .str _ => True
  | .ref a => (∃ xs, SqL K H a xs) ∨ ∃ xs, SqT K H a xs
  | _ => False
def isIntV : V → Bool
  | .int _ => true
  | .bl _ => true
  | _ => false
def isBlV : V → Bool
  | .bl _ => true
  | _ => false
def isStrV : V → Bool
  | .str _ => true
  | _ => false
theorem tyx_L {K : PySem.W.Frag} {H : Hp} {a : Addr} {xs : List V} (h : SqL K H a xs) : TyX K H (.ref a) (.type "list") := by
  rcases h with (h | ⟨o, h⟩) | ⟨o, its, n, h, c, _⟩
  · exact .base (.lst h)
  · exact .base (.frz h)
  · exact .kList h c
theorem tyx_T {K : PySem.W.Frag} {H : Hp} {a : Addr} {xs : List V} (h : SqT K H a xs) : TyX K H (.ref a) (.type "tuple") := by
  rcases h with (h | ⟨o, h⟩) | ⟨o, its, n, h, c, _⟩
  · exact .base (.tup h)
  · exact .fTuple h
  · exact .kTuple h c
theorem kb_NoneType_int : kitB "NoneType" "int" = some false := by decide +kernel
theorem kb_NoneType_bool : kitB "NoneType" "bool" = some false := by decide +kernel
theorem kb_NoneType_str : kitB "NoneType" "str" = some false := by decide +kernel
theorem kb_bool_int : kitB "bool" "int" = some true := by decide +kernel
theorem kb_bool_bool : kitB "bool" "bool" = some true := by decide +kernel
theorem kb_bool_str : kitB "bool" "str" = some false := by decide +kernel
theorem kb_int_int : kitB "int" "int" = some true := by decide +kernel
theorem kb_int_bool : kitB "int" "bool" = some false := by decide +kernel
theorem kb_int_str : kitB "int" "str" = some false := by decide +kernel
theorem kb_str_int : kitB "str" "int" = some false := by decide +kernel
theorem kb_str_bool : kitB "str" "bool" = some false := by decide +kernel
theorem kb_str_str : kitB "str" "str" = some true := by decide +kernel
theorem kb_list_int : kitB "list" "int" = some false := by decide +kernel
theorem kb_list_bool : kitB "list" "bool" = some false := by decide +kernel
theorem kb_list_str : kitB "list" "str" = some false := by decide +kernel
theorem kb_tuple_int : kitB "tuple" "int" = some false := by decide +kernel
theorem kb_tuple_bool : kitB "tuple" "bool" = some false := by decide +kernel
theorem kb_tuple_str : kitB "tuple" "str" = some false := by decide +kernel
theorem Kd.ty {K : PySem.W.Frag} {H : Hp} {x : V} (h : Kd K H x) : ∃ t : String, TyX K H x (.type t) ∧ kitB t "int" = some (isIntV x) ∧ kitB t "bool" = some (isBlV x) ∧ kitB t "str" = some (isStrV x) := by
  cases x with
  | non => exact ⟨_, .base .non, kb_NoneType_int, kb_NoneType_bool, kb_NoneType_str⟩
  | bl b => exact ⟨_, .base (.bl b), kb_bool_int, kb_bool_bool, kb_bool_str⟩
  | int i => exact ⟨_, .base (.int i), kb_int_int, kb_int_bool, kb_int_str⟩
  | str z => exact ⟨_, .base (.str z), kb_str_int, kb_str_bool, kb_str_str⟩
  | ref a =>
    rcases h with ⟨xs, h⟩ | ⟨xs, h⟩
    · exact ⟨_, tyx_L h, kb_list_int, kb_list_bool, kb_list_str⟩
    · exact ⟨_, tyx_T h, kb_tuple_int, kb_tuple_bool, kb_tuple_str⟩
  | byt b => cases h
  | flt b => cases h
  | ty n => cases h
section
variable {X : Cx}
end
/-! ### loops -/
def Loop (J : It) (g : TG) (tb : TS) (D : Ends) (σ : L2.St) (H1 : Hp) : Prop := ∃ W : Nat → Nat → L2.St → Hp → Prop, (∃ m, W 0 m σ H1) ∧ ∀ i m σ H, W i m σ H →
  (J.stop i H ∧ D.nx σ H) ∨ (J.go i H ∧ ∃ N : L2.St → Hp → Prop, (∀ s' H', N s' H' → ∃ m', m' < m ∧ W (i + 1) m' s' H') ∧ ∀ x H', J.yld i H x H' → g x σ H' fun σ2 H2 => tb { D with nx := N, ct := N, bk := D.nx } σ2 H2)
theorem tFor_eq (wi : TI) (g : TG) (tb : TS) (D : Ends) (σ : L2.St) (H : Hp) : tFor wi g tb D σ H = wi σ H (fun J H1 => Loop J g tb D σ H1) := rfl
def Lc (J : It) (g : TG) (tt : TT) (te : TE) (vs : List Nat) (D : Addr) (σ : L2.St) (H1 : Hp) (Q : VK) : Prop := ∃ W : Nat → Nat → Hp → Prop, (∃ m, W 0 m (upd H1 D (.lst []))) ∧ ∀ i m H, W i m H →
  (J.stop i H ∧ Q (.ref D) H) ∨ (J.go i H ∧ ∃ Nx : Hp → Prop, (∀ H', Nx H' → ∃ m', m' < m ∧ W (i + 1) m' H') ∧ ∀ x H', J.yld i H x H' → g x (wipe σ vs) H' fun s2 H2 => wipe s2 vs = wipe σ vs ∧ tt s2 H2 fun b H3 =>
    if b = true then te s2 H3 fun y H4 => ∃ acc, H4 D = some (.lst acc) ∧ acc.length < sizeLine ∧ Nx (upd H4 D (.lst (acc ++ [y]))) else Nx H3)
theorem tLc_eq (wi : TI) (g : TG) (tt : TT) (te : TE) (vs : List Nat) (σ : L2.St) (H : Hp) (Q : VK) : tLc wi g tt te vs σ H Q = wi σ H (fun J H1 => ∀ D, H1 D = none → Lc J g tt te vs D σ H1 Q) := rfl
section
variable {J : It} {n : Nat} {G : Hp → Prop} {Y : Nat → Hp → V → Hp → Prop}
theorem Loop.by (w : Walk J n G Y) {g : TG} {tb : TS} {D : Ends} {σ : L2.St} {H : Hp} (Pv : Nat → L2.St → Hp → Prop) (h0 : Pv 0 σ H) (hG : ∀ i σ H, i ≤ n → Pv i σ H → G H)
    (hs : ∀ i x σ H H', i < n → Pv i σ H → Y i H x H' → g x σ H' fun s2 H2 => tb { D with nx := Pv (i + 1), ct := Pv (i + 1), bk := D.nx } s2 H2) (hd : ∀ σ H, Pv n σ H → D.nx σ H) : Loop J g tb D σ H := for_it w Pv h0 hG hs hd
theorem Lc.by (w : Walk J n G Y) {g : TG} {tt : TT} {te : TE} {vs : List Nat} {σ : L2.St} {H1 : Hp} {D : Addr} {Q : VK} (Pv : Nat → Hp → Prop) (h0 : Pv 0 (upd H1 D (.lst []))) (hG : ∀ i H, i ≤ n → Pv i H → G H)
    (hs : ∀ i x H H', i < n → Pv i H → Y i H x H' → g x (wipe σ vs) H' fun s2 H2 => wipe s2 vs = wipe σ vs ∧ tt s2 H2 fun b H3 =>
      if b = true then te s2 H3 fun y H4 => ∃ acc, H4 D = some (.lst acc) ∧ acc.length < sizeLine ∧ Pv (i + 1) (upd H4 D (.lst (acc ++ [y]))) else Pv (i + 1) H3) (hd : ∀ H, Pv n H → Q (.ref D) H) : Lc J g tt te vs D σ H1 Q := lc_it w Pv h0 hG hs hd
end
/-! ### while; what only grows with what is wanted -/
def Mon (t : TE) : Prop := ∀ σ H (Q Q' : VK), (∀ v H', Q v H' → Q' v H') → t σ H Q → t σ H Q'
def MonT (t : TT) : Prop := ∀ σ H (Q Q' : Bool → Hp → Prop), (∀ v H', Q v H' → Q' v H') → t σ H Q → t σ H Q'
def MonR (r : R2) : Prop := ∀ x y H (Q Q' : VK), (∀ v H', Q v H' → Q' v H') → r x y H Q → r x y H Q'
theorem mon_var (i : Nat) : Mon (tVar i) := fun _ _ _ _ m ⟨v, e, q⟩ => ⟨v, e, m _ _ q⟩
theorem mon_c (v : V) : Mon (tC v) := fun _ _ _ _ m q => m _ _ q
theorem mon_op {r : R2} {ta tb : TE} (mr : MonR r) (ma : Mon ta) (mb : Mon tb) : Mon (tOp r ta tb) := fun σ H _ _ m q => ma σ H _ _ (fun _ H1 q1 => mb σ H1 _ _ (fun _ _ q2 => mr _ _ _ _ _ m q2) q1) q
theorem mon_rI (C : Int → Int → Prop) (g : Int → Int → V) : MonR (rI C g) := fun _ _ _ _ _ m ⟨i, j, e1, e2, c, q⟩ => ⟨i, j, e1, e2, c, m _ _ q⟩
theorem mon_rI0 (g : Int → Int → V) : MonR (rI0 g) := fun _ _ _ _ _ m ⟨i, j, e1, e2, q⟩ => ⟨i, j, e1, e2, m _ _ q⟩
theorem mon_rEq : MonR rEq := fun _ _ _ _ _ m ⟨e, q⟩ => ⟨e, m _ _ q⟩
theorem mon_rNe : MonR rNe := fun _ _ _ _ _ m ⟨e, q⟩ => ⟨e, m _ _ q⟩
theorem mon_test {t : TE} (h : Mon t) : MonT (tTest t) := fun σ H _ _ m q => h σ H _ _ (fun _ _ ⟨k, e, q1⟩ => ⟨k, e, m _ _ q1⟩) q
theorem mon_and {t u : TT} (h : MonT t) (k : MonT u) : MonT (tAnd t u) := fun σ H Q Q' m q => h σ H _ _ (fun b H1 q1 => by
  cases b
  · exact m _ _ q1
  · exact k σ H1 _ _ m q1) q
theorem mon_or {t u : TT} (h : MonT t) (k : MonT u) : MonT (tOr t u) := fun σ H Q Q' m q => h σ H _ _ (fun b H1 q1 => by
  cases b
  · exact k σ H1 _ _ m q1
  · exact m _ _ q1) q
def Less (W : Nat → L2.St → Hp → Prop) (m : Nat) (σ : L2.St) (H : Hp) : Prop := ∃ m', m' < m ∧ W m' σ H
theorem While.by {c : TT} {tb : TS} {D : Ends} {σ : L2.St} {H : Hp} (mc : MonT c) (W : Nat → L2.St → Hp → Prop) (m0 : Nat) (h0 : W m0 σ H)
    (hs : ∀ m σ H, W m σ H → c σ H fun b H1 => if b = true then tb { D with nx := Less W m, ct := Less W m, bk := D.nx } σ H1 else D.nx σ H1) : tWhile c tb D σ H :=
  ⟨W, ⟨m0, h0⟩, fun m σ H hw => mc σ H _ _ (fun b H1 q => by
    cases b
    · exact q
    · exact ⟨Less W m, fun _ _ h => h, q⟩) (hs m σ H hw)⟩
/-! ### heaps -/
theorem same_upd {H : Hp} {p : Addr} {o : HO} (h : H p = none) : Same H (upd H p o) := fun b x e => by
  rw [upd_ne (ne_of_none e h)]
  exact e
/-- a comprehension that changes nothing but its own list: kept i is what turn i puts into it -/
theorem Lc.gen {J : It} {n j : Nat} {G : Hp → Prop} {Y : Nat → Hp → V → Hp → Prop} {tt : TT} {te : TE} {vs : List Nat} {D : Addr} {σ : L2.St} {H1 : Hp} {Q : VK} (wk : Walk J n G Y) (it : Nat → V) (kept : Nat → Option V)
    (hY : ∀ i H x H', i < n → Y i H x H' → H' = H ∧ x = it i) (hG : ∀ H', Same H1 H' → G H') (hD : H1 D = none) (hn : n ≤ 100000) (hw : ∀ i, wipe ((wipe σ vs).set j (some (it i))) vs = wipe σ vs)
    (step : ∀ i H (Qk : VK) (Qn : Hp → Prop), i < n → Same H1 H → (∀ y H4, Same H H4 → kept i = some y → Qk y H4) → (∀ H3, Same H H3 → kept i = none → Qn H3) →
      tt ((wipe σ vs).set j (some (it i))) H fun b H3 => if b = true then te ((wipe σ vs).set j (some (it i))) H3 Qk else Qn H3)
    (fin : ∀ H', Same H1 H' → H' D = some (.lst ((List.range n).filterMap kept)) → Q (.ref D) H') : Lc J (gName j) tt te vs D σ H1 Q := by
  refine Lc.by wk (fun i H => Same H1 H ∧ H D = some (.lst ((List.range i).filterMap kept))) ⟨same_upd hD, upd_same⟩ (fun i H _ p => hG H p.1) ?_ fun H p => fin H p.1 p.2
  rintro i x H H' hi ⟨sm, hd⟩ hy
  obtain ⟨rfl, rfl⟩ := hY i H x H' hi hy
  refine ⟨hw i, step i _ _ _ hi sm (fun y H4 s4 hk => ⟨_, s4 _ _ hd, ?_, fun b o e => ?_, ?_⟩) fun H3 s3 hk => ⟨sm.trans s3, ?_⟩⟩
  · refine Nat.lt_of_le_of_lt (Nat.le_trans (List.length_filterMap_le _ _) (by rw [List.length_range]; exact Nat.le_trans (Nat.le_of_lt hi) hn)) (by rw [sizeLine_eq]; omega)
  · rw [upd_ne (ne_of_none e hD)]; exact s4 _ _ (sm _ _ e)
  · rw [upd_same, List.range_succ, List.filterMap_append, List.filterMap_cons_some hk]; rfl
  · rw [s3 _ _ hd, List.range_succ, List.filterMap_append, List.filterMap_cons_none hk]; simp
section
variable {CX : CXT} {P : Program} {w : World} {K : PySem.W.Frag} {mg : Str → Option Value} {base : Heap} {N : List Str} {q : Str} {sc : Scope} {f : Addr} {cd : Value} {A : Around} {o : List Env} {s : Shared} {H : Hp} {E : XK}
theorem cx_K : (cxOf CX P w K mg base N q sc f cd A o s H E).K = K := rfl
theorem cx_prog : (cxOf CX P w K mg base N q sc f cd A o s H E).prog = P := rfl
theorem cx_w : (cxOf CX P w K mg base N q sc f cd A o s H E).w = w := rfl
theorem cx_nK : (cxOf CX P w K mg base N q sc f cd A o s H E).nox.K = K := rfl
end
theorem rEq_int (i j : Int) (H : Hp) (Q : VK) : rEq (.int i) (.int j) H Q = Q (.bl (decide (i = j))) H := by simp [rEq, scal]
theorem rNe_int (i j : Int) (H : Hp) (Q : VK) : rNe (.int i) (.int j) H Q = Q (.bl (!decide (i = j))) H := by simp [rNe, scal]
theorem rEq_bl (i j : Bool) (H : Hp) (Q : VK) : rEq (.bl i) (.bl j) H Q = Q (.bl (decide (i = j))) H := by simp [rEq, scal]
theorem rNe_bl (i j : Bool) (H : Hp) (Q : VK) : rNe (.bl i) (.bl j) H Q = Q (.bl (!decide (i = j))) H := by simp [rNe, scal]
theorem rEq_str (i j : Str) (H : Hp) (Q : VK) : rEq (.str i) (.str j) H Q = Q (.bl (decide (i = j))) H := by simp [rEq, scal]
theorem rNe_str (i j : Str) (H : Hp) (Q : VK) : rNe (.str i) (.str j) H Q = Q (.bl (!decide (i = j))) H := by simp [rNe, scal]
theorem atI_0 {α : Type} (a : α) (r : List α) : atI (a :: r) 0 = some a := atI_nat (j := 0) rfl
theorem atI_1 {α : Type} (a b : α) (r : List α) : atI (a :: b :: r) 1 = some b := atI_nat (j := 1) rfl
theorem atI_2 {α : Type} (a b c : α) (r : List α) : atI (a :: b :: c :: r) 2 = some c := atI_nat (j := 2) rfl
theorem atI_3 {α : Type} (a b c d : α) (r : List α) : atI (a :: b :: c :: d :: r) 3 = some d := atI_nat (j := 3) rfl
theorem ixN_4_0 : ixN 4 0 = some 0 := rfl
theorem ixN_4_1 : ixN 4 1 = some 1 := rfl
theorem ixN_4_2 : ixN 4 2 = some 2 := rfl
theorem ixN_4_3 : ixN 4 3 = some 3 := rfl
theorem some_lst {a b : List V} : (some (HO.lst a) = some (HO.lst b)) = (a = b) := by simp
theorem some_tup {a b : List V} : (some (HO.tup a) = some (HO.tup b)) = (a = b) := by simp
/-! ### the head: facts by names, and one more Bool -/
theorem own_of {K : PySem.W.Frag} {x : Str} (c : (He.Fa.exc x).ok K = true) : OwnExc K (He.ga K x) := by
  obtain ⟨a, b, d, e⟩ := He.exc_ok c
  exact ⟨a, b, d, e⟩
/-- the module's name x stands for this built-in -/
def isB (x : Str) (id : String) (K : PySem.W.Frag) : Bool := He.eqO (PySem.W.nsIn K mainGlobals x) (some (some (.builtin id)))
theorem isB_ok {K : PySem.W.Frag} {h : Heap} {mg : Str → Option Value} (X : K.In h) (G : h.Ns mainGlobals mg) {x : Str} {id : String} (c : isB x id K = true) : mg x = some (.builtin id) := PySem.W.mg_of X G (He.eqO_ok c)
end Mine

namespace Mine
open PySem PySem.Spec PyProof.Rows L2
/-! ### own errors that keep what they are given -/
def oexB (K : PySem.W.Frag) (C : Addr) : Bool := match K.lookup C with
  | some ⟨.type "type", _, .cls cd, sl⟩ => (match cd.mro, sl.toList with
    | .ref C' :: bm, [_, _, _, _, some (.builtin n), _] => C' == C && (n == "ValueError.__new__" && (!cd.hasDel && (cd.hasDict && PySem.HandSPX.refsVE bm)))
    | _, _ => false)
  | _ => false
theorem oexB_cls {K : PySem.W.Frag} {C : Addr} (q : oexB K C = true) : ∃ nm q N bs bm sn sub ab col dd k0 k1 k2 k3 k5, K.lookup C = some (excClassObj nm q C N bs bm true sn sub ab col dd k0 k1 k2 k3 k5 "ValueError.__new__") ∧ PySem.HandSPX.refsVE bm = true := by
  unfold oexB at q
  split at q
  · rename_i dd cd sl ho
    split at q
    · rename_i C' bm k0 k1 k2 k3 n k5 hm hs
      simp only [Bool.and_eq_true, beq_iff_eq, Bool.not_eq_true'] at q
      obtain ⟨rfl, rfl, hdel, hdict, hb⟩ := q
      obtain ⟨nm, bs, mro, ns, qn, hd, sn, sub, ab, col, del⟩ := cd
      dsimp only at hm hdel hdict
      subst hm hdel hdict
      obtain ⟨l⟩ := sl
      simp only at hs
      subst hs
      exact ⟨nm, qn, ns, bs, bm, sn, sub, ab, col, dd, k0, k1, k2, k3, k5, ho, hb⟩
    · cases q
  · cases q
/-- the class at C: its __init__ at fI puts what it is given into f -/
structure FldExc (K : PySem.W.Frag) (C fI : Addr) : Prop where
  o : OexC K C
  ini : PySem.W.findIn K (.ref C) "__init__" = some (some (.ref fI))
  ty : PySem.W.typeIn K (.ref fI) = some (.type "function")
  x : XfC K C
def fexB (K : PySem.W.Frag) (x : Str) : Bool := oexB K (He.ga K x) && (He.eqO (PySem.W.findIn K (.ref (He.ga K x)) "__setattr__") (some (some (.builtin "object.__setattr__"))) && (decide (PySem.W.subIn K (.ref (He.ga K x)) (.type "BaseException") = some true) &&
  (decide (PySem.W.typeIn K (.ref (He.ga K x)) = some (.type "type")) && (PySem.W.keepIn K (.ref (He.ga K x)) && (He.eqO (PySem.W.findIn K (.ref (He.ga K x)) "__init__") (some (some (.ref (He.ma K (He.ga K x) "__init__")))) &&
  (decide (PySem.W.typeIn K (.ref (He.ma K (He.ga K x) "__init__")) = some (.type "function")) && xfB K (He.ga K x)))))))
theorem fexB_ok {K : PySem.W.Frag} {x : Str} (h : fexB K x = true) : FldExc K (He.ga K x) (He.ma K (He.ga K x) "__init__") := by
  obtain ⟨a, h⟩ := He.ba h
  obtain ⟨b, h⟩ := He.ba h
  obtain ⟨c, h⟩ := He.ba h
  obtain ⟨d, h⟩ := He.ba h
  obtain ⟨e, h⟩ := He.ba h
  obtain ⟨f, h⟩ := He.ba h
  obtain ⟨g, i⟩ := He.ba h
  exact ⟨⟨oexB_cls a, He.eqO_ok b, of_decide_eq_true c, of_decide_eq_true d, e⟩, He.eqO_ok f, of_decide_eq_true g, xfB_ok i⟩
theorem PMk.asks {X : Cx} {e : Expr} {t t' : L2.St → Hp → XK → Prop} (h : PMk X e t) (m : ∀ σ H Q, t' σ H Q → t σ H Q) : PMk X e t' := fun pn st sg Hh Qq J hq => h pn st sg Hh Qq J (m _ _ _ hq)
/-- what such an __init__ does -/
def spFld (C : Addr) (f : Str) : Sp := fun vs H Q _ => ∃ (a : Addr) (v : V), vs = [.ref a, v] ∧ H a = some (exo a C none) ∧ ∀ dx, H dx = none → dx ≠ a → Q .non (upd (upd H dx (exd dx [(f, v)])) a (exo a C (some dx)))
/-- X(e): the error's own dict at d -/
def tMk1 (C : Addr) (f : Str) (te : TE) : L2.St → Hp → XK → Prop := fun σ H Q => te σ H fun v H1 => ∀ d H', Same H1 H' → H1 d = none → H' d = some (.xd [(f, v)]) → Q (.ref C) (some d) H'
theorem mk1 {X : Cx} {x f : Str} {C fI : Addr} {k : Nat} {fd : FuncData} {e : Expr} {te : TE} {p pos : Pos} {ps : List Str} (T : FldExc X.K C fI) (g : X.mg x = some (.ref C)) (F1 : FnOk X.prog X.w X.K X.mg X.base CX0 k fI fd ps (spFld C f)) (hb : Binds X.K fd ps []) (hr : Room (k + 1) X.A)
    (mt : Mon te) (he : PE X e te) (hg : Gl X x) (hd : (x == ("__debug__" : Str)) = false := by decide) (hs : starEach (e :: []) X.env = (false, eval e X.env) :: starEach [] X.env := by rfl) (hpl : (backTo pos (starEach [] X.env)).any (·.1) = false := by rfl) :
    PMk X (.Call (.Name x p) [e] [] pos) (tMk1 C f te) := by
  refine PMk.asks (pmk_oex (dvs := []) (ds := []) T.o T.ini T.ty F1 hr hb .nil (fun _ _ _ _ _ _ _ h => h.elim) hg g (pa_cons he pa_nil hs) hd hs hpl) fun σ H Q h => ?_
  refine mt σ H _ _ (fun v H1 q => ?_) h
  show [v].length ≤ 1000 ∧ ∀ a, H1 a = none → spFld C f (.ref a :: ([v] ++ [])) (upd H1 a (exo a C none)) _ _
  refine ⟨by show 1 ≤ 1000; decide, fun a ha => ⟨a, v, rfl, upd_same, fun dx hdx ne => ⟨rfl, dx, [(f, v)], upd_same, ?_, ?_, ?_⟩⟩⟩
  · rw [upd_ne ne, upd_same]
  · rw [upd_ne ne] at hdx; exact hdx
  · have h1 : H1 dx = none := by rw [upd_ne ne] at hdx; exact hdx
    refine q dx _ (fun b o eb => ?_) h1 upd_same
    have nb : b ≠ a := ne_of_none eb ha
    have nd : b ≠ dx := ne_of_none eb h1
    rw [upd_ne nd, del_ne nb, upd_ne nb, upd_ne nd, upd_ne nb]; exact eb
end Mine

namespace PySem
set_option maxHeartbeats 8000000 in
theorem mine_enum_newB {v : Value} {o : Obj} {H : Heap → Prop} (B : Begins v o H) :
    Meets (Builtin.«enumerate.__new__» ⟨[.type "enumerate", v], []⟩) (fun _ R s => H s.heap ∧
      R (.ok (.ret (.ref (s.heap.push o).objs.size))) { s with heap := (s.heap.push o).push { cls := .type "enumerate", data := .fields #[.none, .bool false, .ref s.heap.objs.size, rawInt 0, .none, .none] } }) :=
  .of_wp fun prog w A R s h => by
    obtain ⟨hp, g, d, tk, os⟩ := s; obtain ⟨h1, h⟩ := h
    have hsub := sub_enumerate
    have q1 : ∀ {A' : Around} {E : Value → Shared → Prop} {Q : Value → Shared → Prop}, Q (.ref hp.objs.size) ⟨hp.push o, g, d, tk, os⟩ → wpAny (model prog w) A' (pyIter v) Q E ⟨hp, g, d, tk, os⟩ :=
      fun q => B.iter prog w _ _ ⟨hp, g, d, tk, os⟩ _ h1 q
    wp_walk using q1
    refine wpAny_stack_any fun st => wpAny_pure ?_
    split
    · rename_i c _ _ _ _ _
      cases (c == Value.type "enumerate")
      · wp_walk using q1
        exact ⟨_, rfl, h⟩
      · wp_walk using q1
        exact ⟨_, rfl, h⟩
    · wp_walk using q1
      exact ⟨_, rfl, h⟩
section
variable {prog : Program} {w : World} {A : Around} {E : Value → Shared → Prop} {s : Shared}
theorem mine_enum_call {v : Value} {o : Obj} {H : Heap → Prop} {Q : Value → Shared → Prop} (B : Begins v o H) (h1 : H s.heap)
    (h : ∀ h', IsEnum h' (s.heap.objs.size + 1) s.heap.objs.size 0 .none → h'.get? s.heap.objs.size = some o → h'.objs.size = s.heap.objs.size + 2 →
      (∀ b o, s.heap.get? b = some o → h'.get? b = some o) → Q (.ref (s.heap.objs.size + 1)) { s with heap := h' }) :
    wpAny (model prog w) A (call (.type "enumerate") [v]) Q E s := by
  refine callType_new F.called_enumerate (by decide) (F.typeCall_enumerate_1 _) (F.newCall_enumerate_1 _) (fun obj => F.args_object_init_2 obj _) F.entry_enumerate_new
    (mine_enum_newB B) ⟨h1, ?_⟩
  have hz : (s.heap.push o).objs.size = s.heap.objs.size + 1 := Heap.size_push ..
  show _ ∧ _
  rw [hz]
  have he : IsEnum ((s.heap.push o).push { cls := .type "enumerate", data := .fields #[.none, .bool false, .ref s.heap.objs.size, rawInt 0, .none, .none] }) (s.heap.objs.size + 1) s.heap.objs.size 0 .none := by
    have := Heap.get?_push_size (s.heap.push o) (o := { cls := .type "enumerate", data := .fields #[.none, .bool false, .ref s.heap.objs.size, rawInt 0, .none, .none] }) rfl
    rw [hz] at this; exact this
  refine ⟨⟨_, he, rfl⟩, h _ he (Heap.get?_push_of_some _ (Heap.get?_push_size _ B.free)) (by rw [Heap.size_push, hz]) fun b o x => Heap.get?_push_of_some _ (Heap.get?_push_of_some _ x)⟩
end
end PySem
namespace Mine
open PySem PySem.Spec PyProof.Rows L2
/-! ### enumerate over a tuple -/
def IteT (K : PySem.W.Frag) (a : Addr) : It :=
  ⟨fun i H => ∃ (xs : List V) (x : V), SqT K H a xs ∧ xs[i]? = some x, fun i H v H' => ∃ T x, v = .ref T ∧ H T = none ∧ H' = upd H T (.tup [.int (i : Nat), x]) ∧ ∀ xs, SqT K H a xs → xs[i]? = some x, fun i H => ∃ xs : List V, SqT K H a xs ∧ xs.length ≤ i⟩
theorem turn_enumT {P : Program} {w : World} {K : PySem.W.Frag} {elts : List Expr} {kk : Nat} {tpos : Pos} (a e it : Addr) (ha : a ≠ it) (hae : e ≠ a) :
    Turn P w K (.Tuple elts kk tpos) (IteT K a) [e, it] e (fun i h => (∃ old, IsEnum h e it ((i : Nat) : Int) old) ∧ h.IsTupleIter it a i ∧ e ≠ it) where
  mem := by simp
  obj := fun i h st b hb => by
    obtain ⟨⟨old, he⟩, ⟨o, ho, hc, hd⟩, _⟩ := st
    have e' : b = e ∨ b = it := by simpa using hb
    rcases e' with z | z
    · rw [z]; exact ⟨_, he, fun v q => nomatch q⟩
    · rw [z]; exact ⟨o, ho, fun v q => by rw [hd] at q; cases q⟩
  keep := fun i h h' st k => let ⟨⟨old, he⟩, hi, hne⟩ := st; ⟨⟨old, k e (by simp) _ he⟩, hi.at fun o q => k it (by simp) o q, hne⟩
  item := by
    intro X hP hw hK hc i pins s σ H E I hf st hg
    subst hP hw hK
    obtain ⟨⟨old, he⟩, hit, hne⟩ := st
    obtain ⟨xs, x, hq, hx⟩ := hg
    obtain ⟨its, rv, p, hz⟩ := I.tuple hq
    obtain ⟨u, hu, ru⟩ := rv.get hx
    have hel : e < s.heap.objs.size := Heap.lt_size he
    have hil : it < s.heap.objs.size := by obtain ⟨_, q, _⟩ := hit; exact Heap.lt_size q
    have pt : s.heap.IsTuple a its.toArray := p
    have hlt : i < its.toArray.size := by
      have := List.getElem?_eq_some_iff.mp hu
      obtain ⟨h, _⟩ := this
      simpa using h
    refine wpAny_pyNext_enum_itemD (i := i) (Draws.tuple (A := X.A.in1) (I.ok.hd hc) it a ha its.toArray) he ⟨hit, pt⟩ hlt hne (by simp [hne, hae]) fun x' h' tk hP ho hs' hT hsz hk => ?_
    have ex : x' = u := by
      have z : its.toArray[i]? = some u := by simpa using hu
      rw [hP] at z; exact Option.some.inj z
    subst ex
    refine ⟨_, rfl, wpAny_letOwnedTupleGo_enum (s := { s with heap := h', toks := tk + 1 }) ho fun h'' he' sb => ?_⟩
    have hT2 : h''.get? s.heap.objs.size = some { cls := .type "tuple", data := .seq #[.int i tk, x'] } := (sb.2 _ (Nat.ne_of_gt hel)).trans hT
    have new : ObjOk X.prog X.w (upd H s.heap.objs.size (.tup [.int (i : Nat), x])) h'' s.heap.objs.size (.tup [.int (i : Nat), x]) :=
      ⟨by show 2 ≤ sizeLine; decide, [.int i tk, x'], .cons ⟨_, rfl⟩ (.cons ru .nil), ⟨_, hT2, rfl, _, rfl⟩⟩
    have I1 : Inv X pins σ (upd H s.heap.objs.size (.tup [.int (i : Nat), x])) { s with heap := h'', toks := tk + 1 } :=
      I.turnedNew (ch := [e, it]) (fun b ob hb q => (sb.2 b (fun z => hb (by simp [z]))).trans (hk b ob (fun z => hb (by simp [z])) (fun z => hb (by simp [z])) q)) hf (Nat.le_refl _) new
    refine ⟨.ref s.heap.objs.size, _, I1, rfl, ⟨_, x, rfl, I.hok.fresh (Nat.le_refl _), rfl, fun ys hy => by rw [I.tuple_inj hy hq]; exact hx⟩, ⟨⟨x', ?_⟩, hs'.1.at fun o q => (sb.2 it (Ne.symm hne)).trans q, hne⟩, fun b hb => ?_⟩
    · have e1 : ((i + 1 : Nat) : Int) = (i : Int) + 1 := by omega
      rw [e1]; exact he'
    · have hb' : b < s.heap.objs.size := by
        have e' : b = e ∨ b = it := by simpa using hb
        rcases e' with z | z
        · rw [z]; exact hel
        · rw [z]; exact hil
      rw [upd_ne (Nat.ne_of_lt hb')]
      exact (hf b hb).1
  done := by
    intro X hP hw hK hc i pins s σ H E I hf st hg
    subst hP hw hK
    obtain ⟨⟨old, he⟩, hit, hne⟩ := st
    obtain ⟨xs, hq, hx⟩ := hg
    obtain ⟨its, rv, p, hz⟩ := I.tuple hq
    obtain ⟨f0, f1, f2, f3, f4, f5⟩ := hf it (by simp)
    have hl := rv.length
    have pt : s.heap.IsTuple a its.toArray := p
    have hT : s.TypeIs (.ref e) "enumerate" := ⟨_, he, rfl⟩
    unfold pyNext
    refine wpAny_bind (wpAny_attempt (wpAny_callSpecial?_slot (name := Str.ofString "__next__") hT F.slot_enumerate_next
      (wpAny_call_entry F.slot_enumerate_next hT F.entry_enumerate_next ?_ (F.args_enumerate_next_1 _))))
    show wpAny _ _ (field (.ref e) 2 >>= _) _ _ _
    refine wpAny_bind (wpAny_field he rfl (x := .ref it) rfl ?_)
    refine wpAny_bind (wpAny_nextOf_tuple_end (I.ok.hd hc) hit pt (by simp; omega) fun h' x he' hx' => ?_)
    obtain ⟨o, ho, hc⟩ := hx'
    refine wpAny_bind (wpAny_isInstance (T := "StopIteration") (b := true) ⟨o, ho, hc⟩ isSubtype_stop ?_)
    exact wpAny_pure ⟨rfl, I.turned (t' := s.toks) (fun b o hb q => he' b o hb q) f0 f1 f3 f4 f5⟩
  self := fun A i s Q E st h => let ⟨⟨_, he⟩, _⟩ := st; wpAny_pyIter_enum he h
def iEnumA (K : PySem.W.Frag) (ta : TA) : TI := fun σ H R => ta σ H fun vs H1 => ∃ a xs, vs = [.ref a] ∧ ((SqL K H1 a xs ∧ R (Ite K a) H1) ∨ (SqT K H1 a xs ∧ R (IteT K a) H1))
theorem pi_enumA {X : Cx} {e : Expr} {ta : TA} {p pos tpos : Pos} {elts : List Expr} {kk : Nat} (hg : Gl X "enumerate") (hm : X.mg "enumerate" = none) (ha : PA X [e] ta) (hs : starEach [e] X.env = [(false, eval e X.env)] := by rfl) :
    PI X (.Tuple elts kk tpos) (.Call (.Name "enumerate" p) [e] [] pos) (iEnumA X.K ta) := by
  refine ⟨fun pins s σ H R I h => ?_⟩
  refine Call_ (ld_blt I hg hm boot_enumerate (PyProof.Rows.callWith_type1 (thn (ha.run pos pins s σ H _ I h) fun us s1 ⟨vs, H1, I1, r1, q1⟩ => ?_) hs rfl))
  obtain ⟨a, xs, ex, q1⟩ := q1
  subst ex
  cases r1 with
  | cons r rr =>
    cases rr
    cases r
    have fp2 : ∀ b ∈ [s1.heap.objs.size + 1, s1.heap.objs.size], FpOk X pins H1 b := fun b hb => by
      have e' : b = s1.heap.objs.size + 1 ∨ b = s1.heap.objs.size := by simpa using hb
      have hle : s1.heap.objs.size ≤ b := by
        rcases e' with z | z
        · rw [z]; exact Nat.le_add_right _ _
        · rw [z]; exact Nat.le_refl _
      exact I1.fpOk hle (I1.hok.fresh hle)
    rcases q1 with ⟨hq, q⟩ | ⟨hq, q⟩
    · obtain ⟨its, rv, p', hz⟩ := I1.list hq
      refine call_enumerate_list p'.isList fun h' he hit hsz hk => wpAny_pyIter_enum he ?_
      have I2 : Inv X pins σ H1 { s1 with heap := h' } := I1.kept (t' := s1.toks) hk
      exact ⟨s1.heap.objs.size + 1, [s1.heap.objs.size + 1, s1.heap.objs.size], _, _, H1, rfl, I2, turn_enum a (s1.heap.objs.size + 1) s1.heap.objs.size, ⟨⟨.none, he⟩, hit, Nat.succ_ne_self _⟩, fp2, q⟩
    · obtain ⟨its, rv, p', hz⟩ := I1.tuple hq
      have pt : s1.heap.IsTuple a its.toArray := p'
      have hlt : a < s1.heap.objs.size := by
        obtain ⟨o, ho, _⟩ := id pt
        exact Heap.lt_size ho
      refine mine_enum_call (begins_tuple a its.toArray) pt fun h' he hit hsz hk => wpAny_pyIter_enum he ?_
      have I2 : Inv X pins σ H1 { s1 with heap := h' } := I1.kept (t' := s1.toks) hk
      exact ⟨s1.heap.objs.size + 1, [s1.heap.objs.size + 1, s1.heap.objs.size], _, _, H1, rfl, I2, turn_enumT a (s1.heap.objs.size + 1) s1.heap.objs.size (Nat.ne_of_lt hlt) (Nat.ne_of_gt (Nat.lt_succ_of_lt hlt)), ⟨⟨.none, he⟩, ⟨_, hit, rfl, rfl⟩, Nat.succ_ne_self _⟩, fp2, q⟩
theorem walk_enumT {K : PySem.W.Frag} {a : Addr} {xs : List V} : Walk (IteT K a) xs.length (fun H => SqT K H a xs) (YPair (fun i => some (.int (i : Nat))) (fun i => xs[i]?)) := by
  refine ⟨fun i _ hi q => ⟨xs, xs[i], q, by simp [hi]⟩, fun _ q => ⟨xs, q, Nat.le_refl _⟩, fun i H v H' _ q y => ?_⟩
  obtain ⟨T, x, h1, h2, h3, h4⟩ := y
  exact ⟨T, .int (i : Nat), x, h1, h2, h3, rfl, h4 xs q⟩
/-! ### a list or a tuple -/
def iSeq (K : PySem.W.Frag) (tl : TE) : TI := fun σ H R => tl σ H fun x H1 => ∃ a xs, x = .ref a ∧ ((SqL K H1 a xs ∧ R (Itl K a) H1) ∨ (SqT K H1 a xs ∧ R (Itt K a) H1))
theorem pi_seq {X : Cx} {tg l : Expr} {tl : TE} (hl : PE X l tl) : PI X tg l (iSeq X.K tl) := by
  refine ⟨fun pins s σ H R I h => ?_⟩
  refine thn (hl.run pins s σ H _ I h) fun v s1 ⟨x, H1, I1, r1, q1⟩ => ?_
  obtain ⟨a, xs, e, q1⟩ := q1
  subst e
  cases r1
  have fp1 : ∀ b ∈ [s1.heap.objs.size], FpOk X pins H1 b := fun b hb => by
    have e : b = s1.heap.objs.size := by simpa using hb
    subst e
    exact I1.fpOk (Nat.le_refl _) (I1.hok.fresh (Nat.le_refl _))
  rcases q1 with ⟨hq, q⟩ | ⟨hq, q⟩
  · obtain ⟨its, rv, p, hz⟩ := I1.list hq
    refine wpAny_pyIter_list p.isList ?_
    exact ⟨s1.heap.objs.size, [s1.heap.objs.size], _, _, H1, rfl, I1.kept (t' := s1.toks) fun b o e => Heap.get?_push_of_some _ e, turn_list a _, ⟨_, Heap.get?_push_size _ rfl, rfl, rfl⟩, fp1, q⟩
  · obtain ⟨its, rv, p, hz⟩ := I1.tuple hq
    refine wpAny_pyIter_tuple (show s1.heap.IsTuple a its.toArray from p) ?_
    exact ⟨s1.heap.objs.size, [s1.heap.objs.size], _, _, H1, rfl, I1.kept (t' := s1.toks) fun b o e => Heap.get?_push_of_some _ e, turn_tuple a _, ⟨_, Heap.get?_push_size _ rfl, rfl, rfl⟩, fp1, q⟩
section
variable {X : Cx}
end
end Mine

namespace L2
open PySem PySem.Spec PyProof.Rows
section
variable {P : Program} {w : World} {A : Around} {E : Value → Shared → Prop} {s : Shared}
end
end L2

namespace Mine
open PySem PySem.Spec PyProof.Rows L2
/-- at p: a list of tuples, the words ws -/
def Rows (H : Hp) (p : Addr) (ws : List (List Int)) : Prop := ∃ ks : List (Addr × List Int), H p = some (.lst (ks.map fun k => V.ref k.1)) ∧ ks.map (·.2) = ws ∧ ∀ k ∈ ks, H k.1 = some (.tup (k.2.map V.int))
theorem Rows.same {H H' : Hp} {p : Addr} {ws : List (List Int)} (r : Rows H p ws) (s : Same H H') : Rows H' p ws := by
  obtain ⟨ks, a, b, c⟩ := r
  exact ⟨ks, s _ _ a, b, fun k hk => s _ _ (c k hk)⟩
end Mine

namespace Mine
open PySem PySem.Spec PyProof.Rows L2
def MonU (r : V → Hp → VK → Prop) : Prop := ∀ x H (Q Q' : VK), (∀ v H', Q v H' → Q' v H') → r x H Q → r x H Q'
theorem mon_rU (g : Int → V) : MonU (rU g) := fun _ _ _ _ m ⟨i, e, q⟩ => ⟨i, e, m _ _ q⟩
theorem mon_un {r : V → Hp → VK → Prop} {ta : TE} (mr : MonU r) (ma : Mon ta) : Mon (tUn r ta) := fun σ H _ _ m q => ma σ H _ _ (fun _ _ q2 => mr _ _ _ _ m q2) q
end Mine

namespace L2
open PySem PySem.Spec PyProof.Rows
abbrev mineSet0 (w : World) : Obj := { cls := .type "set", dict := none, data := .set #[] 0 (.fresh 0 0 (!w.params.followText "set-order")) }
section
variable {P : Program} {w : World} {A : Around} {E : Value → Shared → Prop} {s : Shared}
/-- set(v), by what its __init__ does with the new set -/
theorem mine_call_set {v : Value} {Q : Value → Shared → Prop}
    (h : wpAny (model P w) A.in1.in1 (Builtin.«set.__init__» ⟨[.ref s.heap.objs.size, v], []⟩)
      (fun fin s' => match fin with | .done f => wants (fun r s₂ => r = .none ∧ Q (.ref s.heap.objs.size) s₂) E (.ok f) s' | .again c' => c'.quiet = true ∧ codeAny (model P w) A.in1 c' (wants (fun r s₂ => r = .none ∧ Q (.ref s.heap.objs.size) s₂) E) s')
      (fun e s' => wants (fun r s₂ => r = .none ∧ Q (.ref s.heap.objs.size) s₂) E (.error e) s') { s with heap := s.heap.push (mineSet0 w) }) : wpAny (model P w) A (call (.type "set") [v]) Q E s := by
  have ft := F.called_set
  obtain ⟨k, ks, order⟩ := ft.mro
  have m1 := ft.made
  have m2 := ft.sub
  have m3 := ft.notType
  have m4 := ft.canCreate
  have m5 := F.typeCall_set_1 v
  refine wpAny_call (codeAny_of_tree ?_)
  show wpAny _ _ (callAny (.type "set") _) _ _ _
  refine wpAny_pure ⟨Code.quiet_builtin _ (by decide +kernel), codeAny_builtin F.entry_type_call ?_⟩
  rw [Around.under_plain (weight_type_call_type "set" [v] []) rfl]
  repeat (any_goals (first | assumption | wp_step))
  refine codeAny_mono (code_set_led1 (E := E) (Q₁ := fun obj s₁ => obj = .ref s.heap.objs.size ∧ s₁ = { s with heap := s.heap.push (mineSet0 w) }) v ⟨rfl, rfl⟩) fun r s₁ hr => ?_
  cases r with
  | error e => exact hr
  | ok f =>
    cases f with
    | ret x =>
      obtain ⟨rfl, rfl⟩ := hr
      have ty : Shared.TypeIs { s with heap := s.heap.push (mineSet0 w) } (.ref s.heap.objs.size) "set" := ⟨_, Heap.get?_push_size _ rfl, rfl⟩
      have m6 := ft.init.lookup
      have m7 := ft.init.bind (.ref s.heap.objs.size)
      repeat (any_goals (first | assumption | wp_step))
      refine codeAny_mono (codeAny_call_builtin ft.init.plain F.entry_set_init (check_set_init_1 ty h)) fun r₂ s₂ hr₂ => ?_
      cases r₂ with
      | error e => exact hr₂
      | ok f₂ =>
        cases f₂ with
        | ret y =>
          obtain ⟨rfl, q⟩ := hr₂
          repeat (any_goals (first | assumption | wp_step))
        | _ => exact hr₂.elim
    | _ => exact hr.elim
/-- sum(t) of a tuple of whole numbers -/
theorem mine_sum_tup {l : Addr} {items : Array Value} {ns : List Int} {Q : Value → Shared → Prop} (hh : A.handled = none) (hl : s.heap.IsTuple l items) (hit : IntsAre items.toList ns)
    (h : ∀ h' tk t', (∀ b o, s.heap.get? b = some o → h'.get? b = some o) → Q (.int ns.sum t') { s with heap := h', toks := tk }) : wpAny (model P w) A (call (.builtin "sum") [.ref l]) Q E s := by
  have len : items.size = ns.length := by rw [← hit.length, Array.length_toList]
  have lt : l < s.heap.objs.size := by obtain ⟨_, e, _⟩ := id hl; exact Heap.lt_size e
  have pre : ∀ n, n ≤ ns.length → preSum (fun i => ns.getD i 0) n = (ns.take n).sum := by
    intro n
    induction n with
    | zero => intro _; rfl
    | succ n ih =>
      intro hn
      show preSum _ n + ns.getD n 0 = _
      rw [ih (by omega), PySem.sum_take_succ]
  refine call_sum_walkG (wpAny_pyIter_tuple hl ?_)
  refine ⟨s.heap.objs.size, _, _, _, _, _, fun i => ns.getD i 0, rfl, Walks.tuple (A := A.in1) (by simpa using hh) _ l (Nat.ne_of_lt lt) items, ⟨⟨_, Heap.get?_push_size _ rfl, rfl, rfl⟩, hl.push _⟩, fun b hb => ?_, fun i v hv => hit.int_at i v (by rw [Array.getElem?_toList]; exact hv), fun h' tk t' k => ?_⟩
  · have e : b = s.heap.objs.size ∨ b = l := by simpa using hb
    show b < (s.heap.push _).objs.size
    rw [Heap.size_push]
    rcases e with e | e
    · rw [e]; exact Nat.lt_succ_self _
    · rw [e]; exact Nat.lt_succ_of_lt lt
  · rw [len, pre _ (Nat.le_refl _), List.take_of_length_le (Nat.le_refl _)]
    exact h h' tk t' fun b o e => k b o (by simpa using Nat.ne_of_lt (Heap.lt_size e)) (Heap.get?_push_of_some _ e)
end
end L2
namespace Mine
open PySem PySem.Spec PyProof.Rows L2
theorem Room.u65 {k : Nat} {A : Around} (r : Room k A) : A.units + 65 < cLine := by have := r.un; omega
section
variable {X : Cx}
def rSumT (K : PySem.W.Frag) : List V → Hp → VK → Prop := fun vs H Q => ∃ (a : Addr) (ns : List Int), vs = [V.ref a] ∧ SqT K H a (ns.map V.int) ∧ Q (.int ns.sum) H
theorem cr_sumT (hc : X.calm = true) : CallR X (.builtin "sum") (rSumT X.K) := by
  intro pins s σ H vs us Q I r h
  obtain ⟨a, ns, rfl, ha, q⟩ := h
  rw [Vals.ref1 r]
  obtain ⟨its, rv, pl, hz⟩ := I.tuple ha
  refine mine_sum_tup (items := its.toArray) (I.ok.hd hc) pl (by simpa using Vals.ints rv) fun h' tk t' k => ?_
  exact ⟨.int ns.sum, H, I.kept (t' := tk) k, ⟨t', rfl⟩, q⟩
end
end Mine

namespace Mine
open PySem PySem.Spec PyProof.Rows L2
theorem getD_at {w : List Int} {i : Nat} (h : i < w.length) : w[i]? = some (w.getD i 0) := by rw [List.getD_eq_getElem?_getD, List.getElem?_eq_getElem h]; rfl
section
variable {j : Nat} {tt : TT} {te : TE} {vs : List Nat} {D : Addr} {σ : L2.St} {H1 : Hp} {Q : VK}
/-- .. over a tuple of whole numbers -/
theorem Lc.ints {K : PySem.W.Frag} {a : Addr} {w : List Int} (kept : Nat → Option V) (hs : SqT K H1 a (w.map V.int)) (hD : H1 D = none) (hn : w.length ≤ 100000) (hw : ∀ x : V, wipe ((wipe σ vs).set j (some x)) vs = wipe σ vs)
    (step : ∀ i H (Qk : VK) (Qn : Hp → Prop), i < w.length → Same H1 H → (∀ y H4, Same H H4 → kept i = some y → Qk y H4) → (∀ H3, Same H H3 → kept i = none → Qn H3) →
      tt ((wipe σ vs).set j (some (.int (w.getD i 0)))) H fun b H3 => if b = true then te ((wipe σ vs).set j (some (.int (w.getD i 0)))) H3 Qk else Qn H3)
    (fin : ∀ H', Same H1 H' → H' D = some (.lst ((List.range w.length).filterMap kept)) → Q (.ref D) H') : Lc (Itt K a) (gName j) tt te vs D σ H1 Q := by
  have wk := walk_tup (K := K) (a := a) (xs := w.map V.int)
  rw [List.length_map] at wk
  refine Lc.gen wk (fun i => V.int (w.getD i 0)) kept ?_ (fun H' s => ?_) hD hn (fun i => hw _) step fin
  · rintro i H x H' hi ⟨rfl, hx⟩
    rw [List.getElem?_map, getD_at hi] at hx
    exact ⟨rfl, (Option.some.inj hx).symm⟩
  · rcases hs with (h | ⟨o, h⟩) | h
    · exact .inl (.inl (s _ _ h))
    · exact .inl (.inr ⟨o, s _ _ h⟩)
    · exact .inr h
/-- a comprehension that makes tuples of whole numbers: f i at turn i -/
theorem Lc.rows {J : It} {n : Nat} {G : Hp → Prop} {Y : Nat → Hp → V → Hp → Prop} (wk : Walk J n G Y) (it : Nat → V) (f : Nat → List Int)
    (hY : ∀ i H x H', i < n → Y i H x H' → H' = H ∧ x = it i) (hG : ∀ H', Same H1 H' → G H') (hD : H1 D = none) (hn : n ≤ 100000) (hw : ∀ x : V, wipe ((wipe σ vs).set j (some x)) vs = wipe σ vs)
    (step : ∀ i H (Qk : VK), i < n → Same H1 H → (∀ p H4, Same H H4 → H4 p = some (.tup ((f i).map V.int)) → Qk (.ref p) H4) → te ((wipe σ vs).set j (some (it i))) H Qk)
    (fin : ∀ H', Same H1 H' → Rows H' D ((List.range n).map f) → Q (.ref D) H') : Lc J (gName j) tYes te vs D σ H1 Q := by
  refine Lc.by wk (fun i H => Same H1 H ∧ Rows H D ((List.range i).map f)) ⟨same_upd hD, [], upd_same, rfl, fun k hk => by cases hk⟩ (fun i H _ p => hG H p.1) ?_ fun H p => fin H p.1 p.2
  rintro i x H H' hi ⟨sm, ks, h1, h2, h3⟩ hy
  obtain ⟨rfl, rfl⟩ := hY i H x H' hi hy
  refine ⟨hw _, ?_⟩
  unfold tYes
  dsimp only
  rw [if_pos rfl]
  refine step i H' _ hi sm fun p H4 s4 hp => ⟨_, s4 _ _ h1, ?_, fun b o e => ?_, ks ++ [(p, f i)], ?_, ?_, fun k hk => ?_⟩
  · have : ks.length = i := by have := congrArg List.length h2; simpa using this
    rw [List.length_map, this, sizeLine_eq]; omega
  · rw [upd_ne (ne_of_none e hD)]; exact s4 _ _ (sm _ _ e)
  · rw [upd_same, List.map_append]; rfl
  · rw [List.map_append, h2, List.range_succ, List.map_append]; rfl
  · have kt : H4 k.1 = some (.tup (k.2.map V.int)) := by
      rcases List.mem_append.mp hk with m | m
      · exact s4 _ _ (h3 k m)
      · have : k = (p, f i) := by simpa using m
        rw [this]; exact hp
    have ne : k.1 ≠ D := fun e => by rw [e, s4 _ _ h1] at kt; cases kt
    rw [upd_ne ne]; exact kt
end
/-! ### rules that name the fragment, within a comprehension -/
theorem CallR.k {X : Cx} {f : Value} {r : PySem.W.Frag → List V → Hp → VK → Prop} (h : CallR X f (r X.K)) {K : PySem.W.Frag} (e : X.K = K) : CallR X f (r K) := e ▸ h
theorem OpR.k {X : Cx} {f : Value → Value → Sem Value} {r : PySem.W.Frag → R2} (h : OpR X f (r X.K)) {K : PySem.W.Frag} (e : X.K = K) : OpR X f (r K) := e ▸ h
theorem SlR.k {X : Cx} {r : PySem.W.Frag → V → Option Int → Option Int → Hp → VK → Prop} (h : SlR X (r X.K)) {K : PySem.W.Frag} (e : X.K = K) : SlR X (r K) := e ▸ h
/-! ### pieces of tuples, tuples put together -/
section
variable {K : PySem.W.Frag} {H : Hp} {Q : VK} {a b : Addr} {xs ys : List V}
end
/-! ### equality of words, of rows of words -/
section
variable {K : PySem.W.Frag} {H : Hp} {Q : VK} {a b : Addr} {x y : List Int} {xs ys : List (List Int)}
end
end Mine

namespace Mine
open PySem PySem.Spec PyProof.Rows L2
/-! ### several except clauses, with names -/
abbrev Suit := Addr → Value → Option Addr → TS
def SuitOk (X : Cx) (body : List Stmt) (ts : Suit) : Prop := ∀ (a : Addr) (oe : Obj) (cls : Value) (d : Option Addr) (pn : List (Addr × Obj)), Zc cls d oe → (∃ vs, oe.data = .fields vs) → PSs (X.suite a ((a, oe) :: pn)) body (ts a cls d)
inductive HdsN (X : Cx) : List ExceptHandler → List (Value × Option Nat × Suit) → Prop
  | nil : HdsN X [] []
  | bare {x : Str} {c : Value} {ts : Suit} {b₀ : Stmt} {suite : List Stmt} {np pos' : Pos} {hds : List ExceptHandler} {l : List (Value × Option Nat × Suit)} (hc : Names X x c) (hsu : SuitOk X (b₀ :: suite) ts) (r : HdsN X hds l) :
      HdsN X (.ExceptHandler (some (.Name x np)) none (b₀ :: suite) pos' :: hds) ((c, none, ts) :: l)
  | named {x n : Str} {i : Nat} {c : Value} {ts : Suit} {b₀ : Stmt} {suite : List Stmt} {np pos' : Pos} {hds : List ExceptHandler} {l : List (Value × Option Nat × Suit)} (hi : X.N[i]? = some n) (hln : X.env.kindOf n = some .local)
      (hc : Names X x c) (hsu : SuitOk X (b₀ :: suite) ts) (r : HdsN X hds l) : HdsN X (.ExceptHandler (some (.Name x np)) (some n) (b₀ :: suite) pos' :: hds) ((c, some i, ts) :: l)
section
variable {X : Cx} {pins : List (Addr × Obj)}
/-- an exception in hand, at the clauses -/
structure Hand (X : Cx) (pins : List (Addr × Obj)) (σ : L2.St) (H : Hp) (a : Addr) (cls : Value) (d : Option Addr) (s : Shared) : Prop where
  ob : ∃ oe vs, s.heap.get? a = some oe ∧ Zc cls d oe ∧ oe.data = .fields vs
  inv : Inv X pins σ H s
  nH : H a = none
  nL : a ≠ X.env.locals
  nF : a ∉ X.fs
theorem Hand.suite {σ : L2.St} {H : Hp} {a : Addr} {cls : Value} {d : Option Addr} {s : Shared} (h : Hand X pins σ H a cls d s) : ∃ oe, Zc cls d oe ∧ (∃ vs, oe.data = .fields vs) ∧ Inv (X.suite a ((a, oe) :: (X.pn ++ pins))) [] σ H s := by
  obtain ⟨oe, vs, he, hz, hd⟩ := h.ob
  exact ⟨oe, hz, ⟨vs, hd⟩, h.inv.suite he hd h.nH h.nL h.nF⟩
theorem Hand.asks {σ : L2.St} {H : Hp} {a : Addr} {cls c : Value} {d : Option Addr} {s : Shared} {b : Bool} (h : Hand X pins σ H a cls d s) (e : PySem.W.exmOne X.K cls c = some b) : PySem.W.Looks (model X.prog X.w) s.heap (excMatches (.ref a) c) b := by
  obtain ⟨oe, vs, he, hz, hd⟩ := h.ob
  exact PySem.W.exm_one (M := model X.prog X.w) h.inv.kIn (fun A Q E s k q => wpAny_typeOf_ref (k _ _ he) (by rw [hz.1]; exact q)) e
theorem Hand.names {σ : L2.St} {H : Hp} {a : Addr} {cls c : Value} {d : Option Addr} {s : Shared} {x : Str} {np : Pos} (h : Hand X pins σ H a cls d s) (hc : Names X x c) {Q : Value → Shared → Prop} {E : Value → Shared → Prop} (q : Q c s) :
    wpAny (model X.prog X.w) (X.A.mark (some (.ref a))) (eval (.Name x np) X.env) Q E s := by
  obtain ⟨oe, hz, hd, S⟩ := h.suite
  obtain ⟨hg, hdbg, hm | ⟨hm, hv, hnn⟩⟩ := hc
  · exact ld_glob (X := X.suite a ((a, oe) :: (X.pn ++ pins))) S hg hm q hdbg
  · exact ld_blt (X := X.suite a ((a, oe) :: (X.pn ++ pins))) S hg hm hv q hnn hdbg
/-- the exception on its way, landed in this frame -/
structure Flown (X : Cx) (pins : List (Addr × Obj)) (σ : L2.St) (H : Hp) (a : Addr) (cls : Value) (d : Option Addr) (B : Heap) (sI s : Shared) : Prop where
  inv : Inv X pins σ H sI
  nb : ∀ b o, sI.heap.get? b = some o → b ∉ frs X.stack → B.get? b = some o
  up : sI.heap.UpToSlots s.heap
  fl : HandSPX.FlyingZ B (X.env :: X.outer) a (Zc cls d) s.heap
  na : H a = none
  os : s.os = sI.os
  ag : AllBare s.gens
section
variable {σ : L2.St} {H : Hp} {a : Addr} {cls : Value} {d : Option Addr} {B : Heap} {sI s : Shared}
theorem Flown.hand (hf : X.env.frame = some X.env.locals) (f : Flown X pins σ H a cls d B sI s) : Hand X pins σ H a cls d s := by
  obtain ⟨oe, vs, he, hz, hd⟩ := f.fl.there
  have out : a ∉ frs (X.env :: X.outer) := fun hm => by
    obtain ⟨_, o', e', hnf⟩ := f.fl.2.2.1.mem hm
    rw [he] at e'
    cases e'
    exact hnf _ hd
  refine ⟨⟨oe, vs, he, hz, hd⟩, f.inv.landed f.nb f.fl.1 f.up f.os f.ag, f.na, fun z => out (List.mem_filterMap.mpr ⟨X.env, List.mem_cons_self, by rw [hf, z]⟩), fun hm => ?_⟩
  obtain ⟨e, he, q⟩ := List.mem_filterMap.mp hm
  exact out (List.mem_filterMap.mpr ⟨e, List.mem_cons_of_mem _ he, q⟩)
end
end
end Mine

namespace PySem.W
open PySem PySem.Spec PySem.Calls PyProof.Rows
section
variable {prog : Program} {w : World} {A : Around} {E : Value → Shared → Prop} {s : Shared} {K : Frag} {x D : Addr} {ox : Obj} {od : Option Obj}
end
end PySem.W
namespace Mine
open PySem PySem.Spec PyProof.Rows L2
end Mine

namespace L2
open PySem PySem.Spec PyProof.Rows
/-- t * 1 is t itself -/
theorem mine_mul_one (l : Addr) (items : Array Value) (n : Nat) (dd : Option Addr) (sl : Array (Option Value)) (u : Tok) :
    Meets (Builtin.«tuple.__mul__» ⟨[.ref l, .int 1 u], []⟩) (fun _ R s => s.heap.get? l = some { cls := .type "tuple", dict := dd, data := .seq items n, slots := sl } ∧ R (.ok (.ret (Value.ref l))) s) :=
  .of_wp fun prog w A R s h => by
    obtain ⟨hp, g, d, tk, os⟩ := s
    obtain ⟨hl, h⟩ := h
    have f1 := AutoSeq1.idx_int
    wp_walk using wpAny_loadPart' hl
    exact ⟨_, rfl, h⟩
end L2
namespace Mine
open PySem PySem.Spec PyProof.Rows L2
section
variable {X : Cx}
/-- t * k, k from 1 on -/
def rRepA : R2 := fun x y H Q => ∃ l k xs, x = .ref l ∧ y = .int k ∧ H l = some (.tup xs) ∧ xs ≠ [] ∧ 1 ≤ k ∧ k ≤ 1000 ∧ xs.length ≤ 1000 ∧ ∀ p H', Same H H' → H' p = some (.tup (List.replicate k.toNat xs).flatten) → Q (.ref p) H'
/-- sum of a list or a tuple of whole numbers -/
def rSumA (K : PySem.W.Frag) : List V → Hp → VK → Prop := fun vs H Q => ∃ (a : Addr) (ns : List Int), vs = [V.ref a] ∧ (SqL K H a (ns.map V.int) ∨ SqT K H a (ns.map V.int)) ∧ Q (.int ns.sum) H
theorem cr_sumA (hc : X.calm = true) : CallR X (.builtin "sum") (rSumA X.K) := by
  intro pins s σ H vs us Q I r ⟨a, ns, e, h, q⟩
  rcases h with h | h
  · exact cr_sum hc pins s σ H vs us Q I r ⟨a, ns, e, h, q⟩
  · exact cr_sumT hc pins s σ H vs us Q I r ⟨a, ns, e, h, q⟩
end
/-! ### zip of a tuple and a list -/
def ItzM (K : PySem.W.Frag) (a b : Addr) : It :=
  ⟨fun i H => ∃ (xs ys : List V) (x y : V), SqT K H a xs ∧ SqL K H b ys ∧ xs[i]? = some x ∧ ys[i]? = some y,
    fun i H v H' => ∃ T x y, v = .ref T ∧ H T = none ∧ H' = upd H T (.tup [x, y]) ∧ (∀ xs, SqT K H a xs → xs[i]? = some x) ∧ ∀ ys, SqL K H b ys → ys[i]? = some y,
    fun i H => ∃ xs ys : List V, SqT K H a xs ∧ SqL K H b ys ∧ (xs.length = i ∨ ys.length = i) ∧ i ≤ xs.length ∧ i ≤ ys.length⟩
/-- the cells of such a walk at turn i -/
def ZipSt (z TI TO i1 i2 a b : Addr) (i : Nat) (h : Heap) : Prop := IsZip h z TI TO .none ∧ IsTupOf2 h TI (.ref i1) (.ref i2) ∧ (∃ x y, IsTupOf2 h TO x y) ∧ h.IsTupleIter i1 a i ∧ h.IsListIter i2 b i
theorem turn_zipM {P : Program} {w : World} {K : PySem.W.Frag} {elts : List Expr} {kk : Nat} {tpos : Pos} {a b z TI TO i1 i2 : Addr} (S : ZipSep2 z TI TO i1 i2 [i1, a] [i2, b]) (ha : a ≠ i1) (hb : b ≠ i2) :
    Turn P w K (.Tuple elts kk tpos) (ItzM K a b) [z, TI, TO, i1, i2] z (ZipSt z TI TO i1 i2 a b) where
  mem := by simp
  obj := fun i h st c hc => by
    obtain ⟨hz, hTI, ⟨x, y, hTO⟩, ⟨o1, e1, _, d1⟩, ⟨o2, e2, _, d2⟩⟩ := st
    have e' : c = z ∨ c = TI ∨ c = TO ∨ c = i1 ∨ c = i2 := by simpa using hc
    rcases e' with rfl | rfl | rfl | rfl | rfl
    · exact ⟨_, hz, fun v q => nomatch q⟩
    · exact ⟨_, hTI, fun v q => nomatch q⟩
    · exact ⟨_, hTO, fun v q => nomatch q⟩
    · exact ⟨o1, e1, fun v q => by rw [d1] at q; cases q⟩
    · exact ⟨o2, e2, fun v q => by rw [d2] at q; cases q⟩
  keep := fun i h h' st k => by
    obtain ⟨hz, hTI, ⟨x, y, hTO⟩, h1, h2⟩ := st
    exact ⟨k z (by simp) _ hz, k TI (by simp) _ hTI, ⟨x, y, k TO (by simp) _ hTO⟩, h1.at fun o q => k i1 (by simp) o q, h2.at fun o q => k i2 (by simp) o q⟩
  item := by
    intro X hP hw hK hc i pins s σ H E I hf st hg
    subst hP hw hK
    obtain ⟨hz, hTI, ⟨x0, y0, hTO⟩, h1, h2⟩ := st
    obtain ⟨xs, ys, x, y, hqx, hqy, hx, hy⟩ := hg
    obtain ⟨its, rv, p1, _⟩ := I.tuple hqx
    obtain ⟨its2, rv2, p2, _⟩ := I.list hqy
    obtain ⟨u, hu, ru⟩ := rv.get hx
    obtain ⟨u2, hu2, ru2⟩ := rv2.get hy
    have below : z < s.heap.objs.size ∧ TI < s.heap.objs.size ∧ TO < s.heap.objs.size ∧ i1 < s.heap.objs.size ∧ i2 < s.heap.objs.size :=
      ⟨Heap.lt_size hz, Heap.lt_size hTI, Heap.lt_size hTO, by obtain ⟨_, e, _⟩ := h1; exact Heap.lt_size e, by obtain ⟨_, e, _⟩ := h2; exact Heap.lt_size e⟩
    have l1 : i < its.toArray.size := by obtain ⟨q, _⟩ := List.getElem?_eq_some_iff.mp hu; simpa using q
    have l2 : i < its2.toArray.size := by obtain ⟨q, _⟩ := List.getElem?_eq_some_iff.mp hu2; simpa using q
    refine wpAny_pyNext_zipD2_item (i := i) S (Draws.tuple (A := X.A.in1) (I.ok.hd hc) i1 a ha its.toArray) (Draws.list (A := X.A.in1) (I.ok.hd hc) i2 b hb its2.toArray) hz hTI hTO ⟨h1, p1⟩ ⟨h2, p2.isList⟩ l1 l2 fun x1 x2 h' tk e1 e2 z' TO' s1' s2' hT hsz hk => ?_
    obtain rfl : x1 = u := Option.some.inj (e1.symm.trans (by simpa using hu))
    obtain rfl : x2 = u2 := Option.some.inj (e2.symm.trans (by simpa using hu2))
    refine ⟨_, rfl, wpAny_letOwnedTupleGo_zip (s := { s with heap := h', toks := tk }) z' fun h'' z'' sb => ?_⟩
    have hT2 : h''.get? s.heap.objs.size = some { cls := .type "tuple", data := .seq #[x1, x2] } := (sb.2 _ (Nat.ne_of_gt below.1)).trans hT
    have I1 : Inv X pins σ (upd H s.heap.objs.size (.tup [x, y])) { s with heap := h'', toks := tk } :=
      I.turnedNew (ch := [z, TI, TO, i1, i2]) (fun c o hb q => (sb.2 c (fun q' => hb (by simp [q']))).trans (hk c o (fun q' => hb (by simp [q'])) (fun q' => hb (by simp [q'])) (fun q' => hb (by simp [q'])) (fun q' => hb (by simp [q'])) q)) hf (Nat.le_refl _)
        ⟨by show 2 ≤ sizeLine; decide, [x1, x2], .cons ru (.cons ru2 .nil), ⟨_, hT2, rfl, _, rfl⟩⟩
    have TI' : IsTupOf2 h' TI (.ref i1) (.ref i2) := hk _ _ S.TIz S.TITO S.TIi1 S.TIi2 hTI
    refine ⟨.ref s.heap.objs.size, _, I1, rfl, ⟨_, x, y, rfl, I.hok.fresh (Nat.le_refl _), rfl, fun l hl => by rw [I.tuple_inj hl hqx]; exact hx, fun l hl => by rw [I.list_inj hl hqy]; exact hy⟩, ⟨z'', (sb.2 _ S.TIz).trans TI', ⟨x1, x2, (sb.2 _ S.TOz).trans TO'⟩, s1'.1.at fun o q => (sb.2 _ (Ne.symm S.zi1)).trans q, s2'.1.at fun o q => (sb.2 _ (Ne.symm S.zi2)).trans q⟩, fun c hcm => ?_⟩
    have lt : c < s.heap.objs.size := by
      have e' : c = z ∨ c = TI ∨ c = TO ∨ c = i1 ∨ c = i2 := by simpa using hcm
      rcases e' with rfl | rfl | rfl | rfl | rfl
      · exact below.1
      · exact below.2.1
      · exact below.2.2.1
      · exact below.2.2.2.1
      · exact below.2.2.2.2
    rw [upd_ne (Nat.ne_of_lt lt)]
    exact (hf c hcm).1
  done := by
    intro X hP hw hK hc i pins s σ H E I hf st hg
    subst hP hw hK
    obtain ⟨hz, hTI, ⟨x0, y0, hTO⟩, h1, h2⟩ := st
    obtain ⟨xs, ys, hqx, hqy, hend, le1, le2⟩ := hg
    obtain ⟨its, rv, p1, _⟩ := I.tuple hqx
    obtain ⟨its2, rv2, p2, _⟩ := I.list hqy
    have l1 := rv.length
    have l2 := rv2.length
    exact wpAny_pyNext_zipD2_end (i := i) S (Draws.tuple (A := X.A.in1) (I.ok.hd hc) i1 a ha its.toArray) (Draws.list (A := X.A.in1) (I.ok.hd hc) i2 b hb its2.toArray) hz hTI hTO ⟨h1, p1⟩ ⟨h2, p2.isList⟩
      (by rw [List.size_toArray]; omega) (by rw [List.size_toArray]; omega) (by rw [List.size_toArray, List.size_toArray]; omega) fun h' tk hk => ⟨rfl, I.turnedL (t' := tk) (ch := [z, TI, TO, i1, i2]) (fun c o hb q =>
        hk c o (fun q' => hb (by simp [q'])) (fun q' => hb (by simp [q'])) (fun q' => hb (by simp [q'])) (fun q' => hb (by simp [q'])) q) hf⟩
  self := fun A i s Q E st h => wpAny_pyIter_zip st.1 h
/-- zip(a, b), a a tuple, b a list or a tuple -/
def iZipS (K : PySem.W.Frag) (ta : TA) : TI := fun σ H R => ta σ H fun vs H1 => ∃ a b xs ys, vs = [.ref a, .ref b] ∧ SqT K H1 a xs ∧ ((SqL K H1 b ys ∧ R (ItzM K a b) H1) ∨ (SqT K H1 b ys ∧ R (RZ.ItzT K a b) H1))
theorem walk_zipM {K : PySem.W.Frag} {a b : Addr} {xs ys : List V} (hl : xs.length = ys.length) : Walk (ItzM K a b) xs.length (fun H => SqT K H a xs ∧ SqL K H b ys) (YPair (fun i => xs[i]?) (fun i => ys[i]?)) := by
  refine ⟨fun i _ hi q => ?_, fun _ q => ⟨xs, ys, q.1, q.2, .inl rfl, Nat.le_refl _, by omega⟩, fun i H v H' _ q y => ?_⟩
  · exact ⟨xs, ys, xs[i], ys[i], q.1, q.2, by simp [hi], by simp [hl ▸ hi]⟩
  · obtain ⟨T, x, z, h1, h2, h3, h4, h5⟩ := y
    exact ⟨T, x, z, h1, h2, h3, h4 xs q.1, h5 ys q.2⟩
theorem walk_zipTT {K : PySem.W.Frag} {a b : Addr} {xs ys : List V} (hl : xs.length = ys.length) : Walk (RZ.ItzT K a b) xs.length (fun H => SqT K H a xs ∧ SqT K H b ys) (YPair (fun i => xs[i]?) (fun i => ys[i]?)) := by
  refine ⟨fun i _ hi q => ?_, fun _ q => ⟨xs, ys, q.1, q.2, .inl (Nat.le_refl _)⟩, fun i H v H' _ q y => ?_⟩
  · exact ⟨xs, ys, xs[i], ys[i], q.1, q.2, by simp [hi], by simp [hl ▸ hi]⟩
  · obtain ⟨T, x, z, h1, h2, h3, h4, h5⟩ := y
    exact ⟨T, x, z, h1, h2, h3, h4 xs q.1, h5 ys q.2⟩
theorem pg_tupK {X : Cx} {es : List Expr} {k : Nat} {t : TGs} {n : Nat} {K : PySem.W.Frag} {pos : Pos} (eK : X.K = K) (hc : X.calm = true) (h : PGs X es t)
    (hn : (assignEach es X.env).length = n := by rfl) (hst : (assignEach es X.env).findIdx? (·.1) = none := by rfl) : PG X (.Tuple es k pos) (gTup K n t) := eK ▸ pg_tup hc h hn hst
/-! ### x[i], x[lo:hi], list(x) of a list or a tuple -/
section
variable {X : Cx}
def rIxA : R2 := fun x y H Q => ∃ p i xs v, x = .ref p ∧ y = .int i ∧ (H p = some (.lst xs) ∨ H p = some (.tup xs)) ∧ atI xs i = some v ∧ Q v H
end
theorem map_set {w : List Int} {i : Nat} {z : Int} : (w.map V.int).set i (V.int z) = (w.set i z).map V.int := List.map_set.symm
end Mine

namespace Mine
open PySem PySem.Spec PyProof.Rows L2
/-! ### data, without the heap -/
inductive Dt where
  | non | bl (b : Bool) | int (i : Int) | str (x : Str)
  | tup (xs : List Dt) | lst (xs : List Dt)
  | dk (ks : List Key) (vs : List Dt)
  | dt (ks : List (List Key)) (vs : List Dt)
  | ins (C : Str) (ns : List Str) (vs : List Dt)
  | raw (v : V)
mutual
/-- in the heap H the value v is this data -/
inductive Den (K : PySem.W.Frag) (H : Hp) : V → Dt → Prop
  | non : Den K H .non .non
  | bl (b : Bool) : Den K H (.bl b) (.bl b)
  | int (i : Int) : Den K H (.int i) (.int i)
  | str (x : Str) : Den K H (.str x) (.str x)
  | tup {a : Addr} {xs : List V} {ds : List Dt} : H a = some (.tup xs) → DenAll K H xs ds → Den K H (.ref a) (.tup ds)
  | lst {a : Addr} {xs : List V} {ds : List Dt} : H a = some (.lst xs) → DenAll K H xs ds → Den K H (.ref a) (.lst ds)
  | dk {a : Addr} {ks : List Key} {vs : List V} {ds : List Dt} : H a = some (.dK (ks.zip vs)) → ks.length = vs.length → DenAll K H vs ds → Den K H (.ref a) (.dk ks ds)
  | dt {a : Addr} {ks : List (List Key)} {vs : List V} {ds : List Dt} : H a = some (.dT (ks.zip vs)) → ks.length = vs.length → DenAll K H vs ds → Den K H (.ref a) (.dt ks ds)
  | ins {a dx : Addr} {C : Str} {ns : List Str} {vs : List V} {ds : List Dt} : H a = some (.ins (He.ga K C) dx (ns.zip vs)) → ns.length = vs.length → DenAll K H vs ds → Den K H (.ref a) (.ins C ns ds)
  | raw (v : V) : Den K H v (.raw v)
inductive DenAll (K : PySem.W.Frag) (H : Hp) : List V → List Dt → Prop
  | nil : DenAll K H [] []
  | cons {v : V} {vs : List V} {d : Dt} {ds : List Dt} : Den K H v d → DenAll K H vs ds → DenAll K H (v :: vs) (d :: ds)
end
section
variable {K : PySem.W.Frag} {H H' : Hp}
mutual
theorem Den.mono (s : Same H H') : ∀ {v : V} {d : Dt}, Den K H v d → Den K H' v d
  | _, _, .non => .non
  | _, _, .bl b => .bl b
  | _, _, .int i => .int i
  | _, _, .str x => .str x
  | _, _, .tup h a => .tup (s _ _ h) (DenAll.mono s a)
  | _, _, .lst h a => .lst (s _ _ h) (DenAll.mono s a)
  | _, _, .dk h l a => .dk (s _ _ h) l (DenAll.mono s a)
  | _, _, .dt h l a => .dt (s _ _ h) l (DenAll.mono s a)
  | _, _, .ins h l a => .ins (s _ _ h) l (DenAll.mono s a)
  | _, _, .raw v => .raw v
theorem DenAll.mono (s : Same H H') : ∀ {vs : List V} {ds : List Dt}, DenAll K H vs ds → DenAll K H' vs ds
  | _, _, .nil => .nil
  | _, _, .cons a b => .cons (Den.mono s a) (DenAll.mono s b)
end
theorem DenAll.length : ∀ {vs : List V} {ds : List Dt}, DenAll K H vs ds → vs.length = ds.length
  | _, _, .nil => rfl
  | _, _, .cons _ b => by rw [List.length_cons, List.length_cons, b.length]
theorem DenAll.append : ∀ {vs us : List V} {ds es : List Dt}, DenAll K H vs ds → DenAll K H us es → DenAll K H (vs ++ us) (ds ++ es)
  | _, _, _, _, .nil, b => b
  | _, _, _, _, .cons a r, b => .cons a (r.append b)
theorem DenAll.snoc {vs : List V} {ds : List Dt} {v : V} {d : Dt} (a : DenAll K H vs ds) (b : Den K H v d) : DenAll K H (vs ++ [v]) (ds ++ [d]) := a.append (.cons b .nil)
theorem DenAll.get : ∀ {vs : List V} {ds : List Dt} {i : Nat} {d : Dt}, DenAll K H vs ds → ds[i]? = some d → ∃ v, vs[i]? = some v ∧ Den K H v d
  | _, _, _, _, .nil, e => by simp at e
  | _, _, 0, _, .cons a _, e => by
    simp at e; subst e
    exact ⟨_, rfl, a⟩
  | _, _, i + 1, d, .cons _ r, e => by
    obtain ⟨v, h1, h2⟩ := DenAll.get (i := i) (d := d) r (by simpa using e)
    exact ⟨v, by simpa using h1, h2⟩
theorem DenAll.getV : ∀ {vs : List V} {ds : List Dt} {i : Nat} {v : V}, DenAll K H vs ds → vs[i]? = some v → ∃ d, ds[i]? = some d ∧ Den K H v d
  | _, _, _, _, .nil, e => by simp at e
  | _, _, 0, _, .cons a _, e => by
    simp at e; subst e
    exact ⟨_, rfl, a⟩
  | _, _, i + 1, d, .cons _ r, e => by
    obtain ⟨v, h1, h2⟩ := DenAll.getV (i := i) (v := d) r (by simpa using e)
    exact ⟨v, by simpa using h1, h2⟩
theorem DenAll.set : ∀ {vs : List V} {ds : List Dt} {v : V} {d : Dt} (i : Nat), DenAll K H vs ds → Den K H v d → DenAll K H (vs.set i v) (ds.set i d)
  | _, _, _, _, _, .nil, _ => .nil
  | _, _, _, _, 0, .cons _ r, b => .cons b r
  | _, _, _, _, i + 1, .cons a r, b => .cons a (DenAll.set i r b)
theorem DenAll.take : ∀ {vs : List V} {ds : List Dt} (n : Nat), DenAll K H vs ds → DenAll K H (vs.take n) (ds.take n)
  | _, _, 0, _ => by simp; exact .nil
  | _, _, _ + 1, .nil => .nil
  | _, _, n + 1, .cons a r => .cons a (DenAll.take n r)
theorem DenAll.drop : ∀ {vs : List V} {ds : List Dt} (n : Nat), DenAll K H vs ds → DenAll K H (vs.drop n) (ds.drop n)
  | _, _, 0, r => r
  | _, _, _ + 1, .nil => .nil
  | _, _, n + 1, .cons _ r => DenAll.drop n r
theorem DenAll.dropLast : ∀ {vs : List V} {ds : List Dt}, DenAll K H vs ds → DenAll K H vs.dropLast ds.dropLast := by
  intro vs ds h
  rw [List.dropLast_eq_take, List.dropLast_eq_take, h.length]
  exact h.take _
theorem DenAll.reverse : ∀ {vs : List V} {ds : List Dt}, DenAll K H vs ds → DenAll K H vs.reverse ds.reverse
  | _, _, .nil => .nil
  | _, _, .cons a r => by
    rw [List.reverse_cons, List.reverse_cons]
    exact r.reverse.snoc a
theorem DenAll.replicate {vs : List V} {ds : List Dt} (h : DenAll K H vs ds) : ∀ n : Nat, DenAll K H (List.replicate n vs).flatten (List.replicate n ds).flatten
  | 0 => .nil
  | n + 1 => by
    rw [List.replicate_succ, List.replicate_succ, List.flatten_cons, List.flatten_cons]
    exact h.append (DenAll.replicate h n)
theorem DenAll.ints : ∀ w : List Int, DenAll K H (w.map V.int) (w.map Dt.int)
  | [] => .nil
  | x :: w => .cons (.int x) (DenAll.ints w)
end
/-- things whose value says all -/
def Dt.flat : Dt → Option V
  | .non => some .non
  | .bl b => some (.bl b)
  | .int i => some (.int i)
  | .str x => some (.str x)
  | .raw v => some v
  | _ => none
theorem Den.flat {K : PySem.W.Frag} {H : Hp} {v u : V} {d : Dt} (h : Den K H v d) (e : d.flat = some u) : v = u := by
  cases h <;> first
    | (injection e with e; try exact e)
    | cases e
theorem Den.of_flat {K : PySem.W.Frag} {H : Hp} {u : V} {d : Dt} (e : d.flat = some u) : Den K H u d := by
  cases d <;> first
    | (injection e with e; subst e; first | exact .non | exact .bl _ | exact .int _ | exact .str _ | exact .raw _)
    | cases e
/-! ### hidden things -/
open Classical in
/-- the heap without what X hides -/
noncomputable def vis (H : Hp) (X : Addr → Prop) : Hp := fun a => if X a then none else H a
theorem vis_of {H : Hp} {X : Addr → Prop} {a : Addr} {o : HO} (h : vis H X a = some o) : ¬ X a ∧ H a = some o := by
  unfold vis at h
  split at h
  · cases h
  · exact ⟨by assumption, h⟩
theorem vis_mk {H : Hp} {X : Addr → Prop} {a : Addr} {o : HO} (n : ¬ X a) (h : H a = some o) : vis H X a = some o := by
  unfold vis
  rw [if_neg n]; exact h
theorem vis_sub {H : Hp} {X : Addr → Prop} : Same (vis H X) H := fun _ _ h => (vis_of h).2
theorem vis_anti {H : Hp} {X Y : Addr → Prop} (h : ∀ a, X a → Y a) : Same (vis H Y) (vis H X) := fun _ _ e => vis_mk (fun x => (vis_of e).1 (h _ x)) (vis_of e).2
/-- the hand at h, its cells at c -/
def HandC (H : Hp) (h c : Addr) : Prop := ∃ (cells : List Int) (at_ : Nat) (big mix : Int), H h = some (.lst [.ref c, .int at_, .int big, .int mix]) ∧ H c = some (.lst (cells.map V.int)) ∧
  (∀ z ∈ cells, 0 ≤ z) ∧ at_ ≤ cells.length ∧ cells.length ≤ 63 ∧ 0 ≤ big ∧ 0 ≤ mix ∧ mix < 2147483563
abbrev Hnd := Option (Addr × Addr)
/-- all stands but the hand, which is a hand still -/
def Frm (hd : Hnd) (H H' : Hp) : Prop := (∀ a o, H a = some o → (∀ h c, hd = some (h, c) → a ≠ h) → H' a = some o) ∧ ∀ h c, hd = some (h, c) → HandC H h c → HandC H' h c
theorem HandC.same {H H' : Hp} {h c : Addr} (x : HandC H h c) (s : Same H H') : HandC H' h c := by
  obtain ⟨cells, at_, big, mix, a, b, r⟩ := x
  exact ⟨cells, at_, big, mix, s _ _ a, s _ _ b, r⟩
theorem Frm.refl {hd : Hnd} (H : Hp) : Frm hd H H := ⟨fun _ _ e _ => e, fun _ _ _ x => x⟩
theorem Frm.trans {hd : Hnd} {H H1 H2 : Hp} (a : Frm hd H H1) (b : Frm hd H1 H2) : Frm hd H H2 := ⟨fun p o e n => b.1 p o (a.1 p o e n) n, fun h c e x => b.2 h c e (a.2 h c e x)⟩
theorem Frm.same {hd : Hnd} {H H' : Hp} (s : Same H H') : Frm hd H H' := ⟨fun _ _ e _ => s _ _ e, fun _ _ _ x => x.same s⟩
theorem Frm.out {H H' : Hp} (f : Frm Option.none H H') : Same H H' := fun a o e => f.1 a o e fun _ _ z => by cases z
theorem Frm.upd {hd : Hnd} {H : Hp} {p : Addr} {o : HO} (h : H p = Option.none) : Frm hd H (upd H p o) := .same (same_upd h)
/-! ### where one stands -/
/-- fixed through a body: the facts' part, the heap and what is hidden at its entry, the hand, the exception in hand, what is wished of an exception -/
structure Bc where
  K : PySem.W.Frag
  H0 : Hp
  X0 : Addr → Prop
  hd : Hnd
  ex : Option (Addr × Value × Option Addr)
  E : L2.St → XK
  /-- self while it is made -/
  me : Option Addr
/-- a list, a dict of one's own -/
inductive Ow where
  | lst (xs : List Dt) | dk (ks : List Key) (vs : List Dt) | dt (ks : List (List Key)) (vs : List Dt)
def Ow.fz : Ow → Dt
  | .lst xs => .lst xs
  | .dk ks vs => .dk ks vs
  | .dt ks vs => .dt ks vs
inductive DenO (K : PySem.W.Frag) (H : Hp) : HO → Ow → Prop
  | lst {vs : List V} {xs : List Dt} : DenAll K H vs xs → DenO K H (.lst vs) (.lst xs)
  | dk {ks : List Key} {vs : List V} {xs : List Dt} : ks.length = vs.length → DenAll K H vs xs → DenO K H (.dK (ks.zip vs)) (.dk ks xs)
  | dt {ks : List (List Key)} {vs : List V} {xs : List Dt} : ks.length = vs.length → DenAll K H vs xs → DenO K H (.dT (ks.zip vs)) (.dt ks xs)
theorem DenO.mono {K : PySem.W.Frag} {H H' : Hp} (s : Same H H') {u : HO} {o : Ow} (h : DenO K H u o) : DenO K H' u o := by
  cases h with
  | lst a => exact .lst (a.mono s)
  | dk l a => exact .dk l (a.mono s)
  | dt l a => exact .dt l (a.mono s)
theorem DenO.fz {K : PySem.W.Frag} {H : Hp} {u : HO} {o : Ow} {p : Addr} (h : DenO K H u o) (e : H p = some u) : Den K H (.ref p) o.fz := by
  cases h with
  | lst a => exact .lst e a
  | dk l a => exact .dk e l a
  | dt l a => exact .dt e l a
theorem DenO.noins {K : PySem.W.Frag} {H : Hp} {C dx : Addr} {fs : List (Str × V)} {o : Ow} (h : DenO K H (.ins C dx fs) o) : False := by cases h
/-- what a slot holds: nothing that is known, data, a list of one's own, the hand, an exception in hand -/
inductive Sl where
  | no | d (x : Dt) | own (o : Ow) | hand | exc (c : Str) (fs : List (Str × V))
  /-- an instance of one's own: self while it is made -/
  | ins (C : Str) (ns : List Str) (ds : List Dt)
  /-- a list of one's own at p of lists of one's own at qs -/
  | tab (p : Addr) (qs : List Addr) (rows : List (List Dt))
def IsIns (env : List Sl) (i : Nat) : Prop := ∃ C ns ds, env[i]? = some (.ins C ns ds)
/-- only the first slot holds an instance of one's own -/
def One (env : List Sl) : Prop := ∀ i, IsIns env i → i = 0
theorem One.set {env : List Sl} (h : One env) {j : Nat} {s : Sl} (hs : ∀ C ns ds, s ≠ .ins C ns ds) : One (env.set j s) := fun i ⟨C, ns, ds, e⟩ => by
  rw [List.getElem?_set] at e
  split at e
  · split at e
    · injection e with e; exact absurd e (hs C ns ds)
    · cases e
  · exact h i ⟨C, ns, ds, e⟩
theorem One.set0 {env : List Sl} (h : One env) {s : Sl} : One (env.set 0 s) := fun i ⟨C, ns, ds, e⟩ => by
  rw [List.getElem?_set] at e
  split at e
  · rename_i c; exact c.symm
  · exact h i ⟨C, ns, ds, e⟩
theorem One.map {env : List Sl} (h : One env) {f : Sl → Sl} (hf : ∀ s C ns ds, f s = .ins C ns ds → s = .ins C ns ds) : One (env.map f) := fun i ⟨C, ns, ds, e⟩ => by
  rw [List.getElem?_map, Option.map_eq_some_iff] at e
  obtain ⟨s, e1, e2⟩ := e
  exact h i ⟨C, ns, ds, by rw [e1, hf _ _ _ _ e2]⟩
/-- lists of one's own at qs -/
def RowsAt (K : PySem.W.Frag) (V H : Hp) (qs : List Addr) (rows : List (List Dt)) : Prop :=
  qs.length = rows.length ∧ ∀ (j : Nat) (q : Addr) (ds : List Dt), qs[j]? = some q → rows[j]? = some ds → ∃ us, H q = some (.lst us) ∧ DenAll K V us ds
/-- the things of one's own that a slot holds -/
def Foot : Sl → Option V → Addr → Prop
  | .own _, o, a => o = some (.ref a)
  | .tab p qs _, _, a => a ∈ p :: qs
  | _, _, _ => False
/-- no thing of one's own is held by two slots -/
def Apt (env : List Sl) (σ : L2.St) : Prop := ∀ (i j : Nat) (s t : Sl) (o u : Option V) (a : Addr), i ≠ j → env[i]? = some s → env[j]? = some t → σ[i]? = some o → σ[j]? = some u → Foot s o a → ¬ Foot t u a
theorem Apt.setF {env : List Sl} {σ : L2.St} {j : Nat} {s : Sl} {o : Option V} (h : Apt env σ) (n : ∀ (i : Nat) (t : Sl) (u : Option V) (a : Addr), i ≠ j → env[i]? = some t → σ[i]? = some u → Foot s o a → ¬ Foot t u a) : Apt (env.set j s) (σ.set j o) := by
  intro i k s1 t1 o1 u1 a ne e1 e2 e3 e4 f1 f2
  rw [List.getElem?_set] at e1 e2 e3 e4
  by_cases c : j = i
  · subst c
    rw [if_neg ne] at e2 e4
    rw [if_pos rfl] at e1 e3
    split at e1
    · split at e3
      · cases e1; cases e3
        exact n k t1 u1 a (Ne.symm ne) e2 e4 f1 f2
      · cases e3
    · cases e1
  · rw [if_neg c] at e1 e3
    by_cases c2 : j = k
    · subst c2
      rw [if_pos rfl] at e2 e4
      split at e2
      · split at e4
        · cases e2; cases e4
          exact n i s1 o1 a ne e1 e3 f2 f1
        · cases e4
      · cases e2
    · rw [if_neg c2] at e2 e4
      exact h i k s1 t1 o1 u1 a ne e1 e2 e3 e4 f1 f2
theorem Apt.set {env : List Sl} {σ : L2.St} {j : Nat} {s : Sl} {o : Option V} (h : Apt env σ) (n : ∀ a, ¬ Foot s o a) : Apt (env.set j s) (σ.set j o) := h.setF fun _ _ _ a _ _ _ f => absurd f (n a)
theorem Apt.setS {env : List Sl} {σ : L2.St} {j : Nat} {s : Sl} (h : Apt env σ) (n : ∀ (o : Option V) (a : Addr), σ[j]? = some o → Foot s o a → ∃ t, env[j]? = some t ∧ Foot t o a) : Apt (env.set j s) σ := by
  intro i k s1 t1 o1 u1 a ne e1 e2 e3 e4 f1 f2
  have g : ∀ (m : Nat) (s2 : Sl) (o2 : Option V), (env.set j s)[m]? = some s2 → σ[m]? = some o2 → Foot s2 o2 a → ∃ s3, env[m]? = some s3 ∧ Foot s3 o2 a := fun m s2 o2 e q f => by
    rw [List.getElem?_set] at e
    by_cases c : j = m
    · subst c
      rw [if_pos rfl] at e
      split at e
      · cases e; exact n o2 a q f
      · cases e
    · rw [if_neg c] at e
      exact ⟨s2, e, f⟩
  obtain ⟨s3, a1, b1⟩ := g i s1 o1 e1 e3 f1
  obtain ⟨t3, a2, b2⟩ := g k t1 u1 e2 e4 f2
  exact h i k s3 t3 o1 u1 a ne a1 a2 e3 e4 b1 b2
theorem Apt.map {env : List Sl} {σ : L2.St} (h : Apt env σ) {f : Sl → Sl} (hf : ∀ s o a, Foot (f s) o a → Foot s o a) : Apt (env.map f) σ := by
  intro i k s1 t1 o1 u1 a ne e1 e2 e3 e4 f1 f2
  rw [List.getElem?_map, Option.map_eq_some_iff] at e1 e2
  obtain ⟨s3, a1, rfl⟩ := e1
  obtain ⟨t3, a2, rfl⟩ := e2
  exact h i k s3 t3 o1 u1 a ne a1 a2 e3 e4 (hf _ _ _ f1) (hf _ _ _ f2)
theorem Apt.none {env : List Sl} {σ : L2.St} (h : ∀ (i : Nat) (s : Sl), env[i]? = some s → ∀ o a, ¬ Foot s o a) : Apt env σ := fun i _ s _ o _ a _ e1 _ _ _ f1 => absurd f1 (h i s e1 o a)
def SlRep (C : Bc) (X : Addr → Prop) (H : Hp) : Sl → Option V → Prop
  | .no, _ => True
  | .d x, o => ∃ v, o = some v ∧ Den C.K (vis H X) v x
  | .own w, o => ∃ p u, o = some (.ref p) ∧ X p ∧ ¬ C.X0 p ∧ H p = some u ∧ DenO C.K (vis H X) u w
  | .hand, o => ∃ h c, o = some (.ref h) ∧ C.hd = some (h, c)
  | .tab p qs rows, o => o = some (.ref p) ∧ (∀ a ∈ p :: qs, X a ∧ ¬ C.X0 a) ∧ (p :: qs).Nodup ∧ H p = some (.lst (qs.map V.ref)) ∧ RowsAt C.K (vis H X) H qs rows
  | .ins C0 ns ds, o => ∃ p dx vs, o = some (.ref p) ∧ X p ∧ ¬ C.X0 p ∧ H p = some (.ins (He.ga C.K C0) dx (ns.zip vs)) ∧ (ns.length = vs.length ∧ C.me = some p) ∧ DenAll C.K (vis H X) vs ds
  | .exc c fs, o => match C.ex with
    | none => True
    | some (a, cls, dx) => o = some (.ref a) ∧ cls = .ref (He.ga C.K c) ∧ ((fs = [] ∧ dx = none) ∨ ∃ dd, dx = some dd ∧ vis H X dd = some (.xd fs))
theorem SlRep.exc {C : Bc} {X Y : Addr → Prop} {H H' : Hp} {c : Str} {fs : List (Str × V)} {o : Option V} (h : SlRep C X H (.exc c fs) o) (s : Same (vis H X) (vis H' Y)) : SlRep C Y H' (.exc c fs) o := by
  unfold SlRep at h ⊢
  dsimp only at h ⊢
  split at h
  · trivial
  · exact ⟨h.1, h.2.1, h.2.2.imp id fun ⟨dd, e, q⟩ => ⟨dd, e, s _ _ q⟩⟩
theorem SlRep.tab_to {C : Bc} {X Y : Addr → Prop} {H H' : Hp} {p : Addr} {qs : List Addr} {rows : List (List Dt)} {o : Option V} (h : SlRep C X H (.tab p qs rows) o) (hX : ∀ a ∈ p :: qs, X a → Y a) (hH : ∀ a ∈ p :: qs, ∀ u, H a = some u → H' a = some u) (s : Same (vis H X) (vis H' Y)) : SlRep C Y H' (.tab p qs rows) o := by
  obtain ⟨e, h1, h2, h3, h4, h5⟩ := h
  refine ⟨e, fun a ha => ⟨hX a ha (h1 a ha).1, (h1 a ha).2⟩, h2, hH p List.mem_cons_self _ h3, h4, fun j q ds e1 e2 => ?_⟩
  obtain ⟨us, a, b⟩ := h5 j q ds e1 e2
  exact ⟨us, hH q (List.mem_cons_of_mem _ (List.mem_of_getElem? e1)) _ a, b.mono s⟩
theorem SlRep.tab_lst {C : Bc} {X : Addr → Prop} {H : Hp} {p : Addr} {qs : List Addr} {rows : List (List Dt)} {o : Option V} (h : SlRep C X H (.tab p qs rows) o) : ∀ a ∈ p :: qs, ∃ us, H a = some (.lst us) := by
  obtain ⟨e, h1, h2, h3, h4, h5⟩ := h
  intro a ha
  rcases List.mem_cons.mp ha with rfl | ha
  · exact ⟨_, h3⟩
  · obtain ⟨j, hj, e⟩ := List.getElem_of_mem ha
    obtain ⟨us, g, _⟩ := h5 j a (rows[j]'(by rw [← h4]; exact hj)) (by rw [List.getElem?_eq_getElem hj, e]) (List.getElem?_eq_getElem _)
    exact ⟨us, g⟩
structure Rep (C : Bc) (X : Addr → Prop) (env : List Sl) (σ : L2.St) (H : Hp) : Prop where
  len : env.length = σ.length
  sup : ∀ a, C.X0 a → X a
  new : ∀ a, X a → C.X0 a ∨ C.H0 a = none
  al : ∀ a, X a → ∃ o, H a = some o
  frm : Frm C.hd C.H0 H
  hands : ∀ h c, C.hd = some (h, c) → C.X0 h ∧ HandC C.H0 h c ∧ HandC H h c
  slot : ∀ (i : Nat) (s : Sl), env[i]? = some s → ∃ o, σ[i]? = some o ∧ SlRep C X H s o
  ap : Apt env σ
  one : One env
section
variable {C : Bc} {X : Addr → Prop} {env : List Sl} {σ : L2.St} {H H' : Hp}
theorem vis_frm (hX : ∀ h c, C.hd = some (h, c) → X h) (f : Frm C.hd H H') : Same (vis H X) (vis H' X) := fun a o e => by
  obtain ⟨n, h⟩ := vis_of e
  exact vis_mk n (f.1 a o h fun h c z q => n (q ▸ hX h c z))
theorem Rep.inj (r : Rep C X env σ H) (i j : Nat) (xs ys : Ow) (ne : i ≠ j) (e1 : env[i]? = some (.own xs)) (e2 : env[j]? = some (.own ys)) : σ[i]? ≠ σ[j]? := fun z => by
  obtain ⟨o, q1, p, u, rfl, _⟩ := r.slot i _ e1
  exact r.ap i j _ _ _ _ p ne e1 e2 q1 (z ▸ q1) rfl rfl
/-- what a slot holds of its own is hidden, new and there -/
theorem Rep.foot (r : Rep C X env σ H) {i : Nat} {s : Sl} {o : Option V} {a : Addr} (e1 : env[i]? = some s) (e2 : σ[i]? = some o) (f : Foot s o a) : X a ∧ ¬ C.X0 a ∧ ∃ u, H a = some u := by
  obtain ⟨o', q1, q⟩ := r.slot i s e1
  rw [q1] at e2; cases e2
  cases s with
  | own w =>
    obtain ⟨p, u, rfl, x1, x2, h, _⟩ := q
    have : a = p := by injection f with f; injection f with f; exact f.symm
    subst this
    exact ⟨x1, x2, u, h⟩
  | tab p qs rows =>
    obtain ⟨us, h⟩ := q.tab_lst a f
    exact ⟨(q.2.1 a f).1, (q.2.1 a f).2, _, h⟩
  | no => exact f.elim
  | d x => exact f.elim
  | hand => exact f.elim
  | exc c fs => exact f.elim
  | ins C0 ns ds => exact f.elim
/-- a free address is held by no slot -/
theorem Rep.nofoot (r : Rep C X env σ H) {p : Addr} (n : H p = none) (i : Nat) (s : Sl) (o : Option V) (e1 : env[i]? = some s) (e2 : σ[i]? = some o) : ¬ Foot s o p := fun f => by
  obtain ⟨_, _, u, h⟩ := r.foot e1 e2 f
  rw [n] at h; cases h
theorem Rep.hX (r : Rep C X env σ H) : ∀ h c, C.hd = some (h, c) → X h := fun h c e => r.sup h (r.hands h c e).1
theorem Rep.vs (r : Rep C X env σ H) (f : Frm C.hd H H') : Same (vis H X) (vis H' X) := vis_frm r.hX f
theorem Rep.nh (r : Rep C X env σ H) {p : Addr} (n : ¬ C.X0 p) : ∀ h c, C.hd = some (h, c) → p ≠ h := fun h c e z => n (z ▸ (r.hands h c e).1)
theorem Frm.there (f : Frm C.hd H H') (hh : ∀ h c, C.hd = some (h, c) → HandC H h c) {a : Addr} {o : HO} (e : H a = some o) : ∃ o', H' a = some o' := by
  by_cases z : ∃ h c, C.hd = some (h, c) ∧ a = h
  · obtain ⟨h, c, e1, rfl⟩ := z
    obtain ⟨_, _, _, _, q, _⟩ := f.2 a c e1 (hh a c e1)
    exact ⟨_, q⟩
  · exact ⟨o, f.1 a o e fun h c e1 q => z ⟨h, c, e1, q⟩⟩
theorem Frm.free (f : Frm C.hd H H') (hh : ∀ h c, C.hd = some (h, c) → HandC H h c) {a : Addr} (e : H' a = none) : H a = none := by
  cases q : H a with
  | none => rfl
  | some o =>
    obtain ⟨o', e'⟩ := f.there hh q
    rw [e] at e'; cases e'
/-- nothing but the hand has changed -/
theorem Rep.step (r : Rep C X env σ H) (f : Frm C.hd H H') : Rep C X env σ H' where
  len := r.len
  sup := r.sup
  new := r.new
  al := fun a x => let ⟨_, e⟩ := r.al a x; f.there (fun h c e => (r.hands h c e).2.2) e
  frm := r.frm.trans f
  hands := fun h c e => ⟨(r.hands h c e).1, (r.hands h c e).2.1, f.2 h c e (r.hands h c e).2.2⟩
  slot := fun i s e => by
    obtain ⟨o, e1, q⟩ := r.slot i s e
    refine ⟨o, e1, ?_⟩
    cases s with
    | no => trivial
    | d x => obtain ⟨v, e2, h⟩ := q; exact ⟨v, e2, h.mono (r.vs f)⟩
    | own xs =>
      obtain ⟨p, vs, e2, x1, x2, h1, h2⟩ := q
      exact ⟨p, vs, e2, x1, x2, f.1 p _ h1 (r.nh x2), h2.mono (r.vs f)⟩
    | hand => exact q
    | exc c fs => exact q.exc (r.vs f)
    | ins C0 ns ds =>
      obtain ⟨p, dx, vs, e2, x1, x2, h1, l, h2⟩ := q
      exact ⟨p, dx, vs, e2, x1, x2, f.1 p _ h1 (r.nh x2), l, h2.mono (r.vs f)⟩
    | tab p qs rows => exact q.tab_to (fun _ _ x => x) (fun a ha u h => f.1 a u h (r.nh (q.2.1 a ha).2)) (r.vs f)
  ap := r.ap
  one := r.one
theorem Rep.free (r : Rep C X env σ H) {p : Addr} (e : H p = none) : ¬ X p := fun x => by
  obtain ⟨o, q⟩ := r.al p x
  rw [e] at q; cases q
theorem Rep.h0 (r : Rep C X env σ H) {p : Addr} (e : H p = none) : C.H0 p = none := r.frm.free (fun h c e => (r.hands h c e).2.1) e
end
end Mine

namespace Mine
open PySem PySem.Spec PyProof.Rows L2
/-! ### what is wanted of expressions, by data -/
/-- an exception: its class, its attributes -/
structure Xc where
  cls : Str
  fs : List (Str × V)
abbrev DX := List Sl → (Dt → Prop) → (Xc → Prop) → Prop
abbrev DTX := List Sl → (Bool → Prop) → (Xc → Prop) → Prop
abbrev DAX := List Sl → (List Dt → Prop) → (Xc → Prop) → Prop
abbrev DSX := List Sl → (List Sl → Prop) → (Xc → Prop) → Prop
def XRep (K : PySem.W.Frag) (H : Hp) (cls : Value) (d : Option Addr) (x : Xc) : Prop := cls = .ref (He.ga K x.cls) ∧ match x.fs with
  | [] => d = none
  | f :: r => ∃ a, d = some a ∧ H a = some (.xd (f :: r))
theorem XRep.mono {K : PySem.W.Frag} {H H' : Hp} {cls : Value} {d : Option Addr} {x : Xc} (h : XRep K H cls d x) (s : Same H H') : XRep K H' cls d x := by
  obtain ⟨e, q⟩ := h
  refine ⟨e, ?_⟩
  obtain ⟨c, fs⟩ := x
  cases fs with
  | nil => exact q
  | cons f r => obtain ⟨a, e1, e2⟩ := q; exact ⟨a, e1, s _ _ e2⟩
def XOk (C : Bc) (X : Addr → Prop) (σ : L2.St) (H : Hp) (Qx : Xc → Prop) : Prop := ∀ x cls dx H', Frm C.hd H H' → XRep C.K (vis H' X) cls dx x → Qx x → C.E σ cls dx H'
/-- how a value stands for data: with all that is let; a list of one's own that is read; a new list -/
abbrev RR := Bc → (Addr → Prop) → Hp → Hp → V → Dt → Prop
def Cln : RR := fun C X _ H v d => Den C.K (vis H X) v d
def Bor : RR := fun C X _ H v d => Den C.K (vis H X) v d ∨ ∃ p vs ds, v = .ref p ∧ d = .lst ds ∧ (∀ h c, C.hd = some (h, c) → p ≠ h) ∧ H p = some (.lst vs) ∧ DenAll C.K (vis H X) vs ds
def Fsh : RR := fun C X H0 H v d => ∃ p vs ds, v = .ref p ∧ d = .lst ds ∧ H0 p = none ∧ H p = some (.lst vs) ∧ DenAll C.K (vis H fun a => X a ∨ a = p) vs ds
def DEg (R : RR) (C : Bc) (t : TE) (e : DX) : Prop := ∀ X env σ H (Q : VK) (Qd : Dt → Prop) (Qx : Xc → Prop), Rep C X env σ H → e env Qd Qx → (∀ d v H', Frm C.hd H H' → R C X H H' v d → Qd d → Q v H') → XOk C X σ H Qx → t σ H Q
abbrev DE := DEg Cln
abbrev DB := DEg Bor
abbrev DF := DEg Fsh
section
variable {C : Bc} {X : Addr → Prop} {env : List Sl} {σ : L2.St} {H H1 H' : Hp} {v : V} {d : Dt} {t : TE} {e : DX} {Qx : Xc → Prop}
theorem XOk.step (x : XOk C X σ H Qx) (f : Frm C.hd H H') : XOk C X σ H' Qx := fun y cls dx H2 f2 r q => x y cls dx H2 (f.trans f2) r q
theorem Bor.frm (r : Rep C X env σ H) (f : Frm C.hd H H') (h : Bor C X H1 H v d) : Bor C X H1 H' v d := by
  rcases h with h | ⟨p, vs, ds, e1, e2, n, h1, h2⟩
  · exact .inl (h.mono (r.vs f))
  · exact .inr ⟨p, vs, ds, e1, e2, n, f.1 p _ h1 n, h2.mono (r.vs f)⟩
theorem Cln.bor (h : Cln C X H1 H v d) : Bor C X H1 H v d := .inl h
theorem Fsh.cln (r : Rep C X env σ H1) (h : Fsh C X H1 H v d) : Cln C X H1 H v d := by
  obtain ⟨p, vs, ds, rfl, rfl, n, h1, h2⟩ := h
  exact .lst (vis_mk (r.free n) h1) (h2.mono (vis_anti fun _ => .inl))
theorem Fsh.frm (r : Rep C X env σ H) (f : Frm C.hd H H1) (h : Fsh C X H1 H' v d) : Fsh C X H H' v d := by
  obtain ⟨p, vs, ds, e1, e2, n, h1⟩ := h
  exact ⟨p, vs, ds, e1, e2, f.free (fun h c e => (r.hands h c e).2.2) n, h1⟩
theorem DEg.bor (h : DE C t e) : DB C t e := fun X env σ H Q Qd Qx r he q x => h X env σ H Q Qd Qx r he (fun d v H' f h => q d v H' f (.inl h)) x
theorem DEg.cln (h : DF C t e) : DE C t e := fun X env σ H Q Qd Qx r he q x => h X env σ H Q Qd Qx r he (fun d v H' f h => q d v H' f (h.cln r)) x
theorem Bor.flat {u : V} (h : Bor C X H1 H v d) (e : d.flat = some u) : v = u := by
  rcases h with h | ⟨p, vs, ds, e1, rfl, _⟩
  · exact h.flat e
  · cases e
theorem Bor.int {i : Int} (h : Bor C X H1 H v (.int i)) : v = .int i := h.flat rfl
theorem Bor.bl {i : Bool} (h : Bor C X H1 H v (.bl i)) : v = .bl i := h.flat rfl
theorem Bor.str {i : Str} (h : Bor C X H1 H v (.str i)) : v = .str i := h.flat rfl
theorem Bor.non (h : Bor C X H1 H v .non) : v = .non := h.flat rfl
theorem Bor.raw {u : V} (h : Bor C X H1 H v (.raw u)) : v = u := h.flat rfl
theorem Bor.lst {ds : List Dt} (h : Bor C X H1 H v (.lst ds)) : ∃ p vs, v = .ref p ∧ H p = some (.lst vs) ∧ DenAll C.K (vis H X) vs ds := by
  rcases h with h | ⟨p, vs, ds, e1, e2, n, h1, h2⟩
  · cases h with
    | lst h a => exact ⟨_, _, rfl, vis_sub _ _ h, a⟩
  · cases e2; exact ⟨p, vs, e1, h1, h2⟩
theorem Bor.tup {ds : List Dt} (h : Bor C X H1 H v (.tup ds)) : ∃ p vs, v = .ref p ∧ H p = some (.tup vs) ∧ DenAll C.K (vis H X) vs ds := by
  rcases h with h | ⟨p, vs, ds, e1, e2, n, h1, h2⟩
  · cases h with
    | tup h a => exact ⟨_, _, rfl, vis_sub _ _ h, a⟩
  · cases e2
theorem Bor.dk {ks : List Key} {ds : List Dt} (h : Bor C X H1 H v (.dk ks ds)) : ∃ p vs, v = .ref p ∧ H p = some (.dK (ks.zip vs)) ∧ ks.length = vs.length ∧ DenAll C.K (vis H X) vs ds := by
  rcases h with h | ⟨p, vs, ds, e1, e2, n, h1, h2⟩
  · cases h with
    | dk h l a => exact ⟨_, _, rfl, vis_sub _ _ h, l, a⟩
  · cases e2
theorem Bor.dt {ks : List (List Key)} {ds : List Dt} (h : Bor C X H1 H v (.dt ks ds)) : ∃ p vs, v = .ref p ∧ H p = some (.dT (ks.zip vs)) ∧ ks.length = vs.length ∧ DenAll C.K (vis H X) vs ds := by
  rcases h with h | ⟨p, vs, ds, e1, e2, n, h1, h2⟩
  · cases h with
    | dt h l a => exact ⟨_, _, rfl, vis_sub _ _ h, l, a⟩
  · cases e2
theorem Bor.ins {c : Str} {ns : List Str} {ds : List Dt} (h : Bor C X H1 H v (.ins c ns ds)) : ∃ p dx vs, v = .ref p ∧ H p = some (.ins (He.ga C.K c) dx (ns.zip vs)) ∧ ns.length = vs.length ∧ DenAll C.K (vis H X) vs ds := by
  rcases h with h | ⟨p, vs, ds, e1, e2, n, h1, h2⟩
  · cases h with
    | ins h l a => exact ⟨_, _, _, rfl, vis_sub _ _ h, l, a⟩
  · cases e2
/-- a new thing is laid -/
theorem Rep.laid {p : Addr} {o : HO} (r : Rep C X env σ H) (n : H p = none) : Frm C.hd H (upd H p o) := .upd n
theorem cln_new {p : Addr} {vs : List V} {ds : List Dt} (r : Rep C X env σ H) (n : H p = none) (h : DenAll C.K (vis H X) vs ds) : Cln C X H1 (upd H p (.tup vs)) (.ref p) (.tup ds) :=
  .tup (vis_mk (r.free n) upd_same) (h.mono (r.vs (.upd n)))
theorem fsh_new {p : Addr} {vs : List V} {ds : List Dt} (r : Rep C X env σ H) (n : H p = none) (h : DenAll C.K (vis H X) vs ds) : Fsh C X H (upd H p (.lst vs)) (.ref p) (.lst ds) :=
  ⟨p, vs, ds, rfl, rfl, n, upd_same, h.mono fun a o e => by
    obtain ⟨n1, e1⟩ := vis_of e
    have ne : a ≠ p := ne_of_none e1 n
    exact vis_mk (fun z => z.elim n1 ne) (by rw [upd_ne ne]; exact e1)⟩
end
/-! ### names, constants -/
def eVar (i : Nat) : DX := fun env Q _ => match env[i]? with
  | some (.d x) => Q x
  | _ => False
def eVarB (i : Nat) : DX := fun env Q _ => match env[i]? with
  | some (.d x) => Q x
  | some (.own (.lst xs)) => Q (.lst xs)
  | _ => False
def eC (d : Dt) : DX := fun _ Q _ => Q d
section
variable {C : Bc} {X : Addr → Prop} {env : List Sl} {σ : L2.St} {H : Hp}
theorem Rep.at (r : Rep C X env σ H) {i : Nat} {x : Dt} (e : env[i]? = some (.d x)) : ∃ v, σ[i]? = some (some v) ∧ Den C.K (vis H X) v x := by
  obtain ⟨o, e1, v, rfl, h⟩ := r.slot i _ e
  exact ⟨v, e1, h⟩
theorem de_var (i : Nat) : DE C (tVar i) (eVar i) := by
  intro X env σ H Q Qd Qx r he q x
  unfold eVar at he
  split at he
  · rename_i y e
    obtain ⟨v, e1, h⟩ := r.at e
    exact ⟨v, e1, q _ v H (.refl H) h he⟩
  · exact he.elim
theorem db_var (i : Nat) : DB C (tVar i) (eVarB i) := by
  intro X env σ H Q Qd Qx r he q x
  unfold eVarB at he
  split at he
  · rename_i y e
    obtain ⟨v, e1, h⟩ := r.at e
    exact ⟨v, e1, q _ v H (.refl H) (.inl h) he⟩
  · rename_i y e
    obtain ⟨o, e1, p, u, rfl, x1, x2, h1, h2⟩ := r.slot i _ e
    cases h2 with
    | @lst vs _ h2 => exact ⟨.ref p, e1, q _ _ H (.refl H) (.inr ⟨p, vs, _, rfl, rfl, r.nh x2, h1, h2⟩) he⟩
  · exact he.elim
theorem de_c {v : V} {d : Dt} (e : d.flat = some v) : DE C (tC v) (eC d) := fun X env σ H Q Qd Qx r he q x => q d v H (.refl H) (.of_flat e) he
theorem de_int (i : Int) : DE C (tC (.int i)) (eC (.int i)) := de_c rfl
theorem de_bl (i : Bool) : DE C (tC (.bl i)) (eC (.bl i)) := de_c rfl
theorem de_non : DE C (tC .non) (eC .non) := de_c rfl
theorem de_raw (v : V) : DE C (tC v) (eC (.raw v)) := de_c rfl
end
/-! ### operators -/
abbrev D2 := Dt → Dt → (Dt → Prop) → Prop
abbrev D1 := Dt → (Dt → Prop) → Prop
def OpG (R : RR) (C : Bc) (r : R2) (f : D2) : Prop := ∀ X env σ H H1 x y a b (Q : VK) (Qd : Dt → Prop), Rep C X env σ H → Bor C X H1 H x a → Bor C X H1 H y b → f a b Qd → (∀ d v H', Frm C.hd H H' → R C X H H' v d → Qd d → Q v H') → r x y H Q
abbrev OpD := OpG Cln
def eOp (f : D2) (a b : DX) : DX := fun env Q E => a env (fun x => b env (fun y => f x y Q) E) E
/-- what a reading may be weakened by: an earlier start -/
class RRs (R : RR) : Prop where
  st : ∀ {C : Bc} {X : Addr → Prop} {env : List Sl} {σ : L2.St} {H H1 H' : Hp} {v : V} {d : Dt}, Rep C X env σ H → Frm C.hd H H1 → R C X H1 H' v d → R C X H H' v d
instance : RRs Cln := ⟨fun _ _ h => h⟩
instance : RRs Bor := ⟨fun _ _ h => h⟩
instance : RRs Fsh := ⟨fun r f h => h.frm r f⟩
section
variable {C : Bc} {r r' : R2} {f : D2} {ta tb : TE} {a b : DX} {R : RR}
theorem dg_op [RRs R] (ho : OpG R C r f) (ha : DB C ta a) (hb : DB C tb b) : DEg R C (tOp r ta tb) (eOp f a b) := by
  intro X env σ H Q Qd Qx rp he q x
  refine ha X env σ H _ _ Qx rp he (fun d v H1 f1 r1 he1 => ?_) x
  have rp1 := rp.step f1
  refine hb X env σ H1 _ _ Qx rp1 he1 (fun d2 v2 H2 f2 r2 he2 => ?_) (x.step f1)
  exact ho X env σ H2 H1 v v2 d d2 Q Qd (rp1.step f2) (r1.frm rp1 f2) r2 he2 fun d3 v3 H3 f3 r3 => q d3 v3 H3 (f1.trans (f2.trans f3)) (RRs.st rp (f1.trans f2) r3)
end
section
variable {C : Bc} {r r' : R2} {f g : D2}
/-- one rule or the other -/
theorem OpG.left {R : RR} (h : OpG R C r f) : OpG R C (fun x y H Q => r x y H Q ∨ r' x y H Q) f := fun X env σ H H1 x y a b Q Qd rp r1 r2 he q => .inl (h X env σ H H1 x y a b Q Qd rp r1 r2 he q)
theorem OpG.right {R : RR} (h : OpG R C r' f) : OpG R C (fun x y H Q => r x y H Q ∨ r' x y H Q) f := fun X env σ H H1 x y a b Q Qd rp r1 r2 he q => .inr (h X env σ H H1 x y a b Q Qd rp r1 r2 he q)
end
/-- whole numbers -/
def dI (c : Int → Int → Prop) (g : Int → Int → Dt) : D2 := fun a b Q => match a, b with
  | .int i, .int j => c i j ∧ Q (g i j)
  | _, _ => False
def dI0 (g : Int → Int → Dt) : D2 := fun a b Q => match a, b with
  | .int i, .int j => Q (g i j)
  | _, _ => False
section
variable {C : Bc}
theorem od_I {c : Int → Int → Prop} {g : Int → Int → V} {g' : Int → Int → Dt} (e : ∀ i j, (g' i j).flat = some (g i j)) : OpD C (rI c g) (dI c g') := by
  intro X env σ H H1 x y a b Q Qd rp r1 r2 he q
  unfold dI at he
  split at he
  · exact ⟨_, _, r1.int, r2.int, he.1, q _ _ H (.refl H) (.of_flat (e _ _)) he.2⟩
  · exact he.elim
theorem od_I0 {g : Int → Int → V} {g' : Int → Int → Dt} (e : ∀ i j, (g' i j).flat = some (g i j)) : OpD C (rI0 g) (dI0 g') := by
  intro X env σ H H1 x y a b Q Qd rp r1 r2 he q
  unfold dI0 at he
  split at he
  · exact ⟨_, _, r1.int, r2.int, q _ _ H (.refl H) (.of_flat (e _ _)) he⟩
  · exact he.elim
end
abbrev LINE : Nat := 16777216
/-! + -/
def rAddIB : R2 := fun x y H Q => ∃ i k, x = .int i ∧ y = .bl k ∧ Q (.int (i + b2i k)) H
def rAddS : R2 := fun x y H Q => ∃ i j, x = .str i ∧ y = .str j ∧ i.length + j.length ≤ sizeLine ∧ Q (.str (i ++ j)) H
def rAddU (K : PySem.W.Frag) : R2 := fun x y H Q => rI0 (fun i j => .int (i + j)) x y H Q ∨ (rCat x y H Q ∨ (rCatA K x y H Q ∨ (rAddS x y H Q ∨ rAddIB x y H Q)))
theorem op_addU {X : Cx} {K : PySem.W.Frag} (e : X.K = K) : OpR X (binaryOp .Add) (rAddU K) := op_add.or (op_cat.or ((OpR.k (r := rCatA) (K := K) op_catA e).or (OpR.or (r := rAddS) op_add_str op_add_ib)))
def dAdd : D2 := fun a b Q => match a, b with
  | .int i, .int j => Q (.int (i + j))
  | .lst xs, .lst ys => xs.length + ys.length ≤ LINE ∧ Q (.lst (xs ++ ys))
  | .tup xs, .tup ys => xs.length + ys.length ≤ LINE ∧ Q (.tup (xs ++ ys))
  | .str x, .str y => x.length + y.length ≤ LINE ∧ Q (.str (x ++ y))
  | .int i, .bl k => Q (.int (i + b2i k))
  | _, _ => False
def dAddL : D2 := fun a b Q => match a, b with
  | .lst xs, .lst ys => xs.length + ys.length ≤ LINE ∧ Q (.lst (xs ++ ys))
  | _, _ => False
section
variable {C : Bc}
theorem od_addL : OpG Fsh C (rAddU C.K) dAddL := by
  intro X env σ H H1 x y a b Q Qd rp r1 r2 he q
  unfold dAddL at he
  split at he
  · obtain ⟨p, vs, rfl, h1, a1⟩ := r1.lst
    obtain ⟨p2, vs2, rfl, h2, a2⟩ := r2.lst
    refine .inr (.inl ⟨p, p2, vs, vs2, rfl, rfl, h1, h2, by rw [a1.length, a2.length, sizeLine_eq]; exact he.1, fun pn hp => ?_⟩)
    exact q _ _ _ (.upd hp) (fsh_new rp hp (a1.append a2)) he.2
  · exact he.elim
theorem od_add : OpD C (rAddU C.K) dAdd := by
  intro X env σ H H1 x y a b Q Qd rp r1 r2 he q
  unfold dAdd at he
  split at he
  · exact .inl ⟨_, _, r1.int, r2.int, q _ _ H (.refl H) (.int _) he⟩
  · exact od_addL X env σ H H1 x y _ _ Q Qd rp r1 r2 he fun d v H' f h => q d v H' f (h.cln rp)
  · obtain ⟨p, vs, rfl, h1, a1⟩ := r1.tup
    obtain ⟨p2, vs2, rfl, h2, a2⟩ := r2.tup
    have al := a1.append a2
    refine .inr (.inr (.inl ⟨p, p2, vs, vs2, rfl, rfl, .inl (.inl h1), .inl (.inl h2), by rw [a1.length, a2.length, sizeLine_eq]; exact he.1, fun e => ?_, fun _ e => ?_, fun _ _ pn hp => ?_⟩))
    · subst e
      refine q _ _ H (.refl H) ?_ he.2
      rcases r2 with r2 | ⟨_, _, _, _, e2, _⟩
      · cases r2 with
        | @tup _ xs' _ g g2 =>
          have e : xs' = vs2 := by simpa using (vis_sub _ _ g).symm.trans h2
          subst e
          exact .tup g al
      · cases e2
    · subst e
      refine q _ _ H (.refl H) ?_ he.2
      rcases r1 with r1 | ⟨_, _, _, _, e2, _⟩
      · cases r1 with
        | @tup _ xs' _ g g2 =>
          have e : xs' = vs := by simpa using (vis_sub _ _ g).symm.trans h1
          subst e
          rw [List.append_nil] at al
          exact .tup g al
      · cases e2
    · exact q _ _ _ (.upd hp) (cln_new rp hp al) he.2
  · exact .inr (.inr (.inr (.inl ⟨_, _, r1.str, r2.str, by rw [sizeLine_eq]; exact he.1, q _ _ H (.refl H) (.str _) he.2⟩)))
  · exact .inr (.inr (.inr (.inr ⟨_, _, r1.int, r2.bl, q _ _ H (.refl H) (.int _) he⟩)))
  · exact he.elim
end
/-! * -/
/-- t * k, k from 1 on: t itself, or a new tuple -/
def rRepB : R2 := fun x y H Q => ∃ l k xs, x = .ref l ∧ y = .int k ∧ H l = some (.tup xs) ∧ xs ≠ [] ∧ 1 ≤ k ∧ k ≤ 1000 ∧ xs.length ≤ 1000 ∧ (k = 1 → Q (.ref l) H) ∧ ∀ p, H p = none → Q (.ref p) (upd H p (.tup (List.replicate k.toNat xs).flatten))
theorem op_repB {X : Cx} : OpR X (binaryOp .Mult) rRepB := by
  intro pins s σ H x y v u Q I rx ry h
  obtain ⟨l, k, xs, rfl, rfl, hl, hne, h1, h2, hz, q1, q⟩ := h
  by_cases e : 2 ≤ k
  · exact op_repT pins s σ H _ _ v u Q I rx ry ⟨l, k, xs, rfl, rfl, .inl (.inl hl), hne, e, h2, hz, q⟩
  · obtain rfl : k = 1 := by omega
    cases rx
    obtain ⟨t, rfl⟩ := ry
    obtain ⟨its, r, ⟨⟨cls, dd, data, sl⟩, ho, hc, n, hd⟩, hs⟩ := I.tuple (.inl (.inl hl) : SqT X.K H l xs)
    simp only at hc hd
    subst hc hd
    refine wpAny_binaryOp_repeat_ref (T := "tuple") (U := "int") (by decide) ⟨_, ho, rfl⟩ (fun s' => typeIs_int s' 1 t) noFill_tuple_mul F.fills_int_mul F.slot_int_rmul repeat_tuple F.slot_int_index.lookup
      (call_meets F.slot_int_rmul (typeIs_int s 1 t) F.entry_int_rmul (F.args_int_rmul_2 _ _) (int_rmul_tuple 1 t l its.toArray n dd sl)
        ⟨ho, rfl, ⟨_, ho, rfl⟩, call_meets F.slot_tuple_mul ⟨_, ho, rfl⟩ F.entry_tuple_mul (F.args_tuple_mul_2 _ _) (mine_mul_one l its.toArray n dd sl t) ⟨ho, ?_⟩⟩)
    exact ⟨.ref l, H, I, rfl, q1 rfl⟩
theorem mine_mul_zero (l : Addr) (items : Array Value) (n : Nat) (dd : Option Addr) (sl : Array (Option Value)) (x : Int) (u : Tok) (c0 : (decide (x < -(2 ^ 63)) || decide (x ≥ 2 ^ 63)) = false) (c1 : (items.isEmpty || x == 1) = false) (c2 : (decide (x ≤ 0) || items.isEmpty) = true) :
    Meets (Builtin.«tuple.__mul__» ⟨[.ref l, .int x u], []⟩) (fun _ R s => s.heap.get? l = some { cls := .type "tuple", dict := dd, data := .seq items n, slots := sl } ∧
      R (.ok (.ret (Value.ref s.heap.objs.size))) { s with heap := s.heap.push { cls := Value.type "tuple", data := Data.seq #[] }, toks := s.toks }) :=
  .of_wp fun prog w A R s h => by
    obtain ⟨hp, g, d, tk, os⟩ := s
    obtain ⟨hl, h⟩ := h
    have f1 := AutoSeq1.idx_int
    wp_walk using wpAny_loadPart' hl
    repeat (first
      | (refine wpAny_ite_false (decide_eq_false (by rw [c0]; exact Bool.false_ne_true)) ?_; wp_walk using wpAny_loadPart' hl)
      | (refine wpAny_ite_false (decide_eq_false (by rw [c1]; exact Bool.false_ne_true)) ?_; wp_walk using wpAny_loadPart' hl)
      | (refine wpAny_ite_true (decide_eq_true c2) ?_; wp_walk using wpAny_loadPart' hl))
    exact ⟨_, rfl, h⟩
/-- t * k, k up to 0: a new tuple of nothing -/
def rRepZ : R2 := fun x y H Q => ∃ l k xs, x = .ref l ∧ y = .int k ∧ H l = some (.tup xs) ∧ xs ≠ [] ∧ k ≤ 0 ∧ -(2 ^ 62) ≤ k ∧ ∀ p, H p = none → Q (.ref p) (upd H p (.tup []))
theorem op_repZ {X : Cx} : OpR X (binaryOp .Mult) rRepZ := by
  intro pins s σ H x y v u Q I rx ry h
  obtain ⟨l, k, xs, rfl, rfl, hl, hne, h1, h2, q⟩ := h
  cases rx
  obtain ⟨t, rfl⟩ := ry
  obtain ⟨its, r, ⟨⟨cls, dd, data, sl⟩, ho, hc, n, hd⟩, hs⟩ := I.tuple (.inl (.inl hl) : SqT X.K H l xs)
  simp only at hc hd
  subst hc hd
  have hn : its.toArray.isEmpty = false := by
    cases its with
    | nil => cases r; exact absurd rfl hne
    | cons a b => rfl
  have c0 : (decide (k < -(2 ^ 63)) || decide (k ≥ 2 ^ 63)) = false := by
    rw [decide_eq_false (by omega), decide_eq_false (by omega)]; rfl
  have c1 : (its.toArray.isEmpty || k == 1) = false := by
    rw [hn, show (k == 1) = false from beq_eq_false_iff_ne.mpr (by omega)]; rfl
  have c2 : (decide (k ≤ 0) || its.toArray.isEmpty) = true := by rw [decide_eq_true h1]; rfl
  refine wpAny_binaryOp_repeat_ref (T := "tuple") (U := "int") (by decide) ⟨_, ho, rfl⟩ (fun s' => typeIs_int s' k t) noFill_tuple_mul F.fills_int_mul F.slot_int_rmul repeat_tuple F.slot_int_index.lookup
    (call_meets F.slot_int_rmul (typeIs_int s k t) F.entry_int_rmul (F.args_int_rmul_2 _ _) (int_rmul_tuple k t l its.toArray n dd sl)
      ⟨ho, rfl, ⟨_, ho, rfl⟩, call_meets F.slot_tuple_mul ⟨_, ho, rfl⟩ F.entry_tuple_mul (F.args_tuple_mul_2 _ _) (mine_mul_zero l its.toArray n dd sl k t c0 c1 c2) ⟨ho, ?_⟩⟩)
  refine ⟨.ref _, _, I.laid (t' := s.toks) (o := .tup []) (fun b ob q => Heap.get?_push_of_some _ q) (Nat.le_refl _) ?_, rfl, q _ (I.hok.fresh (Nat.le_refl _))⟩
  exact ⟨Nat.zero_le _, _, .nil, IsTup.new _ _⟩
def rMulU : R2 := fun x y H Q => rI CMul (fun i j => .int (i * j)) x y H Q ∨ (rRep x y H Q ∨ (rRepB x y H Q ∨ rRepZ x y H Q))
theorem op_mulU {X : Cx} : OpR X (binaryOp .Mult) rMulU := op_mul.or (op_rep.or (op_repB.or op_repZ))
def dMul : D2 := fun a b Q => match a, b with
  | .int i, .int j => CMul i j ∧ Q (.int (i * j))
  | .lst xs, .int k => (-(2 ^ 63) ≤ k ∧ k < 2 ^ 63 ∧ xs.length * k.toNat ≤ LINE) ∧ Q (.lst (List.replicate k.toNat xs).flatten)
  | .tup xs, .int k => (xs ≠ [] ∧ -(2 ^ 62) ≤ k ∧ k ≤ 1000 ∧ xs.length ≤ 1000) ∧ Q (.tup (List.replicate k.toNat xs).flatten)
  | _, _ => False
def dMulL : D2 := fun a b Q => match a, b with
  | .lst xs, .int k => (-(2 ^ 63) ≤ k ∧ k < 2 ^ 63 ∧ xs.length * k.toNat ≤ LINE) ∧ Q (.lst (List.replicate k.toNat xs).flatten)
  | _, _ => False
section
variable {C : Bc}
theorem od_mulL : OpG Fsh C rMulU dMulL := by
  intro X env σ H H1 x y a b Q Qd rp r1 r2 he q
  unfold dMulL at he
  split at he
  · obtain ⟨p, vs, rfl, h1, a1⟩ := r1.lst
    obtain ⟨⟨c1, c2, c3⟩, he⟩ := he
    refine .inr (.inl ⟨p, _, vs, rfl, r2.int, h1, c1, c2, by rw [a1.length, sizeLine_eq]; exact c3, fun pn hp => ?_⟩)
    exact q _ _ _ (.upd hp) (fsh_new rp hp (a1.replicate _)) he
  · exact he.elim
theorem od_mul : OpD C rMulU dMul := by
  intro X env σ H H1 x y a b Q Qd rp r1 r2 he q
  unfold dMul at he
  split at he
  · exact .inl ⟨_, _, r1.int, r2.int, he.1, q _ _ H (.refl H) (.int _) he.2⟩
  · exact od_mulL X env σ H H1 x y _ _ Q Qd rp r1 r2 he fun d v H' f h => q d v H' f (h.cln rp)
  · obtain ⟨p, vs, rfl, h1, a1⟩ := r1.tup
    rename_i xs0 k0
    obtain ⟨⟨c1, c2, c3, c4⟩, he⟩ := he
    have al := a1.replicate (K := C.K)
    by_cases kz : k0 ≤ 0
    · refine .inr (.inr (.inr ⟨p, _, vs, rfl, r2.int, h1, fun e => c1 ?_, kz, c2, fun pn hp => ?_⟩))
      · subst e; cases a1; rfl
      · rw [show k0.toNat = 0 from Int.toNat_eq_zero.mpr kz] at he
        exact q _ _ _ (.upd hp) (cln_new rp hp .nil) he
    refine .inr (.inr (.inl ⟨p, _, vs, rfl, r2.int, h1, fun e => c1 ?_, by omega, c3, by rw [a1.length]; exact c4, fun e => ?_, fun pn hp => ?_⟩))
    · subst e; cases a1; rfl
    · subst e
      refine q _ _ H (.refl H) ?_ he
      rcases r1 with r1 | ⟨_, _, _, _, e2, _⟩
      · have e : ∀ zs : List Dt, (List.replicate (1 : Int).toNat zs).flatten = zs := fun zs => by simp
        rw [e]; exact r1
      · cases e2
    · exact q _ _ _ (.upd hp) (cln_new rp hp (al _)) he
  · exact he.elim
end
end Mine

namespace HT
open PySem PySem.Spec PyProof.Rows L2
section
variable {prog : Program} {w : World} {A : Around} {E : Value → Shared → Prop} {s : Shared}
end
end HT
namespace Mine
open PySem PySem.Spec PyProof.Rows L2
section
variable {X : Cx}
end
end Mine

namespace Mine
open PySem PySem.Spec PyProof.Rows L2
/-! ### data as the library's data -/
mutual
def Dt.py : Dt → Option PyData
  | .non => some .none
  | .bl b => some (.bool b)
  | .int i => some (.int i)
  | .str x => some (.str x)
  | .tup xs => (Dt.pys xs).map .tuple
  | .lst xs => (Dt.pys xs).map .list
  | _ => none
def Dt.pys : List Dt → Option (List PyData)
  | [] => some []
  | x :: xs => match Dt.py x, Dt.pys xs with
    | some p, some ps => some (p :: ps)
    | _, _ => none
end
section
variable {K : PySem.W.Frag} {H : Hp}
mutual
theorem Den.dp : ∀ {v : V} {d : Dt} {p : PyData}, Den K H v d → d.py = some p → Dp K H v p
  | _, _, _, .non, e => by rw [Dt.py] at e; injection e with e; subst e; exact .non
  | _, _, _, .bl b, e => by rw [Dt.py] at e; injection e with e; subst e; exact .bl b
  | _, _, _, .int i, e => by rw [Dt.py] at e; injection e with e; subst e; exact .int i
  | _, _, _, .str x, e => by rw [Dt.py] at e; injection e with e; subst e; exact .str x
  | _, _, _, .tup h a, e => by
    rw [Dt.py, Option.map_eq_some_iff] at e
    obtain ⟨ps, e1, rfl⟩ := e
    exact .tup (.inl (.inl h)) (DenAll.dp a e1)
  | _, _, _, .lst h a, e => by
    rw [Dt.py, Option.map_eq_some_iff] at e
    obtain ⟨ps, e1, rfl⟩ := e
    exact .lst (.inl (.inl h)) (DenAll.dp a e1)
  | _, _, _, .dk _ _ _, e => by rw [Dt.py] at e <;> cases e
  | _, _, _, .ins _ _ _, e => by rw [Dt.py] at e <;> cases e
  | _, _, _, .raw v, e => by rw [Dt.py] at e <;> cases e
theorem DenAll.dp : ∀ {vs : List V} {ds : List Dt} {ps : List PyData}, DenAll K H vs ds → Dt.pys ds = some ps → DpAll K H vs ps
  | _, _, _, .nil, e => by rw [Dt.pys] at e; injection e with e; subst e; exact .nil
  | _, _, _, @DenAll.cons _ _ _ _ d ds a b, e => by
    rw [Dt.pys] at e
    cases h1 : Dt.py d with
    | none => rw [h1] at e; cases e
    | some p =>
      cases h2 : Dt.pys ds with
      | none => rw [h1, h2] at e; cases e
      | some ps =>
        rw [h1, h2] at e
        injection e with e
        subst e
        exact .cons (Den.dp a h1) (DenAll.dp b h2)
end
end
/-- equal, as Python has it; of a shape that may be asked -/
def Dt.eqv (a b : Dt) : Bool := match a.py, b.py with
  | some p, some q => PyData.eqv p q
  | _, _ => false
def Dt.sh (a : Dt) : Prop := ∃ p, a.py = some p ∧ SeqAt.shaped p = true
theorem Dt.eqv_of {a b : Dt} {p q : PyData} (h : a.py = some p) (h' : b.py = some q) : a.eqv b = PyData.eqv p q := by
  unfold Dt.eqv
  rw [h, h']
theorem Bor.dp {C : Bc} {X : Addr → Prop} {H H1 : Hp} {v : V} {d : Dt} {p : PyData} (h : Bor C X H1 H v d) (e : d.py = some p) : Dp C.K H v p := by
  rcases h with h | ⟨a, vs, ds, rfl, rfl, n, h1, h2⟩
  · exact (h.mono vis_sub).dp e
  · rw [Dt.py, Option.map_eq_some_iff] at e
    obtain ⟨ps, e1, rfl⟩ := e
    exact .lst (.inl (.inl h1)) ((h2.mono vis_sub).dp e1)
def dEq : D2 := fun a b Q => a.sh ∧ b.sh ∧ Q (.bl (a.eqv b))
def dNe : D2 := fun a b Q => a.sh ∧ b.sh ∧ Q (.bl (!a.eqv b))
section
variable {C : Bc}
theorem od_eq : OpD C (rEqD C.K) dEq := by
  intro X env σ H H1 x y a b Q Qd rp r1 r2 ⟨⟨p, e1, s1⟩, ⟨q, e2, s2⟩, he⟩ qq
  rw [Dt.eqv_of e1 e2] at he
  exact ⟨p, q, r1.dp e1, r2.dp e2, s1, s2, qq _ _ H (.refl H) (.bl _) he⟩
theorem od_ne : OpD C (rNeD C.K) dNe := by
  intro X env σ H H1 x y a b Q Qd rp r1 r2 ⟨⟨p, e1, s1⟩, ⟨q, e2, s2⟩, he⟩ qq
  rw [Dt.eqv_of e1 e2] at he
  exact ⟨p, q, r1.dp e1, r2.dp e2, s1, s2, qq _ _ H (.refl H) (.bl _) he⟩
end
/-! is None -/
def Dt.isN : Dt → Bool
  | .non => true
  | .raw .non => true
  | _ => false
def dIsN : D2 := fun a b Q => match b with
  | .non => Q (.bl a.isN)
  | _ => False
def dNotN : D2 := fun a b Q => match b with
  | .non => Q (.bl (!a.isN))
  | _ => False
section
variable {C : Bc} {X : Addr → Prop} {H H1 : Hp} {v : V}
theorem Bor.isN {a : Dt} (h : Bor C X H1 H v a) : decide (v = .non) = a.isN := by
  rcases h with h | ⟨_, _, _, rfl, rfl, _⟩
  · cases h with
    | raw v => cases v <;> rfl
    | _ => rfl
  · rfl
theorem od_isN : OpD C (fun x y H Q => y = .non ∧ Q (.bl (decide (x = .non))) H) dIsN := by
  intro X env σ H H1 x y a b Q Qd rp r1 r2 he q
  unfold dIsN at he
  split at he
  · exact ⟨r2.non, q _ _ H (.refl H) (by rw [r1.isN]; exact .bl _) he⟩
  · exact he.elim
end
/-! in -/
def rNotInT (K : PySem.W.Frag) : R2 := fun x y H Q => ∃ d ds, Dp K H x d ∧ Dp K H y (.tuple ds) ∧ SeqAt.shaped d = true ∧ SeqAt.shaped (.tuple ds) = true ∧ Q (.bl (!ds.any fun z => PyData.eqv z d)) H
section
variable {X : Cx}
theorem op_notInT (hu : X.A.units + 65 < cLine) : OpR X (compareOp .NotIn) (rNotInT X.K) := by
  intro pins s σ H x y v u Q I rx ry h
  obtain ⟨d, ds, hd, he, sd, se, q⟩ := h
  obtain ⟨as, r1⟩ := Dp.reads I d x v hd rx
  obtain ⟨bs, r2⟩ := Dp.reads I (.tuple ds) y u he ry
  exact SeqAt.notIn_tuple_reads r2 r1 (SeqAt.canLay_of_shaped se) (SeqAt.canLay_of_shaped sd) (room_in_shaped sd hu) ⟨.bl _, H, I, rfl, q⟩
def rNotInSt : R2 := fun x y H Q => ∃ i j, x = .str i ∧ y = .str j ∧ Q (.bl (!(!(Builtin.Str.occurrences j i 0 j.length 1).isEmpty))) H
def rNotInU (K : PySem.W.Frag) : R2 := fun x y H Q => rNotInD K x y H Q ∨ (rNotInT K x y H Q ∨ rNotInSt x y H Q)
theorem op_notInU {K : PySem.W.Frag} (e : X.K = K) (hu : X.A.units + 65 < cLine) : OpR X (compareOp .NotIn) (rNotInU K) := e ▸ (op_notInD hu).or ((op_notInT hu).or (OpR.weak op_notin_str fun _ _ _ _ h => h))
end
def dNotIn : D2 := fun a b Q => match b with
  | .lst ys => a.sh ∧ Dt.sh (.lst ys) ∧ Q (.bl (!ys.any fun y => y.eqv a))
  | .tup ys => a.sh ∧ Dt.sh (.tup ys) ∧ Q (.bl (!ys.any fun y => y.eqv a))
  | .str z => match a with
    | .str x => Q (.bl (!(!(Builtin.Str.occurrences z x 0 z.length 1).isEmpty)))
    | _ => False
  | _ => False
theorem any_eqv {a : Dt} {p : PyData} (e : a.py = some p) : ∀ {ys : List Dt} {ps : List PyData}, Dt.pys ys = some ps → (ps.any fun z => PyData.eqv z p) = ys.any fun y => y.eqv a
  | [], _, h => by rw [Dt.pys] at h; injection h with h; subst h; rfl
  | y :: ys, _, h => by
    rw [Dt.pys] at h
    cases h1 : Dt.py y with
    | none => rw [h1] at h; cases h
    | some q =>
      cases h2 : Dt.pys ys with
      | none => rw [h1, h2] at h; cases h
      | some qs =>
        rw [h1, h2] at h
        injection h with h
        subst h
        rw [List.any_cons, List.any_cons, any_eqv e h2, Dt.eqv_of h1 e]
section
variable {C : Bc}
theorem od_notIn : OpD C (rNotInU C.K) dNotIn := by
  intro X env σ H H1 x y a b Q Qd rp r1 r2 he q
  unfold dNotIn at he
  split at he
  · obtain ⟨⟨p, e1, s1⟩, ⟨pl, e2, s2⟩, he⟩ := he
    have e2' := e2
    rw [Dt.py, Option.map_eq_some_iff] at e2
    obtain ⟨ps, e3, rfl⟩ := e2
    exact .inl ⟨p, ps, r1.dp e1, r2.dp e2', s1, s2, by rw [any_eqv e1 e3]; exact q _ _ H (.refl H) (.bl _) he⟩
  · obtain ⟨⟨p, e1, s1⟩, ⟨pl, e2, s2⟩, he⟩ := he
    have e2' := e2
    rw [Dt.py, Option.map_eq_some_iff] at e2
    obtain ⟨ps, e3, rfl⟩ := e2
    exact .inr (.inl ⟨p, ps, r1.dp e1, r2.dp e2', s1, s2, by rw [any_eqv e1 e3]; exact q _ _ H (.refl H) (.bl _) he⟩)
  · split at he
    · exact .inr (.inr ⟨_, _, r1.str, r2.str, q _ _ H (.refl H) (.bl _) he⟩)
    · exact he.elim
  · exact he.elim
end
/-! the operators of whole numbers -/
abbrev dSub : D2 := dI0 fun i j => .int (i - j)
abbrev dFdiv : D2 := dI CDiv fun i j => .int (i / j)
abbrev dMod : D2 := dI (fun _ j => 0 < j) fun i j => .int (i % j)
abbrev dPow : D2 := dI CPow fun i j => .int (i ^ j.toNat)
abbrev dShl : D2 := dI CPow fun i j => .int (i * 2 ^ j.toNat)
abbrev dShr : D2 := dI (fun _ j => 0 ≤ j) fun i j => .int (i / 2 ^ j.toNat)
abbrev dAnd : D2 := dI0 fun i j => .int (Builtin.bitAnd i j)
abbrev dLe : D2 := dI0 fun i j => .bl (decide (i ≤ j))
abbrev dGt : D2 := dI0 fun i j => .bl (decide (j < i))
abbrev dGe : D2 := dI0 fun i j => .bl (decide (j ≤ i))
def rLtSt : R2 := fun x y H Q => ∃ i j, x = .str i ∧ y = .str j ∧ Q (.bl (decide (i.cps.toList < j.cps.toList))) H
def rLtU (K : PySem.W.Frag) : R2 := fun x y H Q => rI0 (fun i j => .bl (decide (i < j))) x y H Q ∨ (rLtT K x y H Q ∨ rLtSt x y H Q)
theorem op_ltU {X : Cx} {K : PySem.W.Frag} (e : X.K = K) (hu : X.A.units < cLine) : OpR X (compareOp .Lt) (rLtU K) := e ▸ op_lt.or ((op_ltT hu).or (OpR.weak op_lt_str fun _ _ _ _ h => h))
def dLt : D2 := fun a b Q => match a, b with
  | .int i, .int j => Q (.bl (decide (i < j)))
  | .tup xs, .tup ys => ∃ ns ms : List Int, xs = ns.map .int ∧ ys = ms.map .int ∧ Q (.bl (HT.lexLt ns ms))
  | .str x, .str y => Q (.bl (decide (x.cps.toList < y.cps.toList)))
  | _, _ => False
theorem DenAll.ints_of {K : PySem.W.Frag} {H : Hp} : ∀ {vs : List V} {ns : List Int}, DenAll K H vs (ns.map .int) → vs = ns.map V.int
  | _, [], .nil => rfl
  | _, n :: ns, .cons a b => by rw [List.map_cons, a.flat rfl, DenAll.ints_of b]
section
variable {C : Bc}
theorem od_sub : OpD C (rI0 fun i j => .int (i - j)) dSub := od_I0 fun _ _ => rfl
theorem od_fdiv : OpD C (rI CDiv fun i j => .int (i / j)) dFdiv := od_I fun _ _ => rfl
theorem od_mod : OpD C (rI (fun _ j => 0 < j) fun i j => .int (i % j)) dMod := od_I fun _ _ => rfl
theorem od_shl : OpD C (rI CPow fun i j => .int (i * 2 ^ j.toNat)) dShl := od_I fun _ _ => rfl
theorem od_and : OpD C (rI0 fun i j => .int (Builtin.bitAnd i j)) dAnd := od_I0 fun _ _ => rfl
theorem od_le : OpD C (rI0 fun i j => .bl (decide (i ≤ j))) dLe := od_I0 fun _ _ => rfl
theorem od_gt : OpD C (rI0 fun i j => .bl (decide (j < i))) dGt := od_I0 fun _ _ => rfl
theorem od_ge : OpD C (rI0 fun i j => .bl (decide (j ≤ i))) dGe := od_I0 fun _ _ => rfl
theorem od_lt : OpD C (rLtU C.K) dLt := by
  intro X env σ H H1 x y a b Q Qd rp r1 r2 he q
  unfold dLt at he
  split at he
  · exact .inl ⟨_, _, r1.int, r2.int, q _ _ H (.refl H) (.bl _) he⟩
  · obtain ⟨ns, ms, rfl, rfl, he⟩ := he
    obtain ⟨p, vs, rfl, h1, a1⟩ := r1.tup
    obtain ⟨p2, vs2, rfl, h2, a2⟩ := r2.tup
    rw [a1.ints_of] at h1
    rw [a2.ints_of] at h2
    exact .inr (.inl ⟨p, p2, ns, ms, rfl, rfl, .inl (.inl h1), .inl (.inl h2), q _ _ H (.refl H) (.bl _) he⟩)
  · exact .inr (.inr ⟨_, _, r1.str, r2.str, q _ _ H (.refl H) (.bl _) he⟩)
  · exact he.elim
end
/-! ### one thing -/
def UnD (C : Bc) (r : V → Hp → VK → Prop) (f : D1) : Prop := ∀ X env σ H H1 x a (Q : VK) (Qd : Dt → Prop), Rep C X env σ H → Bor C X H1 H x a → f a Qd → (∀ d v H', Frm C.hd H H' → Cln C X H H' v d → Qd d → Q v H') → r x H Q
def eUn (f : D1) (a : DX) : DX := fun env Q E => a env (fun x => f x Q) E
def dNeg : D1 := fun a Q => match a with
  | .int i => Q (.int (-i))
  | _ => False
section
variable {C : Bc} {r : V → Hp → VK → Prop} {f : D1} {ta : TE} {a : DX}
theorem de_un (ho : UnD C r f) (ha : DB C ta a) : DE C (tUn r ta) (eUn f a) := by
  intro X env σ H Q Qd Qx rp he q x
  refine ha X env σ H _ _ Qx rp he (fun d v H1 f1 r1 he1 => ?_) x
  exact ho X env σ H1 H v d Q Qd (rp.step f1) r1 he1 fun d3 v3 H3 f3 r3 => q d3 v3 H3 (f1.trans f3) r3
theorem ud_neg : UnD C (rU fun i => .int (-i)) dNeg := by
  intro X env σ H H1 x a Q Qd rp r1 he q
  unfold dNeg at he
  split at he
  · exact ⟨_, r1.int, q _ _ H (.refl H) (.int _) he⟩
  · exact he.elim
end
/-! ### tests -/
def DT (C : Bc) (t : TT) (e : DTX) : Prop := ∀ X env σ H (Q : Bool → Hp → Prop) (Qd : Bool → Prop) (Qx : Xc → Prop), Rep C X env σ H → e env Qd Qx → (∀ b H', Frm C.hd H H' → Qd b → Q b H') → XOk C X σ H Qx → t σ H Q
def eTest (e : DX) : DTX := fun env Q E => e env (fun d => match d with
  | .bl b => Q b
  | _ => False) E
def eNotT (t : DTX) : DTX := fun env Q E => t env (fun b => Q (!b)) E
def eAndT (t u : DTX) : DTX := fun env Q E => t env (fun b => if b = true then u env Q E else Q false) E
def eOrT (t u : DTX) : DTX := fun env Q E => t env (fun b => if b = true then Q true else u env Q E) E
def dTru (d : Dt) (Q : Bool → Prop) : Prop := match d with
  | .non => Q false
  | .bl b => Q b
  | .int i => Q (i != 0)
  | .str y => y.length ≤ LINE ∧ Q ((y.length : Int) != 0)
  | .lst xs => Q (!xs.isEmpty)
  | .tup xs => Q (!xs.isEmpty)
  | .dk ks _ => Q (!ks.isEmpty)
  | _ => False
def eTru (e : DX) : DTX := fun env Q E => e env (fun d => dTru d Q) E
/-- a test by truth, the fragment by name -/
def tTru (K : PySem.W.Frag) (ta : TE) : TT := fun σ H Q => ta σ H fun x H' => ∃ k, TruV K x H' k ∧ Q k H'
theorem pt_tru {X : Cx} {K : PySem.W.Frag} {a : Expr} {ta : TE} (e : X.K = K) (ha : PE X a ta) (he : ∀ whole, isTrue a X.env whole = (do let v ← whole; standAt a.pos; holding [v] (truthy v))) : PT X a (tTru K ta) := e ▸ pt_truth ha he
section
variable {C : Bc} {t u : TT} {a b : DTX} {ta tb : TE} {ea eb : DX}
theorem dt_test (h : DE C ta ea) : DT C (tTest ta) (eTest ea) := by
  intro X env σ H Q Qd Qx rp he q x
  refine h X env σ H _ _ Qx rp he (fun d v H1 f1 r1 he1 => ?_) x
  split at he1
  · exact ⟨_, r1.flat rfl, q _ _ f1 he1⟩
  · exact he1.elim
theorem dt_not (h : DT C t a) : DT C (tNot t) (eNotT a) := fun X env σ H Q Qd Qx rp he q x => h X env σ H _ _ Qx rp he (fun b H1 f1 he1 => q _ _ f1 he1) x
theorem dt_and (h : DT C t a) (k : DT C u b) : DT C (tAnd t u) (eAndT a b) := by
  intro X env σ H Q Qd Qx rp he q x
  refine h X env σ H _ _ Qx rp he (fun c H1 f1 he1 => ?_) x
  cases c with
  | true => rw [if_pos rfl] at he1 ⊢; exact k X env σ H1 Q Qd Qx (rp.step f1) he1 (fun b H2 f2 h2 => q b H2 (f1.trans f2) h2) (x.step f1)
  | false => rw [if_neg (by decide)] at he1 ⊢; exact q _ _ f1 he1
theorem dt_or (h : DT C t a) (k : DT C u b) : DT C (tOr t u) (eOrT a b) := by
  intro X env σ H Q Qd Qx rp he q x
  refine h X env σ H _ _ Qx rp he (fun c H1 f1 he1 => ?_) x
  cases c with
  | false => rw [if_neg (by decide)] at he1 ⊢; exact k X env σ H1 Q Qd Qx (rp.step f1) he1 (fun b H2 f2 h2 => q b H2 (f1.trans f2) h2) (x.step f1)
  | true => rw [if_pos rfl] at he1 ⊢; exact q _ _ f1 he1
theorem Bor.tru {X : Addr → Prop} {env : List Sl} {σ : L2.St} {H H1 : Hp} {v : V} {d : Dt} {Qd : Bool → Prop} (rp : Rep C X env σ H) (h : Bor C X H1 H v d) (he : dTru d Qd) : ∃ k, TruV C.K v H k ∧ Qd k := by
  cases d with
  | non => rw [h.non]; exact ⟨_, rfl, he⟩
  | bl b => rw [h.bl]; exact ⟨_, rfl, he⟩
  | int i => rw [h.int]; exact ⟨_, rfl, he⟩
  | str y => rw [h.str]; exact ⟨_, ⟨by rw [sizeLine_eq]; exact he.1, rfl⟩, he.2⟩
  | lst xs =>
    obtain ⟨p, vs, rfl, h1, a1⟩ := h.lst
    refine ⟨_, .inl ⟨vs, .inl (.inl h1), rfl⟩, ?_⟩
    have : vs.isEmpty = xs.isEmpty := by cases a1 <;> rfl
    rw [this]; exact he
  | tup xs =>
    obtain ⟨p, vs, rfl, h1, a1⟩ := h.tup
    refine ⟨_, .inr (.inl ⟨vs, .inl (.inl h1), rfl⟩), ?_⟩
    have : vs.isEmpty = xs.isEmpty := by cases a1 <;> rfl
    rw [this]; exact he
  | dt _ _ => exact he.elim
  | dk ks ds =>
    obtain ⟨p, vs, rfl, h1, l, a1⟩ := h.dk
    refine ⟨_, .inr (.inr ⟨_, h1, rfl⟩), ?_⟩
    have : (ks.zip vs).isEmpty = ks.isEmpty := by
      cases ks with
      | nil => rfl
      | cons k ks =>
        cases vs with
        | nil => cases l
        | cons v vs => rfl
    rw [this]; exact he
  | ins _ _ _ => exact he.elim
  | raw _ => exact he.elim
theorem dt_tru (h : DB C ta ea) : DT C (tTru C.K ta) (eTru ea) := by
  intro X env σ H Q Qd Qx rp he q x
  refine h X env σ H _ _ Qx rp he (fun d v H1 f1 r1 he1 => ?_) x
  obtain ⟨k, h1, h2⟩ := r1.tru (rp.step f1) he1
  exact ⟨k, h1, q _ _ f1 h2⟩
/-! as values -/
def eBool (d : Dt) (Q : Bool → Prop) : Prop := match d with
  | .bl b => Q b
  | _ => False
def eAndV (a b : DX) : DX := fun env Q E => a env (fun d => eBool d fun c => if c = true then b env Q E else Q (.bl false)) E
def eOrV (a b : DX) : DX := fun env Q E => a env (fun d => eBool d fun c => if c = true then Q (.bl true) else b env Q E) E
def eNotV (a : DX) : DX := fun env Q E => a env (fun d => eBool d fun c => Q (.bl (!c))) E
def eIf (t : DTX) (a b : DX) : DX := fun env Q E => t env (fun c => if c = true then a env Q E else b env Q E) E
theorem eBool_of {d : Dt} {Q : Bool → Prop} (h : eBool d Q) : ∃ c, d = .bl c ∧ Q c := by
  cases d <;> first | exact ⟨_, rfl, h⟩ | exact h.elim
theorem de_andV (h : DE C ta ea) (k : DE C tb eb) : DE C (tAndV ta tb) (eAndV ea eb) := by
  intro X env σ H Q Qd Qx rp he q x
  refine h X env σ H _ _ Qx rp he (fun d v H1 f1 r1 he1 => ?_) x
  obtain ⟨c, rfl, he2⟩ := eBool_of he1
  refine ⟨c, r1.flat rfl, ?_⟩
  cases c with
  | true => rw [if_pos rfl] at he2 ⊢; exact k X env σ H1 Q Qd Qx (rp.step f1) he2 (fun d v H2 f2 h2 => q d v H2 (f1.trans f2) h2) (x.step f1)
  | false => rw [if_neg (by decide)] at he2 ⊢; exact q _ _ _ f1 (.bl _) he2
theorem de_orV (h : DE C ta ea) (k : DE C tb eb) : DE C (tOrV ta tb) (eOrV ea eb) := by
  intro X env σ H Q Qd Qx rp he q x
  refine h X env σ H _ _ Qx rp he (fun d v H1 f1 r1 he1 => ?_) x
  obtain ⟨c, rfl, he2⟩ := eBool_of he1
  refine ⟨c, r1.flat rfl, ?_⟩
  cases c with
  | false => rw [if_neg (by decide)] at he2 ⊢; exact k X env σ H1 Q Qd Qx (rp.step f1) he2 (fun d v H2 f2 h2 => q d v H2 (f1.trans f2) h2) (x.step f1)
  | true => rw [if_pos rfl] at he2 ⊢; exact q _ _ _ f1 (.bl _) he2
theorem dg_if {R : RR} [RRs R] (h : DT C t a) (k : DEg R C ta ea) (l : DEg R C tb eb) : DEg R C (tIf t ta tb) (eIf a ea eb) := by
  intro X env σ H Q Qd Qx rp he q x
  refine h X env σ H _ _ Qx rp he (fun c H1 f1 he1 => ?_) x
  cases c with
  | true => rw [if_pos rfl] at he1 ⊢; exact k X env σ H1 Q Qd Qx (rp.step f1) he1 (fun d v H2 f2 h2 => q d v H2 (f1.trans f2) (RRs.st rp f1 h2)) (x.step f1)
  | false => rw [if_neg (by decide)] at he1 ⊢; exact l X env σ H1 Q Qd Qx (rp.step f1) he1 (fun d v H2 f2 h2 => q d v H2 (f1.trans f2) (RRs.st rp f1 h2)) (x.step f1)
/-- a < b < c -/
def eChain (f g : D2) (a b c : DX) : DX := fun env Q E => a env (fun x => b env (fun y => f x y fun d => eBool d fun k => if k = true then c env (fun z => g y z Q) E else Q (.bl false)) E) E
end
end Mine

namespace Mine
open PySem PySem.Spec PyProof.Rows L2
/-! ### rows of expressions -/
inductive BorAll (C : Bc) (X : Addr → Prop) (H : Hp) : List V → List Dt → Prop
  | nil : BorAll C X H [] []
  | cons {v : V} {vs : List V} {d : Dt} {ds : List Dt} : Bor C X H H v d → BorAll C X H vs ds → BorAll C X H (v :: vs) (d :: ds)
inductive SlAll (K : PySem.W.Frag) (hd : Hnd) (X : Addr → Prop) (H : Hp) : List V → List Sl → Prop
  | nil : SlAll K hd X H [] []
  | d {v : V} {vs : List V} {x : Dt} {ss : List Sl} : Den K (vis H X) v x → SlAll K hd X H vs ss → SlAll K hd X H (v :: vs) (.d x :: ss)
  | hand {h c : Addr} {vs : List V} {ss : List Sl} : hd = some (h, c) → SlAll K hd X H vs ss → SlAll K hd X H (.ref h :: vs) (.hand :: ss)
theorem Bor.frm1 {C : Bc} {X : Addr → Prop} {env : List Sl} {σ : L2.St} {H H1 H2 H' : Hp} {v : V} {d : Dt} (r : Rep C X env σ H) (f : Frm C.hd H H') (h : Bor C X H1 H v d) : Bor C X H2 H' v d := h.frm r f
theorem SlAll.length {K : PySem.W.Frag} {hd : Hnd} {X : Addr → Prop} {H : Hp} : ∀ {vs : List V} {ss : List Sl}, SlAll K hd X H vs ss → vs.length = ss.length
  | _, _, .nil => rfl
  | _, _, .d _ r => by rw [List.length_cons, List.length_cons, r.length]
  | _, _, .hand _ r => by rw [List.length_cons, List.length_cons, r.length]
theorem SlAll.append {K : PySem.W.Frag} {hd : Hnd} {X : Addr → Prop} {H : Hp} : ∀ {vs us : List V} {ss ts : List Sl}, SlAll K hd X H vs ss → SlAll K hd X H us ts → SlAll K hd X H (vs ++ us) (ss ++ ts)
  | _, _, _, _, .nil, b => b
  | _, _, _, _, .d a r, b => .d a (r.append b)
  | _, _, _, _, .hand a r, b => .hand a (r.append b)
/-- args, by how they stand -/
def DAg {δ : Type} (A : Bc → (Addr → Prop) → Hp → List V → List δ → Prop) (C : Bc) (t : TA) (e : List Sl → (List δ → Prop) → (Xc → Prop) → Prop) : Prop :=
  ∀ X env σ H (Q : List V → Hp → Prop) (Qd : List δ → Prop) (Qx : Xc → Prop), Rep C X env σ H → e env Qd Qx → (∀ ds vs H', Frm C.hd H H' → A C X H' vs ds → Qd ds → Q vs H') → XOk C X σ H Qx → t σ H Q
def AC (C : Bc) (X : Addr → Prop) (H : Hp) (vs : List V) (ds : List Dt) : Prop := DenAll C.K (vis H X) vs ds
def AS (C : Bc) (X : Addr → Prop) (H : Hp) (vs : List V) (ss : List Sl) : Prop := SlAll C.K C.hd X H vs ss
abbrev DA := DAg AC
abbrev DAb := DAg BorAll
abbrev DAs := DAg AS
def eNil {δ : Type} : List Sl → (List δ → Prop) → (Xc → Prop) → Prop := fun _ Q _ => Q []
def eCons (a : DX) (r : DAX) : DAX := fun env Q E => a env (fun d => r env (fun ds => Q (d :: ds)) E) E
def eConsS (a : DX) (r : DSX) : DSX := fun env Q E => a env (fun d => r env (fun ds => Q (.d d :: ds)) E) E
def eConsH (i : Nat) (r : DSX) : DSX := fun env Q E => match env[i]? with
  | some .hand => r env (fun ds => Q (.hand :: ds)) E
  | _ => False
section
variable {C : Bc} {ta : TE} {tr : TA} {a : DX} {r : DAX} {rs : DSX}
theorem da_nil : DA C tNil eNil := fun X env σ H Q Qd Qx rp he q x => q [] [] H (.refl H) .nil he
theorem db_nil : DAb C tNil eNil := fun X env σ H Q Qd Qx rp he q x => q [] [] H (.refl H) .nil he
theorem ds_nil : DAs C tNil eNil := fun X env σ H Q Qd Qx rp he q x => q [] [] H (.refl H) .nil he
theorem da_cons (ha : DE C ta a) (hr : DA C tr r) : DA C (tCons ta tr) (eCons a r) := by
  intro X env σ H Q Qd Qx rp he q x
  refine ha X env σ H _ _ Qx rp he (fun d v H1 f1 r1 he1 => ?_) x
  have rp1 := rp.step f1
  exact hr X env σ H1 _ _ Qx rp1 he1 (fun ds vs H2 f2 r2 he2 => q _ _ H2 (f1.trans f2) (.cons (Den.mono (rp1.vs f2) r1) r2) he2) (x.step f1)
theorem db_cons (ha : DB C ta a) (hr : DAb C tr r) : DAb C (tCons ta tr) (eCons a r) := by
  intro X env σ H Q Qd Qx rp he q x
  refine ha X env σ H _ _ Qx rp he (fun d v H1 f1 r1 he1 => ?_) x
  have rp1 := rp.step f1
  exact hr X env σ H1 _ _ Qx rp1 he1 (fun ds vs H2 f2 r2 he2 => q _ _ H2 (f1.trans f2) (.cons (r1.frm1 rp1 f2) r2) he2) (x.step f1)
theorem ds_cons (ha : DE C ta a) (hr : DAs C tr rs) : DAs C (tCons ta tr) (eConsS a rs) := by
  intro X env σ H Q Qd Qx rp he q x
  refine ha X env σ H _ _ Qx rp he (fun d v H1 f1 r1 he1 => ?_) x
  have rp1 := rp.step f1
  exact hr X env σ H1 _ _ Qx rp1 he1 (fun ds vs H2 f2 r2 he2 => q _ _ H2 (f1.trans f2) (.d (Den.mono (rp1.vs f2) r1) r2) he2) (x.step f1)
theorem ds_hand {i : Nat} (hr : DAs C tr rs) : DAs C (tCons (tVar i) tr) (eConsH i rs) := by
  intro X env σ H Q Qd Qx rp he q x
  unfold eConsH at he
  split at he
  · rename_i e
    obtain ⟨o, e1, h, c, rfl, e2⟩ := rp.slot i _ e
    refine ⟨.ref h, e1, ?_⟩
    exact hr X env σ H _ _ Qx rp he (fun ds vs H2 f2 r2 he2 => q _ _ H2 f2 (.hand e2 r2) he2) x
  · exact he.elim
/-! ### displays -/
def eTup (r : DAX) : DX := fun env Q E => r env (fun ds => ds.length ≤ LINE ∧ Q (.tup ds)) E
def eLst (r : DAX) : DX := fun env Q E => r env (fun ds => ds.length ≤ LINE ∧ Q (.lst ds)) E
theorem de_tup (hr : DA C tr r) : DE C (tTup tr) (eTup r) := by
  intro X env σ H Q Qd Qx rp he q x
  refine hr X env σ H _ _ Qx rp he (fun ds vs H1 f1 r1 he1 => ?_) x
  have r1 : DenAll C.K (vis H1 X) vs ds := r1
  exact ⟨by rw [r1.length, sizeLine_eq]; exact he1.1, fun p hp => q _ _ _ (f1.trans (.upd hp)) (cln_new (H1 := H1) (rp.step f1) hp r1) he1.2⟩
theorem df_lst (hr : DA C tr r) : DF C (tLst tr) (eLst r) := by
  intro X env σ H Q Qd Qx rp he q x
  refine hr X env σ H _ _ Qx rp he (fun ds vs H1 f1 r1 he1 => ?_) x
  have r1 : DenAll C.K (vis H1 X) vs ds := r1
  exact ⟨by rw [r1.length, sizeLine_eq]; exact he1.1, fun p hp => q _ _ _ (f1.trans (.upd hp)) ((fsh_new (rp.step f1) hp r1).frm rp f1) he1.2⟩
end
/-! ### the empty dict -/
def eDk0 : DX := fun _ Q _ => Q (.dk [] [])
/-! ### x[i] -/
theorem IxR.k {X : Cx} {r : PySem.W.Frag → R2} (h : IxR X (r X.K)) {K : PySem.W.Frag} (e : X.K = K) : IxR X (r K) := e ▸ h
def dIx : D2 := fun a b Q => match a, b with
  | .lst xs, .int k => ∃ x, atI xs k = some x ∧ Q x
  | .tup xs, .int k => ∃ x, atI xs k = some x ∧ Q x
  | .str z, .int k => z.length ≤ LINE ∧ ∃ c, atI z.cps.toList k = some c ∧ Q (.str ⟨#[c]⟩)
  | _, _ => False
theorem DenAll.atI {K : PySem.W.Frag} {H : Hp} {vs : List V} {ds : List Dt} {k : Int} {x : Dt} (h : DenAll K H vs ds) (e : L2.atI ds k = some x) : ∃ v, L2.atI vs k = some v ∧ Den K H v x := by
  unfold L2.atI at e ⊢
  rw [h.length]
  cases q : ixN ds.length k with
  | none => rw [q] at e; cases e
  | some j =>
    rw [q] at e
    obtain ⟨v, h1, h2⟩ := h.get (show ds[j]? = some x from e)
    exact ⟨v, h1, h2⟩
section
variable {C : Bc}
theorem od_ix : OpD C (rIx C.K) dIx := by
  intro X env σ H H1 x y a b Q Qd rp r1 r2 he q
  unfold dIx at he
  split at he
  · obtain ⟨d, e, he⟩ := he
    obtain ⟨p, vs, rfl, h1, a1⟩ := r1.lst
    obtain ⟨v, e2, h2⟩ := a1.atI e
    exact .inl ⟨p, vs, _, v, rfl, r2.int, .inl (.inl h1), e2, q _ _ H (.refl H) h2 he⟩
  · obtain ⟨d, e, he⟩ := he
    obtain ⟨p, vs, rfl, h1, a1⟩ := r1.tup
    obtain ⟨v, e2, h2⟩ := a1.atI e
    exact .inr (.inl ⟨p, vs, _, v, rfl, r2.int, .inl (.inl h1), e2, q _ _ H (.refl H) h2 he⟩)
  · obtain ⟨hz, c, e, he⟩ := he
    exact .inr (.inr ⟨_, _, c, r1.str, r2.int, by rw [sizeLine_eq]; exact hz, e, q _ _ H (.refl H) (.str _) he⟩)
  · exact he.elim
end
/-! ### slices -/
def cutG {α : Type} (xs : List α) (lo hi : Option Int) : List α := (xs.drop (HT.sIx xs.length 0 lo)).take (HT.sIx xs.length xs.length hi - HT.sIx xs.length 0 lo)
theorem SlR.or {X : Cx} {r r' : V → Option Int → Option Int → Hp → VK → Prop} (h : SlR X r) (h' : SlR X r') : SlR X (fun x lo hi H Q => r x lo hi H Q ∨ r' x lo hi H Q) := by
  intro pins s σ H x v vl vu lo hi sl Q I rx hs pl pu q
  rcases q with q | q
  · exact h pins s σ H x v vl vu lo hi sl Q I rx hs pl pu q
  · exact h' pins s σ H x v vl vu lo hi sl Q I rx hs pl pu q
abbrev D3 := Dt → Option Int → Option Int → (Dt → Prop) → Prop
def dSl : D3 := fun a lo hi Q => match a with
  | .lst xs => Q (.lst (cutG xs lo hi))
  | .tup xs => Q (.tup (cutG xs lo hi))
  | .str z => z.length ≤ LINE ∧ Q (.str (cutS z lo hi))
  | _ => False
def dSlL : D3 := fun a lo hi Q => match a with
  | .lst xs => Q (.lst (cutG xs lo hi))
  | _ => False
def DOX := List Sl → (Option Int → Prop) → (Xc → Prop) → Prop
def eNoPart : DOX := fun _ Q _ => Q none
def ePart (e : DX) : DOX := fun env Q E => e env (fun d => match d with
  | .int i => Q (some i)
  | _ => False) E
def eSl (f : D3) (a : DX) (lo hi : DOX) : DX := fun env Q E => a env (fun d => lo env (fun l => hi env (fun u => f d l u Q) E) E) E
section
variable {C : Bc} {te tl : TE} {ea el : DX} {lo hi : DOX} {t1 t2 : TO} {r : V → Option Int → Option Int → Hp → VK → Prop} {f : D3}
/-! x[::-1] -/
def eRev (a : DX) : DX := fun env Q E => a env (fun d => match d with
  | .lst xs => Q (.lst xs.reverse)
  | .tup xs => Q (.tup xs.reverse)
  | _ => False) E
def eRevL (a : DX) : DX := fun env Q E => a env (fun d => match d with
  | .lst xs => Q (.lst xs.reverse)
  | _ => False) E
end
/-! ### built-ins -/
abbrev DL := List Dt → (Dt → Prop) → Prop
def CallG (R : RR) (C : Bc) (r : List V → Hp → VK → Prop) (f : DL) : Prop := ∀ X env σ H vs ds (Q : VK) (Qd : Dt → Prop), Rep C X env σ H → BorAll C X H vs ds → f ds Qd → (∀ d v H', Frm C.hd H H' → R C X H H' v d → Qd d → Q v H') → r vs H Q
def eCB (f : DL) (a : DAX) : DX := fun env Q E => a env (fun ds => f ds Q) E
theorem dg_cb {R : RR} [RRs R] {C : Bc} {r : List V → Hp → VK → Prop} {f : DL} {t : TA} {a : DAX} (hr : CallG R C r f) (ha : DAb C t a) : DEg R C (tCB r t) (eCB f a) := by
  intro X env σ H Q Qd Qx rp he q x
  refine ha X env σ H _ _ Qx rp he (fun ds vs H1 f1 r1 he1 => ?_) x
  exact hr X env σ H1 vs ds Q Qd (rp.step f1) r1 he1 fun d v H2 f2 h => q d v H2 (f1.trans f2) (RRs.st rp f1 h)
theorem CallR.or {X : Cx} {f : Value} {r r' : List V → Hp → VK → Prop} (h : CallR X f r) (h' : CallR X f r') : CallR X f (fun xs H Q => r xs H Q ∨ r' xs H Q) := fun pins s σ H xs us Q I rx q =>
  q.elim (h pins s σ H xs us Q I rx) (h' pins s σ H xs us Q I rx)
theorem BorAll.one {C : Bc} {X : Addr → Prop} {H : Hp} {vs : List V} {a : Dt} (h : BorAll C X H vs [a]) : ∃ v, vs = [v] ∧ Bor C X H H v a := by
  cases h with
  | cons a r => cases r; exact ⟨_, rfl, a⟩
theorem BorAll.two {C : Bc} {X : Addr → Prop} {H : Hp} {vs : List V} {a b : Dt} (h : BorAll C X H vs [a, b]) : ∃ v u, vs = [v, u] ∧ Bor C X H H v a ∧ Bor C X H H u b := by
  cases h with
  | cons a r =>
    obtain ⟨u, rfl, b⟩ := r.one
    exact ⟨_, _, rfl, a, b⟩
/-! len -/
def rLenD : List V → Hp → VK → Prop := fun xs H Q => ∃ a kvs, xs = [V.ref a] ∧ H a = some (.dK kvs) ∧ Q (.int kvs.length) H
def rLenSeq (K : PySem.W.Frag) : List V → Hp → VK → Prop := fun xs H Q => ∃ p ys, xs = [.ref p] ∧ (SqL K H p ys ∨ SqT K H p ys) ∧ Q (.int ys.length) H
def rLenStr : List V → Hp → VK → Prop := fun xs H Q => ∃ z, xs = [.str z] ∧ z.length ≤ sizeLine ∧ Q (.int z.length) H
def rLenU (K : PySem.W.Frag) : List V → Hp → VK → Prop := fun xs H Q => rLenSeq K xs H Q ∨ (rLenStr xs H Q ∨ rLenD xs H Q)
theorem call_lenU {X : Cx} {K : PySem.W.Frag} (e : X.K = K) : CallR X (.builtin "len") (rLenU K) := e ▸ CallR.or (r := rLenSeq X.K) call_len_seq (CallR.or (r := rLenStr) call_len_str call_lenD)
def dLen : DL := fun ds Q => match ds with
  | [.lst xs] => Q (.int xs.length)
  | [.tup xs] => Q (.int xs.length)
  | [.str z] => z.length ≤ LINE ∧ Q (.int z.length)
  | [.dk ks _] => Q (.int ks.length)
  | _ => False
section
variable {C : Bc}
theorem cg_len : CallG Cln C (rLenU C.K) dLen := by
  intro X env σ H vs ds Q Qd rp ra he q
  unfold dLen at he
  split at he
  · obtain ⟨v, rfl, r1⟩ := ra.one
    obtain ⟨p, vs, rfl, h1, a1⟩ := r1.lst
    exact .inl ⟨p, vs, rfl, .inl (.inl (.inl h1)), by rw [a1.length]; exact q _ _ H (.refl H) (.int _) he⟩
  · obtain ⟨v, rfl, r1⟩ := ra.one
    obtain ⟨p, vs, rfl, h1, a1⟩ := r1.tup
    exact .inl ⟨p, vs, rfl, .inr (.inl (.inl h1)), by rw [a1.length]; exact q _ _ H (.refl H) (.int _) he⟩
  · obtain ⟨v, rfl, r1⟩ := ra.one
    exact .inr (.inl ⟨_, by rw [r1.str], by rw [sizeLine_eq]; exact he.1, q _ _ H (.refl H) (.int _) he.2⟩)
  · obtain ⟨v, rfl, r1⟩ := ra.one
    obtain ⟨p, vs, rfl, h1, l, a1⟩ := r1.dk
    refine .inr (.inr ⟨p, _, rfl, h1, ?_⟩)
    rw [List.length_zip, l, Nat.min_self, ← l]
    exact q _ _ H (.refl H) (.int _) he
  · exact he.elim
end
/-! int, bool, str, abs -/
def rInt1 : List V → Hp → VK → Prop := fun xs H Q => (∃ i, xs = [.int i] ∧ Q (.int i) H) ∨ ∃ k, xs = [.bl k] ∧ Q (.int (if k then 1 else 0)) H
def rIntS : List V → Hp → VK → Prop := fun xs H Q => ∃ a n, xs = [.str a] ∧ PySem.intText? a = some n ∧ a.length ≤ 640 ∧ Q (.int n) H
def rIntU : List V → Hp → VK → Prop := fun xs H Q => rInt1 xs H Q ∨ rIntS xs H Q
theorem call_intU {X : Cx} : CallR X (.type "int") rIntU := CallR.or (r := rInt1) (r' := rIntS) call_int1 call_int_str
def dInt : DL := fun ds Q => match ds with
  | [.int i] => Q (.int i)
  | [.bl k] => Q (.int (if k then 1 else 0))
  | [.str z] => z.length ≤ 640 ∧ ∃ n, PySem.intText? z = some n ∧ Q (.int n)
  | _ => False
def dStr : DL := fun ds Q => match ds with
  | [.int i] => i.natAbs.log2 < 1920 ∧ Q (.str (toString i))
  | _ => False
def dAbs : DL := fun ds Q => match ds with
  | [.int i] => Q (.int (if i < 0 then -i else i))
  | _ => False
def dMax2 : DL := fun ds Q => match ds with
  | [.int i, .int j] => Q (.int (if j > i then j else i))
  | _ => False
def dMin2 : DL := fun ds Q => match ds with
  | [.int i, .int j] => Q (.int (if j < i then j else i))
  | _ => False
section
variable {C : Bc}
theorem cg_int : CallG Cln C rIntU dInt := by
  intro X env σ H vs ds Q Qd rp ra he q
  unfold dInt at he
  split at he
  · obtain ⟨v, rfl, r1⟩ := ra.one
    exact .inl (.inl ⟨_, by rw [r1.int], q _ _ H (.refl H) (.int _) he⟩)
  · obtain ⟨v, rfl, r1⟩ := ra.one
    exact .inl (.inr ⟨_, by rw [r1.bl], q _ _ H (.refl H) (.int _) he⟩)
  · obtain ⟨v, rfl, r1⟩ := ra.one
    obtain ⟨h1, n, h2, he⟩ := he
    exact .inr ⟨_, n, by rw [r1.str], h2, h1, q _ _ H (.refl H) (.int _) he⟩
  · exact he.elim
end
/-! tuple, list -/
def rTupOf (K : PySem.W.Frag) : List V → Hp → VK → Prop := fun xs H Q => ∃ p ys, xs = [.ref p] ∧ ((SqL K H p ys ∧ ∀ l, H l = none → Q (.ref l) (upd H l (.tup ys))) ∨ (SqT K H p ys ∧ Q (.ref p) H))
theorem call_tupU {X : Cx} {K : PySem.W.Frag} (e : X.K = K) : CallR X (.type "tuple") (rTupOf K) := e ▸ call_tuple_of
def dTupOf : DL := fun ds Q => match ds with
  | [.lst xs] => Q (.tup xs)
  | [.tup xs] => Q (.tup xs)
  | _ => False
def rLstOf (K : PySem.W.Frag) : List V → Hp → VK → Prop := fun xs H Q => ∃ p ys, xs = [.ref p] ∧ (SqL K H p ys ∨ SqT K H p ys) ∧ ∀ l, H l = none → Q (.ref l) (upd H l (.lst ys))
theorem call_lstU {X : Cx} {K : PySem.W.Frag} (e : X.K = K) : CallR X (.type "list") (rLstOf K) := e ▸ call_list_of
def dLstOf : DL := fun ds Q => match ds with
  | [.lst xs] => Q (.lst xs)
  | [.tup xs] => Q (.lst xs)
  | _ => False
section
variable {C : Bc}
theorem cg_tup : CallG Cln C (rTupOf C.K) dTupOf := by
  intro X env σ H vs ds Q Qd rp ra he q
  unfold dTupOf at he
  split at he
  · obtain ⟨v, rfl, r1⟩ := ra.one
    obtain ⟨p, vs, rfl, h1, a1⟩ := r1.lst
    exact ⟨p, vs, rfl, .inl ⟨.inl (.inl h1), fun l hl => q _ _ _ (.upd hl) (cln_new rp hl a1) he⟩⟩
  · obtain ⟨v, rfl, r1⟩ := ra.one
    obtain ⟨p, vs, rfl, h1, a1⟩ := r1.tup
    refine ⟨p, vs, rfl, .inr ⟨.inl (.inl h1), q _ _ H (.refl H) ?_ he⟩⟩
    rcases r1 with r1 | ⟨_, _, _, _, e2, _⟩
    · exact r1
    · cases e2
  · exact he.elim
theorem cg_lst : CallG Fsh C (rLstOf C.K) dLstOf := by
  intro X env σ H vs ds Q Qd rp ra he q
  unfold dLstOf at he
  split at he
  · obtain ⟨v, rfl, r1⟩ := ra.one
    obtain ⟨p, vs, rfl, h1, a1⟩ := r1.lst
    exact ⟨p, vs, rfl, .inl (.inl (.inl h1)), fun l hl => q _ _ _ (.upd hl) (fsh_new rp hl a1) he⟩
  · obtain ⟨v, rfl, r1⟩ := ra.one
    obtain ⟨p, vs, rfl, h1, a1⟩ := r1.tup
    exact ⟨p, vs, rfl, .inr (.inl (.inl h1)), fun l hl => q _ _ _ (.upd hl) (fsh_new rp hl a1) he⟩
  · exact he.elim
end
/-! sum -/
def dSum : DL := fun ds Q => match ds with
  | [.lst xs] => ∃ ns : List Int, xs = ns.map .int ∧ Q (.int ns.sum)
  | [.tup xs] => ∃ ns : List Int, xs = ns.map .int ∧ Q (.int ns.sum)
  | _ => False
section
variable {C : Bc}
theorem cg_sum : CallG Cln C (rSumA C.K) dSum := by
  intro X env σ H vs ds Q Qd rp ra he q
  unfold dSum at he
  split at he
  · obtain ⟨v, rfl, r1⟩ := ra.one
    obtain ⟨ns, rfl, he⟩ := he
    obtain ⟨p, vs, rfl, h1, a1⟩ := r1.lst
    rw [a1.ints_of] at h1
    exact ⟨p, ns, rfl, .inl (.inl (.inl h1)), q _ _ H (.refl H) (.int _) he⟩
  · obtain ⟨v, rfl, r1⟩ := ra.one
    obtain ⟨ns, rfl, he⟩ := he
    obtain ⟨p, vs, rfl, h1, a1⟩ := r1.tup
    rw [a1.ints_of] at h1
    exact ⟨p, ns, rfl, .inr (.inl (.inl h1)), q _ _ H (.refl H) (.int _) he⟩
  · exact he.elim
end
/-! max, min, sorted of a list of whole numbers -/
section
variable {C : Bc}
end
/-! isinstance -/
def Dt.kind : Dt → Option String
  | .non => some "NoneType"
  | .bl _ => some "bool"
  | .int _ => some "int"
  | .str _ => some "str"
  | .tup _ => some "tuple"
  | .lst _ => some "list"
  | .dk _ _ => some "dict"
  | .dt _ _ => some "dict"
  | _ => none
theorem Bor.tyx {C : Bc} {X : Addr → Prop} {H H1 : Hp} {v : V} {d : Dt} {n : String} (h : Bor C X H1 H v d) (e : d.kind = some n) : TyX C.K H v (.type n) := by
  cases d with
  | non => cases e; rw [h.non]; exact .base .non
  | bl b => cases e; rw [h.bl]; exact .base (.bl b)
  | int b => cases e; rw [h.int]; exact .base (.int b)
  | str b => cases e; rw [h.str]; exact .base (.str b)
  | tup xs => cases e; obtain ⟨p, vs, rfl, h1, _⟩ := h.tup; exact .base (.tup h1)
  | lst xs => cases e; obtain ⟨p, vs, rfl, h1, _⟩ := h.lst; exact .base (.lst h1)
  | dk ks ds => cases e; obtain ⟨p, vs, rfl, h1, _⟩ := h.dk; exact .base (.dK h1)
  | dt ks ds => cases e; obtain ⟨p, vs, rfl, h1, _⟩ := h.dt; exact .base (.dT h1)
  | ins _ _ _ => cases e
  | raw _ => cases e
/-- is of this built-in kind -/
def Dt.isa (T : String) (d : Dt) : Bool := match d.kind with
  | some n => n == T || (n == "bool" && T == "int")
  | none => false
def Known (T : String) : Prop := ∀ n, n ∈ ["NoneType", "bool", "int", "str", "tuple", "list", "dict"] → kitB n T = some (n == T || (n == "bool" && T == "int"))
theorem Dt.kind_mem {d : Dt} {n : String} (e : d.kind = some n) : n ∈ ["NoneType", "bool", "int", "str", "tuple", "list", "dict"] := by
  cases d <;> first | (cases e; done) | (injection e with e; subst e; decide)
theorem known_int : Known "int" := by unfold Known; decide +kernel
theorem known_bool : Known "bool" := by unfold Known; decide +kernel
theorem known_str : Known "str" := by unfold Known; decide +kernel
theorem known_tuple : Known "tuple" := by unfold Known; decide +kernel
theorem known_list : Known "list" := by unfold Known; decide +kernel
def dIsi (T : String) : DL := fun ds Q => match ds with
  | [x, .raw (.ty T')] => T' = T ∧ x.kind.isSome = true ∧ Q (.bl (x.isa T))
  | _ => False
def dIsi2 (T U : String) : DL := fun ds Q => match ds with
  | [x, .tup [.raw (.ty T'), .raw (.ty U')]] => T' = T ∧ U' = U ∧ x.kind.isSome = true ∧ Q (.bl (x.isa T || x.isa U))
  | _ => False
theorem call_isiU {X : Cx} {K : PySem.W.Frag} (e : X.K = K) : CallR X (.builtin "isinstance") (rIsi K) := e ▸ call_isi
theorem call_isiTU {X : Cx} {K : PySem.W.Frag} (e : X.K = K) : CallR X (.builtin "isinstance") (rIsiT K) := e ▸ call_isiT
section
variable {C : Bc}
theorem cg_isi {T : String} (k : Known T) : CallG Cln C (rIsi C.K) (dIsi T) := by
  intro X env σ H vs ds Q Qd rp ra he q
  unfold dIsi at he
  split at he
  · rename_i x T'
    obtain ⟨rfl, hk, he⟩ := he
    obtain ⟨v, u, rfl, r1, r2⟩ := ra.two
    obtain ⟨n, hn⟩ := Option.isSome_iff_exists.mp hk
    have k1 := k n (Dt.kind_mem hn)
    have e : ∀ T, x.isa T = (n == T || (n == "bool" && T == "int")) := fun T => by unfold Dt.isa; rw [hn]
    rw [e] at he
    refine ⟨v, _, _, _, _, by rw [r2.raw], .ty _, r1.tyx hn, kit_ty k1, q _ _ H (.refl H) (.bl _) he⟩
  · exact he.elim
theorem cg_isi2 {T U : String} (k : Known T) (k2 : Known U) : CallG Cln C (rIsiT C.K) (dIsi2 T U) := by
  intro X env σ H vs ds Q Qd rp ra he q
  unfold dIsi2 at he
  split at he
  · obtain ⟨rfl, rfl, hk, he⟩ := he
    obtain ⟨v, u, rfl, r1, r2⟩ := ra.two
    obtain ⟨n, hn⟩ := Option.isSome_iff_exists.mp hk
    obtain ⟨p, vs, rfl, h1, a1⟩ := r2.tup
    cases a1 with
    | cons d1 a1 =>
      cases a1 with
      | cons d2 a2 =>
        cases a2
        rw [d1.flat rfl, d2.flat rfl] at h1
        have k1 := k n (Dt.kind_mem hn)
        have k3 := k2 n (Dt.kind_mem hn)
        refine ⟨v, p, _, _, _, _, rfl, h1, .cons (.ty _) (.cons (.ty _) .nil), r1.tyx hn, kitAny_cons (b := _) (kit_ty k1) (fun e1 => kitAny_cons (kit_ty k3) (r := _) (fun e2 => ?_) fun e2 => ?_) fun e1 => ?_, q _ _ H (.refl H) (.bl _) he⟩
        · unfold Dt.isa; rw [hn]; dsimp only; rw [e1, e2]; rfl
        · unfold Dt.isa; rw [hn]; dsimp only; rw [e1, e2]; rfl
        · unfold Dt.isa; rw [hn]; dsimp only; rw [e1]; rfl
  · exact he.elim
end
end Mine

namespace Mine
open PySem PySem.Spec PyProof.Rows L2
/-! ### what is walked -/
/-- where what was seen at an iterator's making is seen still: in loops, in comprehensions -/
abbrev SS := Bc → (Addr → Prop) → Hp → (Addr → Prop) → Hp → Prop
def Strong : SS := fun C X H1 Y H => Same (vis H1 X) (vis H Y) ∧ ∀ a, Y a → ∃ o, H a = some o
def Weak : SS := fun C X H1 Y H => Frm C.hd H1 H ∧ (∀ h c, C.hd = some (h, c) → X h) ∧ (∀ a, Y a → X a ∨ H1 a = none) ∧ ∀ a, Y a → ∃ o, H a = some o
theorem Weak.strong {C : Bc} {X Y : Addr → Prop} {H1 H : Hp} (w : Weak C X H1 Y H) : Strong C X H1 Y H := by
  obtain ⟨f, hx, hy, al⟩ := w
  refine ⟨fun a o e => ?_, al⟩
  obtain ⟨n, h⟩ := vis_of e
  refine vis_mk (fun y => (hy a y).elim n fun z => by rw [z] at h; cases h) (f.1 a o h fun h' c e' q => n (q ▸ hx h' c e'))
/-- the iterator J yields the data ds -/
def WalkD (S : SS) (C : Bc) (X : Addr → Prop) (H1 : Hp) (J : It) (ds : List Dt) : Prop := ∀ (Y : Addr → Prop) (i : Nat) (H : Hp), S C X H1 Y H →
  (i < ds.length → J.go i H ∧ ∀ x H', J.yld i H x H' → Same H H' ∧ ∃ d, ds[i]? = some d ∧ Den C.K (vis H' Y) x d) ∧ (i = ds.length → J.stop i H)
theorem WalkD.weak {C : Bc} {X : Addr → Prop} {H1 : Hp} {J : It} {ds : List Dt} (w : WalkD Strong C X H1 J ds) : WalkD Weak C X H1 J ds := fun Y i H s => w Y i H s.strong
def DIg (S : SS) (C : Bc) (wi : TI) (e : DAX) : Prop := ∀ X env σ H (R : It → Hp → Prop) (Qd : List Dt → Prop) (Qx : Xc → Prop), Rep C X env σ H → e env Qd Qx →
  (∀ ds J H1, Frm C.hd H H1 → WalkD S C X H1 J ds → Qd ds → R J H1) → XOk C X σ H Qx → wi σ H R
theorem DIg.weak {C : Bc} {wi : TI} {e : DAX} (h : DIg Strong C wi e) : DIg Weak C wi e := fun X env σ H R Qd Qx rp he q x => h X env σ H R Qd Qx rp he (fun ds J H1 f w h => q ds J H1 f w.weak h) x
def eSeq (a : DX) : DAX := fun env Q E => a env (fun d => match d with
  | .lst xs => Q xs
  | .tup xs => Q xs
  | _ => False) E
def eRng1 (a : DAX) : DAX := fun env Q E => a env (fun ds => match ds with
  | [.int j] => (-(2 ^ 62) ≤ j ∧ j < 2 ^ 62) ∧ Q ((List.range j.toNat).map fun i => .int (i : Nat))
  | _ => False) E
def eRng2 (a : DAX) : DAX := fun env Q E => a env (fun ds => match ds with
  | [.int i, .int j] => (-(2 ^ 62) ≤ i ∧ i < 2 ^ 62 ∧ -(2 ^ 62) ≤ j ∧ j < 2 ^ 62) ∧ Q ((List.range (j - i).toNat).map fun k => .int (i + (k : Nat)))
  | _ => False) E
def eEnum (a : DAX) : DAX := fun env Q E => a env (fun ds => match ds with
  | [.lst xs] => Q (xs.mapIdx fun i x => .tup [.int (i : Nat), x])
  | [.tup xs] => Q (xs.mapIdx fun i x => .tup [.int (i : Nat), x])
  | _ => False) E
section
variable {C : Bc} {X : Addr → Prop} {H1 : Hp}
theorem walk_lst {S : SS} {p : Addr} {vs : List V} {ds : List Dt} (h : ∀ Y H, S C X H1 Y H → H p = some (.lst vs) ∧ DenAll C.K (vis H Y) vs ds) : WalkD S C X H1 (Itl C.K p) ds := by
  intro Y i H s
  obtain ⟨h1, a⟩ := h Y H s
  have hl := a.length
  refine ⟨fun hi => ⟨⟨vs, vs[i], .inl (.inl h1), by simp [hl ▸ hi]⟩, fun x H' ⟨e, hx⟩ => ?_⟩, fun hi => ⟨vs, .inl (.inl h1), by omega⟩⟩
  subst e
  exact ⟨Same.refl _, a.getV (hx vs (.inl (.inl h1)))⟩
theorem walk_tpl {S : SS} {p : Addr} {vs : List V} {ds : List Dt} (h : ∀ Y H, S C X H1 Y H → H p = some (.tup vs) ∧ DenAll C.K (vis H Y) vs ds) : WalkD S C X H1 (Itt C.K p) ds := by
  intro Y i H s
  obtain ⟨h1, a⟩ := h Y H s
  have hl := a.length
  refine ⟨fun hi => ⟨⟨vs, vs[i], .inl (.inl h1), by simp [hl ▸ hi]⟩, fun x H' ⟨e, hx⟩ => ?_⟩, fun hi => ⟨vs, .inl (.inl h1), by omega⟩⟩
  subst e
  exact ⟨Same.refl _, a.getV (hx vs (.inl (.inl h1)))⟩
/-- how a seen list, a seen tuple stays -/
theorem cln_lst {v : V} {ds : List Dt} (h : Den C.K (vis H1 X) v (.lst ds)) : ∃ p vs, v = .ref p ∧ H1 p = some (.lst vs) ∧ ∀ Y H, Strong C X H1 Y H → H p = some (.lst vs) ∧ DenAll C.K (vis H Y) vs ds := by
  cases h with
  | lst h a => exact ⟨_, _, rfl, vis_sub _ _ h, fun Y H s => ⟨vis_sub _ _ (s.1 _ _ h), a.mono s.1⟩⟩
theorem cln_tup {v : V} {ds : List Dt} (h : Den C.K (vis H1 X) v (.tup ds)) : ∃ p vs, v = .ref p ∧ H1 p = some (.tup vs) ∧ ∀ Y H, Strong C X H1 Y H → H p = some (.tup vs) ∧ DenAll C.K (vis H Y) vs ds := by
  cases h with
  | tup h a => exact ⟨_, _, rfl, vis_sub _ _ h, fun Y H s => ⟨vis_sub _ _ (s.1 _ _ h), a.mono s.1⟩⟩
theorem bor_lst {H0 : Hp} {v : V} {ds : List Dt} (h : Bor C X H0 H1 v (.lst ds)) : ∃ p vs, v = .ref p ∧ H1 p = some (.lst vs) ∧ ∀ Y H, Weak C X H1 Y H → H p = some (.lst vs) ∧ DenAll C.K (vis H Y) vs ds := by
  rcases h with h | ⟨p, vs, ds, rfl, e2, n, h1, h2⟩
  · obtain ⟨p, vs, e1, h1, k⟩ := cln_lst h
    exact ⟨p, vs, e1, h1, fun Y H s => k Y H s.strong⟩
  · cases e2
    exact ⟨p, vs, rfl, h1, fun Y H s => ⟨s.1.1 p _ h1 n, h2.mono s.strong.1⟩⟩
theorem bor_tup {H0 : Hp} {v : V} {ds : List Dt} (h : Bor C X H0 H1 v (.tup ds)) : ∃ p vs, v = .ref p ∧ H1 p = some (.tup vs) ∧ ∀ Y H, Weak C X H1 Y H → H p = some (.tup vs) ∧ DenAll C.K (vis H Y) vs ds := by
  rcases h with h | ⟨p, vs, ds, rfl, e2, n, h1, h2⟩
  · obtain ⟨p, vs, e1, h1, k⟩ := cln_tup h
    exact ⟨p, vs, e1, h1, fun Y H s => k Y H s.strong⟩
  · cases e2
end
/-- what a source must be: with all that is let, or a list of one's own -/
class Src (R : RR) (S : SS) : Prop where
  lst : ∀ {C : Bc} {X : Addr → Prop} {H0 H1 : Hp} {v : V} {ds : List Dt}, R C X H0 H1 v (.lst ds) → ∃ p vs, v = .ref p ∧ H1 p = some (.lst vs) ∧ ∀ Y H, S C X H1 Y H → H p = some (.lst vs) ∧ DenAll C.K (vis H Y) vs ds
  tup : ∀ {C : Bc} {X : Addr → Prop} {H0 H1 : Hp} {v : V} {ds : List Dt}, R C X H0 H1 v (.tup ds) → ∃ p vs, v = .ref p ∧ H1 p = some (.tup vs) ∧ ∀ Y H, S C X H1 Y H → H p = some (.tup vs) ∧ DenAll C.K (vis H Y) vs ds
  al : ∀ {C : Bc} {X Y : Addr → Prop} {H1 H : Hp}, S C X H1 Y H → ∀ a, Y a → ∃ o, H a = some o
instance : Src Cln Strong := ⟨fun h => cln_lst h, fun h => cln_tup h, fun s => s.2⟩
instance : Src Bor Weak := ⟨fun h => bor_lst h, fun h => bor_tup h, fun s => s.2.2.2⟩
section
variable {C : Bc} {R : RR} {S : SS} {tl : TE} {ta : TA} {el : DX} {ea : DAX}
theorem di_seq [Src R S] (h : DEg R C tl el) : DIg S C (iSeq C.K tl) (eSeq el) := by
  intro X env σ H Rr Qd Qx rp he q x
  refine h X env σ H _ _ Qx rp he (fun d v H1 f1 r1 he1 => ?_) x
  split at he1
  · obtain ⟨p, vs, rfl, h1, k⟩ := Src.lst (S := S) r1
    exact ⟨p, vs, rfl, .inl ⟨.inl (.inl h1), q _ _ H1 f1 (walk_lst k) he1⟩⟩
  · obtain ⟨p, vs, rfl, h1, k⟩ := Src.tup (S := S) r1
    exact ⟨p, vs, rfl, .inr ⟨.inl (.inl h1), q _ _ H1 f1 (walk_tpl k) he1⟩⟩
  · exact he1.elim
theorem walk_rng {X : Addr → Prop} {H1 : Hp} (lo : Int) (n : Nat) : WalkD S C X H1 (Itr lo n) ((List.range n).map fun k => .int (lo + (k : Nat))) := by
  intro Y i H s
  rw [List.length_map, List.length_range]
  refine ⟨fun hi => ⟨hi, fun x H' ⟨e, hx⟩ => ?_⟩, fun hi => Nat.le_of_eq hi.symm⟩
  subst e hx
  exact ⟨Same.refl _, _, by rw [List.getElem?_map, List.getElem?_range hi]; rfl, .int _⟩
theorem di_rng1 (h : DAb C ta ea) : DIg S C (iRng1 ta) (eRng1 ea) := by
  intro X env σ H Rr Qd Qx rp he q x
  refine h X env σ H _ _ Qx rp he (fun ds vs H1 f1 ra he1 => ?_) x
  split at he1
  · obtain ⟨v, rfl, r1⟩ := ra.one
    obtain ⟨⟨c1, c2⟩, he1⟩ := he1
    refine ⟨_, by rw [r1.int], c1, c2, q _ _ H1 f1 ?_ he1⟩
    have e : ∀ n : Nat, WalkD S C X H1 (Itr 0 n) ((List.range n).map fun i => .int (i : Nat)) := fun n => by
      have := walk_rng (S := S) (C := C) (X := X) (H1 := H1) 0 n
      simpa using this
    exact e _
  · exact he1.elim
theorem di_rng2 (h : DAb C ta ea) : DIg S C (iRng2 ta) (eRng2 ea) := by
  intro X env σ H Rr Qd Qx rp he q x
  refine h X env σ H _ _ Qx rp he (fun ds vs H1 f1 ra he1 => ?_) x
  split at he1
  · obtain ⟨v, u, rfl, r1, r2⟩ := ra.two
    obtain ⟨c, he1⟩ := he1
    exact ⟨_, _, by rw [r1.int, r2.int], c, q _ _ H1 f1 (walk_rng _ _) he1⟩
  · exact he1.elim
theorem walk_pair {X : Addr → Prop} {H1 : Hp} {J : It} {n : Nat} {G : Hp → Prop} {xs : List V} {ds : List Dt} (hal : ∀ {Y : Addr → Prop} {H : Hp}, S C X H1 Y H → ∀ a, Y a → ∃ o, H a = some o) (hn : ds.length = n)
    (w : Walk J n G (YPair (fun i => some (.int (i : Nat))) (fun i => xs[i]?))) (hs : ∀ i H, n ≤ i → G H → J.stop i H) (k : ∀ Y H, S C X H1 Y H → G H ∧ DenAll C.K (vis H Y) xs ds) :
    WalkD S C X H1 J (ds.mapIdx fun i x => .tup [.int (i : Nat), x]) := by
  intro Y i H s
  obtain ⟨g, a⟩ := k Y H s
  rw [List.length_mapIdx]
  refine ⟨fun hi => ⟨w.goes i H (hn ▸ hi) g, fun x H' hy => ?_⟩, fun hi => hs i H (by omega) g⟩
  obtain ⟨T, v, y, rfl, hT, rfl, ev, ey⟩ := w.yields i H x H' (hn ▸ hi) g hy
  dsimp only at ev ey
  cases ev
  obtain ⟨d, e, den⟩ := a.getV ey
  have nT : ¬ Y T := fun y => by
    obtain ⟨o, q⟩ := hal s T y
    rw [hT] at q; cases q
  refine ⟨same_upd hT, _, by rw [List.getElem?_mapIdx, e]; rfl, .tup (vis_mk nT upd_same) (.cons (.int _) (.cons (den.mono fun b o e => ?_) .nil))⟩
  obtain ⟨n1, e1⟩ := vis_of e
  exact vis_mk n1 (same_upd hT _ _ e1)
theorem di_enum [Src R S] (h : DEg R C tl el) : DIg S C (iEnumA C.K (tCons tl tNil)) (eEnum (eCons el eNil)) := by
  intro X env σ H Rr Qd Qx rp he q x
  refine h X env σ H _ _ Qx rp he (fun d v H1 f1 r1 he1 => ?_) x
  show ∃ a xs, [v] = [.ref a] ∧ _
  have he1 : (match [d] with
    | [.lst xs] => Qd (xs.mapIdx fun i x => .tup [.int (i : Nat), x])
    | [.tup xs] => Qd (xs.mapIdx fun i x => .tup [.int (i : Nat), x])
    | _ => False) := he1
  split at he1
  · rename_i e
    cases e
    obtain ⟨p, vs, rfl, h1, k⟩ := Src.lst (S := S) r1
    refine ⟨p, vs, rfl, .inl ⟨.inl (.inl h1), q _ _ H1 f1 ?_ he1⟩⟩
    intro Y i H2 s
    exact walk_pair (G := fun H => SqL C.K H p vs) (fun s => Src.al (R := R) s) (k Y H2 s).2.length.symm walk_enum (fun i H hi g => ⟨vs, g, hi⟩) (fun Y H s => ⟨.inl (.inl (k Y H s).1), (k Y H s).2⟩) Y i H2 s
  · rename_i e
    cases e
    obtain ⟨p, vs, rfl, h1, k⟩ := Src.tup (S := S) r1
    refine ⟨p, vs, rfl, .inr ⟨.inl (.inl h1), q _ _ H1 f1 ?_ he1⟩⟩
    intro Y i H2 s
    exact walk_pair (G := fun H => SqT C.K H p vs) (fun s => Src.al (R := R) s) (k Y H2 s).2.length.symm walk_enumT (fun i H hi g => ⟨vs, g, hi⟩) (fun Y H s => ⟨.inl (.inl (k Y H s).1), (k Y H s).2⟩) Y i H2 s
  · exact he1.elim
end
/-! ### targets -/
abbrev DGX := Dt → List Sl → (List Sl → Prop) → Prop
def DG (C : Bc) (g : TG) (js : List Nat) (f : DGX) : Prop := ∀ X env σ H x d (Q : L2.St → Hp → Prop) (Qd : List Sl → Prop), Rep C X env σ H → Den C.K (vis H X) x d → f d env Qd →
  (∀ env' σ', Rep C X env' σ' H → Qd env' → σ'.length = σ.length → (∀ k, k ∉ js → σ'[k]? = σ[k]?) → (∀ (k : Nat) (s : Sl), env'[k]? = some s → (∃ o a, Foot s o a) → env[k]? = some s ∧ σ'[k]? = σ[k]?) → Q σ' H) → g x σ H Q
def gD (j : Nat) : DGX := fun d env Q => Q (env.set j (.d d))
def gD2 (i j : Nat) : DGX := fun d env Q => match d with
  | .tup [a, b] => Q ((env.set i (.d a)).set j (.d b))
  | _ => False
def gD3 (i j k : Nat) : DGX := fun d env Q => match d with
  | .tup [a, b, c] => Q (((env.set i (.d a)).set j (.d b)).set k (.d c))
  | _ => False
section
variable {C : Bc} {X : Addr → Prop} {env : List Sl} {σ : L2.St} {H : Hp}
theorem Rep.set (r : Rep C X env σ H) (j : Nat) {x : V} {d : Dt} (h : Den C.K (Mine.vis H X) x d) : Rep C X (env.set j (.d d)) (σ.set j (.some x)) H where
  len := by rw [List.length_set, List.length_set, r.len]
  sup := r.sup
  new := r.new
  al := r.al
  frm := r.frm
  hands := r.hands
  slot := fun i s e => by
    rw [List.getElem?_set] at e ⊢
    by_cases c : j = i
    · subst c
      rw [if_pos rfl] at e ⊢
      by_cases hl : j < env.length
      · rw [if_pos hl] at e
        rw [if_pos (r.len ▸ hl)]
        cases e
        exact ⟨_, rfl, x, rfl, h⟩
      · rw [if_neg hl] at e; cases e
    · rw [if_neg c] at e ⊢
      exact r.slot i s e
  ap := r.ap.set fun _ f => f
  one := r.one.set fun _ _ _ z => by cases z
theorem own_set {env : List Sl} {σ : L2.St} {j : Nat} {x : Dt} {o : Option V} (k : Nat) (s : Sl) (e : (env.set j (.d x))[k]? = some s) (f : ∃ o a, Foot s o a) : env[k]? = some s ∧ (σ.set j o)[k]? = σ[k]? := by
  rw [List.getElem?_set] at e
  have a : j ≠ k := fun c => by
    subst c
    rw [if_pos rfl] at e
    split at e
    · cases e
      obtain ⟨_, _, f⟩ := f
      exact f
    · cases e
  rw [if_neg a] at e
  exact ⟨e, by rw [List.getElem?_set, if_neg a]⟩
theorem dg_name (j : Nat) : DG C (gName j) [j] (gD j) := by
  intro X env σ H x d Q Qd rp hd he q
  refine q _ _ (rp.set j hd) he (by rw [List.length_set]) (fun k hk => ?_) own_set
  have : j ≠ k := fun z => hk (by simp [z])
  rw [List.getElem?_set, if_neg this]
theorem Den.tupI {K : PySem.W.Frag} {H : Hp} {v : V} {ds : List Dt} (h : Den K H v (.tup ds)) : ∃ p vs, v = .ref p ∧ H p = some (.tup vs) ∧ DenAll K H vs ds := by
  cases h with
  | tup h a => exact ⟨_, _, rfl, h, a⟩
theorem dg_two (i j : Nat) : DG C (gTup C.K 2 (gCons (gName i) (gCons (gName j) gNil))) [i, j] (gD2 i j) := by
  intro X env σ H x d Q Qd rp hd he q
  unfold gD2 at he
  split at he
  · obtain ⟨p, vs, rfl, h1, a⟩ := hd.tupI
    cases a with
    | @cons v1 _ _ _ a1 a =>
      cases a with
      | @cons v2 _ _ _ a2 a =>
        cases a
        refine ⟨p, _, rfl, .inl (.inl (vis_sub _ _ h1)), rfl, v1, _, rfl, v2, _, rfl, rfl, ?_⟩
        refine q _ _ ((rp.set i a1).set j a2) he (by rw [List.length_set, List.length_set]) (fun k hk => ?_) (fun k xs e hf => by
          obtain ⟨a1, b1⟩ := own_set (σ := σ.set i (some v1)) (o := some v2) k xs e hf
          obtain ⟨a2, b2⟩ := own_set (σ := σ) (o := some v1) k xs a1 hf
          exact ⟨a2, b1.trans b2⟩)
        have e1 : i ≠ k := fun z => hk (by simp [z])
        have e2 : j ≠ k := fun z => hk (by simp [z])
        rw [List.getElem?_set, if_neg e2, List.getElem?_set, if_neg e1]
  · exact he.elim
/-! ### comprehensions -/
def wipeS (env : List Sl) : List Nat → List Sl
  | [] => env
  | v :: vs => (wipeS env vs).set v .no
theorem Rep.unset (r : Rep C X env σ H) (j : Nat) (o : Option V) : Rep C X (env.set j .no) (σ.set j o) H where
  len := by rw [List.length_set, List.length_set, r.len]
  sup := r.sup
  new := r.new
  al := r.al
  frm := r.frm
  hands := r.hands
  slot := fun i s e => by
    rw [List.getElem?_set] at e ⊢
    by_cases c : j = i
    · subst c
      rw [if_pos rfl] at e ⊢
      by_cases hl : j < env.length
      · rw [if_pos hl] at e
        rw [if_pos (r.len ▸ hl)]
        cases e
        exact ⟨_, rfl, trivial⟩
      · rw [if_neg hl] at e; cases e
    · rw [if_neg c] at e ⊢
      exact r.slot i s e
  ap := r.ap.set fun _ f => f
  one := r.one.set fun _ _ _ z => by cases z
theorem Rep.wiped (r : Rep C X env σ H) : ∀ vs : List Nat, Rep C X (wipeS env vs) (wipe σ vs) H
  | [] => r
  | v :: vs => (r.wiped vs).unset v none
theorem wipe_at (σ : L2.St) : ∀ (vs : List Nat) (k : Nat), (wipe σ vs)[k]? = if k ∈ vs ∧ k < σ.length then some none else σ[k]?
  | [], k => by simp [wipe]
  | v :: vs, k => by
    show ((wipe σ vs).set v none)[k]? = _
    rw [List.getElem?_set, wipe_length, wipe_at σ vs k]
    by_cases c : v = k
    · subst c
      by_cases hl : v < σ.length
      · rw [if_pos rfl, if_pos hl, if_pos ⟨List.mem_cons_self, hl⟩]
      · rw [if_pos rfl, if_neg hl, if_neg fun z => hl z.2]
        exact (List.getElem?_eq_none_iff.mpr (by omega)).symm
    · rw [if_neg c]
      have e : (k ∈ v :: vs ∧ k < σ.length) ↔ (k ∈ vs ∧ k < σ.length) := by
        rw [List.mem_cons]
        constructor
        · rintro ⟨z | z, h⟩
          · exact absurd z.symm c
          · exact ⟨z, h⟩
        · rintro ⟨z, h⟩; exact ⟨.inr z, h⟩
      simp only [e]
theorem wipe_of {σ σ' : L2.St} {vs : List Nat} (hl : σ'.length = (wipe σ vs).length) (hk : ∀ k, k ∉ vs → σ'[k]? = (wipe σ vs)[k]?) : wipe σ' vs = wipe σ vs := by
  refine List.ext_getElem? fun k => ?_
  rw [wipe_length] at hl
  rw [wipe_at, wipe_at]
  by_cases c : k ∈ vs
  · by_cases h : k < σ.length
    · rw [if_pos ⟨c, by omega⟩, if_pos ⟨c, h⟩]
    · rw [if_neg fun z => h (by omega), if_neg fun z => h z.2, List.getElem?_eq_none_iff.mpr (by omega), List.getElem?_eq_none_iff.mpr (by omega)]
  · rw [if_neg fun z => c z.1, if_neg fun z => c z.1, hk k c, wipe_at, if_neg fun z => c z.1]
/-- a new thing is hidden -/
theorem Rep.hide {D : Addr} {H2 : Hp} (r : Rep C X env σ H) (n : H D = none) (f : Frm C.hd H H2) (t : ∃ o, H2 D = some o) : Rep C (fun a => X a ∨ a = D) env σ H2 := by
  have r2 := r.step f
  have nD : ∀ a o, H a = some o → a ≠ D := fun a o e => ne_of_none e n
  have sm : Same (Mine.vis H X) (Mine.vis H2 fun a => X a ∨ a = D) := fun a o e => by
    obtain ⟨n1, e1⟩ := vis_of e
    exact vis_mk (fun z => z.elim n1 (nD a o e1)) (f.1 a o e1 fun h c e' q => n1 (q ▸ r.hX h c e'))
  refine ⟨r.len, fun a z => .inl (r.sup a z), fun a z => ?_, fun a z => ?_, r2.frm, r2.hands, fun i s e => ?_, r.ap, r.one⟩
  · rcases z with z | rfl
    · exact r.new a z
    · exact .inr (r.h0 n)
  · rcases z with z | rfl
    · exact r2.al a z
    · exact t
  · obtain ⟨o, e1, q⟩ := r.slot i s e
    refine ⟨o, e1, ?_⟩
    cases s with
    | no => trivial
    | d x => obtain ⟨v, e2, h⟩ := q; exact ⟨v, e2, h.mono sm⟩
    | own xs =>
      obtain ⟨p, vs, e2, x1, x2, h1, h2⟩ := q
      exact ⟨p, vs, e2, .inl x1, x2, f.1 p _ h1 (r.nh x2), h2.mono sm⟩
    | hand => exact q
    | exc c fs => exact q.exc sm
    | ins C0 ns ds =>
      obtain ⟨p, dx, vs, e2, x1, x2, h1, l, h2⟩ := q
      exact ⟨p, dx, vs, e2, .inl x1, x2, f.1 p _ h1 (r.nh x2), l, h2.mono sm⟩
    | tab p qs rows => exact q.tab_to (fun _ _ x => .inl x) (fun a ha u h => f.1 a u h (r.nh (q.2.1 a ha).2)) sm
end
def lcGo (f : DGX) (tt : DTX) (te : DX) (env : List Sl) (Q : Dt → Prop) : List Dt → List Dt → Prop
  | [], acc => Q (.lst acc)
  | x :: xs, acc => f x env fun env' => tt env' (fun b => if b = true then te env' (fun y => acc.length < LINE ∧ lcGo f tt te env Q xs (acc ++ [y])) (fun _ => False) else lcGo f tt te env Q xs acc) fun _ => False
def eLc (src : DAX) (f : DGX) (tt : DTX) (te : DX) (vs : List Nat) : DX := fun env Q E => src env (fun ds => lcGo f tt te (wipeS env vs) Q ds []) E
theorem xok_no {C : Bc} {X : Addr → Prop} {σ : L2.St} {H : Hp} : XOk C X σ H fun _ => False := fun _ _ _ _ _ _ z => z.elim
theorem frm_put {C : Bc} {X : Addr → Prop} {env : List Sl} {σ : L2.St} {H1 H : Hp} {D : Addr} {o : HO} (r : Rep C X env σ H1) (n : H1 D = none) (f : Frm C.hd H1 H) : Frm C.hd H1 (upd H D o) := by
  refine ⟨fun a u e k => ?_, fun h c e x => ?_⟩
  · rw [upd_ne (ne_of_none e n)]; exact f.1 a u e k
  · have x2 := f.2 h c e x
    obtain ⟨_, _, _, _, a1, a2, _⟩ := x
    obtain ⟨cells, at_, big, mix, b1, b2, b3⟩ := x2
    exact ⟨cells, at_, big, mix, by rw [upd_ne (ne_of_none a1 n)]; exact b1, by rw [upd_ne (ne_of_none a2 n)]; exact b2, b3⟩
theorem df_lc {C : Bc} {wi : TI} {g : TG} {tt : TT} {te : TE} {vs : List Nat} {src : DAX} {f : DGX} {et : DTX} {ee : DX} (hi : DIg Weak C wi src) (hg : DG C g vs f) (ht : DT C tt et) (he : DE C te ee) : DF C (tLc wi g tt te vs) (eLc src f et ee vs) := by
  intro X env σ H Q Qd Qx rp h q x
  refine hi X env σ H _ _ Qx rp h (fun ds J H1 f1 w h1 => ?_) x
  show ∀ D, H1 D = none → Lc J g tt te vs D σ H1 Q
  intro D hD
  have rp1 := rp.step f1
  let W : Nat → Nat → Hp → Prop := fun i m H2 => m + i = ds.length ∧ Frm C.hd H1 H2 ∧ ∃ acc us, H2 D = some (.lst us) ∧ DenAll C.K (vis H2 fun a => X a ∨ a = D) us acc ∧ lcGo f et ee (wipeS env vs) Qd (ds.drop i) acc
  refine ⟨W, ⟨ds.length, rfl, .upd hD, [], [], upd_same, .nil, h1⟩, fun i m H2 ⟨hm, f2, acc, us, hD2, a2, go⟩ => ?_⟩
  have rpY : Rep C (fun a => X a ∨ a = D) env σ H2 := rp1.hide hD f2 ⟨_, hD2⟩
  have rpW := rpY.wiped vs
  have sW : Weak C X H1 (fun a => X a ∨ a = D) H2 := ⟨f2, rp1.hX, fun a z => z.imp id fun (e : a = D) => by rw [e]; exact hD, rpY.al⟩
  have hw := w _ i H2 sW
  have nh : ∀ h c, C.hd = some (h, c) → D ≠ h := fun h c e z => by
    obtain ⟨_, _, _, _, q, _⟩ := (rp1.hands h c e).2.2
    rw [z, q] at hD; cases hD
  by_cases c : i < ds.length
  · obtain ⟨g1, g2⟩ := hw.1 c
    refine .inr ⟨g1, W (i + 1) (m - 1), fun H' hW => ⟨m - 1, by omega, hW⟩, fun y H3 hy => ?_⟩
    obtain ⟨s3, d, hd, den⟩ := g2 y H3 hy
    have ed : ds.drop i = d :: ds.drop (i + 1) := by
      rw [List.drop_eq_getElem_cons c]
      congr 1
      rw [List.getElem?_eq_getElem c] at hd
      exact Option.some.inj hd
    rw [ed] at go
    have step : ∀ H5, Frm C.hd H3 H5 → Frm C.hd H1 H5 ∧ H5 D = some (.lst us) ∧ DenAll C.K (vis H5 fun a => X a ∨ a = D) us acc := fun H5 f5 => by
      have f25 : Frm C.hd H2 H5 := (Frm.same s3).trans f5
      exact ⟨f2.trans f25, f25.1 D _ hD2 nh, a2.mono (rpY.vs f25)⟩
    refine hg _ _ _ H3 y d _ _ (rpW.step (.same s3)) den go fun env' σ' rp' he' hl hk _ => ⟨wipe_of hl hk, ?_⟩
    refine ht _ env' σ' H3 _ _ _ rp' he' (fun b H4 f4 hb => ?_) xok_no
    cases b with
    | false =>
      rw [if_neg (by decide)] at hb ⊢
      obtain ⟨k1, k2, k3⟩ := step H4 f4
      exact ⟨by omega, k1, acc, us, k2, k3, hb⟩
    | true =>
      rw [if_pos rfl] at hb ⊢
      refine he _ env' σ' H4 _ _ _ (rp'.step f4) hb (fun y2 v2 H5 f5 den5 hb5 => ?_) xok_no
      obtain ⟨k1, k2, k3⟩ := step H5 (f4.trans f5)
      have sv : Same (vis H5 fun a => X a ∨ a = D) (vis (upd H5 D (.lst (us ++ [v2]))) fun a => X a ∨ a = D) := fun a o e => by
        obtain ⟨n1, e1⟩ := vis_of e
        exact vis_mk n1 (by rw [upd_ne fun z => n1 (.inr z)]; exact e1)
      refine ⟨us, k2, by rw [k3.length, sizeLine_eq]; exact hb5.1, by omega, frm_put rp1 hD k1, acc ++ [y2], us ++ [v2], upd_same, (k3.snoc den5).mono sv, hb5.2⟩
  · have e : ds.drop i = [] := List.drop_eq_nil_of_le (by omega)
    rw [e] at go
    exact .inl ⟨hw.2 (by omega), q _ _ H2 (f1.trans f2) ⟨D, us, acc, rfl, rfl, f1.free (fun h c e => (rp.hands h c e).2.2) hD, hD2, a2⟩ go⟩
def eYes : DTX := fun _ Q _ => Q true
theorem dt_yes {C : Bc} : DT C tYes eYes := fun X env σ H Q Qd Qx rp he q x => q true H (.refl H) he
/-! ### calls of defs of one's own -/
abbrev DFn := List Sl → (Dt → Prop) → (Xc → Prop) → Prop
def spD (K : PySem.W.Frag) (F : DFn) : Sp := fun vs H Q E => ∃ (X : Addr → Prop) (hd : Hnd) (args : List Sl) (Qd : Dt → Prop) (Qx : Xc → Prop), (∀ a, X a → ∃ o, H a = some o) ∧ (∀ h c, hd = some (h, c) → X h ∧ HandC H h c) ∧ SlAll K hd X H vs args ∧ F args Qd Qx ∧
  (∀ d v H', Frm hd H H' → Den K (vis H' X) v d → Qd d → Q v H') ∧ (∀ x cls dx H', Frm hd H H' → XRep K (vis H' X) cls dx x → Qx x → E cls dx H')
def Dvs (dvs : List V) (dd : List Sl) : Prop := ∀ (K : PySem.W.Frag) (hd : Hnd) (X : Addr → Prop) (H : Hp), SlAll K hd X H dvs dd
theorem dv_nil : Dvs [] [] := fun _ _ _ _ => .nil
theorem dv_cons {v : V} {d : Dt} {vs : List V} {dd : List Sl} (e : d.flat = some v) (r : Dvs vs dd) : Dvs (v :: vs) (.d d :: dd) := fun K hd X H => .d (.of_flat e) (r K hd X H)
def eCall (F : DFn) (dd : List Sl) (a : DSX) : DX := fun env Q E => a env (fun ss => F (ss ++ dd) Q E) E
def eCall0 (F : DFn) (dd : List Sl) (a : DSX) : DX := fun env Q E => a env (fun ss => F (ss ++ dd) Q fun _ => False) E
section
variable {C : Bc} {F : DFn} {dvs : List V} {dd : List Sl} {t : TA} {a : DSX}
theorem spD_use {X : Addr → Prop} {env : List Sl} {σ : L2.St} {H : Hp} {vs : List V} {ss : List Sl} {Q : VK} {E : XK} {Qd : Dt → Prop} {Qx : Xc → Prop} (rp : Rep C X env σ H) (r : SlAll C.K C.hd X H vs ss) (h : F ss Qd Qx)
    (q : ∀ d v H', Frm C.hd H H' → Den C.K (vis H' X) v d → Qd d → Q v H') (x : ∀ x cls dx H', Frm C.hd H H' → XRep C.K (vis H' X) cls dx x → Qx x → E cls dx H') : spD C.K F vs H Q E :=
  ⟨X, C.hd, ss, Qd, Qx, rp.al, fun h c e => ⟨rp.hX h c e, (rp.hands h c e).2.2⟩, r, h, q, x⟩
theorem de_call0 (hd : Dvs dvs dd) (ha : DAs C t a) : DE C (tCall (spD C.K F) dvs E0 t) (eCall0 F dd a) := by
  intro X env σ H Q Qd Qx rp he q x
  refine ha X env σ H _ _ Qx rp he (fun ss vs H1 f1 r1 he1 => ?_) x
  exact spD_use (rp.step f1) (SlAll.append r1 (hd C.K C.hd X H1)) he1 (fun d v H' f h => q d v H' (f1.trans f) h) fun _ _ _ _ _ _ z => z.elim
theorem de_call {E : XK} (hE : C.E = fun _ => E) (hd : Dvs dvs dd) (ha : DAs C t a) : DE C (tCall (spD C.K F) dvs E t) (eCall F dd a) := by
  intro X env σ H Q Qd Qx rp he q x
  refine ha X env σ H _ _ Qx rp he (fun ss vs H1 f1 r1 he1 => ?_) x
  exact spD_use (rp.step f1) (SlAll.append r1 (hd C.K C.hd X H1)) he1 (fun d v H' f h => q d v H' (f1.trans f) h) fun y cls dx H' f r z => by
    have := x y cls dx H' (f1.trans f) r z
    rw [hE] at this
    exact this
end
end Mine

namespace Mine
open PySem PySem.Spec PyProof.Rows L2
/-! ### statements, by data -/
structure DEn where
  nx : List Sl → Prop
  rt : Dt → Prop
  bk : List Sl → Prop
  ct : List Sl → Prop
  xc : List Sl → Xc → Prop
abbrev DSt := DEn → List Sl → Prop
/-- what is wanted at the ends, from a place on -/
structure Lnk (C : Bc) (X : Addr → Prop) (H : Hp) (D : Ends) (d : DEn) : Prop where
  nx : ∀ X' env σ H', Rep C X' env σ H' → Same (vis H X) (vis H' X') → d.nx env → D.nx σ H'
  rt : ∀ X' env σ H' v x, Rep C X' env σ H' → Same (vis H X) (vis H' X') → Den C.K (vis H' X') v x → d.rt x → D.rt v H'
  bk : ∀ X' env σ H', Rep C X' env σ H' → Same (vis H X) (vis H' X') → d.bk env → D.bk σ H'
  ct : ∀ X' env σ H', Rep C X' env σ H' → Same (vis H X) (vis H' X') → d.ct env → D.ct σ H'
  xc : ∀ X' env σ H' x cls dx, Rep C X' env σ H' → Same (vis H X) (vis H' X') → XRep C.K (vis H' X') cls dx x → d.xc env x → C.E σ cls dx H'
def DS (C : Bc) (t : TS) (s : DSt) : Prop := ∀ X env σ H D d, Rep C X env σ H → Lnk C X H D d → s d env → t D σ H
section
variable {C : Bc} {X X1 : Addr → Prop} {env : List Sl} {σ : L2.St} {H H1 : Hp} {D : Ends} {d : DEn}
theorem Lnk.step (l : Lnk C X H D d) (s : Same (vis H X) (vis H1 X1)) : Lnk C X1 H1 D d where
  nx := fun X' env σ H' r k h => l.nx X' env σ H' r (s.trans k) h
  rt := fun X' env σ H' v x r k a h => l.rt X' env σ H' v x r (s.trans k) a h
  bk := fun X' env σ H' r k h => l.bk X' env σ H' r (s.trans k) h
  ct := fun X' env σ H' r k h => l.ct X' env σ H' r (s.trans k) h
  xc := fun X' env σ H' x cls dx r k a h => l.xc X' env σ H' x cls dx r (s.trans k) a h
theorem Lnk.xok (l : Lnk C X H D d) (r : Rep C X env σ H) : XOk C X σ H (d.xc env) := fun x cls dx H' f a h => l.xc X env σ H' x cls dx (r.step f) (r.vs f) a h
end
def sNext : DSt := fun d env => d.nx env
def sSeq (a b : DSt) : DSt := fun d env => a { d with nx := b d } env
def sDrop (e : DX) : DSt := fun d env => e env (fun _ => d.nx env) (d.xc env)
def sRet (e : DX) : DSt := fun d env => e env d.rt (d.xc env)
def sRetN : DSt := fun d _ => d.rt .non
def sIf (c : DTX) (a b : DSt) : DSt := fun d env => c env (fun k => if k = true then a d env else b d env) (d.xc env)
def sBreak : DSt := fun d env => d.bk env
def sCont : DSt := fun d env => d.ct env
def sAsg (e : DX) (f : DGX) : DSt := fun d env => e env (fun x => f x env d.nx) (d.xc env)
/-- name = a new list, a list of one's own from now on -/
def sOwn (j : Nat) (e : DX) : DSt := fun d env => e env (fun x => match x with
  | .lst xs => d.nx (env.set j (.own (.lst xs)))
  | _ => False) (d.xc env)
def sPar (i j : Nat) (a : DAX) : DSt := fun d env => a env (fun ds => match ds with
  | [x, y] => d.nx ((env.set i (.d x)).set j (.d y))
  | _ => False) (d.xc env)
def sPar3 (i j l : Nat) (a : DAX) : DSt := fun d env => a env (fun ds => match ds with
  | [x, y, z] => d.nx (((env.set i (.d x)).set j (.d y)).set l (.d z))
  | _ => False) (d.xc env)
def frz (env : List Sl) (i : Nat) : List Sl := match env[i]? with
  | some (.own w) => env.set i (.d w.fz)
  | _ => env
def sFrz (i : Nat) (s : DSt) : DSt := fun d env => s d (frz env i)
section
variable {C : Bc} {t u : TS} {a b : DSt} {te : TE} {e : DX} {c : TT} {ec : DTX} {ta : TA} {ea : DAX} {g : TG} {f : DGX} {js : List Nat}
theorem dst_next : DS C tNext sNext := fun X env σ H D d r l h => l.nx X env σ H r (Same.refl _) h
theorem dst_seq (ha : DS C t a) (hb : DS C u b) : DS C (tSeq t u) (sSeq a b) := by
  intro X env σ H D d r l h
  refine ha X env σ H { D with nx := u D } { d with nx := b d } r ⟨fun X' env' σ' H' r' k h' => ?_, l.rt, l.bk, l.ct, l.xc⟩ h
  exact hb X' env' σ' H' D d r' (l.step k) h'
theorem dst_drop (he : DE C te e) : DS C (tDrop te) (sDrop e) := fun X env σ H D d r l h =>
  he X env σ H _ _ _ r h (fun x v H1 f1 _ h1 => l.nx X env σ H1 (r.step f1) (r.vs f1) h1) (l.xok r)
theorem dst_ret (he : DE C te e) : DS C (tRet te) (sRet e) := fun X env σ H D d r l h =>
  he X env σ H _ _ _ r h (fun x v H1 f1 r1 h1 => l.rt X env σ H1 v x (r.step f1) (r.vs f1) r1 h1) (l.xok r)
theorem dst_if (hc : DT C c ec) (ha : DS C t a) (hb : DS C u b) : DS C (tIfS c t u) (sIf ec a b) := by
  intro X env σ H D d r l h
  refine hc X env σ H _ _ _ r h (fun k H1 f1 h1 => ?_) (l.xok r)
  cases k with
  | true => rw [if_pos rfl] at h1 ⊢; exact ha X env σ H1 D d (r.step f1) (l.step (r.vs f1)) h1
  | false => rw [if_neg (by decide)] at h1 ⊢; exact hb X env σ H1 D d (r.step f1) (l.step (r.vs f1)) h1
theorem dst_asg (he : DE C te e) (hg : DG C g js f) : DS C (tAsg te g) (sAsg e f) := by
  intro X env σ H D d r l h
  refine he X env σ H _ _ _ r h (fun x v H1 f1 r1 h1 => ?_) (l.xok r)
  exact hg X env σ H1 v x _ _ (r.step f1) r1 h1 fun env' σ' r' h' _ _ _ => l.nx X env' σ' H1 r' (r.vs f1) h'
end
/-! ### lists of one's own -/
section
variable {C : Bc} {X : Addr → Prop} {env : List Sl} {σ : L2.St} {H : Hp}
/-- slot j holds the new list p -/
theorem Rep.setOwn {H1 : Hp} {p : Addr} {vs : HO} {xs : Ow} (r : Rep C X env σ H) (f : Frm C.hd H H1) (n : H p = none) (j : Nat) (h1 : H1 p = some vs) (h2 : DenO C.K (vis H1 fun a => X a ∨ a = p) vs xs) :
    Rep C (fun a => X a ∨ a = p) (env.set j (.own xs)) (σ.set j (some (.ref p))) H1 := by
  have r0 := r.hide n f ⟨_, h1⟩
  refine ⟨by rw [List.length_set, List.length_set, r.len], r0.sup, r0.new, r0.al, r0.frm, r0.hands, fun i s e => ?_, r.ap.setF fun i t u a ne e1 e2 f1 f2 => ?_, r0.one.set fun _ _ _ z => by cases z⟩
  · rw [List.getElem?_set] at e ⊢
    by_cases c : j = i
    · subst c
      rw [if_pos rfl] at e ⊢
      by_cases hl : j < env.length
      · rw [if_pos hl] at e
        rw [if_pos (r.len ▸ hl)]
        cases e
        refine ⟨_, rfl, p, vs, rfl, .inr rfl, fun z => ?_, h1, h2⟩
        obtain ⟨o, e⟩ := r.al p (r.sup p z)
        rw [n] at e; cases e
      · rw [if_neg hl] at e; cases e
    · rw [if_neg c] at e ⊢
      exact r0.slot i s e
  · have : a = p := by injection f1 with f1; injection f1 with f1; exact f1.symm
    subst this
    exact r.nofoot n i t u e1 e2 f2
/-- the list in slot i is changed -/
theorem Rep.own {i : Nat} {p : Addr} {vs' : HO} {xs xs' : Ow} (r : Rep C X env σ H) (e : env[i]? = some (.own xs)) (es : σ[i]? = some (some (.ref p))) (x1 : X p) (x2 : ¬ C.X0 p) (h2 : DenO C.K (vis H X) vs' xs') :
    Rep C X (env.set i (.own xs')) σ (upd H p vs') ∧ Same (vis H X) (vis (upd H p vs') X) := by
  have sm : Same (vis H X) (vis (upd H p vs') X) := fun a o q => by
    obtain ⟨n1, e1⟩ := vis_of q
    exact vis_mk n1 (by rw [upd_ne (fun (z : a = p) => n1 (by rw [z]; exact x1))]; exact e1)
  have h0 : C.H0 p = none := (r.new p x1).resolve_left x2
  have fm : Frm C.hd C.H0 (upd H p vs') := by
    refine ⟨fun a u q k => ?_, fun h c q x => ?_⟩
    · rw [upd_ne (ne_of_none q h0)]; exact r.frm.1 a u q k
    · have y := r.frm.2 h c q x
      obtain ⟨_, _, _, _, a1, a2, _⟩ := x
      obtain ⟨cells, at_, big, mix, b1, b2, b3⟩ := y
      exact ⟨cells, at_, big, mix, by rw [upd_ne (ne_of_none a1 h0)]; exact b1, by rw [upd_ne (ne_of_none a2 h0)]; exact b2, b3⟩
  refine ⟨⟨by rw [List.length_set, r.len], r.sup, r.new, fun a z => ?_, fm, fun h c q => ⟨(r.hands h c q).1, (r.hands h c q).2.1, fm.2 h c q (r.hands h c q).2.1⟩, fun j s q => ?_, r.ap.setS fun o a e1 f => ⟨_, e, f⟩, r.one.set fun _ _ _ z => by cases z⟩, sm⟩
  · by_cases c : a = p
    · subst c; exact ⟨_, upd_same⟩
    · obtain ⟨o, q⟩ := r.al a z
      exact ⟨o, by rw [upd_ne c]; exact q⟩
  · rw [List.getElem?_set] at q
    by_cases c : i = j
    · subst c
      have hl : i < env.length := (List.getElem?_eq_some_iff.mp e).1
      rw [if_pos rfl, if_pos hl] at q
      cases q
      exact ⟨_, es, p, vs', rfl, x1, x2, upd_same, h2.mono sm⟩
    · rw [if_neg c] at q
      obtain ⟨o, e1, w⟩ := r.slot j s q
      refine ⟨o, e1, ?_⟩
      cases s with
      | no => trivial
      | d x => obtain ⟨v, e2, h⟩ := w; exact ⟨v, e2, h.mono sm⟩
      | own ys =>
        obtain ⟨p', us, rfl, y1, y2, y3, y4⟩ := w
        have ne : p' ≠ p := fun z => r.inj i j xs ys c e q (by rw [es, e1, z])
        exact ⟨p', us, rfl, y1, y2, by rw [upd_ne ne]; exact y3, y4.mono sm⟩
      | hand => exact w
      | exc c' fs => exact w.exc sm
      | ins C0 ns ds =>
        obtain ⟨p', dx, us, rfl, y1, y2, y3, yl, y4⟩ := w
        have ne : p' ≠ p := fun z => by
          obtain ⟨o2, es2, p2, us2, rfl, _, _, k2, k3⟩ := r.slot i _ e
          rw [es] at es2; cases es2
          rw [z, k2] at y3; cases y3; exact k3.noins
        exact ⟨p', dx, us, rfl, y1, y2, by rw [upd_ne ne]; exact y3, yl, y4.mono sm⟩
      | tab p2 qs rows => exact w.tab_to (fun _ _ x => x) (fun a ha u h => by rw [upd_ne (show a ≠ p from fun z => r.ap i j _ _ _ _ p c e q es e1 rfl (show p ∈ p2 :: qs from z ▸ ha))]; exact h) sm
/-- the list in slot i is no longer one's own -/
theorem Rep.frz (r : Rep C X env σ H) (i : Nat) : ∃ X', Rep C X' (frz env i) σ H ∧ Same (vis H X) (vis H X') := by
  unfold Mine.frz
  split
  · rename_i xs e
    obtain ⟨o, es, p, vs, rfl, x1, x2, h1, h2⟩ := r.slot i _ e
    have hl : i < env.length := (List.getElem?_eq_some_iff.mp e).1
    have sm : Same (vis H X) (vis H fun a => X a ∧ a ≠ p) := vis_anti fun a z => z.1
    refine ⟨fun a => X a ∧ a ≠ p, ⟨by rw [List.length_set, r.len], fun a z => ⟨r.sup a z, fun q => x2 (q ▸ z)⟩, fun a z => r.new a z.1, fun a z => r.al a z.1, r.frm, r.hands, fun j s q => ?_, r.ap.setS fun _ _ _ f => f.elim, r.one.set fun _ _ _ z => by cases z⟩, sm⟩
    · rw [List.getElem?_set] at q
      by_cases c : i = j
      · subst c
        rw [if_pos rfl, if_pos hl] at q
        cases q
        exact ⟨_, es, _, rfl, (h2.mono sm).fz (vis_mk (fun z => z.2 rfl) h1)⟩
      · rw [if_neg c] at q
        obtain ⟨o, e1, w⟩ := r.slot j s q
        refine ⟨o, e1, ?_⟩
        cases s with
        | no => trivial
        | d x => obtain ⟨v, e2, h⟩ := w; exact ⟨v, e2, h.mono sm⟩
        | own ys =>
          obtain ⟨p', us, rfl, y1, y2, y3, y4⟩ := w
          have ne : p' ≠ p := fun z => r.inj i j xs ys c e q (by rw [es, e1, z])
          exact ⟨p', us, rfl, ⟨y1, ne⟩, y2, y3, y4.mono sm⟩
        | hand => exact w
        | exc c' fs => exact w.exc sm
        | ins C0 ns ds =>
          obtain ⟨p', dx, us, rfl, y1, y2, y3, yl, y4⟩ := w
          have ne : p' ≠ p := fun z => by rw [z, h1] at y3; cases y3; exact h2.noins
          exact ⟨p', dx, us, rfl, ⟨y1, ne⟩, y2, y3, yl, y4.mono sm⟩
        | tab p2 qs rows => exact w.tab_to (fun a ha x => ⟨x, fun z => r.ap i j _ _ _ _ p c e q es e1 rfl (show p ∈ p2 :: qs from z ▸ ha)⟩) (fun _ _ _ h => h) sm
  · exact ⟨X, r, Same.refl _⟩
theorem Rep.ownAt (r : Rep C X env σ H) {i : Nat} {xs : List Dt} (e : env[i]? = some (.own (.lst xs))) : ∃ p vs, σ[i]? = some (some (.ref p)) ∧ X p ∧ ¬ C.X0 p ∧ H p = some (.lst vs) ∧ DenAll C.K (vis H X) vs xs := by
  obtain ⟨o, es, p, u, rfl, x1, x2, h1, h2⟩ := r.slot i _ e
  cases h2 with
  | @lst vs _ a => exact ⟨p, vs, es, x1, x2, h1, a⟩
end
/-- x.append(e) -/
def sApp (i : Nat) (e : DX) : DSt := fun d env => match env[i]? with
  | some (.own (.lst xs)) => e env (fun y => xs.length < LINE ∧ d.nx (env.set i (.own (.lst (xs ++ [y]))))) (d.xc env)
  | _ => False
/-- x.extend(e), e a list -/
def sExt (i : Nat) (e : DX) : DSt := fun d env => match env[i]? with
  | some (.own (.lst xs)) => e env (fun y => match y with
    | .lst ys => xs.length + ys.length ≤ LINE ∧ d.nx (env.set i (.own (.lst (xs ++ ys))))
    | _ => False) (d.xc env)
  | _ => False
/-- x.pop() -/
def sPop (i : Nat) : DSt := fun d env => match env[i]? with
  | some (.own (.lst xs)) => xs ≠ [] ∧ d.nx (env.set i (.own (.lst xs.dropLast)))
  | _ => False
/-- y = x.pop() -/
def sPopTo (i j : Nat) : DSt := fun d env => match env[i]? with
  | some (.own (.lst xs)) => ∃ y, xs[xs.length - 1]? = some y ∧ d.nx ((env.set i (.own (.lst xs.dropLast))).set j (.d y))
  | _ => False
/-- x[k] = e -/
def sPut (i : Nat) (ek e : DX) : DSt := fun d env => match env[i]? with
  | some (.own (.lst xs)) => e env (fun y => ek env (fun k => match k with
    | .int k => ∃ j, ixN xs.length k = some j ∧ d.nx (env.set i (.own (.lst (xs.set j y))))
    | _ => False) (d.xc env)) (d.xc env)
  | _ => False
/-- x[k] += e -/
def sAugP (f : Int → Int → Int) (i : Nat) (ek e : DX) : DSt := fun d env => match env[i]? with
  | some (.own (.lst xs)) => ek env (fun k => match k with
    | .int k => ∃ j z, ixN xs.length k = some j ∧ xs[j]? = some (.int z) ∧ e env (fun y => match y with
      | .int y => d.nx (env.set i (.own (.lst (xs.set j (.int (f z y))))))
      | _ => False) (d.xc env)
    | _ => False) (d.xc env)
  | _ => False
/-- x += e at a name that holds a whole number -/
def sAug (f : Int → Int → Int) (i : Nat) (e : DX) : DSt := fun d env => match env[i]? with
  | some (.d (.int x)) => e env (fun y => match y with
    | .int y => d.nx (env.set i (.d (.int (f x y))))
    | _ => False) (d.xc env)
  | _ => False
section
variable {C : Bc} {te tk : TE} {e ek : DX} {i : Nat}
theorem dst_own {j : Nat} (he : DF C te e) : DS C (tAsg te (gName j)) (sOwn j e) := by
  intro X env σ H D d r l h
  refine he X env σ H _ _ _ r h (fun x v H1 f1 r1 h1 => ?_) (l.xok r)
  obtain ⟨p, vs, ds, rfl, rfl, n, h2, h3⟩ := r1
  refine l.nx _ _ _ H1 (r.setOwn f1 n j h2 (.lst h3)) (fun a o q => ?_) h1
  obtain ⟨n1, e1⟩ := vis_of q
  exact vis_mk (fun z => z.elim n1 (ne_of_none e1 n)) (vis_of (r.vs f1 _ _ q)).2
theorem dst_frz {t : TS} {s : DSt} (i : Nat) (h : DS C t s) : DS C t (sFrz i s) := by
  intro X env σ H D d r l q
  obtain ⟨X', r', sm⟩ := r.frz i
  exact h X' _ σ H D d r' (l.step sm) q
theorem tyv_lst {K : PySem.W.Frag} {H : Hp} {p : Addr} {xs : List V} (h : H p = some (.lst xs)) : tyV K "list" (.ref p) H := .inl ⟨rfl, xs, .inl (.inl h)⟩
theorem dst_app (he : DE C te e) : DS C (tDrop (tBM C.K "list" rAppend (tVar i) (tCons te tNil))) (sApp i e) := by
  intro X env σ H D d r l h
  unfold sApp at h
  split at h
  · rename_i xs e1
    obtain ⟨p, vs, es, x1, x2, h1, h2⟩ := r.ownAt e1
    refine ⟨.ref p, es, tyv_lst h1, ?_⟩
    refine he X env σ H _ _ _ r h (fun y v H1 f1 r1 hy => ?_) (l.xok r)
    have k2 := h2.mono (r.vs f1)
    refine ⟨p, vs, v, rfl, rfl, f1.1 p _ h1 (r.nh x2), by rw [h2.length, sizeLine_eq]; exact hy.1, ?_⟩
    obtain ⟨r3, sm⟩ := (r.step f1).own e1 es x1 x2 (.lst (k2.snoc r1))
    exact l.nx _ _ _ _ r3 ((r.vs f1).trans sm) hy.2
  · exact h.elim
theorem dst_put (he : DE C te e) (hk : DE C tk ek) : DS C (tAsg te (gSub (tVar i) tk rSetL)) (sPut i ek e) := by
  intro X env σ H D d r l h
  unfold sPut at h
  split at h
  · rename_i xs e1
    refine he X env σ H _ _ _ r h (fun y v H1 f1 r1 hy => ?_) (l.xok r)
    have rp1 := r.step f1
    obtain ⟨p, vs, es, x1, x2, h1, h2⟩ := rp1.ownAt e1
    refine ⟨.ref p, es, ?_⟩
    refine hk X env σ H1 _ _ _ rp1 hy (fun k u H2 f2 r2 hk2 => ?_) ((l.xok r).step f1)
    split at hk2
    · obtain ⟨j, hj, hk2⟩ := hk2
      have k2 := h2.mono (rp1.vs f2)
      refine ⟨p, vs, _, j, rfl, r2.flat rfl, f2.1 p _ h1 (rp1.nh x2), by rw [h2.length]; exact hj, ?_⟩
      obtain ⟨r3, sm⟩ := (rp1.step f2).own e1 es x1 x2 (.lst (k2.set j (Den.mono (rp1.vs f2) r1)))
      exact l.nx _ _ _ _ r3 ((r.vs f1).trans ((rp1.vs f2).trans sm)) hk2
    · exact hk2.elim
  · exact h.elim
theorem dst_aug {f : Int → Int → Int} (he : DE C te e) : DS C (tAug i te (ipI f)) (sAug f i e) := by
  intro X env σ H D d r l h
  unfold sAug at h
  split at h
  · rename_i x e1
    obtain ⟨v, es, dv⟩ := r.at e1
    have ev : v = .int x := dv.flat rfl
    subst ev
    refine ⟨_, es, ?_⟩
    refine he X env σ H _ _ _ r h (fun y v H1 f1 r1 hy => ?_) (l.xok r)
    split at hy
    · exact ⟨x, _, rfl, r1.flat rfl, l.nx _ _ _ _ ((r.step f1).set i (.int _)) (r.vs f1) hy⟩
    · exact hy.elim
  · exact h.elim
end
/-! ### loops -/
def dFor (f : DGX) (b : DSt) (d : DEn) : List Dt → List Sl → Prop
  | [], env => d.nx env
  | x :: xs, env => f x env fun env' => b { d with nx := dFor f b d xs, ct := dFor f b d xs, bk := d.nx } env'
def sFor (src : DAX) (f : DGX) (b : DSt) : DSt := fun d env => src env (fun ds => dFor f b d ds env) (d.xc env)
/-- what a while is asked: an invariant that falls -/
def sWhile (c : DTX) (b : DSt) : DSt := fun d env => ∃ (I : Nat → List Sl → Prop) (m0 : Nat), I m0 env ∧ ∀ m env, I m env → c env (fun k => if k = true then b { d with nx := fun e => ∃ m', m' < m ∧ I m' e, ct := fun e => ∃ m', m' < m ∧ I m' e, bk := d.nx } env else d.nx env) (d.xc env)
section
variable {C : Bc} {wi : TI} {g : TG} {tb : TS} {src : DAX} {f : DGX} {b : DSt} {js : List Nat} {tc : TT} {ec : DTX}
theorem dst_for (hi : DIg Strong C wi src) (hg : DG C g js f) (hb : DS C tb b) : DS C (tFor wi g tb) (sFor src f b) := by
  intro X env σ H D d r l h
  refine hi X env σ H _ _ _ r h (fun ds J H1 f1 w h1 => ?_) (l.xok r)
  have rp1 := r.step f1
  have l1 := l.step (r.vs f1)
  let W : Nat → Nat → L2.St → Hp → Prop := fun i m σ2 H2 => m + i = ds.length ∧ ∃ X2 env2, Rep C X2 env2 σ2 H2 ∧ Same (vis H1 X) (vis H2 X2) ∧ dFor f b d (ds.drop i) env2
  refine ⟨W, ⟨ds.length, rfl, X, env, rp1, Same.refl _, h1⟩, fun i m σ2 H2 ⟨hm, X2, env2, r2, s2, go⟩ => ?_⟩
  have hw := w X2 i H2 ⟨s2, r2.al⟩
  by_cases c : i < ds.length
  · obtain ⟨g1, g2⟩ := hw.1 c
    refine .inr ⟨g1, W (i + 1) (m - 1), fun σ' H' hW => ⟨m - 1, by omega, hW⟩, fun y H3 hy => ?_⟩
    obtain ⟨s3, x, hx, den⟩ := g2 y H3 hy
    have ed : ds.drop i = x :: ds.drop (i + 1) := by
      rw [List.drop_eq_getElem_cons c]
      congr 1
      rw [List.getElem?_eq_getElem c] at hx
      exact Option.some.inj hx
    rw [ed] at go
    have r3 := r2.step (.same s3)
    have s13 : Same (vis H1 X) (vis H3 X2) := s2.trans (r2.vs (.same s3))
    refine hg X2 env2 σ2 H3 y x _ _ r3 den go fun env' σ' r' h' _ _ _ => ?_
    refine hb X2 env' σ' H3 _ { d with nx := dFor f b d (ds.drop (i + 1)), ct := dFor f b d (ds.drop (i + 1)), bk := d.nx } r' ⟨fun X4 env4 σ4 H4 r4 s4 h4 => ⟨by omega, X4, env4, r4, s13.trans s4, h4⟩, fun X4 env4 σ4 H4 v z r4 s4 a h4 => l1.rt X4 env4 σ4 H4 v z r4 (s13.trans s4) a h4,
      fun X4 env4 σ4 H4 r4 s4 h4 => l1.nx X4 env4 σ4 H4 r4 (s13.trans s4) h4, fun X4 env4 σ4 H4 r4 s4 h4 => ⟨by omega, X4, env4, r4, s13.trans s4, h4⟩, fun X4 env4 σ4 H4 z cls dx r4 s4 a h4 => l1.xc X4 env4 σ4 H4 z cls dx r4 (s13.trans s4) a h4⟩ h'
  · have e : ds.drop i = [] := List.drop_eq_nil_of_le (by omega)
    rw [e] at go
    exact .inl ⟨hw.2 (by omega), l1.nx X2 env2 σ2 H2 r2 s2 go⟩
theorem dst_while (hc : DT C tc ec) (hb : DS C tb b) : DS C (tWhile tc tb) (sWhile ec b) := by
  intro X env σ H D d r l ⟨I, m0, i0, turn⟩
  let W : Nat → L2.St → Hp → Prop := fun m σ2 H2 => ∃ X2 env2, Rep C X2 env2 σ2 H2 ∧ Same (vis H X) (vis H2 X2) ∧ I m env2
  refine ⟨W, ⟨m0, X, env, r, Same.refl _, i0⟩, fun m σ2 H2 ⟨X2, env2, r2, s2, i2⟩ => ?_⟩
  have l2 := l.step s2
  refine hc X2 env2 σ2 H2 _ _ _ r2 (turn m env2 i2) (fun k H3 f3 h3 => ?_) (l2.xok r2)
  have r3 := r2.step f3
  have s13 : Same (vis H X) (vis H3 X2) := s2.trans (r2.vs f3)
  cases k with
  | false => rw [if_neg (by decide)] at h3 ⊢; exact l.nx X2 env2 σ2 H3 r3 s13 h3
  | true =>
    rw [if_pos rfl] at h3 ⊢
    refine ⟨fun σ' H' => ∃ m', m' < m ∧ W m' σ' H', fun σ' H' h => h, ?_⟩
    exact hb X2 env2 σ2 H3 _ { d with nx := fun e => ∃ m', m' < m ∧ I m' e, ct := fun e => ∃ m', m' < m ∧ I m' e, bk := d.nx } r3 ⟨fun X4 env4 σ4 H4 r4 s4 ⟨m', a, h4⟩ => ⟨m', a, X4, env4, r4, s13.trans s4, h4⟩, fun X4 env4 σ4 H4 v z r4 s4 a h4 => l.rt X4 env4 σ4 H4 v z r4 (s13.trans s4) a h4,
      fun X4 env4 σ4 H4 r4 s4 h4 => l.nx X4 env4 σ4 H4 r4 (s13.trans s4) h4, fun X4 env4 σ4 H4 r4 s4 ⟨m', a, h4⟩ => ⟨m', a, X4, env4, r4, s13.trans s4, h4⟩, fun X4 env4 σ4 H4 z cls dx r4 s4 a h4 => l.xc X4 env4 σ4 H4 z cls dx r4 (s13.trans s4) a h4⟩ h3
end
end Mine

namespace Mine
open PySem PySem.Spec PyProof.Rows L2
/-! ### raise -/
def sRaise (c : Str) : DSt := fun d env => d.xc env ⟨c, []⟩
def sRaise1 (c f : Str) (e : DX) : DSt := fun d env => e env (fun x => match x.flat with
  | some u => d.xc env ⟨c, [(f, u)]⟩
  | none => False) (d.xc env)
section
variable {C : Bc} {W : WX} {te : TE} {e : DX} {c f : Str}
theorem dst_raise (hW : C.E = WE W) : DS C (fun _ σ H => W (.ref (He.ga C.K c)) none σ H) (sRaise c) := by
  intro X env σ H D d r l h
  have := l.xc X env σ H ⟨c, []⟩ (.ref (He.ga C.K c)) none r (Same.refl _) ⟨rfl, rfl⟩ h
  rw [hW] at this
  exact this
theorem dst_raise1 (hW : C.E = WE W) (he : DE C te e) : DS C (fun _ σ H => tMk1 (He.ga C.K c) f te σ H fun cls d H' => W cls d σ H') (sRaise1 c f e) := by
  intro X env σ H D d r l h
  refine he X env σ H _ _ _ r h (fun x v H1 f1 r1 h1 => ?_) (l.xok r)
  split at h1
  · rename_i u eu
    have ev : v = u := Den.flat r1 eu
    subst ev
    intro dd H' s n hd
    have r2 := r.step f1
    have r3 : Rep C X env σ H' := r2.step (.same s)
    have := l.xc X env σ H' ⟨c, [(f, v)]⟩ (.ref (He.ga C.K c)) (some dd) r3 ((r.vs f1).trans (r2.vs (.same s))) ⟨rfl, dd, rfl, vis_mk (r2.free n) hd⟩ h1
    rw [hW] at this
    exact this
  · exact h1.elim
end
/-! ### try -/
def clr : Sl → Sl
  | .exc _ _ => .no
  | s => s
def bindS (env : List Sl) (o : Option Nat) (x : Xc) : List Sl := match o with
  | none => env.map clr
  | some i => (env.map clr).set i (.exc x.cls x.fs)
def endS (d : DEn) : Option Nat → DEn
  | none => { d with xc := fun _ _ => False }
  | some i => { nx := fun e => d.nx (e.set i .no), rt := d.rt, bk := fun e => d.bk (e.set i .no), ct := fun e => d.ct (e.set i .no), xc := fun _ _ => False }
/-- the clauses; mt: what is an instance of what -/
def dHs (mt : Str → Str → Option Bool) : List (Str × Option Nat × DSt) → DEn → List Sl → Xc → Prop
  | [], d, env, x => d.xc env x
  | (c, o, s) :: r, d, env, x => ∃ b, mt x.cls c = some b ∧ (if b = true then s (endS d o) (bindS env o x) else dHs mt r d env x)
def sTry (mt : Str → Str → Option Bool) (b : DSt) (hs : List (Str × Option Nat × DSt)) : DSt := fun d env => b { d with xc := fun e x => dHs mt hs d e x } env
abbrev Bc.wX (C : Bc) (a : Addr) (cls : Value) (d : Option Addr) : Bc := { C with ex := some (a, cls, d) }
inductive HsOk (C : Bc) : List (Value × Option Nat × Suit) → List (Str × Option Nat × DSt) → Prop
  | nil : HsOk C [] []
  | cons {c : Str} {o : Option Nat} {ts : Suit} {s : DSt} {l : List (Value × Option Nat × Suit)} {hs : List (Str × Option Nat × DSt)} (h : ∀ a cls d, DS (C.wX a cls d) (ts a cls d) s) (r : HsOk C l hs) : HsOk C ((.ref (He.ga C.K c), o, ts) :: l) ((c, o, s) :: hs)
section
variable {C : Bc} {X : Addr → Prop} {env : List Sl} {σ : L2.St} {H : Hp}
/-! ### the exception in hand -/
def Dt.ofV : V → Dt
  | .non => .non
  | .bl b => .bl b
  | .int i => .int i
  | .str x => .str x
  | v => .raw v
/-- e.f, e of the class c -/
def eXf (i : Nat) (c f : Str) : DX := fun env Q _ => match env[i]? with
  | some (.exc c' fs) => c' = c ∧ ∃ u, fs.lookup f = some u ∧ Q (Dt.ofV u)
  | _ => False
/-- isinstance(e, C) -/
def eIsX (i : Nat) (tab : Str → Option Bool) : DX := fun env Q _ => match env[i]? with
  | some (.exc c fs) => ∃ b, tab c = some b ∧ Q (.bl b)
  | _ => False
end
/-! ### a def by its data -/
/-- np parameters, N names in all -/
def mkD (np N : Nat) (s : DSt) : DFn := fun args Q E => args.length = np ∧ s ⟨fun _ => Q .non, Q, fun _ => False, fun _ => False, fun _ x => E x⟩ (args ++ List.replicate (N - np) .no)
def mkD0 (np N : Nat) (s : DSt) : DFn := fun args Q E => args.length = np ∧ s ⟨fun _ => Q .non, Q, fun _ => False, fun _ => False, fun _ _ => False⟩ (args ++ List.replicate (N - np) .no)
theorem spD_len {K : PySem.W.Frag} {F : DFn} {np : Nat} (hF : ∀ args Q E, F args Q E → args.length = np) : ∀ vs H Q E, spD K F vs H Q E → vs.length = np := by
  rintro vs H Q E ⟨X, hd, args, Qd, Qx, _, _, sl, h, _⟩
  rw [sl.length]; exact hF _ _ _ h
/-- where a body begins -/
theorem rep_start {K : PySem.W.Frag} {X : Addr → Prop} {hd : Hnd} {H : Hp} {E : L2.St → XK} {vs : List V} {args : List Sl} {N : List Str} (al : ∀ a, X a → ∃ o, H a = some o) (hh : ∀ h c, hd = some (h, c) → X h ∧ HandC H h c) (sl : SlAll K hd X H vs args) :
    Rep ⟨K, H, X, hd, none, E, none⟩ X (args ++ List.replicate (N.length - args.length) .no) (L2.start N vs) H := by
  have hl := sl.length
  have slots : ∀ {vs : List V} {args : List Sl}, SlAll K hd X H vs args → ∀ (i : Nat) (s : Sl), args[i]? = some s → (∃ o, (vs.map some)[i]? = some o ∧ SlRep ⟨K, H, X, hd, none, E, none⟩ X H s o) ∧ ∀ o a, ¬ Foot s o a := by
    intro vs args sl
    induction sl with
    | nil => intro i s e; simp at e
    | d a r ih =>
      intro i s e
      cases i with
      | zero => simp at e; subst e; exact ⟨⟨_, rfl, _, rfl, a⟩, fun _ _ f => f⟩
      | succ i =>
        obtain ⟨⟨o, q⟩, n⟩ := ih i s (by simpa using e)
        exact ⟨⟨o, by simpa using q⟩, n⟩
    | hand a r ih =>
      intro i s e
      cases i with
      | zero => simp at e; subst e; exact ⟨⟨_, rfl, _, _, rfl, a⟩, fun _ _ f => f⟩
      | succ i =>
        obtain ⟨⟨o, q⟩, n⟩ := ih i s (by simpa using e)
        exact ⟨⟨o, by simpa using q⟩, n⟩
  have slotsI : ∀ {vs : List V} {args : List Sl}, SlAll K hd X H vs args → ∀ (i : Nat) (C0 : Str) (ns : List Str) (ds : List Dt), args[i]? ≠ some (.ins C0 ns ds) := by
    intro vs args sl
    induction sl with
    | nil => intro i C0 ns ds e; simp at e
    | d a r ih =>
      intro i C0 ns ds e
      cases i with
      | zero => simp at e
      | succ i => exact ih i C0 ns ds (by simpa using e)
    | hand a r ih =>
      intro i C0 ns ds e
      cases i with
      | zero => simp at e
      | succ i => exact ih i C0 ns ds (by simpa using e)
  have noins : ∀ (i : Nat) (C0 : Str) (ns : List Str) (ds : List Dt), (args ++ List.replicate (N.length - args.length) Sl.no)[i]? ≠ some (.ins C0 ns ds) := fun i C0 ns ds e => by
    rw [List.getElem?_append] at e
    split at e
    · exact slotsI sl i C0 ns ds e
    · rw [List.getElem?_replicate] at e
      split at e <;> cases e
  have noown : ∀ (i : Nat) (s : Sl), (args ++ List.replicate (N.length - args.length) Sl.no)[i]? = some s → ∀ o a, ¬ Foot s o a := fun i s e => by
    rw [List.getElem?_append] at e
    split at e
    · exact (slots sl i _ e).2
    · rw [List.getElem?_replicate] at e
      split at e
      · cases e; exact fun _ _ f => f
      · cases e
  refine ⟨?_, fun a z => z, fun a z => .inl z, al, .refl H, fun h c e => ⟨(hh h c e).1, (hh h c e).2, (hh h c e).2⟩, fun i s e => ?_, .none noown, fun i ⟨C0, ns, ds, e⟩ => absurd e (noins i C0 ns ds)⟩
  · unfold L2.start
    rw [List.length_append, List.length_append, List.length_replicate, List.length_replicate, List.length_map, hl]
  · unfold L2.start
    rw [List.getElem?_append] at e ⊢
    rw [List.length_map, hl]
    split at e
    · rename_i c
      rw [if_pos c]
      obtain ⟨⟨o, q⟩, _⟩ := slots sl i s e
      exact ⟨o, q⟩
    · rename_i c
      rw [if_neg c]
      rw [List.getElem?_replicate] at e ⊢
      split at e
      · rename_i c2
        cases e
        rw [if_pos c2]
        exact ⟨_, rfl, trivial⟩
      · cases e
/-- the reading of a whole body -/
theorem body_of {K : PySem.W.Frag} {N : List Str} {np n : Nat} {sb : DSt} {t : TS} {vs : List V} {H : Hp} {Q : VK} {E : XK} (hn : N.length = n) (h : spD K (mkD np n sb) vs H Q E)
    (hb : ∀ X hd, DS ⟨K, H, X, hd, none, fun _ => E, none⟩ t sb) : t { nx := fun _ H' => Q .non H', rt := Q } (L2.start N vs) H := by
  obtain ⟨X, hd, args, Qd, Qx, al, hh, sl, ⟨ha, h⟩, q, x⟩ := h
  have r := rep_start (N := N) (E := fun _ => E) al hh sl
  rw [ha, hn] at r
  refine hb X hd X _ _ H _ _ r ⟨fun X' env σ H' r' s' h' => q _ _ H' r'.frm .non h', fun X' env σ H' v z r' s' w h' => q z v H' r'.frm (w.mono (vis_anti r'.sup)) h', fun _ _ _ _ _ _ (h' : False) => h'.elim, fun _ _ _ _ _ _ (h' : False) => h'.elim, fun X' env σ H' z cls dx r' s' w h' => x z cls dx H' r'.frm (w.mono (vis_anti r'.sup)) h'⟩ h
theorem body_of0 {K : PySem.W.Frag} {N : List Str} {np n : Nat} {sb : DSt} {t : TS} {vs : List V} {H : Hp} {Q : VK} {E : XK} (hn : N.length = n) (h : spD K (mkD0 np n sb) vs H Q E)
    (hb : ∀ X hd, DS ⟨K, H, X, hd, none, fun _ _ _ _ => False, none⟩ t sb) : t { nx := fun _ H' => Q .non H', rt := Q } (L2.start N vs) H := by
  obtain ⟨X, hd, args, Qd, Qx, al, hh, sl, ⟨ha, h⟩, q, x⟩ := h
  have r := rep_start (N := N) (E := fun _ _ _ _ => False) al hh sl
  rw [ha, hn] at r
  refine hb X hd X _ _ H _ _ r ⟨fun X' env σ H' r' s' h' => q _ _ H' r'.frm .non h', fun X' env σ H' v z r' s' w h' => q z v H' r'.frm (w.mono (vis_anti r'.sup)) h', fun _ _ _ _ _ _ (h' : False) => h'.elim, fun _ _ _ _ _ _ (h' : False) => h'.elim, fun _ _ _ _ _ _ _ _ _ _ (h' : False) => h'.elim⟩ h
end Mine

namespace Mine
open PySem PySem.Spec PyProof.Rows L2
/-! ### comprehensions of two clauses -/
def lcIn (f : DGX) (tt : DTX) (te : DX) (env : List Sl) (K : List Dt → Prop) : List Dt → List Dt → Prop
  | [], acc => K acc
  | x :: xs, acc => f x env fun env' => tt env' (fun b => if b = true then te env' (fun y => acc.length < LINE ∧ lcIn f tt te env K xs (acc ++ [y])) (fun _ => False) else lcIn f tt te env K xs acc) fun _ => False
def lcGo2 (f : DGX) (tt : DTX) (src1 : DAX) (f1 : DGX) (tt1 : DTX) (te : DX) (vs1 : List Nat) (env : List Sl) (Q : Dt → Prop) : List Dt → List Dt → Prop
  | [], acc => Q (.lst acc)
  | x :: xs, acc => f x env fun env' => tt env' (fun b => if b = true then src1 env' (fun ds1 => lcIn f1 tt1 te (wipeS env' vs1) (fun acc' => lcGo2 f tt src1 f1 tt1 te vs1 env Q xs acc') ds1 acc) (fun _ => False)
      else lcGo2 f tt src1 f1 tt1 te vs1 env Q xs acc) fun _ => False
def eLc2 (src : DAX) (f : DGX) (tt : DTX) (src1 : DAX) (f1 : DGX) (tt1 : DTX) (te : DX) (vs1 vs : List Nat) : DX := fun env Q E => src env (fun ds => lcGo2 f tt src1 f1 tt1 te vs1 (wipeS env vs) Q ds []) E
section
variable {C : Bc} {X : Addr → Prop} {env : List Sl} {σ : L2.St} {H : Hp}
end
/-! ### not, by truth -/
def eNotVT (a : DX) : DX := fun env Q E => a env (fun d => dTru d fun c => Q (.bl (!c))) E
def tNotVT (K : PySem.W.Frag) (ta : TE) : TE := L2.tNotT K ta
theorem pe_notVT {X : Cx} {K : PySem.W.Frag} {a : Expr} {ta : TE} {pos : Pos} (e : X.K = K) (ha : PE X a ta) : PE X (.UnaryOp .Not a pos) (tNotVT K ta) := e ▸ pe_notT ha
theorem de_notVT {C : Bc} {ta : TE} {ea : DX} (h : DB C ta ea) : DE C (tNotVT C.K ta) (eNotVT ea) := by
  intro X env σ H Q Qd Qx rp he q x
  refine h X env σ H _ _ Qx rp he (fun d v H1 f1 r1 he1 => ?_) x
  obtain ⟨k, h1, h2⟩ := r1.tru (rp.step f1) he1
  exact ⟨k, h1, q _ _ _ f1 (.bl _) h2⟩
end Mine

namespace Mine
open PySem PySem.Spec PyProof.Rows L2
/-! ### the hand -/
/-- the hand at h: its cells at c -/
def HandAt (H : Hp) (h : Addr) : Prop := ∃ (c : Addr) (cells : List Int) (at_ : Nat) (big mix : Int), H h = some (.lst [.ref c, .int at_, .int big, .int mix]) ∧ H c = some (.lst (cells.map V.int)) ∧
  (∀ z ∈ cells, 0 ≤ z) ∧ at_ ≤ cells.length ∧ cells.length ≤ 63 ∧ 0 ≤ big ∧ 0 ≤ mix ∧ mix < 2147483563
def sp_hand (K : PySem.W.Frag) : Sp := fun vs H Q _ => ∃ (a : Addr) (ns : List Int), vs = [.ref a] ∧ SqL K H a (ns.map V.int) ∧ ns.length ≤ 63 ∧ ∀ H' h, Same H H' → H h = none → HandAt H' h → Q (.ref h) H'
def i_hand (H : Hp) (a c : Addr) (i : Nat) (σ : L2.St) (H' : Hp) : Prop := ∃ (tot : Int) (v3 : Option V) (cells : List Int), σ = [some (.ref a), some (.int tot), some (.ref c), v3] ∧ cells.length = i ∧ H' c = some (.lst (cells.map V.int)) ∧
  (∀ z ∈ cells, 0 ≤ z) ∧ Same H H' ∧ 0 ≤ tot ∧ tot < 2147483563
def mixedN (n t : Int) : Int :=
  ((((n * 39373 + t * 6151 + 50021) % 2147483399 * ((n * 39373 + t * 6151 + 50021) % 2147483399) + t * 81071 + (n * 39373 + t * 6151 + 50021) % 2147483399 / 137) % 2147483629 * 62089 +
    (n * 39373 + t * 6151 + 50021) % 2147483399 / 11) % 2147483587) / 64
theorem mixedN_pos (n t : Int) : 0 ≤ mixedN n t := Int.ediv_nonneg (Int.emod_nonneg _ (by decide)) (by decide)
def sp_mixed : Sp := fun vs H Q _ => ∃ n t : Int, vs = [.int n, .int t] ∧ (-(2 ^ 40) < n ∧ n < 2 ^ 40 ∧ -(2 ^ 40) < t ∧ t < 2 ^ 40) ∧ ∀ r, 0 ≤ r → Q (.int r) H
/-- what a drawing may make of the hand -/
def HandN (H : Hp) (h : Addr) (o : HO) : Prop := HandAt (upd H h o) h ∧ ∃ c r r', H h = some (.lst (V.ref c :: r)) ∧ o = .lst (V.ref c :: r')
def sp_take : Sp := fun vs H Q _ => ∃ (h : Addr) (m : Int), vs = [.ref h, .int m] ∧ HandAt H h ∧ 0 < m ∧ m < 115792089237316195423570985008687907853269984665640564039457584007913129639936 ∧ ∀ r o, 0 ≤ r → r < m → HandN H h o → Q (.int r) (upd H h o)
/-- a drawing, by data: any number below m -/
def F_law_take : DFn := fun args Q _ => match args with
  | [.hand, .d (.int m)] => (0 < m ∧ m < 115792089237316195423570985008687907853269984665640564039457584007913129639936) ∧ ∀ r : Nat, (r : Int) < m → Q (.int r)
  | _ => False
theorem take_spD {K : PySem.W.Frag} : ∀ vs H Q E, spD K F_law_take vs H Q E → sp_take vs H Q E := by
  rintro vs H Q E ⟨X, hd, args, Qd, Qx, al, hh, sl, hF, q, _⟩
  unfold F_law_take at hF
  split at hF
  · obtain ⟨⟨h1, h2⟩, hr⟩ := hF
    cases sl with
    | @hand h c vs ss e sl =>
      cases sl with
      | d den sl =>
        cases sl
        have ev := den.flat rfl
        subst ev
        obtain ⟨xh, cells, at_, big, mix, hH, hC, r⟩ := hh h c e
        refine ⟨h, _, rfl, ⟨c, cells, at_, big, mix, hH, hC, r⟩, h1, h2, fun z o z1 z2 hn => ?_⟩
        obtain ⟨⟨c2, cells2, at2, big2, mix2, hH2, hC2, rr⟩, c3, r1, r2, e1, rfl⟩ := hn
        rw [hH] at e1
        rw [upd_same] at hH2
        cases e1
        cases hH2
        have := q (.int z) (.int z) (upd H h (.lst [V.ref c, .int at2, .int big2, .int mix2])) ⟨fun b u eb nb => by rw [upd_ne (nb h c e)]; exact eb, fun h' c' e' _ => by
          rw [e] at e'
          cases e'
          exact ⟨cells2, at2, big2, mix2, upd_same, hC2, rr⟩⟩ (.int _) (by have := hr z.toNat (by omega); rwa [Int.toNat_of_nonneg z1] at this)
        exact this
  · exact hF.elim
/-! ### the law itself -/
def sp_law (K : PySem.W.Frag) : Sp := fun vs H Q _ => ∃ (a : Addr) (ns : List Int), vs = [.ref a] ∧ SqL K H a (ns.map V.int) ∧ ns.length ≤ 63 ∧ ∀ H', Q (.bl true) H'
/-- what is left of a law: its text behind the hand's making gives True, whatever is drawn -/
def LawGoal (n : Nat) (s : DSt) : Prop := s ⟨fun _ => False, fun d => d = .bl true, fun _ => False, fun _ => False, fun _ _ => False⟩ (.no :: .hand :: List.replicate n .no)
theorem body_law {K : PySem.W.Frag} {N : List Str} {n : Nat} {sb : DSt} {t : TS} {vs : List V} {H : Hp} {Q : VK} {E : XK} (hn : N.length = n + 2) (h : sp_law K vs H Q E) (g : LawGoal n sb)
    (hb : ∀ H X hd, DS ⟨K, H, X, hd, none, fun _ _ _ _ => False, none⟩ t sb) : tSeq (tAsg (tCall (sp_hand K) [] E0 (tCons (tVar 0) tNil)) (gName 1)) t { nx := fun _ H' => Q .non H', rt := Q } (L2.start N vs) H := by
  obtain ⟨a, ns, rfl, hS, hl, q⟩ := h
  refine ⟨.ref a, rfl, a, ns, rfl, hS, hl, fun H' h s hn' hA => ?_⟩
  obtain ⟨c, cells, at_, big, mix, hH, hC, r⟩ := hA
  have hc : HandC H' h c := ⟨cells, at_, big, mix, hH, hC, r⟩
  have es : (L2.start N [V.ref a]).set 1 (some (.ref h)) = some (.ref a) :: some (.ref h) :: List.replicate n none := by
    unfold L2.start
    have e : N.length - 1 = n + 1 := by omega
    show (some (V.ref a) :: List.replicate (N.length - 1) none).set 1 _ = _
    rw [e]
    rfl
  have rp : Rep ⟨K, H', fun z => z = h, some (h, c), none, fun _ _ _ _ => False, none⟩ (fun z => z = h) (.no :: .hand :: List.replicate n .no) ((L2.start N [V.ref a]).set 1 (some (.ref h))) H' := by
    rw [es]
    refine ⟨by simp, fun z e => e, fun z e => .inl e, fun z e => ⟨.lst [V.ref c, V.int ↑at_, V.int big, V.int mix], by rw [show z = h from e]; exact hH⟩, .refl _, fun h' c' e => ?_, fun i sl e => ?_, .none fun i s e1 => ?_, fun i ⟨C0, ns0, ds0, e1⟩ => ?_⟩
    · cases e; exact ⟨rfl, hc, hc⟩
    · match i, e with
      | 0, e => cases e; exact ⟨_, rfl, trivial⟩
      | 1, e => cases e; exact ⟨_, rfl, h, c, rfl, rfl⟩
      | i + 2, e =>
        have e : (List.replicate n Sl.no)[i]? = some sl := e
        rw [List.getElem?_replicate] at e
        split at e
        · rename_i hi
          cases e
          exact ⟨none, by show (List.replicate n none)[i]? = _; rw [List.getElem?_replicate, if_pos hi], trivial⟩
        · cases e
    · match i, e1 with
      | 0, e1 => cases e1; exact fun _ _ f => f
      | 1, e1 => cases e1; exact fun _ _ f => f
      | i + 2, e1 =>
        have e1 : (List.replicate n Sl.no)[i]? = some s := e1
        rw [List.getElem?_replicate] at e1
        split at e1
        · cases e1; exact fun _ _ f => f
        · cases e1
    · match i, e1 with
      | 0, e1 => rfl
      | 1, e1 => cases e1
      | i + 2, e1 =>
        have e1 : (List.replicate n Sl.no)[i]? = some (.ins C0 ns0 ds0) := e1
        rw [List.getElem?_replicate] at e1
        split at e1 <;> cases e1
  refine hb _ _ _ _ _ _ _ { nx := fun _ H' => Q .non H', rt := Q } _ rp ⟨fun _ _ _ _ _ _ (h' : False) => h'.elim, fun X' env σ H2 v z r' s' w h' => ?_, fun _ _ _ _ _ _ (h' : False) => h'.elim, fun _ _ _ _ _ _ (h' : False) => h'.elim, fun _ _ _ _ _ _ _ _ _ _ (h' : False) => h'.elim⟩ g
  have h' : z = .bl true := h'
  subst h'
  have ev := w.flat rfl
  subst ev
  exact q H2
/-! ### monotone, for errors' fields -/
end Mine

namespace Mine
open PySem PySem.Spec PyProof.Rows L2
/-! ### zip of two lists, two tuples, a tuple and a list -/
def iZipU (K : PySem.W.Frag) (ta : TA) : TI := fun σ H R => ta σ H fun vs H1 => ∃ a b xs ys, vs = [.ref a, .ref b] ∧ ((SqL K H1 a xs ∧ SqL K H1 b ys ∧ R (Itz K a b) H1) ∨ ((SqT K H1 a xs ∧ SqL K H1 b ys ∧ R (ItzM K a b) H1) ∨ (SqT K H1 a xs ∧ SqT K H1 b ys ∧ R (RZ.ItzT K a b) H1)))
theorem pi_zipU {X : Cx} {e e2 : Expr} {ta : TA} {p pos tpos : Pos} {elts : List Expr} {kk : Nat} (hg : Gl X "zip") (hm : X.mg "zip" = none) (ha : PA X [e, e2] ta)
    (hs : starEach [e, e2] X.env = (false, eval e X.env) :: starEach [e2] X.env := by rfl) (hpl : (backTo pos (starEach [e2] X.env)).any (·.1) = false := by rfl) :
    PI X (.Tuple elts kk tpos) (.Call (.Name "zip" p) [e, e2] [] pos) (iZipU X.K ta) := by
  refine ⟨fun pins s σ H R I h => ?_⟩
  refine Call_ (ld_blt I hg hm PyProof.Rows.boot_zip (PyProof.Rows.callWith_type1 (thn (ha.run pos pins s σ H _ I h) fun us s1 ⟨vs, H1, I1, r1, q1⟩ => ?_) hs hpl))
  obtain ⟨a, b, xs, ys, rfl, q1⟩ := q1
  cases r1 with
  | cons r rr =>
    cases rr with
    | cons r' rr =>
      cases rr
      cases r
      cases r'
      have fresh : ∀ c, c ∈ [s1.heap.objs.size + 4, s1.heap.objs.size + 2, s1.heap.objs.size + 3, s1.heap.objs.size, s1.heap.objs.size + 1] → FpOk X pins H1 c := fun c hc => by
        have le : s1.heap.objs.size ≤ c := by
          have e' : c = s1.heap.objs.size + 4 ∨ c = s1.heap.objs.size + 2 ∨ c = s1.heap.objs.size + 3 ∨ c = s1.heap.objs.size ∨ c = s1.heap.objs.size + 1 := by simpa using hc
          have : ∀ k : Nat, s1.heap.objs.size ≤ s1.heap.objs.size + k := fun k => Nat.le_add_right _ _
          rcases e' with rfl | rfl | rfl | rfl | rfl
          · exact this 4
          · exact this 2
          · exact this 3
          · exact Nat.le_refl _
          · exact this 1
        exact I1.fpOk le (I1.hok.fresh le)
      rcases q1 with ⟨hqx, hqy, q⟩ | ⟨hqx, hqy, q⟩ | ⟨hqx, hqy, q⟩
      · obtain ⟨its, rv, p1, _⟩ := I1.list hqx
        obtain ⟨its2, rv2, p2, _⟩ := I1.list hqy
        have la : a < s1.heap.objs.size := p1.lt
        have lb : b < s1.heap.objs.size := p2.lt
        refine call_zip_2 p1.isList p2.isList fun h' hz hTI hTO h1 h2 hsz hk => wpAny_pyIter_zip hz ?_
        exact ⟨s1.heap.objs.size + 4, [s1.heap.objs.size + 4, s1.heap.objs.size + 2, s1.heap.objs.size + 3, s1.heap.objs.size, s1.heap.objs.size + 1], _, _, H1, rfl, I1.kept (t' := s1.toks) hk, turn_zip (PySem.W.ktu_apart s1.heap.objs.size a b la lb), ⟨hz, hTI, ⟨_, _, hTO⟩, h1, h2⟩, fresh, q⟩
      · obtain ⟨its, rv, p1, _⟩ := I1.tuple hqx
        have lta : a < s1.heap.objs.size := by obtain ⟨o, ho, _⟩ := id p1; exact Heap.lt_size ho
        obtain ⟨its2, rv2, p2, _⟩ := I1.list hqy
        have ltb := p2.lt
        refine zip_begins2 (begins_tuple a its.toArray) (begins_list b its2.toArray) p1 p2.isList fun h' hz hTI hTO g1 g2 hsz hk => wpAny_pyIter_zip hz ?_
        have S := zip_sep2 (N := s1.heap.objs.size) (fp1 := [a]) (fp2 := [b]) (fun c hc => by rw [List.mem_singleton.mp hc]; exact lta) (fun c hc => by rw [List.mem_singleton.mp hc]; exact ltb)
        exact ⟨s1.heap.objs.size + 4, [s1.heap.objs.size + 4, s1.heap.objs.size + 2, s1.heap.objs.size + 3, s1.heap.objs.size, s1.heap.objs.size + 1], _, _, H1, rfl, I1.kept (t' := s1.toks) hk,
          turn_zipM S (Nat.ne_of_lt lta) (Nat.ne_of_lt (Nat.lt_succ_of_lt ltb)), ⟨hz, hTI, ⟨_, _, hTO⟩, ⟨_, g1, rfl, rfl⟩, ⟨_, g2, rfl, rfl⟩⟩, fresh, q⟩
      · obtain ⟨its, rv, p1, _⟩ := I1.tuple hqx
        have lta : a < s1.heap.objs.size := by obtain ⟨o, ho, _⟩ := id p1; exact Heap.lt_size ho
        obtain ⟨its2, rv2, p2, _⟩ := I1.tuple hqy
        have ltb : b < s1.heap.objs.size := by obtain ⟨o, ho, _⟩ := id p2; exact Heap.lt_size ho
        refine zip_begins2 (begins_tuple a its.toArray) (begins_tuple b its2.toArray) p1 p2 fun h' hz hTI hTO g1 g2 hsz hk => wpAny_pyIter_zip hz ?_
        exact ⟨s1.heap.objs.size + 4, [s1.heap.objs.size + 4, s1.heap.objs.size + 2, s1.heap.objs.size + 3, s1.heap.objs.size, s1.heap.objs.size + 1], _, _, H1, rfl, I1.kept (t' := s1.toks) hk,
          RZ.turn_zipT (PySem.W.ktu_apart s1.heap.objs.size a b lta ltb), ⟨hz, hTI, ⟨_, _, hTO⟩, ⟨_, g1, rfl, rfl⟩, ⟨_, g2, rfl, rfl⟩⟩, fresh, q⟩
/-- by data; two lists, two tuples, a tuple and a list -/
def eZip (a b : DX) : DAX := fun env Q E => a env (fun d1 => b env (fun d2 => match d1, d2 with
  | .lst xs, .lst ys => Q (List.zipWith (fun x y => .tup [x, y]) xs ys)
  | .tup xs, .lst ys => xs.length = ys.length ∧ Q (List.zipWith (fun x y => .tup [x, y]) xs ys)
  | .tup xs, .tup ys => xs.length = ys.length ∧ Q (List.zipWith (fun x y => .tup [x, y]) xs ys)
  | _, _ => False) E) E
section
variable {C : Bc}
theorem walk_pair2 {S : SS} {X : Addr → Prop} {H1 : Hp} {J : It} {n : Nat} {G : Hp → Prop} {xs ys : List V} {ds es : List Dt} (hal : ∀ {Y : Addr → Prop} {H : Hp}, S C X H1 Y H → ∀ a, Y a → ∃ o, H a = some o) (hn : (List.zipWith (fun x y => Dt.tup [x, y]) ds es).length = n)
    (w : Walk J n G (YPair (fun i => xs[i]?) (fun i => ys[i]?))) (hs : ∀ i H, i = n → G H → J.stop i H) (k : ∀ Y H, S C X H1 Y H → G H ∧ DenAll C.K (vis H Y) xs ds ∧ DenAll C.K (vis H Y) ys es) :
    WalkD S C X H1 J (List.zipWith (fun x y => Dt.tup [x, y]) ds es) := by
  intro Y i H s
  obtain ⟨g, a, b⟩ := k Y H s
  refine ⟨fun hi => ⟨w.goes i H (hn ▸ hi) g, fun x H' hy => ?_⟩, fun hi => hs i H (by omega) g⟩
  obtain ⟨T, v, y, rfl, hT, rfl, ev, ey⟩ := w.yields i H x H' (hn ▸ hi) g hy
  dsimp only at ev ey
  obtain ⟨d, e, den⟩ := a.getV ev
  obtain ⟨d2, e2, den2⟩ := b.getV ey
  have nT : ¬ Y T := fun y => by
    obtain ⟨o, q⟩ := hal s T y
    rw [hT] at q; cases q
  have mv : Same (vis H Y) (vis (upd H T (.tup [v, y])) Y) := fun c o e => by
    obtain ⟨n1, e1⟩ := vis_of e
    exact vis_mk n1 (same_upd hT _ _ e1)
  refine ⟨same_upd hT, .tup [d, d2], by rw [List.getElem?_zipWith, e, e2], .tup (vis_mk nT upd_same) (.cons (den.mono mv) (.cons (den2.mono mv) .nil))⟩
theorem di_zip {R R2 : RR} {S : SS} [Src R S] [Src R2 S] {t1 t2 : TE} {a b : DX} (h1 : DEg R C t1 a) (h2 : DEg R2 C t2 b) (fr : ∀ {X : Addr → Prop} {env : List Sl} {σ : L2.St} {H0 H H' : Hp} {v : V} {d : Dt}, Rep C X env σ H → Frm C.hd H H' → R C X H0 H v d → R C X H0 H' v d) :
    DIg S C (iZipU C.K (tCons t1 (tCons t2 tNil))) (eZip a b) := by
  intro X env σ H Rr Qd Qx rp he q x
  refine h1 X env σ H _ _ Qx rp he (fun d1 v1 H1 f1 r1 he1 => ?_) x
  refine h2 X env σ H1 _ _ Qx (rp.step f1) he1 (fun d2 v2 H2 f2 r2 he2 => ?_) (x.step f1)
  have r1 := fr (rp.step f1) f2 r1
  have mn : ∀ {α β γ : Type} (f : α → β → γ) (xs : List α) (ys : List β), (List.zipWith f xs ys).length = min xs.length ys.length := fun f xs ys => by simp
  show ∃ a b xs ys, [v1, v2] = [.ref a, .ref b] ∧ _
  split at he2
  · obtain ⟨p, vs, rfl, h3, k⟩ := Src.lst (S := S) r1
    obtain ⟨p2, vs2, rfl, h4, k2⟩ := Src.lst (S := S) r2
    refine ⟨p, p2, vs, vs2, rfl, .inl ⟨.inl (.inl h3), .inl (.inl h4), q _ _ H2 (f1.trans f2) ?_ he2⟩⟩
    intro Y i H3 s
    have l1 := (k Y H3 s).2.length
    have l2 := (k2 Y H3 s).2.length
    exact walk_pair2 (n := min vs.length vs2.length) (G := fun H => SqL C.K H p vs ∧ SqL C.K H p2 vs2) (fun s => Src.al (R := R) s) (by rw [mn, l1, l2]) (walk_zip rfl) (fun i H hi g => ⟨vs, vs2, g.1, g.2, by omega⟩)
      (fun Y H s => ⟨⟨.inl (.inl (k Y H s).1), .inl (.inl (k2 Y H s).1)⟩, (k Y H s).2, (k2 Y H s).2⟩) Y i H3 s
  · obtain ⟨hl, he2⟩ := he2
    obtain ⟨p, vs, rfl, h3, k⟩ := Src.tup (S := S) r1
    obtain ⟨p2, vs2, rfl, h4, k2⟩ := Src.lst (S := S) r2
    refine ⟨p, p2, vs, vs2, rfl, .inr (.inl ⟨.inl (.inl h3), .inl (.inl h4), q _ _ H2 (f1.trans f2) ?_ he2⟩)⟩
    intro Y i H3 s
    have l1 := (k Y H3 s).2.length
    have l2 := (k2 Y H3 s).2.length
    exact walk_pair2 (n := vs.length) (G := fun H => SqT C.K H p vs ∧ SqL C.K H p2 vs2) (fun s => Src.al (R := R) s) (by rw [mn, l1, hl]; omega) (walk_zipM (by omega)) (fun i H hi g => ⟨vs, vs2, g.1, g.2, by first | exact .inl (by omega) | exact ⟨.inl (by omega), by omega, by omega⟩ | omega⟩)
      (fun Y H s => ⟨⟨.inl (.inl (k Y H s).1), .inl (.inl (k2 Y H s).1)⟩, (k Y H s).2, (k2 Y H s).2⟩) Y i H3 s
  · obtain ⟨hl, he2⟩ := he2
    obtain ⟨p, vs, rfl, h3, k⟩ := Src.tup (S := S) r1
    obtain ⟨p2, vs2, rfl, h4, k2⟩ := Src.tup (S := S) r2
    refine ⟨p, p2, vs, vs2, rfl, .inr (.inr ⟨.inl (.inl h3), .inl (.inl h4), q _ _ H2 (f1.trans f2) ?_ he2⟩)⟩
    intro Y i H3 s
    have l1 := (k Y H3 s).2.length
    have l2 := (k2 Y H3 s).2.length
    exact walk_pair2 (n := vs.length) (G := fun H => SqT C.K H p vs ∧ SqT C.K H p2 vs2) (fun s => Src.al (R := R) s) (by rw [mn, l1, hl]; omega) (walk_zipTT (by omega)) (fun i H hi g => ⟨vs, vs2, g.1, g.2, by first | exact .inl (by omega) | exact ⟨.inl (by omega), by omega, by omega⟩ | omega⟩)
      (fun Y H s => ⟨⟨.inl (.inl (k Y H s).1), .inl (.inl (k2 Y H s).1)⟩, (k Y H s).2, (k2 Y H s).2⟩) Y i H3 s
  · exact he2.elim
end
end Mine
namespace Mine
open PySem PySem.Spec PyProof.Rows L2
theorem ix_U {X : Cx} {K : PySem.W.Frag} (e : X.K = K) : IxR X (rIx K) := e ▸ ix_seq
end Mine
namespace Mine
open PySem PySem.Spec PyProof.Rows L2
theorem op_eqU {X : Cx} {K : PySem.W.Frag} (e : X.K = K) (hu : X.A.units + 64 < cLine) : OpR X (compareOp .Eq) (rEqD K) := e ▸ op_eqD hu
theorem op_neU {X : Cx} {K : PySem.W.Frag} (e : X.K = K) (hu : X.A.units + 64 < cLine) : OpR X (compareOp .NotEq) (rNeD K) := e ▸ op_neD hu
end Mine
namespace Mine
open PySem PySem.Spec PyProof.Rows L2
theorem dst_of {C : Bc} {t : TS} {s s' : DSt} (e : s = s') (h : DS C t s') : DS C t s := e ▸ h
end Mine

namespace L2
open PySem PySem.Spec PyProof.Rows
theorem mine_evalArgs_kw {M : Model} {A : Around} {E : Value → Shared → Prop} {s : Shared} {f : Value} {x : Sem Value} {rest : List (Bool × Sem Value)} {keywords : List (Option Str × Sem Value)} {Q : Args → Shared → Prop}
    (hall : keywords.all (·.1.isSome) = true)
    (h : wpAny M A (spliced ((false, x) :: rest)) (fun vs s₁ => wpAny M A (evalAll (keywords.map (·.2))) (fun kvs s₂ => Q ⟨vs, (keywords.filterMap (·.1)).zip kvs⟩ s₂) E s₁) E s) :
    wpAny M A (evalArgs f true ((false, x) :: rest) keywords) Q E s := by
  unfold evalArgs
  show wpAny M A (spliced ((false, x) :: rest) >>= _) Q E s
  refine wpAny_bind (wpAny_mono h (fun vs s' h' => ?_) fun _ _ x => x)
  refine wpAny_holding ?_
  rw [if_pos hall]
  refine wpAny_bind (wpAny_mono h' (fun kvs s₂ h₂ => ?_) fun _ _ x => x)
  exact wpAny_bind (wpAny_pure (wpAny_pure h₂))
theorem mine_callWith_type_kw {M : Model} {A : Around} {E : Value → Shared → Prop} {s : Shared} {env : Env} {pos : Pos} {T : String} {e : Expr} {rest : List Expr} {kws : List Keyword} {Q : Value → Shared → Prop}
    (h : wpAny M A (spliced (backTo pos (starEach (e :: rest) env))) (fun vs s₁ => wpAny M A (evalAll ((backToKw pos (keywordEach kws env)).map (·.2)))
      (fun kvs s₂ => wpAny M A (call (.type T) vs (((backToKw pos (keywordEach kws env)).filterMap (·.1)).zip kvs)) Q E s₂) E s₁) E s)
    (he : backTo pos (starEach (e :: rest) env) = (false, eval e env) :: backTo pos (starEach rest env) := by rfl)
    (hplain : (backTo pos (starEach (e :: rest) env)).any (·.1) = false := by rfl)
    (hall : (backToKw pos (keywordEach kws env)).all (·.1.isSome) = true := by rfl)
    (hkw : (backToKw pos (keywordEach kws env)).any (·.1.isNone) = false := by rfl) :
    wpAny M A (callWith pos (.type T) [] (backTo pos (starEach (e :: rest) env)) (backToKw pos (keywordEach kws env))) Q E s := by
  unfold callWith
  rw [he] at h ⊢
  refine wpAny_bind (wpAny_holding (mine_evalArgs_kw hall (wpAny_mono h (fun vs s₁ h₁ => wpAny_mono h₁ (fun kvs s₂ h₂ => wpAny_bind (wpAny_standAt ?_)) fun _ _ x => x) fun _ _ x => x)))
  rw [← he]
  simp only [hplain, hkw, Bool.or_false]
  refine wpAny_bind (wpAny_pure ?_)
  exact wpAny_bind (wpAny_mono h₂ (fun r s₂ hr => wpAny_bind (wpAny_holding (wpAny_point (wpAny_pure hr)))) fun _ _ x => x)
end L2
namespace Mine
open PySem PySem.Spec PyProof.Rows L2
/-! ### enumerate(t, start=k), t a tuple -/
def IteTk (K : PySem.W.Frag) (k : Int) (a : Addr) : It :=
  ⟨fun i H => ∃ (xs : List V) (x : V), SqT K H a xs ∧ xs[i]? = some x, fun i H v H' => ∃ T x, v = .ref T ∧ H T = none ∧ H' = upd H T (.tup [.int (k + (i : Nat)), x]) ∧ ∀ xs, SqT K H a xs → xs[i]? = some x, fun i H => ∃ xs : List V, SqT K H a xs ∧ xs.length ≤ i⟩
theorem turn_enumTk {P : Program} {w : World} {K : PySem.W.Frag} {elts : List Expr} {kk : Nat} {tpos : Pos} (k : Int) (a e it : Addr) (ha : a ≠ it) (hae : e ≠ a) :
    Turn P w K (.Tuple elts kk tpos) (IteTk K k a) [e, it] e (fun i h => (∃ old, IsEnum h e it (k + ((i : Nat) : Int)) old) ∧ h.IsTupleIter it a i ∧ e ≠ it) where
  mem := by simp
  obj := fun i h st b hb => by
    obtain ⟨⟨old, he⟩, ⟨o, ho, hc, hd⟩, _⟩ := st
    have e' : b = e ∨ b = it := by simpa using hb
    rcases e' with z | z
    · rw [z]; exact ⟨_, he, fun v q => nomatch q⟩
    · rw [z]; exact ⟨o, ho, fun v q => by rw [hd] at q; cases q⟩
  keep := fun i h h' st k => let ⟨⟨old, he⟩, hi, hne⟩ := st; ⟨⟨old, k e (by simp) _ he⟩, hi.at fun o q => k it (by simp) o q, hne⟩
  item := by
    intro X hP hw hK hc i pins s σ H E I hf st hg
    subst hP hw hK
    obtain ⟨⟨old, he⟩, hit, hne⟩ := st
    obtain ⟨xs, x, hq, hx⟩ := hg
    obtain ⟨its, rv, p, hz⟩ := I.tuple hq
    obtain ⟨u, hu, ru⟩ := rv.get hx
    have hel : e < s.heap.objs.size := Heap.lt_size he
    have hil : it < s.heap.objs.size := by obtain ⟨_, q, _⟩ := hit; exact Heap.lt_size q
    have pt : s.heap.IsTuple a its.toArray := p
    have hlt : i < its.toArray.size := by
      have := List.getElem?_eq_some_iff.mp hu
      obtain ⟨h, _⟩ := this
      simpa using h
    refine wpAny_pyNext_enum_itemC (i := i) (c := k + (i : Int)) (Draws.tuple (A := X.A.in1) (I.ok.hd hc) it a ha its.toArray) he ⟨hit, pt⟩ hlt hne (by simp [hne, hae]) fun x' h' tk hP ho hs' hT hsz hk => ?_
    have ex : x' = u := by
      have z : its.toArray[i]? = some u := by simpa using hu
      rw [hP] at z; exact Option.some.inj z
    subst ex
    refine ⟨_, rfl, wpAny_letOwnedTupleGo_enum (s := { s with heap := h', toks := tk + 1 }) ho fun h'' he' sb => ?_⟩
    have hT2 : h''.get? s.heap.objs.size = some { cls := .type "tuple", data := .seq #[.int (k + (i : Int)) tk, x'] } := (sb.2 _ (Nat.ne_of_gt hel)).trans hT
    have new : ObjOk X.prog X.w (upd H s.heap.objs.size (.tup [.int (k + (i : Nat)), x])) h'' s.heap.objs.size (.tup [.int (k + (i : Nat)), x]) :=
      ⟨by show 2 ≤ sizeLine; decide, [.int (k + (i : Int)) tk, x'], .cons ⟨_, rfl⟩ (.cons ru .nil), ⟨_, hT2, rfl, _, rfl⟩⟩
    have I1 : Inv X pins σ (upd H s.heap.objs.size (.tup [.int (k + (i : Nat)), x])) { s with heap := h'', toks := tk + 1 } :=
      I.turnedNew (ch := [e, it]) (fun b ob hb q => (sb.2 b (fun z => hb (by simp [z]))).trans (hk b ob (fun z => hb (by simp [z])) (fun z => hb (by simp [z])) q)) hf (Nat.le_refl _) new
    refine ⟨.ref s.heap.objs.size, _, I1, rfl, ⟨_, x, rfl, I.hok.fresh (Nat.le_refl _), rfl, fun ys hy => by rw [I.tuple_inj hy hq]; exact hx⟩, ⟨⟨x', ?_⟩, hs'.1.at fun o q => (sb.2 it (Ne.symm hne)).trans q, hne⟩, fun b hb => ?_⟩
    · have e1 : k + ((i + 1 : Nat) : Int) = k + (i : Int) + 1 := by omega
      rw [e1]; exact he'
    · have hb' : b < s.heap.objs.size := by
        have e' : b = e ∨ b = it := by simpa using hb
        rcases e' with z | z
        · rw [z]; exact hel
        · rw [z]; exact hil
      rw [upd_ne (Nat.ne_of_lt hb')]
      exact (hf b hb).1
  done := by
    intro X hP hw hK hc i pins s σ H E I hf st hg
    subst hP hw hK
    obtain ⟨⟨old, he⟩, hit, hne⟩ := st
    obtain ⟨xs, hq, hx⟩ := hg
    obtain ⟨its, rv, p, hz⟩ := I.tuple hq
    obtain ⟨f0, f1, f2, f3, f4, f5⟩ := hf it (by simp)
    have hl := rv.length
    have pt : s.heap.IsTuple a its.toArray := p
    have hT : s.TypeIs (.ref e) "enumerate" := ⟨_, he, rfl⟩
    unfold pyNext
    refine wpAny_bind (wpAny_attempt (wpAny_callSpecial?_slot (name := Str.ofString "__next__") hT F.slot_enumerate_next
      (wpAny_call_entry F.slot_enumerate_next hT F.entry_enumerate_next ?_ (F.args_enumerate_next_1 _))))
    show wpAny _ _ (field (.ref e) 2 >>= _) _ _ _
    refine wpAny_bind (wpAny_field he rfl (x := .ref it) rfl ?_)
    refine wpAny_bind (wpAny_nextOf_tuple_end (I.ok.hd hc) hit pt (by simp; omega) fun h' x he' hx' => ?_)
    obtain ⟨o, ho, hc⟩ := hx'
    refine wpAny_bind (wpAny_isInstance (T := "StopIteration") (b := true) ⟨o, ho, hc⟩ isSubtype_stop ?_)
    exact wpAny_pure ⟨rfl, I.turned (t' := s.toks) (fun b o hb q => he' b o hb q) f0 f1 f3 f4 f5⟩
  self := fun A i s Q E st h => let ⟨⟨_, he⟩, _⟩ := st; wpAny_pyIter_enum he h
def iEnumTk (K : PySem.W.Frag) (k : Int) (ta : TA) : TI := fun σ H R => ta σ H fun vs H1 => ∃ a xs, vs = [.ref a] ∧ SqT K H1 a xs ∧ R (IteTk K k a) H1
theorem pi_enumTk {X : Cx} {e : Expr} {ta : TA} {p pos tpos kp kp2 : Pos} {elts : List Expr} {kk kj : Nat} {k : Nat} (hk : k < 1000) (hg : Gl X "enumerate") (hm : X.mg "enumerate" = none) (ha : PA X [e] ta) (hs : starEach [e] X.env = [(false, eval e X.env)] := by rfl)
    (hpl : (backTo pos (starEach [e] X.env)).any (·.1) = false := by rfl) :
    PI X (.Tuple elts kk tpos) (.Call (.Name "enumerate" p) [e] [⟨some "start", .Constant (.int (k : Int)) kj kp, kp2⟩] pos) (iEnumTk X.K k ta) := by
  refine ⟨fun pins s σ H R I h => ?_⟩
  refine wpAny_Call_Name_kw (ld_blt I hg hm boot_enumerate (mine_callWith_type_kw (thn (ha.run pos pins s σ H _ I h) fun us s1 ⟨vs, H1, I1, r1, q1⟩ => ?_) (by rw [hs]; rfl) hpl))
  refine thn ((pk_cons (nm := some "start") (kpos := kp2) (pe_int (X := X) (pos := kp) (j := kj) (i := (k : Int))) pk_nil).run pos pins s1 σ H1 (fun zs H2 => zs = [.int (k : Int)] ∧ H2 = H1) I1 ⟨rfl, rfl⟩) fun kvs s2 ⟨zs, H2, I2, r2, ez, eh⟩ => ?_
  subst ez eh
  obtain ⟨a, xs, ex, hq, q⟩ := q1
  subst ex
  cases r2 with
  | cons rk rr2 =>
  cases rr2
  obtain ⟨tk, rfl⟩ := rk
  cases r1 with
  | cons r rr =>
    cases rr
    cases r
    have fp2 : ∀ b ∈ [s2.heap.objs.size + 1, s2.heap.objs.size], FpOk X pins H2 b := fun b hb => by
      have e' : b = s2.heap.objs.size + 1 ∨ b = s2.heap.objs.size := by simpa using hb
      have hle : s2.heap.objs.size ≤ b := by
        rcases e' with z | z
        · rw [z]; exact Nat.le_add_right _ _
        · rw [z]; exact Nat.le_refl _
      exact I2.fpOk hle (I2.hok.fresh hle)
    obtain ⟨its, rv, p', hz⟩ := I2.tuple hq
    have pt : s2.heap.IsTuple a its.toArray := p'
    have hlt : a < s2.heap.objs.size := by
      obtain ⟨o, ho, _⟩ := id pt
      exact Heap.lt_size ho
    show wpAny _ _ (call (.type "enumerate") [.ref a] [(Str.ofString "start", .int (k : Int) tk)]) _ _ _
    refine enum_begins_start (begins_tuple a its.toArray) pt (by omega) (by omega) fun h' he hit hsz hk => wpAny_pyIter_enum he ?_
    have I3 : Inv X pins σ H2 { s2 with heap := h' } := I2.kept (t' := s2.toks) hk
    exact ⟨s2.heap.objs.size + 1, [s2.heap.objs.size + 1, s2.heap.objs.size], _, _, H2, rfl, I3, turn_enumTk (k : Int) a (s2.heap.objs.size + 1) s2.heap.objs.size (Nat.ne_of_lt hlt) (Nat.ne_of_gt (Nat.lt_succ_of_lt hlt)),
      ⟨⟨.none, by simpa using he⟩, ⟨_, hit, rfl, rfl⟩, Nat.succ_ne_self _⟩, fp2, q⟩
end Mine
namespace Mine
open PySem PySem.Spec PyProof.Rows L2
def eEnumK (k : Nat) (a : DAX) : DAX := fun env Q E => a env (fun ds => match ds with
  | [.tup xs] => Q (xs.mapIdx fun i x => .tup [.int ((k : Int) + (i : Nat)), x])
  | _ => False) E
theorem walk_enumTk {K : PySem.W.Frag} {k : Int} {a : Addr} {xs : List V} : Walk (IteTk K k a) xs.length (fun H => SqT K H a xs) (YPair (fun i => some (.int (k + (i : Nat)))) (fun i => xs[i]?)) := by
  refine ⟨fun i _ hi q => ⟨xs, xs[i], q, by simp [hi]⟩, fun _ q => ⟨xs, q, Nat.le_refl _⟩, fun i H v H' _ q y => ?_⟩
  obtain ⟨T, x, h1, h2, h3, h4⟩ := y
  exact ⟨T, .int (k + (i : Nat)), x, h1, h2, h3, rfl, h4 xs q⟩
section
variable {C : Bc} {R : RR} {S : SS} {tl : TE} {el : DX}
theorem walk_pairk {X : Addr → Prop} {H1 : Hp} {J : It} {n : Nat} {k : Int} {G : Hp → Prop} {xs : List V} {ds : List Dt} (hal : ∀ {Y : Addr → Prop} {H : Hp}, S C X H1 Y H → ∀ a, Y a → ∃ o, H a = some o) (hn : ds.length = n)
    (w : Walk J n G (YPair (fun i => some (.int (k + (i : Nat)))) (fun i => xs[i]?))) (hs : ∀ i H, n ≤ i → G H → J.stop i H) (kk : ∀ Y H, S C X H1 Y H → G H ∧ DenAll C.K (vis H Y) xs ds) :
    WalkD S C X H1 J (ds.mapIdx fun i x => .tup [.int (k + (i : Nat)), x]) := by
  intro Y i H s
  obtain ⟨g, a⟩ := kk Y H s
  rw [List.length_mapIdx]
  refine ⟨fun hi => ⟨w.goes i H (hn ▸ hi) g, fun x H' hy => ?_⟩, fun hi => hs i H (by omega) g⟩
  obtain ⟨T, v, y, rfl, hT, rfl, ev, ey⟩ := w.yields i H x H' (hn ▸ hi) g hy
  dsimp only at ev ey
  cases ev
  obtain ⟨d, e, den⟩ := a.getV ey
  have nT : ¬ Y T := fun y => by
    obtain ⟨o, q⟩ := hal s T y
    rw [hT] at q; cases q
  refine ⟨same_upd hT, _, by rw [List.getElem?_mapIdx, e]; rfl, .tup (vis_mk nT upd_same) (.cons (.int _) (.cons (den.mono fun b o e => ?_) .nil))⟩
  obtain ⟨n1, e1⟩ := vis_of e
  exact vis_mk n1 (same_upd hT _ _ e1)
theorem di_enumK [Src R S] {k : Nat} (h : DEg R C tl el) : DIg S C (iEnumTk C.K (k : Int) (tCons tl tNil)) (eEnumK k (eCons el eNil)) := by
  intro X env σ H Rr Qd Qx rp he q x
  refine h X env σ H _ _ Qx rp he (fun d v H1 f1 r1 he1 => ?_) x
  show ∃ a xs, [v] = [.ref a] ∧ _
  have he1 : (match [d] with
    | [.tup xs] => Qd (xs.mapIdx fun i x => .tup [.int ((k : Int) + (i : Nat)), x])
    | _ => False) := he1
  split at he1
  · rename_i e
    cases e
    obtain ⟨p, vs, rfl, h1, kk⟩ := Src.tup (S := S) r1
    refine ⟨p, vs, rfl, .inl (.inl h1), q _ _ H1 f1 ?_ he1⟩
    intro Y i H2 s
    exact walk_pairk (G := fun H => SqT C.K H p vs) (fun s => Src.al (R := R) s) (kk Y H2 s).2.length.symm walk_enumTk (fun i H hi g => ⟨vs, g, hi⟩) (fun Y H s => ⟨.inl (.inl (kk Y H s).1), (kk Y H s).2⟩) Y i H2 s
  · exact he1.elim
end
/-! ### all, any -/
def rAllU (K : PySem.W.Frag) : List V → Hp → VK → Prop := rAll K
theorem call_allU {X : Cx} {K : PySem.W.Frag} (hc : X.calm = true) (e : X.K = K) : CallR X (.builtin "all") (rAllU K) := e ▸ cr_all hc
def dAll : DL := fun ds Q => match ds with
  | [.lst xs] => ∃ bs : List Bool, xs = bs.map .bl ∧ Q (.bl (bs.all id))
  | _ => False
theorem DenAll.bls_of {K : PySem.W.Frag} {H : Hp} : ∀ {vs : List V} {bs : List Bool}, DenAll K H vs (bs.map .bl) → vs = bs.map V.bl
  | _, [], .nil => rfl
  | _, n :: ns, .cons a b => by rw [List.map_cons, a.flat rfl, DenAll.bls_of b]
section
variable {C : Bc}
theorem cg_all : CallG Cln C (rAllU C.K) dAll := by
  intro X env σ H vs ds Q Qd rp ra he q
  unfold dAll at he
  split at he
  · obtain ⟨v, rfl, r1⟩ := ra.one
    obtain ⟨bs, rfl, he⟩ := he
    obtain ⟨p, vs, rfl, h1, a1⟩ := r1.lst
    rw [a1.bls_of] at h1
    exact ⟨p, bs, rfl, .inl (.inl h1), q _ _ H (.refl H) (.bl _) he⟩
  · exact he.elim
end
/-! ### a written dict of one pair of whole numbers -/
def eDk1 (k v : Int) : DX := fun _ Q _ => Q (.dk [.inl k] [.int v])
/-! ### sorted(set(rows)), sorted(rows): words of one length -/
end Mine
namespace Mine
open PySem PySem.Spec PyProof.Rows L2
theorem DenAll.rows {K : PySem.W.Frag} {H : Hp} : ∀ {vs : List V} {ws : List (List Int)}, DenAll K H vs (ws.map fun w => Dt.tup (w.map .int)) → ∃ L : List (Addr × List Int), vs = L.map (fun q => V.ref q.1) ∧ L.map (·.2) = ws ∧ ∀ q ∈ L, H q.1 = some (.tup (q.2.map V.int))
  | _, [], .nil => ⟨[], rfl, rfl, fun _ h => by cases h⟩
  | _, w :: ws, .cons a b => by
    obtain ⟨L, e1, e2, h⟩ := DenAll.rows b
    obtain ⟨p, vs, rfl, hp, av⟩ := a.tupI
    rw [av.ints_of] at hp
    exact ⟨(p, w) :: L, by rw [List.map_cons, e1], by rw [List.map_cons, e2], fun q hq => by
      rcases List.mem_cons.mp hq with e | e
      · rw [e]; exact hp
      · exact h q e⟩
section
variable {C : Bc} {X : Addr → Prop} {env : List Sl} {σ : L2.St} {H H1 : Hp}
theorem Bor.rows {v : V} {ws : List (List Int)} {H0 : Hp} (h : Bor C X H0 H v (.lst (ws.map fun w => Dt.tup (w.map .int)))) : ∃ (p : Addr) (L : List (Addr × List Int)), v = .ref p ∧ H p = some (.lst (L.map fun q => V.ref q.1)) ∧ L.map (·.2) = ws ∧ ∀ q ∈ L, vis H X q.1 = some (.tup (q.2.map V.int)) := by
  obtain ⟨p, vs, rfl, h1, a⟩ := h.lst
  obtain ⟨L, rfl, e, hL⟩ := a.rows
  exact ⟨p, L, rfl, h1, e, hL⟩
end
end Mine
namespace Mine
open PySem PySem.Spec PyProof.Rows L2
/-! ### sorted(xs): whole numbers (any number of them), words of one length -/
section
variable {C : Bc}
end
end Mine
namespace Mine
open PySem PySem.Spec PyProof.Rows L2
theorem funD_inj {K : PySem.W.Frag} {name qual : Str} {params : Arguments} {body : List Stmt} {scope : Scope} {dvs dvs' : List V} {kws kws' : List (Str × V)} {f : Addr} {fd fd' : FuncData}
    (D : FunD K name qual params body scope dvs kws f fd) (D' : FunD K name qual params body scope dvs' kws' f fd') : fd = fd' := by
  obtain ⟨_, _, _, _, _, _, _, _, _, _, rfl, l1, _⟩ := D.ex
  obtain ⟨_, _, _, _, _, _, _, _, _, _, rfl, l0, _⟩ := D'.ex
  have z := l1.symm.trans l0
  injection z with z
  injection z with z1 z2 z3
  injection z3
end Mine
namespace Mine
open PySem PySem.Spec PyProof.Rows L2
end Mine

namespace Mine
open PySem PySem.Spec PyProof.Rows L2
theorem mkD_W (np N : Nat) (s : DSt) {args} {Q} {E} : mkD np N s args Q E = (args.length = np ∧ s ⟨fun _ => Q .non, Q, fun _ => False, fun _ => False, fun _ x => E x⟩ (args ++ List.replicate (N - np) .no)) := rfl
theorem mkD0_W (np N : Nat) (s : DSt) {args} {Q} {E} : mkD0 np N s args Q E = (args.length = np ∧ s ⟨fun _ => Q .non, Q, fun _ => False, fun _ => False, fun _ _ => False⟩ (args ++ List.replicate (N - np) .no)) := rfl
theorem sSeq_W (a b : DSt) {d} {env} : sSeq a b d env = (a { d with nx := b d } env) := rfl
theorem sAsg_W (e : DX) (f : DGX) {d} {env} : sAsg e f d env = (e env (fun x => f x env d.nx) (d.xc env)) := rfl
theorem sRet_W (e : DX) {d} {env} : sRet e d env = (e env d.rt (d.xc env)) := rfl
theorem sRetN_W {d} {u1} : sRetN d u1 = (d.rt .non) := rfl
theorem sIf_W (c : DTX) (a b : DSt) {d} {env} : sIf c a b d env = (c env (fun k => if k = true then a d env else b d env) (d.xc env)) := rfl
theorem sNext_W {d} {env} : sNext d env = (d.nx env) := rfl
theorem sDrop_W (e : DX) {d} {env} : sDrop e d env = (e env (fun _ => d.nx env) (d.xc env)) := rfl
theorem sBreak_W {d} {env} : sBreak d env = (d.bk env) := rfl
theorem sCont_W {d} {env} : sCont d env = (d.ct env) := rfl
theorem sOwn_W (j : Nat) (e : DX) {d} {env} : sOwn j e d env = (e env (fun x => match x with
  | .lst xs => d.nx (env.set j (.own (.lst xs)))
  | _ => False) (d.xc env)) := rfl
theorem sPar_W (i j : Nat) (a : DAX) {d} {env} : sPar i j a d env = (a env (fun ds => match ds with
  | [x, y] => d.nx ((env.set i (.d x)).set j (.d y))
  | _ => False) (d.xc env)) := rfl
theorem sPar3_W (i j l : Nat) (a : DAX) {d} {env} : sPar3 i j l a d env = (a env (fun ds => match ds with
  | [x, y, z] => d.nx (((env.set i (.d x)).set j (.d y)).set l (.d z))
  | _ => False) (d.xc env)) := rfl
theorem sFrz_W (i : Nat) (s : DSt) {d} {env} : sFrz i s d env = (s d (frz env i)) := rfl
theorem sApp_W (i : Nat) (e : DX) {d} {env} : sApp i e d env = (match env[i]? with
  | some (.own (.lst xs)) => e env (fun y => xs.length < LINE ∧ d.nx (env.set i (.own (.lst (xs ++ [y]))))) (d.xc env)
  | _ => False) := rfl
theorem sExt_W (i : Nat) (e : DX) {d} {env} : sExt i e d env = (match env[i]? with
  | some (.own (.lst xs)) => e env (fun y => match y with
    | .lst ys => xs.length + ys.length ≤ LINE ∧ d.nx (env.set i (.own (.lst (xs ++ ys))))
    | _ => False) (d.xc env)
  | _ => False) := rfl
theorem sPop_W (i : Nat) {d} {env} : sPop i d env = (match env[i]? with
  | some (.own (.lst xs)) => xs ≠ [] ∧ d.nx (env.set i (.own (.lst xs.dropLast)))
  | _ => False) := rfl
theorem sPopTo_W (i j : Nat) {d} {env} : sPopTo i j d env = (match env[i]? with
  | some (.own (.lst xs)) => ∃ y, xs[xs.length - 1]? = some y ∧ d.nx ((env.set i (.own (.lst xs.dropLast))).set j (.d y))
  | _ => False) := rfl
theorem sPut_W (i : Nat) (ek e : DX) {d} {env} : sPut i ek e d env = (match env[i]? with
  | some (.own (.lst xs)) => e env (fun y => ek env (fun k => match k with
    | .int k => ∃ j, ixN xs.length k = some j ∧ d.nx (env.set i (.own (.lst (xs.set j y))))
    | _ => False) (d.xc env)) (d.xc env)
  | _ => False) := rfl
theorem sAugP_W (f : Int → Int → Int) (i : Nat) (ek e : DX) {d} {env} : sAugP f i ek e d env = (match env[i]? with
  | some (.own (.lst xs)) => ek env (fun k => match k with
    | .int k => ∃ j z, ixN xs.length k = some j ∧ xs[j]? = some (.int z) ∧ e env (fun y => match y with
      | .int y => d.nx (env.set i (.own (.lst (xs.set j (.int (f z y))))))
      | _ => False) (d.xc env)
    | _ => False) (d.xc env)
  | _ => False) := rfl
theorem sAug_W (f : Int → Int → Int) (i : Nat) (e : DX) {d} {env} : sAug f i e d env = (match env[i]? with
  | some (.d (.int x)) => e env (fun y => match y with
    | .int y => d.nx (env.set i (.d (.int (f x y))))
    | _ => False) (d.xc env)
  | _ => False) := rfl
theorem sFor_W (src : DAX) (f : DGX) (b : DSt) {d} {env} : sFor src f b d env = (src env (fun ds => dFor f b d ds env) (d.xc env)) := rfl
theorem sRaise_W (c : Str) {d} {env} : sRaise c d env = (d.xc env ⟨c, []⟩) := rfl
theorem sRaise1_W (c f : Str) (e : DX) {d} {env} : sRaise1 c f e d env = (e env (fun x => match x.flat with
  | some u => d.xc env ⟨c, [(f, u)]⟩
  | none => False) (d.xc env)) := rfl
theorem gD_W (j : Nat) {d} {env} {Q} : gD j d env Q = (Q (env.set j (.d d))) := rfl
theorem gD2_W (i j : Nat) {d} {env} {Q} : gD2 i j d env Q = (match d with
  | .tup [a, b] => Q ((env.set i (.d a)).set j (.d b))
  | _ => False) := rfl
theorem gD3_W (i j k : Nat) {d} {env} {Q} : gD3 i j k d env Q = (match d with
  | .tup [a, b, c] => Q (((env.set i (.d a)).set j (.d b)).set k (.d c))
  | _ => False) := rfl
theorem eVar_W (i : Nat) {env} {Q} {u2} : eVar i env Q u2 = (match env[i]? with
  | some (.d x) => Q x
  | _ => False) := rfl
theorem eVarB_W (i : Nat) {env} {Q} {u2} : eVarB i env Q u2 = (match env[i]? with
  | some (.d x) => Q x
  | some (.own (.lst xs)) => Q (.lst xs)
  | _ => False) := rfl
theorem eC_W (d : Dt) {u0} {Q} {u2} : eC d u0 Q u2 = (Q d) := rfl
theorem eOp_W (f : D2) (a b : DX) {env} {Q} {E} : eOp f a b env Q E = (a env (fun x => b env (fun y => f x y Q) E) E) := rfl
theorem eUn_W (f : D1) (a : DX) {env} {Q} {E} : eUn f a env Q E = (a env (fun x => f x Q) E) := rfl
theorem eCB_W (f : DL) (a : DAX) {env} {Q} {E} : eCB f a env Q E = (a env (fun ds => f ds Q) E) := rfl
theorem eCons_W (a : DX) (r : DAX) {env} {Q} {E} : eCons a r env Q E = (a env (fun d => r env (fun ds => Q (d :: ds)) E) E) := rfl
theorem eConsS_W (a : DX) (r : DSX) {env} {Q} {E} : eConsS a r env Q E = (a env (fun d => r env (fun ds => Q (.d d :: ds)) E) E) := rfl
theorem eConsH_W (i : Nat) (r : DSX) {env} {Q} {E} : eConsH i r env Q E = (match env[i]? with
  | some .hand => r env (fun ds => Q (.hand :: ds)) E
  | _ => False) := rfl
theorem eTup_W (r : DAX) {env} {Q} {E} : eTup r env Q E = (r env (fun ds => ds.length ≤ LINE ∧ Q (.tup ds)) E) := rfl
theorem eLst_W (r : DAX) {env} {Q} {E} : eLst r env Q E = (r env (fun ds => ds.length ≤ LINE ∧ Q (.lst ds)) E) := rfl
theorem eCall_W (F : DFn) (dd : List Sl) (a : DSX) {env} {Q} {E} : eCall F dd a env Q E = (a env (fun ss => F (ss ++ dd) Q E) E) := rfl
theorem eCall0_W (F : DFn) (dd : List Sl) (a : DSX) {env} {Q} {E} : eCall0 F dd a env Q E = (a env (fun ss => F (ss ++ dd) Q fun _ => False) E) := rfl
theorem eTest_W (e : DX) {env} {Q} {E} : eTest e env Q E = (e env (fun d => match d with
  | .bl b => Q b
  | _ => False) E) := rfl
theorem eNotT_W (t : DTX) {env} {Q} {E} : eNotT t env Q E = (t env (fun b => Q (!b)) E) := rfl
theorem eAndT_W (t u : DTX) {env} {Q} {E} : eAndT t u env Q E = (t env (fun b => if b = true then u env Q E else Q false) E) := rfl
theorem eOrT_W (t u : DTX) {env} {Q} {E} : eOrT t u env Q E = (t env (fun b => if b = true then Q true else u env Q E) E) := rfl
theorem eTru_W (e : DX) {env} {Q} {E} : eTru e env Q E = (e env (fun d => dTru d Q) E) := rfl
theorem eAndV_W (a b : DX) {env} {Q} {E} : eAndV a b env Q E = (a env (fun d => eBool d fun c => if c = true then b env Q E else Q (.bl false)) E) := rfl
theorem eOrV_W (a b : DX) {env} {Q} {E} : eOrV a b env Q E = (a env (fun d => eBool d fun c => if c = true then Q (.bl true) else b env Q E) E) := rfl
theorem eNotV_W (a : DX) {env} {Q} {E} : eNotV a env Q E = (a env (fun d => eBool d fun c => Q (.bl (!c))) E) := rfl
theorem eNotVT_W (a : DX) {env} {Q} {E} : eNotVT a env Q E = (a env (fun d => dTru d fun c => Q (.bl (!c))) E) := rfl
theorem eIf_W (t : DTX) (a b : DX) {env} {Q} {E} : eIf t a b env Q E = (t env (fun c => if c = true then a env Q E else b env Q E) E) := rfl
theorem eChain_W (f g : D2) (a b c : DX) {env} {Q} {E} : eChain f g a b c env Q E = (a env (fun x => b env (fun y => f x y fun d => eBool d fun k => if k = true then c env (fun z => g y z Q) E else Q (.bl false)) E) E) := rfl
theorem eLc_W (src : DAX) (f : DGX) (tt : DTX) (te : DX) (vs : List Nat) {env} {Q} {E} : eLc src f tt te vs env Q E = (src env (fun ds => lcGo f tt te (wipeS env vs) Q ds []) E) := rfl
theorem eLc2_W (src : DAX) (f : DGX) (tt : DTX) (src1 : DAX) (f1 : DGX) (tt1 : DTX) (te : DX) (vs1 vs : List Nat) {env} {Q} {E} : eLc2 src f tt src1 f1 tt1 te vs1 vs env Q E = (src env (fun ds => lcGo2 f tt src1 f1 tt1 te vs1 (wipeS env vs) Q ds []) E) := rfl
theorem eYes_W {u0} {Q} {u2} : eYes u0 Q u2 = (Q true) := rfl
theorem eSeq_W (a : DX) {env} {Q} {E} : eSeq a env Q E = (a env (fun d => match d with
  | .lst xs => Q xs
  | .tup xs => Q xs
  | _ => False) E) := rfl
theorem eRng1_W (a : DAX) {env} {Q} {E} : eRng1 a env Q E = (a env (fun ds => match ds with
  | [.int j] => (-(2 ^ 62) ≤ j ∧ j < 2 ^ 62) ∧ Q ((List.range j.toNat).map fun i => .int (i : Nat))
  | _ => False) E) := rfl
theorem eRng2_W (a : DAX) {env} {Q} {E} : eRng2 a env Q E = (a env (fun ds => match ds with
  | [.int i, .int j] => (-(2 ^ 62) ≤ i ∧ i < 2 ^ 62 ∧ -(2 ^ 62) ≤ j ∧ j < 2 ^ 62) ∧ Q ((List.range (j - i).toNat).map fun k => .int (i + (k : Nat)))
  | _ => False) E) := rfl
theorem eEnum_W (a : DAX) {env} {Q} {E} : eEnum a env Q E = (a env (fun ds => match ds with
  | [.lst xs] => Q (xs.mapIdx fun i x => .tup [.int (i : Nat), x])
  | [.tup xs] => Q (xs.mapIdx fun i x => .tup [.int (i : Nat), x])
  | _ => False) E) := rfl
theorem eEnumK_W (k : Nat) (a : DAX) {env} {Q} {E} : eEnumK k a env Q E = (a env (fun ds => match ds with
  | [.tup xs] => Q (xs.mapIdx fun i x => .tup [.int ((k : Int) + (i : Nat)), x])
  | _ => False) E) := rfl
theorem eZip_W (a b : DX) {env} {Q} {E} : eZip a b env Q E = (a env (fun d1 => b env (fun d2 => match d1, d2 with
  | .lst xs, .lst ys => Q (List.zipWith (fun x y => .tup [x, y]) xs ys)
  | .tup xs, .lst ys => xs.length = ys.length ∧ Q (List.zipWith (fun x y => .tup [x, y]) xs ys)
  | .tup xs, .tup ys => xs.length = ys.length ∧ Q (List.zipWith (fun x y => .tup [x, y]) xs ys)
  | _, _ => False) E) E) := rfl
theorem eSl_W (f : D3) (a : DX) (lo hi : DOX) {env} {Q} {E} : eSl f a lo hi env Q E = (a env (fun d => lo env (fun l => hi env (fun u => f d l u Q) E) E) E) := rfl
theorem ePart_W (e : DX) {env} {Q} {E} : ePart e env Q E = (e env (fun d => match d with
  | .int i => Q (some i)
  | _ => False) E) := rfl
theorem eNoPart_W {u0} {Q} {u2} : eNoPart u0 Q u2 = (Q none) := rfl
theorem eRev_W (a : DX) {env} {Q} {E} : eRev a env Q E = (a env (fun d => match d with
  | .lst xs => Q (.lst xs.reverse)
  | .tup xs => Q (.tup xs.reverse)
  | _ => False) E) := rfl
theorem eRevL_W (a : DX) {env} {Q} {E} : eRevL a env Q E = (a env (fun d => match d with
  | .lst xs => Q (.lst xs.reverse)
  | _ => False) E) := rfl
theorem eDk0_W {u0} {Q} {u2} : eDk0 u0 Q u2 = (Q (.dk [] [])) := rfl
theorem eDk1_W (k v : Int) {u0} {Q} {u2} : eDk1 k v u0 Q u2 = (Q (.dk [.inl k] [.int v])) := rfl
theorem eXf_W (i : Nat) (c f : Str) {env} {Q} {u2} : eXf i c f env Q u2 = (match env[i]? with
  | some (.exc c' fs) => c' = c ∧ ∃ u, fs.lookup f = some u ∧ Q (Dt.ofV u)
  | _ => False) := rfl
theorem eIsX_W (i : Nat) (tab : Str → Option Bool) {env} {Q} {u2} : eIsX i tab env Q u2 = (match env[i]? with
  | some (.exc c fs) => ∃ b, tab c = some b ∧ Q (.bl b)
  | _ => False) := rfl
theorem dIsN_W {a} {b} {Q} : dIsN a b Q = (match b with
  | .non => Q (.bl a.isN)
  | _ => False) := rfl
theorem dNotN_W {a} {b} {Q} : dNotN a b Q = (match b with
  | .non => Q (.bl (!a.isN))
  | _ => False) := rfl
theorem dIx_W {a} {b} {Q} : dIx a b Q = (match a, b with
  | .lst xs, .int k => ∃ x, atI xs k = some x ∧ Q x
  | .tup xs, .int k => ∃ x, atI xs k = some x ∧ Q x
  | .str z, .int k => z.length ≤ LINE ∧ ∃ c, atI z.cps.toList k = some c ∧ Q (.str ⟨#[c]⟩)
  | _, _ => False) := rfl
theorem dSl_W {a} {lo} {hi} {Q} : dSl a lo hi Q = (match a with
  | .lst xs => Q (.lst (cutG xs lo hi))
  | .tup xs => Q (.tup (cutG xs lo hi))
  | .str z => z.length ≤ LINE ∧ Q (.str (cutS z lo hi))
  | _ => False) := rfl
theorem dSlL_W {a} {lo} {hi} {Q} : dSlL a lo hi Q = (match a with
  | .lst xs => Q (.lst (cutG xs lo hi))
  | _ => False) := rfl
theorem dLen_W {ds} {Q} : dLen ds Q = (match ds with
  | [.lst xs] => Q (.int xs.length)
  | [.tup xs] => Q (.int xs.length)
  | [.str z] => z.length ≤ LINE ∧ Q (.int z.length)
  | [.dk ks _] => Q (.int ks.length)
  | _ => False) := rfl
theorem dInt_W {ds} {Q} : dInt ds Q = (match ds with
  | [.int i] => Q (.int i)
  | [.bl k] => Q (.int (if k then 1 else 0))
  | [.str z] => z.length ≤ 640 ∧ ∃ n, PySem.intText? z = some n ∧ Q (.int n)
  | _ => False) := rfl
theorem dStr_W {ds} {Q} : dStr ds Q = (match ds with
  | [.int i] => i.natAbs.log2 < 1920 ∧ Q (.str (toString i))
  | _ => False) := rfl
theorem dAbs_W {ds} {Q} : dAbs ds Q = (match ds with
  | [.int i] => Q (.int (if i < 0 then -i else i))
  | _ => False) := rfl
theorem dMax2_W {ds} {Q} : dMax2 ds Q = (match ds with
  | [.int i, .int j] => Q (.int (if j > i then j else i))
  | _ => False) := rfl
theorem dMin2_W {ds} {Q} : dMin2 ds Q = (match ds with
  | [.int i, .int j] => Q (.int (if j < i then j else i))
  | _ => False) := rfl
theorem dTupOf_W {ds} {Q} : dTupOf ds Q = (match ds with
  | [.lst xs] => Q (.tup xs)
  | [.tup xs] => Q (.tup xs)
  | _ => False) := rfl
theorem dLstOf_W {ds} {Q} : dLstOf ds Q = (match ds with
  | [.lst xs] => Q (.lst xs)
  | [.tup xs] => Q (.lst xs)
  | _ => False) := rfl
theorem dIsi_W (T : String) {ds} {Q} : dIsi T ds Q = (match ds with
  | [x, .raw (.ty T')] => T' = T ∧ x.kind.isSome = true ∧ Q (.bl (x.isa T))
  | _ => False) := rfl
theorem dIsi2_W (T U : String) {ds} {Q} : dIsi2 T U ds Q = (match ds with
  | [x, .tup [.raw (.ty T'), .raw (.ty U')]] => T' = T ∧ U' = U ∧ x.kind.isSome = true ∧ Q (.bl (x.isa T || x.isa U))
  | _ => False) := rfl
theorem sTry_W (mt : Str → Str → Option Bool) (b : DSt) (hs : List (Str × Option Nat × DSt)) {d} {env} : sTry mt b hs d env = (b { d with xc := fun e x => dHs mt hs d e x } env) := rfl
theorem eNil_W {δ : Type} {u0 : List Sl} {Q : List δ → Prop} {u2 : Xc → Prop} : (eNil (δ := δ)) u0 Q u2 = Q [] := rfl
theorem eBool_W {d : Dt} {Q : Bool → Prop} : eBool d Q = (match d with
  | .bl b => Q b
  | _ => False) := rfl
theorem frz_W {env : List Sl} {i : Nat} : frz env i = (match env[i]? with
  | some (.own w) => env.set i (.d w.fz)
  | _ => env) := rfl
theorem fz_lst {xs : List Dt} : (Ow.lst xs).fz = .lst xs := rfl
theorem fz_dk {ks : List Key} {xs : List Dt} : (Ow.dk ks xs).fz = .dk ks xs := rfl
theorem fz_dt {ks : List (List Key)} {xs : List Dt} : (Ow.dt ks xs).fz = .dt ks xs := rfl
theorem LINE_W : LINE = 16777216 := rfl
theorem take_W {m : Int} {Q : Dt → Prop} {E : Xc → Prop} : F_law_take [.hand, .d (.int m)] Q E = ((0 < m ∧ m < 115792089237316195423570985008687907853269984665640564039457584007913129639936) ∧ ∀ r : Nat, (r : Int) < m → Q (.int r)) := rfl
end Mine

namespace Mine
open PySem PySem.Spec PyProof.Rows L2
/-! ### instances of one's own classes: fields -/
/-- which attributes of which classes are plain -/
def FldOk (K : PySem.W.Frag) (tab : Str → Str → Bool) : Prop := ∀ C f, tab C f = true → Cls K (He.ga K C) ∧ NoAttr K (He.ga K C) f
theorem DenAll.look {K : PySem.W.Frag} {H : Hp} {f : Str} : ∀ {ns : List Str} {vs : List V} {ds : List Dt} {x : Dt}, DenAll K H vs ds → (ns.zip ds).lookup f = some x → ∃ v, (ns.zip vs).lookup f = some v ∧ Den K H v x
  | [], _, _, _, _, e => by simp at e
  | n :: ns, _, _, _, .nil, e => by simp at e
  | n :: ns, v :: vs, d :: ds, x, .cons a r, e => by
    rw [List.zip_cons_cons, List.lookup_cons] at e ⊢
    cases h : (f == n) with
    | true => rw [h] at e; cases e; exact ⟨v, rfl, a⟩
    | false => rw [h] at e; exact DenAll.look r e
theorem DenAll.lookN {K : PySem.W.Frag} {H : Hp} {f : Str} : ∀ {ns : List Str} {vs : List V} {ds : List Dt}, DenAll K H vs ds → (ns.zip ds).lookup f = none → (ns.zip vs).lookup f = none
  | [], _, _, _, _ => by simp
  | n :: ns, _, _, .nil, e => by simp
  | n :: ns, v :: vs, d :: ds, .cons a r, e => by
    rw [List.zip_cons_cons, List.lookup_cons] at e ⊢
    cases h : (f == n) with
    | true => rw [h] at e; cases e
    | false => rw [h] at e; exact DenAll.lookN r e
def eFld (tab : Str → Str → Bool) (f : Str) (a : DX) : DX := fun env Q E => a env (fun d => match d with
  | .ins C ns ds => tab C f = true ∧ ∃ x, (ns.zip ds).lookup f = some x ∧ Q x
  | _ => False) E
/-- self.f while self is made -/
def eFldS (tab : Str → Str → Bool) (f : Str) (i : Nat) : DX := fun env Q _ => match env[i]? with
  | some (.ins C ns ds) => tab C f = true ∧ ∃ x, (ns.zip ds).lookup f = some x ∧ Q x
  | _ => False
/-- self.f = e: a new field, or an old one anew -/
def putNs (f : Str) : List Str → List Str
  | [] => [f]
  | n :: ns => if n = f then n :: ns else n :: putNs f ns
def putDs (f : Str) (y : Dt) : List Str → List Dt → List Dt
  | n :: ns, d :: ds => if n = f then y :: ds else d :: putDs f y ns ds
  | _, _ => [y]
def sSetF (tab : Str → Str → Bool) (f : Str) (i : Nat) (e : DX) : DSt := fun d env => match env[i]? with
  | some (.ins C ns ds) => e env (fun y => tab C f = true ∧ i = 0 ∧ ns.length < 900 ∧ d.nx (env.set i (.ins C (putNs f ns) (putDs f y ns ds)))) (d.xc env)
  | _ => False
theorem putF_zip {K : PySem.W.Frag} {H : Hp} {f : Str} {v : V} {y : Dt} (hv : Den K H v y) : ∀ {ns : List Str} {vs : List V} {ds : List Dt}, ns.length = vs.length → DenAll K H vs ds →
    ∃ vs', putF f v (ns.zip vs) = (putNs f ns).zip vs' ∧ (putNs f ns).length = vs'.length ∧ DenAll K H vs' (putDs f y ns ds)
  | [], [], _, _, .nil => ⟨[v], rfl, rfl, .cons hv .nil⟩
  | n :: ns, u :: vs, d :: ds, l, .cons a r => by
    by_cases c : n = f
    · subst c
      refine ⟨v :: vs, ?_, ?_, ?_⟩
      · show (if n = n then _ else _) = (if n = n then _ else _ : List Str).zip _
        rw [if_pos rfl, if_pos rfl]; rfl
      · show (if n = n then _ else _ : List Str).length = _
        rw [if_pos rfl]; exact l
      · show DenAll K H _ (if n = n then _ else _)
        rw [if_pos rfl]; exact .cons hv r
    · obtain ⟨vs', h1, h2, h3⟩ := putF_zip (f := f) hv (ns := ns) (by simpa using l) r
      refine ⟨u :: vs', ?_, ?_, ?_⟩
      · show (if n = f then _ else _) = (if n = f then _ else _ : List Str).zip _
        rw [if_neg c, if_neg c]; exact congrArg ((n, u) :: ·) h1
      · show (if n = f then _ else _ : List Str).length = _
        rw [if_neg c, List.length_cons, List.length_cons, h2]
      · show DenAll K H _ (if n = f then _ else _)
        rw [if_neg c]; exact .cons a h3
section
variable {C : Bc} {X : Addr → Prop} {env : List Sl} {σ : L2.St} {H : Hp} {te : TE} {ea e : DX} {f : Str} {tab : Str → Str → Bool}
theorem de_fld (ht : FldOk C.K tab) (he : DB C te ea) : DE C (tFld C.K te f) (eFld tab f ea) := by
  intro X env σ H Q Qd Qx rp h q x
  refine he X env σ H _ _ Qx rp h (fun d v H1 f1 r1 h1 => ?_) x
  split at h1
  · obtain ⟨h2, y, h3, h4⟩ := h1
    obtain ⟨c1, c2⟩ := ht _ _ h2
    obtain ⟨p, dx, vs, rfl, hp, hl, al⟩ := r1.ins
    obtain ⟨u, hu, du⟩ := al.look h3
    exact ⟨p, _, dx, _, u, rfl, hp, c1, c2, hu, q _ _ _ f1 du h4⟩
  · exact h1.elim
/-- self, changed -/
theorem Rep.selfSet {p dx : Addr} {C0 C1 : Str} {ns ns' : List Str} {ds ds' : List Dt} {vs' : List V} (r : Rep C X env σ H) (e : env[0]? = some (.ins C0 ns ds)) (es : σ[0]? = some (some (.ref p))) (x1 : X p) (x2 : ¬ C.X0 p)
    (hl : ns'.length = vs'.length) (hme : C.me = some p) (h2 : DenAll C.K (vis H X) vs' ds') :
    Rep C X (env.set 0 (.ins C1 ns' ds')) σ (upd H p (.ins (He.ga C.K C1) dx (ns'.zip vs'))) ∧ Same (vis H X) (vis (upd H p (.ins (He.ga C.K C1) dx (ns'.zip vs'))) X) := by
  obtain ⟨o0, es0, p0, dx0, vs0, ep0, _, _, hp0, _, _⟩ := r.slot 0 _ e
  rw [es] at es0; cases es0; cases ep0
  have sm : Same (vis H X) (vis (upd H p (.ins (He.ga C.K C1) dx (ns'.zip vs'))) X) := fun a o q => by
    obtain ⟨n1, e1⟩ := vis_of q
    exact vis_mk n1 (by rw [upd_ne (fun (z : a = p) => n1 (by rw [z]; exact x1))]; exact e1)
  have h0 : C.H0 p = none := (r.new p x1).resolve_left x2
  have fm : Frm C.hd C.H0 (upd H p (.ins (He.ga C.K C1) dx (ns'.zip vs'))) := by
    refine ⟨fun a u q k => ?_, fun h c q x => ?_⟩
    · rw [upd_ne (ne_of_none q h0)]; exact r.frm.1 a u q k
    · have y := r.frm.2 h c q x
      obtain ⟨_, _, _, _, a1, a2, _⟩ := x
      obtain ⟨cells, at_, big, mix, b1, b2, b3⟩ := y
      exact ⟨cells, at_, big, mix, by rw [upd_ne (ne_of_none a1 h0)]; exact b1, by rw [upd_ne (ne_of_none a2 h0)]; exact b2, b3⟩
  have hlen : 0 < env.length := (List.getElem?_eq_some_iff.mp e).1
  refine ⟨⟨by rw [List.length_set, r.len], r.sup, r.new, fun a z => ?_, fm, fun h c q => ⟨(r.hands h c q).1, (r.hands h c q).2.1, fm.2 h c q (r.hands h c q).2.1⟩, fun j s q => ?_, r.ap.setS fun _ _ _ f => f.elim, r.one.set0⟩, sm⟩
  · by_cases c : a = p
    · subst c; exact ⟨_, upd_same⟩
    · obtain ⟨o, q⟩ := r.al a z
      exact ⟨o, by rw [upd_ne c]; exact q⟩
  · rw [List.getElem?_set] at q
    by_cases c : 0 = j
    · subst c
      rw [if_pos rfl, if_pos hlen] at q
      cases q
      exact ⟨_, es, p, dx, vs', rfl, x1, x2, upd_same, ⟨hl, hme⟩, h2.mono sm⟩
    · rw [if_neg c] at q
      obtain ⟨o, e1, w⟩ := r.slot j s q
      refine ⟨o, e1, ?_⟩
      cases s with
      | no => trivial
      | d x => obtain ⟨v, e2, h⟩ := w; exact ⟨v, e2, h.mono sm⟩
      | own ys =>
        obtain ⟨p', us, rfl, y1, y2, y3, y4⟩ := w
        have ne : p' ≠ p := fun z => by rw [z, hp0] at y3; cases y3; exact y4.noins
        exact ⟨p', us, rfl, y1, y2, by rw [upd_ne ne]; exact y3, y4.mono sm⟩
      | hand => exact w
      | exc c' fs => exact w.exc sm
      | ins C2 ns2 ds2 => exact absurd (r.one j ⟨C2, ns2, ds2, q⟩).symm c
      | tab p2 qs rows =>
        have ne : ∀ a ∈ p2 :: qs, a ≠ p := fun a ha z => by
          obtain ⟨us, h0⟩ := w.tab_lst a ha
          rw [z, hp0] at h0; cases h0
        exact w.tab_to (fun _ _ x => x) (fun a ha u h => by rw [upd_ne (ne a ha)]; exact h) sm
theorem dst_setF {i : Nat} (ht : FldOk C.K tab) (he : DE C te e) : DS C (sFld C.K (tVar i) te f) (sSetF tab f i e) := by
  intro X env σ H D d r l h
  unfold sSetF at h
  split at h
  · rename_i C0 ns ds ei
    refine he X env σ H _ _ _ r h (fun y v H1 f1 r1 hy => ?_) (l.xok r)
    obtain ⟨h2, rfl, h3, h4⟩ := hy
    obtain ⟨c1, c2⟩ := ht _ _ h2
    have rp1 := r.step f1
    obtain ⟨o, e1, p, dx, vs, rfl, x1, x2, hp, ⟨hl, hme⟩, al⟩ := rp1.slot 0 _ ei
    obtain ⟨vs', k1, k2, k3⟩ := putF_zip (f := f) r1 hl al
    refine ⟨_, e1, p, _, dx, _, rfl, hp, c1, c2, by rw [List.length_zip]; omega, ?_⟩
    rw [k1]
    obtain ⟨r3, sm⟩ := rp1.selfSet (C1 := C0) (dx := dx) ei e1 x1 x2 k2 hme k3
    exact l.nx _ _ _ _ r3 ((r.vs f1).trans sm) h4
  · exact h.elim
end
end Mine

namespace Mine
open PySem PySem.Spec PyProof.Rows L2
/-! ### C(..): __init__ by data; what it wants is the instance -/
def spI (K : PySem.W.Frag) (cls : Str) (F : DFn) : Sp := fun vs H Q E => ∃ (x dx : Addr) (us : List V) (H1 : Hp) (X : Addr → Prop) (hd : Hnd) (args : List Sl) (Qd : Dt → Prop) (Qx : Xc → Prop),
  vs = .ref x :: us ∧ H1 x = none ∧ H1 dx = none ∧ dx ≠ x ∧ H = upd (upd H1 dx (.own x)) x (.ins (He.ga K cls) dx []) ∧ (∀ a, X a → ∃ o, H1 a = some o) ∧ (∀ h c, hd = some (h, c) → X h ∧ HandC H1 h c) ∧ SlAll K hd X H1 us args ∧ F args Qd Qx ∧
  (∀ d H', Frm hd H1 H' → Den K (vis H' X) (.ref x) d → Qd d → Q .non H') ∧ (∀ y cls' dx' H', Frm hd H1 H' → XRep K (vis H' X) cls' dx' y → Qx y → E cls' dx' H')
/-- np parameters with self, N names in all -/
def mkI (cls : Str) (np N : Nat) (s : DSt) : DFn := fun args Q E => args.length + 1 = np ∧ s ⟨fun (env : List Sl) => match env[0]? with
  | some (Sl.ins C ns ds) => Q (.ins C ns ds)
  | _ => False, fun _ => False, fun _ => False, fun _ => False, fun _ x => E x⟩ (.ins cls [] [] :: (args ++ List.replicate (N - np) .no))
def mkI0 (cls : Str) (np N : Nat) (s : DSt) : DFn := fun args Q E => args.length + 1 = np ∧ s ⟨fun (env : List Sl) => match env[0]? with
  | some (Sl.ins C ns ds) => Q (.ins C ns ds)
  | _ => False, fun _ => False, fun _ => False, fun _ => False, fun _ _ => False⟩ (.ins cls [] [] :: (args ++ List.replicate (N - np) .no))
section
variable {C : Bc} {F : DFn} {cls : Str} {dvs : List V} {dd : List Sl} {t : TA} {a : DSX}
theorem de_make0 (hd : Dvs dvs dd) (ha : DAs C t a) : DE C (tMake (He.ga C.K cls) (spI C.K cls F) dvs E0 t) (eCall0 F dd a) := by
  intro X env σ H Q Qd Qx rp he q x
  refine ha X env σ H _ _ Qx rp he (fun ss vs H1 f1 r1 he1 => ?_) x
  intro p dx np nd ne
  have rp1 := rp.step f1
  exact ⟨p, dx, vs ++ dvs, H1, X, C.hd, ss ++ dd, Qd, fun _ => False, rfl, np, nd, ne, rfl, rp1.al, fun h c e => ⟨rp1.hX h c e, (rp1.hands h c e).2.2⟩, SlAll.append r1 (hd C.K C.hd X H1), he1, fun d H' f den qd => ⟨rfl, q d _ H' (f1.trans f) den qd⟩, fun _ _ _ _ _ _ z => z.elim⟩
end
theorem spI_len {K : PySem.W.Frag} {F : DFn} {cls : Str} {np : Nat} (hF : ∀ args Q E, F args Q E → args.length + 1 = np) : ∀ vs H Q E, spI K cls F vs H Q E → vs.length = np := by
  rintro vs H Q E ⟨x, dx, us, H1, X, hd, args, Qd, Qx, rfl, _, _, _, _, _, _, sl, h, _⟩
  rw [List.length_cons, sl.length]; exact hF _ _ _ h
/-- where the body of __init__ begins -/
theorem rep_startI {K : PySem.W.Frag} {X : Addr → Prop} {hd : Hnd} {H1 : Hp} {E : L2.St → XK} {cls : Str} {x dx : Addr} {us : List V} {args : List Sl} {N : List Str} (np : H1 x = none) (nd : H1 dx = none) (ne : dx ≠ x) (al : ∀ a, X a → ∃ o, H1 a = some o) (hh : ∀ h c, hd = some (h, c) → X h ∧ HandC H1 h c) (sl : SlAll K hd X H1 us args) :
    Rep ⟨K, H1, X, hd, none, E, some x⟩ (fun a => X a ∨ a = x) (.ins cls [] [] :: (args ++ List.replicate (N.length - (args.length + 1)) .no)) (L2.start N (.ref x :: us)) (upd (upd H1 dx (.own x)) x (.ins (He.ga K cls) dx [])) := by
  have hl := sl.length
  have nX : ¬ X x := fun z => by obtain ⟨o, e⟩ := al x z; rw [np] at e; cases e
  have f : Frm hd H1 (upd (upd H1 dx (.own x)) x (.ins (He.ga K cls) dx [])) := (Frm.upd nd).trans (.upd (by rw [upd_ne (Ne.symm ne)]; exact np))
  have sm : Same (vis H1 X) (vis (upd (upd H1 dx (.own x)) x (.ins (He.ga K cls) dx [])) fun a => X a ∨ a = x) := fun a o e => by
    obtain ⟨n1, e1⟩ := vis_of e
    have a1 : a ≠ x := ne_of_none e1 np
    have a2 : a ≠ dx := ne_of_none e1 nd
    exact vis_mk (fun z => z.elim n1 a1) (by rw [upd_ne a1, upd_ne a2]; exact e1)
  have slots : ∀ {us : List V} {args : List Sl}, SlAll K hd X H1 us args → ∀ (i : Nat) (s : Sl), args[i]? = some s → (∃ o, (us.map some)[i]? = some o ∧ SlRep ⟨K, H1, X, hd, none, E, some x⟩ (fun a => X a ∨ a = x) (upd (upd H1 dx (.own x)) x (.ins (He.ga K cls) dx [])) s o) ∧ (∀ o a, ¬ Foot s o a) ∧ ∀ C0 ns ds, s ≠ .ins C0 ns ds := by
    intro us args sl
    induction sl with
    | nil => intro i s e; simp at e
    | d a r ih =>
      intro i s e
      cases i with
      | zero => simp at e; subst e; exact ⟨⟨_, rfl, _, rfl, a.mono sm⟩, (fun _ _ f => f), fun _ _ _ z => by cases z⟩
      | succ i =>
        obtain ⟨⟨o, q⟩, n⟩ := ih i s (by simpa using e)
        exact ⟨⟨o, by simpa using q⟩, n⟩
    | hand a r ih =>
      intro i s e
      cases i with
      | zero => simp at e; subst e; exact ⟨⟨_, rfl, _, _, rfl, a⟩, (fun _ _ f => f), fun _ _ _ z => by cases z⟩
      | succ i =>
        obtain ⟨⟨o, q⟩, n⟩ := ih i s (by simpa using e)
        exact ⟨⟨o, by simpa using q⟩, n⟩
  have rest : ∀ (i : Nat) (s : Sl), (args ++ List.replicate (N.length - (args.length + 1)) Sl.no)[i]? = some s → (∀ o a, ¬ Foot s o a) ∧ ∀ C0 ns ds, s ≠ .ins C0 ns ds := fun i s e => by
    rw [List.getElem?_append] at e
    split at e
    · exact (slots sl i s e).2
    · rw [List.getElem?_replicate] at e
      split at e
      · cases e; exact ⟨(fun _ _ f => f), fun _ _ _ z => by cases z⟩
      · cases e
  refine ⟨?_, fun a z => .inl z, fun a z => ?_, fun a z => ?_, f, fun h c e => ⟨(hh h c e).1, (hh h c e).2, f.2 h c e (hh h c e).2⟩, fun i s e => ?_, .none fun i s e1 => ?_, fun i ⟨C0, ns, ds, e⟩ => ?_⟩
  · unfold L2.start
    simp [hl]
  · rcases z with z | rfl
    · exact .inl z
    · exact .inr np
  · rcases z with z | rfl
    · obtain ⟨o, e⟩ := al a z
      exact ⟨o, by rw [upd_ne (ne_of_none e np), upd_ne (ne_of_none e nd)]; exact e⟩
    · exact ⟨_, upd_same⟩
  · cases i with
    | zero =>
      simp at e
      subst e
      exact ⟨some (.ref x), rfl, x, dx, [], rfl, .inr rfl, nX, upd_same, ⟨rfl, rfl⟩, .nil⟩
    | succ i =>
      have e : (args ++ List.replicate (N.length - (args.length + 1)) Sl.no)[i]? = some s := e
      unfold L2.start
      rw [List.getElem?_append] at e
      rw [List.map_cons, List.cons_append, List.getElem?_cons_succ, List.getElem?_append, List.length_map, hl]
      split at e
      · rename_i c
        rw [if_pos c]
        exact (slots sl i s e).1
      · rename_i c
        rw [if_neg c]
        rw [List.getElem?_replicate] at e ⊢
        split at e
        · rename_i c2
          cases e
          rw [List.length_cons, hl, if_pos c2]
          exact ⟨_, rfl, trivial⟩
        · cases e
  · cases i with
    | zero => simp at e1; subst e1; exact fun _ _ f => f
    | succ i => exact (rest i _ e1).1
  · cases i with
    | zero => rfl
    | succ i => exact absurd rfl ((rest i _ e).2 C0 ns ds)
theorem body_ofI {K : PySem.W.Frag} {N : List Str} {np n : Nat} {cls : Str} {sb : DSt} {t : TS} {vs : List V} {H : Hp} {Q : VK} {E : XK} (hn : N.length = n) (h : spI K cls (mkI cls np n sb) vs H Q E)
    (hb : ∀ H X hd x, DS ⟨K, H, X, hd, none, fun _ => E, some x⟩ t sb) : t { nx := fun _ H' => Q .non H', rt := Q } (L2.start N vs) H := by
  obtain ⟨x, dx, us, H1, X, hd, args, Qd, Qx, rfl, np', nd, ne, rfl, al, hh, sl, ⟨ha, h⟩, q, xx⟩ := h
  have r := rep_startI (N := N) (cls := cls) (E := fun _ => E) np' nd ne al hh sl
  rw [ha, hn] at r
  refine hb H1 X hd x _ _ _ _ _ _ r ⟨fun X' env σ H' r' s' h' => ?_, fun _ _ _ _ _ _ _ _ _ (h' : False) => h'.elim, fun _ _ _ _ _ _ (h' : False) => h'.elim, fun _ _ _ _ _ _ (h' : False) => h'.elim, fun X' env σ H' z cls dx r' s' w h' => xx z cls dx H' r'.frm (w.mono (vis_anti r'.sup)) h'⟩ h
  have h' : (match env[0]? with
    | some (Sl.ins C ns ds) => Qd (.ins C ns ds)
    | _ => False) := h'
  split at h'
  · rename_i C0 ns ds e
    obtain ⟨o, e1, p, dx2, vs2, rfl, x1, x2, hp, ⟨hl, hm⟩, al2⟩ := r'.slot 0 _ e
    have hm : some x = some p := hm
    obtain rfl : x = p := by injection hm
    refine q _ H' r'.frm ?_ h'
    exact .ins (vis_mk x2 hp) hl (al2.mono (vis_anti r'.sup))
  · exact h'.elim
/-! ### o.m(..), o.p -/
def eMeth (c m : Str) (F : DFn) (dd : List Sl) (a : DX) (r : DSX) : DX := fun env Q E => a env (fun d => match d with
  | .ins c' ns ds => c' = c ∧ (ns.zip ds).lookup m = none ∧ r env (fun ss => F (.d (.ins c' ns ds) :: (ss ++ dd)) Q E) E
  | _ => False) E
def eMeth0 (c m : Str) (F : DFn) (dd : List Sl) (a : DX) (r : DSX) : DX := fun env Q E => a env (fun d => match d with
  | .ins c' ns ds => c' = c ∧ (ns.zip ds).lookup m = none ∧ r env (fun ss => F (.d (.ins c' ns ds) :: (ss ++ dd)) Q fun _ => False) E
  | _ => False) E
def eProp (c : Str) (F : DFn) (a : DX) : DX := fun env Q E => a env (fun d => match d with
  | .ins c' ns ds => c' = c ∧ F [.d (.ins c' ns ds)] Q fun _ => False
  | _ => False) E
section
variable {C : Bc} {F : DFn} {c m : Str} {dvs : List V} {dd : List Sl} {te : TE} {ea : DX} {t : TA} {a : DSX}
theorem de_meth0 (hd : Dvs dvs dd) (ho : DE C te ea) (ha : DAs C t a) : DE C (tMeth (He.ga C.K c) m (spD C.K F) dvs E0 te t) (eMeth0 c m F dd ea a) := by
  intro X env σ H Q Qd Qx rp he q x
  refine ho X env σ H _ _ Qx rp he (fun d v H1 f1 r1 h1 => ?_) x
  split at h1
  · rename_i c' ns ds
    obtain ⟨rfl, h2, h3⟩ := h1
    have rp1 := rp.step f1
    have r1 : Den C.K (vis H1 X) v (.ins c' ns ds) := r1
    have r1' := r1
    cases r1 with
    | @ins p dx _ _ vs _ hp hl al =>
      refine ⟨p, dx, _, rfl, vis_sub _ _ hp, al.lookN h2, ?_⟩
      refine ha X env σ H1 _ _ Qx rp1 h3 (fun ss us H2 f2 r2 h4 => ?_) (x.step f1)
      exact spD_use (rp1.step f2) (.d (r1'.mono (rp1.vs f2)) (SlAll.append r2 (hd C.K C.hd X H2))) h4 (fun d v H' f h => q d v H' (f1.trans (f2.trans f)) h) fun _ _ _ _ _ _ z => z.elim
  · exact h1.elim
end
/-! ### isinstance(x, C), C a class of one's own -/
/-- what of the text isinstance asks: instances of the classes in the table, and the built-in kinds -/
structure IsOk (K : PySem.W.Frag) (cn : Str) (tab : Str → Option Bool) : Prop where
  ins : ∀ c b, tab c = some b → PySem.W.kitOne K (.ref (He.ga K c)) (.ref (He.ga K cn)) = some b ∧ ∀ (H : Hp) (a dx : Addr) (fs : List (Str × V)), H a = some (.ins (He.ga K c) dx fs) → TyX K H (.ref a) (.ref (He.ga K c))
  kin : ∀ n, n ∈ ["NoneType", "bool", "int", "str", "tuple", "list", "dict"] → PySem.W.kitOne K (.type n) (.ref (He.ga K cn)) = some false
section
variable {C : Bc} {te : TE} {ea : DX} {cn : Str} {tab : Str → Option Bool}
end
end Mine

namespace Mine
open PySem PySem.Spec PyProof.Rows L2
/-! ### the head's own hook: defs at any address, facts, one more Bool -/
/-! ### a property: its record, its getter -/
def gA (K : PySem.W.Frag) (C m : Str) : Addr := match PySem.W.recIn K (He.ma K (He.ga K C) m) "property" with
  | some (.ref g :: _) => g
  | _ => 0
end Mine

namespace Mine
open PySem PySem.Spec PyProof.Rows L2
/-! ### dicts: keys whole numbers and texts, or tuples of them -/
section
variable {κ : Type} [DecidableEq κ]
def valD : List κ → List Dt → κ → Option Dt
  | k :: ks, d :: ds, j => if k = j then some d else valD ks ds j
  | _, _, _ => none
def putKs : List κ → κ → List κ
  | [], j => [j]
  | k :: ks, j => if k = j then k :: ks else k :: putKs ks j
def putVs : List κ → List Dt → κ → Dt → List Dt
  | k :: ks, d :: ds, j, y => if k = j then y :: ds else d :: putVs ks ds j y
  | _, _, _, y => [y]
theorem DenAll.val {K : PySem.W.Frag} {H : Hp} {j : κ} : ∀ {ks : List κ} {vs : List V} {ds : List Dt}, ks.length = vs.length → DenAll K H vs ds →
    (valD ks ds j = none ∧ valV (ks.zip vs) j = none) ∨ ∃ d v, valD ks ds j = some d ∧ valV (ks.zip vs) j = some v ∧ Den K H v d
  | [], [], _, _, .nil => .inl ⟨rfl, rfl⟩
  | k :: ks, v :: vs, d :: ds, l, .cons a r => by
    rw [List.zip_cons_cons]
    unfold valD
    by_cases c : k = j
    · rw [if_pos c, valV_pos (p := (k, v)) c]
      exact .inr ⟨d, v, rfl, rfl, a⟩
    · rw [if_neg c, valV_neg (p := (k, v)) c]
      exact DenAll.val (by simpa using l) r
theorem putK_pos {k j : κ} {u v : V} {r : List (κ × V)} (c : k = j) (nd : ∀ p ∈ r, p.1 ≠ j) : putK ((k, u) :: r) j v = (k, v) :: r := by
  unfold putK
  rw [if_pos (by simp [c]), List.map_cons]
  simp only [c, if_true]
  congr 1
  refine (List.map_congr_left fun p hp => ?_).trans (List.map_id r)
  rw [if_neg (nd p hp)]; rfl
theorem putK_neg {k j : κ} {u v : V} {r : List (κ × V)} (c : ¬ k = j) : putK ((k, u) :: r) j v = (k, u) :: putK r j v := by
  unfold putK
  rw [List.any_cons]
  simp only [c, decide_false, Bool.false_or, List.map_cons, if_false]
  split <;> rfl
/-- what stands in a dict of one's own: no key twice -/
theorem putF_K {K : PySem.W.Frag} {H : Hp} {j : κ} {v : V} {y : Dt} (hv : Den K H v y) : ∀ {ks : List κ} {vs : List V} {ds : List Dt}, ks.Nodup → ks.length = vs.length → DenAll K H vs ds →
    ∃ vs', putK (ks.zip vs) j v = (putKs ks j).zip vs' ∧ (putKs ks j).length = vs'.length ∧ DenAll K H vs' (putVs ks ds j y)
  | [], [], _, _, _, .nil => ⟨[v], rfl, rfl, .cons hv .nil⟩
  | k :: ks, u :: vs, d :: ds, nd, l, .cons a r => by
    have nd2 := List.nodup_cons.mp nd
    by_cases c : k = j
    · refine ⟨v :: vs, ?_, ?_, ?_⟩
      · unfold putKs
        rw [if_pos c, List.zip_cons_cons, List.zip_cons_cons]
        exact putK_pos c fun p hp z => nd2.1 (by rw [c, ← z]; exact (List.of_mem_zip hp).1)
      · unfold putKs; rw [if_pos c]; exact l
      · unfold putVs; rw [if_pos c]; exact .cons hv r
    · obtain ⟨vs', h1, h2, h3⟩ := putF_K (j := j) hv (ks := ks) nd2.2 (by simpa using l) r
      refine ⟨u :: vs', ?_, ?_, ?_⟩
      · unfold putKs
        rw [if_neg c, List.zip_cons_cons, putK_neg c, h1]; rfl
      · unfold putKs; rw [if_neg c, List.length_cons, List.length_cons, h2]
      · unfold putVs; rw [if_neg c]; exact .cons a h3
end
def keyOf : Dt → Option Key
  | .int i => some (.inl i)
  | .str x => some (.inr x)
  | _ => none
def keysOf : List Dt → Option (List Key)
  | [] => some []
  | d :: ds => match keyOf d, keysOf ds with
    | some k, some ks => some (k :: ks)
    | _, _ => none
theorem Den.key {K : PySem.W.Frag} {H : Hp} {v : V} {d : Dt} {k : Key} (h : Den K H v d) (e : keyOf d = some k) : v = kV k := by
  cases d <;> first
    | (injection e with e; subst e; exact h.flat rfl)
    | cases e
theorem DenAll.keys {K : PySem.W.Frag} {H : Hp} : ∀ {ds : List Dt} {vs : List V} {ks : List Key}, DenAll K H vs ds → keysOf ds = some ks → vs = ks.map kV
  | [], _, _, .nil, e => by cases e; rfl
  | d :: ds, _, ks, .cons a r, e => by
    unfold keysOf at e
    split at e
    · rename_i k ks' e1 e2
      cases e
      rw [List.map_cons, a.key e1, r.keys e2]
    · cases e
/-- a dict's thing at a key; a dict with a thing more -/
def Ow.get : Ow → Dt → Option (Option Dt)
  | .dk ks ds, y => (keyOf y).map fun k => valD ks ds k
  | .dt ks ds, .tup xs => (keysOf xs).map fun k => valD ks ds k
  | _, _ => none
def Ow.put : Ow → Dt → Dt → Option Ow
  | .dk ks ds, y, z => (keyOf y).map fun k => .dk (putKs ks k) (putVs ks ds k z)
  | .dt ks ds, .tup xs, z => (keysOf xs).map fun k => .dt (putKs ks k) (putVs ks ds k z)
  | _, _, _ => none
def Ow.keysN : Ow → Prop
  | .lst _ => True
  | .dk ks _ => ks.Nodup ∧ ks.length < LINE
  | .dt ks _ => ks.Nodup ∧ ks.length < LINE
/-- data that is a dict -/
def Dt.ow : Dt → Option Ow
  | .dk ks ds => some (.dk ks ds)
  | .dt ks ds => some (.dt ks ds)
  | _ => none
theorem DenO.get {K : PySem.W.Frag} {H H' : Hp} {p : Addr} {u : HO} {w : Ow} {v : V} {y : Dt} {r : Option Dt} (h : DenO K H' u w) (s : Same H' H) (e : H p = some u) (hy : Den K H' v y) (g : w.get y = some r) :
    IsD H p ∧ ((r = none ∧ DGet H p v none) ∨ ∃ d x, r = some d ∧ DGet H p v (some x) ∧ Den K H' x d) := by
  cases h with
  | lst a => cases g
  | @dk ks vs ds l a =>
    obtain ⟨k, e1, rfl⟩ := Option.map_eq_some_iff.mp g
    have ev := hy.key e1
    subst ev
    refine ⟨.inl ⟨_, .inl e⟩, ?_⟩
    rcases a.val (j := k) l with ⟨h1, h2⟩ | ⟨d, x, h1, h2, h3⟩
    · exact .inl ⟨h1, by rw [← h2]; exact .k e⟩
    · exact .inr ⟨d, x, h1, by rw [← h2]; exact .k e, h3⟩
  | @dt ks vs ds l a =>
    cases y with
    | tup xs =>
      obtain ⟨k, e1, rfl⟩ := Option.map_eq_some_iff.mp g
      cases hy with
      | tup hb ax =>
        have ev := ax.keys e1
        subst ev
        refine ⟨.inr ⟨_, .inl e⟩, ?_⟩
        rcases a.val (j := k) l with ⟨h1, h2⟩ | ⟨d, x, h1, h2, h3⟩
        · exact .inl ⟨h1, by rw [← h2]; exact .t e (s _ _ hb)⟩
        · exact .inr ⟨d, x, h1, by rw [← h2]; exact .t e (s _ _ hb), h3⟩
    | _ => cases g
theorem DenO.put {K : PySem.W.Frag} {H H' : Hp} {p : Addr} {u : HO} {w w' : Ow} {v x : V} {y z : Dt} (h : DenO K H' u w) (s : Same H' H) (e : H p = some u) (hy : Den K H' v y) (hz : Den K H' x z) (hn : w.keysN) (g : w.put y z = some w') :
    ∃ u', DPut H p v x (upd H p u') ∧ DenO K H' u' w' := by
  cases h with
  | lst a => cases g
  | @dk ks vs ds l a =>
    obtain ⟨k, e1, rfl⟩ := Option.map_eq_some_iff.mp g
    have ev := hy.key e1
    subst ev
    obtain ⟨vs', h1, h2, h3⟩ := putF_K (j := k) hz hn.1 l a
    refine ⟨_, .k e (by rw [List.length_zip, sizeLine_eq]; exact Nat.lt_of_le_of_lt (Nat.min_le_left _ _) hn.2), ?_⟩
    rw [h1]; exact .dk h2 h3
  | @dt ks vs ds l a =>
    cases y with
    | tup xs =>
      obtain ⟨k, e1, rfl⟩ := Option.map_eq_some_iff.mp g
      cases hy with
      | tup hb ax =>
        have ev := ax.keys e1
        subst ev
        obtain ⟨vs', h1, h2, h3⟩ := putF_K (j := k) hz hn.1 l a
        refine ⟨_, .t e (s _ _ hb) (by rw [List.length_zip, sizeLine_eq]; exact Nat.lt_of_le_of_lt (Nat.min_le_left _ _) hn.2), ?_⟩
        rw [h1]; exact .dt h2 h3
    | _ => cases g
end Mine

namespace Mine
open PySem PySem.Spec PyProof.Rows L2
/-! ### dicts that are read -/
def BorD : RR := fun C X _ H v d => ∃ w p u, d.ow = some w ∧ v = .ref p ∧ (∀ h c, C.hd = some (h, c) → p ≠ h) ∧ H p = some u ∧ DenO C.K (vis H X) u w
/-- a dict by its name, one's own or not -/
def eVarD (i : Nat) : DX := fun env Q _ => match env[i]? with
  | some (.d x) => x.ow.isSome = true ∧ Q x
  | some (.own w) => w.fz.ow.isSome = true ∧ Q w.fz
  | _ => False
/-- any dict -/
def eDic (a : DX) : DX := fun env Q E => a env (fun x => x.ow.isSome = true ∧ Q x) E
def eGet1 (ed ek : DX) : DX := fun env Q E => ed env (fun d => ek env (fun k => ∃ w r, d.ow = some w ∧ w.get k = some r ∧ Q (r.getD .non)) E) E
def eGet2 (ed ek ez : DX) : DX := fun env Q E => ed env (fun d => ek env (fun k => ez env (fun z => ∃ w r, d.ow = some w ∧ w.get k = some r ∧ Q (r.getD z)) E) E) E
def eAtD (ed ek : DX) : DX := fun env Q E => ed env (fun d => ek env (fun k => ∃ w r, d.ow = some w ∧ w.get k = some (some r) ∧ Q r) E) E
def eInD (ek ed : DX) : DX := fun env Q E => ek env (fun k => ed env (fun d => ∃ w r, d.ow = some w ∧ w.get k = some r ∧ Q (.bl r.isSome)) E) E
def eNotInD (ek ed : DX) : DX := fun env Q E => ek env (fun k => ed env (fun d => ∃ w r, d.ow = some w ∧ w.get k = some r ∧ Q (.bl (!r.isSome))) E) E
/-- x = {} -/
def sOwnD (j : Nat) (t : Bool) : DSt := fun d env => d.nx (env.set j (.own (if t = true then .dt [] [] else .dk [] [])))
/-- x[k] = e -/
def sPutD (i : Nat) (ek e : DX) : DSt := fun d env => match env[i]? with
  | some (.own w) => e env (fun y => ek env (fun k => w.keysN ∧ ∃ w', w.put k y = some w' ∧ d.nx (env.set i (.own w'))) (d.xc env)) (d.xc env)
  | _ => False
theorem Den.ow {C : Bc} {X : Addr → Prop} {env : List Sl} {σ : L2.St} {H H1 : Hp} {v : V} {x : Dt} (rp : Rep C X env σ H) (h : Den C.K (vis H X) v x) (e : x.ow.isSome = true) : BorD C X H1 H v x := by
  cases h with
  | dk h l a => exact ⟨_, _, _, rfl, rfl, fun y c q z => (vis_of h).1 (z ▸ rp.hX y c q), vis_sub _ _ h, .dk l a⟩
  | dt h l a => exact ⟨_, _, _, rfl, rfl, fun y c q z => (vis_of h).1 (z ▸ rp.hX y c q), vis_sub _ _ h, .dt l a⟩
  | _ => cases e
section
variable {C : Bc} {td ty tx : TE} {ed ek ez : DX}
end
end Mine

namespace Mine
open PySem PySem.Spec PyProof.Rows L2
theorem mkI_W (cls : Str) (np N : Nat) (s : DSt) {args} {Q} {E} : mkI cls np N s args Q E = (args.length + 1 = np ∧ s ⟨fun (env : List Sl) => match env[0]? with
  | some (Sl.ins C ns ds) => Q (.ins C ns ds)
  | _ => False, fun _ => False, fun _ => False, fun _ => False, fun _ x => E x⟩ (.ins cls [] [] :: (args ++ List.replicate (N - np) .no))) := rfl
theorem mkI0_W (cls : Str) (np N : Nat) (s : DSt) {args} {Q} {E} : mkI0 cls np N s args Q E = (args.length + 1 = np ∧ s ⟨fun (env : List Sl) => match env[0]? with
  | some (Sl.ins C ns ds) => Q (.ins C ns ds)
  | _ => False, fun _ => False, fun _ => False, fun _ => False, fun _ _ => False⟩ (.ins cls [] [] :: (args ++ List.replicate (N - np) .no))) := rfl
theorem eFld_W (tab : Str → Str → Bool) (f : Str) (a : DX) {env} {Q} {E} : eFld tab f a env Q E = (a env (fun d => match d with
  | .ins C ns ds => tab C f = true ∧ ∃ x, (ns.zip ds).lookup f = some x ∧ Q x
  | _ => False) E) := rfl
theorem eFldS_W (tab : Str → Str → Bool) (f : Str) (i : Nat) {env} {Q} {u2} : eFldS tab f i env Q u2 = (match env[i]? with
  | some (.ins C ns ds) => tab C f = true ∧ ∃ x, (ns.zip ds).lookup f = some x ∧ Q x
  | _ => False) := rfl
theorem sSetF_W (tab : Str → Str → Bool) (f : Str) (i : Nat) (e : DX) {d} {env} : sSetF tab f i e d env = (match env[i]? with
  | some (.ins C ns ds) => e env (fun y => tab C f = true ∧ i = 0 ∧ ns.length < 900 ∧ d.nx (env.set i (.ins C (putNs f ns) (putDs f y ns ds)))) (d.xc env)
  | _ => False) := rfl
theorem eMeth_W (c m : Str) (F : DFn) (dd : List Sl) (a : DX) (r : DSX) {env} {Q} {E} : eMeth c m F dd a r env Q E = (a env (fun d => match d with
  | .ins c' ns ds => c' = c ∧ (ns.zip ds).lookup m = none ∧ r env (fun ss => F (.d (.ins c' ns ds) :: (ss ++ dd)) Q E) E
  | _ => False) E) := rfl
theorem eMeth0_W (c m : Str) (F : DFn) (dd : List Sl) (a : DX) (r : DSX) {env} {Q} {E} : eMeth0 c m F dd a r env Q E = (a env (fun d => match d with
  | .ins c' ns ds => c' = c ∧ (ns.zip ds).lookup m = none ∧ r env (fun ss => F (.d (.ins c' ns ds) :: (ss ++ dd)) Q fun _ => False) E
  | _ => False) E) := rfl
theorem eProp_W (c : Str) (F : DFn) (a : DX) {env} {Q} {E} : eProp c F a env Q E = (a env (fun d => match d with
  | .ins c' ns ds => c' = c ∧ F [.d (.ins c' ns ds)] Q fun _ => False
  | _ => False) E) := rfl
theorem eVarD_W (i : Nat) {env} {Q} {u2} : eVarD i env Q u2 = (match env[i]? with
  | some (.d x) => x.ow.isSome = true ∧ Q x
  | some (.own w) => w.fz.ow.isSome = true ∧ Q w.fz
  | _ => False) := rfl
theorem eDic_W (a : DX) {env} {Q} {E} : eDic a env Q E = (a env (fun x => x.ow.isSome = true ∧ Q x) E) := rfl
theorem eGet1_W (ed ek : DX) {env} {Q} {E} : eGet1 ed ek env Q E = (ed env (fun d => ek env (fun k => ∃ w r, d.ow = some w ∧ w.get k = some r ∧ Q (r.getD .non)) E) E) := rfl
theorem eGet2_W (ed ek ez : DX) {env} {Q} {E} : eGet2 ed ek ez env Q E = (ed env (fun d => ek env (fun k => ez env (fun z => ∃ w r, d.ow = some w ∧ w.get k = some r ∧ Q (r.getD z)) E) E) E) := rfl
theorem eAtD_W (ed ek : DX) {env} {Q} {E} : eAtD ed ek env Q E = (ed env (fun d => ek env (fun k => ∃ w r, d.ow = some w ∧ w.get k = some (some r) ∧ Q r) E) E) := rfl
theorem eInD_W (ek ed : DX) {env} {Q} {E} : eInD ek ed env Q E = (ek env (fun k => ed env (fun d => ∃ w r, d.ow = some w ∧ w.get k = some r ∧ Q (.bl r.isSome)) E) E) := rfl
theorem eNotInD_W (ek ed : DX) {env} {Q} {E} : eNotInD ek ed env Q E = (ek env (fun k => ed env (fun d => ∃ w r, d.ow = some w ∧ w.get k = some r ∧ Q (.bl (!r.isSome))) E) E) := rfl
theorem sOwnD_W (j : Nat) (t : Bool) {d} {env} : sOwnD j t d env = (d.nx (env.set j (.own (if t = true then .dt [] [] else .dk [] [])))) := rfl
theorem sPutD_W (i : Nat) (ek e : DX) {d} {env} : sPutD i ek e d env = (match env[i]? with
  | some (.own w) => e env (fun y => ek env (fun k => w.keysN ∧ ∃ w', w.put k y = some w' ∧ d.nx (env.set i (.own w'))) (d.xc env)) (d.xc env)
  | _ => False) := rfl
end Mine

namespace Mine
open PySem PySem.Spec PyProof.Rows L2
/-! ### C.m(..), m a static method -/
/-- C's attributes are read the usual way; C.m is a static method, its def at g -/
structure StaOf (K : PySem.W.Frag) (C : Addr) (m : Str) (g : Addr) : Prop where
  rd : PySem.W.readsIn K C (.type "type") = true
  ga : PySem.W.specialIn K (.ref C) "__getattribute__" = some (some (.builtin "type.__getattribute__"))
  at_ : ∃ p, PySem.W.findCls K (.ref C) (.type "type") m = some (.get (.builtin "staticmethod.__get__") (.ref p) .none (.ref C)) ∧ ∃ rest, PySem.W.recIn K p "staticmethod" = some (.ref g :: rest)
section
variable {X : Cx} {CX : CXT} {k : Nat} {C g : Addr} {sp : Sp} {E : XK} {e : Expr} {es : List Expr} {x m : Str} {pos apos p0 : Pos} {t : TA} {pl : Sem Bool} {fd : FuncData} {ps : List Str} {ds : List Value} {dvs : List V}
end
end Mine

namespace Mine
open PySem PySem.Spec PyProof.Rows L2
/-! ### range(a, b, -1) -/
section
variable {C : Bc} {S : SS} {ta : TA} {ea : DAX}
end
/-! ### isinstance of one's own classes: what of the text it asks -/
structure InsK (K : PySem.W.Frag) (C : Addr) : Prop where
  ha : PySem.W.findIn K (.ref C) "__class__" = some (some (.builtin "object.__class__"))
  hn : PySem.W.specialIn K (.builtin "object.__class__") "__get__" = some (some (.builtin "getset_descriptor.__get__"))
  htk : PySem.W.takesIn K (.builtin "object.__class__") = some true
  hm : PySem.W.mroIn K C (.type "object") = some true
def insB (C : Str) (K : PySem.W.Frag) : Bool := He.eqO (PySem.W.findIn K (.ref (He.ga K C)) "__class__") (some (some (.builtin "object.__class__"))) && (He.eqO (PySem.W.specialIn K (.builtin "object.__class__") "__get__") (some (some (.builtin "getset_descriptor.__get__"))) &&
  (decide (PySem.W.takesIn K (.builtin "object.__class__") = some true) && decide (PySem.W.mroIn K (He.ga K C) (.type "object") = some true)))
theorem insB_ok {C : Str} {K : PySem.W.Frag} (h : insB C K = true) : InsK K (He.ga K C) := by
  obtain ⟨h1, h⟩ := He.ba h
  obtain ⟨h2, h⟩ := He.ba h
  obtain ⟨h3, h4⟩ := He.ba h
  exact ⟨He.eqO_ok h1, He.eqO_ok h2, of_decide_eq_true h3, of_decide_eq_true h4⟩
def kinB (C : Str) (K : PySem.W.Frag) : Bool := decide (PySem.W.kitOne K (.type "NoneType") (.ref (He.ga K C)) = some false) && (decide (PySem.W.kitOne K (.type "bool") (.ref (He.ga K C)) = some false) && (decide (PySem.W.kitOne K (.type "int") (.ref (He.ga K C)) = some false) &&
  (decide (PySem.W.kitOne K (.type "str") (.ref (He.ga K C)) = some false) && (decide (PySem.W.kitOne K (.type "tuple") (.ref (He.ga K C)) = some false) && (decide (PySem.W.kitOne K (.type "list") (.ref (He.ga K C)) = some false) && decide (PySem.W.kitOne K (.type "dict") (.ref (He.ga K C)) = some false))))))
def KinOk (K : PySem.W.Frag) (C : Addr) : Prop := ∀ n, n ∈ ["NoneType", "bool", "int", "str", "tuple", "list", "dict"] → PySem.W.kitOne K (.type n) (.ref C) = some false
theorem kinB_ok {C : Str} {K : PySem.W.Frag} (h : kinB C K = true) : KinOk K (He.ga K C) := by
  obtain ⟨h1, h⟩ := He.ba h
  obtain ⟨h2, h⟩ := He.ba h
  obtain ⟨h3, h⟩ := He.ba h
  obtain ⟨h4, h⟩ := He.ba h
  obtain ⟨h5, h⟩ := He.ba h
  obtain ⟨h6, h7⟩ := He.ba h
  intro n hn
  simp only [List.mem_cons, List.not_mem_nil, or_false] at hn
  rcases hn with rfl | rfl | rfl | rfl | rfl | rfl | rfl
  · exact of_decide_eq_true h1
  · exact of_decide_eq_true h2
  · exact of_decide_eq_true h3
  · exact of_decide_eq_true h4
  · exact of_decide_eq_true h5
  · exact of_decide_eq_true h6
  · exact of_decide_eq_true h7
theorem tyx_ins {K : PySem.W.Frag} {C : Addr} (c : Cls K C) (i : InsK K C) (H : Hp) (a dx : Addr) (fs : List (Str × V)) (e : H a = some (.ins C dx fs)) : TyX K H (.ref a) (.ref C) := .base (.ins e c i.ha i.hn i.htk i.hm)
theorem pe_fldU {X : Cx} {K : PySem.W.Frag} {e : Expr} {f : Str} {pos : Pos} {ta : TE} (eK : X.K = K) (he : PE X e ta) (hb : attributeBase e f X.env (eval e X.env) = eval e X.env) : PE X (.Attribute e f pos) (tFld K ta f) := eK ▸ pe_fld he hb
/-! ### within a try: makings, methods, static methods -/
section
variable {X : Cx} {CX : CXT} {k : Nat} {f C g : Addr} {fd : FuncData} {ps : List Str} {sp : Sp} {dvs : List V} {ds : List Value} {E : L2.St → XK} {x m : Str} {p pos apos p0 : Pos} {e o : Expr} {es : List Expr} {ta : TE} {t : TA} {pl : Sem Bool}
end
section
variable {C : Bc} {F : DFn} {cls c m : Str} {dvs : List V} {dd : List Sl} {t : TA} {a : DSX} {te : TE} {ea : DX}
end
end Mine

namespace Mine
open PySem PySem.Spec PyProof.Rows L2
/-! ### math.gcd, math.comb -/
def dGcd : DL := fun ds Q => match ds with
  | [.int i, .int j] => Q (.int ((Nat.gcd i.natAbs j.natAbs : Nat) : Int))
  | _ => False
theorem dGcd_W {i j : Int} {Q : Dt → Prop} : dGcd [.int i, .int j] Q = Q (.int ((Nat.gcd i.natAbs j.natAbs : Nat) : Int)) := rfl
section
variable {C : Bc}
theorem cg_gcd : CallG Cln C rGcd dGcd := by
  intro X env σ H vs ds Q Qd rp ra he q
  unfold dGcd at he
  split at he
  · obtain ⟨v, u, rfl, r1, r2⟩ := ra.two
    exact ⟨_, _, by rw [r1.int, r2.int], q _ _ H (.refl H) (.int _) he⟩
  · exact he.elim
end
/-! ### sep.join(a list of texts) -/
/-! ### a text walked through, and numbered -/
section
variable {C : Bc} {S : SS} {ta : TA} {ea : DAX} {tl : TE} {el : DX}
end
/-! ### a text times a number -/
end Mine

namespace Mine
open PySem PySem.Spec PyProof.Rows L2
/-! ### == of instances whose class has its own __eq__ -/
/-- what of the text == of the classes in the table asks -/
structure EqTab (K : PySem.W.Frag) (tabE : Str → Option DFn) (tabC : Str → Bool) : Prop where
  kin : ∀ c F, tabE c = some F → ∀ n, n ∈ ["NoneType", "bool", "int", "str", "tuple", "list", "dict"] → PySem.W.notFirst K (He.ga K c) (.type n) = true
  own : ∀ c F c', tabE c = some F → tabC c' = true → PySem.W.notFirst K (He.ga K c) (.ref (He.ga K c')) = true
  ins : ∀ c', tabC c' = true → ∀ (H : Hp) (a dx : Addr) (fs : List (Str × V)), H a = some (.ins (He.ga K c') dx fs) → TyX K H (.ref a) (.ref (He.ga K c'))
end Mine

namespace PySem
open PySem.SeqAt AutoSeq1 MeetsSeq PySem.W
section
variable {prog : Program} {w : World} {A : Around} {E : Value → Shared → Prop} {s : Shared} {K : Frag} {x C L f : Addr} {h₀ : Heap} {m : Str → Option Value} {ox : Obj} {od : Option Obj} {a : Value} {Ta ida : String}
end
end PySem

namespace Mine
open PySem PySem.Spec PyProof.Rows L2
/-! ### a built-in value == an instance whose class has its own __eq__ -/
inductive TyP (H : Hp) : V → String → Prop
  | non : TyP H .non "NoneType"
  | bl (b : Bool) : TyP H (.bl b) "bool"
  | int (i : Int) : TyP H (.int i) "int"
  | str (s : Str) : TyP H (.str s) "str"
  | lst {a : Addr} {xs : List V} (e : H a = some (.lst xs)) : TyP H (.ref a) "list"
  | tup {a : Addr} {xs : List V} (e : H a = some (.tup xs)) : TyP H (.ref a) "tuple"
abbrev kinds6 : List String := ["NoneType", "bool", "int", "str", "tuple", "list"]
theorem TyP.mem {H : Hp} {x : V} {n : String} (h : TyP H x n) : n ∈ kinds6 := by cases h <;> decide
structure EqTab2 (K : PySem.W.Frag) (tabE : Str → Option DFn) (tabC : Str → Bool) : Prop extends EqTab K tabE tabC where
  sub : ∀ c F, tabE c = some F → ∀ n, n ∈ kinds6 → PySem.W.subIn K (.ref (He.ga K c)) (.type n) = some false
end Mine

namespace Mine
open PySem PySem.Spec PyProof.Rows L2
/-! ### the tables for == of own classes -/
structure EqsOk (K : PySem.W.Frag) (cs : List Str) : Prop where
  kin : ∀ c, c ∈ cs → ∀ n, n ∈ ["NoneType", "bool", "int", "str", "tuple", "list", "dict"] → PySem.W.notFirst K (He.ga K c) (.type n) = true
  sub : ∀ c, c ∈ cs → ∀ n, n ∈ kinds6 → PySem.W.subIn K (.ref (He.ga K c)) (.type n) = some false
  own : ∀ c, c ∈ cs → ∀ c', c' ∈ cs → PySem.W.notFirst K (He.ga K c) (.ref (He.ga K c')) = true
/-! what == says in the pure part -/
section
variable {tabE : Str → Option DFn} {tabC : Str → Bool} {Q : Dt → Prop}
end
end Mine

namespace Mine
open PySem PySem.Spec PyProof.Rows L2
/-! ### len(set(xs)) of whole numbers; targets of four and five names -/
def eLenSet (a : DX) : DX := fun env Q E => a env (fun d => ∃ ns : List Int, d = .lst (ns.map Dt.int) ∧ ns.length ≤ 4000 ∧ Q (.int (firstMet (fun i => ns.getD i 0) ns.length).length)) E
theorem eLenSet_W (a : DX) {env} {Q} {E} : eLenSet a env Q E = a env (fun d => ∃ ns : List Int, d = .lst (ns.map Dt.int) ∧ ns.length ≤ 4000 ∧ Q (.int (firstMet (fun i => ns.getD i 0) ns.length).length)) E := rfl
theorem de_lenSet {C : Bc} {te : TE} {ea : DX} (he : DB C te ea) : DE C (tLenD C.K te) (eLenSet ea) := by
  intro X env σ H Q Qd Qx rp h q x
  refine he X env σ H _ _ Qx rp h (fun d v H1 f1 r1 ⟨ns, e, hl, h1⟩ => ?_) x
  subst e
  obtain ⟨p, vs, rfl, hp, a⟩ := r1.lst
  refine ⟨p, ns, rfl, .inl (.inl (by rw [← a.ints_of]; exact hp)), hl, fun m em => ?_⟩
  subst em
  exact q _ _ _ f1 (.int _) h1
section
variable {C : Bc}
end
end Mine

namespace Mine
open PySem PySem.Spec PyProof.Rows L2
/-! ### list(range(..)), tuple(range(..)) -/
def eRgL (a b : DX) (k : List Dt → Dt) : DX := fun env Q E => a env (fun x => b env (fun y => match x, y with
  | .int i, .int j => (-(2 ^ 62) ≤ i ∧ i < 2 ^ 62 ∧ -(2 ^ 62) ≤ j ∧ j < 2 ^ 62 ∧ (j - i).toNat ≤ 16777216) ∧ Q (k ((List.range (j - i).toNat).map fun n : Nat => Dt.int (i + (n : Nat))))
  | _, _ => False) E) E
theorem eRgL_W (a b : DX) (k : List Dt → Dt) {env} {Q} {E} : eRgL a b k env Q E = a env (fun x => b env (fun y => match x, y with
  | .int i, .int j => (-(2 ^ 62) ≤ i ∧ i < 2 ^ 62 ∧ -(2 ^ 62) ≤ j ∧ j < 2 ^ 62 ∧ (j - i).toNat ≤ 16777216) ∧ Q (k ((List.range (j - i).toNat).map fun n : Nat => Dt.int (i + (n : Nat))))
  | _, _ => False) E) E := rfl
section
variable {C : Bc} {ta tb : TE} {a b : DX}
end
end Mine

namespace Mine
open PySem PySem.Spec PyProof.Rows L2 PpSet
/-! ### a set comprehension whose items are tuples of whole numbers -/
section
variable {P : Program} {w : World} {A : Around} {E : Value → Shared → Prop} {s : Shared} {a : Addr} {L : List (Addr × List Int)} {es : Array (Int × Value)} {ep : Nat} {t : SetTable}
end
section
variable {X : Cx}
end
end Mine

namespace Mine
open PySem PySem.Spec PyProof.Rows L2 PpSet
/-! ### sorted({e for x in xs}), e tuples of whole numbers -/
end Mine

namespace Mine
open PySem PySem.Spec PyProof.Rows L2
/-! ### f'..{e}..' of texts and whole numbers -/
/-- the parts one by one -/
inductive DJ (C : Bc) : List TE → List DX → Prop where
  | nil : DJ C [] []
  | cons {t : TE} {a : DX} {ts : List TE} {as : List DX} (h : DE C t a) (r : DJ C ts as) : DJ C (t :: ts) (a :: as)
section
variable {C : Bc}
end
/-! ### text.find(sign), text.count(sign), text.startswith(..) -/
def eTm (k : Str → Str → Dt) (a b : DX) : DX := fun env Q E => a env (fun x => match x with
  | .str u => b env (fun y => match y with
    | .str z => Q (k u z)
    | _ => False) E
  | _ => False) E
theorem eTm_W (k : Str → Str → Dt) (a b : DX) {env} {Q} {E} : eTm k a b env Q E = a env (fun x => match x with
  | .str u => b env (fun y => match y with
    | .str z => Q (k u z)
    | _ => False) E
  | _ => False) E := rfl
end Mine

namespace Mine
open PySem PySem.Spec PyProof.Rows L2
/-! ### a comprehension within a comprehension -/
end Mine

namespace Mine
open PySem PySem.Spec PyProof.Rows L2
/-! ### a or b, a a text -/
end Mine

namespace ZN
open PySem
section
variable {M : Model} {A : Around} {E : Value → Shared → Prop}
end
structure Ap (z TI TO : Addr) (p : List (Addr × Addr)) : Prop where
  TIz : TI ≠ z
  TOz : TO ≠ z
  TITO : TI ≠ TO
  nd : (p.map (·.1)).Nodup
  iz : ∀ q ∈ p, q.1 ≠ z
  iTI : ∀ q ∈ p, TI ≠ q.1
  iTO : ∀ q ∈ p, TO ≠ q.1
  lz : ∀ q ∈ p, q.2 ≠ z
  lTO : ∀ q ∈ p, q.2 ≠ TO
  li : ∀ q ∈ p, ∀ r ∈ p, q.2 ≠ r.1
section
variable {prog : Program} {w : World} {A : Around} {E : Value → Shared → Prop} {s : Shared}
/-! made of four lists -/
abbrev li (l : Addr) : Obj := { cls := .type "list_iterator", data := .fields #[.ref l, .int 0 0] }
end
end ZN

namespace Mine
open PySem PySem.Spec PyProof.Rows L2 ZN
/-! ### zip(*xs) of four lists, one name for what it gives -/
def eZipS (a : DX) : DAX := fun env Q E => a env (fun d => ∃ (n : Nat) (xs : List (List Dt)), d = .lst (xs.map .lst) ∧ xs.length = 4 ∧ (∀ l ∈ xs, l.length = n) ∧ Q ((List.range n).map fun i => .tup (xs.map fun l => l.getD i .non))) E
theorem eZipS_W (a : DX) {env} {Q} {E} : eZipS a env Q E = a env (fun d => ∃ (n : Nat) (xs : List (List Dt)), d = .lst (xs.map .lst) ∧ xs.length = 4 ∧ (∀ l ∈ xs, l.length = n) ∧ Q ((List.range n).map fun i => .tup (xs.map fun l => l.getD i .non))) E := rfl
theorem Den.lstI {K : PySem.W.Frag} {H : Hp} {v : V} {ds : List Dt} (h : Den K H v (.lst ds)) : ∃ a xs, v = .ref a ∧ H a = some (.lst xs) ∧ DenAll K H xs ds := by
  cases h with
  | lst e a => exact ⟨_, _, rfl, e, a⟩
theorem DenAll.cons_inv {K : PySem.W.Frag} {H : Hp} {vs : List V} {d : Dt} {ds : List Dt} (h : DenAll K H vs (d :: ds)) : ∃ v vs', vs = v :: vs' ∧ Den K H v d ∧ DenAll K H vs' ds := by
  cases h with
  | cons a b => exact ⟨_, _, rfl, a, b⟩
theorem DenAll.nil_inv {K : PySem.W.Frag} {H : Hp} {vs : List V} (h : DenAll K H vs []) : vs = [] := by
  cases h; rfl
end Mine

namespace Mine
open PySem PySem.Spec PyProof.Rows L2
/-! ### a list of one's own handed to a def that only reads it: it stays one's own -/
section
variable {C : Bc} {X : Addr → Prop} {env : List Sl} {σ : L2.St} {H H1 : Hp}
theorem Rep.frz2 (r : Rep C X env σ H) {i : Nat} {xs : Ow} (e : env[i]? = some (.own xs)) : ∃ p vs, σ[i]? = some (some (.ref p)) ∧ X p ∧ ¬ C.X0 p ∧ H p = some vs ∧ DenO C.K (vis H X) vs xs ∧ Rep C (fun a => X a ∧ a ≠ p) (Mine.frz env i) σ H := by
  unfold Mine.frz
  rw [e]
  obtain ⟨o, es, p, vs, rfl, x1, x2, h1, h2⟩ := r.slot i _ e
  have hl : i < env.length := (List.getElem?_eq_some_iff.mp e).1
  have sm : Same (vis H X) (vis H fun a => X a ∧ a ≠ p) := vis_anti fun a z => z.1
  refine ⟨p, vs, es, x1, x2, h1, h2, ⟨by rw [List.length_set, r.len], fun a z => ⟨r.sup a z, fun q => x2 (q ▸ z)⟩, fun a z => r.new a z.1, fun a z => r.al a z.1, r.frm, r.hands, fun j s q => ?_, r.ap.setS fun _ _ _ f => f.elim, r.one.set fun _ _ _ z => by cases z⟩⟩
  · rw [List.getElem?_set] at q
    by_cases c : i = j
    · subst c
      rw [if_pos rfl, if_pos hl] at q
      cases q
      exact ⟨_, es, _, rfl, (h2.mono sm).fz (vis_mk (fun z => z.2 rfl) h1)⟩
    · rw [if_neg c] at q
      obtain ⟨o, e1, w⟩ := r.slot j s q
      refine ⟨o, e1, ?_⟩
      cases s with
      | no => trivial
      | d x => obtain ⟨v, e2, h⟩ := w; exact ⟨v, e2, h.mono sm⟩
      | own ys =>
        obtain ⟨p', us, rfl, y1, y2, y3, y4⟩ := w
        have ne : p' ≠ p := fun z => r.inj i j xs ys c e q (by rw [es, e1, z])
        exact ⟨p', us, rfl, ⟨y1, ne⟩, y2, y3, y4.mono sm⟩
      | hand => exact w
      | exc c' fs => exact w.exc sm
      | ins C0 ns ds =>
        obtain ⟨p', dx, us, rfl, y1, y2, y3, yl, y4⟩ := w
        have ne : p' ≠ p := fun z => by rw [z, h1] at y3; cases y3; exact h2.noins
        exact ⟨p', dx, us, rfl, ⟨y1, ne⟩, y2, y3, yl, y4.mono sm⟩
      | tab p2 qs rows => exact w.tab_to (fun a ha x => ⟨x, fun z => r.ap i j _ _ _ _ p c e q es e1 rfl (show p ∈ p2 :: qs from z ▸ ha)⟩) (fun _ _ _ h => h) sm
end
/-- x = e, the list of one's own in slot i is handed on within e: what comes back is no part of it -/
def sKeep (i j : Nat) (e : DX) : DSt := fun d env => match env[i]? with
  | some (.own w) => e (frz env i) (fun x => ((∃ z, x = .int z) ∨ ∃ (ns : List Int) (xs : List Dt), x = .lst (ns.map .int) ∧ w = .lst xs ∧ ∃ y ∈ xs, y.flat = none) ∧ d.nx (env.set j (.d x))) (d.xc (frz env i))
  | _ => False
theorem sKeep_W (i j : Nat) (e : DX) {d} {env} : sKeep i j e d env = (match env[i]? with
  | some (.own w) => e (frz env i) (fun x => ((∃ z, x = .int z) ∨ ∃ (ns : List Int) (xs : List Dt), x = .lst (ns.map .int) ∧ w = .lst xs ∧ ∃ y ∈ xs, y.flat = none) ∧ d.nx (env.set j (.d x))) (d.xc (frz env i))
  | _ => False) := rfl
theorem DenAll.intsV {K : PySem.W.Frag} {H : Hp} {ns : List Int} : ∀ {vs : List V}, DenAll K H vs (ns.map .int) → vs = ns.map V.int := by
  induction ns with
  | nil => intro vs h; exact h.nil_inv
  | cons n ns ih =>
    intro vs h
    rw [List.map_cons] at h
    obtain ⟨v, vs', rfl, a, b⟩ := h.cons_inv
    rw [ih b, a.flat (u := .int n) rfl]; rfl
theorem dst_keep {C : Bc} {te : TE} {e : DX} {i j : Nat} (he : DE C te e) : DS C (tAsg te (gName j)) (sKeep i j e) := by
  intro X env σ H D d r l h
  unfold sKeep at h
  split at h
  · rename_i w e1
    obtain ⟨p, u, es, x1, x2, h1, h2, r2⟩ := r.frz2 e1
    have sm : Same (vis H X) (vis H fun a => X a ∧ a ≠ p) := vis_anti fun a z => z.1
    refine he _ _ σ H _ _ _ r2 h (fun x v H1 f1 r1 q => ?_) ((l.step sm).xok r2)
    have r1 : Den C.K (vis H1 fun a => X a ∧ a ≠ p) v x := r1
    have h1' : H1 p = some u := f1.1 p _ h1 (r.nh x2)
    have den : Den C.K (vis H1 X) v x := by
      rcases q.1 with ⟨z, rfl⟩ | ⟨ns, xs, rfl, rfl, y, hy, hf⟩
      · rw [r1.flat (u := .int z) rfl]; exact .int z
      · obtain ⟨a, vs, rfl, g, den⟩ := r1.lstI
        obtain ⟨n1, g1⟩ := vis_of g
        have hv := den.intsV
        have nX : ¬ X a := fun xa => by
          by_cases c : a = p
          · subst c
            rw [g1] at h1'
            cases h1'
            cases h2 with
            | lst da =>
              obtain ⟨k, hk⟩ := List.mem_iff_getElem?.mp hy
              obtain ⟨v0, ev, dv⟩ := da.get hk
              rw [hv, List.getElem?_map, Option.map_eq_some_iff] at ev
              obtain ⟨z, _, rfl⟩ := ev
              cases dv <;> first | cases hf
          · exact n1 ⟨xa, c⟩
        rw [hv] at g1
        exact .lst (vis_mk nX g1) (DenAll.ints ns)
    exact l.nx X _ _ H1 ((r.step f1).set j den) (r.vs f1) q.2
  · exact h.elim
end Mine

namespace Mine
open PySem PySem.Spec PyProof.Rows L2 GenW
/-! ### generators: if and for around a yield -/
section
variable {prog : Program} {w : World} {A : Around} {R : GenEnd} {Y : Protocol} {n : Nat} {s₀ : Shared} {fs : List Frame} {s : Shared} {env : Env}
end
section
variable {X : Cx} {pos : Pos}
end
/-! ### generators over data -/
structure GDn where
  nx : List Dt → List Sl → Prop
  xc : List Sl → Xc → Prop
abbrev DGt := GDn → List Dt → List Sl → Prop
structure GLnk (C : Bc) (X : Addr → Prop) (H : Hp) (D : GEnds) (d : GDn) : Prop where
  nx : ∀ X' env σ H' ys ds, Rep C X' env σ H' → Same (vis H X) (vis H' X') → DenAll C.K (vis H' X') ys ds → d.nx ds env → D.nx ys σ H'
  xc : ∀ X' env σ H' x cls dx, Rep C X' env σ H' → Same (vis H X) (vis H' X') → XRep C.K (vis H' X') cls dx x → d.xc env x → C.E σ cls dx H'
section
variable {C : Bc} {X X1 : Addr → Prop} {env : List Sl} {σ : L2.St} {H H1 : Hp} {D : GEnds} {d : GDn}
theorem GLnk.step (l : GLnk C X H D d) (s : Same (vis H X) (vis H1 X1)) : GLnk C X1 H1 D d where
  nx := fun X' env σ H' ys ds r k a h => l.nx X' env σ H' ys ds r (s.trans k) a h
  xc := fun X' env σ H' x cls dx r k a h => l.xc X' env σ H' x cls dx r (s.trans k) a h
theorem GLnk.xok (l : GLnk C X H D d) (r : Rep C X env σ H) : XOk C X σ H (d.xc env) := fun x cls dx H' f a h => l.xc X env σ H' x cls dx (r.step f) (r.vs f) a h
end
def gPlain (s : DSt) : DGt := fun d acc env => s ⟨fun e => d.nx acc e, fun _ => False, fun _ => False, fun _ => False, d.xc⟩ env
def gSeq (a b : DGt) : DGt := fun d acc env => a { d with nx := fun acc' e => b d acc' e } acc env
def gNext : DGt := fun d acc env => d.nx acc env
def gIf (c : DTX) (a b : DGt) : DGt := fun d acc env => c env (fun k => if k = true then a d acc env else b d acc env) (d.xc env)
def gYield (e : DX) : DGt := fun d acc env => acc.length < LINE ∧ e env (fun x => d.nx (acc ++ [x]) env) (d.xc env)
def dGFor (f : DGX) (b : DGt) (d : GDn) : List Dt → List Dt → List Sl → Prop
  | [], acc, env => d.nx acc env
  | x :: xs, acc, env => f x env fun env' => b { d with nx := dGFor f b d xs } acc env'
def gFor (src : DAX) (f : DGX) (b : DGt) : DGt := fun d acc env => src env (fun ds => dGFor f b d ds acc env) (d.xc env)
section
variable {C : Bc} {t : TS} {s : DSt} {tc : TT} {ec : DTX} {te : TE} {e : DX} {tu tv : TGn} {a b : DGt} {wi : TI} {g : TG} {src : DAX} {f : DGX} {js : List Nat}
end
def mkG (np N : Nat) (s : DGt) : DFn := fun args Q E => args.length = np ∧ s ⟨fun acc _ => Q (.lst acc), fun _ x => E x⟩ [] (args ++ List.replicate (N - np) .no)
section
variable {P : Program} {w : World} {K : PySem.W.Frag} {mg : Str → Option Value} {base : Heap} {x qual : Str} {params : Arguments} {body : List Stmt} {scope : Scope} {dvs : List V} {kws : List (Str × V)} {f : Addr} {fd : FuncData}
end
section
variable {C : Bc} {F : DFn} {dvs : List V} {dd : List Sl} {t : TA} {a : DSX}
end
/-! ### monotone: calls, fields -/
/-! ### equations -/
theorem mkG_W {np N : Nat} {s : DGt} {args : List Sl} {Q : Dt → Prop} {E : Xc → Prop} : mkG np N s args Q E = (args.length = np ∧ s ⟨fun acc _ => Q (.lst acc), fun _ x => E x⟩ [] (args ++ List.replicate (N - np) .no)) := rfl
theorem gPlain_W {s : DSt} {d : GDn} {acc : List Dt} {env : List Sl} : gPlain s d acc env = s ⟨fun e => d.nx acc e, fun _ => False, fun _ => False, fun _ => False, d.xc⟩ env := rfl
theorem gSeq_W {a b : DGt} {d : GDn} {acc : List Dt} {env : List Sl} : gSeq a b d acc env = a { d with nx := fun acc' e => b d acc' e } acc env := rfl
theorem gNext_W {d : GDn} {acc : List Dt} {env : List Sl} : gNext d acc env = d.nx acc env := rfl
theorem gIf_W {c : DTX} {a b : DGt} {d : GDn} {acc : List Dt} {env : List Sl} : gIf c a b d acc env = c env (fun k => if k = true then a d acc env else b d acc env) (d.xc env) := rfl
theorem gYield_W {e : DX} {d : GDn} {acc : List Dt} {env : List Sl} : gYield e d acc env = (acc.length < LINE ∧ e env (fun x => d.nx (acc ++ [x]) env) (d.xc env)) := rfl
theorem gFor_W {src : DAX} {f : DGX} {b : DGt} {d : GDn} {acc : List Dt} {env : List Sl} : gFor src f b d acc env = src env (fun ds => dGFor f b d ds acc env) (d.xc env) := rfl
end Mine

namespace Mine
open PySem PySem.Spec PyProof.Rows L2
/-! ### rows = [a new list for ..]; rows[k1][k2] = a whole number, right behind: both rows together -/
section
variable {C : Bc} {X : Addr → Prop} {env : List Sl} {σ : L2.St} {H H1 H2 : Hp}
end
theorem rows_den {K : PySem.W.Frag} {H : Hp} : ∀ {qs : List Addr} {dss : List (List Dt)}, qs.length = dss.length → (∀ (j : Nat) (q : Addr) (ds : List Dt), qs[j]? = some q → dss[j]? = some ds → ∃ us, H q = some (.lst us) ∧ DenAll K H us ds) → DenAll K H (qs.map V.ref) (dss.map Dt.lst)
  | [], [], _, _ => .nil
  | [], _ :: _, h, _ => by cases h
  | _ :: _, [], h, _ => by cases h
  | q :: qs, ds :: dss, hl, h => by
    obtain ⟨us, h1, h2⟩ := h 0 q ds rfl rfl
    exact .cons (.lst h1 h2) (rows_den (by simpa using hl) fun j q' ds' e1 e2 => h (j + 1) q' ds' (by simpa using e1) (by simpa using e2))
def sRowPut (i : Nat) (lc ev e1 e2 : DX) : DSt := fun d env => i < env.length ∧ lc env (fun r => match r with
  | .lst rows => ev (env.set i .no) (fun v => match v with
    | .int z => e1 (env.set i .no) (fun a => match a with
      | .int m => ∃ m' : Nat, ixN rows.length m = some m' ∧ e2 (env.set i .no) (fun b => match b with
        | .int j => ∃ (j' : Nat) (ds : List Dt), rows[m']? = some (.lst ds) ∧ ixN ds.length j = some j' ∧ d.nx (env.set i (.d (.lst (rows.set m' (.lst (ds.set j' (.int z)))))))
        | _ => False) (d.xc (env.set i .no))
      | _ => False) (d.xc (env.set i .no))
    | _ => False) (d.xc (env.set i .no))
  | _ => False) (d.xc env)
section
variable {C : Bc} {wi : TI} {g : TG} {tt : TT} {te tv t1 t2 : TE} {vs : List Nat} {src : DAX} {f : DGX} {et : DTX} {ee ev e1 e2 : DX} {u : TS} {s : DSt} {i : Nat}
end
theorem sRowPut_W {i : Nat} {lc ev e1 e2 : DX} {d : DEn} {env : List Sl} : sRowPut i lc ev e1 e2 d env = (i < env.length ∧ lc env (fun r => match r with
  | .lst rows => ev (env.set i .no) (fun v => match v with
    | .int z => e1 (env.set i .no) (fun a => match a with
      | .int m => ∃ m' : Nat, ixN rows.length m = some m' ∧ e2 (env.set i .no) (fun b => match b with
        | .int j => ∃ (j' : Nat) (ds : List Dt), rows[m']? = some (.lst ds) ∧ ixN ds.length j = some j' ∧ d.nx (env.set i (.d (.lst (rows.set m' (.lst (ds.set j' (.int z)))))))
        | _ => False) (d.xc (env.set i .no))
      | _ => False) (d.xc (env.set i .no))
    | _ => False) (d.xc (env.set i .no))
  | _ => False) (d.xc env)) := rfl
end Mine

namespace Mine
open PySem PySem.Spec PyProof.Rows L2
/-! ### l.count(x) of any plain things -/
def eCnt (a b : DX) : DX := fun env Q E => a env (fun x => match x with
  | .lst ys => b env (fun z => z.sh ∧ Dt.sh (.lst ys) ∧ Q (.int ((ys.countP fun y => y.eqv z : Nat)))) E
  | _ => False) E
theorem eCnt_W (a b : DX) {env} {Q} {E} : eCnt a b env Q E = a env (fun x => match x with
  | .lst ys => b env (fun z => z.sh ∧ Dt.sh (.lst ys) ∧ Q (.int ((ys.countP fun y => y.eqv z : Nat)))) E
  | _ => False) E := rfl
end Mine

namespace Mine
open PySem PySem.Spec PyProof.Rows L2
/-! ### sorted(set(xs)) of whole numbers -/
def eSortedSetI (a : DX) : DX := fun env Q E => a env (fun d => ∃ ns : List Int, d = .lst (ns.map Dt.int) ∧ ns.length < 64 ∧ ∀ ms : List Int, ms.Pairwise (· < ·) → (∀ x, x ∈ ms ↔ x ∈ ns) → Q (.lst (ms.map Dt.int))) E
theorem eSortedSetI_W (a : DX) {env} {Q} {E} : eSortedSetI a env Q E = a env (fun d => ∃ ns : List Int, d = .lst (ns.map Dt.int) ∧ ns.length < 64 ∧ ∀ ms : List Int, ms.Pairwise (· < ·) → (∀ x, x ∈ ms ↔ x ∈ ns) → Q (.lst (ms.map Dt.int))) E := rfl
end Mine

namespace Mine
open PySem PySem.Spec PyProof.Rows L2
/-! ### tables of sets, of any mask 2 ^ e - 1: the way x -> 5 x + 1 meets each slot -/
def five : Nat → Nat → Nat
  | 0, x => x
  | n + 1, x => five n x * 5 + 1
theorem five_add (a x : Nat) : ∀ b, five (a + b) x = five b (five a x)
  | 0 => rfl
  | b + 1 => by show five (a + b) x * 5 + 1 = five b (five a x) * 5 + 1; rw [five_add a x b]
theorem five_pow : ∀ k, ∃ s t, ∀ x, five (2 ^ k) x = (1 + 4 * 2 ^ k * s) * x + 2 ^ k * (2 * t + 1)
  | 0 => ⟨1, 0, fun x => by show x * 5 + 1 = (1 + 4 * 1 * 1) * x + 1 * (2 * 0 + 1); omega⟩
  | k + 1 => by
    obtain ⟨s, t, h⟩ := five_pow k
    refine ⟨s + 2 * 2 ^ k * (s * s), t + 2 ^ k * s * (2 * t + 1), fun x => ?_⟩
    rw [Nat.pow_succ, Nat.mul_two, five_add, h, h]
    generalize 2 ^ k = K
    grind
theorem five_all : ∀ k i j, j < 2 ^ k → ∃ n, n < 2 ^ k ∧ five n i % 2 ^ k = j
  | 0, i, j, h => ⟨0, by decide, by rw [Nat.pow_zero, Nat.mod_one]; omega⟩
  | k + 1, i, j, h => by
    have pk : 0 < 2 ^ k := Nat.pow_pos (by decide)
    obtain ⟨n, hn, e⟩ := five_all k i (j % 2 ^ k) (Nat.mod_lt _ pk)
    obtain ⟨s, t, h5⟩ := five_pow k
    have e2 : 2 ^ (k + 1) = 2 * 2 ^ k := by rw [Nat.pow_succ, Nat.mul_comm]
    rw [e2] at h ⊢
    by_cases c : five n i % (2 * 2 ^ k) = j
    · exact ⟨n, by omega, c⟩
    · refine ⟨n + 2 ^ k, by omega, ?_⟩
      rw [five_add, h5]
      generalize five n i = y at e c
      generalize 2 ^ k = K at *
      have r1 := Nat.div_add_mod y K
      have r2 := Nat.div_add_mod j K
      have hb : j / K < 2 := Nat.div_lt_of_lt_mul (by rw [Nat.mul_comm]; exact h)
      have hq := Nat.div_add_mod (y / K) 2
      have hr := Nat.mod_lt (y / K) (show 0 < 2 by decide)
      rw [e] at r1
      -- y = K q + r, j = K b + r, q and b of unlike parity
      have ne : y / K % 2 ≠ j / K := fun z => c (by
        rw [← r1, ← hq, z, Nat.mul_add, ← Nat.mul_assoc, Nat.mul_comm K 2, Nat.add_assoc, Nat.mul_add_mod, r2]
        exact Nat.mod_eq_of_lt h)
      have main : ∃ m, (1 + 4 * K * s) * y + K * (2 * t + 1) = 2 * K * m + j := by
        generalize y / K = q at *
        generalize j / K = b at *
        generalize j % K = r at *
        have q1 : q % 2 = 0 ∧ b = 1 ∨ q % 2 = 1 ∧ b = 0 := by omega
        rcases q1 with ⟨a1, a2⟩ | ⟨a1, a2⟩
        · refine ⟨q / 2 + 2 * s * y + t, ?_⟩
          rw [a1] at hq; rw [a2] at r2
          generalize q / 2 = u at *
          subst hq; subst r2; subst r1
          grind
        · refine ⟨q / 2 + 1 + 2 * s * y + t, ?_⟩
          rw [a1] at hq; rw [a2] at r2
          generalize q / 2 = u at *
          subst hq; subst r2; subst r1
          grind
      obtain ⟨m, hm⟩ := main
      rw [hm, Nat.mul_add_mod]
      exact Nat.mod_eq_of_lt h
/-- the masks -/
def MaskG (m : Nat) : Prop := ∃ e, m + 1 = 2 ^ e ∧ (e = 3 ∨ e = 5 ∨ e = 7 ∨ e = 9 ∨ e = 11 ∨ e = 13)
theorem MaskG.six {m : Nat} (h : MaskG m) : m = 7 ∨ m = 31 ∨ m = 127 ∨ m = 511 ∨ m = 2047 ∨ m = 8191 := by
  obtain ⟨e, h1, rfl | rfl | rfl | rfl | rfl | rfl⟩ := h <;> omega
theorem MaskG.odd {m : Nat} (h : MaskG m) : m % 2 = 1 ∧ 7 ≤ m ∧ m ≤ 8191 := by
  have := h.six
  omega
theorem lcg_five {m i : Nat} (hi : i ≤ m) : ∀ n, lcgI m i n = five n i % (m + 1)
  | 0 => (Nat.mod_eq_of_lt (Nat.lt_succ_of_le hi)).symm
  | n + 1 => by
    show (lcgI m i n * 5 + 1) % (m + 1) = (five n i * 5 + 1) % (m + 1)
    rw [lcg_five hi n, Nat.add_mod, Nat.mul_mod, Nat.mod_mod, ← Nat.mul_mod, ← Nat.add_mod]
theorem MaskG.all {m : Nat} (h : MaskG m) {i j : Nat} (hi : i ≤ m) (hj : j ≤ m) : ∃ k, k ≤ m ∧ lcgI m i k = j := by
  obtain ⟨e, he, _⟩ := h
  obtain ⟨n, hn, en⟩ := five_all e i j (by omega)
  exact ⟨n, by omega, by rw [lcg_five hi, he]; exact en⟩
theorem MaskG.run {m : Nat} (hm : MaskG m) (h : Int) {j : Nat} (hj : j ≤ m) : ∃ n, n ≤ m + 12 ∧ runI m (SetTable.bits h) n = j := by
  obtain ⟨k, hk, e⟩ := hm.all (runI_le m (SetTable.bits h) 12) hj
  refine ⟨12 + k, by omega, ?_⟩
  rw [runI_tail (bits_lt h)]; exact e
theorem MaskG.met {m : Nat} (hm : MaskG m) (h : Int) {j : Nat} (hj : j ≤ m) : ∃ k, k < 10 * SetTable.turns m ∧ way m h k = j := by
  obtain ⟨n, hn, e⟩ := hm.run h hj
  obtain ⟨k, hk, e2⟩ := run_nth m (SetTable.bits h) n
  have lt : k < 10 * SetTable.turns m := by unfold SetTable.turns; omega
  exact ⟨k, lt, by unfold way; rw [e2]; exact e⟩
theorem way_top {m : Nat} (h : Int) (k : Nat) : way m h k ≤ m := by
  have lt : SetTable.bits h % (m + 1) ≤ m := Nat.le_of_lt_succ (Nat.mod_lt _ (Nat.succ_pos _))
  obtain ⟨r1, r2, _⟩ := runEnd_bd lt
  have := nth_in (m := m) k (runAt m (SetTable.bits h % (m + 1)) (SetTable.bits h)) (by unfold runAt; dsimp only; omega)
  exact Nat.le_trans (Nat.le_add_right _ _) this
end Mine

namespace Mine
open PySem PySem.Spec PyProof.Rows L2
/-- places and hashes: each hash finds its place by its way, over taken ones -/
structure Placed (m : Nat) (ps : List Nat) (hs : List Int) : Prop where
  asc : Ris ps
  len : ps.length = hs.length
  top : ∀ x ∈ ps, x ≤ m
  got : ∀ q ∈ ps.zip hs, ∃ k, way m q.2 k = q.1 ∧ ∀ i, i < k → way m q.2 i ∈ ps
structure TabG (t : SetTable) (hs : List Int) : Prop where
  mask : MaskG t.mask
  bare : t.dummies = #[]
  pl : Placed t.mask t.place.toList hs
/-- the first free place -/
theorem TabG.gap {t : SetTable} {hs : List Int} (T : TabG t hs) (hl : hs.length ≤ t.mask) (h : Int) :
    ∃ K, K < 10 * SetTable.turns t.mask ∧ way t.mask h K ∉ t.place.toList ∧ ∀ k, k < K → way t.mask h k ∈ t.place.toList := by
  obtain ⟨j, hj, hn⟩ := st_missing t.place.toList (t.mask + 1) (by have := T.pl.len; omega)
  obtain ⟨k, hk, e⟩ := T.mask.met h (Nat.le_of_lt_succ hj)
  obtain ⟨K, a, b, c⟩ := st_least (p := fun i => way t.mask h i ∉ t.place.toList) k (by rw [e]; exact hn)
  exact ⟨K, by omega, b, fun i hi => Classical.byContradiction fun z => c i hi z⟩
theorem zip_ins {α β : Type} {l : List α} {l' : List β} {p : Nat} (e : l.length = l'.length) (x : α) (y : β) {q : α × β} (hq : q ∈ (l.take p ++ x :: l.drop p).zip (l'.take p ++ y :: l'.drop p)) : q = (x, y) ∨ q ∈ l.zip l' := by
  rw [List.zip_append (by rw [List.length_take, List.length_take, e]), List.zip_cons_cons, List.mem_append, List.mem_cons] at hq
  have ez : l.zip l' = (l.take p).zip (l'.take p) ++ (l.drop p).zip (l'.drop p) := by
    rw [← List.zip_append (by rw [List.length_take, List.length_take, e]), List.take_append_drop, List.take_append_drop]
  rw [ez, List.mem_append]
  rcases hq with h | h | h
  · exact .inr (.inl h)
  · exact .inl h
  · exact .inr (.inr h)
/-- one more in the table -/
theorem TabG.more {t : SetTable} {hs : List Int} (T : TabG t hs) {h : Int} {K : Nat} (hK : way t.mask h K ∉ t.place.toList) (hb : ∀ k, k < K → way t.mask h k ∈ t.place.toList) {t' : SetTable} {p : Nat} (e : t.put (way t.mask h K) = (t', p)) :
    p ≤ hs.length ∧ TabG t' (hs.take p ++ h :: hs.drop p) ∧ t'.mask = t.mask ∧ t'.led = t.led ∧ t'.plain = t.plain ∧ t'.fill = hs.length + 1 := by
  have top := way_top (m := t.mask) h K
  obtain ⟨j, ej⟩ : ∃ j, way t.mask h K = j := ⟨_, rfl⟩
  rw [ej] at e hK top
  obtain ⟨c1, _, _⟩ := below_cut T.pl.asc j
  have ep : SetTable.below t.place j = p := congrArg Prod.snd e
  have et : (t.put j).1 = t' := congrArg Prod.fst e
  have pp := put_place t j
  have pd := put_dm T.bare j
  have pa : Ris (t.put j).1.place.toList := ris_insert T.pl.asc fun z => hK (List.mem_of_getElem? (by rw [Array.getElem?_toList]; exact z))
  have pm : (t.put j).1.mask = t.mask ∧ (t.put j).1.led = t.led ∧ (t.put j).1.plain = t.plain := ⟨rfl, rfl, rfl⟩
  rw [ep] at pp c1
  rw [et] at pp pd pa pm
  have hl := T.pl.len
  rw [Array.length_toList] at hl
  have lp : t'.place.toList.length = hs.length + 1 := by
    rw [pp, List.length_append, List.length_cons, List.length_take, List.length_drop, Array.length_toList]; omega
  have inn : ∀ {x : Nat}, x ∈ t'.place.toList ↔ x = j ∨ x ∈ t.place.toList := fun {x} => by rw [pp]; exact mem_ins
  refine ⟨by omega, ⟨by rw [pm.1]; exact T.mask, pd, pa, ?_, fun x hx => ?_, fun q hq => ?_⟩, pm.1, pm.2.1, pm.2.2, ?_⟩
  · rw [lp, List.length_append, List.length_cons, List.length_take, List.length_drop]; omega
  · rw [pm.1]
    rcases inn.mp hx with z | z
    · omega
    · exact T.pl.top x z
  · rw [pm.1]
    rw [pp] at hq
    rcases zip_ins T.pl.len j h hq with rfl | z
    · exact ⟨K, ej, fun i hi => inn.mpr (.inr (hb i hi))⟩
    · obtain ⟨k, a, b⟩ := T.pl.got q z
      exact ⟨k, a, fun i hi => inn.mpr (.inr (b i hi))⟩
  · unfold SetTable.fill
    rw [pd, ← Array.length_toList, lp]; rfl
/-- a place for one more when all is laid anew -/
theorem MaskG.free {m : Nat} (hm : MaskG m) (owner : Array (Option Nat)) (h : Int) {j : Nat} (hj : j ≤ m) (hf : oAt owner j = none) :
    ∃ K, SetTable.layClean.free m owner (SetTable.turns m) (SetTable.bits h % (m + 1)) (SetTable.bits h) = some (way m h K) ∧ oAt owner (way m h K) = none ∧ ∀ k, k < K → oAt owner (way m h k) ≠ none := by
  obtain ⟨n, hn, e⟩ := hm.run h hj
  obtain ⟨N, eN⟩ : ∃ N, off m (SetTable.bits h % (m + 1)) (SetTable.bits h) n = N := ⟨_, rfl⟩
  have at_ : way m h N = j := by
    unfold way
    rw [← eN, nth_off, itL_run]; exact e
  obtain ⟨K, a, b, c⟩ := st_least (p := fun i => oAt owner (way m h i) = none) N (by rw [at_]; exact hf)
  refine ⟨K, free_spec m owner (SetTable.turns m) n _ _ K (by unfold SetTable.turns; omega) (by rw [eN]; exact a) (fun i hi => ?_) ?_, b, c⟩
  · have := c i hi
    exact Option.isNone_eq_false_iff.mpr (Option.isSome_iff_ne_none.mpr this)
  · exact Option.isNone_iff_eq_none.mpr b
theorem own_next {m : Nat} (hm : MaskG m) {done : List Int} {owner : Array (Option Nat)} (W : Own m done owner) (hl : done.length ≤ m) (h : Int) :
    ∃ j, SetTable.layClean.free m owner (SetTable.turns m) (SetTable.bits h % (m + 1)) (SetTable.bits h) = some j ∧ Own m (done ++ [h]) (owner.setIfInBounds j (some done.length)) := by
  obtain ⟨ps, hps, hin⟩ := W.ps
  obtain ⟨i0, hi0, hn⟩ := st_missing ps (m + 1) (by omega)
  have fr : oAt owner i0 = none := Classical.byContradiction fun z => hn (hin i0 (Nat.le_of_lt_succ hi0) z)
  obtain ⟨K, e1, e2, e3⟩ := hm.free owner h (Nat.le_of_lt_succ hi0) fr
  have top := way_top (m := m) h K
  obtain ⟨j, ej⟩ : ∃ j, way m h K = j := ⟨_, rfl⟩
  rw [ej] at e1 e2 top
  have self := oAt_set_self (owner := owner) (some done.length) (show j < owner.size by rw [W.sz]; omega)
  have keep : ∀ i, oAt owner i ≠ none → oAt (owner.setIfInBounds j (some done.length)) i = oAt owner i := fun i hi => oAt_set_ne _ fun z => hi (by rw [z]; exact e2)
  refine ⟨j, e1, ?_⟩
  constructor
  · rw [Array.size_setIfInBounds]; exact W.sz
  · intro i k hi e
    by_cases c : i = j
    · subst c
      rw [self] at e
      cases e
      refine ⟨h, K, by simp, ej, fun a ha => ?_⟩
      rw [keep _ (e3 a ha)]; exact e3 a ha
    · rw [oAt_set_ne _ c] at e
      obtain ⟨h', K', a1, a2, a3⟩ := W.at_ i k hi e
      refine ⟨h', K', ?_, a2, fun a ha => by rw [keep _ (a3 a ha)]; exact a3 a ha⟩
      rw [List.getElem?_append_left (List.getElem?_eq_some_iff.mp a1).1]; exact a1
  · intro k hk
    rcases Nat.lt_or_ge k done.length with c | c
    · obtain ⟨i, hi, e⟩ := W.all k c
      exact ⟨i, hi, by rw [keep i (by rw [e]; simp)]; exact e⟩
    · have : k = done.length := by simp at hk; omega
      subst this
      exact ⟨j, top, self⟩
  · refine ⟨j :: ps, by simp [hps], fun i hi e => ?_⟩
    by_cases c : i = j
    · rw [c]; exact List.mem_cons_self
    · rw [oAt_set_ne _ c] at e
      exact List.mem_cons_of_mem _ (hin i hi e)
theorem lay_all {m : Nat} (hm : MaskG m) : ∀ (rest done : List Int) (owner : Array (Option Nat)), Own m done owner → done.length + rest.length ≤ m →
    ∃ o2, rest.foldl (stepF m) (some (owner, done.length)) = some (o2, (done ++ rest).length) ∧ Own m (done ++ rest) o2
  | [], done, owner, W, _ => ⟨owner, by simp, by simpa using W⟩
  | h :: rest, done, owner, W, hl => by
    rw [List.length_cons] at hl
    obtain ⟨j, e, W'⟩ := own_next hm W (by omega) h
    obtain ⟨o2, f, W2⟩ := lay_all hm rest (done ++ [h]) _ W' (by rw [List.length_append]; show _ + 1 + _ ≤ _; omega)
    rw [List.append_assoc, List.length_append] at f
    rw [List.append_assoc] at W2
    exact ⟨o2, by rw [List.foldl_cons, stepF_some e]; exact f, W2⟩
theorem lay_clean {m : Nat} (hm : MaskG m) {hs : Array Int} (hn : hs.size ≤ m) : ∃ owner, SetTable.layClean m hs = some owner ∧ Own m hs.toList owner := by
  obtain ⟨o2, f, W⟩ := lay_all hm hs.toList [] _ (Own.init m) (by show 0 + hs.toList.length ≤ m; rw [Array.length_toList]; omega)
  refine ⟨o2, ?_, W⟩
  rw [layClean_eq]
  show Option.map _ (hs.toList.foldl (stepF m) (some (Array.replicate (m + 1) none, ([] : List Int).length))) = _
  rw [f]; rfl
/-- the table laid anew -/
theorem lay_new (t : SetTable) {hs : Array Int} {wanted M : Nat} (hw : SetTable.sizeAbove wanted - 1 = M) (hM : MaskG M) (hn : hs.size ≤ M) :
    ∃ t' order, t.relaid hs wanted = some (t', order) ∧ order.toList.Perm (List.range hs.size) ∧ TabG t' (order.toList.map fun i => hs.getD i 0) ∧ t'.mask = M ∧ t'.led = t.led ∧ t'.plain = t.plain := by
  obtain ⟨owner, e, W⟩ := lay_clean hM hn
  obtain ⟨r1, r2⟩ := ris_live (fun j => owner.getD j none) (List.range (M + 1)) List.pairwise_lt_range
  obtain ⟨l, el⟩ : ∃ l, liveOf M owner = l := ⟨_, rfl⟩
  have r1 : Ris (l.map (·.1)) := by rw [← el]; exact r1
  have r2 : ∀ x ∈ l.map (·.1), x ∈ List.range (M + 1) := by rw [← el]; exact r2
  have ml : ∀ {j k : Nat}, (j, k) ∈ l ↔ j ≤ M ∧ oAt owner j = some k := fun {j k} => by rw [← el]; exact mem_live W.sz
  refine ⟨tabOf t M owner, (l.map (·.2)).toArray, ?_, ?_, ?_, rfl, rfl, rfl⟩
  · rw [relaid_eq, hw, e, ← el]; rfl
  · refine perm_range hs.size (l.map (·.2)) ?_ fun k hk => ?_
    · have up : l.length ≤ hs.size := by
        obtain ⟨ps, p1, p2⟩ := W.ps
        have nd : (l.map (·.1)).Nodup := List.Pairwise.imp (fun {a b} (h : a < b) => Nat.ne_of_lt h) r1
        have := nat_nodup_len (l.map (·.1)) ps nd fun x hx => by
          obtain ⟨⟨y, k⟩, hq, rfl⟩ := List.mem_map.mp hx
          obtain ⟨b1, b2⟩ := ml.mp hq
          exact p2 y b1 (by rw [b2]; simp)
        simp at this p1; omega
      have dn : hs.size ≤ l.length := by
        have := nat_nodup_len (List.range hs.size) (l.map (·.2)) List.nodup_range fun k hk => by
          obtain ⟨j, b1, b2⟩ := W.all k (by simpa using hk)
          exact List.mem_map.mpr ⟨(j, k), ml.mpr ⟨b1, b2⟩, rfl⟩
        simpa using this
      rw [List.length_map]; omega
    · obtain ⟨j, b1, b2⟩ := W.all k (by simpa using hk)
      exact List.mem_map.mpr ⟨(j, k), ml.mpr ⟨b1, b2⟩, rfl⟩
  · have pls : (tabOf t M owner).place.toList = l.map (·.1) := by show ((liveOf M owner).map (·.1)).toArray.toList = _; rw [el]
    refine ⟨hM, rfl, by rw [pls]; exact r1, by rw [pls]; simp, fun x hx => ?_, fun q hq => ?_⟩
    · rw [pls] at hx
      exact Nat.le_of_lt_succ (List.mem_range.mp (r2 x hx))
    · rw [pls] at hq ⊢
      have ez : (l.map (·.1)).zip ((l.map (·.2)).map fun i => hs.getD i 0) = l.map fun q => (q.1, hs.getD q.2 0) := by
        rw [List.map_map]; exact List.zip_map' ..
      obtain ⟨⟨j, k⟩, hm, rfl⟩ := List.mem_map.mp (show q ∈ l.map fun q => (q.1, hs.getD q.2 0) by rw [← ez]; exact hq)
      obtain ⟨b1, b2⟩ := ml.mp hm
      obtain ⟨h0, K, a1, a2, a3⟩ := W.at_ j k b1 b2
      have e0 : hs.getD k 0 = h0 := by
        rw [Array.getD_eq_getD_getElem?, ← Array.getElem?_toList, a1]; rfl
      refine ⟨K, by dsimp only; rw [e0]; exact a2, fun i hi => ?_⟩
      dsimp only
      rw [e0]
      have := a3 i hi
      obtain ⟨k2, z⟩ := Option.ne_none_iff_exists'.mp this
      exact List.mem_map.mpr ⟨(way M h0 i, k2), ml.mpr ⟨way_top h0 i, z⟩, rfl⟩
end Mine

namespace Mine
open PySem PySem.Spec PyProof.Rows L2
/-- a set of tuples of whole numbers at a: its rows, its table -/
structure SetG (P : Program) (w : World) (h : Heap) (a : Addr) (L : List (Addr × List Int)) (es : Array (Int × Value)) (ep : Nat) (t : SetTable) : Prop where
  at_ : ∃ o, h.get? a = some o ∧ o.ExactSet ∧ o.data = .set es ep t
  ents : es.toList = rowsOf P w L
  tab : TabG t (L.map fun p => thash P w p.2)
  keys : (L.map (·.2)).Nodup
  tups : ∀ p ∈ L, IsT P w h p.2 p.1
  byv : t.plain = true
  ldg : w.params.followText "set-order" = true ∨ t.led = true
  free : L.length * 5 < t.mask * 3
section
variable {P : Program} {w : World} {A : Around} {E : Value → Shared → Prop} {s : Shared} {a : Addr} {L : List (Addr × List Int)} {es : Array (Int × Value)} {ep : Nat} {t : SetTable}
theorem ents_len {L : List (Addr × List Int)} {es : Array (Int × Value)} (h : es.toList = rowsOf P w L) : es.size = L.length := by
  rw [← Array.length_toList, h]; exact List.length_map ..
theorem ents_at {L : List (Addr × List Int)} {es : Array (Int × Value)} (h : es.toList = rowsOf P w L) {i : Nat} {p : Addr × List Int} (e : L[i]? = some p) : es[i]? = some (thash P w p.2, Value.ref p.1) := by
  rw [← Array.getElem?_toList, h, rowsOf, List.getElem?_map, e]; rfl
theorem TabG.size {t : SetTable} {hs : List Int} (T : TabG t hs) : t.place.size = hs.length := by rw [← Array.length_toList]; exact T.pl.len
theorem fits_of {t : SetTable} {hs : List Int} (T : TabG t hs) {n : Nat} (e : n = hs.length) (l : n ≤ t.mask) : t.fits n = true := by
  have := T.size
  unfold SetTable.fits SetTable.fill
  rw [T.bare, Bool.and_eq_true, beq_iff_eq, decide_eq_true_eq]
  exact ⟨by omega, by show t.place.size + 0 ≤ t.mask; omega⟩
theorem SetG.size (R : SetG P w s.heap a L es ep t) : es.size = L.length := ents_len R.ents
theorem SetG.fits (R : SetG P w s.heap a L es ep t) : t.fits es.size = true := fits_of R.tab (by rw [R.size, List.length_map]) (by have := R.free; have := R.size; omega)
theorem SetG.stays (R : SetG P w s.heap a L es ep t) : ¬ t.gaveWay = true := by
  unfold SetTable.gaveWay
  rw [(MaskG.odd R.tab.mask).1]; decide
theorem nth_dummy (m : Nat) : ∀ (n : Nat) (p : SetTable.Probe), p.dummy = none → (nth m p n).dummy = none
  | 0, _, h => h
  | n + 1, p, h => nth_dummy m n (adv m p) (by unfold adv; split <;> exact h)
/-- the c-th state of the way -/
abbrev prb (m : Nat) (h : Int) (c : Nat) : SetTable.Probe := nth m (runAt m (SetTable.bits h % (m + 1)) (SetTable.bits h)) c
theorem find_from (R : SetG P w s.heap a L es ep t) {x : Addr} {k : List Int} (hx : IsT P w s.heap k x) (hu : A.units < cLine) {h : Int} (eh : thash P w k = h) {K : Nat} (hKf : K < 10 * SetTable.turns t.mask) (hK : way t.mask h K ∉ t.place.toList)
    (hKb : ∀ c, c < K → way t.mask h c ∈ t.place.toList) {Q : SetFound → Shared → Prop} (yes : k ∈ L.map (·.2) → Q (.there none) s) (no : k ∉ L.map (·.2) → Q (.free (way t.mask h K) false) s) : ∀ (f c : Nat) (stand : Option SetTable.Probe), stand.getD (t.probeStart h) = prb t.mask h c → c ≤ K → K - c < f →
      (∀ (i : Nat) p, L[i]? = some p → p.2 = k → ∃ c', c ≤ c' ∧ c' < K ∧ t.place.toList[i]? = some (way t.mask h c')) → wpAny (model P w) A (setSearchFrom a (.ref x) h true f stand) Q E s
  | 0, c, _, _, _, hf, _ => absurd hf (Nat.not_lt_zero _)
  | f + 1, c, stand, hst, hc, hf, hre => by
    obtain ⟨o, ho, hex, hd⟩ := R.at_
    have pl := R.tab.pl
    have step : ∀ q, nth t.mask (prb t.mask h c) q = prb t.mask h (c + q) := fun q => (nth_add t.mask c _ q).symm
    have stepj : ∀ q, (nth t.mask (prb t.mask h c) q).j = way t.mask h (c + q) := fun q => by rw [step]
    have last : c + (K - c) = K := by omega
    have spec := go_spec t pl.asc R.tab.bare (fun i => (es[i]?.map (·.1)).getD 0) h (10 * SetTable.turns t.mask) (K - c) (prb t.mask h c) (nth_dummy _ _ _ rfl) (by omega) (fun q hq => by rw [stepj]; exact hKb _ (by omega)) (by rw [stepj, last]; exact hK)
    have hash : ∀ (i : Nat) p, L[i]? = some p → (es[i]?.map (·.1)).getD 0 = thash P w p.2 := fun i p hp => by rw [ents_at R.ents hp]; rfl
    rw [setSearchFrom_succ]
    refine wpAny_bind (wpAny_setState_of ho hd R.fits ?_)
    dsimp only
    refine wp_if_neg R.stays ?_
    try refine wpAny_bind (wpAny_pure ?_)
    rcases spec with ⟨q, i, hq, hi, hh, before, ans⟩ | ⟨before, ans⟩
    · -- a row of this hash is met
      have ans' : t.probe (fun i => (es[i]?.map (·.1)).getD 0) h (stand.getD (t.probeStart h)) = some (.candidate (way t.mask h (c + q)) i (prb t.mask h (c + (q + 1)))) := by
        rw [hst, ← stepj, ← step]; exact ans
      rw [ans']
      dsimp only
      rw [stepj] at hi
      have il : i < L.length := by
        have := (List.getElem?_eq_some_iff.mp hi).1
        have := pl.len
        rw [List.length_map] at this
        omega
      obtain ⟨p, hp⟩ : ∃ p, L[i]? = some p := ⟨_, List.getElem?_eq_getElem il⟩
      have pin : p ∈ L := List.mem_of_getElem? hp
      have live : t.slot (way t.mask h (c + q)) = .live i := slot_live pl.asc hi
      have rest : wpAny (model P w) A (searchRest a (.ref x) h true f es t (way t.mask h (c + q)) i (prb t.mask h (c + (q + 1)))) Q E s := by
        unfold searchRest
        rw [ents_at R.ents hp]
        dsimp only
        refine wpAny_bind (wpAny_holding (wpAny_eqBool_tuple hu (R.tups p pin) hx ?_))
        refine wpAny_bind (wpAny_setState_of ho hd R.fits ?_)
        dsimp only
        by_cases same : p.2 = k
        · exact wp_if_pos (by simp [same]) (wpAny_pure (yes (List.mem_map.mpr ⟨p, pin, same⟩)))
        · refine wp_if_neg (by simp [same]) ?_
          try refine wpAny_bind (wpAny_pure ?_)
          rw [sameMem]
          dsimp only
          simp only [if_true, live, ents_at R.ents hp]
          refine wpAny_bind (wpAny_isSame_ref_self (wpAny_bind (wpAny_pure ?_)))
          simp only [if_true]
          refine wp_if_neg (by simp [same]) (find_from R hx hu eh hKf hK hKb yes no f (c + (q + 1)) _ rfl (by omega) (by omega) fun i0 p0 h0 e0 => ?_)
          obtain ⟨c', a1, a2, a3⟩ := hre i0 p0 h0 e0
          refine ⟨c', Classical.byContradiction fun lt => ?_, a2, a3⟩
          by_cases eq : c' = c + q
          · -- then it would be this row
            have := slot_live pl.asc (eq ▸ a3)
            rw [live] at this
            injection this with this
            rw [← this, hp] at h0
            cases h0
            exact same e0
          · refine before (c' - c) i0 (by omega) ?_ ((hash i0 p0 h0).trans (by rw [e0, eh]))
            rw [stepj, show c + (c' - c) = c' by omega]; exact a3
      by_cases hl : t.led = true
      · refine wp_if_neg (by simp [hl]) ?_
        first
        | exact rest
        | exact wpAny_bind (wpAny_pure rest)
      · refine wp_if_pos (by simp [hl]) (wpAny_bind (seen_tup hx (fun y hy => ?_) ?_))
        · obtain ⟨e, he, ee⟩ := List.mem_map.mp hy
          have he : e ∈ es.toList := by simpa using (show e ∈ es ∧ e.1 = h by simpa using he).1
          rw [R.ents] at he
          obtain ⟨p2, hp2, e2⟩ := List.mem_map.mp he
          exact ⟨p2.2, p2.1, by rw [← ee, ← e2], R.tups p2 hp2⟩
        · refine wp_if_neg (by decide) ?_
          first
          | exact rest
          | exact wpAny_bind (wpAny_pure rest)
    · -- the free place
      have ans' : t.probe (fun i => (es[i]?.map (·.1)).getD 0) h (stand.getD (t.probeStart h)) = some (.empty (way t.mask h K) none) := by
        have := stepj (K - c)
        rw [last] at this
        rw [hst, ← this]; exact ans
      rw [ans']
      dsimp only
      refine wpAny_pure (no fun hm => ?_)
      obtain ⟨p0, hp0, e0⟩ := List.mem_map.mp hm
      obtain ⟨i0, h0⟩ := List.getElem?_of_mem hp0
      obtain ⟨c', a1, a2, a3⟩ := hre i0 p0 h0 e0
      refine before (c' - c) i0 (by omega) ?_ ((hash i0 p0 h0).trans (by rw [e0, eh]))
      rw [stepj, show c + (c' - c) = c' by omega]; exact a3
/-- the search as adding asks for it -/
theorem find_it (R : SetG P w s.heap a L es ep t) {x : Addr} {k : List Int} (hx : IsT P w s.heap k x) (hu : A.units < cLine) {Q : SetFound → Shared → Prop} (yes : k ∈ L.map (·.2) → Q (.there none) s)
    (no : ∀ K, k ∉ L.map (·.2) → way t.mask (thash P w k) K ∉ t.place.toList → (∀ c, c < K → way t.mask (thash P w k) c ∈ t.place.toList) → Q (.free (way t.mask (thash P w k) K) false) s) : wpAny (model P w) A (setSearch a (.ref x) (thash P w k) true) Q E s := by
  obtain ⟨h, eh⟩ : ∃ h, thash P w k = h := ⟨_, rfl⟩
  rw [eh] at no ⊢
  have room := R.free
  have md := R.tab.mask.odd
  obtain ⟨K, hKf, hK, hKb⟩ := R.tab.gap (by rw [List.length_map]; omega) h
  have small : 10 * SetTable.turns t.mask < 100000 := by unfold SetTable.turns; omega
  unfold setSearch
  refine find_from R hx hu eh hKf hK hKb yes (fun z => no K z hK hKb) 100000 0 none rfl (Nat.zero_le _) (by omega) fun i p hp e => ?_
  have len := R.tab.pl.len
  rw [List.length_map] at len
  obtain ⟨j, hj⟩ : ∃ j, t.place.toList[i]? = some j := ⟨_, List.getElem?_eq_getElem (by have := (List.getElem?_eq_some_iff.mp hp).1; omega)⟩
  have hz : (t.place.toList.zip (L.map fun p => thash P w p.2))[i]? = some (j, h) := by
    rw [List.getElem?_zip_eq_some]
    exact ⟨hj, by rw [List.getElem?_map, hp, ← eh, ← e]; rfl⟩
  obtain ⟨c, e1, e2⟩ := R.tab.pl.got _ (List.mem_of_getElem? hz)
  refine ⟨c, Nat.zero_le _, ?_, by rw [hj]; exact congrArg some e1.symm⟩
  rcases Nat.lt_trichotomy c K with z | z | z
  · exact z
  · exact absurd (by rw [← z]; have := List.mem_of_getElem? hj; rw [← show way t.mask h c = j from e1] at this; exact this) hK
  · exact absurd (e2 K z) hK
end
end Mine

namespace Mine
open PySem PySem.Spec PyProof.Rows L2
section
variable {P : Program} {w : World} {A : Around} {E : Value → Shared → Prop} {s : Shared} {a : Addr} {L : List (Addr × List Int)} {es : Array (Int × Value)} {ep : Nat} {t : SetTable}
/-- laid anew, four times as large -/
theorem relayG {o : Obj} (ho : s.heap.get? a = some o) (hex : o.ExactSet) (hd : o.data = .set es ep t) (hrows : es.toList = rowsOf P w L) (T0 : TabG t (L.map fun p => thash P w p.2)) (lt : L.length ≤ t.mask)
    (nd : (L.map (·.2)).Nodup) (tup : ∀ p ∈ L, IsT P w s.heap p.2 p.1) (pl : t.plain = true) (ld : w.params.followText "set-order" = true ∨ t.led = true) {wanted M : Nat}
    (hw : SetTable.sizeAbove wanted - 1 = M) (hM : MaskG M) (hn : L.length * 5 < M * 3) {Q : Unit → Shared → Prop}
    (hQ : ∀ h' L' es' ep' t', Heap.SameBut a s.heap h' → SetG P w h' a L' es' ep' t' → L'.Perm L → Q () { s with heap := h' }) : wpAny (model P w) A (setRelay a wanted) Q E s := by
  have sz : es.size = L.length := ents_len hrows
  have fit : t.fits es.size = true := fits_of T0 (by rw [sz, List.length_map]) (by omega)
  have md := hM.odd
  obtain ⟨t2, order, e, hp, T, em, el, epl⟩ := lay_new t (hs := es.map (·.1)) hw hM (by rw [Array.size_map]; omega)
  rw [Array.size_map, sz] at hp
  obtain ⟨L2, r1, r2, r3⟩ := order_rows L es order hrows hp
  rw [← r3] at T
  have len2 : L2.length = L.length := r2.length_eq
  have sz2 : (order.filterMap (es[·]?)).size = es.size := (ents_len r1).trans (len2.trans sz.symm)
  rw [setRelay_eq]
  refine wpAny_bind (wpAny_setState_of ho hd fit ?_)
  dsimp only
  refine wp_if_neg (by rw [sizeLine_eq]; omega) ?_
  try refine wpAny_bind (wpAny_pure ?_)
  rw [e]
  dsimp only
  refine wpAny_bind (wp_if_neg (by rw [sz2]; simp) ?_)
  try refine wpAny_bind (wpAny_pure ?_)
  refine wpAny_pure ?_
  dsimp only
  refine wpAny_storeSet_of ho hd ?_ (by rw [sz2, sizeLine_eq]; omega)
  have sb : Heap.SameBut a s.heap (s.heap.update a (Obj.putSet (order.filterMap (es[·]?)) t2)) := Heap.SameBut.update ..
  refine hQ _ L2 (order.filterMap (es[·]?)) (ep + 1) t2 sb ?_ r2
  constructor
  · exact ⟨_, store_at (es' := order.filterMap (es[·]?)) (t' := t2) ho hd, ⟨hex.1, hex.2.1, hex.2.2⟩, rfl⟩
  · exact r1
  · exact T
  · exact (r2.map (·.2)).nodup_iff.mpr nd
  · exact fun p hpm => isT_same (tup p (r2.mem_iff.mp hpm)) ho hd sb
  · rw [epl]; exact pl
  · rw [el]; exact ld
  · rw [len2, em]; exact hn
theorem sizes_up : SetTable.sizeAbove (SetTable.grown 5) = 32 ∧ SetTable.sizeAbove (SetTable.grown 19) = 128 ∧ SetTable.sizeAbove (SetTable.grown 77) = 512 ∧ SetTable.sizeAbove (SetTable.grown 307) = 2048 ∧ SetTable.sizeAbove (SetTable.grown 1229) = 8192 := by decide +kernel
/-- one more row -/
theorem addG (R : SetG P w s.heap a L es ep t) {x : Addr} {k : List Int} (hx : IsT P w s.heap k x) (hu : A.units < cLine) (hfew : L.length + 1 < 4000) {Q : Bool → Shared → Prop}
    (hQ : ∀ b h' L' es' ep' t', Heap.SameBut a s.heap h' → SetG P w h' a L' es' ep' t' → (k ∈ L.map (·.2) → L' = L) → (k ∉ L.map (·.2) → L'.Perm ((x, k) :: L)) → Q b { s with heap := h' }) :
    wpAny (model P w) A (setAddHashed a (.ref x) (thash P w k)) Q E s := by
  obtain ⟨o, ho, hex, hd⟩ := R.at_
  have sz := R.size
  have room := R.free
  have md := R.tab.mask.odd
  unfold setAddHashed
  refine wpAny_holding ?_
  rw [show (100000 : Nat) = 99999 + 1 from rfl, setAddHashedIn_succ]
  refine wpAny_bind (wpAny_setState_of ho hd R.fits ?_)
  dsimp only
  refine wp_if_neg (by simp [byScan, Value.scannable]) ?_
  try refine wpAny_bind (wpAny_pure ?_)
  refine wpAny_bind (find_it R hx hu (fun hm => ?_) fun K hm hK hb => ?_)
  · dsimp only
    exact wpAny_pure (hQ false s.heap L es ep t (Heap.SameBut.refl a s.heap) R (fun _ => rfl) fun z => absurd hm z)
  · dsimp only
    refine wpAny_bind (wpAny_setState_of ho hd R.fits ?_)
    dsimp only
    obtain ⟨j, ej⟩ : ∃ j, way t.mask (thash P w k) K = j := ⟨_, rfl⟩
    obtain ⟨t1, p, ept⟩ : ∃ t1 p, t.put (way t.mask (thash P w k) K) = (t1, p) := ⟨_, _, rfl⟩
    obtain ⟨pl, T1, em, el, epl, efl⟩ := R.tab.more hK hb ept
    rw [ept]
    dsimp only
    have by1 : t1.plain = true := epl.trans R.byv
    first
      | (refine wpAny_bind ?_; refine wp_if_pos by1 ?_; refine hashBy_tup hx ?_)
      | refine wp_if_pos by1 (wpAny_bind (hashBy_tup hx ?_))
    simp only [if_true]
    rw [List.length_map] at pl efl
    have rows1 : (SetTable.insertAt es p (thash P w k, Value.ref x)).toList = rowsOf P w (L.take p ++ (x, k) :: L.drop p) := by
      rw [SetTable.toList_insertAt, rows_put, R.ents]
    have pm := put_perm L p (x, k)
    have hashes : (L.take p ++ (x, k) :: L.drop p).map (fun p => thash P w p.2) = (L.map fun p => thash P w p.2).take p ++ thash P w k :: (L.map fun p => thash P w p.2).drop p := by
      simp only [List.map_append, List.map_cons, List.map_take, List.map_drop]
    rw [← hashes] at T1
    obtain ⟨L1, eL1⟩ : ∃ L1, L.take p ++ (x, k) :: L.drop p = L1 := ⟨_, rfl⟩
    obtain ⟨es1, ees⟩ : ∃ es1, SetTable.insertAt es p (thash P w k, Value.ref x) = es1 := ⟨_, rfl⟩
    rw [eL1] at rows1 pm T1
    rw [ees] at rows1 ⊢
    have len1 : L1.length = L.length + 1 := pm.length_eq
    have sz1 : es1.size = L.length + 1 := (ents_len rows1).trans len1
    have keys1 : (L1.map (·.2)).Nodup := (pm.map (·.2)).nodup_iff.mpr (List.nodup_cons.mpr ⟨hm, R.keys⟩)
    refine wpAny_bind (wpAny_storeSet_of ho hd ?_ (by rw [sz1, sizeLine_eq]; omega))
    have sb : Heap.SameBut a s.heap (s.heap.update a (Obj.putSet es1 t1)) := Heap.SameBut.update ..
    have at1 := store_at (es' := es1) (t' := t1) ho hd
    obtain ⟨h1, eh1⟩ : ∃ h1, s.heap.update a (Obj.putSet es1 t1) = h1 := ⟨_, rfl⟩
    rw [eh1] at sb at1 ⊢
    have tups1 : ∀ p ∈ L1, IsT P w h1 p.2 p.1 := fun p hp => by
      rcases List.mem_cons.mp (pm.mem_iff.mp hp) with e | hp
      · rw [e]; exact isT_same hx ho hd sb
      · exact isT_same (R.tups p hp) ho hd sb
    have ld1 : w.params.followText "set-order" = true ∨ t1.led = true := by rw [el]; exact R.ldg
    have fullIff : t1.tooFull = true ↔ t.mask * 3 ≤ (L.length + 1) * 5 := by
      unfold SetTable.tooFull
      rw [decide_eq_true_eq, efl, em]
    by_cases hf : t1.tooFull = true
    · first
        | (refine wpAny_bind ?_; refine wp_if_pos (by simp [hf]) ?_)
        | (refine wp_if_pos (by simp [hf]) ?_; refine wpAny_bind ?_)
      have full := fullIff.mp hf
      rw [sz]
      have go : ∀ M, SetTable.sizeAbove (SetTable.grown (L.length + 1)) - 1 = M → MaskG M → L.length + 1 ≤ t.mask → (L.length + 1) * 5 < M * 3 →
          wpAny (model P w) A (setRelay a (SetTable.grown (L.length + 1))) (fun _ s' => wpAny (model P w) A (pure true) Q E s') E { s with heap := h1 } := fun M a1 a2 a3 a4 => by
        refine relayG (s := { s with heap := h1 }) at1 ⟨hex.1, hex.2.1, hex.2.2⟩ rfl rows1 T1 (by rw [len1, em]; exact a3) keys1 tups1 by1 ld1 a1 a2 (by rw [len1]; exact a4) fun h2 L2 es2 ep2 t2 sb2 R2 pm2 => ?_
        exact wpAny_pure (hQ true h2 L2 es2 ep2 t2 (sb.trans sb2) R2 (fun z => absurd z hm) fun _ => pm2.trans pm)
      obtain ⟨u1, u2, u3, u4, u5⟩ := sizes_up
      have six := R.tab.mask.six
      have which : L.length + 1 = 5 ∨ L.length + 1 = 19 ∨ L.length + 1 = 77 ∨ L.length + 1 = 307 ∨ L.length + 1 = 1229 := by omega
      rcases which with e | e | e | e | e
      · exact go 31 (by rw [e, u1]) ⟨5, rfl, by omega⟩ (by omega) (by omega)
      · exact go 127 (by rw [e, u2]) ⟨7, rfl, by omega⟩ (by omega) (by omega)
      · exact go 511 (by rw [e, u3]) ⟨9, rfl, by omega⟩ (by omega) (by omega)
      · exact go 2047 (by rw [e, u4]) ⟨11, rfl, by omega⟩ (by omega) (by omega)
      · exact go 8191 (by rw [e, u5]) ⟨13, rfl, by omega⟩ (by omega) (by omega)
    · first
        | refine wp_if_neg (by simp [hf]) ?_
        | (refine wpAny_bind ?_; refine wp_if_neg (by simp [hf]) ?_; refine wpAny_pure ?_)
      refine wpAny_pure (hQ true h1 L1 es1 (ep + 1) t1 sb ?_ (fun z => absurd z hm) fun _ => pm)
      have : ¬ t.mask * 3 ≤ (L.length + 1) * 5 := fun z => hf (fullIff.mpr z)
      exact ⟨⟨_, at1, ⟨hex.1, hex.2.1, hex.2.2⟩, rfl⟩, rows1, T1, keys1, tups1, by1, ld1, by rw [len1, em]; omega⟩
end
end Mine

namespace Mine
open PySem PySem.Spec PyProof.Rows L2
def Few (n : Nat) (ws : List (List Int)) : Prop := ∀ us : List (List Int), us.Nodup → (∀ x ∈ us, x ∈ ws) → us.length < n
section
variable {P : Program} {w : World} {A : Around} {E : Value → Shared → Prop} {s : Shared}
abbrev Kept (h h' : Heap) : Prop := ∀ b o, h.get? b = some o → h'.get? b = some o
theorem SetG.moved {h h' : Heap} {a : Addr} {L : List (Addr × List Int)} {es : Array (Int × Value)} {ep : Nat} {t : SetTable} (R : SetG P w h a L es ep t) (ha : ∀ o, h.get? a = some o → h'.get? a = some o) (ht : ∀ p ∈ L, IsT P w h' p.2 p.1) : SetG P w h' a L es ep t :=
  ⟨R.at_.imp fun o q => ⟨ha o q.1, q.2⟩, R.ents, R.tab, R.keys, ht, R.byv, R.ldg, R.free⟩
theorem setG_new {h : Heap} {a : Addr} (ho : h.get? a = some (mineSet0 w)) : SetG P w h a [] #[] 0 (.fresh 0 0 (!w.params.followText "set-order")) where
  at_ := ⟨_, ho, ⟨rfl, rfl, rfl⟩, rfl⟩
  ents := rfl
  tab := ⟨⟨3, rfl, .inl rfl⟩, rfl, List.Pairwise.nil, rfl, nofun, nofun⟩
  keys := List.nodup_nil
  tups := nofun
  byv := rfl
  ldg := by
    cases e : w.params.followText "set-order"
    · exact .inr rfl
    · exact .inl rfl
  free := by show 0 * 5 < 7 * 3; decide
theorem rows_loop {I : Addr} {fp wr : List Addr} {G : Array GenState → Array GenState → Prop} {n : Nat} {Pv : Nat → Value → Prop} {St : Nat → Shared → Prop} {R : Result → Shared → Prop} (W : WalksS P w A.in1 I fp wr G n Pv St) (S : Addr) (off : S ∉ fp)
    (ks : List (Addr × List Int)) (len : n = ks.length) (few : Few 3999 (ks.map (·.2))) (val : ∀ i v, Pv i v → ∃ p, ks[i]? = some p ∧ v = .ref p.1) (h0 : Heap) (tup : ∀ p ∈ ks, IsT P w h0 p.2 p.1) (n1 : h0.get? S = none) (n2 : ∀ b ∈ wr, h0.get? b = none) (hu : A.in1.units < cLine) :
    ∀ (k i : Nat) (s : Shared), k + i = n → St i s → Kept h0 s.heap → (∃ L es ep t, SetG P w s.heap S L es ep t ∧ Got ks i L) →
      (∀ s' L es ep t, Moved (S :: wr) G s s' → SetG P w s'.heap S L es ep t → Got ks n L → Kept h0 s'.heap → R (.ok (.ret .none)) s') → codeAny (model P w) A (.builtin "set.update.loop" ⟨[.ref S, .ref I], []⟩) R s := by
  have off2 : S ∉ wr := fun h => off (W.sub _ h)
  have sub2 : ∀ b ∈ wr, b ∈ S :: wr := fun b hb => List.mem_cons_of_mem S hb
  have kept : ∀ {s s' : Shared}, Moved wr G s s' → Kept h0 s.heap → Kept h0 s'.heap := fun m q b o e => m.heap b o (fun hb => nomatch (n2 b hb).symm.trans e) (q b o e)
  intro k
  induction k with
  | zero =>
    intro i s e hst hkp ⟨L, es, ep, t, hS, g⟩ fin
    obtain rfl : i = n := by omega
    refine codeAny_builtin F.entry_set_update_loop ?_
    rw [Around.under_plainId F.plain_set_update_loop _]
    show wpAny _ A.in1 (pyNext (.ref I) >>= _) _ _ s
    refine wpAny_bind (W.done s _ _ hst fun s' m => wpAny_pure ?_)
    have q := kept m hkp
    exact fin s' L es ep t (m.mono sub2) (hS.moved (fun o z => m.heap S o off2 z) fun p hp => isT_keep (tup p (List.mem_of_mem_take (g.sub p hp))) q) g q
  | succ k ih =>
    intro i s e hst hkp ⟨L, es, ep, t, hS, g⟩ fin
    refine codeAny_builtin F.entry_set_update_loop ?_
    rw [Around.under_plainId F.plain_set_update_loop _]
    show wpAny _ A.in1 (pyNext (.ref I) >>= _) _ _ s
    refine wpAny_bind (W.item i s _ _ (by omega) hst fun v s' hP hst' m => ?_)
    obtain ⟨p, hp, rfl⟩ := val i v hP
    have q := kept m hkp
    have inn : ∀ p ∈ L, p ∈ ks := fun p hp => List.mem_of_mem_take (g.sub p hp)
    have hS' : SetG P w s'.heap S L es ep t := hS.moved (fun o z => m.heap S o off2 z) fun p hp => isT_keep (tup p (inn p hp)) q
    have hx : IsT P w s'.heap p.2 p.1 := isT_keep (tup p (List.mem_of_getElem? hp)) q
    have room : L.length + 1 < 4000 := by
      have := few (L.map (·.2)) hS.keys fun x hx => by
        obtain ⟨r, hr, rfl⟩ := List.mem_map.mp hx
        exact List.mem_map.mpr ⟨r, inn r hr, rfl⟩
      rw [List.length_map] at this; omega
    show wpAny _ A.in1 (holding [Value.ref p.1] (setAdd S (.ref p.1)) >>= _) _ _ s'
    unfold setAdd
    refine wpAny_bind (wpAny_holding (wpAny_holding (wpAny_bind (wpAny_pyHash_tuple hu hx ?_))))
    refine addG (s := { s' with toks := s'.toks + (p.2.length + 1) }) hS' hx hu room fun b h' L' es' ep' t' sb R2 c1 c2 => ?_
    have q2 : Kept h0 h' := fun b o z => (sb.2 b fun y => nomatch (y ▸ n1).symm.trans z).trans (q b o z)
    have g2 : Got ks (i + 1) L' := by
      by_cases c : p.2 ∈ L.map (·.2)
      · rw [c1 c]; exact g.same hp c
      · exact g.more hp (c2 c)
    refine wpAny_pure ⟨plainId_quiet F.plain_set_update_loop _, ih (i + 1) _ (by omega) (W.frame _ s' _ _ hst' (Nat.le_add_right _ _) fun b hb o z => ?_) q2 ⟨L', es', ep', t', R2, g2⟩ fun s2 L2 es2 ep2 t2 m2 R3 g3 q3 => ?_⟩
    · exact (sb.2 b fun y => off (y ▸ hb)).trans z
    · exact fin s2 L2 es2 ep2 t2 (Moved.trans W.gtrans ((m.mono sub2).then_heap (Nat.le_add_right _ _) fun b o hb z => (sb.2 b fun y => hb (y ▸ List.mem_cons_self)).trans z) m2) R3 g3 q3
/-- set(xs), xs a list of tuples of whole numbers, fewer than 3999 distinct ones -/
theorem set_rows {l : Addr} {items : Array Value} (ks : List (Addr × List Int)) {Q : Value → Shared → Prop} (hh : A.handled = none) (hl : s.heap.IsList l items) (hit : items.toList = ks.map fun p => Value.ref p.1) (tup : ∀ p ∈ ks, IsT P w s.heap p.2 p.1) (few : Few 3999 (ks.map (·.2)))
    (hu : A.units + 3 < cLine) (h : ∀ (h' : Heap) (tk : Nat) L es ep t, SetG P w h' s.heap.objs.size L es ep t → Got ks ks.length L → Kept s.heap h' → Q (.ref s.heap.objs.size) { s with heap := h', toks := tk }) : wpAny (model P w) A (call (.type "set") [.ref l]) Q E s := by
  have len : items.size = ks.length := by rw [← Array.length_toList, hit, List.length_map]
  have lt : l < s.heap.objs.size := by obtain ⟨_, e, _⟩ := hl; exact Heap.lt_size e
  have old : ∀ b o, s.heap.get? b = some o → (s.heap.push (mineSet0 w)).get? b = some o := fun b o e => Heap.get?_push_of_some _ e
  have new : (s.heap.push (mineSet0 w)).get? s.heap.objs.size = some (mineSet0 w) := Heap.get?_push_size _ rfl
  have size1 : (s.heap.push (mineSet0 w)).objs.size = s.heap.objs.size + 1 := Heap.size_push ..
  have none_ : ∀ b, s.heap.objs.size ≤ b → s.heap.get? b = none := fun b hb => by
    cases q : s.heap.get? b with
    | none => rfl
    | some o => exact absurd (Nat.lt_of_lt_of_le (Heap.lt_size q) hb) (Nat.lt_irrefl _)
  refine mine_call_set ?_
  obtain ⟨⟨c0, d0, dt0, sl0⟩, ho, hc, n0, hd⟩ := id hl
  dsimp only at hc hd
  subst hc hd
  have ho1 := old _ _ ho
  have isL : (s.heap.push (mineSet0 w)).IsList l items := ⟨_, ho1, rfl, n0, rfl⟩
  have notS := F.sub_list_set
  have notF := F.sub_list_frozenset
  have notD : (Value.type "list" == Value.type "dict") = false := by decide
  unfold Builtin.«set.__init__» noKeywords Builtin.Frozenset.updateFrom
  generalize hPI : pyIter = PI
  wp_walk
  subst hPI
  refine wpAny_pyIter_list isL (wpAny_bind (wpAny_runValue ?_))
  refine rows_loop (A := A.in1.in1) ((Walks.list (A := A.in1.in1.in1) (by simpa using hh) (s.heap.push (mineSet0 w)).objs.size l (by rw [size1]; exact Nat.ne_of_lt (Nat.lt_succ_of_lt lt)) items).toS) s.heap.objs.size
    (by rw [size1]; simp only [List.mem_cons, List.not_mem_nil, or_false, not_or]; exact ⟨Nat.ne_of_lt (Nat.lt_succ_self _), Nat.ne_of_gt lt⟩) ks len few (fun i v hv => ?_) s.heap tup (none_ _ (Nat.le_refl _)) (fun b hb => ?_) hu items.size 0 _ (by omega) ?_ (fun b o e => Heap.get?_push_of_some _ (old b o e)) ⟨[], #[], 0, .fresh 0 0 (!w.params.followText "set-order"), ?_, Got.zero ks⟩ fun s' L es ep t hm hS' g hkp => ?_
  · have q : items.toList[i]? = some v := by rw [Array.getElem?_toList]; exact hv
    rw [hit, List.getElem?_map] at q
    obtain ⟨p, hp, e⟩ := Option.map_eq_some_iff.mp q
    exact ⟨p, hp, e.symm⟩
  · rw [List.mem_singleton.mp hb, size1]; exact none_ _ (Nat.le_succ _)
  · exact ⟨⟨_, Heap.get?_push_size _ rfl, rfl, rfl⟩, isL.push _⟩
  · exact setG_new (Heap.get?_push_of_some _ new)
  · obtain ⟨h', g2, d', tk', os'⟩ := s'
    obtain rfl : g2 = s.gens := hm.gens
    obtain rfl : d' = s.drawn := hm.drawn
    obtain rfl : os' = s.os := hm.os
    rw [len] at g
    exact wpAny_pure (wpAny_pure ⟨rfl, h h' tk' L es ep t hS' g hkp⟩)
end
end Mine

namespace Mine
open PySem PySem.Spec PyProof.Rows L2
/-! ### sorting rows, any number of them -/
section
variable {P : Program} {w : World} {A : Around} {E : Value → Shared → Prop} {s : Shared}
end
end Mine

namespace Mine
open PySem PySem.Spec PyProof.Rows L2
/-! ### set(xs), sorted(set(xs)), sorted(xs) of tuples of whole numbers, any number of them -/
/-- the set, without the tuples themselves -/
def SetG0 (P : Program) (w : World) (h : Heap) (a : Addr) (L : List (Addr × List Int)) : Prop := ∃ (es : Array (Int × Value)) (ep : Nat) (t : SetTable), (∃ o, h.get? a = some o ∧ o.ExactSet ∧ o.data = .set es ep t) ∧
  (es.toList = rowsOf P w L ∧ TabG t (L.map fun p => thash P w p.2) ∧ (L.map (·.2)).Nodup ∧ t.plain = true ∧ (w.params.followText "set-order" = true ∨ t.led = true) ∧ L.length * 5 < t.mask * 3)
def SetGO (P : Program) (w : World) (a : Addr) (L : List (Addr × List Int)) : HO := .ext fun h => SetG0 P w h a L
theorem SetG.g0 {P : Program} {w : World} {h : Heap} {a : Addr} {L : List (Addr × List Int)} {es : Array (Int × Value)} {ep : Nat} {t : SetTable} (R : SetG P w h a L es ep t) : SetG0 P w h a L :=
  ⟨es, ep, t, R.at_, R.ents, R.tab, R.keys, R.byv, R.ldg, R.free⟩
theorem SetG0.all {P : Program} {w : World} {h : Heap} {a : Addr} {L : List (Addr × List Int)} (R : SetG0 P w h a L) (tup : ∀ p ∈ L, IsT P w h p.2 p.1) : ∃ es ep t, SetG P w h a L es ep t := by
  obtain ⟨es, ep, t, q0, q1, q2, q3, q4, q5, q6⟩ := R
  exact ⟨es, ep, t, q0, q1, q2, q3, tup, q4, q5, q6⟩
theorem setGO_new {P : Program} {w : World} {H : Hp} {h : Heap} {a : Addr} {L : List (Addr × List Int)} (R : SetG0 P w h a L) : ObjOk P w H h a (SetGO P w a L) := by
  obtain ⟨es, ep, t, ⟨o, ho, r⟩, q⟩ := id R
  refine ⟨R, ⟨o, ho⟩, fun h1 h2 z k => ?_⟩
  obtain ⟨es', ep', t', ⟨o', ho', r'⟩, q'⟩ := (show SetG0 P w _ a L from z)
  exact (show SetG0 P w _ a L from ⟨es', ep', t', ⟨o', k o' ho', r'⟩, q'⟩)
section
variable {X : Cx}
def rSetOfG (K : PySem.W.Frag) (P : Program) (w : World) : List V → Hp → VK → Prop := fun xs H Q => ∃ (l : Addr) (ks : List (Addr × List Int)), xs = [V.ref l] ∧ SqL K H l (ks.map fun p => V.ref p.1) ∧ (∀ p ∈ ks, SqT K H p.1 (p.2.map V.int)) ∧ Few 3999 (ks.map (·.2)) ∧
  ∀ a L, H a = none → (L.map (·.2)).Nodup → (∀ p ∈ L, p ∈ ks) → (∀ p ∈ ks, p.2 ∈ L.map (·.2)) → Q (.ref a) (upd H a (SetGO P w a L))
theorem cr_setOfG (hc : X.calm = true) (hu : X.A.units + 64 < cLine) : CallR X (.type "set") (rSetOfG X.K X.prog X.w) := by
  intro pins s σ H xs us Q I r h
  obtain ⟨l, ks, rfl, hl, hk, few, q⟩ := h
  rw [Vals.ref1 r]
  obtain ⟨its, rv, pl, hz⟩ := I.list hl
  refine set_rows (P := X.prog) (w := X.w) ks (I.ok.hd hc) pl.isList (by simpa using refs_of_vals rv) (fun p hp => I.isT (hk p hp)) few (by omega) fun h' tk L es ep t R g k => ?_
  exact ⟨.ref s.heap.objs.size, _, I.laid (t' := tk) k (Nat.le_refl _) (setGO_new R.g0), rfl, q _ L (I.hok.fresh (Nat.le_refl _)) R.keys (fun p hp => List.mem_of_mem_take (g.sub p hp)) fun p hp => g.all p (by rw [List.take_length]; exact hp)⟩
end
/-! over data -/
abbrev rowsD (ws : List (List Int)) : Dt := .lst (ws.map fun w => Dt.tup (w.map .int))
/-- rows of one kind: none is empty, or all are -/
def Plain (ws : List (List Int)) : Prop := (∀ x ∈ ws, x ≠ []) ∨ ∀ x ∈ ws, x = []
def eSortedSetG (a : DX) : DX := fun env Q E => a env (fun d => ∃ ws : List (List Int), d = rowsD ws ∧ Few 3999 ws ∧ Plain ws ∧ ∀ us : List (List Int), us.Pairwise (· < ·) → (∀ x, x ∈ us ↔ x ∈ ws) → Q (rowsD us)) E
theorem eSortedSetG_W (a : DX) {env} {Q} {E} : eSortedSetG a env Q E = a env (fun d => ∃ ws : List (List Int), d = rowsD ws ∧ Few 3999 ws ∧ Plain ws ∧ ∀ us : List (List Int), us.Pairwise (· < ·) → (∀ x, x ∈ us ↔ x ∈ ws) → Q (rowsD us)) E := rfl
end Mine

namespace Mine
open PySem PySem.Spec PyProof.Rows L2 PpSet
/-! ### a set comprehension whose items are tuples of whole numbers -/
section
variable {P : Program} {w : World} {A : Around} {E : Value → Shared → Prop} {s : Shared} {a : Addr} {L : List (Addr × List Int)} {es : Array (Int × Value)} {ep : Nat} {t : SetTable}
end
section
variable {X : Cx}
end

/-! ### sorted({e for x in xs if ..}), e tuples of whole numbers -/
def scGoG (f : DGX) (tt : DTX) (te : DX) (env : List Sl) (Q : List (List Int) → Prop) : List Dt → List (List Int) → Prop
  | [], acc => Q acc
  | x :: xs, acc => f x env fun env' => tt env' (fun b => if b = true then te env' (fun y => ∃ w : List Int, y = .tup (w.map .int) ∧ Few 3999 acc ∧ scGoG f tt te env Q xs (acc ++ [w])) (fun _ => False) else scGoG f tt te env Q xs acc) (fun _ => False)
def scEndG (Q : Dt → Prop) (ws : List (List Int)) : Prop := Few 4000 ws ∧ Plain ws ∧ ∀ us : List (List Int), us.Pairwise (· < ·) → (∀ x, x ∈ us ↔ x ∈ ws) → Q (rowsD us)
def eSortScG (src : DAX) (f : DGX) (tt : DTX) (te : DX) (vs : List Nat) : DX := fun env Q E => src env (fun ds => scGoG f tt te (wipeS env vs) (scEndG Q) ds []) E
theorem eSortScG_W (src : DAX) (f : DGX) (tt : DTX) (te : DX) (vs : List Nat) {env} {Q} {E} : eSortScG src f tt te vs env Q E = src env (fun ds => scGoG f tt te (wipeS env vs) (scEndG Q) ds []) E := rfl
end Mine

namespace Mine
open PySem PySem.Spec PyProof.Rows L2
/-! ### the least of rows; the least and the greatest of whole numbers, or a default -/
section
variable {X : Cx}
end
/-! over data -/
end Mine

namespace Mine
open PySem PySem.Spec PyProof.Rows L2
/-! ### a method without arguments that may raise, within a try -/
section
variable {X : Cx} {CX : CXT} {k : Nat} {f C g : Addr} {fd : FuncData} {ps : List Str} {sp : Sp} {dvs : List V} {ds : List Value} {E : L2.St → XK} {x m : Str} {p pos apos p0 : Pos} {e o : Expr} {es : List Expr} {ta : TE} {t : TA} {pl : Sem Bool}
end
end Mine

namespace Mine
open PySem PySem.Spec PyProof.Rows L2
/-! ### min(ints, default=d), max(ints, default=d) -/
section
variable {X : Cx} {id : String} {x : Str} {ks : List Str} {p pos : Pos} {e : Expr} {es : List Expr} {kws : List Keyword} {t tk : TA} {r : List V → List V → Hp → VK → Prop}
end
/-! over data -/
def eMinDf (a d : DX) : DX := fun env Q E => a env (fun x => d env (fun z => ∃ ns : List Int, (x = .lst (ns.map .int) ∨ x = .tup (ns.map .int)) ∧ (ns = [] → Q z) ∧ ∀ m ∈ ns, (∀ y ∈ ns, m ≤ y) → Q (.int m)) E) E
def eMaxDf (a d : DX) : DX := fun env Q E => a env (fun x => d env (fun z => ∃ ns : List Int, (x = .lst (ns.map .int) ∨ x = .tup (ns.map .int)) ∧ (ns = [] → Q z) ∧ ∀ m ∈ ns, (∀ y ∈ ns, y ≤ m) → Q (.int m)) E) E
theorem eMinDf_W (a d : DX) {env} {Q} {E} : eMinDf a d env Q E = a env (fun x => d env (fun z => ∃ ns : List Int, (x = .lst (ns.map .int) ∨ x = .tup (ns.map .int)) ∧ (ns = [] → Q z) ∧ ∀ m ∈ ns, (∀ y ∈ ns, m ≤ y) → Q (.int m)) E) E := rfl
theorem eMaxDf_W (a d : DX) {env} {Q} {E} : eMaxDf a d env Q E = a env (fun x => d env (fun z => ∃ ns : List Int, (x = .lst (ns.map .int) ∨ x = .tup (ns.map .int)) ∧ (ns = [] → Q z) ∧ ∀ m ∈ ns, (∀ y ∈ ns, y ≤ m) → Q (.int m)) E) E := rfl
section
variable {C : Bc} {ta td : TE} {a d : DX}
end
end Mine

namespace Mine
open PySem PySem.Spec PyProof.Rows L2
/-! ### x.bit_length() -/
def eBits (a : DX) : DX := fun env Q E => a env (fun d => match d with
  | .int i => Q (.int (Builtin.Int.intBits i : Nat))
  | _ => False) E
theorem eBits_W (a : DX) {env} {Q} {E} : eBits a env Q E = a env (fun d => match d with
  | .int i => Q (.int (Builtin.Int.intBits i : Nat))
  | _ => False) E := rfl
end Mine

namespace Mine
open PySem PySem.Spec PyProof.Rows L2
/-! ### len(set(xs)) of tuples of whole numbers -/
section
variable {X : Cx}
def rLenSG (P : Program) (w : World) : List V → Hp → VK → Prop := fun vs H Q => ∃ (a : Addr) (L : List (Addr × List Int)), vs = [V.ref a] ∧ H a = some (SetGO P w a L) ∧ L.length < 4000 ∧ Q (.int L.length) H
theorem cr_lenSG : CallR X (.builtin "len") (rLenSG X.prog X.w) := by
  intro pins s σ H vs us Q I r h
  obtain ⟨a, L, rfl, ha, few, q⟩ := h
  rw [Vals.ref1 r]
  obtain ⟨es, ep, t, ⟨o, ho, hex, hd⟩, ents, tab, _, _, _, free⟩ := (show SetG0 X.prog X.w s.heap a L from (I.hok a _ ha).1)
  have el := ents_len ents
  exact call_len_set ho hex hd (fits_of tab (by rw [el, List.length_map]) (by omega)) (by rw [el]; omega) ⟨.int L.length, H, I.tok _, ⟨_, by rw [el]⟩, q⟩
end
def eLenSetG (a : DX) : DX := fun env Q E => a env (fun d => ∃ ws : List (List Int), d = rowsD ws ∧ Few 3999 ws ∧ ∀ us : List (List Int), us.Nodup → (∀ x, x ∈ us ↔ x ∈ ws) → Q (.int us.length)) E
theorem eLenSetG_W (a : DX) {env} {Q} {E} : eLenSetG a env Q E = a env (fun d => ∃ ws : List (List Int), d = rowsD ws ∧ Few 3999 ws ∧ ∀ us : List (List Int), us.Nodup → (∀ x, x ∈ us ↔ x ∈ ws) → Q (.int us.length)) E := rfl
theorem de_lenSetG {C : Bc} {P : Program} {w : World} {t : TE} {e : DX} (h : DB C t e) : DE C (tCB (rLenSG P w) (tCons (tCB (rSetOfG C.K P w) (tCons t tNil)) tNil)) (eLenSetG e) := by
  intro X env σ H Q Qd Qx rp he q x
  refine h X env σ H _ _ Qx rp he (fun d v H1 f1 r1 he1 => ?_) x
  obtain ⟨ws, rfl, few, he1⟩ := he1
  obtain ⟨l, L, rfl, h1, e, hL⟩ := r1.rows
  show rSetOfG C.K P w [V.ref l] H1 (fun x H1 => rLenSG P w [x] H1 Q)
  refine ⟨l, L, rfl, .inl (.inl h1), fun k hk => .inl (.inl (vis_sub _ _ (hL k hk))), by rw [e]; exact few, fun a L2 ha nd sub all => ?_⟩
  have key : ∀ k ∈ L2, k.2 ∈ ws := fun k hk => e ▸ List.mem_map.mpr ⟨k, sub k hk, rfl⟩
  have few2 : L2.length < 3999 := by
    have := few (L2.map (·.2)) nd fun x hx => by obtain ⟨k, hk, rfl⟩ := List.mem_map.mp hx; exact key k hk
    rwa [List.length_map] at this
  refine ⟨a, L2, rfl, upd_same, by omega, ?_⟩
  have f2 : Frm C.hd H1 (upd H1 a (SetGO P w a L2)) := .upd ha
  have q1 := he1 (L2.map (·.2)) nd fun x => ⟨fun hx => by
      obtain ⟨k, hk, rfl⟩ := List.mem_map.mp hx
      exact key k hk, fun hx => by
      rw [← e] at hx
      obtain ⟨k, hk, rfl⟩ := List.mem_map.mp hx
      exact all k hk⟩
  rw [List.length_map] at q1
  exact q _ _ _ (f1.trans f2) (.int _) q1
/-! wide numbers to the left -/
abbrev dShlW : D2 := dI CShl fun i j => .int (i * 2 ^ j.toNat)
theorem dShlW_int {i j : Int} {Q : Dt → Prop} : dShlW (.int i) (.int j) Q = (CShl i j ∧ Q (.int (i * 2 ^ j.toNat))) := rfl
end Mine

namespace Mine
open PySem PySem.Spec PyProof.Rows L2
/-! ### a, b, c = a tuple or a list of that length -/
def gD3L (i j k : Nat) : DGX := fun d env Q => match d with
  | .tup [a, b, c] => Q (((env.set i (.d a)).set j (.d b)).set k (.d c))
  | .lst [a, b, c] => Q (((env.set i (.d a)).set j (.d b)).set k (.d c))
  | _ => False
theorem gD3L_W (i j k : Nat) {d} {env} {Q} : gD3L i j k d env Q = (match d with
  | .tup [a, b, c] => Q (((env.set i (.d a)).set j (.d b)).set k (.d c))
  | .lst [a, b, c] => Q (((env.set i (.d a)).set j (.d b)).set k (.d c))
  | _ => False) := rfl
end Mine

namespace Mine
open PySem PySem.Spec PyProof.Rows L2
/-! ### x is True, x is False, of truth values -/
def dIsB : D2 := fun a b Q => match a, b with
  | .bl i, .bl j => Q (.bl (decide (i = j)))
  | _, _ => False
def dNotB : D2 := fun a b Q => match a, b with
  | .bl i, .bl j => Q (.bl (!decide (i = j)))
  | _, _ => False
theorem dIsB_bl {i j : Bool} {Q : Dt → Prop} : dIsB (.bl i) (.bl j) Q = Q (.bl (decide (i = j))) := rfl
theorem dNotB_bl {i j : Bool} {Q : Dt → Prop} : dNotB (.bl i) (.bl j) Q = Q (.bl (!decide (i = j))) := rfl
section
variable {C : Bc}
end
end Mine

namespace Mine
open PySem PySem.Spec PyProof.Rows L2
/-! ### f'{x:b}' of a whole number that is not below nought -/
def binS (n : Nat) : Str := ⟨((Nat.toDigits 2 n).map Char.toNat).toArray⟩
section
variable {prog : Program} {w : World} {A : Around} {E : Value → Shared → Prop} {s : Shared}
end
/-! over data -/
def eFmtB (a : DX) : DX := fun env Q E => a env (fun d => match d with
  | .int i => ∃ n : Nat, i = n ∧ (binS n).length ≤ sizeLine ∧ Q (.str (binS n))
  | _ => False) E
theorem eFmtB_W (a : DX) {env} {Q} {E} : eFmtB a env Q E = a env (fun d => match d with
  | .int i => ∃ n : Nat, i = n ∧ (binS n).length ≤ sizeLine ∧ Q (.str (binS n))
  | _ => False) E := rfl
/-! x.count(y) of a text, y one sign -/
end Mine

namespace Mine
open PySem PySem.Spec PyProof.Rows L2 PpSet
/-! ### a set comprehension of two clauses whose items are tuples of whole numbers -/
section
variable {prog : Program} {w : World} {A : Around} {R : Result → Shared → Prop} {s : Shared} {el a0 b0 a1 b1 : Expr} {f0 f1 : List Expr} {sp : Scope} {po : Pos} {i acc : Value} {ev : Env}
abbrev tests (fs : List Expr) (ev : Env) : Sem Bool := forIn fs true fun c r => if r = true then do let ok ← isTrue c ev (eval c ev); pure (ForInStep.yield ok) else pure (ForInStep.yield r)
end
section
variable {X : Cx}
end
/-! ### sorted({e for x in xs for y in ys}) over data -/
def scGo2G (f : DGX) (tt : DTX) (src1 : DAX) (f1 : DGX) (tt1 : DTX) (te : DX) (vs1 : List Nat) (env : List Sl) (Q : List (List Int) → Prop) : List Dt → List (List Int) → Prop
  | [], acc => Q acc
  | x :: xs, acc => f x env fun env' => tt env' (fun b => if b = true then src1 env' (fun ds1 => scGoG f1 tt1 te (wipeS env' vs1) (fun acc' => scGo2G f tt src1 f1 tt1 te vs1 env Q xs acc') ds1 acc) (fun _ => False) else scGo2G f tt src1 f1 tt1 te vs1 env Q xs acc) fun _ => False
def eSortScG2 (src : DAX) (f : DGX) (tt : DTX) (src1 : DAX) (f1 : DGX) (tt1 : DTX) (te : DX) (vs1 vs : List Nat) : DX := fun env Q E => src env (fun ds => scGo2G f tt src1 f1 tt1 te vs1 (wipeS env vs) (scEndG Q) ds []) E
theorem eSortScG2_W (src : DAX) (f : DGX) (tt : DTX) (src1 : DAX) (f1 : DGX) (tt1 : DTX) (te : DX) (vs1 vs : List Nat) {env} {Q} {E} : eSortScG2 src f tt src1 f1 tt1 te vs1 vs env Q E = src env (fun ds => scGo2G f tt src1 f1 tt1 te vs1 (wipeS env vs) (scEndG Q) ds []) E := rfl
end Mine

namespace Mine
open PySem PySem.Spec PyProof.Rows L2
/-! ### sorted(xs) of at most one tuple, that may be the empty one -/
section
variable {X : Cx}
end
end Mine

/-! ### zip(*rows), any number of tuples -/
namespace ZT
open PySem ZN
section
variable {prog : Program} {w : World} {A : Around} {E : Value → Shared → Prop} {s : Shared}
end
end ZT
namespace ZT
open PySem ZN
section
variable {prog : Program} {w : World} {A : Around} {E : Value → Shared → Prop} {s : Shared}
end
section
variable {prog : Program} {w : World} {A : Around} {E : Value → Shared → Prop} {s : Shared}
end
end ZT
namespace Mine
open PySem PySem.Spec PyProof.Rows L2 ZN
end Mine
namespace Mine
open PySem PySem.Spec PyProof.Rows L2 ZN
/-- zip(*rows) of a list of tuples of one length -/
def eZipT (a : DX) : DAX := fun env Q E => a env (fun d => ∃ (n : Nat) (xs : List (List Dt)), d = .lst (xs.map .tup) ∧ xs ≠ [] ∧ xs.length ≤ 100 ∧ (∀ l ∈ xs, l.length = n) ∧ Q ((List.range n).map fun i => .tup (xs.map fun l => l.getD i .non))) E
theorem eZipT_W (a : DX) {env} {Q} {E} : eZipT a env Q E = a env (fun d => ∃ (n : Nat) (xs : List (List Dt)), d = .lst (xs.map .tup) ∧ xs ≠ [] ∧ xs.length ≤ 100 ∧ (∀ l ∈ xs, l.length = n) ∧ Q ((List.range n).map fun i => .tup (xs.map fun l => l.getD i .non))) E := rfl
end Mine
namespace Mine
open PySem PySem.Spec PyProof.Rows L2
/-! ### the least of a tuple of whole numbers -/
end Mine

namespace Mine
open PySem PySem.Spec PyProof.Rows L2 GenW
/-! ### list(g(..)) of a generator def that lets an exception of one class out -/
section
variable {C : Bc} {F : DFn} {dvs : List V} {dd : List Sl} {t : TA} {a : DSX}
end
end Mine

namespace Mine
open PySem PySem.Spec PyProof.Rows L2 GenW
/-! ### a, b = .., new list: the second one own -/
section
variable {C : Bc} {te tk : TE} {e ek : DX}
end
/-! ### x in range(n), x not in range(n): whole numbers -/
def eInRg (neg : Bool) (a b : DX) : DX := fun env Q E => a env (fun x => b env (fun y => match x, y with
  | .int i, .int n => Q (.bl (neg != decide (0 ≤ i ∧ i < n)))
  | _, _ => False) E) E
theorem eInRg_W {neg : Bool} {a b : DX} {env : List Sl} {Q : Dt → Prop} {E : Xc → Prop} : eInRg neg a b env Q E = a env (fun x => b env (fun y => match x, y with
  | .int i, .int n => Q (.bl (neg != decide (0 ≤ i ∧ i < n)))
  | _, _ => False) E) E := rfl
section
variable {C : Bc} {ta tb : TE} {a b : DX} {neg : Bool}
end
end Mine

namespace Mine
open PySem PySem.Spec PyProof.Rows L2
/-! ### rows = [a new list for ..]: a list of one's own of lists of one's own -/
def sTab (i : Nat) (lc : DX) : DSt := fun d env => lc env (fun r => match r with
  | .lst rs => ∃ rows : List (List Dt), rs = rows.map .lst ∧ ∀ p qs, d.nx (env.set i (.tab p qs rows))
  | _ => False) (d.xc env)
/-- rows[k1][k2] -/
def eTab (i : Nat) (e1 e2 : DX) : DX := fun env Q E => match env[i]? with
  | some (.tab _ _ rows) => e1 env (fun a => match a with
    | .int m => ∃ (m' : Nat) (ds : List Dt), ixN rows.length m = some m' ∧ rows[m']? = some ds ∧ e2 env (fun b => match b with
      | .int j => ∃ x, atI ds j = some x ∧ Q x
      | _ => False) E
    | _ => False) E
  | _ => False
/-- rows[k1][k2] = e -/
def sTabPut (i : Nat) (ev e1 e2 : DX) : DSt := fun d env => match env[i]? with
  | some (.tab p qs rows) => ev env (fun v => e1 env (fun a => match a with
    | .int m => ∃ (m' : Nat) (ds : List Dt), ixN rows.length m = some m' ∧ rows[m']? = some ds ∧ e2 env (fun b => match b with
      | .int j => ∃ j' : Nat, ixN ds.length j = some j' ∧ d.nx (env.set i (.tab p qs (rows.set m' (ds.set j' v))))
      | _ => False) (d.xc env)
    | _ => False) (d.xc env)) (d.xc env)
  | _ => False
/-- rows[k].append(e) -/
def sTabApp (i : Nat) (e1 ev : DX) : DSt := fun d env => match env[i]? with
  | some (.tab p qs rows) => e1 env (fun a => match a with
    | .int m => ∃ (m' : Nat) (ds : List Dt), ixN rows.length m = some m' ∧ rows[m']? = some ds ∧ ds.length < LINE ∧ ev env (fun v => d.nx (env.set i (.tab p qs (rows.set m' (ds ++ [v]))))) (d.xc env)
    | _ => False) (d.xc env)
  | _ => False
/-- from here on the rows are data -/
def frzT (env : List Sl) (i : Nat) : List Sl := match env[i]? with
  | some (.tab _ _ rows) => env.set i (.d (.lst (rows.map .lst)))
  | _ => env
def sFrzT (i : Nat) (s : DSt) : DSt := fun d env => s d (frzT env i)
theorem sTab_W {i : Nat} {lc : DX} {d : DEn} {env : List Sl} : sTab i lc d env = lc env (fun r => match r with
  | .lst rs => ∃ rows : List (List Dt), rs = rows.map .lst ∧ ∀ p qs, d.nx (env.set i (.tab p qs rows))
  | _ => False) (d.xc env) := rfl
theorem eTab_W {i : Nat} {e1 e2 : DX} {env : List Sl} {Q : Dt → Prop} {E : Xc → Prop} : eTab i e1 e2 env Q E = (match env[i]? with
  | some (.tab _ _ rows) => e1 env (fun a => match a with
    | .int m => ∃ (m' : Nat) (ds : List Dt), ixN rows.length m = some m' ∧ rows[m']? = some ds ∧ e2 env (fun b => match b with
      | .int j => ∃ x, atI ds j = some x ∧ Q x
      | _ => False) E
    | _ => False) E
  | _ => False) := rfl
theorem sTabPut_W {i : Nat} {ev e1 e2 : DX} {d : DEn} {env : List Sl} : sTabPut i ev e1 e2 d env = (match env[i]? with
  | some (.tab p qs rows) => ev env (fun v => e1 env (fun a => match a with
    | .int m => ∃ (m' : Nat) (ds : List Dt), ixN rows.length m = some m' ∧ rows[m']? = some ds ∧ e2 env (fun b => match b with
      | .int j => ∃ j' : Nat, ixN ds.length j = some j' ∧ d.nx (env.set i (.tab p qs (rows.set m' (ds.set j' v))))
      | _ => False) (d.xc env)
    | _ => False) (d.xc env)) (d.xc env)
  | _ => False) := rfl
theorem sTabApp_W {i : Nat} {e1 ev : DX} {d : DEn} {env : List Sl} : sTabApp i e1 ev d env = (match env[i]? with
  | some (.tab p qs rows) => e1 env (fun a => match a with
    | .int m => ∃ (m' : Nat) (ds : List Dt), ixN rows.length m = some m' ∧ rows[m']? = some ds ∧ ds.length < LINE ∧ ev env (fun v => d.nx (env.set i (.tab p qs (rows.set m' (ds ++ [v]))))) (d.xc env)
    | _ => False) (d.xc env)
  | _ => False) := rfl
theorem sFrzT_W {i : Nat} {s : DSt} {d : DEn} {env : List Sl} : sFrzT i s d env = s d (match env[i]? with
  | some (.tab _ _ rows) => env.set i (.d (.lst (rows.map .lst)))
  | _ => env) := rfl
section
variable {C : Bc} {X : Addr → Prop} {env : List Sl} {σ : L2.St} {H H1 : Hp}
theorem Rep.tabAt (r : Rep C X env σ H) {i : Nat} {p : Addr} {qs : List Addr} {rows : List (List Dt)} (e : env[i]? = some (.tab p qs rows)) : σ[i]? = some (some (.ref p)) ∧ (∀ a ∈ p :: qs, X a ∧ ¬ C.X0 a) ∧ (p :: qs).Nodup ∧ H p = some (.lst (qs.map V.ref)) ∧ RowsAt C.K (Mine.vis H X) H qs rows := by
  obtain ⟨o, es, rfl, h1, h2, h3, h4⟩ := r.slot i _ e
  exact ⟨es, h1, h2, h3, h4⟩
/-- the rows are no longer one's own -/
theorem Rep.frzT (r : Rep C X env σ H) (i : Nat) : ∃ X', Rep C X' (Mine.frzT env i) σ H ∧ Same (Mine.vis H X) (Mine.vis H X') := by
  unfold Mine.frzT
  split
  · rename_i p qs rows e
    obtain ⟨es, own, nd, hp, hl, hr⟩ := r.tabAt e
    have hlt : i < env.length := (List.getElem?_eq_some_iff.mp e).1
    have sm : Same (Mine.vis H X) (Mine.vis H fun a => X a ∧ a ∉ p :: qs) := vis_anti fun a z => z.1
    refine ⟨fun a => X a ∧ a ∉ p :: qs, ⟨by rw [List.length_set, r.len], fun a z => ⟨r.sup a z, fun m => (own a m).2 z⟩, fun a z => r.new a z.1, fun a z => r.al a z.1, r.frm, r.hands, fun j s z => ?_, r.ap.setS fun _ _ _ f => f.elim, r.one.set fun _ _ _ z => by cases z⟩, sm⟩
    rw [List.getElem?_set] at z
    by_cases c : i = j
    · subst c
      rw [if_pos rfl, if_pos hlt] at z
      cases z
      refine ⟨_, es, _, rfl, .lst (vis_mk (fun z => z.2 List.mem_cons_self) hp) (rows_den hl fun k q ds e1 e2 => ?_)⟩
      obtain ⟨us, g1, g2⟩ := hr k q ds e1 e2
      exact ⟨us, vis_mk (fun z => z.2 (List.mem_cons_of_mem _ (List.mem_of_getElem? e1))) g1, g2.mono sm⟩
    · rw [if_neg c] at z
      obtain ⟨o, e1, w⟩ := r.slot j s z
      refine ⟨o, e1, ?_⟩
      have no : ∀ a ∈ p :: qs, ¬ Foot s o a := fun a ha => r.ap i j _ _ _ _ a c e z es e1 ha
      cases s with
      | no => trivial
      | d x => obtain ⟨v, e2, h⟩ := w; exact ⟨v, e2, h.mono sm⟩
      | own ys =>
        obtain ⟨p', us, rfl, y1, y2, y3, y4⟩ := w
        exact ⟨p', us, rfl, ⟨y1, fun m => no p' m rfl⟩, y2, y3, y4.mono sm⟩
      | hand => exact w
      | exc c' fs => exact w.exc sm
      | ins C0 ns ds =>
        obtain ⟨p', dx, us, rfl, y1, y2, y3, yl, y4⟩ := w
        have ne : p' ∉ p :: qs := fun m => by
          obtain ⟨us2, g⟩ := (show SlRep C X H (.tab p qs rows) _ from (r.slot i _ e).choose_spec.2).tab_lst p' m
          rw [g] at y3; cases y3
        exact ⟨p', dx, us, rfl, ⟨y1, ne⟩, y2, y3, yl, y4.mono sm⟩
      | tab p2 qs2 rows2 => exact w.tab_to (fun a ha x => ⟨x, fun m => no a m ha⟩) (fun _ _ _ h => h) sm
  · exact ⟨X, r, Same.refl _⟩
end
section
variable {C : Bc} {wi : TI} {g : TG} {tt : TT} {te tv t1 t2 : TE} {vs : List Nat} {src : DAX} {f : DGX} {et : DTX} {ee ev e1 e2 : DX} {u : TS} {s : DSt} {i : Nat}
end
end Mine

namespace Mine
open PySem PySem.Spec PyProof.Rows L2
/-! ### a < b of data of any depth, alike -/
end Mine

namespace Mine
open PySem PySem.Spec PyProof.Rows L2
/-! ### the pure part: rules -/
theorem iteQ {c : Prop} [Decidable c] {a b : Prop} (h : c → a) (k : ¬ c → b) : if c then a else b := by
  split
  · exact h (by assumption)
  · exact k (by assumption)
/-- a loop by an invariant over the number of turns; K: what is wanted behind the turn, B: behind a break -/
theorem dFor_inv {f : DGX} {b : DSt} {nx bk ct : List Sl → Prop} {rt : Dt → Prop} {xc : List Sl → Xc → Prop} (I : Nat → List Sl → Prop) : ∀ {xs : List Dt} {env : List Sl}, I 0 env →
    (∀ (i : Nat) (x : Dt) (e : List Sl) (K : List Sl → Prop) (B : { B : List Sl → Prop // ∀ e', nx e' → B e' }), xs[i]? = some x → I i e → (∀ e', I (i + 1) e' → K e') → f x e fun e' => b ⟨K, rt, B.1, K, xc⟩ e') → (∀ e, I xs.length e → nx e) → dFor f b ⟨nx, rt, bk, ct, xc⟩ xs env := by
  intro xs
  induction xs generalizing I with
  | nil => intro env h0 _ fin; exact fin _ h0
  | cons x xs ih =>
    intro env h0 step fin
    refine step 0 x env _ ⟨nx, fun _ h => h⟩ rfl h0 fun e' h1 => ?_
    exact ih (fun i => I (i + 1)) h1 (fun i y e K B e1 => step (i + 1) y e K B (by simpa using e1)) fin
/-- a comprehension: which items stay, what becomes of them -/
theorem lc_ok {α : Type} {f : DGX} {tt : DTX} {te : DX} {env : List Sl} {Q : Dt → Prop} (e : α → Dt) (p : α → Bool) (g : α → Dt) : ∀ {xs : List α} {acc : List Dt},
    (∀ x ∈ xs, ∀ (K1 : Dt → Prop) (K0 : Prop), (p x = true → K1 (g x)) → (p x = false → K0) → f (e x) env fun env' => tt env' (fun b => if b = true then te env' K1 (fun _ => False) else K0) fun _ => False) →
    acc.length + xs.length ≤ 16777216 → Q (.lst (acc ++ (xs.filter p).map g)) → lcGo f tt te env Q (xs.map e) acc := by
  intro xs
  induction xs with
  | nil => intro acc _ _ q; show Q (.lst acc); simpa using q
  | cons x xs ih =>
    intro acc step hl q
    refine step x List.mem_cons_self _ _ (fun hp => ?_) fun hp => ?_
    · rw [List.length_cons] at hl
      refine ⟨by show acc.length < 16777216; omega, ih (fun y hy => step y (List.mem_cons_of_mem _ hy)) (by rw [List.length_append]; show acc.length + 1 + _ ≤ _; omega) ?_⟩
      rw [List.filter_cons, if_pos hp, List.map_cons] at q
      simpa using q
    · rw [List.length_cons] at hl
      refine ih (fun y hy => step y (List.mem_cons_of_mem _ hy)) (by omega) ?_
      rw [List.filter_cons, if_neg (by rw [hp]; decide)] at q
      exact q
/-- without a test -/
theorem lc_map {α : Type} {f : DGX} {te : DX} {env : List Sl} {Q : Dt → Prop} (e : α → Dt) (g : α → Dt) {xs : List α}
    (step : ∀ x ∈ xs, ∀ K1 : Dt → Prop, K1 (g x) → f (e x) env fun env' => te env' K1 (fun _ => False)) (hl : xs.length ≤ 16777216) (q : Q (.lst (xs.map g))) : lcGo f eYes te env Q (xs.map e) [] := by
  refine lc_ok e (fun _ => true) g (fun x hx K1 K0 h1 _ => ?_) (by simpa using hl) (by rw [List.filter_eq_self.mpr fun _ _ => rfl]; exact q)
  exact step x hx K1 (h1 rfl)
/-! ### data of a type -/
abbrev iT (w : List Int) : Dt := .tup (w.map .int)
abbrev iL (w : List Int) : Dt := .lst (w.map .int)
def Dt.shN (n : Nat) (a : Dt) : Prop := ∃ p, a.py = some p ∧ p.canLay0 = true ∧ p.depth ≤ n
theorem Dt.shN.sh {n : Nat} {a : Dt} (h : a.shN n) (hn : n ≤ 64 := by decide) : a.sh := by
  obtain ⟨p, e, c, d⟩ := h
  exact ⟨p, e, by unfold SeqAt.shaped; rw [c, decide_eq_true (by omega)]; rfl⟩
theorem shN_bl (b : Bool) : (Dt.bl b).shN 0 := ⟨.bool b, by rw [Dt.py], by rw [PyData.canLay0], by rw [PyData.depth]; exact Nat.le_refl _⟩
theorem shN_int (i : Int) : (Dt.int i).shN 0 := ⟨.int i, by rw [Dt.py], by rw [PyData.canLay0], by rw [PyData.depth]; exact Nat.le_refl _⟩
theorem shN_all {n : Nat} : ∀ {xs : List Dt}, (∀ x ∈ xs, x.shN n) → ∃ ps, Dt.pys xs = some ps ∧ PyData.canLayAll0 ps = true ∧ PyData.depthAll ps ≤ n
  | [], _ => ⟨[], by rw [Dt.pys], by rw [PyData.canLayAll0], by rw [PyData.depthAll]; exact Nat.zero_le _⟩
  | x :: xs, h => by
    obtain ⟨p, e, c, d⟩ := h x List.mem_cons_self
    obtain ⟨ps, e2, c2, d2⟩ := shN_all fun y hy => h y (List.mem_cons_of_mem _ hy)
    exact ⟨p :: ps, by rw [Dt.pys, e, e2], by rw [PyData.canLayAll0, c, c2]; rfl, by rw [PyData.depthAll]; omega⟩
theorem shN_tup {n : Nat} {xs : List Dt} (h : ∀ x ∈ xs, x.shN n) : (Dt.tup xs).shN (n + 1) := by
  obtain ⟨ps, e, c, d⟩ := shN_all h
  exact ⟨.tuple ps, by rw [Dt.py, e]; rfl, by rw [PyData.canLay0]; exact c, by rw [PyData.depth]; omega⟩
theorem shN_lst {n : Nat} {xs : List Dt} (h : ∀ x ∈ xs, x.shN n) : (Dt.lst xs).shN (n + 1) := by
  obtain ⟨ps, e, c, d⟩ := shN_all h
  exact ⟨.list ps, by rw [Dt.py, e]; rfl, by rw [PyData.canLay0]; exact c, by rw [PyData.depth]; omega⟩
/-! equality -/
def eqvL : List Dt → List Dt → Bool
  | [], [] => true
  | x :: xs, y :: ys => x.eqv y && eqvL xs ys
  | _, _ => false
theorem eqvL_of {n m : Nat} : ∀ {xs ys : List Dt} {ps qs : List PyData}, Dt.pys xs = some ps → Dt.pys ys = some qs → PyData.eqvAll ps qs = eqvL xs ys
  | [], [], _, _, e1, e2 => by
    rw [Dt.pys] at e1 e2; cases e1; cases e2; rw [PyData.eqvAll]; rfl
  | [], y :: ys, _, _, e1, e2 => by
    rw [Dt.pys] at e1
    rw [Dt.pys] at e2
    cases e1
    split at e2
    · cases e2; rw [PyData.eqvAll]; rfl
    · cases e2
  | x :: xs, [], _, _, e1, e2 => by
    rw [Dt.pys] at e1
    rw [Dt.pys] at e2
    cases e2
    split at e1
    · cases e1; rw [PyData.eqvAll]; rfl
    · cases e1
  | x :: xs, y :: ys, _, _, e1, e2 => by
    rw [Dt.pys] at e1
    rw [Dt.pys] at e2
    split at e1
    · rename_i p ps h1 h2
      cases e1
      split at e2
      · rename_i q qs h3 h4
        cases e2
        rw [PyData.eqvAll, eqvL_of (n := n) (m := m) h2 h4, ← Dt.eqv_of h1 h3]; rfl
      · cases e2
    · cases e1
theorem eqv_seq {xs ys : List Dt} (h1 : ∃ ps, Dt.pys xs = some ps) (h2 : ∃ ps, Dt.pys ys = some ps) : (Dt.tup xs).eqv (.tup ys) = eqvL xs ys ∧ (Dt.lst xs).eqv (.lst ys) = eqvL xs ys ∧ (Dt.tup xs).eqv (.lst ys) = false ∧ (Dt.lst xs).eqv (.tup ys) = false := by
  obtain ⟨ps, e1⟩ := h1
  obtain ⟨qs, e2⟩ := h2
  have a : (Dt.tup xs).py = some (.tuple ps) := by rw [Dt.py, e1]; rfl
  have b : (Dt.tup ys).py = some (.tuple qs) := by rw [Dt.py, e2]; rfl
  have c : (Dt.lst xs).py = some (.list ps) := by rw [Dt.py, e1]; rfl
  have d : (Dt.lst ys).py = some (.list qs) := by rw [Dt.py, e2]; rfl
  rw [Dt.eqv_of a b, Dt.eqv_of c d, Dt.eqv_of a d, Dt.eqv_of c b]
  refine ⟨?_, ?_, ?_, ?_⟩
  · rw [PyData.eqv]; exact eqvL_of (n := 0) (m := 0) e1 e2
  · rw [PyData.eqv]; exact eqvL_of (n := 0) (m := 0) e1 e2
  · rw [PyData.eqv]
  · rw [PyData.eqv]
theorem eqv_int (i j : Int) : (Dt.int i).eqv (.int j) = decide (i = j) := by
  rw [Dt.eqv_of (a := .int i) (b := .int j) (by rw [Dt.py]) (by rw [Dt.py]), PyData.eqv]; rfl
/-- a type whose things are data, equal exactly if they are -/
structure EqE {α : Type} [DecidableEq α] (e : α → Dt) (n : Nat) : Prop where
  sh : ∀ a, (e a).shN n
  eq : ∀ a b, (e a).eqv (e b) = decide (a = b)
theorem eqE_int : EqE Dt.int 0 := ⟨shN_int, eqv_int⟩
section
variable {α : Type} [DecidableEq α] {e : α → Dt} {n : Nat}
theorem EqE.pys (h : EqE e n) (xs : List α) : ∃ ps, Dt.pys (xs.map e) = some ps := by
  obtain ⟨ps, e1, _⟩ := shN_all (n := n) (xs := xs.map e) fun x hx => by
    obtain ⟨a, _, rfl⟩ := List.mem_map.mp hx
    exact h.sh a
  exact ⟨ps, e1⟩
theorem EqE.eqvL (h : EqE e n) : ∀ xs ys : List α, Mine.eqvL (xs.map e) (ys.map e) = decide (xs = ys)
  | [], [] => by simp [Mine.eqvL]
  | [], y :: ys => by simp [Mine.eqvL]
  | x :: xs, [] => by simp [Mine.eqvL]
  | x :: xs, y :: ys => by
    rw [List.map_cons, List.map_cons, Mine.eqvL, h.eq, EqE.eqvL h xs ys]
    by_cases a : x = y <;> by_cases b : xs = ys <;> simp [a, b]
theorem EqE.tup (h : EqE e n) : EqE (fun xs : List α => Dt.tup (xs.map e)) (n + 1) :=
  ⟨fun xs => shN_tup fun x hx => by obtain ⟨a, _, rfl⟩ := List.mem_map.mp hx; exact h.sh a, fun xs ys => by
    show (Dt.tup (xs.map e)).eqv (.tup (ys.map e)) = _
    rw [(eqv_seq (h.pys xs) (h.pys ys)).1]; exact h.eqvL xs ys⟩
theorem EqE.lst (h : EqE e n) : EqE (fun xs : List α => Dt.lst (xs.map e)) (n + 1) :=
  ⟨fun xs => shN_lst fun x hx => by obtain ⟨a, _, rfl⟩ := List.mem_map.mp hx; exact h.sh a, fun xs ys => by
    show (Dt.lst (xs.map e)).eqv (.lst (ys.map e)) = _
    rw [(eqv_seq (h.pys xs) (h.pys ys)).2.1]; exact h.eqvL xs ys⟩
theorem EqE.dEq (h : EqE e n) {a b : α} {Q : Dt → Prop} (q : Q (.bl (decide (a = b)))) (hn : n ≤ 64 := by decide) : dEq (e a) (e b) Q :=
  ⟨(h.sh a).sh hn, (h.sh b).sh hn, by rw [h.eq]; exact q⟩
theorem EqE.dNe (h : EqE e n) {a b : α} {Q : Dt → Prop} (q : Q (.bl (!decide (a = b)))) (hn : n ≤ 64 := by decide) : dNe (e a) (e b) Q :=
  ⟨(h.sh a).sh hn, (h.sh b).sh hn, by rw [h.eq]; exact q⟩
end
theorem eqE_L : EqE iL 1 := eqE_int.lst
theorem dEq_int {i j : Int} {Q : Dt → Prop} : dEq (.int i) (.int j) Q = Q (.bl (decide (i = j))) := by
  refine propext ⟨fun h => ?_, fun h => eqE_int.dEq h⟩
  have := h.2.2
  rwa [eqv_int] at this
theorem dNe_int {i j : Int} {Q : Dt → Prop} : dNe (.int i) (.int j) Q = Q (.bl (!decide (i = j))) := by
  refine propext ⟨fun h => ?_, fun h => eqE_int.dNe h⟩
  have := h.2.2
  rwa [eqv_int] at this
/-! items -/
theorem ix_at {xs : List Dt} {k : Int} {n : Nat} {Q : Dt → Prop} (e : k = n) (h : n < xs.length) (q : Q xs[n]) : ∃ x, atI xs k = some x ∧ Q x :=
  ⟨xs[n], by rw [e]; exact atI_nat (by rw [List.getElem?_eq_getElem h]), q⟩
theorem ix_map {α : Type} {e : α → Dt} {xs : List α} {k : Int} {n : Nat} {Q : Dt → Prop} (hk : k = n) (h : n < xs.length) (q : Q (e xs[n])) : ∃ x, atI (xs.map e) k = some x ∧ Q x :=
  ix_at hk (by rw [List.length_map]; exact h) (by rw [List.getElem_map]; exact q)
end Mine
namespace Mine
open PySem PySem.Spec PyProof.Rows L2
/-- a comprehension by an invariant over what is made so far -/
theorem lc_inv {f : DGX} {tt : DTX} {te : DX} {env : List Sl} {Q : Dt → Prop} (I : Nat → List Dt → Prop) : ∀ {xs : List Dt} {acc : List Dt}, I 0 acc →
    (∀ (i : Nat) (x : Dt) (acc : List Dt) (K : List Dt → Prop), xs[i]? = some x → I i acc → (∀ a, I (i + 1) a → K a) → f x env fun env' => tt env' (fun b => if b = true then te env' (fun y => acc.length < 16777216 ∧ K (acc ++ [y])) (fun _ => False) else K acc) fun _ => False) →
    (∀ a, I xs.length a → Q (.lst a)) → lcGo f tt te env Q xs acc := by
  intro xs
  induction xs generalizing I with
  | nil => intro acc h0 _ fin; exact fin _ h0
  | cons x xs ih =>
    intro acc h0 step fin
    exact step 0 x acc (fun a => lcGo f tt te env Q xs a) rfl h0 fun a h1 => ih (fun i => I (i + 1)) h1 (fun i y acc K e1 => step (i + 1) y acc K (by simpa using e1)) fin
mutual
theorem Dt.eqv_self0 : ∀ {a : Dt} {p : PyData}, a.py = some p → PyData.eqv p p = true
  | .non, _, e => by rw [Dt.py] at e; cases e; rw [PyData.eqv]
  | .bl b, _, e => by rw [Dt.py] at e; cases e; rw [PyData.eqv]; simp
  | .int b, _, e => by rw [Dt.py] at e; cases e; rw [PyData.eqv]; simp
  | .str b, _, e => by rw [Dt.py] at e; cases e; rw [PyData.eqv]; simp
  | .tup xs, _, e => by
    rw [Dt.py, Option.map_eq_some_iff] at e
    obtain ⟨ps, e1, rfl⟩ := e
    rw [PyData.eqv]; exact Dt.eqv_selfs e1
  | .lst xs, _, e => by
    rw [Dt.py, Option.map_eq_some_iff] at e
    obtain ⟨ps, e1, rfl⟩ := e
    rw [PyData.eqv]; exact Dt.eqv_selfs e1
  | .dk _ _, _, e => by rw [Dt.py] at e <;> cases e
  | .ins _ _ _, _, e => by rw [Dt.py] at e <;> cases e
  | .raw _, _, e => by rw [Dt.py] at e <;> cases e
theorem Dt.eqv_selfs : ∀ {xs : List Dt} {ps : List PyData}, Dt.pys xs = some ps → PyData.eqvAll ps ps = true
  | [], _, e => by rw [Dt.pys] at e; cases e; rw [PyData.eqvAll]
  | x :: xs, _, e => by
    rw [Dt.pys] at e
    split at e
    · rename_i p ps h1 h2
      cases e
      rw [PyData.eqvAll, Dt.eqv_self0 h1, Dt.eqv_selfs h2]; rfl
    · cases e
end
theorem Dt.eqv_self {a : Dt} (h : a.sh) : a.eqv a = true := by
  obtain ⟨p, e, _⟩ := h
  rw [Dt.eqv_of e e]; exact Dt.eqv_self0 e
theorem dEq_self {a : Dt} {Q : Dt → Prop} (h : a.sh) (q : Q (.bl true)) : dEq a a Q := ⟨h, h, by rw [Dt.eqv_self h]; exact q⟩
theorem dNe_self {a : Dt} {Q : Dt → Prop} (h : a.sh) (q : Q (.bl false)) : dNe a a Q := ⟨h, h, by rw [Dt.eqv_self h]; exact q⟩
theorem rg_toNat (n : Nat) : ((n : Int)).toNat = n := by omega
theorem take_snoc {α : Type} {xs : List α} {i : Nat} {x : α} (h : xs[i]? = some x) : xs.take (i + 1) = xs.take i ++ [x] := by
  rw [List.take_add_one, h]; rfl
theorem map_get {α : Type} {e : α → Dt} {xs : List α} {i : Nat} {x : Dt} (h : (xs.map e)[i]? = some x) : ∃ a, xs[i]? = some a ∧ x = e a := by
  rw [List.getElem?_map, Option.map_eq_some_iff] at h
  obtain ⟨a, h1, h2⟩ := h
  exact ⟨a, h1, h2.symm⟩
theorem ix_get {xs : List Dt} {k : Int} {n : Nat} {x : Dt} {Q : Dt → Prop} (e : k = n) (h : xs[n]? = some x) (q : Q x) : ∃ x, atI xs k = some x ∧ Q x :=
  ⟨x, by rw [e]; exact atI_nat h, q⟩
theorem ix_mget {α : Type} {f : α → Dt} {xs : List α} {k : Int} {n : Nat} {a : α} {Q : Dt → Prop} (e : k = n) (h : xs[n]? = some a) (q : Q (f a)) : ∃ x, atI (xs.map f) k = some x ∧ Q x :=
  ix_get e (by rw [List.getElem?_map, h]; rfl) q
end Mine
namespace Mine
open PySem PySem.Spec PyProof.Rows L2
end Mine
namespace Mine
open PySem PySem.Spec PyProof.Rows L2
end Mine

namespace Mine
open PySem PySem.Spec PyProof.Rows L2
/-! ### any thing: its kind -/
/-- a thing whose kind is known -/
def Dt.kn (a : Dt) : Prop := a.kind.isSome = true
theorem kn_int (i : Int) : (Dt.int i).kind.isSome = true := rfl
theorem kn_bl (i : Bool) : (Dt.bl i).kind.isSome = true := rfl
theorem kn_non : (Dt.non).kind.isSome = true := rfl
theorem kn_str (i : Str) : (Dt.str i).kind.isSome = true := rfl
theorem kn_tup (i : List Dt) : (Dt.tup i).kind.isSome = true := rfl
theorem kn_lst (i : List Dt) : (Dt.lst i).kind.isSome = true := rfl
theorem kn_dt (i : List (List Key)) (j : List Dt) : (Dt.dt i j).kind.isSome = true := rfl
theorem isN_dt (i : List (List Key)) (j : List Dt) : Dt.isN (.dt i j) = false := rfl
theorem kn_dk (i : List Key) (j : List Dt) : (Dt.dk i j).kind.isSome = true := rfl
def isW : Dt → Bool
  | .int _ => true
  | _ => false
def isSeq : Dt → Bool
  | .lst _ => true
  | .tup _ => true
  | _ => false
def isTp : Dt → Bool
  | .tup _ => true
  | _ => false
def isSt : Dt → Bool
  | .str _ => true
  | _ => false
def isLs : Dt → Bool
  | .lst _ => true
  | _ => false
def itemsOf : Dt → List Dt
  | .lst xs => xs
  | .tup xs => xs
  | _ => []
/-- a whole number within bounds -/
def inB (lo hi : Int) : Dt → Bool
  | .int i => decide (lo ≤ i) && decide (i ≤ hi)
  | _ => false
theorem isa_int (a : Dt) : a.isa "int" = (isW a || (match a with | .bl _ => true | _ => false)) := by cases a <;> (unfold Dt.isa; rfl)
theorem isa_bool (a : Dt) : a.isa "bool" = (match a with | .bl _ => true | _ => false) := by cases a <;> (unfold Dt.isa; rfl)
theorem isa_tup (a : Dt) : a.isa "tuple" = isTp a := by cases a <;> (unfold Dt.isa; rfl)
theorem isa_str (a : Dt) : a.isa "str" = isSt a := by cases a <;> (unfold Dt.isa; rfl)
theorem isa_lst (a : Dt) : a.isa "list" = isLs a := by cases a <;> (unfold Dt.isa; rfl)
theorem isa_seq (a : Dt) : (a.isa "list" || a.isa "tuple") = isSeq a := by cases a <;> (unfold Dt.isa; rfl)
theorem isa_int_int (i : Int) : (Dt.int i).isa "int" = true := rfl
theorem isa_int_bool (i : Int) : (Dt.int i).isa "bool" = false := rfl
theorem isa_tup_tup (i : List Dt) : (Dt.tup i).isa "tuple" = true := rfl
theorem isa_bl_bool (i : Bool) : (Dt.bl i).isa "bool" = true := rfl
theorem isa_seq_tup (i : List Dt) : ((Dt.tup i).isa "list" || (Dt.tup i).isa "tuple") = true := rfl
theorem isa_seq_lst (i : List Dt) : ((Dt.lst i).isa "list" || (Dt.lst i).isa "tuple") = true := rfl
theorem isa_seq2 (a : Dt) : (isLs a || isTp a) = isSeq a := by cases a <;> rfl
section
variable {i j : Int} {x y : List Dt} {u v : Str} {Q : Dt → Prop}
theorem dAdd_int : dAdd (.int i) (.int j) Q = Q (.int (i + j)) := rfl
theorem dAdd_lst : dAdd (.lst x) (.lst y) Q = (x.length + y.length ≤ 16777216 ∧ Q (.lst (x ++ y))) := rfl
theorem dAdd_tup : dAdd (.tup x) (.tup y) Q = (x.length + y.length ≤ 16777216 ∧ Q (.tup (x ++ y))) := rfl
theorem dAdd_str : dAdd (.str u) (.str v) Q = (u.length + v.length ≤ 16777216 ∧ Q (.str (u ++ v))) := rfl
theorem dAddL_lst : dAddL (.lst x) (.lst y) Q = (x.length + y.length ≤ 16777216 ∧ Q (.lst (x ++ y))) := rfl
theorem dSub_int : dSub (.int i) (.int j) Q = Q (.int (i - j)) := rfl
theorem dMul_int : dMul (.int i) (.int j) Q = (CMul i j ∧ Q (.int (i * j))) := rfl
theorem dMul_lst : dMul (.lst x) (.int j) Q = ((-(2 ^ 63) ≤ j ∧ j < 2 ^ 63 ∧ x.length * j.toNat ≤ 16777216) ∧ Q (.lst (List.replicate j.toNat x).flatten)) := rfl
theorem dMulL_lst : dMulL (.lst x) (.int j) Q = ((-(2 ^ 63) ≤ j ∧ j < 2 ^ 63 ∧ x.length * j.toNat ≤ 16777216) ∧ Q (.lst (List.replicate j.toNat x).flatten)) := rfl
theorem dMul_tup : dMul (.tup x) (.int j) Q = ((x ≠ [] ∧ -(2 ^ 62) ≤ j ∧ j ≤ 1000 ∧ x.length ≤ 1000) ∧ Q (.tup (List.replicate j.toNat x).flatten)) := rfl
theorem dFdiv_int : dFdiv (.int i) (.int j) Q = (CDiv i j ∧ Q (.int (i / j))) := rfl
theorem dMod_int : dMod (.int i) (.int j) Q = (0 < j ∧ Q (.int (i % j))) := rfl
theorem dPow_int : dPow (.int i) (.int j) Q = (CPow i j ∧ Q (.int (i ^ j.toNat))) := rfl
theorem dShl_int : dShl (.int i) (.int j) Q = (CPow i j ∧ Q (.int (i * 2 ^ j.toNat))) := rfl
theorem dShr_int : dShr (.int i) (.int j) Q = (0 ≤ j ∧ Q (.int (i / 2 ^ j.toNat))) := rfl
theorem dLe_int : dLe (.int i) (.int j) Q = Q (.bl (decide (i ≤ j))) := rfl
theorem dLt_int : dLt (.int i) (.int j) Q = Q (.bl (decide (i < j))) := rfl
theorem dGt_int : dGt (.int i) (.int j) Q = Q (.bl (decide (j < i))) := rfl
theorem dGe_int : dGe (.int i) (.int j) Q = Q (.bl (decide (j ≤ i))) := rfl
theorem dNeg_int : dNeg (.int i) Q = Q (.int (-i)) := rfl
end
theorem isSeq_lst (x : List Dt) : isSeq (.lst x) = true := rfl
theorem isSeq_tup (x : List Dt) : isSeq (.tup x) = true := rfl
theorem isTp_tup (x : List Dt) : isTp (.tup x) = true := rfl
theorem isTp_lst (x : List Dt) : isTp (.lst x) = false := rfl
theorem isLs_lst (x : List Dt) : isLs (.lst x) = true := rfl
theorem isLs_tup (x : List Dt) : isLs (.tup x) = false := rfl
theorem isN_non : Dt.isN .non = true := rfl
theorem isN_int (i : Int) : Dt.isN (.int i) = false := rfl
theorem isN_bl (i : Bool) : Dt.isN (.bl i) = false := rfl
theorem isN_str (i : Str) : Dt.isN (.str i) = false := rfl
theorem isN_tup (i : List Dt) : Dt.isN (.tup i) = false := rfl
theorem isN_lst (i : List Dt) : Dt.isN (.lst i) = false := rfl
theorem isN_dk (i : List Key) (j : List Dt) : Dt.isN (.dk i j) = false := rfl
theorem isN_ins (c : Str) (i : List Str) (j : List Dt) : Dt.isN (.ins c i j) = false := rfl
theorem line0 : ((0 : Nat) ≤ 16777216) = True := eq_true (by decide)
theorem line1 : ((1 : Nat) ≤ 16777216) = True := eq_true (by decide)
theorem line2 : ((2 : Nat) ≤ 16777216) = True := eq_true (by decide)
theorem line3 : ((3 : Nat) ≤ 16777216) = True := eq_true (by decide)
theorem line4 : ((4 : Nat) ≤ 16777216) = True := eq_true (by decide)
theorem line5 : ((5 : Nat) ≤ 16777216) = True := eq_true (by decide)
theorem line6 : ((6 : Nat) ≤ 16777216) = True := eq_true (by decide)
theorem line7 : ((7 : Nat) ≤ 16777216) = True := eq_true (by decide)
theorem line8 : ((8 : Nat) ≤ 16777216) = True := eq_true (by decide)
theorem line9 : ((9 : Nat) ≤ 16777216) = True := eq_true (by decide)
theorem line10 : ((10 : Nat) ≤ 16777216) = True := eq_true (by decide)
theorem line11 : ((11 : Nat) ≤ 16777216) = True := eq_true (by decide)
theorem line12 : ((12 : Nat) ≤ 16777216) = True := eq_true (by decide)
theorem dTru_non {Q : Bool → Prop} : dTru .non Q = Q false := rfl
theorem dTru_bl {b : Bool} {Q : Bool → Prop} : dTru (.bl b) Q = Q b := rfl
theorem dTru_int {i : Int} {Q : Bool → Prop} : dTru (.int i) Q = Q (i != 0) := rfl
theorem dTru_lst {x : List Dt} {Q : Bool → Prop} : dTru (.lst x) Q = Q (!x.isEmpty) := rfl
theorem dTru_tup {x : List Dt} {Q : Bool → Prop} : dTru (.tup x) Q = Q (!x.isEmpty) := rfl
theorem dTru_str {x : Str} {Q : Bool → Prop} : dTru (.str x) Q = (x.length ≤ 16777216 ∧ Q ((x.length : Int) != 0)) := rfl
theorem dTru_dk {x : List Key} {y : List Dt} {Q : Bool → Prop} : dTru (.dk x y) Q = Q (!x.isEmpty) := rfl
theorem isTp_non : isTp .non = false := rfl
theorem isTp_int (i : Int) : isTp (.int i) = false := rfl
theorem isTp_str (i : Str) : isTp (.str i) = false := rfl
theorem isW_int (i : Int) : isW (.int i) = true := rfl
/-- a thing that may be asked for its items -/
theorem seq_or {a : Dt} : (∃ xs, a = .lst xs) ∨ (∃ xs, a = .tup xs) ∨ isSeq a = false := by
  cases a <;> first | exact .inl ⟨_, rfl⟩ | exact .inr (.inl ⟨_, rfl⟩) | exact .inr (.inr rfl)
/-- the first place of an item that is not as it should be -/
def badAt (p : Dt → Bool) (xs : List Dt) : Option Nat := xs.findIdx? fun x => !p x
theorem badAt_none {p : Dt → Bool} {xs : List Dt} (h : ∀ (j : Nat) x, xs[j]? = some x → p x = true) : badAt p xs = none := by
  unfold badAt
  rw [List.findIdx?_eq_none_iff]
  intro x hx
  obtain ⟨j, hj⟩ := List.mem_iff_getElem?.mp hx
  rw [h j x hj]; rfl
theorem badAt_some {p : Dt → Bool} {xs : List Dt} {i : Nat} {y : Dt} (h : ∀ (j : Nat) x, j < i → xs[j]? = some x → p x = true) (hy : xs[i]? = some y) (hp : p y = false) : badAt p xs = some i := by
  unfold badAt
  rw [List.findIdx?_eq_some_iff_getElem]
  obtain ⟨hl, he⟩ := List.getElem?_eq_some_iff.mp hy
  refine ⟨hl, by rw [he, hp]; rfl, fun j hj => ?_⟩
  rw [h j _ hj (List.getElem?_eq_getElem (Nat.lt_trans hj hl))]; decide
theorem badAt_spec {p : Dt → Bool} {xs : List Dt} (h : badAt p xs = none) {x : Dt} (hx : x ∈ xs) : p x = true := by
  unfold badAt at h
  rw [List.findIdx?_eq_none_iff] at h
  have := h x hx
  cases e : p x with
  | true => rfl
  | false => rw [e] at this; cases this
theorem badAt_map {p : Dt → Bool} {α : Type} {e : α → Dt} {xs : List α} (h : ∀ a ∈ xs, p (e a) = true) : badAt p (xs.map e) = none :=
  badAt_none fun j x hx => by
    obtain ⟨a, ha, rfl⟩ := List.mem_map.mp (List.mem_of_getElem? hx)
    exact h a ha
/-- the index due of a word that is refused -/
def badWord (q : Int) (m : Nat) (a : Dt) : Option Int := match isSeq a with
  | false => some (-1)
  | true => if m < (itemsOf a).length then some (-1) else (badAt (inB 0 (q - 1)) (itemsOf a)).map fun i : Nat => (i : Int)
theorem enum_get {xs : List Dt} {i : Nat} {x : Dt} (h : (xs.mapIdx fun i x => Dt.tup [.int (i : Nat), x])[i]? = some x) : ∃ y, xs[i]? = some y ∧ x = .tup [.int (i : Nat), y] := by
  rw [List.getElem?_mapIdx, Option.map_eq_some_iff] at h
  obtain ⟨y, h1, h2⟩ := h
  exact ⟨y, h1, h2.symm⟩
theorem rng_get {n i : Nat} {x : Dt} (h : ((List.range n).map fun i => Dt.int (i : Nat))[i]? = some x) : i < n ∧ x = .int (i : Nat) := by
  rw [List.getElem?_map, Option.map_eq_some_iff] at h
  obtain ⟨y, h1, h2⟩ := h
  obtain ⟨hl, e⟩ := List.getElem?_eq_some_iff.mp h1
  rw [List.length_range] at hl
  rw [List.getElem_range] at e
  exact ⟨hl, by rw [← h2, e]⟩
end Mine

namespace Mine
open PySem PySem.Spec PyProof.Rows L2
/-! ### dicts as tables -/
section
variable {κ : Type} [DecidableEq κ]
theorem putKs_mem {j k : κ} : ∀ {ks : List κ}, k ∈ putKs ks j ↔ k ∈ ks ∨ k = j
  | [] => by simp [putKs]
  | a :: ks => by
    unfold putKs
    by_cases c : a = j
    · rw [if_pos c]
      refine ⟨.inl, fun h => h.elim id fun e => ?_⟩
      rw [e, ← c]; exact List.mem_cons_self
    · rw [if_neg c, List.mem_cons, List.mem_cons, putKs_mem (ks := ks), or_assoc]
theorem putKs_nodup {j : κ} : ∀ {ks : List κ}, ks.Nodup → (putKs ks j).Nodup
  | [], _ => by simp [putKs]
  | a :: ks, h => by
    have h2 := List.nodup_cons.mp h
    unfold putKs
    by_cases c : a = j
    · rw [if_pos c]; exact h
    · rw [if_neg c]
      refine List.nodup_cons.mpr ⟨fun m => ?_, putKs_nodup h2.2⟩
      rcases putKs_mem.mp m with m | m
      · exact h2.1 m
      · exact c m
theorem putKs_len {j : κ} : ∀ {ks : List κ}, (putKs ks j).length ≤ ks.length + 1
  | [] => Nat.le_refl _
  | a :: ks => by
    unfold putKs
    split
    · exact Nat.le_succ _
    · rw [List.length_cons, List.length_cons]; exact Nat.succ_le_succ putKs_len
theorem put_len {j : κ} {y : Dt} : ∀ {ks : List κ} {ds : List Dt}, ks.length = ds.length → (putKs ks j).length = (putVs ks ds j y).length
  | [], [], _ => rfl
  | a :: ks, d :: ds, h => by
    unfold putKs putVs
    split
    · simpa using h
    · rw [List.length_cons, List.length_cons, put_len (by simpa using h)]
theorem valD_put {j k : κ} {y : Dt} : ∀ {ks : List κ} {ds : List Dt}, ks.length = ds.length → valD (putKs ks j) (putVs ks ds j y) k = if k = j then some y else valD ks ds k
  | [], [], _ => by
    show (if j = k then some y else none) = if k = j then some y else none
    by_cases c : k = j
    · rw [if_pos c, if_pos c.symm]
    · rw [if_neg c, if_neg fun e => c e.symm]
  | a :: ks, d :: ds, h => by
    unfold putKs putVs
    by_cases c : a = j
    · rw [if_pos c, if_pos c]
      unfold valD
      by_cases c2 : a = k
      · rw [if_pos c2, if_pos (c2 ▸ c)]
      · rw [if_neg c2, if_neg fun e => c2 (c.trans e.symm), if_neg c2]
    · rw [if_neg c, if_neg c]
      show (if a = k then some d else valD (putKs ks j) (putVs ks ds j y) k) = _
      rw [valD_put (by simpa using h)]
      show _ = if k = j then some y else if a = k then some d else valD ks ds k
      by_cases c2 : a = k
      · rw [if_pos c2, if_pos c2, if_neg fun e => c (c2.trans e)]
      · rw [if_neg c2, if_neg c2]
/-- the dict ks, ds is this table, with at most n keys -/
structure Tb (ks : List κ) (ds : List Dt) (f : κ → Option Dt) (n : Nat) : Prop where
  nd : ks.Nodup
  len : ks.length = ds.length
  few : ks.length ≤ n
  val : ∀ k, valD ks ds k = f k
theorem Tb.nil : Tb ([] : List κ) [] (fun _ => none) 0 := ⟨List.nodup_nil, rfl, Nat.le_refl _, fun _ => rfl⟩
theorem Tb.put {ks : List κ} {ds : List Dt} {f : κ → Option Dt} {n : Nat} (h : Tb ks ds f n) (j : κ) (y : Dt) : Tb (putKs ks j) (putVs ks ds j y) (fun k => if k = j then some y else f k) (n + 1) :=
  ⟨putKs_nodup h.nd, put_len h.len, Nat.le_trans putKs_len (Nat.succ_le_succ h.few), fun k => by rw [valD_put h.len, h.val]⟩
theorem Tb.congr {ks : List κ} {ds : List Dt} {f g : κ → Option Dt} {n m : Nat} (h : Tb ks ds f n) (e : ∀ k, f k = g k) (l : n ≤ m) : Tb ks ds g m := ⟨h.nd, h.len, Nat.le_trans h.few l, fun k => (h.val k).trans (e k)⟩
end
/-- words told apart by their keys -/
theorem inl_inj : ∀ {w v : List Int}, (w.map (Sum.inl : Int → Key) = v.map Sum.inl) ↔ w = v
  | [], [] => by simp
  | [], b :: v => by simp
  | a :: w, [] => by simp
  | a :: w, b :: v => by
    rw [List.map_cons, List.map_cons, List.cons.injEq, List.cons.injEq, inl_inj (w := w) (v := v), Sum.inl.injEq]
end Mine

namespace Mine
open PySem PySem.Spec PyProof.Rows L2
/-! ### a comprehension of two walks within another's element -/
end Mine

namespace Mine
open PySem PySem.Spec PyProof.Rows L2
/-! ### defs that hand out a list of the caller's own -/
def spO (K : PySem.W.Frag) (F : DFn) : Sp := fun vs H Q E => ∃ (X : Addr → Prop) (hd : Hnd) (args : List Sl) (Qd : Dt → Prop) (Qx : Xc → Prop), (∀ a, X a → ∃ o, H a = some o) ∧ (∀ h c, hd = some (h, c) → X h ∧ HandC H h c) ∧ SlAll K hd X H vs args ∧ F args Qd Qx ∧
  (∀ ds p us H', Frm hd H H' → H p = none → H' p = some (.lst us) → DenAll K (vis H' fun a => X a ∨ a = p) us ds → Qd (.lst ds) → Q (.ref p) H') ∧ (∀ x cls dx H', Frm hd H H' → XRep K (vis H' X) cls dx x → Qx x → E cls dx H')
theorem spO_len {K : PySem.W.Frag} {F : DFn} {np : Nat} (hF : ∀ args Q E, F args Q E → args.length = np) : ∀ vs H Q E, spO K F vs H Q E → vs.length = np := by
  rintro vs H Q E ⟨X, hd, args, Qd, Qx, _, _, sl, h, _⟩
  rw [sl.length]; exact hF _ _ _ h
section
variable {C : Bc} {F : DFn} {dvs : List V} {dd : List Sl} {t : TA} {a : DSX}
theorem df_callO0 (hd : Dvs dvs dd) (ha : DAs C t a) : DF C (tCall (spO C.K F) dvs E0 t) (eCall0 F dd a) := by
  intro X env σ H Q Qd Qx rp he q x
  refine ha X env σ H _ _ Qx rp he (fun ss vs H1 f1 r1 he1 => ?_) x
  have rp1 := rp.step f1
  exact ⟨X, C.hd, ss ++ dd, Qd, fun _ => False, rp1.al, fun h c e => ⟨rp1.hX h c e, (rp1.hands h c e).2.2⟩, SlAll.append r1 (hd C.K C.hd X H1), he1,
    fun ds p us H2 f2 n h2 a2 q2 => q _ _ _ (f1.trans f2) (Fsh.frm rp f1 ⟨p, us, ds, rfl, rfl, n, h2, a2⟩) q2, fun _ _ _ _ _ _ z => z.elim⟩
end
/-- what the last row hands out is new since the entry, and nothing hangs on it -/
structure LnkO (C : Bc) (X : Addr → Prop) (H : Hp) (D : Ends) (d : DEn) : Prop where
  rt : ∀ X' env σ H' p us ds, Rep C X' env σ H' → C.H0 p = none → H' p = some (.lst us) → DenAll C.K (vis H' fun a => C.X0 a ∨ a = p) us ds → d.rt (.lst ds) → D.rt (.ref p) H'
  xc : ∀ X' env σ H' x cls dx, Rep C X' env σ H' → Same (vis H X) (vis H' X') → XRep C.K (vis H' X') cls dx x → d.xc env x → C.E σ cls dx H'
def DSO (C : Bc) (t : TS) (s : DSt) : Prop := ∀ X env σ H D d, Rep C X env σ H → LnkO C X H D d → s d env → t D σ H
/-- rows with no return, then the last one -/
def sOut (a b : DSt) : DSt := fun d env => a ⟨fun e => b d e, fun _ => False, fun _ => False, fun _ => False, d.xc⟩ env
def sRetO (e : DX) : DSt := fun d env => e env d.rt (d.xc env)
def sRetOwn (i : Nat) : DSt := fun d env => match env[i]? with
  | some (.own (.lst xs)) => d.rt (.lst xs)
  | _ => False
section
variable {C : Bc} {t u : TS} {a b : DSt} {te : TE} {e : DX}
theorem LnkO.step {X X1 : Addr → Prop} {H H1 : Hp} {D : Ends} {d : DEn} (l : LnkO C X H D d) (s : Same (vis H X) (vis H1 X1)) : LnkO C X1 H1 D d where
  rt := l.rt
  xc := fun X' env σ H' x cls dx r k a h => l.xc X' env σ H' x cls dx r (s.trans k) a h
theorem dso_seq (ha : DS C t a) (hb : DSO C u b) : DSO C (tSeq t u) (sOut a b) := by
  intro X env σ H D d r l h
  refine ha X env σ H { D with nx := u D } ⟨fun e => b d e, fun _ => False, fun _ => False, fun _ => False, d.xc⟩ r ⟨fun X' env' σ' H' r' k h' => ?_, fun _ _ _ _ _ _ _ _ _ (h' : False) => h'.elim, fun _ _ _ _ _ _ (h' : False) => h'.elim, fun _ _ _ _ _ _ (h' : False) => h'.elim, l.xc⟩ h
  exact hb X' env' σ' H' D d r' (l.step k) h'
theorem dso_own (i : Nat) : DSO C (tRet (tVar i)) (sRetOwn i) := by
  intro X env σ H D d r l h
  unfold sRetOwn at h
  split at h
  · rename_i xs e1
    obtain ⟨o, e2, p, w, rfl, xp, x0, hp, dn⟩ := r.slot i _ e1
    cases dn with
    | lst a =>
      refine ⟨.ref p, e2, ?_⟩
      refine l.rt X env σ H p _ xs r ((r.new p xp).resolve_left x0) hp (a.mono (vis_anti fun a z => ?_)) h
      rcases z with z | rfl
      · exact r.sup a z
      · exact xp
  · exact h.elim
end
theorem body_ofO0 {K : PySem.W.Frag} {N : List Str} {np n : Nat} {sb : DSt} {t : TS} {vs : List V} {H : Hp} {Q : VK} {E : XK} (hn : N.length = n) (h : spO K (mkD0 np n sb) vs H Q E)
    (hb : ∀ X hd, DSO ⟨K, H, X, hd, none, fun _ _ _ _ => False, none⟩ t sb) : t { nx := fun _ H' => Q .non H', rt := Q } (L2.start N vs) H := by
  obtain ⟨X, hd, args, Qd, Qx, al, hh, sl, ⟨ha, h⟩, q, x⟩ := h
  have r := rep_start (N := N) (E := fun _ _ _ _ => False) al hh sl
  rw [ha, hn] at r
  refine hb X hd X _ _ H _ _ r ⟨fun X' env σ H' p us ds r' n h2 a2 h' => q ds p us H' r'.frm n h2 a2 h', fun _ _ _ _ _ _ _ _ _ _ (h' : False) => h'.elim⟩ h
theorem sOut_W {a b : DSt} {d : DEn} {env : List Sl} : sOut a b d env = a ⟨fun e => b d e, fun _ => False, fun _ => False, fun _ => False, d.xc⟩ env := rfl
theorem sRetO_W {e : DX} {d : DEn} {env : List Sl} : sRetO e d env = e env d.rt (d.xc env) := rfl
theorem sRetOwn_W {i : Nat} {d : DEn} {env : List Sl} : sRetOwn i d env = (match env[i]? with
  | some (.own (.lst xs)) => d.rt (.lst xs)
  | _ => False) := rfl
end Mine

namespace Mine
open PySem PySem.Spec PyProof.Rows L2
/-! ### calls of one's own defs with keywords: f(a, .., k = v, ..), the keywords behind what lacks -/
section
variable {K : PySem.W.Frag} {x qual : Str} {params : Arguments} {body : List Stmt} {scope : Scope} {dvs : List V} {kws : List (Str × V)} {f : Addr} {fd : FuncData} {ps : List Str}
/-- keyword-only parameters alone have defaults, and all are written -/
theorem funD_kb0 (F : FunD K x qual params body scope [] kws f fd) (n : Nat) (ks : List Str)
    (h : ∀ (kV doc pm : Value) (an : Option Addr) (cdv ct : Value) (us ws : List Value), us.length = n → ws.length = ks.length → bindArgs (PySem.W.fnOf x qual params body scope .none kV doc pm an cdv ct) ⟨us, ks.zip ws⟩ = pure (ps.zip (us ++ [] ++ ws ++ []))) :
    ∃ md td : List Value, Vals [] md ∧ Vals [] td ∧ KBn K fd ps n ks (fun us ws => us ++ md ++ ws ++ td) (fun vs zs => vs ++ [] ++ zs ++ []) := by
  obtain ⟨oc, od, dV, kV, doc, pm, an, cdv, ct, osl, rfl, lk, hcd, hD, hK⟩ := F.ex
  rcases hD with ⟨_, rfl⟩ | ⟨e, _⟩
  · exact ⟨[], [], .nil, .nil, ⟨fun s us ws X l1 l2 => .of_eq (h kV doc pm an cdv ct us ws l1 l2), fun r1 r2 => ((r1.append .nil).append r2).append .nil⟩⟩
  · exact absurd rfl e
end
theorem slAll_mono {K : PySem.W.Frag} {hd : Hnd} {X : Addr → Prop} {H H' : Hp} (s : Same (vis H X) (vis H' X)) : ∀ {vs : List V} {ss : List Sl}, SlAll K hd X H vs ss → SlAll K hd X H' vs ss
  | _, _, .nil => .nil
  | _, _, .d a r => .d (a.mono s) (slAll_mono s r)
  | _, _, .hand e r => .hand e (slAll_mono s r)
def eCallK (n m : Nat) (F : DFn) (dd ee : List Sl) (a b : DSX) : DX := fun env Q E => a env (fun ss => b env (fun zs => ss.length = n ∧ zs.length = m ∧ F (ss ++ dd ++ zs ++ ee) Q E) E) E
def eCallK0 (n m : Nat) (F : DFn) (dd ee : List Sl) (a b : DSX) : DX := fun env Q E => a env (fun ss => b env (fun zs => ss.length = n ∧ zs.length = m ∧ F (ss ++ dd ++ zs ++ ee) Q fun _ => False) E) E
section
variable {C : Bc} {F : DFn} {dvs evs : List V} {dd ee : List Sl} {t tk : TA} {a b : DSX} {n m : Nat}
theorem de_callK0 (hd : Dvs dvs dd) (hz : Dvs evs ee) (ha : DAs C t a) (hb : DAs C tk b) : DE C (tCallN n m (spD C.K F) (fun vs zs => vs ++ dvs ++ zs ++ evs) E0 t tk) (eCallK0 n m F dd ee a b) := by
  intro X env σ H Q Qd Qx rp he q x
  refine ha X env σ H _ _ Qx rp he (fun ss vs H1 f1 r1 he1 => ?_) x
  refine hb X env σ H1 _ _ Qx (rp.step f1) he1 (fun zs us H2 f2 r2 he2 => ?_) (x.step f1)
  obtain ⟨l1, l2, he2⟩ := he2
  refine ⟨by rw [r1.length]; exact l1, by rw [r2.length]; exact l2, ?_⟩
  exact spD_use ((rp.step f1).step f2) (SlAll.append (SlAll.append (SlAll.append (slAll_mono ((rp.step f1).vs f2) r1) (hd C.K C.hd X H2)) r2) (hz C.K C.hd X H2)) he2 (fun d v H' f h => q d v H' ((f1.trans f2).trans f) h) fun _ _ _ _ _ _ z => z.elim
theorem de_callK {E : XK} (hE : C.E = fun _ => E) (hd : Dvs dvs dd) (hz : Dvs evs ee) (ha : DAs C t a) (hb : DAs C tk b) : DE C (tCallN n m (spD C.K F) (fun vs zs => vs ++ dvs ++ zs ++ evs) E t tk) (eCallK n m F dd ee a b) := by
  intro X env σ H Q Qd Qx rp he q x
  refine ha X env σ H _ _ Qx rp he (fun ss vs H1 f1 r1 he1 => ?_) x
  refine hb X env σ H1 _ _ Qx (rp.step f1) he1 (fun zs us H2 f2 r2 he2 => ?_) (x.step f1)
  obtain ⟨l1, l2, he2⟩ := he2
  refine ⟨by rw [r1.length]; exact l1, by rw [r2.length]; exact l2, ?_⟩
  exact spD_use ((rp.step f1).step f2) (SlAll.append (SlAll.append (SlAll.append (slAll_mono ((rp.step f1).vs f2) r1) (hd C.K C.hd X H2)) r2) (hz C.K C.hd X H2)) he2 (fun d v H' f h => q d v H' ((f1.trans f2).trans f) h) fun y cls dx H' f r z => by
    have := x y cls dx H' ((f1.trans f2).trans f) r z
    rw [hE] at this
    exact this
end
theorem eCallK_W {n m : Nat} {F : DFn} {dd ee : List Sl} {a b : DSX} {env : List Sl} {Q : Dt → Prop} {E : Xc → Prop} : eCallK n m F dd ee a b env Q E = a env (fun ss => b env (fun zs => ss.length = n ∧ zs.length = m ∧ F (ss ++ dd ++ zs ++ ee) Q E) E) E := rfl
theorem eCallK0_W {n m : Nat} {F : DFn} {dd ee : List Sl} {a b : DSX} {env : List Sl} {Q : Dt → Prop} {E : Xc → Prop} : eCallK0 n m F dd ee a b env Q E = a env (fun ss => b env (fun zs => ss.length = n ∧ zs.length = m ∧ F (ss ++ dd ++ zs ++ ee) Q fun _ => False) E) E := rfl
end Mine

namespace Mine
open PySem PySem.Spec PyProof.Rows L2
/-! ### defs that show things by repr: they want that no repr is under way around them -/
structure FnG (P : Program) (w : World) (K : PySem.W.Frag) (mg : Str → Option Value) (base : Heap) (Z : CXT) (k : Nat) (f : Addr) (fd : FuncData) (ps : List Str) (sp : Sp) : Prop where
  len : ∀ vs H Q E, sp vs H Q E → vs.length = ps.length
  go : ∀ (A : Around) (out : List Env) (s : Shared) (H : Hp) (gs : Args) (us : List Value) (vs : List V) (Q : VK) (E : XK), A.guards = some [] → Room k A → Env0 P w K mg base A out s H → BindsTo s fd gs (ps.zip us) → Vals vs us → sp vs H Q E →
    codeAny (model P w) A (.call (.ref f) gs) (CR Z out P w H s Q E) s
section
variable {P : Program} {w : World} {K : PySem.W.Frag} {mg : Str → Option Value} {base : Heap} {Z : CXT} {j k : Nat} {f : Addr} {fd : FuncData} {ps : List Str} {sp : Sp}
theorem FnG.of (F : FnOk P w K mg base Z k f fd ps sp) : FnG P w K mg base Z k f fd ps sp := ⟨F.len, fun A out s H gs us vs Q E _ => F.run A out s H gs us vs Q E⟩
theorem FnG.mono (F : FnG P w K mg base Z j f fd ps sp) (h : j ≤ k) : FnG P w K mg base Z k f fd ps sp := ⟨F.len, fun A out s H gs us vs Q E hg hr => F.go A out s H gs us vs Q E hg (hr.mono h)⟩
end
/-! their calls -/
section
variable {X : Cx} {Z : CXT} {k : Nat} {f : Addr} {fd : FuncData} {ps : List Str} {sp : Sp} {dvs : List V} {ds : List Value} {E : XK} {x : Str} {p pos : Pos} {e : Expr} {es : List Expr} {t : TA}
end
/-! such a def by its body -/
/-! ### the head over such a promise -/
section
variable {P : Program} {w : World} {K : PySem.W.Frag} {mg mb : Str → Option Value} {Z : CXT} {k : Nat} {fa a : Addr} {fd : FuncData} {x : Str} {sp : Sp} {s₁ : Shared} {vs : List Value} {ns : List Int}
end
/-! ### repr -/
/-- the text of data -/
def shownD (a : Dt) : Str := match a.py with
  | some p => p.shown
  | none => ""
def Shw (a : Dt) : Prop := ∃ p, a.py = some p ∧ p.showable = true ∧ p.hasDict = false ∧ p.depth ≤ 60 ∧ p.shown.length ≤ sizeLine
def dRepr : DL := fun ds Q => match ds with
  | [a] => Shw a ∧ Q (.str (shownD a))
  | _ => False
theorem dRepr_W {a : Dt} {Q : Dt → Prop} : dRepr [a] Q = (Shw a ∧ Q (.str (shownD a))) := rfl
end Mine

namespace Mine
open PySem PySem.Spec PyProof.Rows L2
/-! ### a list of one's own read by a call within a test, within what is put behind it: it stays one's own -/
def sIfK (i : Nat) (ec : DTX) (a b : DSt) : DSt := fun d env => match env[i]? with
  | some (.own _) => ec (frz env i) (fun k => if k = true then a d env else b d env) (d.xc (frz env i))
  | _ => False
theorem sIfK_W {i : Nat} {ec : DTX} {a b : DSt} {d : DEn} {env : List Sl} : sIfK i ec a b d env = (match env[i]? with
  | some (.own _) => ec (frz env i) (fun k => if k = true then a d env else b d env) (d.xc (frz env i))
  | _ => False) := rfl
/-- xs.append(e), xs read whole within e, e a whole number -/
def sAppK (i : Nat) (e : DX) : DSt := fun d env => match env[i]? with
  | some (.own (.lst xs)) => e (frz env i) (fun y => (∃ z, y = .int z) ∧ xs.length < 16777216 ∧ d.nx (env.set i (.own (.lst (xs ++ [y]))))) (d.xc (frz env i))
  | _ => False
theorem sAppK_W {i : Nat} {e : DX} {d : DEn} {env : List Sl} : sAppK i e d env = (match env[i]? with
  | some (.own (.lst xs)) => e (frz env i) (fun y => (∃ z, y = .int z) ∧ xs.length < 16777216 ∧ d.nx (env.set i (.own (.lst (xs ++ [y]))))) (d.xc (frz env i))
  | _ => False) := rfl
end Mine

namespace Mine
open PySem PySem.Spec PyProof.Rows L2
def mt (a b : Str) : Option Bool :=
  none
def ftab (a f : Str) : Bool :=
  if a = "SumBook" ∧ f = "length" then true else
  if a = "SumBook" ∧ f = "modulus" then true else
  if a = "SumBook" ∧ f = "rest" then true else
  if a = "WrongBook" ∧ f = "length" then true else
  if a = "WrongBook" ∧ f = "rest" then true else
  if a = "WrongBook" ∧ f = "modulus" then true else
  if a = "WrongBook" ∧ f = "size" then true else
  false
theorem ftab_SumBook_length : ftab "SumBook" "length" = true := by decide +kernel
theorem ftab_SumBook_modulus : ftab "SumBook" "modulus" = true := by decide +kernel
theorem ftab_SumBook_rest : ftab "SumBook" "rest" = true := by decide +kernel
theorem ftab_WrongBook_length : ftab "WrongBook" "length" = true := by decide +kernel
theorem ftab_WrongBook_rest : ftab "WrongBook" "rest" = true := by decide +kernel
theorem ftab_WrongBook_modulus : ftab "WrongBook" "modulus" = true := by decide +kernel
theorem ftab_WrongBook_size : ftab "WrongBook" "size" = true := by decide +kernel
theorem look_SumBook_length {x0 x1 x2 : Dt} : (List.zip (["length", "modulus", "rest"] : List Str) [x0, x1, x2]).lookup ("length" : Str) = some x0 := rfl
theorem putN_SumBook_length : putNs "length" ([] : List Str) = (["length"] : List Str) := by decide +kernel
theorem putD_SumBook_length { y : Dt} : putDs "length" y ([] : List Str) [] = [y] := rfl
theorem look_SumBook_modulus {x0 x1 x2 : Dt} : (List.zip (["length", "modulus", "rest"] : List Str) [x0, x1, x2]).lookup ("modulus" : Str) = some x1 := rfl
theorem putN_SumBook_modulus : putNs "modulus" (["length"] : List Str) = (["length", "modulus"] : List Str) := by decide +kernel
theorem putD_SumBook_modulus {x0 y : Dt} : putDs "modulus" y (["length"] : List Str) [x0] = [x0, y] := rfl
theorem look_SumBook_rest {x0 x1 x2 : Dt} : (List.zip (["length", "modulus", "rest"] : List Str) [x0, x1, x2]).lookup ("rest" : Str) = some x2 := rfl
theorem putN_SumBook_rest : putNs "rest" (["length", "modulus"] : List Str) = (["length", "modulus", "rest"] : List Str) := by decide +kernel
theorem putD_SumBook_rest {x0 x1 y : Dt} : putDs "rest" y (["length", "modulus"] : List Str) [x0, x1] = [x0, x1, y] := rfl
theorem look_SumBook_has {x0 x1 x2 : Dt} : (List.zip (["length", "modulus", "rest"] : List Str) [x0, x1, x2]).lookup ("has" : Str) = none := rfl
theorem look_SumBook_contrary {x0 x1 x2 : Dt} : (List.zip (["length", "modulus", "rest"] : List Str) [x0, x1, x2]).lookup ("contrary" : Str) = none := rfl
theorem look_SumBook_turned {x0 x1 x2 : Dt} : (List.zip (["length", "modulus", "rest"] : List Str) [x0, x1, x2]).lookup ("turned" : Str) = none := rfl
theorem look_WrongBook_length {x0 x1 x2 x3 : Dt} : (List.zip (["length", "rest", "modulus", "size"] : List Str) [x0, x1, x2, x3]).lookup ("length" : Str) = some x0 := rfl
theorem putN_WrongBook_length : putNs "length" ([] : List Str) = (["length"] : List Str) := by decide +kernel
theorem putD_WrongBook_length { y : Dt} : putDs "length" y ([] : List Str) [] = [y] := rfl
theorem look_WrongBook_rest {x0 x1 x2 x3 : Dt} : (List.zip (["length", "rest", "modulus", "size"] : List Str) [x0, x1, x2, x3]).lookup ("rest" : Str) = some x1 := rfl
theorem putN_WrongBook_rest : putNs "rest" (["length"] : List Str) = (["length", "rest"] : List Str) := by decide +kernel
theorem putD_WrongBook_rest {x0 y : Dt} : putDs "rest" y (["length"] : List Str) [x0] = [x0, y] := rfl
theorem look_WrongBook_modulus {x0 x1 x2 x3 : Dt} : (List.zip (["length", "rest", "modulus", "size"] : List Str) [x0, x1, x2, x3]).lookup ("modulus" : Str) = some x2 := rfl
theorem putN_WrongBook_modulus : putNs "modulus" (["length", "rest"] : List Str) = (["length", "rest", "modulus"] : List Str) := by decide +kernel
theorem putD_WrongBook_modulus {x0 x1 y : Dt} : putDs "modulus" y (["length", "rest"] : List Str) [x0, x1] = [x0, x1, y] := rfl
theorem look_WrongBook_size {x0 x1 x2 x3 : Dt} : (List.zip (["length", "rest", "modulus", "size"] : List Str) [x0, x1, x2, x3]).lookup ("size" : Str) = some x3 := rfl
theorem putN_WrongBook_size : putNs "size" (["length", "rest", "modulus"] : List Str) = (["length", "rest", "modulus", "size"] : List Str) := by decide +kernel
theorem putD_WrongBook_size {x0 x1 x2 y : Dt} : putDs "size" y (["length", "rest", "modulus"] : List Str) [x0, x1, x2] = [x0, x1, x2, y] := rfl
theorem look_WrongBook_has {x0 x1 x2 x3 : Dt} : (List.zip (["length", "rest", "modulus", "size"] : List Str) [x0, x1, x2, x3]).lookup ("has" : Str) = none := rfl
theorem look_WrongBook_contrary {x0 x1 x2 x3 : Dt} : (List.zip (["length", "rest", "modulus", "size"] : List Str) [x0, x1, x2, x3]).lookup ("contrary" : Str) = none := rfl
def tabI_SumBook (a : Str) : Option Bool :=
  if a = "SumBook" then some true else
  if a = "WrongBook" then some false else
  none
theorem tabI_SumBook_SumBook : tabI_SumBook "SumBook" = some true := by decide +kernel
theorem tabI_SumBook_WrongBook : tabI_SumBook "WrongBook" = some false := by decide +kernel
def tabI_WrongBook (a : Str) : Option Bool :=
  if a = "SumBook" then some false else
  if a = "WrongBook" then some true else
  none
theorem tabI_WrongBook_SumBook : tabI_WrongBook "SumBook" = some false := by decide +kernel
theorem tabI_WrongBook_WrongBook : tabI_WrongBook "WrongBook" = some true := by decide +kernel
def S_law_doubling : DSt := (sSeq (sOwn 1 (eLst eNil))
    (sSeq (sAsg (eC (.int 1)) (gD 2))
    (sSeq (sFor (eRng1 (eCons (eC (.int 9)) eNil)) (gD 3)
    (sSeq (sIf (eTest (eOp dLe (eVarB 2) (eVarB 0)))
    (sApp 1 (eVar 2))
    sNext)
    (sAsg (eOp dMul (eVarB 2) (eC (.int 2))) (gD 2))))
    (sFrz 1 (sRet (eVar 1))))))
theorem F_law_doubling_ex : ∃ x : DFn, x = mkD0 1 4 S_law_doubling := ⟨_, rfl⟩
noncomputable def F_law_doubling : DFn := F_law_doubling_ex.choose
theorem F_law_doubling_eq : F_law_doubling = mkD0 1 4 S_law_doubling := F_law_doubling_ex.choose_spec
def S_law_free : DSt := (sSeq (sAsg (eOp dAdd (eCall0 F_law_doubling [] (eConsS (eVar 0) eNil)) (eIf (eTru (eVarB 1)) (eLst (eCons (eVar 0) eNil)) (eLst eNil))) (gD 2))
    (sRet (eLc (eRng2 (eCons (eC (.int 1)) (eCons (eOp dAdd (eVarB 0) (eC (.int 1))) eNil))) (gD 3) (eTest (eOp dNotIn (eVarB 3) (eVarB 2))) (eVar 3) [3])))
theorem F_law_free_ex : ∃ x : DFn, x = mkD0 2 4 S_law_free := ⟨_, rfl⟩
noncomputable def F_law_free : DFn := F_law_free_ex.choose
theorem F_law_free_eq : F_law_free = mkD0 2 4 S_law_free := F_law_free_ex.choose_spec
def S_law_bits : DSt := (sSeq (sOwn 2 (eLst eNil))
    (sSeq (sFor (eRng1 (eCons (eVarB 1) eNil)) (gD 3)
    (sSeq (sApp 2 (eOp dMod (eCB dInt (eCons (eVarB 0) eNil)) (eC (.int 2))))
    (sAsg (eOp dFdiv (eCB dInt (eCons (eVarB 0) eNil)) (eC (.int 2))) (gD 0))))
    (sFrz 2 (sRet (eVar 2)))))
theorem F_law_bits_ex : ∃ x : DFn, x = mkD0 2 4 S_law_bits := ⟨_, rfl⟩
noncomputable def F_law_bits : DFn := F_law_bits_ex.choose
theorem F_law_bits_eq : F_law_bits = mkD0 2 4 S_law_bits := F_law_bits_ex.choose_spec
def S_law_power : DSt := (sSeq (sAsg (eC (.int 1)) (gD 2))
    (sSeq (sFor (eRng1 (eCons (eVarB 1) eNil)) (gD 3)
    (sAsg (eOp dMul (eVarB 2) (eVarB 0)) (gD 2)))
    (sRet (eVar 2))))
theorem F_law_power_ex : ∃ x : DFn, x = mkD0 2 4 S_law_power := ⟨_, rfl⟩
noncomputable def F_law_power : DFn := F_law_power_ex.choose
theorem F_law_power_eq : F_law_power = mkD0 2 4 S_law_power := F_law_power_ex.choose_spec
def S_law_exact (r : DFn) : DSt := (sSeq (sIf (eTru (eCB (dIsi2 "tuple" "list") (eCons (eVarB 1) (eCons (eTup (eCons (eC (.raw (.ty "tuple"))) (eCons (eC (.raw (.ty "list"))) eNil))) eNil))))
    (sSeq (sIf (eOrT (eNotT (eTru (eCB (dIsi "tuple") (eCons (eVarB 0) (eCons (eC (.raw (.ty "tuple"))) eNil))))) (eTest (eOp dNe (eCB dLen (eCons (eVarB 0) eNil)) (eCB dLen (eCons (eVarB 1) eNil)))))
    (sRet (eC (.bl false)))
    sNext)
    (sRet (eCB dAll (eCons (eLc (eRng1 (eCons (eCB dLen (eCons (eVarB 1) eNil)) eNil)) (gD 2) eYes (eCall0 r [] (eConsS (eOp dIx (eVarB 0) (eVarB 2)) (eConsS (eOp dIx (eVarB 1) (eVarB 2)) eNil))) [2]) eNil))))
    sNext)
    (sSeq (sIf (eTest (eOp dIsN (eVarB 1) (eC .non)))
    (sRet (eOp dIsN (eVarB 0) (eC .non)))
    sNext)
    (sSeq (sIf (eTru (eCB (dIsi "bool") (eCons (eVarB 1) (eCons (eC (.raw (.ty "bool"))) eNil))))
    (sRet (eAndV (eCB (dIsi "bool") (eCons (eVarB 0) (eCons (eC (.raw (.ty "bool"))) eNil))) (eOp dEq (eVarB 0) (eVarB 1))))
    sNext)
    (sSeq (sIf (eTru (eCB (dIsi "int") (eCons (eVarB 1) (eCons (eC (.raw (.ty "int"))) eNil))))
    (sRet (eAndV (eCB (dIsi "int") (eCons (eVarB 0) (eCons (eC (.raw (.ty "int"))) eNil))) (eAndV (eNotVT (eCB (dIsi "bool") (eCons (eVarB 0) (eCons (eC (.raw (.ty "bool"))) eNil)))) (eOp dEq (eVarB 0) (eVarB 1)))))
    sNext)
    (sRet (eAndV (eCB (dIsi "str") (eCons (eVarB 0) (eCons (eC (.raw (.ty "str"))) eNil))) (eOp dEq (eVarB 0) (eVarB 1))))))))
theorem F_law_exact_ex : ∃ x : Nat → DFn, x = fun n => Nat.rec (motive := fun _ => DFn) (fun _ _ _ => False) (fun _ r => mkD0 2 3 (S_law_exact r)) n := ⟨_, rfl⟩
noncomputable def F_law_exact : Nat → DFn := F_law_exact_ex.choose
theorem F_law_exact_eq : F_law_exact = fun n => Nat.rec (motive := fun _ => DFn) (fun _ _ _ => False) (fun _ r => mkD0 2 3 (S_law_exact r)) n := F_law_exact_ex.choose_spec
theorem F_law_exact_0 : F_law_exact 0 = fun _ _ _ => False := congrFun F_law_exact_eq 0
theorem F_law_exact_s (m : Nat) : F_law_exact (m + 1) = mkD0 2 3 (S_law_exact (F_law_exact m)) := by rw [F_law_exact_eq]
def S_is_whole : DSt := (sSeq (sIf (eOrT (eNotT (eTru (eCB (dIsi "int") (eCons (eVarB 0) (eCons (eC (.raw (.ty "int"))) eNil))))) (eTru (eCB (dIsi "bool") (eCons (eVarB 0) (eCons (eC (.raw (.ty "bool"))) eNil)))))
    (sRet (eC (.bl false)))
    sNext)
    (sRet (eAndV (eOrV (eOp dIsN (eVarB 1) (eC .non)) (eOp dGe (eVarB 0) (eVarB 1))) (eOrV (eOp dIsN (eVarB 2) (eC .non)) (eOp dLe (eVarB 0) (eVarB 2))))))
theorem F_is_whole_ex : ∃ x : DFn, x = mkD0 3 3 S_is_whole := ⟨_, rfl⟩
noncomputable def F_is_whole : DFn := F_is_whole_ex.choose
theorem F_is_whole_eq : F_is_whole = mkD0 3 3 S_is_whole := F_is_whole_ex.choose_spec
def S_check_number : DSt := (sSeq (sIf (eNotT (eTru (eCall0 F_is_whole [] (eConsS (eVar 0) (eConsS (eVar 1) (eConsS (eVar 2) eNil))))))
    (sRaise "BadNumber")
    sNext)
    (sRet (eVar 0)))
theorem F_check_number_ex : ∃ x : DFn, x = mkD 3 3 S_check_number := ⟨_, rfl⟩
noncomputable def F_check_number : DFn := F_check_number_ex.choose
theorem F_check_number_eq : F_check_number = mkD 3 3 S_check_number := F_check_number_ex.choose_spec
def S_fixed_places : DSt := (sOut (sOwn 1 (eLst eNil))
    (sOut (sAsg (eC (.int 1)) (gD 2))
    (sOut (sWhile (eTest (eOp dLe (eVarB 2) (eVarB 0)))
    (sSeq (sApp 1 (eVar 2))
    (sAsg (eOp dMul (eC (.int 2)) (eVarB 2)) (gD 2))))
    (sRetOwn 1))))
theorem F_fixed_places_ex : ∃ x : DFn, x = mkD0 1 3 S_fixed_places := ⟨_, rfl⟩
noncomputable def F_fixed_places : DFn := F_fixed_places_ex.choose
theorem F_fixed_places_eq : F_fixed_places = mkD0 1 3 S_fixed_places := F_fixed_places_ex.choose_spec
def S_free_places : DSt := (sSeq (sDrop (eCall F_check_number [] (eConsS (eVar 0) (eConsS (eC (.int 1)) (eConsS (eC (.int (200))) eNil)))))
    (sSeq (sOwn 2 (eCall0 F_fixed_places [] (eConsS (eVar 0) eNil)))
    (sSeq (sIf (eTru (eVarB 1))
    (sApp 2 (eVar 0))
    sNext)
    (sRet (eCB dTupOf (eCons (eLc (eRng2 (eCons (eC (.int 1)) (eCons (eOp dAdd (eVarB 0) (eC (.int 1))) eNil))) (gD 3) (eTest (eOp dNotIn (eVarB 3) (eVarB 2))) (eVar 3) [3]) eNil))))))
theorem F_free_places_ex : ∃ x : DFn, x = mkD 2 4 S_free_places := ⟨_, rfl⟩
noncomputable def F_free_places : DFn := F_free_places_ex.choose
theorem F_free_places_eq : F_free_places = mkD 2 4 S_free_places := F_free_places_ex.choose_spec
def S_law_either : DSt := (sRet (eIf (eTest (eOp dEq (eCall0 F_law_take [] (eConsH 0 (eConsS (eC (.int 2)) eNil))) (eC (.int 0)))) (eCB dLstOf (eCons (eVarB 1) eNil)) (eCB dTupOf (eCons (eVarB 1) eNil))))
theorem F_law_either_ex : ∃ x : DFn, x = mkD0 2 2 S_law_either := ⟨_, rfl⟩
noncomputable def F_law_either : DFn := F_law_either_ex.choose
theorem F_law_either_eq : F_law_either = mkD0 2 2 S_law_either := F_law_either_ex.choose_spec
def S_law_sum : DSt := (sRet (eCB dSum (eCons (eLc (eRng1 (eCons (eCB dLen (eCons (eVarB 0) eNil)) eNil)) (gD 1) eYes (eOp dMul (eOp dAdd (eVarB 1) (eC (.int 1))) (eOp dIx (eVarB 0) (eVarB 1))) [1]) eNil)))
theorem F_law_sum_ex : ∃ x : DFn, x = mkD0 1 2 S_law_sum := ⟨_, rfl⟩
noncomputable def F_law_sum : DFn := F_law_sum_ex.choose
theorem F_law_sum_eq : F_law_sum = mkD0 1 2 S_law_sum := F_law_sum_ex.choose_spec
theorem S_law_data_b5_ex : ∃ x : DSt, x = (sPut 6 (eOp dSub (eOp dIx (eVarB 5) (eVarB 7)) (eC (.int 1))) (eOp dIx (eVarB 2) (eVarB 7))) := ⟨_, rfl⟩
noncomputable def S_law_data_b5 : DSt := S_law_data_b5_ex.choose
theorem S_law_data_b5_eq : S_law_data_b5 = (sPut 6 (eOp dSub (eOp dIx (eVarB 5) (eVarB 7)) (eC (.int 1))) (eOp dIx (eVarB 2) (eVarB 7))) := S_law_data_b5_ex.choose_spec
theorem S_law_data_r10_ex : ∃ x : DSt, x = (sAsg (eOp dSub (eVarB 8) (eVarB 0)) (gD 8)) := ⟨_, rfl⟩
noncomputable def S_law_data_r10 : DSt := S_law_data_r10_ex.choose
theorem S_law_data_r10_eq : S_law_data_r10 = (sAsg (eOp dSub (eVarB 8) (eVarB 0)) (gD 8)) := S_law_data_r10_ex.choose_spec
theorem S_law_data_b12_ex : ∃ x : DSt, x = (sPut 6 (eOp dSub (eVarB 10) (eC (.int 1))) (eOp dMod (eCB dInt (eCons (eOp dFdiv (eVarB 8) (eVarB 10)) eNil)) (eC (.int 2)))) := ⟨_, rfl⟩
noncomputable def S_law_data_b12 : DSt := S_law_data_b12_ex.choose
theorem S_law_data_b12_eq : S_law_data_b12 = (sPut 6 (eOp dSub (eVarB 10) (eC (.int 1))) (eOp dMod (eCB dInt (eCons (eOp dFdiv (eVarB 8) (eVarB 10)) eNil)) (eC (.int 2)))) := S_law_data_b12_ex.choose_spec
theorem S_law_data_r13_ex : ∃ x : DSt, x = (sRet (eCB dTupOf (eCons (eVarB 6) eNil))) := ⟨_, rfl⟩
noncomputable def S_law_data_r13 : DSt := S_law_data_r13_ex.choose
theorem S_law_data_r13_eq : S_law_data_r13 = (sRet (eCB dTupOf (eCons (eVarB 6) eNil))) := S_law_data_r13_ex.choose_spec
theorem S_law_data_r11_ex : ∃ x : DSt, x = (sSeq (sFor (eSeq (eVar 9)) (gD 10)
    S_law_data_b12)
    S_law_data_r13) := ⟨_, rfl⟩
noncomputable def S_law_data_r11 : DSt := S_law_data_r11_ex.choose
theorem S_law_data_r11_eq : S_law_data_r11 = (sSeq (sFor (eSeq (eVar 9)) (gD 10)
    S_law_data_b12)
    S_law_data_r13) := S_law_data_r11_ex.choose_spec
theorem S_law_data_r8_ex : ∃ x : DSt, x = (sSeq (sIf (eAndT (eTru (eVarB 3)) (eAndT (eTest (eOp dNotIn (eVarB 0) (eVarB 9))) (eTest (eOp dGt (eVarB 8) (eCB dSum (eCons (eVarB 9) eNil))))))
    (sSeq (sPut 6 (eOp dSub (eVarB 0) (eC (.int 1))) (eC (.int 1)))
    S_law_data_r10)
    sNext)
    S_law_data_r11) := ⟨_, rfl⟩
noncomputable def S_law_data_r8 : DSt := S_law_data_r8_ex.choose
theorem S_law_data_r8_eq : S_law_data_r8 = (sSeq (sIf (eAndT (eTru (eVarB 3)) (eAndT (eTest (eOp dNotIn (eVarB 0) (eVarB 9))) (eTest (eOp dGt (eVarB 8) (eCB dSum (eCons (eVarB 9) eNil))))))
    (sSeq (sPut 6 (eOp dSub (eVarB 0) (eC (.int 1))) (eC (.int 1)))
    S_law_data_r10)
    sNext)
    S_law_data_r11) := S_law_data_r8_ex.choose_spec
theorem S_law_data_r7_ex : ∃ x : DSt, x = (sSeq (sAsg (eCall0 F_law_doubling [] (eConsS (eVar 0) eNil)) (gD 9))
    S_law_data_r8) := ⟨_, rfl⟩
noncomputable def S_law_data_r7 : DSt := S_law_data_r7_ex.choose
theorem S_law_data_r7_eq : S_law_data_r7 = (sSeq (sAsg (eCall0 F_law_doubling [] (eConsS (eVar 0) eNil)) (gD 9))
    S_law_data_r8) := S_law_data_r7_ex.choose_spec
theorem S_law_data_r6_ex : ∃ x : DSt, x = (sSeq (sKeep 6 8 (eOp dMod (eCB dInt (eCons (eOp dSub (eVarB 1) (eCall0 F_law_sum [] (eConsS (eVar 6) eNil))) eNil)) (eVarB 4)))
    S_law_data_r7) := ⟨_, rfl⟩
noncomputable def S_law_data_r6 : DSt := S_law_data_r6_ex.choose
theorem S_law_data_r6_eq : S_law_data_r6 = (sSeq (sKeep 6 8 (eOp dMod (eCB dInt (eCons (eOp dSub (eVarB 1) (eCall0 F_law_sum [] (eConsS (eVar 6) eNil))) eNil)) (eVarB 4)))
    S_law_data_r7) := S_law_data_r6_ex.choose_spec
theorem S_law_data_r4_ex : ∃ x : DSt, x = (sSeq (sFor (eRng1 (eCons (eCB dLen (eCons (eVarB 5) eNil)) eNil)) (gD 7)
    S_law_data_b5)
    S_law_data_r6) := ⟨_, rfl⟩
noncomputable def S_law_data_r4 : DSt := S_law_data_r4_ex.choose
theorem S_law_data_r4_eq : S_law_data_r4 = (sSeq (sFor (eRng1 (eCons (eCB dLen (eCons (eVarB 5) eNil)) eNil)) (gD 7)
    S_law_data_b5)
    S_law_data_r6) := S_law_data_r4_ex.choose_spec
theorem S_law_data_r3_ex : ∃ x : DSt, x = (sSeq (sOwn 6 (eOp dMulL (eLst (eCons (eC (.int 0)) eNil)) (eVarB 0)))
    S_law_data_r4) := ⟨_, rfl⟩
noncomputable def S_law_data_r3 : DSt := S_law_data_r3_ex.choose
theorem S_law_data_r3_eq : S_law_data_r3 = (sSeq (sOwn 6 (eOp dMulL (eLst (eCons (eC (.int 0)) eNil)) (eVarB 0)))
    S_law_data_r4) := S_law_data_r3_ex.choose_spec
theorem S_law_data_r2_ex : ∃ x : DSt, x = (sSeq (sAsg (eCall0 F_law_free [] (eConsS (eVar 0) (eConsS (eVar 3) eNil))) (gD 5))
    S_law_data_r3) := ⟨_, rfl⟩
noncomputable def S_law_data_r2 : DSt := S_law_data_r2_ex.choose
theorem S_law_data_r2_eq : S_law_data_r2 = (sSeq (sAsg (eCall0 F_law_free [] (eConsS (eVar 0) (eConsS (eVar 3) eNil))) (gD 5))
    S_law_data_r3) := S_law_data_r2_ex.choose_spec
def S_law_data : DSt := (sSeq (sAsg (eIf (eTru (eVarB 3)) (eOp dMul (eC (.int 2)) (eVarB 0)) (eOp dAdd (eVarB 0) (eC (.int 1)))) (gD 4))
    S_law_data_r2)
theorem F_law_data_ex : ∃ x : DFn, x = mkD0 4 11 S_law_data := ⟨_, rfl⟩
noncomputable def F_law_data : DFn := F_law_data_ex.choose
theorem F_law_data_eq : F_law_data = mkD0 4 11 S_law_data := F_law_data_ex.choose_spec
def S_check_bits : DSt := (sSeq (sIf (eOrT (eNotT (eTru (eCB (dIsi2 "list" "tuple") (eCons (eVarB 0) (eCons (eTup (eCons (eC (.raw (.ty "list"))) (eCons (eC (.raw (.ty "tuple"))) eNil))) eNil))))) (eTest (eOp dNe (eCB dLen (eCons (eVarB 0) eNil)) (eVarB 1))))
    (sRaise1 "BadBits" "index" (eUn dNeg (eC (.int 1))))
    sNext)
    (sSeq (sFor (eEnum (eCons (eVar 0) eNil)) (gD2 2 3)
    (sIf (eNotT (eTru (eCall0 F_is_whole [] (eConsS (eVar 3) (eConsS (eC (.int 0)) (eConsS (eC (.int 1)) eNil))))))
    (sRaise1 "BadBits" "index" (eVar 2))
    sNext))
    (sRet (eCB dTupOf (eCons (eVarB 0) eNil)))))
theorem F_check_bits_ex : ∃ x : DFn, x = mkD 2 4 S_check_bits := ⟨_, rfl⟩
noncomputable def F_check_bits : DFn := F_check_bits_ex.choose
theorem F_check_bits_eq : F_check_bits = mkD 2 4 S_check_bits := F_check_bits_ex.choose_spec
def S_sum_of : DSt := (sRet (eCB dSum (eCons (eLc (eEnumK 1 (eCons (eVarB 0) eNil)) (gD2 1 2) (eTest (eOp dEq (eVarB 2) (eC (.int 1)))) (eVar 1) [1, 2]) eNil)))
theorem F_sum_of_ex : ∃ x : DFn, x = mkD0 1 3 S_sum_of := ⟨_, rfl⟩
noncomputable def F_sum_of : DFn := F_sum_of_ex.choose
theorem F_sum_of_eq : F_sum_of = mkD0 1 3 S_sum_of := F_sum_of_ex.choose_spec
def S_check_word : DSt := (sSeq (sIf (eOrT (eNotT (eTru (eCB (dIsi2 "list" "tuple") (eCons (eVarB 1) (eCons (eTup (eCons (eC (.raw (.ty "list"))) (eCons (eC (.raw (.ty "tuple"))) eNil))) eNil))))) (eTest (eOp dGt (eCB dLen (eCons (eVarB 1) eNil)) (eVarB 2))))
    (sRaise1 "BadWord" "index" (eUn dNeg (eC (.int 1))))
    sNext)
    (sSeq (sFor (eEnum (eCons (eVar 1) eNil)) (gD2 3 4)
    (sIf (eNotT (eTru (eCall0 F_is_whole [] (eConsS (eVar 4) (eConsS (eC (.int 0)) (eConsS (eOp dSub (eVarB 0) (eC (.int 1))) eNil))))))
    (sRaise1 "BadWord" "index" (eVar 3))
    sNext))
    (sRet (eCB dTupOf (eCons (eVarB 1) eNil)))))
theorem F_check_word_ex : ∃ x : DFn, x = mkD 3 5 S_check_word := ⟨_, rfl⟩
noncomputable def F_check_word : DFn := F_check_word_ex.choose
theorem F_check_word_eq : F_check_word = mkD 3 5 S_check_word := F_check_word_ex.choose_spec
def S_place_sum : DSt := (sRet (eCall0 F_sum_of [] (eConsS (eCall F_check_word [] (eConsS (eC (.int 2)) (eConsS (eVar 0) (eConsS (eOp dAdd (eC (.int (200))) (eC (.int 1))) eNil)))) eNil)))
theorem F_place_sum_ex : ∃ x : DFn, x = mkD 1 1 S_place_sum := ⟨_, rfl⟩
noncomputable def F_place_sum : DFn := F_place_sum_ex.choose
theorem F_place_sum_eq : F_place_sum = mkD 1 1 S_place_sum := F_place_sum_ex.choose_spec
theorem S_data_word_b8_ex : ∃ x : DSt, x = (sPut 6 (eOp dSub (eVarB 7) (eC (.int 1))) (eVar 8)) := ⟨_, rfl⟩
noncomputable def S_data_word_b8 : DSt := S_data_word_b8_ex.choose
theorem S_data_word_b8_eq : S_data_word_b8 = (sPut 6 (eOp dSub (eVarB 7) (eC (.int 1))) (eVar 8)) := S_data_word_b8_ex.choose_spec
theorem S_data_word_r13_ex : ∃ x : DSt, x = (sAug (· - ·) 9 (eVar 0)) := ⟨_, rfl⟩
noncomputable def S_data_word_r13 : DSt := S_data_word_r13_ex.choose
theorem S_data_word_r13_eq : S_data_word_r13 = (sAug (· - ·) 9 (eVar 0)) := S_data_word_r13_ex.choose_spec
theorem S_data_word_b15_ex : ∃ x : DSt, x = (sIf (eTru (eOp dAnd (eVarB 9) (eVarB 7)))
    (sPut 6 (eOp dSub (eVarB 7) (eC (.int 1))) (eC (.int 1)))
    sNext) := ⟨_, rfl⟩
noncomputable def S_data_word_b15 : DSt := S_data_word_b15_ex.choose
theorem S_data_word_b15_eq : S_data_word_b15 = (sIf (eTru (eOp dAnd (eVarB 9) (eVarB 7)))
    (sPut 6 (eOp dSub (eVarB 7) (eC (.int 1))) (eC (.int 1)))
    sNext) := S_data_word_b15_ex.choose_spec
theorem S_data_word_r17_ex : ∃ x : DSt, x = (sRet (eCB dTupOf (eCons (eVarB 6) eNil))) := ⟨_, rfl⟩
noncomputable def S_data_word_r17 : DSt := S_data_word_r17_ex.choose
theorem S_data_word_r17_eq : S_data_word_r17 = (sRet (eCB dTupOf (eCons (eVarB 6) eNil))) := S_data_word_r17_ex.choose_spec
theorem S_data_word_r14_ex : ∃ x : DSt, x = (sSeq (sFor (eSeq (eVar 10)) (gD 7)
    S_data_word_b15)
    S_data_word_r17) := ⟨_, rfl⟩
noncomputable def S_data_word_r14 : DSt := S_data_word_r14_ex.choose
theorem S_data_word_r14_eq : S_data_word_r14 = (sSeq (sFor (eSeq (eVar 10)) (gD 7)
    S_data_word_b15)
    S_data_word_r17) := S_data_word_r14_ex.choose_spec
theorem S_data_word_r11_ex : ∃ x : DSt, x = (sSeq (sIf (eTest (eOp dGt (eVarB 9) (eCB dSum (eCons (eVarB 10) eNil))))
    (sSeq (sPut 6 (eOp dSub (eVarB 0) (eC (.int 1))) (eC (.int 1)))
    S_data_word_r13)
    sNext)
    S_data_word_r14) := ⟨_, rfl⟩
noncomputable def S_data_word_r11 : DSt := S_data_word_r11_ex.choose
theorem S_data_word_r11_eq : S_data_word_r11 = (sSeq (sIf (eTest (eOp dGt (eVarB 9) (eCB dSum (eCons (eVarB 10) eNil))))
    (sSeq (sPut 6 (eOp dSub (eVarB 0) (eC (.int 1))) (eC (.int 1)))
    S_data_word_r13)
    sNext)
    S_data_word_r14) := S_data_word_r11_ex.choose_spec
theorem S_data_word_r10_ex : ∃ x : DSt, x = (sSeq (sAsg (eCall0 F_fixed_places [] (eConsS (eVar 0) eNil)) (gD 10))
    S_data_word_r11) := ⟨_, rfl⟩
noncomputable def S_data_word_r10 : DSt := S_data_word_r10_ex.choose
theorem S_data_word_r10_eq : S_data_word_r10 = (sSeq (sAsg (eCall0 F_fixed_places [] (eConsS (eVar 0) eNil)) (gD 10))
    S_data_word_r11) := S_data_word_r10_ex.choose_spec
theorem S_data_word_r9_ex : ∃ x : DSt, x = (sSeq (sKeep 6 9 (eOp dMod (eOp dSub (eVarB 1) (eCall F_place_sum [] (eConsS (eVar 6) eNil))) (eVarB 5)))
    S_data_word_r10) := ⟨_, rfl⟩
noncomputable def S_data_word_r9 : DSt := S_data_word_r9_ex.choose
theorem S_data_word_r9_eq : S_data_word_r9 = (sSeq (sKeep 6 9 (eOp dMod (eOp dSub (eVarB 1) (eCall F_place_sum [] (eConsS (eVar 6) eNil))) (eVarB 5)))
    S_data_word_r10) := S_data_word_r9_ex.choose_spec
theorem S_data_word_r7_ex : ∃ x : DSt, x = (sSeq (sFor (eZip (eVar 4) (eVar 2)) (gD2 7 8)
    S_data_word_b8)
    S_data_word_r9) := ⟨_, rfl⟩
noncomputable def S_data_word_r7 : DSt := S_data_word_r7_ex.choose
theorem S_data_word_r7_eq : S_data_word_r7 = (sSeq (sFor (eZip (eVar 4) (eVar 2)) (gD2 7 8)
    S_data_word_b8)
    S_data_word_r9) := S_data_word_r7_ex.choose_spec
theorem S_data_word_r6_ex : ∃ x : DSt, x = (sSeq (sOwn 6 (eOp dMulL (eLst (eCons (eC (.int 0)) eNil)) (eVarB 0)))
    S_data_word_r7) := ⟨_, rfl⟩
noncomputable def S_data_word_r6 : DSt := S_data_word_r6_ex.choose
theorem S_data_word_r6_eq : S_data_word_r6 = (sSeq (sOwn 6 (eOp dMulL (eLst (eCons (eC (.int 0)) eNil)) (eVarB 0)))
    S_data_word_r7) := S_data_word_r6_ex.choose_spec
theorem S_data_word_r5_ex : ∃ x : DSt, x = (sSeq (sAsg (eCall F_check_bits [] (eConsS (eVar 2) (eConsS (eCB dLen (eCons (eVarB 4) eNil)) eNil))) (gD 2))
    S_data_word_r6) := ⟨_, rfl⟩
noncomputable def S_data_word_r5 : DSt := S_data_word_r5_ex.choose
theorem S_data_word_r5_eq : S_data_word_r5 = (sSeq (sAsg (eCall F_check_bits [] (eConsS (eVar 2) (eConsS (eCB dLen (eCons (eVarB 4) eNil)) eNil))) (gD 2))
    S_data_word_r6) := S_data_word_r5_ex.choose_spec
theorem S_data_word_r3_ex : ∃ x : DSt, x = (sSeq (sIf (eNotT (eTru (eCall0 F_is_whole [] (eConsS (eVar 1) (eConsS (eC (.int 0)) (eConsS (eOp dSub (eVarB 5) (eC (.int 1))) eNil))))))
    (sRaise "BadRest")
    sNext)
    S_data_word_r5) := ⟨_, rfl⟩
noncomputable def S_data_word_r3 : DSt := S_data_word_r3_ex.choose
theorem S_data_word_r3_eq : S_data_word_r3 = (sSeq (sIf (eNotT (eTru (eCall0 F_is_whole [] (eConsS (eVar 1) (eConsS (eC (.int 0)) (eConsS (eOp dSub (eVarB 5) (eC (.int 1))) eNil))))))
    (sRaise "BadRest")
    sNext)
    S_data_word_r5) := S_data_word_r3_ex.choose_spec
theorem S_data_word_r2_ex : ∃ x : DSt, x = (sSeq (sAsg (eIf (eTru (eVarB 3)) (eOp dMul (eC (.int 2)) (eVarB 0)) (eOp dAdd (eVarB 0) (eC (.int 1)))) (gD 5))
    S_data_word_r3) := ⟨_, rfl⟩
noncomputable def S_data_word_r2 : DSt := S_data_word_r2_ex.choose
theorem S_data_word_r2_eq : S_data_word_r2 = (sSeq (sAsg (eIf (eTru (eVarB 3)) (eOp dMul (eC (.int 2)) (eVarB 0)) (eOp dAdd (eVarB 0) (eC (.int 1)))) (gD 5))
    S_data_word_r3) := S_data_word_r2_ex.choose_spec
def S_data_word : DSt := (sSeq (sAsg (eCallK 1 1 F_free_places [] [] (eConsS (eVar 0) eNil) (eConsS (eVar 3) eNil)) (gD 4))
    S_data_word_r2)
theorem F_data_word_ex : ∃ x : DFn, x = mkD 4 11 S_data_word := ⟨_, rfl⟩
noncomputable def F_data_word : DFn := F_data_word_ex.choose
theorem F_data_word_eq : F_data_word = mkD 4 11 S_data_word := F_data_word_ex.choose_spec
def S_WrongBook_has : DSt := (sSeq (sAsg (eCall F_check_word [] (eConsS (eC (.int 2)) (eConsS (eVar 1) (eConsS (eC (.int (61))) eNil)))) (gD 1))
    (sRet (eAndV (eOp dEq (eCB dLen (eCons (eVarB 1) eNil)) (eFld ftab "length" (eVarB 0))) (eOp dEq (eOp dMod (eCall F_place_sum [] (eConsS (eVar 1) eNil)) (eFld ftab "modulus" (eVarB 0))) (eFld ftab "rest" (eVarB 0))))))
theorem F_WrongBook_has_ex : ∃ x : DFn, x = mkD 2 2 S_WrongBook_has := ⟨_, rfl⟩
noncomputable def F_WrongBook_has : DFn := F_WrongBook_has_ex.choose
theorem F_WrongBook_has_eq : F_WrongBook_has = mkD 2 2 S_WrongBook_has := F_WrongBook_has_ex.choose_spec
def S_check_rest_sizes : DSt := (sIf (eNotT (eTru (eCall0 F_is_whole [] (eConsS (eVar 0) (eConsS (eC (.int 0)) (eConsS (eVar 1) eNil))))))
    (sRaise "BadRest")
    sNext)
theorem F_check_rest_sizes_ex : ∃ x : DFn, x = mkD 2 2 S_check_rest_sizes := ⟨_, rfl⟩
noncomputable def F_check_rest_sizes : DFn := F_check_rest_sizes_ex.choose
theorem F_check_rest_sizes_eq : F_check_rest_sizes = mkD 2 2 S_check_rest_sizes := F_check_rest_sizes_ex.choose_spec
def S_divisors_of : DSt := (sSeq (sDrop (eCall F_check_number [] (eConsS (eVar 0) (eConsS (eC (.int 1)) (eConsS (eC (.int (2000))) eNil)))))
    (sRet (eCB dTupOf (eCons (eLc (eRng2 (eCons (eC (.int 1)) (eCons (eOp dAdd (eVarB 0) (eC (.int 1))) eNil))) (gD 1) (eTest (eOp dEq (eOp dMod (eVarB 0) (eVarB 1)) (eC (.int 0)))) (eVar 1) [1]) eNil))))
theorem F_divisors_of_ex : ∃ x : DFn, x = mkD 1 2 S_divisors_of := ⟨_, rfl⟩
noncomputable def F_divisors_of : DFn := F_divisors_of_ex.choose
theorem F_divisors_of_eq : F_divisors_of = mkD 1 2 S_divisors_of := F_divisors_of_ex.choose_spec
def S_primes_of : DSt := (sSeq (sOwn 1 (eLst eNil))
    (sSeq (sAsg (eC (.int 2)) (gD 2))
    (sSeq (sWhile (eTest (eOp dGt (eVarB 0) (eC (.int 1))))
    (sIf (eTest (eOp dEq (eOp dMod (eVarB 0) (eVarB 2)) (eC (.int 0))))
    (sSeq (sApp 1 (eVar 2))
    (sAsg (eOp dFdiv (eVarB 0) (eVarB 2)) (gD 0)))
    (sAug (· + ·) 2 (eC (.int 1)))))
    (sFrz 1 (sRet (eVar 1))))))
theorem F_primes_of_ex : ∃ x : DFn, x = mkD0 1 3 S_primes_of := ⟨_, rfl⟩
noncomputable def F_primes_of : DFn := F_primes_of_ex.choose
theorem F_primes_of_eq : F_primes_of = mkD0 1 3 S_primes_of := F_primes_of_ex.choose_spec
def S_phi_of : DSt := (sSeq (sDrop (eCall F_check_number [] (eConsS (eVar 0) (eConsS (eC (.int 1)) (eConsS (eC (.int (2000))) eNil)))))
    (sSeq (sAsg (eC (.int 1)) (gD 1))
    (sSeq (sAsg (eC (.int 1)) (gD 2))
    (sSeq (sFor (eSeq (eCall0 F_primes_of [] (eConsS (eVar 0) eNil))) (gD 3)
    (sSeq (sAsg (eOp dMul (eVarB 1) (eIf (eTest (eOp dEq (eVarB 3) (eVarB 2))) (eVar 3) (eOp dSub (eVarB 3) (eC (.int 1))))) (gD 1))
    (sAsg (eVar 3) (gD 2))))
    (sRet (eVar 1))))))
theorem F_phi_of_ex : ∃ x : DFn, x = mkD 1 4 S_phi_of := ⟨_, rfl⟩
noncomputable def F_phi_of : DFn := F_phi_of_ex.choose
theorem F_phi_of_eq : F_phi_of = mkD 1 4 S_phi_of := F_phi_of_ex.choose_spec
def S_mu_of : DSt := (sSeq (sDrop (eCall F_check_number [] (eConsS (eVar 0) (eConsS (eC (.int 1)) (eConsS (eC (.int (2000))) eNil)))))
    (sSeq (sAsg (eCall0 F_primes_of [] (eConsS (eVar 0) eNil)) (gD 1))
    (sSeq (sIf (eTest (eOp dLt (eLenSet (eVarB 1)) (eCB dLen (eCons (eVarB 1) eNil))))
    (sRet (eC (.int 0)))
    sNext)
    (sRet (eIf (eTest (eOp dEq (eOp dMod (eCB dLen (eCons (eVarB 1) eNil)) (eC (.int 2))) (eC (.int 0)))) (eC (.int 1)) (eUn dNeg (eC (.int 1))))))))
theorem F_mu_of_ex : ∃ x : DFn, x = mkD 1 2 S_mu_of := ⟨_, rfl⟩
noncomputable def F_mu_of : DFn := F_mu_of_ex.choose
theorem F_mu_of_eq : F_mu_of = mkD 1 2 S_mu_of := F_mu_of_ex.choose_spec
def S_ram_of : DSt := (sSeq (sDrop (eCall F_check_number [] (eConsS (eVar 0) (eConsS (eC (.int 1)) (eConsS (eC (.int (2000))) eNil)))))
    (sSeq (sDrop (eCall F_check_number [] (eConsS (eVar 1) (eConsS (eC (.int 0)) (eConsS (eC (.int (2000))) eNil)))))
    (sSeq (sAsg (eOp dFdiv (eVarB 0) (eCB dGcd (eCons (eVarB 0) (eCons (eVarB 1) eNil)))) (gD 2))
    (sRet (eOp dFdiv (eOp dMul (eCall F_phi_of [] (eConsS (eVar 0) eNil)) (eCall F_mu_of [] (eConsS (eVar 2) eNil))) (eCall F_phi_of [] (eConsS (eVar 2) eNil)))))))
theorem F_ram_of_ex : ∃ x : DFn, x = mkD 2 3 S_ram_of := ⟨_, rfl⟩
noncomputable def F_ram_of : DFn := F_ram_of_ex.choose
theorem F_ram_of_eq : F_ram_of = mkD 2 3 S_ram_of := F_ram_of_ex.choose_spec
def S_size_of : DSt := (sSeq (sDrop (eCall F_check_number [] (eConsS (eVar 0) (eConsS (eC (.int 0)) (eConsS (eC (.int (200))) eNil)))))
    (sSeq (sDrop (eCall F_check_rest_sizes [] (eConsS (eVar 1) (eConsS (eVar 0) eNil))))
    (sSeq (sAsg (eOp dAdd (eVarB 0) (eC (.int 1))) (gD 2))
    (sSeq (sAsg (eCB dSum (eCons (eLc (eSeq (eCall F_divisors_of [] (eConsS (eVar 2) eNil))) (gD 4) (eTest (eOp dEq (eOp dMod (eVarB 4) (eC (.int 2))) (eC (.int 1)))) (eOp dMul (eCall0 F_ram_of [] (eConsS (eVar 4) (eConsS (eVar 1) eNil))) (eOp dShl (eC (.int 1)) (eOp dFdiv (eVarB 2) (eVarB 4)))) [4]) eNil)) (gD 3))
    (sRet (eOp dFdiv (eVarB 3) (eOp dMul (eC (.int 2)) (eVarB 2))))))))
theorem F_size_of_ex : ∃ x : DFn, x = mkD 2 5 S_size_of := ⟨_, rfl⟩
noncomputable def F_size_of : DFn := F_size_of_ex.choose
theorem F_size_of_eq : F_size_of = mkD 2 5 S_size_of := F_size_of_ex.choose_spec
def S_WrongBook___init : DSt := (sSeq (sDrop (eCall F_check_number [] (eConsS (eVar 1) (eConsS (eC (.int 1)) (eConsS (eC (.int (60))) eNil)))))
    (sSeq (sIf (eNotT (eTru (eCall0 F_is_whole [] (eConsS (eVar 2) (eConsS (eC (.int 0)) (eConsS (eOp dSub (eOp dMul (eC (.int 2)) (eVarB 1)) (eC (.int 1))) eNil))))))
    (sRaise "BadRest")
    sNext)
    (sSeq (sSetF ftab "length" 0 (eVar 1))
    (sSeq (sSetF ftab "rest" 0 (eVar 2))
    (sSeq (sSetF ftab "modulus" 0 (eOp dMul (eC (.int 2)) (eVarB 1)))
    (sSetF ftab "size" 0 (eCall F_size_of [] (eConsS (eOp dSub (eVarB 1) (eC (.int 1))) (eConsS (eOp dMod (eVarB 2) (eVarB 1)) eNil)))))))))
theorem F_WrongBook___init_ex : ∃ x : DFn, x = mkI "WrongBook" 3 3 S_WrongBook___init := ⟨_, rfl⟩
noncomputable def F_WrongBook___init : DFn := F_WrongBook___init_ex.choose
theorem F_WrongBook___init_eq : F_WrongBook___init = mkI "WrongBook" 3 3 S_WrongBook___init := F_WrongBook___init_ex.choose_spec
def S_SumBook_has : DSt := (sSeq (sAsg (eCall F_check_word [] (eConsS (eC (.int 2)) (eConsS (eVar 1) (eConsS (eC (.int (200))) eNil)))) (gD 1))
    (sRet (eAndV (eOp dEq (eCB dLen (eCons (eVarB 1) eNil)) (eFld ftab "length" (eVarB 0))) (eOp dEq (eOp dMod (eCall0 F_sum_of [] (eConsS (eVar 1) eNil)) (eFld ftab "modulus" (eVarB 0))) (eFld ftab "rest" (eVarB 0))))))
theorem F_SumBook_has_ex : ∃ x : DFn, x = mkD 2 2 S_SumBook_has := ⟨_, rfl⟩
noncomputable def F_SumBook_has : DFn := F_SumBook_has_ex.choose
theorem F_SumBook_has_eq : F_SumBook_has = mkD 2 2 S_SumBook_has := F_SumBook_has_ex.choose_spec
def S_check_modulus : DSt := (sIf (eNotT (eTru (eCall0 F_is_whole [] (eConsS (eVar 0) (eConsS (eVar 1) (eConsS (eC (.int (1000000))) eNil))))))
    (sRaise "BadModulus")
    sNext)
theorem F_check_modulus_ex : ∃ x : DFn, x = mkD 2 2 S_check_modulus := ⟨_, rfl⟩
noncomputable def F_check_modulus : DFn := F_check_modulus_ex.choose
theorem F_check_modulus_eq : F_check_modulus = mkD 2 2 S_check_modulus := F_check_modulus_ex.choose_spec
def S_check_rest_sums : DSt := (sIf (eNotT (eTru (eCall0 F_is_whole [] (eConsS (eVar 0) (eConsS (eC (.int 0)) (eConsS (eOp dSub (eVarB 1) (eC (.int 1))) eNil))))))
    (sRaise "BadRest")
    sNext)
theorem F_check_rest_sums_ex : ∃ x : DFn, x = mkD 2 2 S_check_rest_sums := ⟨_, rfl⟩
noncomputable def F_check_rest_sums : DFn := F_check_rest_sums_ex.choose
theorem F_check_rest_sums_eq : F_check_rest_sums = mkD 2 2 S_check_rest_sums := F_check_rest_sums_ex.choose_spec
def S_SumBook___init : DSt := (sSeq (sDrop (eCall F_check_number [] (eConsS (eVar 1) (eConsS (eC (.int 0)) (eConsS (eC (.int (200))) eNil)))))
    (sSeq (sDrop (eCall F_check_modulus [] (eConsS (eVar 2) (eConsS (eOp dAdd (eVarB 1) (eC (.int 1))) eNil))))
    (sSeq (sDrop (eCall F_check_rest_sums [] (eConsS (eVar 3) (eConsS (eVar 2) eNil))))
    (sSeq (sSetF ftab "length" 0 (eVar 1))
    (sSeq (sSetF ftab "modulus" 0 (eVar 2))
    (sSetF ftab "rest" 0 (eVar 3)))))))
theorem F_SumBook___init_ex : ∃ x : DFn, x = mkI "SumBook" 4 4 S_SumBook___init := ⟨_, rfl⟩
noncomputable def F_SumBook___init : DFn := F_SumBook___init_ex.choose
theorem F_SumBook___init_eq : F_SumBook___init = mkI "SumBook" 4 4 S_SumBook___init := F_SumBook___init_ex.choose_spec
def S_data_of : DSt := (sSeq (sAsg (eCall F_check_word [] (eConsS (eC (.int 2)) (eConsS (eVar 0) (eConsS (eC (.int (200))) eNil)))) (gD 0))
    (sSeq (sIf (eNotT (eTru (eVarB 0)))
    (sRaise1 "BadWord" "index" (eUn dNeg (eC (.int 1))))
    sNext)
    (sRet (eCB dTupOf (eCons (eLc (eSeq (eCallK 1 1 F_free_places [] [] (eConsS (eCB dLen (eCons (eVarB 0) eNil)) eNil) (eConsS (eVar 1) eNil))) (gD 2) eYes (eOp dIx (eVarB 0) (eOp dSub (eVarB 2) (eC (.int 1)))) [2]) eNil)))))
theorem F_data_of_ex : ∃ x : DFn, x = mkD 2 3 S_data_of := ⟨_, rfl⟩
noncomputable def F_data_of : DFn := F_data_of_ex.choose
theorem F_data_of_eq : F_data_of = mkD 2 3 S_data_of := F_data_of_ex.choose_spec
theorem S_law_word_holds_r15_ex : ∃ x : DSt, x = (sRet (eAndV (eCall0 (F_law_exact 8) [] (eConsS (eVar 8) (eConsS (eVar 3) eNil))) (eOrV (eVar 4) (eCall0 (F_law_exact 8) [] (eConsS (eCall0 F_data_of [.d (.bl false)] (eConsS (eVar 6) eNil)) (eConsS (eVar 3) eNil)))))) := ⟨_, rfl⟩
noncomputable def S_law_word_holds_r15 : DSt := S_law_word_holds_r15_ex.choose
theorem S_law_word_holds_r15_eq : S_law_word_holds_r15 = (sRet (eAndV (eCall0 (F_law_exact 8) [] (eConsS (eVar 8) (eConsS (eVar 3) eNil))) (eOrV (eVar 4) (eCall0 (F_law_exact 8) [] (eConsS (eCall0 F_data_of [.d (.bl false)] (eConsS (eVar 6) eNil)) (eConsS (eVar 3) eNil)))))) := S_law_word_holds_r15_ex.choose_spec
theorem S_law_word_holds_r14_ex : ∃ x : DSt, x = (sSeq (sAsg (eCallK0 1 1 F_data_of [] [] (eConsS (eCall0 F_law_either [] (eConsH 0 (eConsS (eVar 6) eNil))) eNil) (eConsS (eVar 4) eNil)) (gD 8))
    S_law_word_holds_r15) := ⟨_, rfl⟩
noncomputable def S_law_word_holds_r14 : DSt := S_law_word_holds_r14_ex.choose
theorem S_law_word_holds_r14_eq : S_law_word_holds_r14 = (sSeq (sAsg (eCallK0 1 1 F_data_of [] [] (eConsS (eCall0 F_law_either [] (eConsH 0 (eConsS (eVar 6) eNil))) eNil) (eConsS (eVar 4) eNil)) (gD 8))
    S_law_word_holds_r15) := S_law_word_holds_r14_ex.choose_spec
theorem S_law_word_holds_r12_ex : ∃ x : DSt, x = (sSeq (sIf (eAndT (eNotT (eTru (eVarB 4))) (eNotT (eTru (eCall0 (F_law_exact 8) [] (eConsS (eMeth0 "SumBook" "has" F_SumBook_has [] (eCall0 F_SumBook___init [] (eConsS (eVar 1) (eConsS (eOp dAdd (eVarB 1) (eC (.int 1))) (eConsS (eVar 2) eNil)))) (eConsS (eVar 6) eNil)) (eConsS (eC (.bl true)) eNil))))))
    (sRet (eC (.bl false)))
    sNext)
    S_law_word_holds_r14) := ⟨_, rfl⟩
noncomputable def S_law_word_holds_r12 : DSt := S_law_word_holds_r12_ex.choose
theorem S_law_word_holds_r12_eq : S_law_word_holds_r12 = (sSeq (sIf (eAndT (eNotT (eTru (eVarB 4))) (eNotT (eTru (eCall0 (F_law_exact 8) [] (eConsS (eMeth0 "SumBook" "has" F_SumBook_has [] (eCall0 F_SumBook___init [] (eConsS (eVar 1) (eConsS (eOp dAdd (eVarB 1) (eC (.int 1))) (eConsS (eVar 2) eNil)))) (eConsS (eVar 6) eNil)) (eConsS (eC (.bl true)) eNil))))))
    (sRet (eC (.bl false)))
    sNext)
    S_law_word_holds_r14) := S_law_word_holds_r12_ex.choose_spec
theorem S_law_word_holds_r10_ex : ∃ x : DSt, x = (sSeq (sIf (eAndT (eTru (eVarB 4)) (eAndT (eTest (eOp dLe (eVarB 1) (eC (.int 60)))) (eNotT (eTru (eCall0 (F_law_exact 8) [] (eConsS (eMeth0 "WrongBook" "has" F_WrongBook_has [] (eCall0 F_WrongBook___init [] (eConsS (eVar 1) (eConsS (eVar 2) eNil))) (eConsS (eVar 6) eNil)) (eConsS (eC (.bl true)) eNil)))))))
    (sRet (eC (.bl false)))
    sNext)
    S_law_word_holds_r12) := ⟨_, rfl⟩
noncomputable def S_law_word_holds_r10 : DSt := S_law_word_holds_r10_ex.choose
theorem S_law_word_holds_r10_eq : S_law_word_holds_r10 = (sSeq (sIf (eAndT (eTru (eVarB 4)) (eAndT (eTest (eOp dLe (eVarB 1) (eC (.int 60)))) (eNotT (eTru (eCall0 (F_law_exact 8) [] (eConsS (eMeth0 "WrongBook" "has" F_WrongBook_has [] (eCall0 F_WrongBook___init [] (eConsS (eVar 1) (eConsS (eVar 2) eNil))) (eConsS (eVar 6) eNil)) (eConsS (eC (.bl true)) eNil)))))))
    (sRet (eC (.bl false)))
    sNext)
    S_law_word_holds_r12) := S_law_word_holds_r10_ex.choose_spec
theorem S_law_word_holds_r8_ex : ∃ x : DSt, x = (sSeq (sIf (eTest (eOp dNe (eOp dMod (eCB dInt (eCons (eCall0 F_law_sum [] (eConsS (eVar 6) eNil)) eNil)) (eIf (eTru (eVarB 4)) (eOp dMul (eC (.int 2)) (eVarB 1)) (eOp dAdd (eVarB 1) (eC (.int 1))))) (eVarB 2)))
    (sRet (eC (.bl false)))
    sNext)
    S_law_word_holds_r10) := ⟨_, rfl⟩
noncomputable def S_law_word_holds_r8 : DSt := S_law_word_holds_r8_ex.choose
theorem S_law_word_holds_r8_eq : S_law_word_holds_r8 = (sSeq (sIf (eTest (eOp dNe (eOp dMod (eCB dInt (eCons (eCall0 F_law_sum [] (eConsS (eVar 6) eNil)) eNil)) (eIf (eTru (eVarB 4)) (eOp dMul (eC (.int 2)) (eVarB 1)) (eOp dAdd (eVarB 1) (eC (.int 1))))) (eVarB 2)))
    (sRet (eC (.bl false)))
    sNext)
    S_law_word_holds_r10) := S_law_word_holds_r8_ex.choose_spec
theorem S_law_word_holds_r6_ex : ∃ x : DSt, x = (sSeq (sIf (eAndT (eNotT (eTru (eVarB 4))) (eNotT (eTru (eCall0 (F_law_exact 8) [] (eConsS (eCall0 F_data_word [.d (.bl false)] (eConsS (eVar 1) (eConsS (eVar 2) (eConsS (eVar 5) eNil)))) (eConsS (eVar 6) eNil))))))
    (sRet (eC (.bl false)))
    sNext)
    S_law_word_holds_r8) := ⟨_, rfl⟩
noncomputable def S_law_word_holds_r6 : DSt := S_law_word_holds_r6_ex.choose
theorem S_law_word_holds_r6_eq : S_law_word_holds_r6 = (sSeq (sIf (eAndT (eNotT (eTru (eVarB 4))) (eNotT (eTru (eCall0 (F_law_exact 8) [] (eConsS (eCall0 F_data_word [.d (.bl false)] (eConsS (eVar 1) (eConsS (eVar 2) (eConsS (eVar 5) eNil)))) (eConsS (eVar 6) eNil))))))
    (sRet (eC (.bl false)))
    sNext)
    S_law_word_holds_r8) := S_law_word_holds_r6_ex.choose_spec
theorem S_law_word_holds_r4_ex : ∃ x : DSt, x = (sSeq (sIf (eOrT (eNotT (eTru (eCall0 (F_law_exact 8) [] (eConsS (eVar 7) (eConsS (eVar 6) eNil))))) (eTest (eOp dNe (eCB dLstOf (eCons (eVarB 5) eNil)) (eCB dLstOf (eCons (eVarB 3) eNil)))))
    (sRet (eC (.bl false)))
    sNext)
    S_law_word_holds_r6) := ⟨_, rfl⟩
noncomputable def S_law_word_holds_r4 : DSt := S_law_word_holds_r4_ex.choose
theorem S_law_word_holds_r4_eq : S_law_word_holds_r4 = (sSeq (sIf (eOrT (eNotT (eTru (eCall0 (F_law_exact 8) [] (eConsS (eVar 7) (eConsS (eVar 6) eNil))))) (eTest (eOp dNe (eCB dLstOf (eCons (eVarB 5) eNil)) (eCB dLstOf (eCons (eVarB 3) eNil)))))
    (sRet (eC (.bl false)))
    sNext)
    S_law_word_holds_r6) := S_law_word_holds_r4_ex.choose_spec
theorem S_law_word_holds_r3_ex : ∃ x : DSt, x = (sSeq (sAsg (eCallK0 3 1 F_data_word [] [] (eConsS (eVar 1) (eConsS (eVar 2) (eConsS (eVar 5) eNil))) (eConsS (eVar 4) eNil)) (gD 7))
    S_law_word_holds_r4) := ⟨_, rfl⟩
noncomputable def S_law_word_holds_r3 : DSt := S_law_word_holds_r3_ex.choose
theorem S_law_word_holds_r3_eq : S_law_word_holds_r3 = (sSeq (sAsg (eCallK0 3 1 F_data_word [] [] (eConsS (eVar 1) (eConsS (eVar 2) (eConsS (eVar 5) eNil))) (eConsS (eVar 4) eNil)) (gD 7))
    S_law_word_holds_r4) := S_law_word_holds_r3_ex.choose_spec
theorem S_law_word_holds_r2_ex : ∃ x : DSt, x = (sSeq (sAsg (eCall0 F_law_data [] (eConsS (eVar 1) (eConsS (eVar 2) (eConsS (eVar 3) (eConsS (eVar 4) eNil))))) (gD 6))
    S_law_word_holds_r3) := ⟨_, rfl⟩
noncomputable def S_law_word_holds_r2 : DSt := S_law_word_holds_r2_ex.choose
theorem S_law_word_holds_r2_eq : S_law_word_holds_r2 = (sSeq (sAsg (eCall0 F_law_data [] (eConsS (eVar 1) (eConsS (eVar 2) (eConsS (eVar 3) (eConsS (eVar 4) eNil))))) (gD 6))
    S_law_word_holds_r3) := S_law_word_holds_r2_ex.choose_spec
def S_law_word_holds : DSt := (sSeq (sAsg (eCall0 F_law_either [] (eConsH 0 (eConsS (eVar 3) eNil))) (gD 5))
    S_law_word_holds_r2)
theorem F_law_word_holds_ex : ∃ x : DFn, x = mkD0 5 9 S_law_word_holds := ⟨_, rfl⟩
noncomputable def F_law_word_holds : DFn := F_law_word_holds_ex.choose
theorem F_law_word_holds_eq : F_law_word_holds = mkD0 5 9 S_law_word_holds := F_law_word_holds_ex.choose_spec
theorem S_law_all_hold_r10_ex : ∃ x : DSt, x = (sApp 5 (eCallK0 3 1 F_data_word [] [] (eConsS (eVar 1) (eConsS (eVar 4) (eConsS (eVar 7) eNil))) (eConsS (eVar 2) eNil))) := ⟨_, rfl⟩
noncomputable def S_law_all_hold_r10 : DSt := S_law_all_hold_r10_ex.choose
theorem S_law_all_hold_r10_eq : S_law_all_hold_r10 = (sApp 5 (eCallK0 3 1 F_data_word [] [] (eConsS (eVar 1) (eConsS (eVar 4) (eConsS (eVar 7) eNil))) (eConsS (eVar 2) eNil))) := S_law_all_hold_r10_ex.choose_spec
theorem S_law_all_hold_r8_ex : ∃ x : DSt, x = (sSeq (sIf (eNotT (eTru (eCall0 F_law_word_holds [] (eConsH 0 (eConsS (eVar 1) (eConsS (eVar 4) (eConsS (eVar 7) (eConsS (eVar 2) eNil))))))))
    (sRet (eC (.bl false)))
    sNext)
    S_law_all_hold_r10) := ⟨_, rfl⟩
noncomputable def S_law_all_hold_r8 : DSt := S_law_all_hold_r8_ex.choose
theorem S_law_all_hold_r8_eq : S_law_all_hold_r8 = (sSeq (sIf (eNotT (eTru (eCall0 F_law_word_holds [] (eConsH 0 (eConsS (eVar 1) (eConsS (eVar 4) (eConsS (eVar 7) (eConsS (eVar 2) eNil))))))))
    (sRet (eC (.bl false)))
    sNext)
    S_law_all_hold_r10) := S_law_all_hold_r8_ex.choose_spec
theorem S_law_all_hold_b7_ex : ∃ x : DSt, x = (sSeq (sAsg (eCall0 F_law_bits [] (eConsS (eVar 6) (eConsS (eCB dLen (eCons (eVarB 3) eNil)) eNil))) (gD 7))
    S_law_all_hold_r8) := ⟨_, rfl⟩
noncomputable def S_law_all_hold_b7 : DSt := S_law_all_hold_b7_ex.choose
theorem S_law_all_hold_b7_eq : S_law_all_hold_b7 = (sSeq (sAsg (eCall0 F_law_bits [] (eConsS (eVar 6) (eConsS (eCB dLen (eCons (eVarB 3) eNil)) eNil))) (gD 7))
    S_law_all_hold_r8) := S_law_all_hold_b7_ex.choose_spec
theorem S_law_all_hold_r11_ex : ∃ x : DSt, x = (sIf (eTest (eOp dNe (eLenSetG (eVarB 5)) (eCall0 F_law_power [] (eConsS (eC (.int 2)) (eConsS (eCB dLen (eCons (eVarB 3) eNil)) eNil)))))
    (sRet (eC (.bl false)))
    sNext) := ⟨_, rfl⟩
noncomputable def S_law_all_hold_r11 : DSt := S_law_all_hold_r11_ex.choose
theorem S_law_all_hold_r11_eq : S_law_all_hold_r11 = (sIf (eTest (eOp dNe (eLenSetG (eVarB 5)) (eCall0 F_law_power [] (eConsS (eC (.int 2)) (eConsS (eCB dLen (eCons (eVarB 3) eNil)) eNil)))))
    (sRet (eC (.bl false)))
    sNext) := S_law_all_hold_r11_ex.choose_spec
theorem S_law_all_hold_r6_ex : ∃ x : DSt, x = (sSeq (sFor (eRng1 (eCons (eCall0 F_law_power [] (eConsS (eC (.int 2)) (eConsS (eCB dLen (eCons (eVarB 3) eNil)) eNil))) eNil)) (gD 6)
    S_law_all_hold_b7)
    S_law_all_hold_r11) := ⟨_, rfl⟩
noncomputable def S_law_all_hold_r6 : DSt := S_law_all_hold_r6_ex.choose
theorem S_law_all_hold_r6_eq : S_law_all_hold_r6 = (sSeq (sFor (eRng1 (eCons (eCall0 F_law_power [] (eConsS (eC (.int 2)) (eConsS (eCB dLen (eCons (eVarB 3) eNil)) eNil))) eNil)) (gD 6)
    S_law_all_hold_b7)
    S_law_all_hold_r11) := S_law_all_hold_r6_ex.choose_spec
theorem S_law_all_hold_b5_ex : ∃ x : DSt, x = (sSeq (sOwn 5 (eLst eNil))
    S_law_all_hold_r6) := ⟨_, rfl⟩
noncomputable def S_law_all_hold_b5 : DSt := S_law_all_hold_b5_ex.choose
theorem S_law_all_hold_b5_eq : S_law_all_hold_b5 = (sSeq (sOwn 5 (eLst eNil))
    S_law_all_hold_r6) := S_law_all_hold_b5_ex.choose_spec
theorem S_law_all_hold_r13_ex : ∃ x : DSt, x = (sRet (eC (.bl true))) := ⟨_, rfl⟩
noncomputable def S_law_all_hold_r13 : DSt := S_law_all_hold_r13_ex.choose
theorem S_law_all_hold_r13_eq : S_law_all_hold_r13 = (sRet (eC (.bl true))) := S_law_all_hold_r13_ex.choose_spec
theorem S_law_all_hold_r4_ex : ∃ x : DSt, x = (sSeq (sFor (eRng1 (eCons (eIf (eTru (eVarB 2)) (eOp dMul (eC (.int 2)) (eVarB 1)) (eOp dAdd (eVarB 1) (eC (.int 1)))) eNil)) (gD 4)
    S_law_all_hold_b5)
    S_law_all_hold_r13) := ⟨_, rfl⟩
noncomputable def S_law_all_hold_r4 : DSt := S_law_all_hold_r4_ex.choose
theorem S_law_all_hold_r4_eq : S_law_all_hold_r4 = (sSeq (sFor (eRng1 (eCons (eIf (eTru (eVarB 2)) (eOp dMul (eC (.int 2)) (eVarB 1)) (eOp dAdd (eVarB 1) (eC (.int 1)))) eNil)) (gD 4)
    S_law_all_hold_b5)
    S_law_all_hold_r13) := S_law_all_hold_r4_ex.choose_spec
theorem S_law_all_hold_r2_ex : ∃ x : DSt, x = (sSeq (sIf (eNotT (eTru (eCall0 (F_law_exact 8) [] (eConsS (eCallK0 1 1 F_free_places [] [] (eConsS (eVar 1) eNil) (eConsS (eVar 2) eNil)) (eConsS (eVar 3) eNil)))))
    (sRet (eC (.bl false)))
    sNext)
    S_law_all_hold_r4) := ⟨_, rfl⟩
noncomputable def S_law_all_hold_r2 : DSt := S_law_all_hold_r2_ex.choose
theorem S_law_all_hold_r2_eq : S_law_all_hold_r2 = (sSeq (sIf (eNotT (eTru (eCall0 (F_law_exact 8) [] (eConsS (eCallK0 1 1 F_free_places [] [] (eConsS (eVar 1) eNil) (eConsS (eVar 2) eNil)) (eConsS (eVar 3) eNil)))))
    (sRet (eC (.bl false)))
    sNext)
    S_law_all_hold_r4) := S_law_all_hold_r2_ex.choose_spec
def S_law_all_hold : DSt := (sSeq (sAsg (eCall0 F_law_free [] (eConsS (eVar 1) (eConsS (eVar 2) eNil))) (gD 3))
    S_law_all_hold_r2)
theorem F_law_all_hold_ex : ∃ x : DFn, x = mkD0 3 8 S_law_all_hold := ⟨_, rfl⟩
noncomputable def F_law_all_hold : DFn := F_law_all_hold_ex.choose
theorem F_law_all_hold_eq : F_law_all_hold = mkD0 3 8 S_law_all_hold := F_law_all_hold_ex.choose_spec
theorem S_law_r12_ex : ∃ x : DSt, x = (sIf (eNotT (eTru (eCall0 (F_law_exact 8) [] (eConsS (eCallK0 1 1 F_data_of [] [] (eConsS (eVar 7) eNil) (eConsS (eVar 3) eNil)) (eConsS (eLc (eSeq (eVarB 4)) (gD 9) eYes (eOp dIx (eVarB 7) (eOp dSub (eVarB 9) (eC (.int 1)))) [9]) eNil)))))
    (sRet (eC (.bl false)))
    sNext) := ⟨_, rfl⟩
noncomputable def S_law_r12 : DSt := S_law_r12_ex.choose
theorem S_law_r12_eq : S_law_r12 = (sIf (eNotT (eTru (eCall0 (F_law_exact 8) [] (eConsS (eCallK0 1 1 F_data_of [] [] (eConsS (eVar 7) eNil) (eConsS (eVar 3) eNil)) (eConsS (eLc (eSeq (eVarB 4)) (gD 9) eYes (eOp dIx (eVarB 7) (eOp dSub (eVarB 9) (eC (.int 1)))) [9]) eNil)))))
    (sRet (eC (.bl false)))
    sNext) := S_law_r12_ex.choose_spec
theorem S_law_r11_ex : ∃ x : DSt, x = (sSeq (sAsg (eCB dTupOf (eCons (eCall0 F_law_bits [] (eConsS (eCall0 F_law_take [] (eConsH 1 (eConsS (eCall0 F_law_power [] (eConsS (eC (.int 2)) (eConsS (eVar 2) eNil))) eNil))) (eConsS (eVar 2) eNil))) eNil)) (gD 7))
    S_law_r12) := ⟨_, rfl⟩
noncomputable def S_law_r11 : DSt := S_law_r11_ex.choose
theorem S_law_r11_eq : S_law_r11 = (sSeq (sAsg (eCB dTupOf (eCons (eCall0 F_law_bits [] (eConsS (eCall0 F_law_take [] (eConsH 1 (eConsS (eCall0 F_law_power [] (eConsS (eC (.int 2)) (eConsS (eVar 2) eNil))) eNil))) (eConsS (eVar 2) eNil))) eNil)) (gD 7))
    S_law_r12) := S_law_r11_ex.choose_spec
theorem S_law_r9_ex : ∃ x : DSt, x = (sSeq (sIf (eNotT (eTru (eCall0 F_law_word_holds [] (eConsH 1 (eConsS (eVar 2) (eConsS (eVar 6) (eConsS (eVar 5) (eConsS (eVar 3) eNil))))))))
    (sRet (eC (.bl false)))
    sNext)
    S_law_r11) := ⟨_, rfl⟩
noncomputable def S_law_r9 : DSt := S_law_r9_ex.choose
theorem S_law_r9_eq : S_law_r9 = (sSeq (sIf (eNotT (eTru (eCall0 F_law_word_holds [] (eConsH 1 (eConsS (eVar 2) (eConsS (eVar 6) (eConsS (eVar 5) (eConsS (eVar 3) eNil))))))))
    (sRet (eC (.bl false)))
    sNext)
    S_law_r11) := S_law_r9_ex.choose_spec
theorem S_law_r7_ex : ∃ x : DSt, x = (sSeq (sIf (eNotT (eTru (eCall0 (F_law_exact 8) [] (eConsS (eCallK0 1 1 F_free_places [] [] (eConsS (eVar 2) eNil) (eConsS (eVar 3) eNil)) (eConsS (eVar 4) eNil)))))
    (sRet (eC (.bl false)))
    sNext)
    S_law_r9) := ⟨_, rfl⟩
noncomputable def S_law_r7 : DSt := S_law_r7_ex.choose
theorem S_law_r7_eq : S_law_r7 = (sSeq (sIf (eNotT (eTru (eCall0 (F_law_exact 8) [] (eConsS (eCallK0 1 1 F_free_places [] [] (eConsS (eVar 2) eNil) (eConsS (eVar 3) eNil)) (eConsS (eVar 4) eNil)))))
    (sRet (eC (.bl false)))
    sNext)
    S_law_r9) := S_law_r7_ex.choose_spec
theorem S_law_r6_ex : ∃ x : DSt, x = (sSeq (sAsg (eCall0 F_law_take [] (eConsH 1 (eConsS (eIf (eTru (eVarB 3)) (eOp dMul (eC (.int 2)) (eVarB 2)) (eOp dAdd (eVarB 2) (eC (.int 1)))) eNil))) (gD 6))
    S_law_r7) := ⟨_, rfl⟩
noncomputable def S_law_r6 : DSt := S_law_r6_ex.choose
theorem S_law_r6_eq : S_law_r6 = (sSeq (sAsg (eCall0 F_law_take [] (eConsH 1 (eConsS (eIf (eTru (eVarB 3)) (eOp dMul (eC (.int 2)) (eVarB 2)) (eOp dAdd (eVarB 2) (eC (.int 1)))) eNil))) (gD 6))
    S_law_r7) := S_law_r6_ex.choose_spec
theorem S_law_r5_ex : ∃ x : DSt, x = (sSeq (sAsg (eCall0 F_law_bits [] (eConsS (eCall0 F_law_take [] (eConsH 1 (eConsS (eCall0 F_law_power [] (eConsS (eC (.int 2)) (eConsS (eCB dLen (eCons (eVarB 4) eNil)) eNil))) eNil))) (eConsS (eCB dLen (eCons (eVarB 4) eNil)) eNil))) (gD 5))
    S_law_r6) := ⟨_, rfl⟩
noncomputable def S_law_r5 : DSt := S_law_r5_ex.choose
theorem S_law_r5_eq : S_law_r5 = (sSeq (sAsg (eCall0 F_law_bits [] (eConsS (eCall0 F_law_take [] (eConsH 1 (eConsS (eCall0 F_law_power [] (eConsS (eC (.int 2)) (eConsS (eCB dLen (eCons (eVarB 4) eNil)) eNil))) eNil))) (eConsS (eCB dLen (eCons (eVarB 4) eNil)) eNil))) (gD 5))
    S_law_r6) := S_law_r5_ex.choose_spec
theorem S_law_b4_ex : ∃ x : DSt, x = (sSeq (sAsg (eCall0 F_law_free [] (eConsS (eVar 2) (eConsS (eVar 3) eNil))) (gD 4))
    S_law_r5) := ⟨_, rfl⟩
noncomputable def S_law_b4 : DSt := S_law_b4_ex.choose
theorem S_law_b4_eq : S_law_b4 = (sSeq (sAsg (eCall0 F_law_free [] (eConsS (eVar 2) (eConsS (eVar 3) eNil))) (gD 4))
    S_law_r5) := S_law_b4_ex.choose_spec
theorem S_law_r17_ex : ∃ x : DSt, x = (sRet (eAndV (eCall0 F_law_all_hold [] (eConsH 1 (eConsS (eVar 8) (eConsS (eC (.bl false)) eNil)))) (eCall0 F_law_all_hold [] (eConsH 1 (eConsS (eVar 8) (eConsS (eC (.bl true)) eNil)))))) := ⟨_, rfl⟩
noncomputable def S_law_r17 : DSt := S_law_r17_ex.choose
theorem S_law_r17_eq : S_law_r17 = (sRet (eAndV (eCall0 F_law_all_hold [] (eConsH 1 (eConsS (eVar 8) (eConsS (eC (.bl false)) eNil)))) (eCall0 F_law_all_hold [] (eConsH 1 (eConsS (eVar 8) (eConsS (eC (.bl true)) eNil)))))) := S_law_r17_ex.choose_spec
theorem S_law_r16_ex : ∃ x : DSt, x = (sSeq (sAsg (eOp dAdd (eC (.int 1)) (eCall0 F_law_take [] (eConsH 1 (eConsS (eC (.int 7)) eNil)))) (gD 8))
    S_law_r17) := ⟨_, rfl⟩
noncomputable def S_law_r16 : DSt := S_law_r16_ex.choose
theorem S_law_r16_eq : S_law_r16 = (sSeq (sAsg (eOp dAdd (eC (.int 1)) (eCall0 F_law_take [] (eConsH 1 (eConsS (eC (.int 7)) eNil)))) (gD 8))
    S_law_r17) := S_law_r16_ex.choose_spec
theorem S_law_r14_ex : ∃ x : DSt, x = (sSeq (sIf (eNotT (eTru (eCall0 (F_law_exact 8) [] (eConsS (eCall0 F_free_places [.d (.bl false)] (eConsS (eVar 2) eNil)) (eConsS (eCall0 F_law_free [] (eConsS (eVar 2) (eConsS (eC (.bl false)) eNil))) eNil)))))
    (sRet (eC (.bl false)))
    sNext)
    S_law_r16) := ⟨_, rfl⟩
noncomputable def S_law_r14 : DSt := S_law_r14_ex.choose
theorem S_law_r14_eq : S_law_r14 = (sSeq (sIf (eNotT (eTru (eCall0 (F_law_exact 8) [] (eConsS (eCall0 F_free_places [.d (.bl false)] (eConsS (eVar 2) eNil)) (eConsS (eCall0 F_law_free [] (eConsS (eVar 2) (eConsS (eC (.bl false)) eNil))) eNil)))))
    (sRet (eC (.bl false)))
    sNext)
    S_law_r16) := S_law_r14_ex.choose_spec
theorem S_law_r3_ex : ∃ x : DSt, x = (sSeq (sFor (eSeq (eTup (eCons (eC (.bl false)) (eCons (eC (.bl true)) eNil)))) (gD 3)
    S_law_b4)
    S_law_r14) := ⟨_, rfl⟩
noncomputable def S_law_r3 : DSt := S_law_r3_ex.choose
theorem S_law_r3_eq : S_law_r3 = (sSeq (sFor (eSeq (eTup (eCons (eC (.bl false)) (eCons (eC (.bl true)) eNil)))) (gD 3)
    S_law_b4)
    S_law_r14) := S_law_r3_ex.choose_spec
def S_law : DSt := (sSeq (sAsg (eOp dAdd (eC (.int 1)) (eCall0 F_law_take [] (eConsH 1 (eConsS (eIf (eTest (eOp dEq (eCall0 F_law_take [] (eConsH 1 (eConsS (eC (.int 3)) eNil))) (eC (.int 0)))) (eC (.int 200)) (eC (.int 40))) eNil)))) (gD 2))
    S_law_r3)
abbrev Goal : Prop := LawGoal 8 S_law
end Mine

namespace Mine
open PySem PySem.Spec PyProof.Rows L2
abbrev PG : Program := PySem.Challenge.pw_lostplaces_k32_whole_data_in_every_rest
def top (i : Nat) : Stmt := PG.main.body.getD i (.Pass ⟨0, 0, 0, 0⟩)
abbrev s_wall : Stmt := top 1
abbrev N_wall : List Str := ["k"]
abbrev P_wall : List Str := ["k"]
theorem sc_wall : FnScope N_wall P_wall (defScope s_wall) := ⟨rfl, rfl, rfl, by decide +kernel, rfl, by decide +kernel, by decide +kernel⟩
abbrev D_wall (K : PySem.W.Frag) (f : Addr) (fd : FuncData) : Prop := FunD K "_wall" "_wall" (defArgs s_wall) (defBody s_wall) (defScope s_wall) [] [] f fd
abbrev s_BadWord___init : Stmt := inClass (top 5) 0
abbrev N_BadWord___init : List Str := ["self", "index"]
abbrev P_BadWord___init : List Str := ["self", "index"]
theorem sc_BadWord___init : FnScope N_BadWord___init P_BadWord___init (defScope s_BadWord___init) := ⟨rfl, rfl, rfl, by decide +kernel, rfl, by decide +kernel, by decide +kernel⟩
abbrev D_BadWord___init (K : PySem.W.Frag) (f : Addr) (fd : FuncData) : Prop := FunD K "__init__" "BadWord.__init__" (defArgs s_BadWord___init) (defBody s_BadWord___init) (defScope s_BadWord___init) [] [] f fd
abbrev s_BadBits___init : Stmt := inClass (top 8) 0
abbrev N_BadBits___init : List Str := ["self", "index"]
abbrev P_BadBits___init : List Str := ["self", "index"]
theorem sc_BadBits___init : FnScope N_BadBits___init P_BadBits___init (defScope s_BadBits___init) := ⟨rfl, rfl, rfl, by decide +kernel, rfl, by decide +kernel, by decide +kernel⟩
abbrev D_BadBits___init (K : PySem.W.Frag) (f : Addr) (fd : FuncData) : Prop := FunD K "__init__" "BadBits.__init__" (defArgs s_BadBits___init) (defBody s_BadBits___init) (defScope s_BadBits___init) [] [] f fd
abbrev s_is_whole : Stmt := top 10
abbrev N_is_whole : List Str := ["thing", "low", "high"]
abbrev P_is_whole : List Str := ["thing", "low", "high"]
theorem sc_is_whole : FnScope N_is_whole P_is_whole (defScope s_is_whole) := ⟨rfl, rfl, rfl, by decide +kernel, rfl, by decide +kernel, by decide +kernel⟩
abbrev D_is_whole (K : PySem.W.Frag) (f : Addr) (fd : FuncData) : Prop := FunD K "is_whole" "is_whole" (defArgs s_is_whole) (defBody s_is_whole) (defScope s_is_whole) [.non, .non] [] f fd
abbrev s_check_number : Stmt := top 11
abbrev N_check_number : List Str := ["thing", "low", "high"]
abbrev P_check_number : List Str := ["thing", "low", "high"]
theorem sc_check_number : FnScope N_check_number P_check_number (defScope s_check_number) := ⟨rfl, rfl, rfl, by decide +kernel, rfl, by decide +kernel, by decide +kernel⟩
abbrev D_check_number (K : PySem.W.Frag) (f : Addr) (fd : FuncData) : Prop := FunD K "check_number" "check_number" (defArgs s_check_number) (defBody s_check_number) (defScope s_check_number) [] [] f fd
abbrev s_check_word : Stmt := top 12
abbrev N_check_word : List Str := ["letters", "word", "most", "index", "letter"]
abbrev P_check_word : List Str := ["letters", "word", "most"]
theorem sc_check_word : FnScope N_check_word P_check_word (defScope s_check_word) := ⟨rfl, rfl, rfl, by decide +kernel, rfl, by decide +kernel, by decide +kernel⟩
abbrev D_check_word (K : PySem.W.Frag) (f : Addr) (fd : FuncData) : Prop := FunD K "check_word" "check_word" (defArgs s_check_word) (defBody s_check_word) (defScope s_check_word) [.int (24)] [] f fd
abbrev s_place_sum : Stmt := top 16
abbrev N_place_sum : List Str := ["word"]
abbrev P_place_sum : List Str := ["word"]
theorem sc_place_sum : FnScope N_place_sum P_place_sum (defScope s_place_sum) := ⟨rfl, rfl, rfl, by decide +kernel, rfl, by decide +kernel, by decide +kernel⟩
abbrev D_place_sum (K : PySem.W.Frag) (f : Addr) (fd : FuncData) : Prop := FunD K "place_sum" "place_sum" (defArgs s_place_sum) (defBody s_place_sum) (defScope s_place_sum) [] [] f fd
abbrev s_sum_of : Stmt := top 17
abbrev N_sum_of : List Str := ["word", "place", "letter"]
abbrev P_sum_of : List Str := ["word"]
theorem sc_sum_of : FnScope N_sum_of P_sum_of (defScope s_sum_of) := ⟨rfl, rfl, rfl, by decide +kernel, rfl, by decide +kernel, by decide +kernel⟩
abbrev D_sum_of (K : PySem.W.Frag) (f : Addr) (fd : FuncData) : Prop := FunD K "_sum_of" "_sum_of" (defArgs s_sum_of) (defBody s_sum_of) (defScope s_sum_of) [] [] f fd
abbrev s_SumBook___init : Stmt := inClass (top 18) 0
abbrev N_SumBook___init : List Str := ["self", "length", "modulus", "rest"]
abbrev P_SumBook___init : List Str := ["self", "length", "modulus", "rest"]
theorem sc_SumBook___init : FnScope N_SumBook___init P_SumBook___init (defScope s_SumBook___init) := ⟨rfl, rfl, rfl, by decide +kernel, rfl, by decide +kernel, by decide +kernel⟩
abbrev D_SumBook___init (K : PySem.W.Frag) (f : Addr) (fd : FuncData) : Prop := FunD K "__init__" "SumBook.__init__" (defArgs s_SumBook___init) (defBody s_SumBook___init) (defScope s_SumBook___init) [] [] f fd
abbrev s_SumBook___eq : Stmt := inClass (top 18) 1
abbrev N_SumBook___eq : List Str := ["self", "other"]
abbrev P_SumBook___eq : List Str := ["self", "other"]
theorem sc_SumBook___eq : FnScope N_SumBook___eq P_SumBook___eq (defScope s_SumBook___eq) := ⟨rfl, rfl, rfl, by decide +kernel, rfl, by decide +kernel, by decide +kernel⟩
abbrev D_SumBook___eq (K : PySem.W.Frag) (f : Addr) (fd : FuncData) : Prop := FunD K "__eq__" "SumBook.__eq__" (defArgs s_SumBook___eq) (defBody s_SumBook___eq) (defScope s_SumBook___eq) [] [] f fd
abbrev s_SumBook_is_full : Stmt := inClass (top 18) 2
abbrev N_SumBook_is_full : List Str := ["self"]
abbrev P_SumBook_is_full : List Str := ["self"]
theorem sc_SumBook_is_full : FnScope N_SumBook_is_full P_SumBook_is_full (defScope s_SumBook_is_full) := ⟨rfl, rfl, rfl, by decide +kernel, rfl, by decide +kernel, by decide +kernel⟩
abbrev D_SumBook_is_full (K : PySem.W.Frag) (f : Addr) (fd : FuncData) : Prop := FunD K "is_full" "SumBook.is_full" (defArgs s_SumBook_is_full) (defBody s_SumBook_is_full) (defScope s_SumBook_is_full) [] [] f fd
abbrev s_SumBook_holding : Stmt := inClass (top 18) 3
abbrev N_SumBook_holding : List Str := ["word", "modulus"]
abbrev P_SumBook_holding : List Str := ["word", "modulus"]
theorem sc_SumBook_holding : FnScope N_SumBook_holding P_SumBook_holding (defScope s_SumBook_holding) := ⟨rfl, rfl, rfl, by decide +kernel, rfl, by decide +kernel, by decide +kernel⟩
abbrev D_SumBook_holding (K : PySem.W.Frag) (f : Addr) (fd : FuncData) : Prop := FunD K "holding" "SumBook.holding" (defArgs s_SumBook_holding) (defBody s_SumBook_holding) (defScope s_SumBook_holding) [] [] f fd
abbrev s_SumBook_has : Stmt := inClass (top 18) 4
abbrev N_SumBook_has : List Str := ["self", "word"]
abbrev P_SumBook_has : List Str := ["self", "word"]
theorem sc_SumBook_has : FnScope N_SumBook_has P_SumBook_has (defScope s_SumBook_has) := ⟨rfl, rfl, rfl, by decide +kernel, rfl, by decide +kernel, by decide +kernel⟩
abbrev D_SumBook_has (K : PySem.W.Frag) (f : Addr) (fd : FuncData) : Prop := FunD K "has" "SumBook.has" (defArgs s_SumBook_has) (defBody s_SumBook_has) (defScope s_SumBook_has) [] [] f fd
abbrev s_SumBook_contrary : Stmt := inClass (top 18) 5
abbrev N_SumBook_contrary : List Str := ["self"]
abbrev P_SumBook_contrary : List Str := ["self"]
theorem sc_SumBook_contrary : FnScope N_SumBook_contrary P_SumBook_contrary (defScope s_SumBook_contrary) := ⟨rfl, rfl, rfl, by decide +kernel, rfl, by decide +kernel, by decide +kernel⟩
abbrev D_SumBook_contrary (K : PySem.W.Frag) (f : Addr) (fd : FuncData) : Prop := FunD K "contrary" "SumBook.contrary" (defArgs s_SumBook_contrary) (defBody s_SumBook_contrary) (defScope s_SumBook_contrary) [] [] f fd
abbrev s_SumBook_turned : Stmt := inClass (top 18) 6
abbrev N_SumBook_turned : List Str := ["self"]
abbrev P_SumBook_turned : List Str := ["self"]
theorem sc_SumBook_turned : FnScope N_SumBook_turned P_SumBook_turned (defScope s_SumBook_turned) := ⟨rfl, rfl, rfl, by decide +kernel, rfl, by decide +kernel, by decide +kernel⟩
abbrev D_SumBook_turned (K : PySem.W.Frag) (f : Addr) (fd : FuncData) : Prop := FunD K "turned" "SumBook.turned" (defArgs s_SumBook_turned) (defBody s_SumBook_turned) (defScope s_SumBook_turned) [] [] f fd
abbrev s_check_modulus : Stmt := top 19
abbrev N_check_modulus : List Str := ["modulus", "least"]
abbrev P_check_modulus : List Str := ["modulus", "least"]
theorem sc_check_modulus : FnScope N_check_modulus P_check_modulus (defScope s_check_modulus) := ⟨rfl, rfl, rfl, by decide +kernel, rfl, by decide +kernel, by decide +kernel⟩
abbrev D_check_modulus (K : PySem.W.Frag) (f : Addr) (fd : FuncData) : Prop := FunD K "_check_modulus" "_check_modulus" (defArgs s_check_modulus) (defBody s_check_modulus) (defScope s_check_modulus) [] [] f fd
abbrev s_check_rest_sums : Stmt := top 20
abbrev N_check_rest_sums : List Str := ["rest", "modulus"]
abbrev P_check_rest_sums : List Str := ["rest", "modulus"]
theorem sc_check_rest_sums : FnScope N_check_rest_sums P_check_rest_sums (defScope s_check_rest_sums) := ⟨rfl, rfl, rfl, by decide +kernel, rfl, by decide +kernel, by decide +kernel⟩
abbrev D_check_rest_sums (K : PySem.W.Frag) (f : Addr) (fd : FuncData) : Prop := FunD K "_check_rest" "_check_rest" (defArgs s_check_rest_sums) (defBody s_check_rest_sums) (defScope s_check_rest_sums) [] [] f fd
abbrev s_free_places : Stmt := top 24
abbrev N_free_places : List Str := ["length", "wrong", "fixed", "place"]
abbrev P_free_places : List Str := ["length", "wrong"]
theorem sc_free_places : FnScope N_free_places P_free_places (defScope s_free_places) := ⟨rfl, rfl, rfl, by decide +kernel, rfl, by decide +kernel, by decide +kernel⟩
abbrev D_free_places (K : PySem.W.Frag) (f : Addr) (fd : FuncData) : Prop := FunD K "free_places" "free_places" (defArgs s_free_places) (defBody s_free_places) (defScope s_free_places) [] [("wrong", .bl false)] f fd
abbrev s_fixed_places : Stmt := top 25
abbrev N_fixed_places : List Str := ["length", "fixed", "place"]
abbrev P_fixed_places : List Str := ["length"]
theorem sc_fixed_places : FnScope N_fixed_places P_fixed_places (defScope s_fixed_places) := ⟨rfl, rfl, rfl, by decide +kernel, rfl, by decide +kernel, by decide +kernel⟩
abbrev D_fixed_places (K : PySem.W.Frag) (f : Addr) (fd : FuncData) : Prop := FunD K "_fixed_places" "_fixed_places" (defArgs s_fixed_places) (defBody s_fixed_places) (defScope s_fixed_places) [] [] f fd
abbrev s_data_word : Stmt := top 26
abbrev N_data_word : List Str := ["length", "rest", "bits", "wrong", "places", "modulus", "word", "place", "bit", "lacking", "fixed"]
abbrev P_data_word : List Str := ["length", "rest", "bits", "wrong"]
theorem sc_data_word : FnScope N_data_word P_data_word (defScope s_data_word) := ⟨rfl, rfl, rfl, by decide +kernel, rfl, by decide +kernel, by decide +kernel⟩
abbrev D_data_word (K : PySem.W.Frag) (f : Addr) (fd : FuncData) : Prop := FunD K "data_word" "data_word" (defArgs s_data_word) (defBody s_data_word) (defScope s_data_word) [] [("wrong", .bl false)] f fd
abbrev s_check_bits : Stmt := top 27
abbrev N_check_bits : List Str := ["bits", "many", "index", "bit"]
abbrev P_check_bits : List Str := ["bits", "many"]
theorem sc_check_bits : FnScope N_check_bits P_check_bits (defScope s_check_bits) := ⟨rfl, rfl, rfl, by decide +kernel, rfl, by decide +kernel, by decide +kernel⟩
abbrev D_check_bits (K : PySem.W.Frag) (f : Addr) (fd : FuncData) : Prop := FunD K "_check_bits" "_check_bits" (defArgs s_check_bits) (defBody s_check_bits) (defScope s_check_bits) [] [] f fd
abbrev s_data_of : Stmt := top 28
abbrev N_data_of : List Str := ["word", "wrong", "place"]
abbrev P_data_of : List Str := ["word", "wrong"]
theorem sc_data_of : FnScope N_data_of P_data_of (defScope s_data_of) := ⟨rfl, rfl, rfl, by decide +kernel, rfl, by decide +kernel, by decide +kernel⟩
abbrev D_data_of (K : PySem.W.Frag) (f : Addr) (fd : FuncData) : Prop := FunD K "data_of" "data_of" (defArgs s_data_of) (defBody s_data_of) (defScope s_data_of) [] [("wrong", .bl false)] f fd
abbrev s_divisors_of : Stmt := top 31
abbrev N_divisors_of : List Str := ["number", "part"]
abbrev P_divisors_of : List Str := ["number"]
theorem sc_divisors_of : FnScope N_divisors_of P_divisors_of (defScope s_divisors_of) := ⟨rfl, rfl, rfl, by decide +kernel, rfl, by decide +kernel, by decide +kernel⟩
abbrev D_divisors_of (K : PySem.W.Frag) (f : Addr) (fd : FuncData) : Prop := FunD K "divisors_of" "divisors_of" (defArgs s_divisors_of) (defBody s_divisors_of) (defScope s_divisors_of) [] [] f fd
abbrev s_phi_of : Stmt := top 32
abbrev N_phi_of : List Str := ["number", "phi", "ahead", "prime"]
abbrev P_phi_of : List Str := ["number"]
theorem sc_phi_of : FnScope N_phi_of P_phi_of (defScope s_phi_of) := ⟨rfl, rfl, rfl, by decide +kernel, rfl, by decide +kernel, by decide +kernel⟩
abbrev D_phi_of (K : PySem.W.Frag) (f : Addr) (fd : FuncData) : Prop := FunD K "phi_of" "phi_of" (defArgs s_phi_of) (defBody s_phi_of) (defScope s_phi_of) [] [] f fd
abbrev s_primes_of : Stmt := top 33
abbrev N_primes_of : List Str := ["number", "primes", "prime"]
abbrev P_primes_of : List Str := ["number"]
theorem sc_primes_of : FnScope N_primes_of P_primes_of (defScope s_primes_of) := ⟨rfl, rfl, rfl, by decide +kernel, rfl, by decide +kernel, by decide +kernel⟩
abbrev D_primes_of (K : PySem.W.Frag) (f : Addr) (fd : FuncData) : Prop := FunD K "_primes_of" "_primes_of" (defArgs s_primes_of) (defBody s_primes_of) (defScope s_primes_of) [] [] f fd
abbrev s_mu_of : Stmt := top 34
abbrev N_mu_of : List Str := ["number", "primes"]
abbrev P_mu_of : List Str := ["number"]
theorem sc_mu_of : FnScope N_mu_of P_mu_of (defScope s_mu_of) := ⟨rfl, rfl, rfl, by decide +kernel, rfl, by decide +kernel, by decide +kernel⟩
abbrev D_mu_of (K : PySem.W.Frag) (f : Addr) (fd : FuncData) : Prop := FunD K "mu_of" "mu_of" (defArgs s_mu_of) (defBody s_mu_of) (defScope s_mu_of) [] [] f fd
abbrev s_ram_of : Stmt := top 35
abbrev N_ram_of : List Str := ["number", "rest", "part"]
abbrev P_ram_of : List Str := ["number", "rest"]
theorem sc_ram_of : FnScope N_ram_of P_ram_of (defScope s_ram_of) := ⟨rfl, rfl, rfl, by decide +kernel, rfl, by decide +kernel, by decide +kernel⟩
abbrev D_ram_of (K : PySem.W.Frag) (f : Addr) (fd : FuncData) : Prop := FunD K "ram_of" "ram_of" (defArgs s_ram_of) (defBody s_ram_of) (defScope s_ram_of) [] [] f fd
abbrev s_size_of : Stmt := top 38
abbrev N_size_of : List Str := ["length", "rest", "whole", "total", "part"]
abbrev P_size_of : List Str := ["length", "rest"]
theorem sc_size_of : FnScope N_size_of P_size_of (defScope s_size_of) := ⟨rfl, rfl, rfl, by decide +kernel, rfl, by decide +kernel, by decide +kernel⟩
abbrev D_size_of (K : PySem.W.Frag) (f : Addr) (fd : FuncData) : Prop := FunD K "size_of" "size_of" (defArgs s_size_of) (defBody s_size_of) (defScope s_size_of) [] [] f fd
abbrev s_check_rest_sizes : Stmt := top 39
abbrev N_check_rest_sizes : List Str := ["rest", "most"]
abbrev P_check_rest_sizes : List Str := ["rest", "most"]
theorem sc_check_rest_sizes : FnScope N_check_rest_sizes P_check_rest_sizes (defScope s_check_rest_sizes) := ⟨rfl, rfl, rfl, by decide +kernel, rfl, by decide +kernel, by decide +kernel⟩
abbrev D_check_rest_sizes (K : PySem.W.Frag) (f : Addr) (fd : FuncData) : Prop := FunD K "_check_rest" "_check_rest" (defArgs s_check_rest_sizes) (defBody s_check_rest_sizes) (defScope s_check_rest_sizes) [] [] f fd
abbrev s_WrongBook___init : Stmt := inClass (top 44) 0
abbrev N_WrongBook___init : List Str := ["self", "length", "rest"]
abbrev P_WrongBook___init : List Str := ["self", "length", "rest"]
theorem sc_WrongBook___init : FnScope N_WrongBook___init P_WrongBook___init (defScope s_WrongBook___init) := ⟨rfl, rfl, rfl, by decide +kernel, rfl, by decide +kernel, by decide +kernel⟩
abbrev D_WrongBook___init (K : PySem.W.Frag) (f : Addr) (fd : FuncData) : Prop := FunD K "__init__" "WrongBook.__init__" (defArgs s_WrongBook___init) (defBody s_WrongBook___init) (defScope s_WrongBook___init) [] [] f fd
abbrev s_WrongBook___eq : Stmt := inClass (top 44) 1
abbrev N_WrongBook___eq : List Str := ["self", "other"]
abbrev P_WrongBook___eq : List Str := ["self", "other"]
theorem sc_WrongBook___eq : FnScope N_WrongBook___eq P_WrongBook___eq (defScope s_WrongBook___eq) := ⟨rfl, rfl, rfl, by decide +kernel, rfl, by decide +kernel, by decide +kernel⟩
abbrev D_WrongBook___eq (K : PySem.W.Frag) (f : Addr) (fd : FuncData) : Prop := FunD K "__eq__" "WrongBook.__eq__" (defArgs s_WrongBook___eq) (defBody s_WrongBook___eq) (defScope s_WrongBook___eq) [] [] f fd
abbrev s_WrongBook_holding : Stmt := inClass (top 44) 2
abbrev N_WrongBook_holding : List Str := ["word"]
abbrev P_WrongBook_holding : List Str := ["word"]
theorem sc_WrongBook_holding : FnScope N_WrongBook_holding P_WrongBook_holding (defScope s_WrongBook_holding) := ⟨rfl, rfl, rfl, by decide +kernel, rfl, by decide +kernel, by decide +kernel⟩
abbrev D_WrongBook_holding (K : PySem.W.Frag) (f : Addr) (fd : FuncData) : Prop := FunD K "holding" "WrongBook.holding" (defArgs s_WrongBook_holding) (defBody s_WrongBook_holding) (defScope s_WrongBook_holding) [] [] f fd
abbrev s_WrongBook_has : Stmt := inClass (top 44) 3
abbrev N_WrongBook_has : List Str := ["self", "word"]
abbrev P_WrongBook_has : List Str := ["self", "word"]
theorem sc_WrongBook_has : FnScope N_WrongBook_has P_WrongBook_has (defScope s_WrongBook_has) := ⟨rfl, rfl, rfl, by decide +kernel, rfl, by decide +kernel, by decide +kernel⟩
abbrev D_WrongBook_has (K : PySem.W.Frag) (f : Addr) (fd : FuncData) : Prop := FunD K "has" "WrongBook.has" (defArgs s_WrongBook_has) (defBody s_WrongBook_has) (defScope s_WrongBook_has) [] [] f fd
abbrev s_WrongBook_contrary : Stmt := inClass (top 44) 4
abbrev N_WrongBook_contrary : List Str := ["self"]
abbrev P_WrongBook_contrary : List Str := ["self"]
theorem sc_WrongBook_contrary : FnScope N_WrongBook_contrary P_WrongBook_contrary (defScope s_WrongBook_contrary) := ⟨rfl, rfl, rfl, by decide +kernel, rfl, by decide +kernel, by decide +kernel⟩
abbrev D_WrongBook_contrary (K : PySem.W.Frag) (f : Addr) (fd : FuncData) : Prop := FunD K "contrary" "WrongBook.contrary" (defArgs s_WrongBook_contrary) (defBody s_WrongBook_contrary) (defScope s_WrongBook_contrary) [] [] f fd
abbrev s_law_hand : Stmt := top 46
abbrev N_law_hand : List Str := ["_law_script", "_law_total", "_law_cells", "_law_cell"]
abbrev P_law_hand : List Str := ["_law_script"]
theorem sc_law_hand : FnScope N_law_hand P_law_hand (defScope s_law_hand) := ⟨rfl, rfl, rfl, by decide +kernel, rfl, by decide +kernel, by decide +kernel⟩
abbrev D_law_hand (K : PySem.W.Frag) (f : Addr) (fd : FuncData) : Prop := FunD K "_law_hand" "_law_hand" (defArgs s_law_hand) (defBody s_law_hand) (defScope s_law_hand) [] [] f fd
abbrev s_law_mixed : Stmt := top 47
abbrev N_law_mixed : List Str := ["_law_number", "_law_turn", "_law_once", "_law_twice"]
abbrev P_law_mixed : List Str := ["_law_number", "_law_turn"]
theorem sc_law_mixed : FnScope N_law_mixed P_law_mixed (defScope s_law_mixed) := ⟨rfl, rfl, rfl, by decide +kernel, rfl, by decide +kernel, by decide +kernel⟩
abbrev D_law_mixed (K : PySem.W.Frag) (f : Addr) (fd : FuncData) : Prop := FunD K "_law_mixed" "_law_mixed" (defArgs s_law_mixed) (defBody s_law_mixed) (defScope s_law_mixed) [] [] f fd
abbrev s_law_take : Stmt := top 48
abbrev N_law_take : List Str := ["_law_hand_here", "_law_many", "_law_cell", "_law_rest"]
abbrev P_law_take : List Str := ["_law_hand_here", "_law_many"]
theorem sc_law_take : FnScope N_law_take P_law_take (defScope s_law_take) := ⟨rfl, rfl, rfl, by decide +kernel, rfl, by decide +kernel, by decide +kernel⟩
abbrev D_law_take (K : PySem.W.Frag) (f : Addr) (fd : FuncData) : Prop := FunD K "_law_take" "_law_take" (defArgs s_law_take) (defBody s_law_take) (defScope s_law_take) [] [] f fd
abbrev s_law_power : Stmt := top 49
abbrev N_law_power : List Str := ["_law_base", "_law_exponent", "_law_total", "_law_k"]
abbrev P_law_power : List Str := ["_law_base", "_law_exponent"]
theorem sc_law_power : FnScope N_law_power P_law_power (defScope s_law_power) := ⟨rfl, rfl, rfl, by decide +kernel, rfl, by decide +kernel, by decide +kernel⟩
abbrev D_law_power (K : PySem.W.Frag) (f : Addr) (fd : FuncData) : Prop := FunD K "_law_power" "_law_power" (defArgs s_law_power) (defBody s_law_power) (defScope s_law_power) [] [] f fd
abbrev s_law_sum : Stmt := top 50
abbrev N_law_sum : List Str := ["_law_word", "_law_k"]
abbrev P_law_sum : List Str := ["_law_word"]
theorem sc_law_sum : FnScope N_law_sum P_law_sum (defScope s_law_sum) := ⟨rfl, rfl, rfl, by decide +kernel, rfl, by decide +kernel, by decide +kernel⟩
abbrev D_law_sum (K : PySem.W.Frag) (f : Addr) (fd : FuncData) : Prop := FunD K "_law_sum" "_law_sum" (defArgs s_law_sum) (defBody s_law_sum) (defScope s_law_sum) [] [] f fd
abbrev s_law_exact : Stmt := top 51
abbrev N_law_exact : List Str := ["_law_told", "_law_due", "_law_k"]
abbrev P_law_exact : List Str := ["_law_told", "_law_due"]
theorem sc_law_exact : FnScope N_law_exact P_law_exact (defScope s_law_exact) := ⟨rfl, rfl, rfl, by decide +kernel, rfl, by decide +kernel, by decide +kernel⟩
abbrev D_law_exact (K : PySem.W.Frag) (f : Addr) (fd : FuncData) : Prop := FunD K "_law_exact" "_law_exact" (defArgs s_law_exact) (defBody s_law_exact) (defScope s_law_exact) [] [] f fd
abbrev s_law_either : Stmt := top 52
abbrev N_law_either : List Str := ["_law_hand_here", "_law_word"]
abbrev P_law_either : List Str := ["_law_hand_here", "_law_word"]
theorem sc_law_either : FnScope N_law_either P_law_either (defScope s_law_either) := ⟨rfl, rfl, rfl, by decide +kernel, rfl, by decide +kernel, by decide +kernel⟩
abbrev D_law_either (K : PySem.W.Frag) (f : Addr) (fd : FuncData) : Prop := FunD K "_law_either" "_law_either" (defArgs s_law_either) (defBody s_law_either) (defScope s_law_either) [] [] f fd
abbrev s_law_doubling : Stmt := top 53
abbrev N_law_doubling : List Str := ["_law_length", "_law_told", "_law_place", "_law_k"]
abbrev P_law_doubling : List Str := ["_law_length"]
theorem sc_law_doubling : FnScope N_law_doubling P_law_doubling (defScope s_law_doubling) := ⟨rfl, rfl, rfl, by decide +kernel, rfl, by decide +kernel, by decide +kernel⟩
abbrev D_law_doubling (K : PySem.W.Frag) (f : Addr) (fd : FuncData) : Prop := FunD K "_law_doubling" "_law_doubling" (defArgs s_law_doubling) (defBody s_law_doubling) (defScope s_law_doubling) [] [] f fd
abbrev s_law_free : Stmt := top 54
abbrev N_law_free : List Str := ["_law_length", "_law_wrong", "_law_fixed", "_law_place"]
abbrev P_law_free : List Str := ["_law_length", "_law_wrong"]
theorem sc_law_free : FnScope N_law_free P_law_free (defScope s_law_free) := ⟨rfl, rfl, rfl, by decide +kernel, rfl, by decide +kernel, by decide +kernel⟩
abbrev D_law_free (K : PySem.W.Frag) (f : Addr) (fd : FuncData) : Prop := FunD K "_law_free" "_law_free" (defArgs s_law_free) (defBody s_law_free) (defScope s_law_free) [] [] f fd
abbrev s_law_data : Stmt := top 55
abbrev N_law_data : List Str := ["_law_length", "_law_rest", "_law_bits_here", "_law_wrong", "_law_modulus", "_law_free_here", "_law_word", "_law_k", "_law_lacking", "_law_fixed", "_law_place"]
abbrev P_law_data : List Str := ["_law_length", "_law_rest", "_law_bits_here", "_law_wrong"]
theorem sc_law_data : FnScope N_law_data P_law_data (defScope s_law_data) := ⟨rfl, rfl, rfl, by decide +kernel, rfl, by decide +kernel, by decide +kernel⟩
abbrev D_law_data (K : PySem.W.Frag) (f : Addr) (fd : FuncData) : Prop := FunD K "_law_data" "_law_data" (defArgs s_law_data) (defBody s_law_data) (defScope s_law_data) [] [] f fd
abbrev s_law_bits : Stmt := top 56
abbrev N_law_bits : List Str := ["_law_number", "_law_many", "_law_told", "_law_k"]
abbrev P_law_bits : List Str := ["_law_number", "_law_many"]
theorem sc_law_bits : FnScope N_law_bits P_law_bits (defScope s_law_bits) := ⟨rfl, rfl, rfl, by decide +kernel, rfl, by decide +kernel, by decide +kernel⟩
abbrev D_law_bits (K : PySem.W.Frag) (f : Addr) (fd : FuncData) : Prop := FunD K "_law_bits" "_law_bits" (defArgs s_law_bits) (defBody s_law_bits) (defScope s_law_bits) [] [] f fd
abbrev s_law_word_holds : Stmt := top 57
abbrev N_law_word_holds : List Str := ["_law_hand_here", "_law_length", "_law_rest", "_law_bits_here", "_law_wrong", "_law_given", "_law_due", "_law_told", "_law_back"]
abbrev P_law_word_holds : List Str := ["_law_hand_here", "_law_length", "_law_rest", "_law_bits_here", "_law_wrong"]
theorem sc_law_word_holds : FnScope N_law_word_holds P_law_word_holds (defScope s_law_word_holds) := ⟨rfl, rfl, rfl, by decide +kernel, rfl, by decide +kernel, by decide +kernel⟩
abbrev D_law_word_holds (K : PySem.W.Frag) (f : Addr) (fd : FuncData) : Prop := FunD K "_law_word_holds" "_law_word_holds" (defArgs s_law_word_holds) (defBody s_law_word_holds) (defScope s_law_word_holds) [] [] f fd
abbrev s_law_all_hold : Stmt := top 58
abbrev N_law_all_hold : List Str := ["_law_hand_here", "_law_length", "_law_wrong", "_law_free_here", "_law_rest", "_law_told", "_law_number", "_law_bits_here"]
abbrev P_law_all_hold : List Str := ["_law_hand_here", "_law_length", "_law_wrong"]
theorem sc_law_all_hold : FnScope N_law_all_hold P_law_all_hold (defScope s_law_all_hold) := ⟨rfl, rfl, rfl, by decide +kernel, rfl, by decide +kernel, by decide +kernel⟩
abbrev D_law_all_hold (K : PySem.W.Frag) (f : Addr) (fd : FuncData) : Prop := FunD K "_law_all_hold" "_law_all_hold" (defArgs s_law_all_hold) (defBody s_law_all_hold) (defScope s_law_all_hold) [] [] f fd
abbrev s_law : Stmt := top 59
abbrev N_law : List Str := ["_law_script", "_law_hand_here", "_law_length", "_law_wrong", "_law_free_here", "_law_bits_here", "_law_rest", "_law_word", "_law_small", "_law_place"]
abbrev P_law : List Str := ["_law_script"]
theorem sc_law : FnScope N_law P_law (defScope s_law) := ⟨rfl, rfl, rfl, by decide +kernel, rfl, by decide +kernel, by decide +kernel⟩
abbrev D_law (K : PySem.W.Frag) (f : Addr) (fd : FuncData) : Prop := FunD K "law" "law" (defArgs s_law) (defBody s_law) (defScope s_law) [] [] f fd
structure Txt (K : PySem.W.Frag) (mg : Str → Option Value) : Prop where
  x_BadWord : FldExc K (He.ga K "BadWord") (He.ma K (He.ga K "BadWord") "__init__")
  n_BadWord_is_index : PySem.W.findIn K (.ref (He.ga K "BadWord")) "index" = some none
  x_BadBits : FldExc K (He.ga K "BadBits") (He.ma K (He.ga K "BadBits") "__init__")
  n_BadBits_is_index : PySem.W.findIn K (.ref (He.ga K "BadBits")) "index" = some none
  z_isinstance : mg "isinstance" = none
  z_bool : mg "bool" = none
  z_int : mg "int" = none
  g_is_whole : mg "is_whole" = some (.ref (He.ga K "is_whole"))
  g_BadNumber : mg "BadNumber" = some (.ref (He.ga K "BadNumber"))
  e_BadNumber : OwnExc K (He.ga K "BadNumber")
  z_len : mg "len" = none
  z_tuple : mg "tuple" = none
  z_list : mg "list" = none
  g_BadWord : mg "BadWord" = some (.ref (He.ga K "BadWord"))
  z_enumerate : mg "enumerate" = none
  g__sum_of : mg "_sum_of" = some (.ref (He.ga K "_sum_of"))
  g_check_word : mg "check_word" = some (.ref (He.ga K "check_word"))
  c_MOST_HERE_sums : ∃ t, mg "MOST_HERE_sums" = some (.int 200 t)
  z_sum : mg "sum" = none
  g_check_number : mg "check_number" = some (.ref (He.ga K "check_number"))
  g__check_modulus : mg "_check_modulus" = some (.ref (He.ga K "_check_modulus"))
  g_check_rest_sums : mg "check_rest_sums" = some (.ref (He.ga K "check_rest_sums"))
  g_SumBook : mg "SumBook" = some (.ref (He.ga K "SumBook"))
  g__wall : mg "_wall" = some (.ref (He.ga K "_wall"))
  c_MOST_MODULUS : ∃ t, mg "MOST_MODULUS" = some (.int 1000000 t)
  g_BadModulus : mg "BadModulus" = some (.ref (He.ga K "BadModulus"))
  e_BadModulus : OwnExc K (He.ga K "BadModulus")
  g_BadRest : mg "BadRest" = some (.ref (He.ga K "BadRest"))
  e_BadRest : OwnExc K (He.ga K "BadRest")
  c_MOST_LENGTH_datas : ∃ t, mg "MOST_LENGTH_datas" = some (.int 200 t)
  g__fixed_places : mg "_fixed_places" = some (.ref (He.ga K "_fixed_places"))
  z_range : mg "range" = none
  g_free_places : mg "free_places" = some (.ref (He.ga K "free_places"))
  g__check_bits : mg "_check_bits" = some (.ref (He.ga K "_check_bits"))
  z_zip : mg "zip" = none
  g_place_sum : mg "place_sum" = some (.ref (He.ga K "place_sum"))
  g_BadBits : mg "BadBits" = some (.ref (He.ga K "BadBits"))
  c_MOST_DIVIDED : ∃ t, mg "MOST_DIVIDED" = some (.int 2000 t)
  g__primes_of : mg "_primes_of" = some (.ref (He.ga K "_primes_of"))
  z_set : mg "set" = none
  i_gcd : mg "gcd" = some (.builtin "math.gcd")
  g_phi_of : mg "phi_of" = some (.ref (He.ga K "phi_of"))
  g_mu_of : mg "mu_of" = some (.ref (He.ga K "mu_of"))
  c_MOST_LENGTH_sizes : ∃ t, mg "MOST_LENGTH_sizes" = some (.int 200 t)
  g_check_rest_sizes : mg "check_rest_sizes" = some (.ref (He.ga K "check_rest_sizes"))
  g_divisors_of : mg "divisors_of" = some (.ref (He.ga K "divisors_of"))
  g_ram_of : mg "ram_of" = some (.ref (He.ga K "ram_of"))
  c_MOST_LENGTH_wrongs : ∃ t, mg "MOST_LENGTH_wrongs" = some (.int 60 t)
  g_size_of : mg "size_of" = some (.ref (He.ga K "size_of"))
  g_WrongBook : mg "WrongBook" = some (.ref (He.ga K "WrongBook"))
  c_MOST_HERE_wrongs : ∃ t, mg "MOST_HERE_wrongs" = some (.int 61 t)
  z_abs : mg "abs" = none
  g__law_mixed : mg "_law_mixed" = some (.ref (He.ga K "_law_mixed"))
  z_all : mg "all" = none
  g__law_exact : mg "_law_exact" = some (.ref (He.ga K "_law_exact"))
  z_str : mg "str" = none
  g__law_take : mg "_law_take" = some (.ref (He.ga K "_law_take"))
  g__law_doubling : mg "_law_doubling" = some (.ref (He.ga K "_law_doubling"))
  g__law_free : mg "_law_free" = some (.ref (He.ga K "_law_free"))
  g__law_sum : mg "_law_sum" = some (.ref (He.ga K "_law_sum"))
  g__law_either : mg "_law_either" = some (.ref (He.ga K "_law_either"))
  g__law_data : mg "_law_data" = some (.ref (He.ga K "_law_data"))
  g_data_word : mg "data_word" = some (.ref (He.ga K "data_word"))
  l_WrongBook : Cls K (He.ga K "WrongBook")
  b_WrongBook_is_has : Meth K (He.ga K "WrongBook") "has" (He.ma K (He.ga K "WrongBook") "has")
  r_WrongBook : Mk K (He.ga K "WrongBook") (He.ma K (He.ga K "WrongBook") "__init__")
  l_SumBook : Cls K (He.ga K "SumBook")
  b_SumBook_is_has : Meth K (He.ga K "SumBook") "has" (He.ma K (He.ga K "SumBook") "has")
  r_SumBook : Mk K (He.ga K "SumBook") (He.ma K (He.ga K "SumBook") "__init__")
  g_data_of : mg "data_of" = some (.ref (He.ga K "data_of"))
  g__law_power : mg "_law_power" = some (.ref (He.ga K "_law_power"))
  g__law_bits : mg "_law_bits" = some (.ref (He.ga K "_law_bits"))
  g__law_word_holds : mg "_law_word_holds" = some (.ref (He.ga K "_law_word_holds"))
  g__law_hand : mg "_law_hand" = some (.ref (He.ga K "_law_hand"))
  g__law_all_hold : mg "_law_all_hold" = some (.ref (He.ga K "_law_all_hold"))
  a_SumBook_is_length : NoAttr K (He.ga K "SumBook") "length"
  a_SumBook_is_modulus : NoAttr K (He.ga K "SumBook") "modulus"
  a_SumBook_is_rest : NoAttr K (He.ga K "SumBook") "rest"
  a_WrongBook_is_length : NoAttr K (He.ga K "WrongBook") "length"
  a_WrongBook_is_rest : NoAttr K (He.ga K "WrongBook") "rest"
  a_WrongBook_is_modulus : NoAttr K (He.ga K "WrongBook") "modulus"
  a_WrongBook_is_size : NoAttr K (He.ga K "WrongBook") "size"
  j_SumBook : KinOk K (He.ga K "SumBook")
  o_SumBook : InsK K (He.ga K "SumBook")
  k_SumBook_is_SumBook : PySem.W.kitOne K (.ref (He.ga K "SumBook")) (.ref (He.ga K "SumBook")) = some true
  o_WrongBook : InsK K (He.ga K "WrongBook")
  k_WrongBook_is_SumBook : PySem.W.kitOne K (.ref (He.ga K "WrongBook")) (.ref (He.ga K "SumBook")) = some false
  j_WrongBook : KinOk K (He.ga K "WrongBook")
  k_SumBook_is_WrongBook : PySem.W.kitOne K (.ref (He.ga K "SumBook")) (.ref (He.ga K "WrongBook")) = some false
  k_WrongBook_is_WrongBook : PySem.W.kitOne K (.ref (He.ga K "WrongBook")) (.ref (He.ga K "WrongBook")) = some true
  F_wall : ∃ fd, D_wall K (He.ga K "_wall") fd
  F_BadWord___init : ∃ fd, D_BadWord___init K (He.ma K (He.ga K "BadWord") "__init__") fd
  F_BadBits___init : ∃ fd, D_BadBits___init K (He.ma K (He.ga K "BadBits") "__init__") fd
  F_is_whole : ∃ fd, D_is_whole K (He.ga K "is_whole") fd
  F_check_number : ∃ fd, D_check_number K (He.ga K "check_number") fd
  F_check_word : ∃ fd, D_check_word K (He.ga K "check_word") fd
  F_place_sum : ∃ fd, D_place_sum K (He.ga K "place_sum") fd
  F_sum_of : ∃ fd, D_sum_of K (He.ga K "_sum_of") fd
  F_SumBook___init : ∃ fd, D_SumBook___init K (He.ma K (He.ga K "SumBook") "__init__") fd
  F_SumBook___eq : ∃ fd, D_SumBook___eq K (He.ma K (He.ga K "SumBook") "__eq__") fd
  F_SumBook_is_full : ∃ fd, D_SumBook_is_full K (gA K "SumBook" "is_full") fd
  F_SumBook_holding : ∃ fd, D_SumBook_holding K (He5.wf K (He.ga K "SumBook") "staticmethod" "holding") fd
  F_SumBook_has : ∃ fd, D_SumBook_has K (He.ma K (He.ga K "SumBook") "has") fd
  F_SumBook_contrary : ∃ fd, D_SumBook_contrary K (He.ma K (He.ga K "SumBook") "contrary") fd
  F_SumBook_turned : ∃ fd, D_SumBook_turned K (He.ma K (He.ga K "SumBook") "turned") fd
  F_check_modulus : ∃ fd, D_check_modulus K (He.ga K "_check_modulus") fd
  F_check_rest_sums : ∃ fd, D_check_rest_sums K (He.ga K "check_rest_sums") fd
  F_free_places : ∃ fd, D_free_places K (He.ga K "free_places") fd
  F_fixed_places : ∃ fd, D_fixed_places K (He.ga K "_fixed_places") fd
  F_data_word : ∃ fd, D_data_word K (He.ga K "data_word") fd
  F_check_bits : ∃ fd, D_check_bits K (He.ga K "_check_bits") fd
  F_data_of : ∃ fd, D_data_of K (He.ga K "data_of") fd
  F_divisors_of : ∃ fd, D_divisors_of K (He.ga K "divisors_of") fd
  F_phi_of : ∃ fd, D_phi_of K (He.ga K "phi_of") fd
  F_primes_of : ∃ fd, D_primes_of K (He.ga K "_primes_of") fd
  F_mu_of : ∃ fd, D_mu_of K (He.ga K "mu_of") fd
  F_ram_of : ∃ fd, D_ram_of K (He.ga K "ram_of") fd
  F_size_of : ∃ fd, D_size_of K (He.ga K "size_of") fd
  F_check_rest_sizes : ∃ fd, D_check_rest_sizes K (He.ga K "check_rest_sizes") fd
  F_WrongBook___init : ∃ fd, D_WrongBook___init K (He.ma K (He.ga K "WrongBook") "__init__") fd
  F_WrongBook___eq : ∃ fd, D_WrongBook___eq K (He.ma K (He.ga K "WrongBook") "__eq__") fd
  F_WrongBook_holding : ∃ fd, D_WrongBook_holding K (He5.wf K (He.ga K "WrongBook") "staticmethod" "holding") fd
  F_WrongBook_has : ∃ fd, D_WrongBook_has K (He.ma K (He.ga K "WrongBook") "has") fd
  F_WrongBook_contrary : ∃ fd, D_WrongBook_contrary K (He.ma K (He.ga K "WrongBook") "contrary") fd
  F_law_hand : ∃ fd, D_law_hand K (He.ga K "_law_hand") fd
  F_law_mixed : ∃ fd, D_law_mixed K (He.ga K "_law_mixed") fd
  F_law_take : ∃ fd, D_law_take K (He.ga K "_law_take") fd
  F_law_power : ∃ fd, D_law_power K (He.ga K "_law_power") fd
  F_law_sum : ∃ fd, D_law_sum K (He.ga K "_law_sum") fd
  F_law_exact : ∃ fd, D_law_exact K (He.ga K "_law_exact") fd
  F_law_either : ∃ fd, D_law_either K (He.ga K "_law_either") fd
  F_law_doubling : ∃ fd, D_law_doubling K (He.ga K "_law_doubling") fd
  F_law_free : ∃ fd, D_law_free K (He.ga K "_law_free") fd
  F_law_data : ∃ fd, D_law_data K (He.ga K "_law_data") fd
  F_law_bits : ∃ fd, D_law_bits K (He.ga K "_law_bits") fd
  F_law_word_holds : ∃ fd, D_law_word_holds K (He.ga K "_law_word_holds") fd
  F_law_all_hold : ∃ fd, D_law_all_hold K (He.ga K "_law_all_hold") fd
  F_law : ∃ fd, D_law K (He.ga K "law") fd
theorem bd_wall {K : PySem.W.Frag} {f : Addr} {fd : FuncData} (F : D_wall K f fd) : Binds K fd P_wall [] := F.bindsN fun _ _ _ _ _ _ us hl => match us, hl with | [_], _ => rfl
theorem bd_BadWord___init {K : PySem.W.Frag} {f : Addr} {fd : FuncData} (F : D_BadWord___init K f fd) : Binds K fd P_BadWord___init [] := F.bindsN fun _ _ _ _ _ _ us hl => match us, hl with | [_, _], _ => rfl
theorem bd_BadBits___init {K : PySem.W.Frag} {f : Addr} {fd : FuncData} (F : D_BadBits___init K f fd) : Binds K fd P_BadBits___init [] := F.bindsN fun _ _ _ _ _ _ us hl => match us, hl with | [_, _], _ => rfl
theorem bd_check_number {K : PySem.W.Frag} {f : Addr} {fd : FuncData} (F : D_check_number K f fd) : Binds K fd P_check_number [] := F.bindsN fun _ _ _ _ _ _ us hl => match us, hl with | [_, _, _], _ => rfl
theorem bd_place_sum {K : PySem.W.Frag} {f : Addr} {fd : FuncData} (F : D_place_sum K f fd) : Binds K fd P_place_sum [] := F.bindsN fun _ _ _ _ _ _ us hl => match us, hl with | [_], _ => rfl
theorem bd_sum_of {K : PySem.W.Frag} {f : Addr} {fd : FuncData} (F : D_sum_of K f fd) : Binds K fd P_sum_of [] := F.bindsN fun _ _ _ _ _ _ us hl => match us, hl with | [_], _ => rfl
theorem bd_SumBook___init {K : PySem.W.Frag} {f : Addr} {fd : FuncData} (F : D_SumBook___init K f fd) : Binds K fd P_SumBook___init [] := F.bindsN fun _ _ _ _ _ _ us hl => match us, hl with | [_, _, _, _], _ => rfl
theorem bd_SumBook___eq {K : PySem.W.Frag} {f : Addr} {fd : FuncData} (F : D_SumBook___eq K f fd) : Binds K fd P_SumBook___eq [] := F.bindsN fun _ _ _ _ _ _ us hl => match us, hl with | [_, _], _ => rfl
theorem bd_SumBook_is_full {K : PySem.W.Frag} {f : Addr} {fd : FuncData} (F : D_SumBook_is_full K f fd) : Binds K fd P_SumBook_is_full [] := F.bindsN fun _ _ _ _ _ _ us hl => match us, hl with | [_], _ => rfl
theorem bd_SumBook_holding {K : PySem.W.Frag} {f : Addr} {fd : FuncData} (F : D_SumBook_holding K f fd) : Binds K fd P_SumBook_holding [] := F.bindsN fun _ _ _ _ _ _ us hl => match us, hl with | [_, _], _ => rfl
theorem bd_SumBook_has {K : PySem.W.Frag} {f : Addr} {fd : FuncData} (F : D_SumBook_has K f fd) : Binds K fd P_SumBook_has [] := F.bindsN fun _ _ _ _ _ _ us hl => match us, hl with | [_, _], _ => rfl
theorem bd_SumBook_contrary {K : PySem.W.Frag} {f : Addr} {fd : FuncData} (F : D_SumBook_contrary K f fd) : Binds K fd P_SumBook_contrary [] := F.bindsN fun _ _ _ _ _ _ us hl => match us, hl with | [_], _ => rfl
theorem bd_SumBook_turned {K : PySem.W.Frag} {f : Addr} {fd : FuncData} (F : D_SumBook_turned K f fd) : Binds K fd P_SumBook_turned [] := F.bindsN fun _ _ _ _ _ _ us hl => match us, hl with | [_], _ => rfl
theorem bd_check_modulus {K : PySem.W.Frag} {f : Addr} {fd : FuncData} (F : D_check_modulus K f fd) : Binds K fd P_check_modulus [] := F.bindsN fun _ _ _ _ _ _ us hl => match us, hl with | [_, _], _ => rfl
theorem bd_check_rest_sums {K : PySem.W.Frag} {f : Addr} {fd : FuncData} (F : D_check_rest_sums K f fd) : Binds K fd P_check_rest_sums [] := F.bindsN fun _ _ _ _ _ _ us hl => match us, hl with | [_, _], _ => rfl
theorem bd_fixed_places {K : PySem.W.Frag} {f : Addr} {fd : FuncData} (F : D_fixed_places K f fd) : Binds K fd P_fixed_places [] := F.bindsN fun _ _ _ _ _ _ us hl => match us, hl with | [_], _ => rfl
theorem bd_check_bits {K : PySem.W.Frag} {f : Addr} {fd : FuncData} (F : D_check_bits K f fd) : Binds K fd P_check_bits [] := F.bindsN fun _ _ _ _ _ _ us hl => match us, hl with | [_, _], _ => rfl
theorem bd_divisors_of {K : PySem.W.Frag} {f : Addr} {fd : FuncData} (F : D_divisors_of K f fd) : Binds K fd P_divisors_of [] := F.bindsN fun _ _ _ _ _ _ us hl => match us, hl with | [_], _ => rfl
theorem bd_phi_of {K : PySem.W.Frag} {f : Addr} {fd : FuncData} (F : D_phi_of K f fd) : Binds K fd P_phi_of [] := F.bindsN fun _ _ _ _ _ _ us hl => match us, hl with | [_], _ => rfl
theorem bd_primes_of {K : PySem.W.Frag} {f : Addr} {fd : FuncData} (F : D_primes_of K f fd) : Binds K fd P_primes_of [] := F.bindsN fun _ _ _ _ _ _ us hl => match us, hl with | [_], _ => rfl
theorem bd_mu_of {K : PySem.W.Frag} {f : Addr} {fd : FuncData} (F : D_mu_of K f fd) : Binds K fd P_mu_of [] := F.bindsN fun _ _ _ _ _ _ us hl => match us, hl with | [_], _ => rfl
theorem bd_ram_of {K : PySem.W.Frag} {f : Addr} {fd : FuncData} (F : D_ram_of K f fd) : Binds K fd P_ram_of [] := F.bindsN fun _ _ _ _ _ _ us hl => match us, hl with | [_, _], _ => rfl
theorem bd_size_of {K : PySem.W.Frag} {f : Addr} {fd : FuncData} (F : D_size_of K f fd) : Binds K fd P_size_of [] := F.bindsN fun _ _ _ _ _ _ us hl => match us, hl with | [_, _], _ => rfl
theorem bd_check_rest_sizes {K : PySem.W.Frag} {f : Addr} {fd : FuncData} (F : D_check_rest_sizes K f fd) : Binds K fd P_check_rest_sizes [] := F.bindsN fun _ _ _ _ _ _ us hl => match us, hl with | [_, _], _ => rfl
theorem bd_WrongBook___init {K : PySem.W.Frag} {f : Addr} {fd : FuncData} (F : D_WrongBook___init K f fd) : Binds K fd P_WrongBook___init [] := F.bindsN fun _ _ _ _ _ _ us hl => match us, hl with | [_, _, _], _ => rfl
theorem bd_WrongBook___eq {K : PySem.W.Frag} {f : Addr} {fd : FuncData} (F : D_WrongBook___eq K f fd) : Binds K fd P_WrongBook___eq [] := F.bindsN fun _ _ _ _ _ _ us hl => match us, hl with | [_, _], _ => rfl
theorem bd_WrongBook_holding {K : PySem.W.Frag} {f : Addr} {fd : FuncData} (F : D_WrongBook_holding K f fd) : Binds K fd P_WrongBook_holding [] := F.bindsN fun _ _ _ _ _ _ us hl => match us, hl with | [_], _ => rfl
theorem bd_WrongBook_has {K : PySem.W.Frag} {f : Addr} {fd : FuncData} (F : D_WrongBook_has K f fd) : Binds K fd P_WrongBook_has [] := F.bindsN fun _ _ _ _ _ _ us hl => match us, hl with | [_, _], _ => rfl
theorem bd_WrongBook_contrary {K : PySem.W.Frag} {f : Addr} {fd : FuncData} (F : D_WrongBook_contrary K f fd) : Binds K fd P_WrongBook_contrary [] := F.bindsN fun _ _ _ _ _ _ us hl => match us, hl with | [_], _ => rfl
theorem bd_law_hand {K : PySem.W.Frag} {f : Addr} {fd : FuncData} (F : D_law_hand K f fd) : Binds K fd P_law_hand [] := F.bindsN fun _ _ _ _ _ _ us hl => match us, hl with | [_], _ => rfl
theorem bd_law_mixed {K : PySem.W.Frag} {f : Addr} {fd : FuncData} (F : D_law_mixed K f fd) : Binds K fd P_law_mixed [] := F.bindsN fun _ _ _ _ _ _ us hl => match us, hl with | [_, _], _ => rfl
theorem bd_law_take {K : PySem.W.Frag} {f : Addr} {fd : FuncData} (F : D_law_take K f fd) : Binds K fd P_law_take [] := F.bindsN fun _ _ _ _ _ _ us hl => match us, hl with | [_, _], _ => rfl
theorem bd_law_power {K : PySem.W.Frag} {f : Addr} {fd : FuncData} (F : D_law_power K f fd) : Binds K fd P_law_power [] := F.bindsN fun _ _ _ _ _ _ us hl => match us, hl with | [_, _], _ => rfl
theorem bd_law_sum {K : PySem.W.Frag} {f : Addr} {fd : FuncData} (F : D_law_sum K f fd) : Binds K fd P_law_sum [] := F.bindsN fun _ _ _ _ _ _ us hl => match us, hl with | [_], _ => rfl
theorem bd_law_exact {K : PySem.W.Frag} {f : Addr} {fd : FuncData} (F : D_law_exact K f fd) : Binds K fd P_law_exact [] := F.bindsN fun _ _ _ _ _ _ us hl => match us, hl with | [_, _], _ => rfl
theorem bd_law_either {K : PySem.W.Frag} {f : Addr} {fd : FuncData} (F : D_law_either K f fd) : Binds K fd P_law_either [] := F.bindsN fun _ _ _ _ _ _ us hl => match us, hl with | [_, _], _ => rfl
theorem bd_law_doubling {K : PySem.W.Frag} {f : Addr} {fd : FuncData} (F : D_law_doubling K f fd) : Binds K fd P_law_doubling [] := F.bindsN fun _ _ _ _ _ _ us hl => match us, hl with | [_], _ => rfl
theorem bd_law_free {K : PySem.W.Frag} {f : Addr} {fd : FuncData} (F : D_law_free K f fd) : Binds K fd P_law_free [] := F.bindsN fun _ _ _ _ _ _ us hl => match us, hl with | [_, _], _ => rfl
theorem bd_law_data {K : PySem.W.Frag} {f : Addr} {fd : FuncData} (F : D_law_data K f fd) : Binds K fd P_law_data [] := F.bindsN fun _ _ _ _ _ _ us hl => match us, hl with | [_, _, _, _], _ => rfl
theorem bd_law_bits {K : PySem.W.Frag} {f : Addr} {fd : FuncData} (F : D_law_bits K f fd) : Binds K fd P_law_bits [] := F.bindsN fun _ _ _ _ _ _ us hl => match us, hl with | [_, _], _ => rfl
theorem bd_law_word_holds {K : PySem.W.Frag} {f : Addr} {fd : FuncData} (F : D_law_word_holds K f fd) : Binds K fd P_law_word_holds [] := F.bindsN fun _ _ _ _ _ _ us hl => match us, hl with | [_, _, _, _, _], _ => rfl
theorem bd_law_all_hold {K : PySem.W.Frag} {f : Addr} {fd : FuncData} (F : D_law_all_hold K f fd) : Binds K fd P_law_all_hold [] := F.bindsN fun _ _ _ _ _ _ us hl => match us, hl with | [_, _, _], _ => rfl
theorem bd_law {K : PySem.W.Frag} {f : Addr} {fd : FuncData} (F : D_law K f fd) : Binds K fd P_law [] := F.bindsN fun _ _ _ _ _ _ us hl => match us, hl with | [_], _ => rfl
theorem kb_free_places_1_wrong {K : PySem.W.Frag} {f : Addr} {fd : FuncData} (F : D_free_places K f fd) : ∃ md td : List Value, Vals [] md ∧ Vals [] td ∧ KBn K fd P_free_places 1 ["wrong"] (fun us ws => us ++ md ++ ws ++ td) (fun vs zs => vs ++ [] ++ zs ++ []) := funD_kb0 F 1 ["wrong"] fun _ _ _ _ _ _ us ws h1 h2 => match us, ws, h1, h2 with | [_], [_], _, _ => rfl
theorem kb_data_word_3_wrong {K : PySem.W.Frag} {f : Addr} {fd : FuncData} (F : D_data_word K f fd) : ∃ md td : List Value, Vals [] md ∧ Vals [] td ∧ KBn K fd P_data_word 3 ["wrong"] (fun us ws => us ++ md ++ ws ++ td) (fun vs zs => vs ++ [] ++ zs ++ []) := funD_kb0 F 3 ["wrong"] fun _ _ _ _ _ _ us ws h1 h2 => match us, ws, h1, h2 with | [_, _, _], [_], _, _ => rfl
theorem kb_data_of_1_wrong {K : PySem.W.Frag} {f : Addr} {fd : FuncData} (F : D_data_of K f fd) : ∃ md td : List Value, Vals [] md ∧ Vals [] td ∧ KBn K fd P_data_of 1 ["wrong"] (fun us ws => us ++ md ++ ws ++ td) (fun vs zs => vs ++ [] ++ zs ++ []) := funD_kb0 F 1 ["wrong"] fun _ _ _ _ _ _ us ws h1 h2 => match us, ws, h1, h2 with | [_], [_], _, _ => rfl
theorem bd_is_whole_3 {K : PySem.W.Frag} {f : Addr} {fd : FuncData} (F : D_is_whole K f fd) : ∃ ds, Vals [] ds ∧ Binds K fd P_is_whole ds := F.binds1 3 2 (by simp) rfl fun _ _ _ _ _ _ _ us its h1 h2 => match us, its, h1, h2 with | [_, _, _], [_, _], _, _ => ⟨_, rfl, rfl⟩
theorem bd_check_word_3 {K : PySem.W.Frag} {f : Addr} {fd : FuncData} (F : D_check_word K f fd) : ∃ ds, Vals [] ds ∧ Binds K fd P_check_word ds := F.binds1 3 1 (by simp) rfl fun _ _ _ _ _ _ _ us its h1 h2 => match us, its, h1, h2 with | [_, _, _], [_], _, _ => ⟨_, rfl, rfl⟩
theorem bd_data_word_3 {K : PySem.W.Frag} {f : Addr} {fd : FuncData} (F : D_data_word K f fd) : ∃ ds, Vals [V.bl false] ds ∧ Binds K fd P_data_word ds := F.binds0 3 (by simp) rfl fun _ _ _ _ _ _ us its h1 h2 => match us, its, h1, h2 with | [_, _, _], [_], _, _ => ⟨_, _, _, _, _, _, rfl, rfl, rfl⟩
theorem bd_data_of_1 {K : PySem.W.Frag} {f : Addr} {fd : FuncData} (F : D_data_of K f fd) : ∃ ds, Vals [V.bl false] ds ∧ Binds K fd P_data_of ds := F.binds0 1 (by simp) rfl fun _ _ _ _ _ _ us its h1 h2 => match us, its, h1, h2 with | [_], [_], _, _ => ⟨_, _, _, _, _, _, rfl, rfl, rfl⟩
theorem bd_free_places_1 {K : PySem.W.Frag} {f : Addr} {fd : FuncData} (F : D_free_places K f fd) : ∃ ds, Vals [V.bl false] ds ∧ Binds K fd P_free_places ds := F.binds0 1 (by simp) rfl fun _ _ _ _ _ _ us its h1 h2 => match us, its, h1, h2 with | [_], [_], _, _ => ⟨_, _, _, _, _, _, rfl, rfl, rfl⟩
theorem mt_ok {K : PySem.W.Frag} {mg : Str → Option Value} (T : Txt K mg) : ∀ a b r, mt a b = some r → PySem.W.exmOne K (.ref (He.ga K a)) (.ref (He.ga K b)) = some r := by
  intro a b r h
  unfold mt at h
  cases h
theorem fld_ok {K : PySem.W.Frag} {mg : Str → Option Value} (T : Txt K mg) : FldOk K ftab := by
  intro a f h
  unfold ftab at h
  by_cases c : a = "SumBook" ∧ f = "length"
  · obtain ⟨rfl, rfl⟩ := c; exact ⟨T.l_SumBook, T.a_SumBook_is_length⟩
  rw [if_neg c] at h; clear c
  by_cases c : a = "SumBook" ∧ f = "modulus"
  · obtain ⟨rfl, rfl⟩ := c; exact ⟨T.l_SumBook, T.a_SumBook_is_modulus⟩
  rw [if_neg c] at h; clear c
  by_cases c : a = "SumBook" ∧ f = "rest"
  · obtain ⟨rfl, rfl⟩ := c; exact ⟨T.l_SumBook, T.a_SumBook_is_rest⟩
  rw [if_neg c] at h; clear c
  by_cases c : a = "WrongBook" ∧ f = "length"
  · obtain ⟨rfl, rfl⟩ := c; exact ⟨T.l_WrongBook, T.a_WrongBook_is_length⟩
  rw [if_neg c] at h; clear c
  by_cases c : a = "WrongBook" ∧ f = "rest"
  · obtain ⟨rfl, rfl⟩ := c; exact ⟨T.l_WrongBook, T.a_WrongBook_is_rest⟩
  rw [if_neg c] at h; clear c
  by_cases c : a = "WrongBook" ∧ f = "modulus"
  · obtain ⟨rfl, rfl⟩ := c; exact ⟨T.l_WrongBook, T.a_WrongBook_is_modulus⟩
  rw [if_neg c] at h; clear c
  by_cases c : a = "WrongBook" ∧ f = "size"
  · obtain ⟨rfl, rfl⟩ := c; exact ⟨T.l_WrongBook, T.a_WrongBook_is_size⟩
  rw [if_neg c] at h; clear c
  cases h
theorem isi_SumBook {K : PySem.W.Frag} {mg : Str → Option Value} (T : Txt K mg) : IsOk K "SumBook" tabI_SumBook := by
  refine ⟨fun a r h => ?_, T.j_SumBook⟩
  unfold tabI_SumBook at h
  by_cases c : a = "SumBook"
  · rw [if_pos c] at h; subst c; cases h; exact ⟨T.k_SumBook_is_SumBook, tyx_ins T.l_SumBook T.o_SumBook⟩
  rw [if_neg c] at h; clear c
  by_cases c : a = "WrongBook"
  · rw [if_pos c] at h; subst c; cases h; exact ⟨T.k_WrongBook_is_SumBook, tyx_ins T.l_WrongBook T.o_WrongBook⟩
  rw [if_neg c] at h; clear c
  cases h
theorem isi_WrongBook {K : PySem.W.Frag} {mg : Str → Option Value} (T : Txt K mg) : IsOk K "WrongBook" tabI_WrongBook := by
  refine ⟨fun a r h => ?_, T.j_WrongBook⟩
  unfold tabI_WrongBook at h
  by_cases c : a = "SumBook"
  · rw [if_pos c] at h; subst c; cases h; exact ⟨T.k_SumBook_is_WrongBook, tyx_ins T.l_SumBook T.o_SumBook⟩
  rw [if_neg c] at h; clear c
  by_cases c : a = "WrongBook"
  · rw [if_pos c] at h; subst c; cases h; exact ⟨T.k_WrongBook_is_WrongBook, tyx_ins T.l_WrongBook T.o_WrongBook⟩
  rw [if_neg c] at h; clear c
  cases h

end Mine

namespace Mine
open PySem PySem.Spec PyProof.Rows L2
def q_wall : He5.DefA := ⟨fun K => (He.ga K "_wall"), "_wall", "_wall", defArgs s_wall, defBody s_wall, defScope s_wall, [], []⟩
def q_BadWord___init : He5.DefA := ⟨fun K => (He.ma K (He.ga K "BadWord") "__init__"), "__init__", "BadWord.__init__", defArgs s_BadWord___init, defBody s_BadWord___init, defScope s_BadWord___init, [], []⟩
def q_BadBits___init : He5.DefA := ⟨fun K => (He.ma K (He.ga K "BadBits") "__init__"), "__init__", "BadBits.__init__", defArgs s_BadBits___init, defBody s_BadBits___init, defScope s_BadBits___init, [], []⟩
def q_is_whole : He5.DefA := ⟨fun K => (He.ga K "is_whole"), "is_whole", "is_whole", defArgs s_is_whole, defBody s_is_whole, defScope s_is_whole, [.non, .non], []⟩
def q_check_number : He5.DefA := ⟨fun K => (He.ga K "check_number"), "check_number", "check_number", defArgs s_check_number, defBody s_check_number, defScope s_check_number, [], []⟩
def q_check_word : He5.DefA := ⟨fun K => (He.ga K "check_word"), "check_word", "check_word", defArgs s_check_word, defBody s_check_word, defScope s_check_word, [.int (24)], []⟩
def q_place_sum : He5.DefA := ⟨fun K => (He.ga K "place_sum"), "place_sum", "place_sum", defArgs s_place_sum, defBody s_place_sum, defScope s_place_sum, [], []⟩
def q_sum_of : He5.DefA := ⟨fun K => (He.ga K "_sum_of"), "_sum_of", "_sum_of", defArgs s_sum_of, defBody s_sum_of, defScope s_sum_of, [], []⟩
def q_SumBook___init : He5.DefA := ⟨fun K => (He.ma K (He.ga K "SumBook") "__init__"), "__init__", "SumBook.__init__", defArgs s_SumBook___init, defBody s_SumBook___init, defScope s_SumBook___init, [], []⟩
def q_SumBook___eq : He5.DefA := ⟨fun K => (He.ma K (He.ga K "SumBook") "__eq__"), "__eq__", "SumBook.__eq__", defArgs s_SumBook___eq, defBody s_SumBook___eq, defScope s_SumBook___eq, [], []⟩
def q_SumBook_is_full : He5.DefA := ⟨fun K => (gA K "SumBook" "is_full"), "is_full", "SumBook.is_full", defArgs s_SumBook_is_full, defBody s_SumBook_is_full, defScope s_SumBook_is_full, [], []⟩
def q_SumBook_holding : He5.DefA := ⟨fun K => (He5.wf K (He.ga K "SumBook") "staticmethod" "holding"), "holding", "SumBook.holding", defArgs s_SumBook_holding, defBody s_SumBook_holding, defScope s_SumBook_holding, [], []⟩
def q_SumBook_has : He5.DefA := ⟨fun K => (He.ma K (He.ga K "SumBook") "has"), "has", "SumBook.has", defArgs s_SumBook_has, defBody s_SumBook_has, defScope s_SumBook_has, [], []⟩
def q_SumBook_contrary : He5.DefA := ⟨fun K => (He.ma K (He.ga K "SumBook") "contrary"), "contrary", "SumBook.contrary", defArgs s_SumBook_contrary, defBody s_SumBook_contrary, defScope s_SumBook_contrary, [], []⟩
def q_SumBook_turned : He5.DefA := ⟨fun K => (He.ma K (He.ga K "SumBook") "turned"), "turned", "SumBook.turned", defArgs s_SumBook_turned, defBody s_SumBook_turned, defScope s_SumBook_turned, [], []⟩
def q_check_modulus : He5.DefA := ⟨fun K => (He.ga K "_check_modulus"), "_check_modulus", "_check_modulus", defArgs s_check_modulus, defBody s_check_modulus, defScope s_check_modulus, [], []⟩
def q_check_rest_sums : He5.DefA := ⟨fun K => (He.ga K "check_rest_sums"), "_check_rest", "_check_rest", defArgs s_check_rest_sums, defBody s_check_rest_sums, defScope s_check_rest_sums, [], []⟩
def q_free_places : He5.DefA := ⟨fun K => (He.ga K "free_places"), "free_places", "free_places", defArgs s_free_places, defBody s_free_places, defScope s_free_places, [], [("wrong", .bl false)]⟩
def q_fixed_places : He5.DefA := ⟨fun K => (He.ga K "_fixed_places"), "_fixed_places", "_fixed_places", defArgs s_fixed_places, defBody s_fixed_places, defScope s_fixed_places, [], []⟩
def q_data_word : He5.DefA := ⟨fun K => (He.ga K "data_word"), "data_word", "data_word", defArgs s_data_word, defBody s_data_word, defScope s_data_word, [], [("wrong", .bl false)]⟩
def q_check_bits : He5.DefA := ⟨fun K => (He.ga K "_check_bits"), "_check_bits", "_check_bits", defArgs s_check_bits, defBody s_check_bits, defScope s_check_bits, [], []⟩
def q_data_of : He5.DefA := ⟨fun K => (He.ga K "data_of"), "data_of", "data_of", defArgs s_data_of, defBody s_data_of, defScope s_data_of, [], [("wrong", .bl false)]⟩
def q_divisors_of : He5.DefA := ⟨fun K => (He.ga K "divisors_of"), "divisors_of", "divisors_of", defArgs s_divisors_of, defBody s_divisors_of, defScope s_divisors_of, [], []⟩
def q_phi_of : He5.DefA := ⟨fun K => (He.ga K "phi_of"), "phi_of", "phi_of", defArgs s_phi_of, defBody s_phi_of, defScope s_phi_of, [], []⟩
def q_primes_of : He5.DefA := ⟨fun K => (He.ga K "_primes_of"), "_primes_of", "_primes_of", defArgs s_primes_of, defBody s_primes_of, defScope s_primes_of, [], []⟩
def q_mu_of : He5.DefA := ⟨fun K => (He.ga K "mu_of"), "mu_of", "mu_of", defArgs s_mu_of, defBody s_mu_of, defScope s_mu_of, [], []⟩
def q_ram_of : He5.DefA := ⟨fun K => (He.ga K "ram_of"), "ram_of", "ram_of", defArgs s_ram_of, defBody s_ram_of, defScope s_ram_of, [], []⟩
def q_size_of : He5.DefA := ⟨fun K => (He.ga K "size_of"), "size_of", "size_of", defArgs s_size_of, defBody s_size_of, defScope s_size_of, [], []⟩
def q_check_rest_sizes : He5.DefA := ⟨fun K => (He.ga K "check_rest_sizes"), "_check_rest", "_check_rest", defArgs s_check_rest_sizes, defBody s_check_rest_sizes, defScope s_check_rest_sizes, [], []⟩
def q_WrongBook___init : He5.DefA := ⟨fun K => (He.ma K (He.ga K "WrongBook") "__init__"), "__init__", "WrongBook.__init__", defArgs s_WrongBook___init, defBody s_WrongBook___init, defScope s_WrongBook___init, [], []⟩
def q_WrongBook___eq : He5.DefA := ⟨fun K => (He.ma K (He.ga K "WrongBook") "__eq__"), "__eq__", "WrongBook.__eq__", defArgs s_WrongBook___eq, defBody s_WrongBook___eq, defScope s_WrongBook___eq, [], []⟩
def q_WrongBook_holding : He5.DefA := ⟨fun K => (He5.wf K (He.ga K "WrongBook") "staticmethod" "holding"), "holding", "WrongBook.holding", defArgs s_WrongBook_holding, defBody s_WrongBook_holding, defScope s_WrongBook_holding, [], []⟩
def q_WrongBook_has : He5.DefA := ⟨fun K => (He.ma K (He.ga K "WrongBook") "has"), "has", "WrongBook.has", defArgs s_WrongBook_has, defBody s_WrongBook_has, defScope s_WrongBook_has, [], []⟩
def q_WrongBook_contrary : He5.DefA := ⟨fun K => (He.ma K (He.ga K "WrongBook") "contrary"), "contrary", "WrongBook.contrary", defArgs s_WrongBook_contrary, defBody s_WrongBook_contrary, defScope s_WrongBook_contrary, [], []⟩
def q_law_hand : He5.DefA := ⟨fun K => (He.ga K "_law_hand"), "_law_hand", "_law_hand", defArgs s_law_hand, defBody s_law_hand, defScope s_law_hand, [], []⟩
def q_law_mixed : He5.DefA := ⟨fun K => (He.ga K "_law_mixed"), "_law_mixed", "_law_mixed", defArgs s_law_mixed, defBody s_law_mixed, defScope s_law_mixed, [], []⟩
def q_law_take : He5.DefA := ⟨fun K => (He.ga K "_law_take"), "_law_take", "_law_take", defArgs s_law_take, defBody s_law_take, defScope s_law_take, [], []⟩
def q_law_power : He5.DefA := ⟨fun K => (He.ga K "_law_power"), "_law_power", "_law_power", defArgs s_law_power, defBody s_law_power, defScope s_law_power, [], []⟩
def q_law_sum : He5.DefA := ⟨fun K => (He.ga K "_law_sum"), "_law_sum", "_law_sum", defArgs s_law_sum, defBody s_law_sum, defScope s_law_sum, [], []⟩
def q_law_exact : He5.DefA := ⟨fun K => (He.ga K "_law_exact"), "_law_exact", "_law_exact", defArgs s_law_exact, defBody s_law_exact, defScope s_law_exact, [], []⟩
def q_law_either : He5.DefA := ⟨fun K => (He.ga K "_law_either"), "_law_either", "_law_either", defArgs s_law_either, defBody s_law_either, defScope s_law_either, [], []⟩
def q_law_doubling : He5.DefA := ⟨fun K => (He.ga K "_law_doubling"), "_law_doubling", "_law_doubling", defArgs s_law_doubling, defBody s_law_doubling, defScope s_law_doubling, [], []⟩
def q_law_free : He5.DefA := ⟨fun K => (He.ga K "_law_free"), "_law_free", "_law_free", defArgs s_law_free, defBody s_law_free, defScope s_law_free, [], []⟩
def q_law_data : He5.DefA := ⟨fun K => (He.ga K "_law_data"), "_law_data", "_law_data", defArgs s_law_data, defBody s_law_data, defScope s_law_data, [], []⟩
def q_law_bits : He5.DefA := ⟨fun K => (He.ga K "_law_bits"), "_law_bits", "_law_bits", defArgs s_law_bits, defBody s_law_bits, defScope s_law_bits, [], []⟩
def q_law_word_holds : He5.DefA := ⟨fun K => (He.ga K "_law_word_holds"), "_law_word_holds", "_law_word_holds", defArgs s_law_word_holds, defBody s_law_word_holds, defScope s_law_word_holds, [], []⟩
def q_law_all_hold : He5.DefA := ⟨fun K => (He.ga K "_law_all_hold"), "_law_all_hold", "_law_all_hold", defArgs s_law_all_hold, defBody s_law_all_hold, defScope s_law_all_hold, [], []⟩
def q_law : He5.DefA := ⟨fun K => (He.ga K "law"), "law", "law", defArgs s_law, defBody s_law, defScope s_law, [], []⟩
def fn : List He5.DefA := [q_wall, q_BadWord___init, q_BadBits___init, q_is_whole, q_check_number, q_check_word, q_place_sum, q_sum_of, q_SumBook___init, q_SumBook___eq, q_SumBook_is_full, q_SumBook_holding, q_SumBook_has, q_SumBook_contrary, q_SumBook_turned, q_check_modulus, q_check_rest_sums, q_free_places, q_fixed_places, q_data_word, q_check_bits, q_data_of, q_divisors_of, q_phi_of, q_primes_of, q_mu_of, q_ram_of, q_size_of, q_check_rest_sizes, q_WrongBook___init, q_WrongBook___eq, q_WrongBook_holding, q_WrongBook_has, q_WrongBook_contrary, q_law_hand, q_law_mixed, q_law_take, q_law_power, q_law_sum, q_law_exact, q_law_either, q_law_doubling, q_law_free, q_law_data, q_law_bits, q_law_word_holds, q_law_all_hold, q_law]
def fa : List He.Fa := [.free "isinstance", .free "bool", .free "int", .glo "is_whole", .glo "BadNumber", .exc "BadNumber", .free "len", .free "tuple", .free "list", .glo "BadWord", .free "enumerate", .glo "_sum_of", .glo "check_word", .int "MOST_HERE_sums" 200, .free "sum", .glo "check_number", .glo "_check_modulus", .glo "check_rest_sums", .glo "SumBook", .glo "_wall", .int "MOST_MODULUS" 1000000, .glo "BadModulus", .exc "BadModulus", .glo "BadRest", .exc "BadRest", .int "MOST_LENGTH_datas" 200, .glo "_fixed_places", .free "range", .glo "free_places", .glo "_check_bits", .free "zip", .glo "place_sum", .glo "BadBits", .int "MOST_DIVIDED" 2000, .glo "_primes_of", .free "set", .glo "phi_of", .glo "mu_of", .int "MOST_LENGTH_sizes" 200, .glo "check_rest_sizes", .glo "divisors_of", .glo "ram_of", .int "MOST_LENGTH_wrongs" 60, .glo "size_of", .glo "WrongBook", .int "MOST_HERE_wrongs" 61, .free "abs", .glo "_law_mixed", .free "all", .glo "_law_exact", .free "str", .glo "_law_take", .glo "_law_doubling", .glo "_law_free", .glo "_law_sum", .glo "_law_either", .glo "_law_data", .glo "data_word", .cls "WrongBook", .meth "WrongBook" "has", .mkr "WrongBook", .cls "SumBook", .meth "SumBook" "has", .mkr "SumBook", .glo "data_of", .glo "_law_power", .glo "_law_bits", .glo "_law_word_holds", .glo "_law_hand", .glo "_law_all_hold", .noat "SumBook" "length", .noat "SumBook" "modulus", .noat "SumBook" "rest", .noat "WrongBook" "length", .noat "WrongBook" "rest", .noat "WrongBook" "modulus", .noat "WrongBook" "size", .glo "law"]
def ex (K : PySem.W.Frag) : Bool := (fexB K "BadWord" && (He.eqO (PySem.W.findIn K (.ref (He.ga K "BadWord")) "index") (some none) && (fexB K "BadBits" && (He.eqO (PySem.W.findIn K (.ref (He.ga K "BadBits")) "index") (some none) && (isB "gcd" "math.gcd" K && (kinB "SumBook" K && (insB "SumBook" K && (decide (PySem.W.kitOne K (.ref (He.ga K "SumBook")) (.ref (He.ga K "SumBook")) = some true) && (insB "WrongBook" K && (decide (PySem.W.kitOne K (.ref (He.ga K "WrongBook")) (.ref (He.ga K "SumBook")) = some false) && (kinB "WrongBook" K && (decide (PySem.W.kitOne K (.ref (He.ga K "SumBook")) (.ref (He.ga K "WrongBook")) = some false) && (decide (PySem.W.kitOne K (.ref (He.ga K "WrongBook")) (.ref (He.ga K "WrongBook")) = some true) && true)))))))))))))
theorem txt_of {K : PySem.W.Frag} {h : Heap} {mg : Str → Option Value} (X : K.In h) (G : h.Ns mainGlobals mg) (c : He5.SaysA fa fn K) (E : ex K = true) : Txt K mg := by
  obtain ⟨E0, E⟩ := He.ba E
  obtain ⟨E1, E⟩ := He.ba E
  obtain ⟨E2, E⟩ := He.ba E
  obtain ⟨E3, E⟩ := He.ba E
  obtain ⟨E4, E⟩ := He.ba E
  obtain ⟨E5, E⟩ := He.ba E
  obtain ⟨E6, E⟩ := He.ba E
  obtain ⟨E7, E⟩ := He.ba E
  obtain ⟨E8, E⟩ := He.ba E
  obtain ⟨E9, E⟩ := He.ba E
  obtain ⟨E10, E⟩ := He.ba E
  obtain ⟨E11, E⟩ := He.ba E
  obtain ⟨E12, E⟩ := He.ba E
  exact {
    x_BadWord := fexB_ok E0,
    n_BadWord_is_index := He.eqO_ok E1,
    x_BadBits := fexB_ok E2,
    n_BadBits_is_index := He.eqO_ok E3,
    z_isinstance := He.free_ok X G (c.fact 0 (f := .free "isinstance") rfl),
    z_bool := He.free_ok X G (c.fact 1 (f := .free "bool") rfl),
    z_int := He.free_ok X G (c.fact 2 (f := .free "int") rfl),
    g_is_whole := He.glo_ok X G (c.fact 3 (f := .glo "is_whole") rfl),
    g_BadNumber := He.glo_ok X G (c.fact 4 (f := .glo "BadNumber") rfl),
    e_BadNumber := own_of (c.fact 5 (f := .exc "BadNumber") rfl),
    z_len := He.free_ok X G (c.fact 6 (f := .free "len") rfl),
    z_tuple := He.free_ok X G (c.fact 7 (f := .free "tuple") rfl),
    z_list := He.free_ok X G (c.fact 8 (f := .free "list") rfl),
    g_BadWord := He.glo_ok X G (c.fact 9 (f := .glo "BadWord") rfl),
    z_enumerate := He.free_ok X G (c.fact 10 (f := .free "enumerate") rfl),
    g__sum_of := He.glo_ok X G (c.fact 11 (f := .glo "_sum_of") rfl),
    g_check_word := He.glo_ok X G (c.fact 12 (f := .glo "check_word") rfl),
    c_MOST_HERE_sums := He.int_ok X G (c.fact 13 (f := .int "MOST_HERE_sums" 200) rfl),
    z_sum := He.free_ok X G (c.fact 14 (f := .free "sum") rfl),
    g_check_number := He.glo_ok X G (c.fact 15 (f := .glo "check_number") rfl),
    g__check_modulus := He.glo_ok X G (c.fact 16 (f := .glo "_check_modulus") rfl),
    g_check_rest_sums := He.glo_ok X G (c.fact 17 (f := .glo "check_rest_sums") rfl),
    g_SumBook := He.glo_ok X G (c.fact 18 (f := .glo "SumBook") rfl),
    g__wall := He.glo_ok X G (c.fact 19 (f := .glo "_wall") rfl),
    c_MOST_MODULUS := He.int_ok X G (c.fact 20 (f := .int "MOST_MODULUS" 1000000) rfl),
    g_BadModulus := He.glo_ok X G (c.fact 21 (f := .glo "BadModulus") rfl),
    e_BadModulus := own_of (c.fact 22 (f := .exc "BadModulus") rfl),
    g_BadRest := He.glo_ok X G (c.fact 23 (f := .glo "BadRest") rfl),
    e_BadRest := own_of (c.fact 24 (f := .exc "BadRest") rfl),
    c_MOST_LENGTH_datas := He.int_ok X G (c.fact 25 (f := .int "MOST_LENGTH_datas" 200) rfl),
    g__fixed_places := He.glo_ok X G (c.fact 26 (f := .glo "_fixed_places") rfl),
    z_range := He.free_ok X G (c.fact 27 (f := .free "range") rfl),
    g_free_places := He.glo_ok X G (c.fact 28 (f := .glo "free_places") rfl),
    g__check_bits := He.glo_ok X G (c.fact 29 (f := .glo "_check_bits") rfl),
    z_zip := He.free_ok X G (c.fact 30 (f := .free "zip") rfl),
    g_place_sum := He.glo_ok X G (c.fact 31 (f := .glo "place_sum") rfl),
    g_BadBits := He.glo_ok X G (c.fact 32 (f := .glo "BadBits") rfl),
    c_MOST_DIVIDED := He.int_ok X G (c.fact 33 (f := .int "MOST_DIVIDED" 2000) rfl),
    g__primes_of := He.glo_ok X G (c.fact 34 (f := .glo "_primes_of") rfl),
    z_set := He.free_ok X G (c.fact 35 (f := .free "set") rfl),
    i_gcd := isB_ok X G E4,
    g_phi_of := He.glo_ok X G (c.fact 36 (f := .glo "phi_of") rfl),
    g_mu_of := He.glo_ok X G (c.fact 37 (f := .glo "mu_of") rfl),
    c_MOST_LENGTH_sizes := He.int_ok X G (c.fact 38 (f := .int "MOST_LENGTH_sizes" 200) rfl),
    g_check_rest_sizes := He.glo_ok X G (c.fact 39 (f := .glo "check_rest_sizes") rfl),
    g_divisors_of := He.glo_ok X G (c.fact 40 (f := .glo "divisors_of") rfl),
    g_ram_of := He.glo_ok X G (c.fact 41 (f := .glo "ram_of") rfl),
    c_MOST_LENGTH_wrongs := He.int_ok X G (c.fact 42 (f := .int "MOST_LENGTH_wrongs" 60) rfl),
    g_size_of := He.glo_ok X G (c.fact 43 (f := .glo "size_of") rfl),
    g_WrongBook := He.glo_ok X G (c.fact 44 (f := .glo "WrongBook") rfl),
    c_MOST_HERE_wrongs := He.int_ok X G (c.fact 45 (f := .int "MOST_HERE_wrongs" 61) rfl),
    z_abs := He.free_ok X G (c.fact 46 (f := .free "abs") rfl),
    g__law_mixed := He.glo_ok X G (c.fact 47 (f := .glo "_law_mixed") rfl),
    z_all := He.free_ok X G (c.fact 48 (f := .free "all") rfl),
    g__law_exact := He.glo_ok X G (c.fact 49 (f := .glo "_law_exact") rfl),
    z_str := He.free_ok X G (c.fact 50 (f := .free "str") rfl),
    g__law_take := He.glo_ok X G (c.fact 51 (f := .glo "_law_take") rfl),
    g__law_doubling := He.glo_ok X G (c.fact 52 (f := .glo "_law_doubling") rfl),
    g__law_free := He.glo_ok X G (c.fact 53 (f := .glo "_law_free") rfl),
    g__law_sum := He.glo_ok X G (c.fact 54 (f := .glo "_law_sum") rfl),
    g__law_either := He.glo_ok X G (c.fact 55 (f := .glo "_law_either") rfl),
    g__law_data := He.glo_ok X G (c.fact 56 (f := .glo "_law_data") rfl),
    g_data_word := He.glo_ok X G (c.fact 57 (f := .glo "data_word") rfl),
    l_WrongBook := He.cls_ok (c.fact 58 (f := .cls "WrongBook") rfl),
    b_WrongBook_is_has := He.meth_ok (c.fact 59 (f := .meth "WrongBook" "has") rfl),
    r_WrongBook := He.mkr_ok (c.fact 60 (f := .mkr "WrongBook") rfl),
    l_SumBook := He.cls_ok (c.fact 61 (f := .cls "SumBook") rfl),
    b_SumBook_is_has := He.meth_ok (c.fact 62 (f := .meth "SumBook" "has") rfl),
    r_SumBook := He.mkr_ok (c.fact 63 (f := .mkr "SumBook") rfl),
    g_data_of := He.glo_ok X G (c.fact 64 (f := .glo "data_of") rfl),
    g__law_power := He.glo_ok X G (c.fact 65 (f := .glo "_law_power") rfl),
    g__law_bits := He.glo_ok X G (c.fact 66 (f := .glo "_law_bits") rfl),
    g__law_word_holds := He.glo_ok X G (c.fact 67 (f := .glo "_law_word_holds") rfl),
    g__law_hand := He.glo_ok X G (c.fact 68 (f := .glo "_law_hand") rfl),
    g__law_all_hold := He.glo_ok X G (c.fact 69 (f := .glo "_law_all_hold") rfl),
    a_SumBook_is_length := He.noat_ok (c.fact 70 (f := .noat "SumBook" "length") rfl),
    a_SumBook_is_modulus := He.noat_ok (c.fact 71 (f := .noat "SumBook" "modulus") rfl),
    a_SumBook_is_rest := He.noat_ok (c.fact 72 (f := .noat "SumBook" "rest") rfl),
    a_WrongBook_is_length := He.noat_ok (c.fact 73 (f := .noat "WrongBook" "length") rfl),
    a_WrongBook_is_rest := He.noat_ok (c.fact 74 (f := .noat "WrongBook" "rest") rfl),
    a_WrongBook_is_modulus := He.noat_ok (c.fact 75 (f := .noat "WrongBook" "modulus") rfl),
    a_WrongBook_is_size := He.noat_ok (c.fact 76 (f := .noat "WrongBook" "size") rfl),
    j_SumBook := kinB_ok E5,
    o_SumBook := insB_ok E6,
    k_SumBook_is_SumBook := of_decide_eq_true E7,
    o_WrongBook := insB_ok E8,
    k_WrongBook_is_SumBook := of_decide_eq_true E9,
    j_WrongBook := kinB_ok E10,
    k_SumBook_is_WrongBook := of_decide_eq_true E11,
    k_WrongBook_is_WrongBook := of_decide_eq_true E12,
    F_wall := c.def_ 0 (d := q_wall) rfl,
    F_BadWord___init := c.def_ 1 (d := q_BadWord___init) rfl,
    F_BadBits___init := c.def_ 2 (d := q_BadBits___init) rfl,
    F_is_whole := c.def_ 3 (d := q_is_whole) rfl,
    F_check_number := c.def_ 4 (d := q_check_number) rfl,
    F_check_word := c.def_ 5 (d := q_check_word) rfl,
    F_place_sum := c.def_ 6 (d := q_place_sum) rfl,
    F_sum_of := c.def_ 7 (d := q_sum_of) rfl,
    F_SumBook___init := c.def_ 8 (d := q_SumBook___init) rfl,
    F_SumBook___eq := c.def_ 9 (d := q_SumBook___eq) rfl,
    F_SumBook_is_full := c.def_ 10 (d := q_SumBook_is_full) rfl,
    F_SumBook_holding := c.def_ 11 (d := q_SumBook_holding) rfl,
    F_SumBook_has := c.def_ 12 (d := q_SumBook_has) rfl,
    F_SumBook_contrary := c.def_ 13 (d := q_SumBook_contrary) rfl,
    F_SumBook_turned := c.def_ 14 (d := q_SumBook_turned) rfl,
    F_check_modulus := c.def_ 15 (d := q_check_modulus) rfl,
    F_check_rest_sums := c.def_ 16 (d := q_check_rest_sums) rfl,
    F_free_places := c.def_ 17 (d := q_free_places) rfl,
    F_fixed_places := c.def_ 18 (d := q_fixed_places) rfl,
    F_data_word := c.def_ 19 (d := q_data_word) rfl,
    F_check_bits := c.def_ 20 (d := q_check_bits) rfl,
    F_data_of := c.def_ 21 (d := q_data_of) rfl,
    F_divisors_of := c.def_ 22 (d := q_divisors_of) rfl,
    F_phi_of := c.def_ 23 (d := q_phi_of) rfl,
    F_primes_of := c.def_ 24 (d := q_primes_of) rfl,
    F_mu_of := c.def_ 25 (d := q_mu_of) rfl,
    F_ram_of := c.def_ 26 (d := q_ram_of) rfl,
    F_size_of := c.def_ 27 (d := q_size_of) rfl,
    F_check_rest_sizes := c.def_ 28 (d := q_check_rest_sizes) rfl,
    F_WrongBook___init := c.def_ 29 (d := q_WrongBook___init) rfl,
    F_WrongBook___eq := c.def_ 30 (d := q_WrongBook___eq) rfl,
    F_WrongBook_holding := c.def_ 31 (d := q_WrongBook_holding) rfl,
    F_WrongBook_has := c.def_ 32 (d := q_WrongBook_has) rfl,
    F_WrongBook_contrary := c.def_ 33 (d := q_WrongBook_contrary) rfl,
    F_law_hand := c.def_ 34 (d := q_law_hand) rfl,
    F_law_mixed := c.def_ 35 (d := q_law_mixed) rfl,
    F_law_take := c.def_ 36 (d := q_law_take) rfl,
    F_law_power := c.def_ 37 (d := q_law_power) rfl,
    F_law_sum := c.def_ 38 (d := q_law_sum) rfl,
    F_law_exact := c.def_ 39 (d := q_law_exact) rfl,
    F_law_either := c.def_ 40 (d := q_law_either) rfl,
    F_law_doubling := c.def_ 41 (d := q_law_doubling) rfl,
    F_law_free := c.def_ 42 (d := q_law_free) rfl,
    F_law_data := c.def_ 43 (d := q_law_data) rfl,
    F_law_bits := c.def_ 44 (d := q_law_bits) rfl,
    F_law_word_holds := c.def_ 45 (d := q_law_word_holds) rfl,
    F_law_all_hold := c.def_ 46 (d := q_law_all_hold) rfl,
    F_law := c.def_ 47 (d := q_law) rfl }
def loose0 : List Str := ["_wall", "PlaceError", "BadNumber", "BadWord", "BadModulus", "BadRest", "BadBits", "is_whole", "check_number", "check_word", "MOST_HERE_sums", "MOST_MODULUS", "place_sum", "_sum_of", "SumBook", "_check_modulus", "_check_rest", "check_rest_sums", "MOST_LENGTH_datas", "free_places", "_fixed_places", "data_word", "_check_bits", "data_of", "MOST_DIVIDED", "divisors_of", "phi_of", "_primes_of", "mu_of", "ram_of"]
def loose1 : List Str := ["MOST_LENGTH_sizes", "size_of", "check_rest_sizes", "MOST_LENGTH_wrongs", "MOST_HERE_wrongs", "WrongBook", "_law_hand", "_law_mixed", "_law_take", "_law_power", "_law_sum", "_law_exact", "_law_either", "_law_doubling", "_law_free", "_law_data", "_law_bits", "_law_word_holds", "_law_all_hold"]
def loose : List Str := loose0 ++ loose1
abbrev R : PySem.W.OpenRow := PySem.W.OpenLaw.row PySem.Challenge.rw_lostplaces_k32_whole_data_in_every_rest
def at0 : List Nat := [3, 6, 4, 49, 59, 72, 91, 103, 115, 134, 144, 151, 159, 166, 171, 234, 245, 331, 252, 258, 265, 273, 280, 286, 291, 298, 305, 312, 319, 324, 379, 390, 397, 404, 411, 416, 421, 428, 435, 440, 447, 454, 461, 468, 473, 0, 48, 58, 71, 90, 102, 114, 133, 143, 137, 150, 158, 152, 165, 170, 233, 244, 330, 251, 257, 253, 264, 272, 266, 279, 285, 281, 290, 297, 304, 311, 318, 323, 378, 389, 396, 403, 410, 415, 420, 427, 434, 439, 446, 453, 460, 467, 472, 43, 44, 45, 46, 47, 57, 60, 70, 88, 89, 101, 113, 131, 132, 138, 139, 140, 141, 142, 145, 146, 147, 148, 149, 153, 154, 155, 156, 157, 160, 161, 162, 163, 164, 167, 168, 169, 185, 192, 200, 209, 217, 224, 231, 232, 235, 236, 239, 240, 241, 242, 243, 325, 326, 327, 328, 329, 246, 247, 248, 249, 250, 254, 255, 256, 259, 260, 261, 262, 263, 267, 268, 269, 270, 271, 274, 275, 276, 277, 278, 282, 283, 284, 287, 288, 289, 292, 293, 294, 295, 296, 299, 300, 301, 302, 303, 306, 307, 308, 309, 310, 313, 314, 315, 316, 317, 320, 321, 322, 345, 352, 361, 369, 376, 377, 380, 381, 384, 385, 386, 387, 388, 391, 392, 393, 394, 395, 398, 399, 400, 401, 402, 405, 406, 407, 408, 409, 412, 413, 414, 417, 418, 419, 422, 423, 424, 425, 426, 429, 430, 431, 432, 433, 436, 437, 438, 441, 442, 443, 444, 445, 448, 449, 450, 451, 452, 455, 456, 457, 458, 459, 462, 463, 464, 465, 466, 469, 470, 471, 87, 130, 184, 191, 199, 207, 208, 216, 223, 230, 344, 351, 359, 360, 368, 375, 82, 83, 84, 85, 86, 125, 126, 127, 128, 129, 179, 180, 181, 182, 183, 186, 187, 188, 189, 190, 198, 206, 210, 211, 212, 213, 214, 215, 218, 219, 220, 221, 222, 225, 226, 227, 228, 229, 339, 340, 341, 342, 343, 346, 347, 348, 349, 350, 358, 362, 363, 364, 365, 366, 367, 370, 371, 372, 373, 374, 2]
def obsL (n : List Nat) (fa : List He.Fa) (fn : List He5.DefA) (ex : PySem.W.Frag → Bool) (g : Addr → Option Obj) : He.AlD × Bool := (He5.obsA fa fn (He.frG g n), ex (He.frG g n))
def hookL (n : List Nat) (fa : List He.Fa) (fn : List He5.DefA) (ex : PySem.W.Frag → Bool) : PySem.W.Hook where
  α := He.AlD × Bool
  obs := fun s => obsL n fa fn ex s.heap.get?
  val := fun _ => (He5.valA fn, true)
  says := fun _ h => ∃ K : PySem.W.Frag, K.In h ∧ He5.SaysA fa fn K ∧ ex K = true
  of := fun _ _ e => ⟨_, He.frG_in, congrArg (fun z : He.AlD × Bool => z.1) e, congrArg (fun z : He.AlD × Bool => z.2) e⟩
  keeps := fun _ _ _ ⟨K, hK, c⟩ k => ⟨K, PySem.W.Frag.In.keeps hK k, c⟩
theorem obsL_eq {n : List Nat} {fa : List He.Fa} {fn : List He5.DefA} {ex : PySem.W.Frag → Bool} {g : Addr → Option Obj} {s : Shared} (h : ∀ a, g a = s.heap.get? a) : obsL n fa fn ex g = (hookL n fa fn ex).obs s := by
  have e : g = s.heap.get? := funext h
  rw [e] <;> rfl
abbrev hk : PySem.W.Hook := hookL at0 fa fn ex
def ob (s : PySem.W.SharedT) : He.AlD × Bool := obsL at0 fa fn ex (HandSHeadRun.getT s)
theorem ob_eq (s : PySem.W.SharedT) : ob s = hk.obs s.abs := obsL_eq (HandSHeadRun.getT_eq s)
theorem opt_six {α β γ δ : Type} {o : Option α} {a : α → β} {b : α → γ} {c d f : α → Bool} {e : α → δ} {ta : β} {tb : γ} {te : δ} (h1 : o.map a = some ta) (h2 : o.map b = some tb) (h3 : o.map c = some true) (h4 : o.map d = some true) (h5 : o.map e = some te) (h6 : o.map f = some true) :
    o.map (fun x => (a x, b x, ((c x && d x, e x), f x))) = some (ta, tb, ((true, te), true)) := by
  cases o with
  | none => cases h1
  | some x =>
    injection h1 with h1
    injection h2 with h2
    injection h3 with h3
    injection h4 with h4
    injection h5 with h5
    injection h6 with h6
    show some (a x, b x, ((c x && d x, e x), f x)) = _
    rw [h1, h2, h3, h4, h5, h6] <;> rfl
open PySem.W PySem.Calls HandSHeadRun in
theorem run1 (w : World) : (wholeF (fun p => stepQ (denQ tabQ) p w) fenceQ 20000 R.prog).map (fun x => looksF R.prog x.1.heap x.2.abs) = some true := by kernel_rfl
open PySem.W PySem.Calls HandSHeadRun in
theorem run2 (w : World) : (wholeF (fun p => stepQ (denQ tabQ) p w) fenceQ 20000 R.prog).map (fun x => seenQ (PySem.W.view R.prog [0, 59]) loose (importedModules R.prog.main.body) (fun s => xlAt (PySem.W.view R.prog [0, 59]) [] s && recOk R.toRowW.records s) x.2.abs) = some (openGood (PySem.W.view R.prog [0, 59]) loose) := by kernel_rfl
open PySem.W PySem.Calls HandSHeadRun in
theorem run3 (w : World) : (wholeF (fun p => stepQ (denQ tabQ) p w) fenceQ 20000 R.prog).map (fun x => fa.all fun f => f.ok (He.frG (getT x.2) at0)) = some true := by kernel_rfl
open PySem.W PySem.Calls HandSHeadRun in
theorem run4 (w : World) : (wholeF (fun p => stepQ (denQ tabQ) p w) fenceQ 20000 R.prog).map (fun x => fn.all fun d => d.ok (He.frG (getT x.2) at0)) = some true := by kernel_rfl
open PySem.W PySem.Calls HandSHeadRun in
theorem run5 (w : World) : (wholeF (fun p => stepQ (denQ tabQ) p w) fenceQ 20000 R.prog).map (fun x => fn.map fun d => He5.fnA (He.frG (getT x.2) at0) (d.at_ (He.frG (getT x.2) at0))) = some (fn.map He5.DefA.val) := by kernel_rfl
open PySem.W PySem.Calls HandSHeadRun in
theorem run6 (w : World) : (wholeF (fun p => stepQ (denQ tabQ) p w) fenceQ 20000 R.prog).map (fun x => ex (He.frG (getT x.2) at0)) = some true := by kernel_rfl
open PySem.W PySem.Calls HandSHeadRun in
theorem run (w : World) : RunEqI R (PySem.W.view R.prog [0, 59]) hk ob 20000 loose w := by
  unfold RunEqI
  exact opt_six (run1 w) (run2 w) (run3 w) (run4 w) (run5 w) (run6 w)
end Mine
namespace Mine
open PySem PySem.W PySem.Calls PyProof.Rows HandSHeadRun
abbrev rr := OpenLaw.row PySem.Challenge.rw_lostplaces_k32_whole_data_in_every_rest
abbrev qq := view (OpenLaw.row PySem.Challenge.rw_lostplaces_k32_whole_data_in_every_rest).prog [0, 59]
abbrev dd := HandSHeadRun.topDef rr.prog 59
theorem h_def : defOf qq rr.name = some (dd, []) := by kernel_rfl
theorem h_p : rr.prog.theDef rr.name = some (dd.params, dd.body, dd.scope) := by kernel_rfl
theorem h_k : kwWritten? dd.params.kwonlyargs dd.params.kw_defaults = some [] := by kernel_rfl
theorem h_wr : (!rr.writes || rr.records.isEmpty) = true := by rfl
theorem h_ws : rr.wellSaid = true := by first | assumption | decide +kernel
theorem h_ok : (chainsOk qq && opensWell rr.prog && (frees rr.toRowW && rr.within.isEmpty)) = true := by decide +kernel
theorem h_b : rr.prog.bare := ⟨rfl, rfl, rfl, rfl, rfl, by decide +kernel⟩
end Mine

namespace Mine
open PySem PySem.Spec PyProof.Rows L2
local macro_rules | `(tactic| walk_at "wp") => `(tactic| try simp -implicitDefEqProofs only [eFld_W, eFldS_W, sSetF_W, eMeth_W, eMeth0_W, eProp_W, mkI_W, mkI0_W, eVarD_W, eDic_W, eGet1_W, eGet2_W, eAtD_W, eInD_W, eNotInD_W, sOwnD_W, sPutD_W, Bool.false_eq_true, LINE_W, line0, line1, line2, line3, line4, line5, line6, line7, line8, line9, line10, line11, line12, take_W, Int.reduceLT, Int.reduceLE, Int.reduceNeg, mkD_W, mkD0_W, sSeq_W, sAsg_W, sRet_W, sRetN_W, sIf_W, sNext_W, sDrop_W, sBreak_W, sCont_W, sOwn_W, sPar_W, sPar3_W, sFrz_W, frz_W, fz_lst, fz_dk, fz_dt, sApp_W, sExt_W, sPop_W, sPopTo_W, sPut_W, sAugP_W, sAug_W, sFor_W, sRaise_W, sRaise1_W, gD_W, gD2_W, gD3_W, eVar_W, eVarB_W, eC_W, eOp_W, eUn_W, eCB_W, eNil_W, eCons_W, eConsS_W, eConsH_W, eTup_W, eLst_W, eCall_W, eCall0_W, eTest_W, eNotT_W, eAndT_W, eOrT_W, eTru_W, dTru_non, dTru_bl, dTru_int, dTru_lst, dTru_tup, dTru_str, dTru_dk, eBool_W, eAndV_W, eOrV_W, eNotV_W, eNotVT_W, eIf_W, eChain_W, eLc_W, eLc2_W, eYes_W, eSeq_W, eRng1_W, eRng2_W, eEnum_W, eZip_W, eSl_W, ePart_W, eNoPart_W, eRev_W, eRevL_W, eDk0_W, dAdd_int, dAdd_lst, dAdd_tup, dAdd_str, dAddL_lst, dSub_int, dMul_int, dMul_lst, dMulL_lst, dMul_tup, dFdiv_int, dMod_int, dPow_int, dShl_int, dShr_int, dLe_int, dLt_int, dGt_int, dGe_int, dNeg_int, isa_seq2, isLs_lst, isLs_tup, Bool.or_false, Bool.or_true, Bool.true_or, Bool.false_or, Bool.and_true, Bool.true_and, Bool.and_false, Bool.false_and, isSeq_lst, isSeq_tup, isTp_tup, isTp_lst, isTp_non, isTp_int, isTp_str, isW_int, dIsN_W, dNotN_W, isN_non, isN_int, isN_bl, isN_str, isN_tup, isN_lst, isN_dk, isN_dt, isN_ins, dIx_W, dSl_W, dSlL_W, dLen_W, dInt_W, dStr_W, dAbs_W, dMax2_W, dMin2_W, dTupOf_W, dLstOf_W, dIsi_W, dIsi2_W, kn_int, kn_bl, kn_non, kn_str, kn_tup, kn_lst, kn_dk, kn_dt, isa_int_int, isa_int_bool, isa_tup_tup, isa_bl_bool, isa_seq_tup, isa_seq_lst, isa_int, isa_bool, isa_seq, isa_tup, isa_str, isa_lst, dEq_int, dNe_int, Dt.flat, wipeS, List.getElem?_cons_zero, List.getElem?_cons_succ, List.set_cons_zero, List.set_cons_succ, List.replicate, List.append_nil, List.cons_append, List.nil_append, List.length_cons, List.length_nil, Nat.reduceAdd, Nat.reduceSub, Nat.zero_add, Option.isSome_some, Bool.true_eq_false, Bool.false_eq_true, if_true, if_false, ite_true, ite_false, eq_self, not_true_eq_false, not_false_eq_true, true_and, and_true, decide_eq_true_eq, Bool.not_true, Bool.not_false, Bool.not_eq_true', decide_eq_false_iff_not, decide_true, decide_false, List.length_map, List.map_cons, List.map_nil, Option.some.injEq, reduceCtorEq, Bool.not_eq_eq_eq_not, eEnumK_W, eDk1_W, eXf_W, eIsX_W, sTry_W, sKeep_W, eZipS_W, eZipT_W, eRgL_W, mkG_W, gPlain_W, gSeq_W, gNext_W, gIf_W, gYield_W, gFor_W, sRowPut_W, eCnt_W, eSortedSetI_W, eSortedSetG_W, eSortScG_W, eMinDf_W, eMaxDf_W, eBits_W, eLenSetG_W, dShlW_int, gD3L_W, dIsB_bl, dNotB_bl, eFmtB_W, eTm_W, eSortScG2_W, eCallK0_W, eCallK_W, sRetOwn_W, sRetO_W, sOut_W, sTab_W, eTab_W, sTabPut_W, sTabApp_W, sFrzT_W, eInRg_W, dRepr_W, sIfK_W, sAppK_W])

section
theorem is_whole_ok {x : Dt} {lo hi : Int} {Q : Dt → Prop} {E : Xc → Prop} (hk : x.kind.isSome = true) (q : Q (.bl (inB lo hi x))) : F_is_whole [.d x, .d (.int lo), .d (.int hi)] Q E := by
  rw [F_is_whole_eq]; unfold S_is_whole
  cases x with
  | int i =>
    walk_at "wp"
    by_cases a : lo ≤ i <;> simpa [inB, a, isW] using q
  | raw v => cases hk
  | ins c ns vs => cases hk
  | _ => walk_at "wp"; simpa [isW, inB] using q
end

section

end

section
theorem ints_of_dts {P : Int → Prop} : ∀ {ys : List Dt}, (∀ y ∈ ys, ∃ i : Int, y = .int i ∧ P i) → ∃ w : List Int, ys = w.map .int ∧ ∀ x ∈ w, P x
  | [], _ => ⟨[], rfl, by simp⟩
  | y :: ys, h => by
    obtain ⟨i, e, p⟩ := h y List.mem_cons_self
    obtain ⟨w, e2, p2⟩ := ints_of_dts fun z hz => h z (List.mem_cons_of_mem _ hz)
    exact ⟨i :: w, by rw [e, e2]; rfl, fun x hx => by
      rcases List.mem_cons.mp hx with r | r
      · rw [r]; exact p
      · exact p2 x r⟩
theorem dts_inj2 : ∀ {x y : List Int}, x.map Dt.int = y.map Dt.int → x = y
  | [], [], _ => rfl
  | [], _ :: _, h => by cases h
  | _ :: _, [], h => by cases h
  | a :: x, b :: y, h => by
    rw [List.map_cons, List.map_cons] at h
    injection h with h1 h2
    injection h1 with h1
    rw [h1, dts_inj2 h2]
end

section

end

section

end

section
theorem badWord_lst {xs : List Dt} {q : Int} {m : Nat} : badWord q m (.lst xs) = if m < xs.length then some (-1) else (badAt (inB 0 (q - 1)) xs).map fun i : Nat => (i : Int) := rfl
theorem badWord_tup {xs : List Dt} {q : Int} {m : Nat} : badWord q m (.tup xs) = if m < xs.length then some (-1) else (badAt (inB 0 (q - 1)) xs).map fun i : Nat => (i : Int) := rfl
theorem check_word_ok {a : Dt} {q : Int} {m : Nat} {Q : Dt → Prop} {E : Xc → Prop} (hk : a.kind.isSome = true) (hi : ∀ x ∈ itemsOf a, x.kind.isSome = true)
    (h0 : badWord q m a = none → Q (.tup (itemsOf a))) (h1 : ∀ i, badWord q m a = some i → E ⟨"BadWord", [("index", .int i)]⟩) : F_check_word [.d (.int q), .d a, .d (.int m)] Q E := by
  rw [F_check_word_eq]; unfold S_check_word
  have loop : ∀ (xs : List Dt) (d : DEn), (∀ x ∈ xs, x.kind.isSome = true) → (badAt (inB 0 (q - 1)) xs = none → ∀ s t, d.nx [.d (.int q), .d a, .d (.int m), s, t]) → (∀ i, badAt (inB 0 (q - 1)) xs = some i → ∀ e, d.xc e ⟨"BadWord", [("index", .int (i : Nat))]⟩) →
      dFor (gD2 3 4) (sIf (eNotT (eTru (eCall0 F_is_whole [] (eConsS (eVar 4) (eConsS (eC (.int 0)) (eConsS (eOp dSub (eVarB 0) (eC (.int 1))) eNil)))))) (sRaise1 "BadWord" "index" (eVar 3)) sNext) d (xs.mapIdx fun i x => .tup [.int (i : Nat), x])
      [.d (.int q), .d a, .d (.int m), .no, .no] := by
    intro xs d hxs hd0 hd1
    refine dFor_inv (fun i e => ∃ s t, e = [.d (.int q), .d a, .d (.int m), s, t] ∧ ∀ (j : Nat) x, j < i → xs[j]? = some x → inB 0 (q - 1) x = true) ⟨_, _, rfl, fun j x hj => absurd hj (Nat.not_lt_zero _)⟩ ?_ ?_
    · rintro i x _ K B hx ⟨s, t, rfl, hp⟩ hK
      obtain ⟨y, hy, rfl⟩ := enum_get hx
      walk_at "wp"
      refine is_whole_ok (hxs y (List.mem_of_getElem? hy)) ?_
      show if inB 0 (q - 1) y = false then _ else _
      refine iteQ (fun e => hd1 i (badAt_some hp hy e) _) fun e => hK _ ⟨_, _, rfl, fun j z hj hz => ?_⟩
      by_cases c : j = i
      · subst c; rw [hy] at hz; cases hz
        cases e2 : inB 0 (q - 1) y
        · exact absurd e2 e
        · rfl
      · exact hp j z (by omega) hz
    · rintro _ ⟨s, t, rfl, hp⟩
      exact hd0 (badAt_none fun j x hx => hp j x (by rw [List.length_mapIdx]; exact (List.getElem?_eq_some_iff.mp hx).1) hx) s t
  rcases seq_or (a := a) with ⟨xs, rfl⟩ | ⟨xs, rfl⟩ | e
  · rw [badWord_lst] at h0
    simp only [badWord_lst] at h1
    walk_at "wp"
    refine iteQ (fun c => h1 (-1) (if_pos (by omega))) fun c => ?_
    rw [if_neg (by omega)] at h0
    simp only [if_neg (show ¬ m < xs.length by omega)] at h1
    exact loop xs _ hi (fun e s t => h0 (by rw [e]; rfl)) fun i e _ => h1 i (by rw [e]; rfl)
  · rw [badWord_tup] at h0
    simp only [badWord_tup] at h1
    walk_at "wp"
    refine iteQ (fun c => h1 (-1) (if_pos (by omega))) fun c => ?_
    rw [if_neg (by omega)] at h0
    simp only [if_neg (show ¬ m < xs.length by omega)] at h1
    exact loop xs _ hi (fun e s t => h0 (by rw [e]; rfl)) fun i e _ => h1 i (by rw [e]; rfl)
  · have e2 : badWord q m a = some (-1) := by unfold badWord; rw [e]
    walk_at "wp"
    refine ⟨hk, ?_⟩
    rw [e, if_pos rfl]
    exact h1 _ e2
end

section
/-! ### letters put in and taken out, place sums -/
def ins (a : Int) : Nat → List Int → List Int
  | 0, w => a :: w
  | _ + 1, [] => [a]
  | k + 1, c :: w => c :: ins a k w
theorem ins_eq (a : Int) : ∀ (k : Nat) (w : List Int), k ≤ w.length → ins a k w = w.take k ++ a :: w.drop k
  | 0, w, _ => rfl
  | k + 1, [], h => absurd h (by simp)
  | k + 1, c :: w, h => by
    show c :: ins a k w = _
    rw [ins_eq a k w (by simpa using h)]; rfl
theorem ins_len (a : Int) : ∀ (k : Nat) (w : List Int), (ins a k w).length = w.length + 1
  | 0, w => rfl
  | k + 1, [] => rfl
  | k + 1, c :: w => by
    show (ins a k w).length + 1 = _
    rw [ins_len a k w]; rfl
def del : Nat → List Int → List Int
  | _, [] => []
  | 0, _ :: w => w
  | k + 1, c :: w => c :: del k w
def Bits (y : List Int) : Prop := ∀ x ∈ y, x = 0 ∨ x = 1
theorem Bits.head {c : Int} {y : List Int} (h : Bits (c :: y)) : c = 0 ∨ c = 1 := h c List.mem_cons_self
/-- the sum of the places (the first is o + 1) -/
def wsum : Nat → List Int → Int
  | _, [] => 0
  | o, x :: r => ((o : Int) + 1) * x + wsum (o + 1) r
theorem wsum_shift : ∀ (o : Nat) (y : List Int), wsum (o + 1) y = wsum o y + y.sum
  | _, [] => rfl
  | o, x :: r => by
    show (((o + 1 : Nat) : Int) + 1) * x + wsum (o + 1 + 1) r = ((o : Int) + 1) * x + wsum (o + 1) r + (x :: r).sum
    rw [wsum_shift (o + 1) r, List.sum_cons]
    have e : (((o + 1 : Nat) : Int) + 1) * x = ((o : Int) + 1) * x + x := by
      have : ((o + 1 : Nat) : Int) = (o : Int) + 1 := by omega
      rw [this, Int.add_mul ((o : Int) + 1) 1 x, Int.one_mul]
    omega
theorem wsum_ins (b : Int) : ∀ (i o : Nat) (y : List Int), i ≤ y.length → wsum o (ins b i y) = wsum o y + ((o : Int) + i + 1) * b + (y.drop i).sum
  | 0, o, y, _ => by
    show ((o : Int) + 1) * b + wsum (o + 1) y = _
    rw [wsum_shift]
    simp only [Int.natCast_zero, Int.add_zero, List.drop_zero]
    omega
  | i + 1, o, [], h => absurd h (by simp)
  | i + 1, o, c :: y, h => by
    show ((o : Int) + 1) * c + wsum (o + 1) (ins b i y) = ((o : Int) + 1) * c + wsum (o + 1) y + _ + _
    rw [wsum_ins b i (o + 1) y (by simpa using h)]
    have e : (((o + 1 : Nat) : Int) + (i : Int) + 1) * b = ((o : Int) + ((i + 1 : Nat) : Int) + 1) * b := by
      congr 1
      omega
    rw [e, List.drop_succ_cons]
    omega
/-- the places of the rises -/
def dv (b : Int) (i : Nat) (y : List Int) : Int := ((i : Int) + 1) * b + (y.drop i).sum
/-! the loss at i: how much it lowers the place sum -/
theorem bits_ins {b : Int} {i : Nat} {u : List Int} (h : Bits u) (hb : b = 0 ∨ b = 1) (hi : i ≤ u.length) : Bits (ins b i u) := fun x hx => by
  rw [ins_eq b i u hi] at hx
  rcases List.mem_append.mp hx with r | r
  · exact h x (List.mem_of_mem_take r)
  · rcases List.mem_cons.mp r with r | r
    · rw [r]; exact hb
    · exact h x (List.mem_of_mem_drop r)
theorem wsum_ins0 {b : Int} {i : Nat} {y : List Int} (h : i ≤ y.length) : wsum 0 (ins b i y) = wsum 0 y + dv b i y := by
  rw [wsum_ins b i 0 y h]; unfold dv
  have : (((0 : Nat) : Int) + (i : Int) + 1) * b = ((i : Int) + 1) * b := by rw [Int.natCast_zero, Int.zero_add]
  rw [this]; omega
theorem wsum_take (o : Nat) : ∀ (i : Nat) (u : List Int), (h : i < u.length) → wsum o (u.take (i + 1)) = wsum o (u.take i) + ((o : Int) + i + 1) * u[i]
  | _, [], h => absurd h (by simp)
  | 0, c :: u, _ => by
    show ((o : Int) + 1) * c + 0 = 0 + _
    simp
  | i + 1, c :: u, h => by
    show ((o : Int) + 1) * c + wsum (o + 1) (u.take (i + 1)) = ((o : Int) + 1) * c + wsum (o + 1) (u.take i) + _
    rw [wsum_take (o + 1) i u (by simpa using h), List.getElem_cons_succ]
    have : (((o + 1 : Nat) : Int) + (i : Int) + 1) = ((o : Int) + ((i + 1 : Nat) : Int) + 1) := by omega
    rw [this]; omega
end

section
theorem enumk_get {xs : List Dt} {k i : Nat} {x : Dt} (h : (xs.mapIdx fun i x => Dt.tup [.int ((k : Int) + (i : Nat)), x])[i]? = some x) : ∃ y, xs[i]? = some y ∧ x = .tup [.int ((k : Int) + (i : Nat)), y] := by
  rw [List.getElem?_mapIdx, Option.map_eq_some_iff] at h
  obtain ⟨y, h1, h2⟩ := h
  exact ⟨y, h1, h2.symm⟩
theorem bits_01 {w : List Int} (h : Bits w) : ∀ x ∈ w, 0 ≤ x ∧ x < 2 := fun x hx => by have := h x hx; omega
theorem sum_of_ok {w : List Int} {Q : Dt → Prop} {E : Xc → Prop} (hb : Bits w) (hl : w.length < 1000) (q : Q (.int (wsum 0 w))) : F_sum_of [.d (iT w)] Q E := by
  rw [F_sum_of_eq]; unfold S_sum_of
  walk_at "wp"
  refine lc_inv (fun i acc => ∃ ns : List Int, acc = ns.map .int ∧ ns.sum = wsum 0 (w.take i) ∧ ns.length ≤ i) ⟨[], rfl, rfl, Nat.le_refl _⟩ ?_ ?_
  · rintro i x _ K hx ⟨ns, rfl, e, hn⟩ hK
    obtain ⟨y, hy, rfl⟩ := enumk_get hx
    obtain ⟨z, hz, rfl⟩ := map_get hy
    obtain ⟨hi, ez⟩ := List.getElem?_eq_some_iff.mp hz
    have st := wsum_take 0 i w hi
    rw [ez] at st
    walk_at "wp"
    rcases hb z (List.mem_of_getElem? hz) with rfl | rfl
    · rw [if_neg (by decide)]
      exact hK _ ⟨ns, rfl, by omega, by omega⟩
    · rw [if_pos rfl]
      exact ⟨by omega, hK _ ⟨ns ++ [1 + (i : Int)], by rw [List.map_append]; rfl, by rw [List.sum_append]; simp; omega, by rw [List.length_append]; show _ + 1 ≤ _; omega⟩⟩
  · rintro _ ⟨ns, rfl, e, hn⟩
    unfold dSum
    refine ⟨ns, rfl, ?_⟩
    rw [e, List.length_mapIdx, List.length_map, List.take_length]; exact q
theorem badWord_bits {w : List Int} {m : Nat} (hb : Bits w) (hm : w.length ≤ m) : badWord 2 m (.tup (w.map .int)) = none ∧ badWord 2 m (.lst (w.map .int)) = none := by
  have e : badAt (inB 0 (2 - 1)) (w.map .int) = none := badAt_map fun a ha => by have := bits_01 hb a ha; simp [inB]; omega
  rw [badWord_tup, badWord_lst, e, List.length_map, if_neg (by omega)]
  exact ⟨rfl, rfl⟩
/-- what passes the check for a word of bits -/
theorem bits_of_good {a : Dt} {m : Nat} (h : badWord 2 m a = none) : ∃ w, itemsOf a = w.map .int ∧ Bits w ∧ w.length ≤ m := by
  unfold badWord at h
  split at h
  · cases h
  · split at h
    · cases h
    · rename_i hl
      rw [Option.map_eq_none_iff] at h
      obtain ⟨w, e, hw⟩ := ints_of_dts (P := fun x => x = 0 ∨ x = 1) (ys := itemsOf a) fun y hy => by
        have := badAt_spec h hy
        cases y <;> simp [inB] at this
        exact ⟨_, rfl, by omega⟩
      refine ⟨w, e, hw, ?_⟩
      rw [e, List.length_map] at hl; omega
/-- a thing that is asked: its kind and its items' are known -/
def Kn (a : Dt) : Prop := a.kind.isSome = true ∧ ∀ x ∈ itemsOf a, x.kind.isSome = true
theorem kn_iT (w : List Int) : Kn (iT w) := ⟨rfl, fun x hx => by obtain ⟨i, _, rfl⟩ := List.mem_map.mp hx; rfl⟩
theorem kn_iL (w : List Int) : Kn (iL w) := ⟨rfl, fun x hx => by obtain ⟨i, _, rfl⟩ := List.mem_map.mp hx; rfl⟩
theorem place_sum_ok {a : Dt} {Q : Dt → Prop} {E : Xc → Prop} (hk : Kn a) (h0 : ∀ w, itemsOf a = w.map .int → Bits w → badWord 2 201 a = none → Q (.int (wsum 0 w))) (h1 : ∀ i, badWord 2 201 a = some i → E ⟨"BadWord", [("index", .int i)]⟩) : F_place_sum [.d a] Q E := by
  rw [F_place_sum_eq]; unfold S_place_sum
  walk_at "wp"
  refine check_word_ok (q := 2) (m := 201) hk.1 hk.2 (fun hb => ?_) h1
  obtain ⟨w, e, hw, hl⟩ := bits_of_good hb
  rw [e]
  walk_at "wp"
  exact sum_of_ok hw (by omega) (h0 w e hw hb)
theorem law_sum_ok {w : List Int} {Q : Dt → Prop} {E : Xc → Prop} (hb : Bits w) (hl : w.length < 1000) (q : Q (.int (wsum 0 w))) : F_law_sum [.d (iT w)] Q E := by
  rw [F_law_sum_eq]; unfold S_law_sum
  walk_at "wp"
  refine ⟨by omega, ?_⟩
  refine lc_inv (fun i acc => ∃ ns : List Int, acc = ns.map .int ∧ ns.sum = wsum 0 (w.take i) ∧ ns.length ≤ i) ⟨[], rfl, rfl, Nat.le_refl _⟩ ?_ ?_
  · rintro i x _ K hx ⟨ns, rfl, e, hn⟩ hK
    obtain ⟨hi, rfl⟩ := rng_get hx
    have hi : i < w.length := by omega
    have st := wsum_take 0 i w hi
    walk_at "wp"
    refine ix_map (n := i) rfl hi ?_
    walk_at "wp"
    refine ⟨.inl (by omega), by omega, hK _ ⟨ns ++ [((i : Int) + 1) * w[i]], by rw [List.map_append]; rfl, ?_, by rw [List.length_append]; show _ + 1 ≤ _; omega⟩⟩
    rw [List.sum_append, st, e]; simp
  · rintro _ ⟨ns, rfl, e, hn⟩
    unfold dSum
    refine ⟨ns, rfl, ?_⟩
    rw [e, List.length_map, List.length_range, rg_toNat, List.take_length]; exact q
end

section
end

section
end

section
/-- the sum book of length n, modulus m and rest r -/
def bk (n m r : Int) : Dt := .ins "SumBook" ["length", "modulus", "rest"] [.int n, .int m, .int r]
local macro_rules | `(tactic| walk_at "fl") => `(tactic| try simp only [bk, ftab_SumBook_length, ftab_SumBook_modulus, ftab_SumBook_rest, look_SumBook_length, look_SumBook_modulus, look_SumBook_rest, true_and, Option.some.injEq, exists_eq_left'])
theorem check_number_ok {x : Dt} {lo hi : Int} {Q : Dt → Prop} {E : Xc → Prop} (hk : x.kind.isSome = true) (q : inB lo hi x = true → Q x) (h1 : inB lo hi x = false → E ⟨"BadNumber", []⟩) : F_check_number [.d x, .d (.int lo), .d (.int hi)] Q E := by
  rw [F_check_number_eq]; unfold S_check_number
  walk_at "wp"
  refine is_whole_ok hk ?_
  walk_at "wp"
  cases h : inB lo hi x with
  | true => simpa using q h
  | false => simpa using h1 h
theorem check_modulus_ok {x : Dt} {lo : Int} {Q : Dt → Prop} {E : Xc → Prop} (hk : x.kind.isSome = true) (q : inB lo 1000000 x = true → Q .non) (h1 : inB lo 1000000 x = false → E ⟨"BadModulus", []⟩) : F_check_modulus [.d x, .d (.int lo)] Q E := by
  rw [F_check_modulus_eq]; unfold S_check_modulus
  walk_at "wp"
  refine is_whole_ok hk ?_
  walk_at "wp"
  cases h : inB lo 1000000 x with
  | true => simpa using q h
  | false => simpa using h1 h
theorem check_rest_ok {x : Dt} {m : Int} {Q : Dt → Prop} {E : Xc → Prop} (hk : x.kind.isSome = true) (q : inB 0 (m - 1) x = true → Q .non) (h1 : inB 0 (m - 1) x = false → E ⟨"BadRest", []⟩) : F_check_rest_sums [.d x, .d (.int m)] Q E := by
  rw [F_check_rest_sums_eq]; unfold S_check_rest_sums
  walk_at "wp"
  refine is_whole_ok hk ?_
  walk_at "wp"
  cases h : inB 0 (m - 1) x with
  | true => simpa using q h
  | false => simpa using h1 h
theorem inB_int {lo hi i : Int} (a : lo ≤ i) (b : i ≤ hi) : inB lo hi (.int i) = true := by
  unfold inB; simp [a, b, isW]
theorem make_ok {n m r : Int} {Q : Dt → Prop} {E : Xc → Prop} (hn : 0 ≤ n) (hn2 : n ≤ 200) (hm : n + 1 ≤ m) (hm2 : m ≤ 1000000) (hr : 0 ≤ r) (hr2 : r < m) (q : Q (bk n m r)) : F_SumBook___init [.d (.int n), .d (.int m), .d (.int r)] Q E := by
  rw [F_SumBook___init_eq]; unfold S_SumBook___init
  walk_at "wp"
  refine check_number_ok rfl (fun _ => ?_) fun h => by rw [inB_int hn hn2] at h; cases h
  refine check_modulus_ok rfl (fun _ => ?_) fun h => by rw [inB_int hm hm2] at h; cases h
  refine check_rest_ok rfl (fun _ => ?_) fun h => by rw [inB_int hr (by omega)] at h; cases h
  simp only [ftab_SumBook_length, ftab_SumBook_modulus, ftab_SumBook_rest, putN_SumBook_length, putN_SumBook_modulus, putN_SumBook_rest, putD_SumBook_length, putD_SumBook_modulus, putD_SumBook_rest, List.getElem?_cons_zero, List.set_cons_zero, true_and, List.length_nil, List.length_cons]
  exact ⟨by decide, by decide, by decide, q⟩
end

section
local macro_rules | `(tactic| walk_at "fl") => `(tactic| try simp only [bk, ftab_SumBook_length, ftab_SumBook_modulus, ftab_SumBook_rest, look_SumBook_length, look_SumBook_modulus, look_SumBook_rest, true_and, Option.some.injEq, exists_eq_left'])
end

section
local macro_rules | `(tactic| walk_at "fl") => `(tactic| try simp only [bk, ftab_SumBook_length, ftab_SumBook_modulus, ftab_SumBook_rest, look_SumBook_length, look_SumBook_modulus, look_SumBook_rest, look_SumBook_has, true_and, Option.some.injEq, exists_eq_left'])
end

section
/-- the words of the book -/
def Mem (n m r : Int) (u : List Int) : Prop := Bits u ∧ (u.length : Int) = n ∧ (wsum 0 u - r) % m = 0
end

section
end

section
end

section
/-- all words of n letters below q, in their order -/
def longer (q : Nat) (u : List Int) : List (List Int) := (List.range q).map fun k : Nat => u ++ [(k : Int)]
end

section
end

section
end

section

end

section
local macro_rules | `(tactic| walk_at "fl") => `(tactic| try simp only [bk, ftab_SumBook_length, ftab_SumBook_modulus, ftab_SumBook_rest, look_SumBook_length, look_SumBook_modulus, look_SumBook_rest, look_SumBook_has, true_and, Option.some.injEq, exists_eq_left'])
theorem mem_ins {n m r : Int} {w : List Int} {b : Int} {i : Nat} (hb : Bits w) (hl : (w.length : Int) = n - 1) (h : b = 0 ∨ b = 1) (hi : i ≤ w.length) (hd : dv b i w = (r - wsum 0 w) % m) : Mem n m r (ins b i w) := by
  refine ⟨bits_ins hb h hi, by rw [ins_len]; omega, ?_⟩
  rw [wsum_ins0 hi, show wsum 0 w + dv b i w - r = -((r - wsum 0 w) - dv b i w) by omega, hd]
  exact Int.emod_eq_zero_of_dvd (Int.dvd_neg.mpr (Int.dvd_self_sub_of_emod_eq rfl))
end

section
def lossD (u : List Int) (f c : Nat) : Dt := .lst [iT u, .int ((f : Int) + 1), .int ((c : Int) + 1)]
/-- the table of the losses that are in D -/
def Lt (ks : List (List Key)) (ds : List Dt) (D : List Int → Nat → Prop) : Prop := ∀ y : List Int, (valD ks ds (y.map .inl) = none ∧ ∀ u k, D u k → del k u ≠ y) ∨
  ∃ u f c, valD ks ds (y.map .inl) = some (lossD u f c) ∧ D u f ∧ D u c ∧ del f u = y ∧ del c u = y ∧ f ≤ c ∧ ∀ v k, D v k → del k v = y → v = u ∧ f ≤ k ∧ k ≤ c
theorem Lt.congr {ks : List (List Key)} {ds : List Dt} {D D' : List Int → Nat → Prop} (h : Lt ks ds D) (e : ∀ u k, D u k ↔ D' u k) : Lt ks ds D' := by
  have : D = D' := funext fun u => funext fun k => propext (e u k)
  rw [← this]; exact h
theorem Lt.step {ks : List (List Key)} {ds : List Dt} {D : List Int → Nat → Prop} {u : List Int} {j : Nat} (h : Lt ks ds D) (hl : ks.length = ds.length) (hu : ∀ v k, D v k → del k v = del j u → v = u) (hj : ∀ k, D u k → k < j) :
    ∃ f : Nat, (valD ks ds ((del j u).map .inl) = none ∧ f = j ∨ ∃ c, valD ks ds ((del j u).map .inl) = some (lossD u f c)) ∧
      Lt (putKs ks ((del j u).map .inl)) (putVs ks ds ((del j u).map .inl) (lossD u f j)) fun v k => D v k ∨ (v = u ∧ k = j) := by
  have rest : ∀ (f : Nat), D u f ∧ del f u = del j u ∨ f = j → (∀ k, D u k → del k u = del j u → f ≤ k) → Lt (putKs ks ((del j u).map .inl)) (putVs ks ds ((del j u).map .inl) (lossD u f j)) fun v k => D v k ∨ (v = u ∧ k = j) := by
    intro f hf hmin y
    rw [valD_put hl]
    by_cases c : y = del j u
    · subst c
      rw [if_pos rfl]
      refine .inr ⟨u, f, j, rfl, ?_, .inr ⟨rfl, rfl⟩, ?_, rfl, ?_, ?_⟩
      · rcases hf with hf | rfl
        · exact .inl hf.1
        · exact .inr ⟨rfl, rfl⟩
      · rcases hf with hf | rfl
        · exact hf.2
        · rfl
      · rcases hf with hf | rfl
        · exact Nat.le_of_lt (hj _ hf.1)
        · exact Nat.le_refl _
      · rintro v k (d | ⟨rfl, rfl⟩) e
        · obtain rfl := hu v k d e
          exact ⟨rfl, hmin k d e, Nat.le_of_lt (hj k d)⟩
        · refine ⟨rfl, ?_, Nat.le_refl _⟩
          rcases hf with hf | rfl
          · exact Nat.le_of_lt (hj _ hf.1)
          · exact Nat.le_refl _
    · rw [if_neg fun e => c (inl_inj.mp e)]
      rcases h y with ⟨e, hn⟩ | ⟨u', f', c', e, d1, d2, d3, d4, d5, d6⟩
      · refine .inl ⟨e, ?_⟩
        rintro v k (d | ⟨rfl, rfl⟩)
        · exact hn v k d
        · exact fun z => c z.symm
      · refine .inr ⟨u', f', c', e, .inl d1, .inl d2, d3, d4, d5, ?_⟩
        rintro v k (d | ⟨rfl, rfl⟩) z
        · exact d6 v k d z
        · exact absurd z.symm c
  rcases h (del j u) with ⟨e, hn⟩ | ⟨u', f', c', e, d1, d2, d3, d4, d5, d6⟩
  · exact ⟨j, .inl ⟨e, rfl⟩, rest j (.inr rfl) fun k d z => absurd z (hn u k d)⟩
  · obtain rfl := hu u' f' d1 d3
    exact ⟨f', .inr ⟨c', e⟩, rest f' (.inl ⟨d1, d3⟩) fun k d z => (d6 _ k d z).2.1⟩
end

section
/-- then a else b, for the kernel -/
noncomputable abbrev kif {α : Type} (c : Bool) (a b : α) : α := Bool.rec (motive := fun _ => α) b a c
theorem kif_eq {α : Type} (c : Bool) (a b : α) : kif c a b = bif c then a else b := by cases c <;> rfl
/-- the primes of n from p on, by at most f steps -/
noncomputable def runF (f : Nat) : Nat → Nat → Option (List Nat) :=
  Nat.rec (motive := fun _ => Nat → Nat → Option (List Nat)) (fun n _ => kif (Nat.ble n 1) (some []) none)
    (fun _ ih n p => kif (Nat.ble n 1) (some []) (kif (Nat.beq (Nat.mod n p) 0) (Option.map (List.cons p) (ih (Nat.div n p) p)) (ih n (Nat.succ p)))) f
noncomputable def primesOf (n : Nat) : List Nat := (runF 300 n 2).getD []
def divs (n : Nat) : List Nat := ((List.range n).map (· + 1)).filter fun d => n % d = 0
def phiL : Nat → Nat → List Nat → Nat
  | phi, _, [] => phi
  | phi, ahead, p :: r => phiL (phi * (if p = ahead then p else p - 1)) p r
noncomputable def phiN (n : Nat) : Nat := phiL 1 1 (primesOf n)
def dupLen (ps : List Nat) : Nat := (firstMet (fun i => (ps.map Int.ofNat).getD i 0) ps.length).length
noncomputable def muN (n : Nat) : Int := if dupLen (primesOf n) < (primesOf n).length then 0 else if (primesOf n).length % 2 = 0 then 1 else -1
noncomputable def ramN (e r : Nat) : Int := (phiN e : Int) * muN (e / Nat.gcd e r) / (phiN (e / Nat.gcd e r) : Int)
/-! tables for the kernel -/
def phiBig : Nat := 0x4205018c0f0620540c01806004017c1203605c1400f0480580f01205a0301641603a0500f00e0560540d81004e03014c148280501440d8420400d01384e0300f00f03004812c0a04a0480a8120380300f01182e0301140b044040090108360281040c02a0400fc0903203c0a00f0370200c00e8240380b0090380300900a0360240d40d0180300cc080320280780a8300200900b81e02c0900602c0280700a8200180a40a01b02009c0601e0240500902401808c06016020084050180200480781e010074070120180500481a0180400501501005c0580c014054030140100300481200c0300400a01003c0200e00c0240300a00802c0280600802401808008010018060040140100300400c0080200200400400800
def muBig : Nat := 0x48898a0646894282098845860881454a814a4805050686898a80854485490a418a4a41894484090a85854a8109488589098a4
noncomputable def phiT (n : Nat) : Nat := Nat.mod (Nat.shiftRight phiBig (Nat.mul 11 n)) 2048
/-- 0: 0, 1: 1, 2: -1 -/
noncomputable def muT (n : Nat) : Nat := Nat.mod (Nat.shiftRight muBig (Nat.mul 2 n)) 4
noncomputable def muK (ps : List Nat) : Nat := kif (Nat.blt (dupLen ps) ps.length) 0 (kif (Nat.beq (Nat.mod ps.length 2) 0) 1 2)
noncomputable def okPs (ps : List Nat) : Bool := ps.all fun p => Nat.ble 2 p && Nat.ble p 2000
noncomputable def checkF (n : Nat) : Bool := Option.rec (motive := fun _ => Bool) false (fun ps => and (Nat.beq (phiL 1 1 ps) (phiT n)) (and (Nat.beq (muK ps) (muT n)) (and (Nat.ble ps.length 11) (and (okPs ps) (and (Nat.ble 1 (phiT n)) (Nat.ble (phiT n) 2000)))))) (runF 300 n 2)
noncomputable def upTo (f : Nat → Bool) (n : Nat) : Bool := Nat.rec (motive := fun _ => Bool) true (fun n ih => and (f (Nat.succ n)) ih) n
theorem upTo_ok {f : Nat → Bool} : ∀ {m : Nat}, upTo f m = true → ∀ n, 1 ≤ n → n ≤ m → f n = true
  | 0, _, n, h1, h2 => by omega
  | m + 1, h, n, h1, h2 => by
    have h3 : (f (m + 1) && upTo f m) = true := h
    rw [Bool.and_eq_true] at h3
    by_cases e : n = m + 1
    · rw [e]; exact h3.1
    · exact upTo_ok h3.2 n h1 (by omega)
set_option maxHeartbeats 0 in
theorem checkF_all : upTo checkF 201 = true := by decide +kernel
theorem checkF_1 {n : Nat} (h1 : 1 ≤ n) (h2 : n ≤ 201) : ∃ ps, runF 300 n 2 = some ps ∧ phiL 1 1 ps = phiT n ∧ muK ps = muT n ∧ ps.length ≤ 11 ∧ (∀ p ∈ ps, 2 ≤ p ∧ p ≤ 2000) ∧ 1 ≤ phiT n ∧ phiT n ≤ 2000 := by
  have h := upTo_ok checkF_all n h1 h2
  unfold checkF at h
  cases e : runF 300 n 2 with
  | none => rw [e] at h; cases h
  | some ps =>
    rw [e] at h
    have h : (Nat.beq (phiL 1 1 ps) (phiT n) && (Nat.beq (muK ps) (muT n) && (Nat.ble ps.length 11 && (okPs ps && (Nat.ble 1 (phiT n) && Nat.ble (phiT n) 2000))))) = true := h
    simp only [Bool.and_eq_true] at h
    obtain ⟨a, b, c, d, e1, e2⟩ := h
    refine ⟨ps, rfl, Nat.eq_of_beq_eq_true a, Nat.eq_of_beq_eq_true b, Nat.le_of_ble_eq_true c, fun p hp => ?_, Nat.le_of_ble_eq_true e1, Nat.le_of_ble_eq_true e2⟩
    unfold okPs at d
    have := List.all_eq_true.mp d p hp
    simp only [Bool.and_eq_true] at this
    exact ⟨Nat.le_of_ble_eq_true this.1, Nat.le_of_ble_eq_true this.2⟩
theorem checkF_ok {n : Nat} (h1 : 1 ≤ n) (h2 : n ≤ 201) : runF 300 n 2 = some (primesOf n) := by
  obtain ⟨ps, e, _⟩ := checkF_1 h1 h2
  unfold primesOf
  rw [e]; rfl
theorem phi_T {n : Nat} (h1 : 1 ≤ n) (h2 : n ≤ 201) : phiN n = phiT n := by
  obtain ⟨ps, e, h, _⟩ := checkF_1 h1 h2
  unfold phiN primesOf
  rw [e]; exact h
theorem checkF_phi {n : Nat} (h1 : 1 ≤ n) (h2 : n ≤ 201) : 1 ≤ phiN n ∧ phiN n ≤ 2000 ∧ (primesOf n).length ≤ 11 ∧ ∀ p ∈ primesOf n, 2 ≤ p ∧ p ≤ 2000 := by
  obtain ⟨ps, e, h, _, h3, h4, h5, h6⟩ := checkF_1 h1 h2
  have ep : primesOf n = ps := by unfold primesOf; rw [e]; rfl
  rw [phi_T h1 h2, ep]
  exact ⟨h5, h6, h3, h4⟩
theorem runF_0 (n p : Nat) : runF 0 n p = bif Nat.ble n 1 then some [] else none := kif_eq _ _ _
theorem runF_1 (f n p : Nat) : runF (f + 1) n p = bif Nat.ble n 1 then some [] else bif Nat.beq (n % p) 0 then (runF f (n / p) p).map (p :: ·) else runF f n (p + 1) := by
  rw [← kif_eq, ← kif_eq]; rfl
end

section
/-- whole numbers as data -/
abbrev nD (l : List Nat) : List Dt := l.map fun d : Nat => Dt.int d
theorem mem_divs {n d : Nat} : d ∈ divs n ↔ 1 ≤ d ∧ d ≤ n ∧ n % d = 0 := by
  unfold divs
  simp only [List.mem_filter, List.mem_map, List.mem_range, decide_eq_true_eq]
  constructor
  · rintro ⟨⟨a, h, rfl⟩, e⟩; exact ⟨by omega, by omega, e⟩
  · rintro ⟨h1, h2, e⟩; exact ⟨⟨d - 1, by omega, by omega⟩, e⟩
theorem divs_len (n : Nat) : (divs n).length ≤ n := by
  unfold divs
  refine Nat.le_trans (List.length_filter_le _ _) ?_
  rw [List.length_map, List.length_range]
  exact Nat.le_refl n
theorem num_in {lo hi : Int} {i : Int} {Q : Dt → Prop} {E : Xc → Prop} (a : lo ≤ i) (b : i ≤ hi) (q : Q (.int i)) : F_check_number [.d (.int i), .d (.int lo), .d (.int hi)] Q E :=
  check_number_ok rfl (fun _ => q) fun h => by rw [inB_int a b] at h; cases h
theorem divisors_of_ok {n : Nat} {Q : Dt → Prop} {E : Xc → Prop} (h1 : 1 ≤ n) (h2 : n ≤ 201) (k : Q (.tup (nD (divs n)))) : F_divisors_of [.d (.int n)] Q E := by
  rw [F_divisors_of_eq]; unfold S_divisors_of
  walk_at "wp"
  refine num_in (by omega) (by omega) ?_
  walk_at "wp"
  refine ⟨by omega, ?_⟩
  rw [show ((n : Int) + 1 - 1).toNat = n by omega]
  refine lc_ok (e := fun i : Nat => Dt.int (1 + (i : Int))) (fun i : Nat => decide (n % (i + 1) = 0)) (fun i : Nat => Dt.int ((i + 1 : Nat) : Int)) (fun x hx K1 K0 h1 h0 => ?_) (by rw [List.length_range]; show 0 + n ≤ _; omega) ?_
  · have e : (1 + (x : Int)) = ((x + 1 : Nat) : Int) := by omega
    walk_at "wp"
    rw [e]
    refine ⟨by omega, ?_⟩
    refine iteQ (fun c => h1 (decide_eq_true ?_)) fun c => h0 (decide_eq_false ?_)
    · exact_mod_cast c
    · intro z; exact c (by exact_mod_cast z)
  · have e : (List.map (fun i : Nat => Dt.int ((i + 1 : Nat) : Int)) (List.filter (fun i : Nat => decide (n % (i + 1) = 0)) (List.range n))) = nD (divs n) := by
      unfold nD divs
      rw [List.filter_map, List.map_map]; rfl
    rw [List.nil_append, e]
    walk_at "wp"
    exact k
theorem ble_t {m : Nat} (h : m ≤ 1) : Nat.ble m 1 = true := Nat.ble_eq_true_of_le h
theorem ble_f {m : Nat} (h : ¬ m ≤ 1) : Nat.ble m 1 = false := by
  cases e : Nat.ble m 1 with
  | false => rfl
  | true => exact absurd (Nat.le_of_ble_eq_true e) h
theorem primes_of_ok {n : Nat} {Q : Dt → Prop} {E : Xc → Prop} (h1 : 1 ≤ n) (h2 : n ≤ 201) (k : Q (.lst (nD (primesOf n)))) : F_primes_of [.d (.int n)] Q E := by
  rw [F_primes_of_eq]; unfold S_primes_of
  walk_at "wp"
  refine ⟨fun f e => ∃ (m d : Nat) (acc l : List Nat), e = [.d (.int m), .own (.lst (nD acc)), .d (.int d)] ∧ runF f m d = some l ∧ acc ++ l = primesOf n ∧ 2 ≤ d ∧ d + f ≤ 400 ∧ acc.length + f ≤ 400, 300, ⟨n, 2, [], _, rfl, checkF_ok h1 h2, rfl, by omega, by omega, by simp⟩, ?_⟩
  rintro f _ ⟨m, d, acc, l, rfl, hr, hl, hd, hdf, haf⟩
  walk_at "wp"
  by_cases hm : m ≤ 1
  · have e : l = [] := by
      cases f with
      | zero => rw [runF_0, ble_t hm] at hr; exact (Option.some.inj hr).symm
      | succ f => rw [runF_1, ble_t hm] at hr; exact (Option.some.inj hr).symm
    rw [e, List.append_nil] at hl
    subst hl
    rw [if_neg (by omega)]
    exact k
  · rw [if_pos (by omega)]
    refine ⟨by omega, ?_⟩
    cases f with
    | zero => rw [runF_0, ble_f hm] at hr; cases hr
    | succ f =>
      rw [runF_1, ble_f hm] at hr
      refine iteQ (fun z => ?_) fun z => ?_
      · have z2 : Nat.beq (m % d) 0 = true := by
          have : m % d = 0 := by exact_mod_cast z
          rw [this]; rfl
        rw [z2] at hr
        have hr2 : (runF f (m / d) d).map (d :: ·) = some l := hr
        cases e : runF f (m / d) d with
        | none => rw [e] at hr2; cases hr2
        | some l2 =>
          rw [e] at hr2
          have e2 : d :: l2 = l := Option.some.inj hr2
          refine ⟨by omega, ⟨by omega, by omega⟩, f, by omega, m / d, d, acc ++ [d], l2, ?_, e, ?_, hd, by omega, ?_⟩
          · unfold nD; rw [List.map_append, Int.natCast_ediv]; rfl
          · rw [← hl, ← e2]; simp
          · rw [List.length_append]; show acc.length + 1 + f ≤ 400; omega
      · have z2 : Nat.beq (m % d) 0 = false := by
          cases h : Nat.beq (m % d) 0 with
          | false => rfl
          | true => exact absurd (by exact_mod_cast Nat.eq_of_beq_eq_true h) z
        rw [z2] at hr
        have hr2 : runF f m (d + 1) = some l := hr
        exact ⟨f, by omega, m, d + 1, acc, l, rfl, hr2, hl, by omega, by omega, by omega⟩
theorem phi_of_ok {n : Nat} {Q : Dt → Prop} {E : Xc → Prop} (h1 : 1 ≤ n) (h2 : n ≤ 201) (k : Q (.int (phiN n : Nat))) : F_phi_of [.d (.int n)] Q E := by
  rw [F_phi_of_eq]; unfold S_phi_of
  walk_at "wp"
  refine num_in (by omega) (by omega) ?_
  walk_at "wp"
  refine primes_of_ok h1 h2 ?_
  walk_at "wp"
  obtain ⟨f1, f2, f3, f4⟩ := checkF_phi h1 h2
  refine dFor_inv (fun i e => ∃ (phi ahead : Nat) (s : Sl), e = [.d (.int n), .d (.int phi), .d (.int ahead), s] ∧ phiL phi ahead ((primesOf n).drop i) = phiN n) ⟨1, 1, _, rfl, by rw [List.drop_zero]; rfl⟩ ?_ ?_
  · rintro i x _ K B hx ⟨phi, ahead, s, rfl, h⟩ hK
    obtain ⟨p, hp, rfl⟩ := map_get hx
    obtain ⟨hi, ep⟩ := List.getElem?_eq_some_iff.mp hp
    have hp2 := f4 p (List.mem_of_getElem? hp)
    rw [List.drop_eq_getElem_cons hi, ep] at h
    have h5 : phiL (phi * if p = ahead then p else p - 1) p ((primesOf n).drop (i + 1)) = phiN n := h
    walk_at "wp"
    refine iteQ (fun z => ?_) fun z => ?_
    · rw [if_pos (by omega)] at h5
      exact ⟨by unfold CMul; omega, hK _ ⟨phi * p, p, _, by rw [Int.natCast_mul], h5⟩⟩
    · rw [if_neg (by omega)] at h5
      have e3 : (p : Int) - 1 = ((p - 1 : Nat) : Int) := by omega
      rw [e3]
      exact ⟨by unfold CMul; omega, hK _ ⟨phi * (p - 1), p, _, by rw [Int.natCast_mul], h5⟩⟩
  · rintro _ ⟨phi, ahead, s, rfl, h⟩
    rw [List.length_map, List.drop_length] at h
    walk_at "wp"
    rw [show phi = phiN n from h]
    exact k
theorem mu_of_ok {n : Nat} {Q : Dt → Prop} {E : Xc → Prop} (h1 : 1 ≤ n) (h2 : n ≤ 201) (k : Q (.int (muN n))) : F_mu_of [.d (.int n)] Q E := by
  rw [F_mu_of_eq]; unfold S_mu_of
  walk_at "wp"
  refine num_in (by omega) (by omega) ?_
  walk_at "wp"
  refine primes_of_ok h1 h2 ?_
  walk_at "wp"
  rw [eLenSet_W]
  walk_at "wp"
  obtain ⟨f1, f2, f3, f4⟩ := checkF_phi h1 h2
  have el : nD (primesOf n) = ((primesOf n).map Int.ofNat).map Dt.int := by unfold nD; rw [List.map_map]; rfl
  refine ⟨(primesOf n).map Int.ofNat, by rw [el], by rw [List.length_map]; omega, ?_⟩
  unfold muN dupLen at k
  rw [List.length_map]
  refine iteQ (fun z => ?_) fun z => ?_
  · rw [if_pos (by omega)] at k; exact k
  · rw [if_neg (by omega)] at k
    refine iteQ (fun z2 => ?_) fun z2 => ?_
    · rw [if_pos (by omega)] at k; exact k
    · rw [if_neg (by omega)] at k; exact k
theorem ram_of_ok {n r : Nat} {Q : Dt → Prop} {E : Xc → Prop} (h1 : 1 ≤ n) (h2 : n ≤ 201) (h3 : r ≤ 2000) (k : Q (.int (ramN n r))) : F_ram_of [.d (.int n), .d (.int r)] Q E := by
  rw [F_ram_of_eq]; unfold S_ram_of
  walk_at "wp"
  refine num_in (by omega) (by omega) ?_
  refine num_in (by omega) (by omega) ?_
  walk_at "wp"
  rw [dGcd_W]
  simp only [Int.natAbs_natCast]
  have g1 : 1 ≤ Nat.gcd n r := Nat.gcd_pos_of_pos_left r (by omega)
  have g2 : Nat.gcd n r ≤ n := Nat.gcd_le_left r (by omega)
  have g3 : 1 ≤ n / Nat.gcd n r := Nat.div_pos g2 (by omega)
  have g4 : n / Nat.gcd n r ≤ n := Nat.div_le_self _ _
  walk_at "wp"
  have e : (n : Int) / (Nat.gcd n r : Nat) = ((n / Nat.gcd n r : Nat) : Int) := by rw [Int.natCast_ediv]
  rw [e]
  obtain ⟨f1, f2, _⟩ := checkF_phi g3 (Nat.le_trans g4 h2)
  obtain ⟨f3, f4, _⟩ := checkF_phi h1 h2
  refine ⟨⟨by omega, by omega⟩, ?_⟩
  refine phi_of_ok h1 h2 ?_
  refine mu_of_ok g3 (by omega) ?_
  refine ⟨.inl ⟨by omega, by omega⟩, ?_⟩
  refine phi_of_ok g3 (by omega) ?_
  exact ⟨⟨by omega, by omega⟩, k⟩
theorem ram_small {e : Nat} (h1 : 1 ≤ e) (h2 : e ≤ 201) (r : Nat) : -2000 ≤ ramN e r ∧ ramN e r ≤ 2000 := by
  obtain ⟨f3, f4, _⟩ := checkF_phi h1 h2
  have hm : (muN (e / Nat.gcd e r)).natAbs ≤ 1 := by
    unfold muN
    split
    · decide
    · split <;> decide
  have h := Int.natAbs_ediv_le_natAbs ((phiN e : Int) * muN (e / Nat.gcd e r)) (phiN (e / Nat.gcd e r) : Int)
  have h5 : ((phiN e : Int) * muN (e / Nat.gcd e r)).natAbs ≤ 2000 := by
    rw [Int.natAbs_mul, Int.natAbs_natCast]
    exact Nat.le_trans (Nat.mul_le_mul_left _ hm) (by omega)
  unfold ramN
  omega
/-- the size by its sum over the odd divisors -/
noncomputable def sizeN (n r : Nat) : Int := ((((divs (n + 1)).filter fun d => d % 2 = 1).map fun d : Nat => ramN d r * 2 ^ ((n + 1) / d)).sum) / (2 * ((n : Int) + 1))
theorem size_of_ok {n r : Nat} {Q : Dt → Prop} {E : Xc → Prop} (h2 : n ≤ 200) (h3 : r ≤ n) (k : Q (.int (sizeN n r))) : F_size_of [.d (.int n), .d (.int r)] Q E := by
  rw [F_size_of_eq]; unfold S_size_of
  walk_at "wp"
  refine num_in (by omega) (by omega) ?_
  rw [F_check_rest_sizes_eq]; unfold S_check_rest_sizes
  walk_at "wp"
  refine is_whole_ok rfl ?_
  rw [inB_int (by omega) (by omega)]
  walk_at "wp"
  rw [show (n : Int) + 1 = ((n + 1 : Nat) : Int) by omega]
  refine divisors_of_ok (by omega) (by omega) ?_
  walk_at "wp"
  have hl := divs_len (n + 1)
  refine lc_ok (e := fun d : Nat => Dt.int d) (fun d : Nat => decide (d % 2 = 1)) (fun d : Nat => Dt.int (ramN d r * 2 ^ ((n + 1) / d))) (fun x hx K1 K0 h1 h0 => ?_) (by show 0 + _ ≤ _; omega) ?_
  · obtain ⟨d1, d2, d3⟩ := mem_divs.mp hx
    walk_at "wp"
    refine iteQ (fun c => ?_) fun c => h0 (decide_eq_false (by omega))
    refine ram_of_ok d1 (by omega) (by omega) ?_
    have e : ((n + 1 : Nat) : Int) / (x : Int) = (((n + 1) / x : Nat) : Int) := by rw [Int.natCast_ediv]
    have l1 : (n + 1) / x ≤ n + 1 := Nat.div_le_self _ _
    rw [e]
    refine ⟨⟨by omega, by omega⟩, ⟨Int.natCast_nonneg _, by have := Int.ofNat_le.mpr l1; omega, by decide⟩, ?_⟩
    rw [Int.toNat_natCast, Int.one_mul]
    have rs := ram_small d1 (show x ≤ 201 by omega) r
    exact ⟨.inl ⟨by omega, by omega⟩, h1 (decide_eq_true (by omega))⟩
  · rw [List.nil_append]
    have e : (List.map (fun d : Nat => Dt.int (ramN d r * 2 ^ ((n + 1) / d))) (List.filter (fun d : Nat => decide (d % 2 = 1)) (divs (n + 1)))) = (((divs (n + 1)).filter fun d => d % 2 = 1).map fun d : Nat => ramN d r * 2 ^ ((n + 1) / d)).map Dt.int := by rw [List.map_map]; rfl
    rw [e]
    walk_at "wp"
    refine ⟨_, rfl, ?_⟩
    walk_at "wp"
    refine ⟨.inl ⟨by decide, by decide⟩, ⟨by omega, by omega⟩, ?_⟩
    rw [show ((n + 1 : Nat) : Int) = (n : Int) + 1 by omega]
    exact k
end

section
/-! ### wrong books -/
noncomputable def wb (n r : Nat) : Dt := .ins "WrongBook" ["length", "rest", "modulus", "size"] [.int n, .int r, .int (2 * (n : Int)), .int (sizeN (n - 1) (r % n))]
theorem wmake_ok {n r : Nat} {Q : Dt → Prop} {E : Xc → Prop} (h1 : 1 ≤ n) (h2 : n ≤ 60) (hr : r < 2 * n) (q : Q (wb n r)) : F_WrongBook___init [.d (.int n), .d (.int r)] Q E := by
  have cm : CMul 2 (n : Int) := by unfold CMul; omega
  have ml : r % n < n := Nat.mod_lt _ h1
  have em : (r : Int) % (n : Int) = ((r % n : Nat) : Int) := by rw [Int.natCast_emod]
  have en : (n : Int) - 1 = ((n - 1 : Nat) : Int) := by omega
  rw [F_WrongBook___init_eq]; unfold S_WrongBook___init
  walk_at "wp"
  refine num_in (by omega) (by omega) ?_
  walk_at "wp"
  refine ⟨cm, ?_⟩
  refine is_whole_ok rfl ?_
  rw [inB_int (by omega) (by omega)]
  walk_at "wp"
  simp only [ftab_WrongBook_length, ftab_WrongBook_modulus, ftab_WrongBook_rest, ftab_WrongBook_size, putN_WrongBook_length, putN_WrongBook_modulus, putN_WrongBook_rest, putN_WrongBook_size, putD_WrongBook_length, putD_WrongBook_modulus, putD_WrongBook_rest, putD_WrongBook_size, List.getElem?_cons_zero, List.set_cons_zero, true_and, List.length_nil, List.length_cons]
  refine ⟨by decide, by decide, cm, by decide, by omega, ?_⟩
  rw [en, em]
  refine size_of_ok (by omega) (by omega) ?_
  exact ⟨by decide, q⟩
theorem place_sumT {w : List Int} {Q : Dt → Prop} {E : Xc → Prop} (hb : Bits w) (hl : w.length ≤ 201) (q : Q (.int (wsum 0 w))) : F_place_sum [.d (iT w)] Q E := by
  refine place_sum_ok (kn_iT w) (fun v e _ _ => ?_) fun i h => by rw [show badWord 2 201 (iT w) = none from (badWord_bits hb hl).1] at h; cases h
  have : w = v := dts_inj2 e
  subst this
  exact q
local macro_rules | `(tactic| walk_at "fl") => `(tactic| try simp only [wb, ftab_WrongBook_length, ftab_WrongBook_modulus, ftab_WrongBook_rest, look_WrongBook_length, look_WrongBook_modulus, look_WrongBook_rest, true_and, Option.some.injEq, exists_eq_left'])
theorem whas_ok {w : List Int} {n r : Nat} {Q : Dt → Prop} {E : Xc → Prop} (hb : Bits w) (hl : w.length ≤ 61) (hn : 1 ≤ n) (q : Q (.bl (decide (w.length = n) && decide (wsum 0 w % (2 * (n : Int)) = r)))) : F_WrongBook_has [.d (wb n r), .d (iT w)] Q E := by
  rw [F_WrongBook_has_eq]; unfold S_WrongBook_has
  walk_at "wp"
  refine check_word_ok (q := 2) (m := 61) rfl (kn_iT w).2 (fun _ => ?_) fun i h => by rw [show badWord 2 61 (iT w) = none from (badWord_bits hb hl).1] at h; cases h
  rw [show itemsOf (iT w) = w.map .int from rfl]
  walk_at "wp"
  walk_at "fl"
  walk_at "wp"
  refine iteQ (fun c => ?_) fun c => ?_
  · refine place_sumT hb (by omega) ?_
    walk_at "wp"
    refine ⟨by omega, ?_⟩
    walk_at "wp"
    rw [decide_eq_true (show w.length = n by omega), Bool.true_and] at q
    exact q
  · rw [decide_eq_false (show ¬ w.length = n by omega), Bool.false_and] at q
    exact q
end

section
local macro_rules | `(tactic| walk_at "fl") => `(tactic| try simp only [bk, ftab_SumBook_length, ftab_SumBook_modulus, ftab_SumBook_rest, look_SumBook_length, look_SumBook_modulus, look_SumBook_rest, look_SumBook_has, true_and, Option.some.injEq, exists_eq_left'])
theorem has_ok {w : List Int} {n m r : Int} {Q : Dt → Prop} {E : Xc → Prop} (hb : Bits w) (hl : w.length ≤ 200) (hm : 0 < m) (q : Q (.bl (decide ((w.length : Int) = n) && decide (wsum 0 w % m = r)))) : F_SumBook_has [.d (bk n m r), .d (iT w)] Q E := by
  rw [F_SumBook_has_eq]; unfold S_SumBook_has
  walk_at "wp"
  refine check_word_ok (q := 2) (m := 200) rfl (kn_iT w).2 (fun _ => ?_) fun i h => by rw [show badWord 2 200 (iT w) = none from (badWord_bits hb hl).1] at h; cases h
  rw [show itemsOf (iT w) = w.map .int from rfl]
  walk_at "wp"
  walk_at "fl"
  walk_at "wp"
  refine iteQ (fun c => ?_) fun c => ?_
  · refine sum_of_ok hb (by omega) ?_
    walk_at "fl"
    walk_at "wp"
    refine ⟨hm, ?_⟩
    walk_at "wp"
    rw [decide_eq_true c, Bool.true_and] at q
    exact q
  · rw [decide_eq_false c, Bool.false_and] at q
    exact q
end

section
/-! ### the places 1, 2, 4, .. and the free ones -/
def lgn (n : Nat) : Nat := n.log2 + 1
theorem lgn_iff {n j : Nat} (h : 1 ≤ n) : 2 ^ j ≤ n ↔ j < lgn n := by
  unfold lgn
  rw [← Nat.le_log2 (by omega)]; omega
theorem lgn_lt {n : Nat} (hn : n ≤ 200) : lgn n ≤ 8 := by
  rcases Nat.lt_or_ge 8 (lgn n) with c | c
  · have h1 : 1 ≤ n := by
      rcases Nat.eq_zero_or_pos n with rfl | h
      · exact absurd c (by decide)
      · exact h
    have := (lgn_iff h1).mpr c
    omega
  · exact c
def pws (k : Nat) : List Int := (List.range k).map fun j => ((2 ^ j : Nat) : Int)
theorem pws_snoc (k : Nat) : pws (k + 1) = pws k ++ [((2 ^ k : Nat) : Int)] := by
  unfold pws
  rw [List.range_succ, List.map_append]; rfl
theorem pws_len (k : Nat) : (pws k).length = k := by unfold pws; rw [List.length_map, List.length_range]
def fx (n : Nat) : List Int := pws (lgn n)
theorem law_doubling_ok {n : Nat} {Q : Dt → Prop} {E : Xc → Prop} (h1 : 1 ≤ n) (hn : n ≤ 200) (k : Q (iL (fx n))) : F_law_doubling [.d (.int n)] Q E := by
  have lg := lgn_lt hn
  rw [F_law_doubling_eq]; unfold S_law_doubling
  walk_at "wp"
  refine ⟨by decide, dFor_inv (fun i e => ∃ s3, e = [.d (.int n), .own (.lst ((pws (min i (lgn n))).map .int)), .d (.int (2 ^ i : Nat)), s3]) ⟨_, by rw [Nat.min_eq_left (Nat.zero_le _)]; rfl⟩ ?_ ?_⟩
  · rintro i x _ K B hx ⟨s3, rfl⟩ hK
    obtain ⟨hi3, rfl⟩ := rng_get hx
    have hi : i < 9 := hi3
    have e2 : ((2 ^ i : Nat) : Int) * 2 = ((2 ^ (i + 1) : Nat) : Int) := by rw [Nat.pow_succ]; push_cast; rfl
    have big : 2 ^ i ≤ 256 := Nat.pow_le_pow_right (by decide) (show i ≤ 8 by omega)
    walk_at "wp"
    refine iteQ (fun c => ?_) fun c => ?_
    · have c : i < lgn n := (lgn_iff h1).mp (by omega)
      refine ⟨by rw [pws_len]; omega, ?_⟩
      rw [e2]
      refine ⟨by unfold CMul; omega, hK _ ⟨.d (.int i), ?_⟩⟩
      rw [show min i (lgn n) = i by omega, show min (i + 1) (lgn n) = i + 1 by omega, pws_snoc, List.map_append]; rfl
    · have c : ¬ i < lgn n := fun h => c (by have := (lgn_iff h1).mpr h; omega)
      rw [e2]
      refine ⟨by unfold CMul; omega, hK _ ⟨.d (.int i), ?_⟩⟩
      rw [show min i (lgn n) = lgn n by omega, show min (i + 1) (lgn n) = lgn n by omega]
  · rintro _ ⟨s3, rfl⟩
    rw [show min ((List.range (Int.toNat 9)).map fun i => Dt.int ((i : Nat) : Int)).length (lgn n) = lgn n by rw [List.length_map, List.length_range]; show min 9 _ = _; omega]
    walk_at "wp"
    exact k
theorem fixed_places_ok {n : Nat} {Q : Dt → Prop} {E : Xc → Prop} (h1 : 1 ≤ n) (hn : n ≤ 200) (k : Q (iL (fx n))) : F_fixed_places [.d (.int n)] Q E := by
  have lg := lgn_lt hn
  rw [F_fixed_places_eq]; unfold S_fixed_places
  walk_at "wp"
  refine ⟨fun m e => ∃ i, m + i = lgn n ∧ e = [.d (.int n), .own (.lst ((pws i).map .int)), .d (.int (2 ^ i : Nat))], lgn n, ⟨0, rfl, rfl⟩, ?_⟩
  rintro m _ ⟨i, mi, rfl⟩
  have e2 : (2 : Int) * ((2 ^ i : Nat) : Int) = ((2 ^ (i + 1) : Nat) : Int) := by rw [Nat.pow_succ]; push_cast; omega
  have big : 2 ^ i ≤ 256 := Nat.pow_le_pow_right (by decide) (show i ≤ 8 by omega)
  walk_at "wp"
  refine iteQ (fun c => ?_) fun c => ?_
  · have c : i < lgn n := (lgn_iff h1).mp (by omega)
    rw [e2]
    refine ⟨by rw [pws_len]; omega, ⟨by unfold CMul; omega, m - 1, by omega, i + 1, by omega, ?_⟩⟩
    rw [pws_snoc, List.map_append]; rfl
  · have c : ¬ i < lgn n := fun h => c (by have := (lgn_iff h1).mpr h; omega)
    have : i = lgn n := by omega
    subst this
    exact k
end

section
theorem not_in_int {L : List Int} {x : Int} {Q : Dt → Prop} (k : Q (.bl (!decide (x ∈ L)))) : dNotIn (.int x) (iL L) Q := by
  have e : ((L.map Dt.int).any fun y => y.eqv (.int x)) = decide (x ∈ L) := by
    rw [List.any_map]
    have e : ((fun y : Dt => y.eqv (.int x)) ∘ Dt.int) = fun y => decide (y = x) := funext fun y => eqE_int.eq y x
    rw [e, Bool.eq_iff_iff, List.any_eq_true, decide_eq_true_eq]
    exact ⟨fun ⟨y, h, g⟩ => (of_decide_eq_true g) ▸ h, fun h => ⟨x, h, decide_eq_true rfl⟩⟩
  exact ⟨(eqE_int.sh x).sh, (eqE_L.sh L).sh, by rw [e]; exact k⟩
def fxw (n : Nat) (wr : Bool) : List Int := fx n ++ if wr = true then [(n : Int)] else []
def fre (n : Nat) (wr : Bool) : List Int := ((List.range n).filter fun k => !decide ((1 : Int) + (k : Nat) ∈ fxw n wr)).map fun k => (1 : Int) + (k : Nat)
theorem fx_len {n : Nat} (hn : n ≤ 200) : (fx n).length ≤ 8 := by unfold fx; rw [pws_len]; exact lgn_lt hn
theorem fre_map (n : Nat) (wr : Bool) : (((List.range n).filter fun k => !decide ((1 : Int) + (k : Nat) ∈ fxw n wr)).map fun k : Nat => Dt.int (1 + (k : Nat))) = (fre n wr).map Dt.int := by
  unfold fre
  rw [List.map_map]; rfl
theorem free_lc {n : Nat} {wr : Bool} {s0 s1 s2 s3 : Sl} {Q : Dt → Prop} (hn : n ≤ 200) (e2 : s2 = .d (iL (fxw n wr)) ∨ s2 = .own (.lst ((fxw n wr).map .int))) (k : Q (iL (fre n wr))) :
    lcGo (gD 3) (eTest (eOp dNotIn (eVarB 3) (eVarB 2))) (eVar 3) [s0, s1, s2, s3] Q (List.map (fun k : Nat => Dt.int (1 + (k : Nat))) (List.range n)) [] := by
  refine lc_ok (e := fun k : Nat => Dt.int (1 + (k : Nat))) (fun k => !decide ((1 : Int) + (k : Nat) ∈ fxw n wr)) (fun k => Dt.int (1 + (k : Nat))) (fun x hx K1 K0 h1 h0 => ?_) (by rw [List.length_range, List.length_nil]; omega) ?_
  · have fin : dNotIn (.int (1 + (x : Nat))) (iL (fxw n wr)) (fun d => match d with | .bl b => if b = true then K1 (.int (1 + (x : Nat))) else K0 | _ => False) := not_in_int (by
      cases e : decide ((1 : Int) + (x : Nat) ∈ fxw n wr) with
      | true => exact h0 (by rw [e]; rfl)
      | false => exact h1 (by rw [e]; rfl))
    rcases e2 with rfl | rfl
    · walk_at "wp"
      exact fin
    · walk_at "wp"
      exact fin
  · rw [List.nil_append, fre_map]; exact k
theorem law_free_ok {n : Nat} {wr : Bool} {Q : Dt → Prop} {E : Xc → Prop} (h1 : 1 ≤ n) (hn : n ≤ 200) (k : Q (iL (fre n wr))) : F_law_free [.d (.int n), .d (.bl wr)] Q E := by
  have fl := fx_len hn
  rw [F_law_free_eq]; unfold S_law_free
  walk_at "wp"
  refine law_doubling_ok h1 hn ?_
  walk_at "wp"
  rw [show ((n : Int) + 1 - 1).toNat = n by omega]
  cases wr with
  | true =>
    refine iteQ (fun _ => ⟨by omega, by omega, ?_⟩) fun h => absurd rfl h
    exact free_lc hn (.inl (by unfold fxw; rw [if_pos rfl]; show _ = Sl.d (.lst _); rw [List.map_append]; rfl)) k
  | false =>
    refine iteQ (fun h => by cases h) fun _ => ⟨by omega, by omega, ?_⟩
    exact free_lc hn (.inl (by unfold fxw; rw [if_neg Bool.false_ne_true, List.append_nil])) k
theorem free_places_ok {n : Nat} {wr : Bool} {Q : Dt → Prop} {E : Xc → Prop} (h1 : 1 ≤ n) (hn : n ≤ 200) (k : Q (iT (fre n wr))) : F_free_places [.d (.int n), .d (.bl wr)] Q E := by
  have fl := fx_len hn
  rw [F_free_places_eq]; unfold S_free_places
  walk_at "wp"
  refine num_in (by omega) (by omega) ?_
  walk_at "wp"
  refine fixed_places_ok h1 hn ?_
  walk_at "wp"
  rw [show ((n : Int) + 1 - 1).toNat = n by omega]
  cases wr with
  | true =>
    refine iteQ (fun _ => ⟨by omega, by omega, ?_⟩) fun h => absurd rfl h
    exact free_lc hn (.inr (by unfold fxw; rw [if_pos rfl, List.map_append]; rfl)) k
  | false =>
    refine iteQ (fun h => by cases h) fun _ => ⟨by omega, ?_⟩
    exact free_lc hn (.inr (by unfold fxw; rw [if_neg Bool.false_ne_true, List.append_nil])) k
end

section
theorem law_power_two {m : Nat} {Q : Dt → Prop} {E : Xc → Prop} (hm : m ≤ 1000) (k : Q (.int (2 ^ m : Nat))) : F_law_power [.d (.int 2), .d (.int m)] Q E := by
  rw [F_law_power_eq]; unfold S_law_power
  walk_at "wp"
  refine ⟨by omega, dFor_inv (fun i e => ∃ s3, e = [.d (.int 2), .d (.int m), .d (.int (2 ^ i : Nat)), s3]) ⟨_, rfl⟩ ?_ ?_⟩
  · rintro i x _ K B hx ⟨s3, rfl⟩ hK
    obtain ⟨hi3, rfl⟩ := rng_get hx
    walk_at "wp"
    rw [show ((2 ^ i : Nat) : Int) * 2 = ((2 ^ (i + 1) : Nat) : Int) by rw [Nat.pow_succ]; push_cast; rfl]
    exact ⟨.inr ⟨by decide, by decide⟩, hK _ ⟨_, rfl⟩⟩
  · rintro _ ⟨s3, rfl⟩
    rw [List.length_map, List.length_range, Int.toNat_natCast]
    walk_at "wp"
    exact k
theorem law_either_ok {b : List Int} {Q : Dt → Prop} {E : Xc → Prop} (k : ∀ a, a = iT b ∨ a = iL b → Q a) : F_law_either [.hand, .d (iL b)] Q E := by
  rw [F_law_either_eq]; unfold S_law_either
  walk_at "wp"
  exact fun r _ => iteQ (fun _ => k _ (.inr rfl)) fun _ => k _ (.inl rfl)
theorem law_either_T {b : List Int} {Q : Dt → Prop} {E : Xc → Prop} (k : ∀ a, a = iT b ∨ a = iL b → Q a) : F_law_either [.hand, .d (iT b)] Q E := by
  rw [F_law_either_eq]; unfold S_law_either
  walk_at "wp"
  exact fun r _ => iteQ (fun _ => k _ (.inr rfl)) fun _ => k _ (.inl rfl)
end

section
theorem check_bits_ok {a : Dt} {b : List Int} {m : Nat} {Q : Dt → Prop} {E : Xc → Prop} (ha : a = iT b ∨ a = iL b) (hb : Bits b) (hl : b.length = m) (hm : m ≤ 1000) (k : Q (iT b)) : F_check_bits [.d a, .d (.int m)] Q E := by
  subst hl
  rw [F_check_bits_eq]; unfold S_check_bits
  have step : ∀ {Q : Dt → Prop} {E : Xc → Prop} {x : Int}, x ∈ b → Q (.bl true) → F_is_whole [.d (.int x), .d (.int 0), .d (.int 1)] Q E := fun {Q E x} hx k => by
    refine is_whole_ok rfl ?_
    have := hb x hx
    rw [inB_int (by omega) (by omega)]
    exact k
  rcases ha with rfl | rfl
  · walk_at "wp"
    refine dFor_inv (fun i e => ∃ s2 s3, e = [.d (iT b), .d (.int b.length), s2, s3]) ⟨_, _, rfl⟩ ?_ ?_
    · rintro i x _ K B hx ⟨s2, s3, rfl⟩ hK
      obtain ⟨y, hy, rfl⟩ := enum_get hx
      obtain ⟨u, hu, rfl⟩ := map_get hy
      walk_at "wp"
      refine step (List.mem_of_getElem? hu) ?_
      walk_at "wp"
      exact hK _ ⟨_, _, rfl⟩
    · rintro _ ⟨s2, s3, rfl⟩
      walk_at "wp"
      exact k
  · walk_at "wp"
    refine dFor_inv (fun i e => ∃ s2 s3, e = [.d (iL b), .d (.int b.length), s2, s3]) ⟨_, _, rfl⟩ ?_ ?_
    · rintro i x _ K B hx ⟨s2, s3, rfl⟩ hK
      obtain ⟨y, hy, rfl⟩ := enum_get hx
      obtain ⟨u, hu, rfl⟩ := map_get hy
      walk_at "wp"
      refine step (List.mem_of_getElem? hu) ?_
      walk_at "wp"
      exact hK _ ⟨_, _, rfl⟩
    · rintro _ ⟨s2, s3, rfl⟩
      walk_at "wp"
      exact k
/-! ### letters put at places -/
def putAll : List Int → List Int → List Int → List Int
  | w, [], _ => w
  | w, _ :: _, [] => w
  | w, p :: ps, b :: bs => putAll (w.set (p - 1).toNat b) ps bs
theorem putAll_len : ∀ (ps bs w : List Int), (putAll w ps bs).length = w.length
  | [], bs, w => by cases bs <;> rw [putAll]
  | p :: ps, [], w => by rw [putAll]
  | p :: ps, b :: bs, w => by rw [putAll, putAll_len ps bs, List.length_set]
theorem putAll_snoc : ∀ (ps bs w : List Int) (p b : Int), ps.length = bs.length → putAll w (ps ++ [p]) (bs ++ [b]) = (putAll w ps bs).set (p - 1).toNat b
  | [], [], w, p, b, _ => rfl
  | q :: ps, c :: bs, w, p, b, h => by
    show putAll (w.set (q - 1).toNat c) (ps ++ [p]) (bs ++ [b]) = (putAll (w.set (q - 1).toNat c) ps bs).set (p - 1).toNat b
    exact putAll_snoc ps bs _ p b (by simpa using h)
theorem mem_putAll : ∀ (ps bs w : List Int) (x : Int), x ∈ putAll w ps bs → x ∈ w ∨ x ∈ bs
  | [], bs, w, x, h => by
    have e : putAll w [] bs = w := by cases bs <;> rw [putAll]
    rw [e] at h; exact .inl h
  | p :: ps, [], w, x, h => by rw [putAll] at h; exact .inl h
  | p :: ps, b :: bs, w, x, h => by
    rw [putAll] at h
    rcases mem_putAll ps bs _ x h with g | g
    · rcases List.mem_or_eq_of_mem_set g with g | g
      · exact .inl g
      · exact .inr (by rw [g]; exact List.mem_cons_self)
    · exact .inr (List.mem_cons_of_mem _ g)
theorem fre_mem {n : Nat} {wr : Bool} {p : Int} (h : p ∈ fre n wr) : 1 ≤ p ∧ p ≤ n ∧ p ∉ fxw n wr := by
  unfold fre at h
  obtain ⟨k, hk, rfl⟩ := List.mem_map.mp h
  obtain ⟨h1, h2⟩ := List.mem_filter.mp hk
  have := List.mem_range.mp h1
  refine ⟨by omega, by omega, fun c => ?_⟩
  rw [decide_eq_true c] at h2
  exact absurd h2 (by decide)
theorem fx_mem {n : Nat} {p : Int} (h1 : 1 ≤ n) (h : p ∈ fx n) : 1 ≤ p ∧ p ≤ n := by
  unfold fx pws at h
  obtain ⟨j, hj, rfl⟩ := List.mem_map.mp h
  have := (lgn_iff h1).mpr (List.mem_range.mp hj)
  have := Nat.one_le_two_pow (n := j)
  omega
/-- the word with the free letters set -/
def w0 (n : Nat) (wr : Bool) (b : List Int) : List Int := putAll (List.replicate n 0) (fre n wr) b
theorem w0_len (n : Nat) (wr : Bool) (b : List Int) : (w0 n wr b).length = n := by unfold w0; rw [putAll_len, List.length_replicate]
theorem w0_bits {n : Nat} {wr : Bool} {b : List Int} (hb : Bits b) : Bits (w0 n wr b) := fun x hx => by
  rcases mem_putAll _ _ _ x hx with h | h
  · exact .inl (List.mem_replicate.mp h).2
  · exact hb x h
end

section
theorem fre_len {n : Nat} {wr : Bool} : (fre n wr).length ≤ n := by
  unfold fre
  rw [List.length_map]
  exact Nat.le_trans (List.length_filter_le _ _) (by rw [List.length_range]; exact Nat.le_refl _)
theorem put_at {n : Nat} {p : Int} (h : 1 ≤ p ∧ p ≤ n) : ixN n (p - 1) = some (p - 1).toNat := by
  unfold ixN
  rw [if_pos (by omega), if_pos (by omega)]
def md (n : Nat) (wr : Bool) : Nat := if wr = true then 2 * n else n + 1
def lak (n r : Nat) (wr : Bool) (b : List Int) : Int := ((r : Int) - wsum 0 (w0 n wr b)) % (md n wr : Nat)
def big (n r : Nat) (wr : Bool) (b : List Int) : Prop := wr = true ∧ (n : Int) ∉ fx n ∧ (fx n).sum < lak n r wr b
instance (n r : Nat) (wr : Bool) (b : List Int) : Decidable (big n r wr b) := by unfold big; infer_instance
def lk2 (n r : Nat) (wr : Bool) (b : List Int) : Int := if big n r wr b then lak n r wr b - n else lak n r wr b
def w1 (n r : Nat) (wr : Bool) (b : List Int) : List Int := if big n r wr b then (w0 n wr b).set (n - 1) 1 else w0 n wr b
def dwd (n r : Nat) (wr : Bool) (b : List Int) : List Int := putAll (w1 n r wr b) (fx n) ((fx n).map fun p => lk2 n r wr b / p % 2)
theorem w1_len (n r : Nat) (wr : Bool) (b : List Int) : (w1 n r wr b).length = n := by
  unfold w1
  split
  · rw [List.length_set, w0_len]
  · exact w0_len n wr b
abbrev ldE (n r : Nat) (wr : Bool) (b : List Int) (s6 s7 s8 s9 s10 : Sl) : List Sl := [.d (.int n), .d (.int r), .d (iL b), .d (.bl wr), .d (.int (md n wr)), .d (iL (fre n wr)), s6, s7, s8, s9, s10]
/-- the last loop of the law's word -/
theorem law_data_r11 {n r : Nat} {wr : Bool} {b : List Int} {s7 s10 : Sl} {d : DEn} (h1 : 1 ≤ n) (hn : n ≤ 200) (k : d.rt (iT (dwd n r wr b))) : S_law_data_r11 d (ldE n r wr b (.own (.lst ((w1 n r wr b).map .int))) s7 (.d (.int (lk2 n r wr b))) (.d (iL (fx n))) s10) := by
  rw [S_law_data_r11_eq]
  unfold ldE
  walk_at "wp"
  refine dFor_inv (fun i e => ∃ s10, e = ldE n r wr b (.own (.lst ((putAll (w1 n r wr b) ((fx n).take i) (((fx n).take i).map fun p => lk2 n r wr b / p % 2)).map .int))) s7 (.d (.int (lk2 n r wr b))) (.d (iL (fx n))) s10) ⟨s10, rfl⟩ ?_ ?_
  · rintro i x _ K B hx ⟨s10, rfl⟩ hK
    obtain ⟨p, hp, rfl⟩ := map_get hx
    have pm := fx_mem h1 (List.mem_of_getElem? hp)
    unfold ldE
    walk_at "wp"
    rw [S_law_data_b12_eq]
    walk_at "wp"
    refine ⟨by unfold CDiv; omega, (p - 1).toNat, by rw [putAll_len, w1_len]; exact put_at pm, hK _ ⟨.d (.int p), ?_⟩⟩
    rw [take_snoc hp, List.map_append (l₁ := (fx n).take i), List.map_cons, List.map_nil, putAll_snoc _ _ _ _ _ (by rw [List.length_map]), List.map_set]
  · rintro _ ⟨s10, rfl⟩
    rw [List.length_map, List.take_length, S_law_data_r13_eq]
    unfold ldE
    walk_at "wp"
    exact k
theorem sum_at {L : List Int} {Q : Dt → Prop} (k : Q (.int L.sum)) : dSum [iL L] Q := by
  unfold dSum
  exact ⟨L, rfl, k⟩
theorem law_data_r8 {n r : Nat} {wr : Bool} {b : List Int} {s7 s10 : Sl} {d : DEn} (h1 : 1 ≤ n) (hn : n ≤ 200) (k : d.rt (iT (dwd n r wr b))) : S_law_data_r8 d (ldE n r wr b (.own (.lst ((w0 n wr b).map .int))) s7 (.d (.int (lak n r wr b))) (.d (iL (fx n))) s10) := by
  rw [S_law_data_r8_eq]
  have last : ∀ s7, S_law_data_r11 d (ldE n r wr b (.own (.lst ((w1 n r wr b).map .int))) s7 (.d (.int (lk2 n r wr b))) (.d (iL (fx n))) s10) := fun s7 => law_data_r11 h1 hn k
  have noGo : ¬ big n r wr b → S_law_data_r11 d (ldE n r wr b (.own (.lst ((w0 n wr b).map .int))) s7 (.d (.int (lak n r wr b))) (.d (iL (fx n))) s10) := fun h => by
    have := last s7
    unfold w1 lk2 at this
    rw [if_neg h, if_neg h] at this
    exact this
  unfold ldE at *
  walk_at "wp"
  refine iteQ (fun c => ?_) fun c => noGo fun h => c h.1
  refine not_in_int ?_
  by_cases c2 : (n : Int) ∈ fx n
  · rw [decide_eq_true c2]
    walk_at "wp"
    exact noGo fun h => h.2.1 c2
  · rw [decide_eq_false c2]
    walk_at "wp"
    refine sum_at ?_
    walk_at "wp"
    refine iteQ (fun c3 => ⟨n - 1, by rw [w0_len, put_at (by omega)]; congr 1; omega, ?_⟩) fun c3 => noGo fun h => c3 h.2.2
    rw [S_law_data_r10_eq]
    walk_at "wp"
    have := last s7
    unfold w1 lk2 at this
    rw [if_pos ⟨c, c2, c3⟩, if_pos ⟨c, c2, c3⟩, List.map_set] at this
    exact this
end

section
theorem law_sum_L {w : List Int} {Q : Dt → Prop} {E : Xc → Prop} (hb : Bits w) (hl : w.length < 1000) (q : Q (.int (wsum 0 w))) : F_law_sum [.d (iL w)] Q E := by
  rw [F_law_sum_eq]; unfold S_law_sum
  walk_at "wp"
  refine ⟨by omega, ?_⟩
  refine lc_inv (fun i acc => ∃ ns : List Int, acc = ns.map .int ∧ ns.sum = wsum 0 (w.take i) ∧ ns.length ≤ i) ⟨[], rfl, rfl, Nat.le_refl _⟩ ?_ ?_
  · rintro i x _ K hx ⟨ns, rfl, e, hn⟩ hK
    obtain ⟨hi, rfl⟩ := rng_get hx
    have hi : i < w.length := by omega
    have st := wsum_take 0 i w hi
    walk_at "wp"
    refine ix_map (n := i) rfl hi ?_
    walk_at "wp"
    refine ⟨.inl (by omega), by omega, hK _ ⟨ns ++ [((i : Int) + 1) * w[i]], by rw [List.map_append]; rfl, ?_, by rw [List.length_append]; show _ + 1 ≤ _; omega⟩⟩
    rw [List.sum_append, st, e]; simp
  · rintro _ ⟨ns, rfl, e, hn⟩
    unfold dSum
    refine ⟨ns, rfl, ?_⟩
    rw [e, List.length_map, List.length_range, rg_toNat, List.take_length]; exact q
theorem law_data_r6 {n r : Nat} {wr : Bool} {b : List Int} {s7 s8 s9 s10 : Sl} {d : DEn} (h1 : 1 ≤ n) (hn : n ≤ 200) (hb : Bits b) (k : d.rt (iT (dwd n r wr b))) : S_law_data_r6 d (ldE n r wr b (.own (.lst ((w0 n wr b).map .int))) s7 s8 s9 s10) := by
  rw [S_law_data_r6_eq]
  have mp : (0 : Int) < (md n wr : Nat) := by unfold md; split <;> omega
  have l8 : ∀ s7 s10, S_law_data_r8 d (ldE n r wr b (.own (.lst ((w0 n wr b).map .int))) s7 (.d (.int (lak n r wr b))) (.d (iL (fx n))) s10) := fun s7 s10 => law_data_r8 h1 hn k
  unfold ldE at *
  walk_at "wp"
  refine law_sum_L (w0_bits hb) (by rw [w0_len]; omega) ?_
  walk_at "wp"
  refine ⟨mp, .inl ⟨_, rfl⟩, ?_⟩
  rw [S_law_data_r7_eq]
  walk_at "wp"
  refine law_doubling_ok h1 hn ?_
  walk_at "wp"
  exact l8 _ _
theorem law_data_r4 {n r : Nat} {wr : Bool} {b : List Int} {s7 s8 s9 s10 : Sl} {d : DEn} (h1 : 1 ≤ n) (hn : n ≤ 200) (hb : Bits b) (hl : b.length = (fre n wr).length) (k : d.rt (iT (dwd n r wr b))) : S_law_data_r4 d (ldE n r wr b (.own (.lst ((List.replicate n (0 : Int)).map .int))) s7 s8 s9 s10) := by
  have fl := fre_len (n := n) (wr := wr)
  rw [S_law_data_r4_eq]
  unfold ldE
  walk_at "wp"
  refine ⟨by omega, dFor_inv (fun i e => ∃ s7, e = ldE n r wr b (.own (.lst ((putAll (List.replicate n 0) ((fre n wr).take i) (b.take i)).map .int))) s7 s8 s9 s10) ⟨s7, rfl⟩ ?_ ?_⟩
  · rintro i x _ K B hx ⟨s7, rfl⟩ hK
    obtain ⟨hi3, rfl⟩ := rng_get hx
    have hi : i < (fre n wr).length := by omega
    have hi2 : i < b.length := by omega
    have g1 := List.getElem?_eq_getElem hi
    have g2 := List.getElem?_eq_getElem hi2
    have pm := fre_mem (List.getElem_mem hi)
    unfold ldE
    walk_at "wp"
    rw [S_law_data_b5_eq]
    walk_at "wp"
    refine ix_mget rfl g2 (ix_mget rfl g1 ?_)
    walk_at "wp"
    refine ⟨_, by rw [putAll_len, List.length_replicate]; exact put_at ⟨pm.1, pm.2.1⟩, hK _ ⟨.d (.int i), ?_⟩⟩
    rw [take_snoc g1, take_snoc g2, putAll_snoc _ _ _ _ _ (by rw [List.length_take, List.length_take]; omega), List.map_set]
  · rintro _ ⟨s7, rfl⟩
    rw [List.length_map, List.length_range, Int.toNat_natCast, List.take_length, ← hl, List.take_length]
    exact law_data_r6 h1 hn hb k
/-- the law's word -/
theorem law_data_ok {n r : Nat} {wr : Bool} {b : List Int} {Q : Dt → Prop} {E : Xc → Prop} (h1 : 1 ≤ n) (hn : n ≤ 200) (hb : Bits b) (hl : b.length = (fre n wr).length) (k : Q (iT (dwd n r wr b))) : F_law_data [.d (.int n), .d (.int r), .d (iL b), .d (.bl wr)] Q E := by
  rw [F_law_data_eq]; unfold S_law_data
  walk_at "wp"
  have go : S_law_data_r2 ⟨fun _ => Q .non, Q, fun _ => False, fun _ => False, fun _ _ => False⟩ [.d (.int n), .d (.int r), .d (iL b), .d (.bl wr), .d (.int (md n wr)), .no, .no, .no, .no, .no, .no] := by
    rw [S_law_data_r2_eq]
    walk_at "wp"
    refine law_free_ok h1 hn ?_
    rw [S_law_data_r3_eq]
    walk_at "wp"
    refine ⟨by omega, ?_⟩
    rw [show (List.replicate (n : Int).toNat [Dt.int 0]).flatten = (List.replicate n (0 : Int)).map Dt.int by rw [Int.toNat_natCast, List.flatten_replicate_singleton, List.map_replicate]]
    exact law_data_r4 h1 hn hb hl k
  cases wr with
  | true =>
    refine iteQ (fun _ => ⟨by unfold CMul; omega, ?_⟩) fun h => absurd rfl h
    have e : ((md n true : Nat) : Int) = 2 * (n : Int) := by unfold md; rw [if_pos rfl]; push_cast; rfl
    rw [e] at go
    exact go
  | false =>
    refine iteQ (fun h => by cases h) fun _ => ?_
    have e : ((md n false : Nat) : Int) = (n : Int) + 1 := by unfold md; rw [if_neg Bool.false_ne_true]; push_cast; rfl
    rw [e] at go
    exact go
end

section
theorem pws_sum : ∀ k : Nat, (pws k).sum = ((2 ^ k : Nat) : Int) - 1
  | 0 => rfl
  | k + 1 => by
    rw [pws_snoc, List.sum_append, pws_sum k, Nat.pow_succ]
    simp
    omega
theorem lgn_two {n : Nat} (h1 : 1 ≤ n) : n < 2 ^ lgn n := by
  rcases Nat.lt_or_ge n (2 ^ lgn n) with c | c
  · exact c
  · exact absurd ((lgn_iff h1).mp c) (Nat.lt_irrefl _)
theorem lak_lt {n r : Nat} {wr : Bool} {b : List Int} (h1 : 1 ≤ n) : 0 ≤ lak n r wr b ∧ lak n r wr b < (md n wr : Nat) := by
  have mp : (0 : Int) < (md n wr : Nat) := by unfold md; split <;> omega
  exact ⟨Int.emod_nonneg _ (by omega), Int.emod_lt_of_pos _ mp⟩
/-- the program asks of the sum alone -/
theorem big_iff {n r : Nat} {wr : Bool} {b : List Int} (h1 : 1 ≤ n) : (fx n).sum < lak n r wr b ↔ big n r wr b := by
  refine ⟨fun h => ?_, fun h => h.2.2⟩
  have l := lak_lt (n := n) (r := r) (wr := wr) (b := b) h1
  have t := lgn_two h1
  have s : (fx n).sum = ((2 ^ lgn n : Nat) : Int) - 1 := pws_sum _
  cases wr with
  | false =>
    have e : md n false = n + 1 := by unfold md; rw [if_neg Bool.false_ne_true]
    rw [e] at l
    omega
  | true =>
    have e : md n true = 2 * n := by unfold md; rw [if_pos rfl]
    rw [e] at l
    refine ⟨rfl, fun c => ?_, h⟩
    unfold fx pws at c
    obtain ⟨j, hj, ej⟩ := List.mem_map.mp c
    have hj := List.mem_range.mp hj
    have p : 2 ^ (j + 1) ≤ 2 ^ lgn n := Nat.pow_le_pow_right (by decide) hj
    rw [Nat.pow_succ] at p
    omega
theorem lk2_lt {n r : Nat} {wr : Bool} {b : List Int} (h1 : 1 ≤ n) : 0 ≤ lk2 n r wr b ∧ lk2 n r wr b < ((2 ^ lgn n : Nat) : Int) := by
  have l := lak_lt (n := n) (r := r) (wr := wr) (b := b) h1
  have t := lgn_two h1
  have s : (fx n).sum = ((2 ^ lgn n : Nat) : Int) - 1 := pws_sum _
  unfold lk2
  by_cases c : big n r wr b
  · rw [if_pos c]
    have g := c.2.2
    have e : md n wr = 2 * n := by unfold md; rw [if_pos c.1]
    rw [e] at l
    omega
  · rw [if_neg c]
    have g : ¬ (fx n).sum < lak n r wr b := fun h => c ((big_iff h1).mp h)
    omega
end

section
theorem same_len {α : Type} {xs ys : List α} (hx : xs.Nodup) (hy : ys.Nodup) (h : ∀ x, x ∈ xs ↔ x ∈ ys) : xs.length = ys.length :=
  ((List.perm_ext_iff_of_nodup hx hy).mpr h).length_eq
theorem map_nodup {α β : Type} {f : α → β} {xs : List α} (hx : xs.Nodup) (h : ∀ x ∈ xs, ∀ y ∈ xs, f x = f y → x = y) : (xs.map f).Nodup :=
  List.pairwise_map.mpr (List.Pairwise.imp_of_mem (fun {x y} hx hy hne e => hne (h x hx y hy e)) hx)
end

section
/-! ### the program's word is the law's -/
theorem putAll_ne : ∀ (ps bs w : List Int) (k : Nat), (∀ p ∈ ps, (p - 1).toNat ≠ k) → (putAll w ps bs)[k]? = w[k]?
  | [], bs, w, k, _ => by cases bs <;> rw [putAll]
  | p :: ps, [], w, k, _ => by rw [putAll]
  | p :: ps, b :: bs, w, k, h => by
    rw [putAll, putAll_ne ps bs _ k fun q hq => h q (List.mem_cons_of_mem _ hq), List.getElem?_set_ne (h p List.mem_cons_self)]
theorem set_same {α : Type} {w : List α} {k : Nat} {x : α} (h : w[k]? = some x) : w.set k x = w := by
  refine List.ext_getElem? fun j => ?_
  rw [List.getElem?_set]
  split
  · rename_i c
    subst c
    rw [h, if_pos (List.getElem?_eq_some_iff.mp h).1]
  · rfl
theorem pws_get {k i : Nat} {p : Int} (h : (pws k)[i]? = some p) : i < k ∧ p = ((2 ^ i : Nat) : Int) := by
  unfold pws at h
  rw [List.getElem?_map, Option.map_eq_some_iff] at h
  obtain ⟨j, h1, h2⟩ := h
  obtain ⟨hl, e⟩ := List.getElem?_eq_some_iff.mp h1
  rw [List.length_range] at hl
  rw [List.getElem_range] at e
  subst e
  exact ⟨hl, h2.symm⟩
theorem pws_inj {k i j : Nat} {p q : Int} (h : (pws k)[i]? = some p) (g : (pws k)[j]? = some q) (e : (p - 1).toNat = (q - 1).toNat) : i = j := by
  obtain ⟨_, rfl⟩ := pws_get h
  obtain ⟨_, rfl⟩ := pws_get g
  have a := Nat.one_le_two_pow (n := i)
  have b := Nat.one_le_two_pow (n := j)
  exact (Nat.pow_right_inj (by decide : 1 < 2)).mp (by omega : (2 : Nat) ^ i = 2 ^ j)
theorem zeros_put {ps bs : List Int} {n k : Nat} (h : ∀ p ∈ ps, (p - 1).toNat ≠ k) (hk : k < n) : (putAll (List.replicate n 0) ps bs)[k]? = some 0 := by
  rw [putAll_ne ps bs _ k h, List.getElem?_replicate, if_pos hk]
/-- at the fixed places stands 0 before the lacking number is written -/
theorem w1_fixed {n r : Nat} {wr : Bool} {b : List Int} {p : Int} (h1 : 1 ≤ n) (hp : p ∈ fx n) : (w1 n r wr b)[(p - 1).toNat]? = some 0 := by
  have pm := fx_mem h1 hp
  have z : (w0 n wr b)[(p - 1).toNat]? = some 0 := zeros_put (fun q hq e => by
    have qm := fre_mem hq
    have : q = p := by omega
    subst this
    exact qm.2.2 (by unfold fxw; exact List.mem_append_left _ hp)) (by omega)
  unfold w1
  split
  · rename_i c
    rw [List.getElem?_set_ne ?_]
    · exact z
    · intro e
      have : p = n := by omega
      exact c.2.1 (this ▸ hp)
  · exact z
theorem and_nat (m n : Nat) : Builtin.bitAnd (m : Int) (n : Int) = ((m &&& n : Nat) : Int) := by
  unfold Builtin.bitAnd
  have a : decide ((0 : Int) ≤ (m : Int)) = true := by simp
  have b : decide ((0 : Int) ≤ (n : Int)) = true := by simp
  rw [a, b]
  simp
theorem bit_at {L j : Nat} : Builtin.bitAnd (L : Int) ((2 ^ j : Nat) : Int) ≠ 0 ↔ L / 2 ^ j % 2 = 1 := by
  have t : L.testBit j = decide (L / 2 ^ j % 2 = 1) := Nat.testBit_eq_decide_div_mod_eq
  rw [and_nat]
  refine ⟨fun h => ?_, fun h e => ?_⟩
  · rcases Nat.mod_two_eq_zero_or_one (L / 2 ^ j) with c | c
    · refine absurd ?_ h
      have z : L &&& 2 ^ j = 0 := Nat.eq_of_testBit_eq fun i => by
        rw [Nat.testBit_and, Nat.testBit_two_pow, Nat.zero_testBit]
        by_cases e : j = i
        · subst e
          rw [t, c]; rfl
        · rw [decide_eq_false e, Bool.and_false]
      rw [z]; rfl
    · exact c
  · have z : L &&& 2 ^ j = 0 := by omega
    have q : (L &&& 2 ^ j).testBit j = true := by
      rw [Nat.testBit_and, Nat.testBit_two_pow, t, h]; simp
    rw [z, Nat.zero_testBit] at q
    cases q
theorem zip_ints {ps bs : List Int} {i : Nat} {x : Dt} (h : (List.zipWith (fun x y => Dt.tup [x, y]) (ps.map Dt.int) (bs.map Dt.int))[i]? = some x) : ∃ p b, ps[i]? = some p ∧ bs[i]? = some b ∧ x = .tup [.int p, .int b] := by
  rw [List.getElem?_zipWith, List.getElem?_map, List.getElem?_map] at h
  cases e1 : ps[i]? <;> cases e2 : bs[i]? <;> rw [e1, e2] at h <;> simp at h
  exact ⟨_, _, rfl, rfl, h.symm⟩
abbrev dwE (n r : Nat) (wr : Bool) (b : List Int) (s6 s7 s8 s9 s10 : Sl) : List Sl := [.d (.int n), .d (.int r), .d (iT b), .d (.bl wr), .d (iT (fre n wr)), .d (.int (md n wr)), s6, s7, s8, s9, s10]
theorem data_word_r14 {n r : Nat} {wr : Bool} {b : List Int} {s7 s8 : Sl} {d : DEn} (h1 : 1 ≤ n) (hn : n ≤ 200) (k : d.rt (iT (dwd n r wr b))) : S_data_word_r14 d (dwE n r wr b (.own (.lst ((w1 n r wr b).map .int))) s7 s8 (.d (.int (lk2 n r wr b))) (.d (iL (fx n)))) := by
  have lk := lk2_lt (n := n) (r := r) (wr := wr) (b := b) h1
  obtain ⟨L, hL⟩ : ∃ L : Nat, lk2 n r wr b = L := ⟨(lk2 n r wr b).toNat, by omega⟩
  rw [S_data_word_r14_eq]
  unfold dwE
  walk_at "wp"
  refine dFor_inv (fun i e => ∃ s7, e = dwE n r wr b (.own (.lst ((putAll (w1 n r wr b) ((fx n).take i) (((fx n).take i).map fun p => lk2 n r wr b / p % 2)).map .int))) s7 s8 (.d (.int (lk2 n r wr b))) (.d (iL (fx n)))) ⟨s7, rfl⟩ ?_ ?_
  · rintro i x _ K B hx ⟨s7, rfl⟩ hK
    obtain ⟨p, hp, rfl⟩ := map_get hx
    have pm := fx_mem h1 (List.mem_of_getElem? hp)
    have pg := pws_get (show (pws (lgn n))[i]? = some p from hp)
    have low : lk2 n r wr b / p % 2 = ((L / 2 ^ i % 2 : Nat) : Int) := by rw [hL, pg.2]; push_cast; rfl
    have st : putAll (w1 n r wr b) ((fx n).take (i + 1)) (((fx n).take (i + 1)).map fun p => lk2 n r wr b / p % 2) = (putAll (w1 n r wr b) ((fx n).take i) (((fx n).take i).map fun p => lk2 n r wr b / p % 2)).set (p - 1).toNat (lk2 n r wr b / p % 2) := by
      rw [take_snoc hp, List.map_append (l₁ := (fx n).take i), List.map_cons, List.map_nil, putAll_snoc _ _ _ _ _ (by rw [List.length_map])]
    have z : (putAll (w1 n r wr b) ((fx n).take i) (((fx n).take i).map fun p => lk2 n r wr b / p % 2))[(p - 1).toNat]? = some 0 := by
      rw [putAll_ne _ _ _ _ fun q hq e => ?_]
      · exact w1_fixed h1 (List.mem_of_getElem? hp)
      · obtain ⟨j, hj, hq⟩ := List.mem_take_iff_getElem.mp hq
        have hj2 : j < (fx n).length := by omega
        have := pws_inj (k := lgn n) (i := j) (j := i) (p := q) (q := p) (by rw [← hq]; exact List.getElem?_eq_getElem hj2) hp e
        omega
    unfold dwE
    walk_at "wp"
    rw [S_data_word_b15_eq]
    walk_at "wp"
    refine iteQ (fun c => ?_) fun c => ?_
    · have c2 : L / 2 ^ i % 2 = 1 := bit_at.mp (by rw [← hL, ← pg.2]; simpa using c)
      refine ⟨(p - 1).toNat, by rw [putAll_len, w1_len]; exact put_at pm, hK _ ⟨.d (.int p), ?_⟩⟩
      rw [st, low, c2, List.map_set]; rfl
    · have c2 : ¬ L / 2 ^ i % 2 = 1 := fun h => by have := bit_at.mpr h; rw [← hL, ← pg.2] at this; exact absurd (by simpa using this) c
      refine hK _ ⟨.d (.int p), ?_⟩
      rw [st, low, show ((L / 2 ^ i % 2 : Nat) : Int) = 0 by omega, set_same z]
  · rintro _ ⟨s7, rfl⟩
    rw [List.length_map, List.take_length, S_data_word_r17_eq]
    unfold dwE
    walk_at "wp"
    exact k
theorem data_word_r11 {n r : Nat} {wr : Bool} {b : List Int} {s7 s8 : Sl} {d : DEn} (h1 : 1 ≤ n) (hn : n ≤ 200) (k : d.rt (iT (dwd n r wr b))) : S_data_word_r11 d (dwE n r wr b (.own (.lst ((w0 n wr b).map .int))) s7 s8 (.d (.int (lak n r wr b))) (.d (iL (fx n)))) := by
  rw [S_data_word_r11_eq]
  have last := data_word_r14 (s7 := s7) (s8 := s8) (d := d) h1 hn k
  unfold dwE at *
  walk_at "wp"
  refine sum_at ?_
  walk_at "wp"
  refine iteQ (fun c => ?_) fun c => ?_
  · have g : big n r wr b := (big_iff h1).mp c
    refine ⟨n - 1, by rw [w0_len, put_at (by omega)]; congr 1; omega, ?_⟩
    rw [S_data_word_r13_eq]
    walk_at "wp"
    unfold w1 lk2 at last
    rw [if_pos g, if_pos g, List.map_set] at last
    exact last
  · have g : ¬ big n r wr b := fun h => c ((big_iff h1).mpr h)
    unfold w1 lk2 at last
    rw [if_neg g, if_neg g] at last
    exact last
theorem place_sumL {w : List Int} {Q : Dt → Prop} {E : Xc → Prop} (hb : Bits w) (hl : w.length ≤ 201) (q : Q (.int (wsum 0 w))) : F_place_sum [.d (iL w)] Q E := by
  refine place_sum_ok (kn_iL w) (fun v e _ _ => ?_) fun i h => by rw [show badWord 2 201 (iL w) = none from (badWord_bits hb hl).2] at h; cases h
  have : w = v := dts_inj2 e
  subst this
  exact q
theorem data_word_r7 {n r : Nat} {wr : Bool} {b : List Int} {s7 s8 s9 s10 : Sl} {d : DEn} (h1 : 1 ≤ n) (hn : n ≤ 200) (hb : Bits b) (hl : b.length = (fre n wr).length) (k : d.rt (iT (dwd n r wr b))) : S_data_word_r7 d (dwE n r wr b (.own (.lst ((List.replicate n (0 : Int)).map .int))) s7 s8 s9 s10) := by
  have mp : (0 : Int) < (md n wr : Nat) := by unfold md; split <;> omega
  rw [S_data_word_r7_eq]
  unfold dwE
  walk_at "wp"
  refine ⟨hl.symm, dFor_inv (fun i e => ∃ s7 s8, e = dwE n r wr b (.own (.lst ((putAll (List.replicate n 0) ((fre n wr).take i) (b.take i)).map .int))) s7 s8 s9 s10) ⟨s7, s8, rfl⟩ ?_ ?_⟩
  · rintro i x _ K B hx ⟨s7, s8, rfl⟩ hK
    obtain ⟨p, c, g1, g2, rfl⟩ := zip_ints hx
    have pm := fre_mem (List.mem_of_getElem? g1)
    unfold dwE
    walk_at "wp"
    rw [S_data_word_b8_eq]
    walk_at "wp"
    refine ⟨_, by rw [putAll_len, List.length_replicate]; exact put_at ⟨pm.1, pm.2.1⟩, hK _ ⟨.d (.int p), .d (.int c), ?_⟩⟩
    have l1 := (List.getElem?_eq_some_iff.mp g1).1
    have l2 := (List.getElem?_eq_some_iff.mp g2).1
    rw [take_snoc g1, take_snoc g2, putAll_snoc _ _ _ _ _ (by rw [List.length_take, List.length_take]; omega), List.map_set]
  · rintro _ ⟨s7, s8, rfl⟩
    rw [List.length_zipWith, List.length_map, List.length_map, hl, Nat.min_self, List.take_length, ← hl, List.take_length, S_data_word_r9_eq]
    unfold dwE
    walk_at "wp"
    refine place_sumL (w0_bits (n := n) (wr := wr) hb) (by show (w0 n wr b).length ≤ 201; rw [w0_len]; omega) ?_
    walk_at "wp"
    refine ⟨mp, .inl ⟨_, rfl⟩, ?_⟩
    rw [S_data_word_r10_eq]
    walk_at "wp"
    refine fixed_places_ok h1 hn ?_
    walk_at "wp"
    exact data_word_r11 h1 hn k
/-- the program's word -/
theorem data_word_ok {n r : Nat} {wr : Bool} {a : Dt} {b : List Int} {Q : Dt → Prop} {E : Xc → Prop} (h1 : 1 ≤ n) (hn : n ≤ 200) (hr : r < md n wr) (ha : a = iT b ∨ a = iL b) (hb : Bits b) (hl : b.length = (fre n wr).length) (k : Q (iT (dwd n r wr b))) : F_data_word [.d (.int n), .d (.int r), .d a, .d (.bl wr)] Q E := by
  have fl := fre_len (n := n) (wr := wr)
  rw [F_data_word_eq]; unfold S_data_word
  walk_at "wp"
  refine free_places_ok h1 hn ?_
  rw [S_data_word_r2_eq]
  walk_at "wp"
  have go : S_data_word_r3 ⟨fun _ => Q .non, Q, fun _ => False, fun _ => False, fun _ x => E x⟩ [.d (.int n), .d (.int r), .d a, .d (.bl wr), .d (iT (fre n wr)), .d (.int (md n wr)), .no, .no, .no, .no, .no] := by
    rw [S_data_word_r3_eq]
    walk_at "wp"
    refine is_whole_ok rfl ?_
    rw [inB_int (by omega) (by omega)]
    walk_at "wp"
    rw [S_data_word_r5_eq]
    walk_at "wp"
    refine check_bits_ok ha hb hl (by omega) ?_
    rw [S_data_word_r6_eq]
    walk_at "wp"
    refine ⟨by omega, ?_⟩
    rw [show (List.replicate (n : Int).toNat [Dt.int 0]).flatten = (List.replicate n (0 : Int)).map Dt.int by rw [Int.toNat_natCast, List.flatten_replicate_singleton, List.map_replicate]]
    exact data_word_r7 h1 hn hb hl k
  cases wr with
  | true =>
    refine iteQ (fun _ => ⟨by unfold CMul; omega, ?_⟩) fun h => absurd rfl h
    have e : ((md n true : Nat) : Int) = 2 * (n : Int) := by unfold md; rw [if_pos rfl]; push_cast; rfl
    rw [e] at go
    exact go
  | false =>
    refine iteQ (fun h => by cases h) fun _ => ?_
    have e : ((md n false : Nat) : Int) = (n : Int) + 1 := by unfold md; rw [if_neg Bool.false_ne_true]; push_cast; rfl
    rw [e] at go
    exact go
end

section
/-! ### its sum, its letters -/
theorem wsum_set : ∀ (o k : Nat) (w : List Int) (x : Int), w[k]? = some 0 → wsum o (w.set k x) = wsum o w + ((o : Int) + k + 1) * x
  | o, k, [], x, h => by simp at h
  | o, 0, c :: w, x, h => by
    have h : c = 0 := by simpa using h
    subst h
    show ((o : Int) + 1) * x + wsum (o + 1) w = ((o : Int) + 1) * 0 + wsum (o + 1) w + ((o : Int) + ((0 : Nat) : Int) + 1) * x
    rw [show (o : Int) + ((0 : Nat) : Int) + 1 = (o : Int) + 1 by omega]
    omega
  | o, k + 1, c :: w, x, h => by
    show ((o : Int) + 1) * c + wsum (o + 1) (w.set k x) = ((o : Int) + 1) * c + wsum (o + 1) w + ((o : Int) + ((k + 1 : Nat) : Int) + 1) * x
    rw [wsum_set (o + 1) k w x (by simpa using h), show ((o + 1 : Nat) : Int) + (k : Int) + 1 = (o : Int) + ((k + 1 : Nat) : Int) + 1 by omega]
    omega
def ixs (ps : List Int) : List Nat := ps.map fun p => (p - 1).toNat
theorem putAll_sum : ∀ (ps bs w : List Int), ps.length = bs.length → (∀ p ∈ ps, 1 ≤ p ∧ w[(p - 1).toNat]? = some 0) → (ixs ps).Nodup → wsum 0 (putAll w ps bs) = wsum 0 w + (List.zipWith (· * ·) ps bs).sum
  | [], [], w, _, _, _ => by rw [putAll]; simp
  | p :: ps, b :: bs, w, hl, h, nd => by
    unfold ixs at nd
    rw [List.map_cons, List.nodup_cons] at nd
    have hp := h p List.mem_cons_self
    have h2 : ∀ q ∈ ps, 1 ≤ q ∧ (w.set (p - 1).toNat b)[(q - 1).toNat]? = some 0 := fun q hq => by
      refine ⟨(h q (List.mem_cons_of_mem _ hq)).1, ?_⟩
      have ne : (p - 1).toNat ≠ (q - 1).toNat := fun e => nd.1 (List.mem_map.mpr ⟨q, hq, e.symm⟩)
      rw [List.getElem?_set_ne ne]
      exact (h q (List.mem_cons_of_mem _ hq)).2
    rw [putAll, putAll_sum ps bs _ (by simpa using hl) h2 nd.2, wsum_set 0 _ _ _ hp.2, List.zipWith_cons_cons, List.sum_cons, show ((0 : Nat) : Int) + ((p - 1).toNat : Int) + 1 = p by omega]
    omega
theorem zip_own (f : Int → Int) : ∀ ps : List Int, List.zipWith (· * ·) ps (ps.map f) = ps.map fun p => p * f p
  | [] => rfl
  | p :: ps => by rw [List.map_cons, List.zipWith_cons_cons, zip_own f ps, List.map_cons]
theorem pws_bits (L : Nat) : ∀ k, ((pws k).map fun p => p * ((L : Int) / p % 2)).sum = ((L % 2 ^ k : Nat) : Int)
  | 0 => by rw [Nat.pow_zero, Nat.mod_one]; rfl
  | k + 1 => by
    have e : ((2 ^ k : Nat) : Int) * ((L : Int) / ((2 ^ k : Nat) : Int) % 2) = ((2 ^ k * (L / 2 ^ k % 2) : Nat) : Int) := by push_cast; rfl
    rw [pws_snoc, List.map_append, List.sum_append, pws_bits L k, Nat.mod_pow_succ, List.map_cons, List.map_nil, List.sum_cons, List.sum_nil, e]
    push_cast; omega
theorem fx_nodup (n : Nat) : (ixs (fx n)).Nodup := by
  unfold ixs fx pws
  rw [List.map_map]
  refine map_nodup List.nodup_range fun i _ j _ e => ?_
  have e : (((2 ^ i : Nat) : Int) - 1).toNat = (((2 ^ j : Nat) : Int) - 1).toNat := e
  have a := Nat.one_le_two_pow (n := i)
  have b := Nat.one_le_two_pow (n := j)
  exact (Nat.pow_right_inj (by decide : 1 < 2)).mp (by omega : (2 : Nat) ^ i = 2 ^ j)
theorem fre_nodup (n : Nat) (wr : Bool) : (ixs (fre n wr)).Nodup := by
  unfold ixs fre
  rw [List.map_map]
  refine map_nodup (List.nodup_range.filter _) fun i _ j _ e => ?_
  have e : ((1 : Int) + (i : Nat) - 1).toNat = ((1 : Int) + (j : Nat) - 1).toNat := e
  omega
theorem fxw_last {n : Nat} : (n : Int) ∈ fxw n true := by
  unfold fxw
  rw [if_pos rfl]
  exact List.mem_append_right _ (List.mem_singleton.mpr rfl)
theorem w1_sum {n r : Nat} {wr : Bool} {b : List Int} (h1 : 1 ≤ n) : wsum 0 (w1 n r wr b) + lk2 n r wr b = wsum 0 (w0 n wr b) + lak n r wr b := by
  unfold w1 lk2
  by_cases c : big n r wr b
  · have z : (w0 n wr b)[n - 1]? = some 0 := zeros_put (fun q hq e => by
      have qm := fre_mem hq
      have : q = n := by omega
      subst this
      rw [c.1] at qm
      exact qm.2.2 fxw_last) (by omega)
    rw [if_pos c, if_pos c, wsum_set 0 (n - 1) _ _ z, show ((0 : Nat) : Int) + ((n - 1 : Nat) : Int) + 1 = n by omega]
    omega
  · rw [if_neg c, if_neg c]
theorem dwd_sum {n r : Nat} {wr : Bool} {b : List Int} (h1 : 1 ≤ n) (hr : r < md n wr) : wsum 0 (dwd n r wr b) % (md n wr : Nat) = r := by
  have lk := lk2_lt (n := n) (r := r) (wr := wr) (b := b) h1
  obtain ⟨L, hL⟩ : ∃ L : Nat, lk2 n r wr b = L := ⟨(lk2 n r wr b).toNat, by omega⟩
  have e := w1_sum (n := n) (r := r) (wr := wr) (b := b) h1
  unfold dwd
  rw [putAll_sum _ _ _ (by rw [List.length_map]) (fun p hp => ⟨(fx_mem h1 hp).1, w1_fixed h1 hp⟩) (fx_nodup n), zip_own, hL]
  rw [hL] at lk e
  rw [show ((fx n).map fun p => p * ((L : Int) / p % 2)).sum = ((L % 2 ^ lgn n : Nat) : Int) from pws_bits L _, Nat.mod_eq_of_lt (by omega), e]
  unfold lak
  rw [Int.add_emod_emod, show wsum 0 (w0 n wr b) + ((r : Int) - wsum 0 (w0 n wr b)) = r by omega]
  exact Int.emod_eq_of_lt (by omega) (by omega)
theorem dwd_len {n r : Nat} {wr : Bool} {b : List Int} : (dwd n r wr b).length = n := by unfold dwd; rw [putAll_len, w1_len]
theorem dwd_bits {n r : Nat} {wr : Bool} {b : List Int} (hb : Bits b) : Bits (dwd n r wr b) := fun x hx => by
  rcases mem_putAll _ _ _ x hx with h | h
  · unfold w1 at h
    split at h
    · rcases List.mem_or_eq_of_mem_set h with g | g
      · exact w0_bits hb x g
      · exact .inr g
    · exact w0_bits hb x h
  · obtain ⟨p, _, rfl⟩ := List.mem_map.mp h
    omega
theorem putAll_get : ∀ (ps bs w : List Int) (i : Nat) (p b : Int), (ixs ps).Nodup → ps[i]? = some p → bs[i]? = some b → (p - 1).toNat < w.length → (putAll w ps bs)[(p - 1).toNat]? = some b
  | [], bs, w, i, p, b, nd, e, _, _ => by simp at e
  | p :: ps, [], w, i, _, b, nd, _, e, _ => by simp at e
  | q :: ps, c :: bs, w, 0, p, b, nd, e1, e2, h => by
    have e1 : q = p := by simpa using e1
    have e2 : c = b := by simpa using e2
    subst e1; subst e2
    unfold ixs at nd
    rw [List.map_cons, List.nodup_cons] at nd
    have ne : ∀ r ∈ ps, (r - 1).toNat ≠ (q - 1).toNat := fun r hr e => nd.1 (List.mem_map.mpr ⟨r, hr, e⟩)
    rw [putAll, putAll_ne ps bs _ _ ne, List.getElem?_set_self h]
  | q :: ps, c :: bs, w, i + 1, p, b, nd, e1, e2, h => by
    unfold ixs at nd
    rw [List.map_cons, List.nodup_cons] at nd
    rw [putAll]
    exact putAll_get ps bs _ i p b nd.2 (by simpa using e1) (by simpa using e2) (by rw [List.length_set]; exact h)
theorem dwd_at {n r : Nat} {wr : Bool} {b : List Int} {i : Nat} {p c : Int} (h1 : 1 ≤ n) (hp : (fre n wr)[i]? = some p) (hc : b[i]? = some c) : (dwd n r wr b)[(p - 1).toNat]? = some c := by
  have pm := fre_mem (List.mem_of_getElem? hp)
  have z : (w0 n wr b)[(p - 1).toNat]? = some c := putAll_get _ _ _ i p c (fre_nodup n wr) hp hc (by rw [List.length_replicate]; omega)
  unfold dwd
  rw [putAll_ne _ _ _ _ fun q hq e => ?_]
  · unfold w1
    split
    · rename_i g
      rw [List.getElem?_set_ne ?_]
      · exact z
      · intro e
        have : p = n := by omega
        subst this
        rw [g.1] at pm
        exact pm.2.2 fxw_last
    · exact z
  · have qm := fx_mem h1 hq
    have : q = p := by omega
    subst this
    exact pm.2.2 (by unfold fxw; exact List.mem_append_left _ hq)
/-- the letters at the free places -/
def rd (w : List Int) (n : Nat) (wr : Bool) : List Int := (fre n wr).map fun p => (w[(p - 1).toNat]?).getD 0
theorem dwd_read {n r : Nat} {wr : Bool} {b : List Int} (h1 : 1 ≤ n) (hl : b.length = (fre n wr).length) : rd (dwd n r wr b) n wr = b := by
  refine List.ext_getElem? fun i => ?_
  unfold rd
  rw [List.getElem?_map]
  cases hp : (fre n wr)[i]? with
  | none =>
    rw [List.getElem?_eq_none_iff] at hp
    rw [List.getElem?_eq_none (by omega : b.length ≤ i)]; rfl
  | some p =>
    have hi := (List.getElem?_eq_some_iff.mp hp).1
    have hc := List.getElem?_eq_getElem (show i < b.length by omega)
    rw [hc]
    show some ((dwd n r wr b)[(p - 1).toNat]?.getD 0) = some b[i]
    rw [dwd_at h1 hp hc]; rfl
/-! ### bits of a number -/
def bts : Nat → Nat → List Int
  | 0, _ => []
  | m + 1, a => ((a % 2 : Nat) : Int) :: bts m (a / 2)
theorem bts_len : ∀ m a, (bts m a).length = m
  | 0, _ => rfl
  | m + 1, a => by show (bts m (a / 2)).length + 1 = _; rw [bts_len]
theorem bts_bits : ∀ m a, Bits (bts m a)
  | 0, _ => fun x h => by cases h
  | m + 1, a => fun x h => by
    rcases List.mem_cons.mp h with rfl | h
    · omega
    · exact bts_bits m _ x h
theorem bts_snoc : ∀ m a, bts (m + 1) a = bts m a ++ [((a / 2 ^ m % 2 : Nat) : Int)]
  | 0, a => by rw [Nat.pow_zero, Nat.div_one]; rfl
  | m + 1, a => by
    show ((a % 2 : Nat) : Int) :: bts (m + 1) (a / 2) = ((a % 2 : Nat) : Int) :: (bts m (a / 2) ++ _)
    rw [bts_snoc m (a / 2), Nat.div_div_eq_div_mul, Nat.pow_succ, Nat.mul_comm 2]
theorem bts_inj : ∀ m a b, a < 2 ^ m → b < 2 ^ m → bts m a = bts m b → a = b
  | 0, a, b, ha, hb, _ => by rw [Nat.pow_zero] at ha hb; omega
  | m + 1, a, b, ha, hb, e => by
    have e : ((a % 2 : Nat) : Int) :: bts m (a / 2) = ((b % 2 : Nat) : Int) :: bts m (b / 2) := e
    injection e with e1 e2
    rw [Nat.pow_succ] at ha hb
    have := bts_inj m (a / 2) (b / 2) (by omega) (by omega) e2
    omega
theorem law_bits_at {m a : Nat} {Q : Dt → Prop} {E : Xc → Prop} (hm : m ≤ 1000) (k : Q (iL (bts m a))) : F_law_bits [.d (.int a), .d (.int m)] Q E := by
  rw [F_law_bits_eq]; unfold S_law_bits
  walk_at "wp"
  refine ⟨by omega, dFor_inv (fun i e => ∃ s3 : Sl, e = [.d (.int (a / 2 ^ i : Nat)), .d (.int m), .own (.lst ((bts i a).map .int)), s3]) ⟨_, by rw [Nat.pow_zero, Nat.div_one]; rfl⟩ ?_ ?_⟩
  · rintro i x _ K B hx ⟨s3, rfl⟩ hK
    obtain ⟨hi3, rfl⟩ := rng_get hx
    walk_at "wp"
    refine ⟨by rw [bts_len]; omega, by unfold CDiv; omega, hK _ ⟨.d (.int i), ?_⟩⟩
    rw [bts_snoc, List.map_append, Nat.pow_succ, ← Nat.div_div_eq_div_mul]
    push_cast; rfl
  · rintro _ ⟨s3, rfl⟩
    rw [List.length_map, List.length_range, Int.toNat_natCast]
    walk_at "wp"
    exact k
end

section
/-! ### the same through and through; the letters read back -/
theorem exactL_int {i : Int} {m : Nat} {Q : Dt → Prop} {E : Xc → Prop} (k : Q (.bl true)) : F_law_exact (m + 1) [.d (.int i), .d (.int i)] Q E := by
  rw [F_law_exact_s]; unfold S_law_exact
  walk_at "wp"
  exact k
theorem exactL_bl {b : Bool} {m : Nat} {Q : Dt → Prop} {E : Xc → Prop} (k : Q (.bl true)) : F_law_exact (m + 1) [.d (.bl b), .d (.bl b)] Q E := by
  rw [F_law_exact_s]; unfold S_law_exact
  walk_at "wp"
  exact dEq_self (shN_bl b).sh k
theorem exactL_row {w : List Int} {a : Dt} {m : Nat} {Q : Dt → Prop} {E : Xc → Prop} (ha : a = iT w ∨ a = iL w) (hl : w.length ≤ 10000) (k : Q (.bl true)) : F_law_exact (m + 2) [.d (iT w), .d a] Q E := by
  rw [F_law_exact_s]; unfold S_law_exact
  have fin : ∀ (a : Dt), a = iT w ∨ a = iL w → lcGo (gD 2) eYes (eCall0 (F_law_exact (m + 1)) [] (eConsS (eOp dIx (eVarB 0) (eVarB 2)) (eConsS (eOp dIx (eVarB 1) (eVarB 2)) eNil))) [.d (iT w), .d a, .no] (fun d => dAll [d] Q) ((List.range w.length).map fun i : Nat => Dt.int (i : Nat)) [] := fun a ha => by
    refine lc_map (fun i : Nat => Dt.int (i : Nat)) (fun _ => Dt.bl true) (fun i hi K1 h1 => ?_) (by rw [List.length_range]; omega) ?_
    · have hi := List.mem_range.mp hi
      have g := List.getElem?_eq_getElem hi
      rcases ha with rfl | rfl
      · walk_at "wp"
        exact ix_mget rfl g (ix_mget rfl g (exactL_int h1))
      · walk_at "wp"
        exact ix_mget rfl g (ix_mget rfl g (exactL_int h1))
    · unfold dAll
      refine ⟨(List.range w.length).map fun _ => true, by rw [List.map_map]; rfl, ?_⟩
      rw [show ((List.range w.length).map fun _ => true).all id = true by simp]
      exact k
  rcases ha with rfl | rfl
  · walk_at "wp"
    exact ⟨by omega, fin _ (.inl rfl)⟩
  · walk_at "wp"
    exact ⟨by omega, fin _ (.inr rfl)⟩
theorem fre_bound {n : Nat} {wr : Bool} {p : Int} (h : p ∈ fre n wr) : (p - 1).toNat < n ∧ p - 1 = ((p - 1).toNat : Nat) := by
  have := fre_mem h
  omega
theorem rd_len {w : List Int} {n : Nat} {wr : Bool} : (rd w n wr).length ≤ n := by
  unfold rd
  rw [List.length_map]
  exact fre_len
theorem data_of_ok {a : Dt} {w : List Int} {n : Nat} {wr : Bool} {Q : Dt → Prop} {E : Xc → Prop} (ha : a = iT w ∨ a = iL w) (hb : Bits w) (hl : w.length = n) (h1 : 1 ≤ n) (hn : n ≤ 200) (k : Q (iT (rd w n wr))) : F_data_of [.d a, .d (.bl wr)] Q E := by
  have fl := fre_len (n := n) (wr := wr)
  have kn : Kn a := by rcases ha with rfl | rfl <;> first | exact kn_iT w | exact kn_iL w
  have it : itemsOf a = w.map .int := by rcases ha with rfl | rfl <;> rfl
  have ok : badWord 2 200 a = none := by rcases ha with rfl | rfl <;> first | exact (badWord_bits hb (by omega)).1 | exact (badWord_bits hb (by omega)).2
  rw [F_data_of_eq]; unfold S_data_of
  walk_at "wp"
  refine check_word_ok (q := 2) (m := 200) kn.1 kn.2 (fun _ => ?_) fun i h => by rw [ok] at h; cases h
  rw [it]
  walk_at "wp"
  have ne : (w.map Dt.int).isEmpty = false := by
    cases w with
    | nil => rw [List.length_nil] at hl; omega
    | cons x w => rfl
  rw [ne]
  walk_at "wp"
  rw [hl]
  refine free_places_ok h1 hn ?_
  walk_at "wp"
  refine lc_map (e := Dt.int) (fun p => Dt.int ((w[(p - 1).toNat]?).getD 0)) (fun p hp K1 h1 => ?_) (by omega) ?_
  · have pb := fre_bound hp
    walk_at "wp"
    have g := List.getElem?_eq_getElem (l := w) (i := (p - 1).toNat) (by omega)
    rw [g] at h1
    exact ix_mget pb.2 g h1
  · walk_at "wp"
    unfold rd at k
    rw [iT, List.map_map] at k
    exact k
end

section
local macro_rules | `(tactic| walk_at "fl") => `(tactic| try simp only [wb, bk, look_WrongBook_has, look_SumBook_has, ftab_WrongBook_length, look_WrongBook_length, true_and, Option.some.injEq, exists_eq_left'])
/-! ### one data word -/
theorem law_word_holds_ok {n r : Nat} {wr : Bool} {b : List Int} {Q : Dt → Prop} {E : Xc → Prop} (h1 : 1 ≤ n) (hn : n ≤ 200) (hr : r < md n wr) (hb : Bits b) (hl : b.length = (fre n wr).length) (k : Q (.bl true)) : F_law_word_holds [.hand, .d (.int n), .d (.int r), .d (iL b), .d (.bl wr)] Q E := by
  have fl := fre_len (n := n) (wr := wr)
  have ld := dwd_len (n := n) (r := r) (wr := wr) (b := b)
  have bd := dwd_bits (n := n) (r := r) (wr := wr) hb
  have sm := dwd_sum (n := n) (r := r) (wr := wr) (b := b) h1 hr
  rw [F_law_word_holds_eq]; unfold S_law_word_holds
  walk_at "wp"
  refine law_either_ok fun a ha => ?_
  rw [S_law_word_holds_r2_eq]
  walk_at "wp"
  refine law_data_ok h1 hn hb hl ?_
  rw [S_law_word_holds_r3_eq]
  walk_at "wp"
  refine data_word_ok h1 hn hr ha hb hl ?_
  rw [S_law_word_holds_r4_eq]
  walk_at "wp"
  refine exactL_row (.inl rfl) (by omega) ?_
  walk_at "wp"
  have r6 : S_law_word_holds_r6 ⟨fun _ => Q .non, Q, fun _ => False, fun _ => False, fun _ _ => False⟩ [.hand, .d (.int n), .d (.int r), .d (iL b), .d (.bl wr), .d a, .d (iT (dwd n r wr b)), .d (iT (dwd n r wr b)), .no] := by
    rw [S_law_word_holds_r6_eq]
    walk_at "wp"
    have r8 : S_law_word_holds_r8 ⟨fun _ => Q .non, Q, fun _ => False, fun _ => False, fun _ _ => False⟩ [.hand, .d (.int n), .d (.int r), .d (iL b), .d (.bl wr), .d a, .d (iT (dwd n r wr b)), .d (iT (dwd n r wr b)), .no] := by
      rw [S_law_word_holds_r8_eq]
      walk_at "wp"
      refine law_sum_ok bd (by omega) ?_
      walk_at "wp"
      have r10 : S_law_word_holds_r10 ⟨fun _ => Q .non, Q, fun _ => False, fun _ => False, fun _ _ => False⟩ [.hand, .d (.int n), .d (.int r), .d (iL b), .d (.bl wr), .d a, .d (iT (dwd n r wr b)), .d (iT (dwd n r wr b)), .no] := by
        rw [S_law_word_holds_r10_eq]
        walk_at "wp"
        have r14 : S_law_word_holds_r14 ⟨fun _ => Q .non, Q, fun _ => False, fun _ => False, fun _ _ => False⟩ [.hand, .d (.int n), .d (.int r), .d (iL b), .d (.bl wr), .d a, .d (iT (dwd n r wr b)), .d (iT (dwd n r wr b)), .no] := by
          rw [S_law_word_holds_r14_eq]
          walk_at "wp"
          refine law_either_T fun a2 ha2 => ?_
          walk_at "wp"
          refine data_of_ok ha2 bd ld h1 hn ?_
          rw [dwd_read h1 hl, S_law_word_holds_r15_eq]
          walk_at "wp"
          refine exactL_row (.inr rfl) (by omega) ?_
          walk_at "wp"
          cases wr with
          | true => walk_at "wp"; exact k
          | false =>
            walk_at "wp"
            refine data_of_ok (.inl rfl) bd ld h1 hn ?_
            rw [dwd_read h1 hl]
            exact exactL_row (.inr rfl) (by omega) k
        cases wr with
        | true =>
          have em : md n true = 2 * n := by unfold md; rw [if_pos rfl]
          rw [em] at hr sm
          have r12 : S_law_word_holds_r12 ⟨fun _ => Q .non, Q, fun _ => False, fun _ => False, fun _ _ => False⟩ [.hand, .d (.int n), .d (.int r), .d (iL b), .d (.bl true), .d a, .d (iT (dwd n r true b)), .d (iT (dwd n r true b)), .no] := by
            rw [S_law_word_holds_r12_eq]
            walk_at "wp"
            exact r14
          walk_at "wp"
          refine iteQ (fun c => ?_) fun c => r12
          have c : n ≤ 60 := by omega
          refine wmake_ok h1 c hr ?_
          walk_at "wp"
          walk_at "fl"
          refine whas_ok (n := n) (r := r) bd (by omega) h1 ?_
          rw [decide_eq_true ld, decide_eq_true (show wsum 0 (dwd n r true b) % (2 * (n : Int)) = r by rw [← sm]; push_cast; rfl)]
          refine exactL_bl ?_
          walk_at "wp"
          exact r12
        | false =>
          have em : md n false = n + 1 := by unfold md; rw [if_neg Bool.false_ne_true]
          rw [em] at hr sm
          walk_at "wp"
          rw [S_law_word_holds_r12_eq]
          walk_at "wp"
          refine make_ok (n := (n : Int)) (m := (n : Int) + 1) (r := (r : Int)) (by omega) (by omega) (by omega) (by omega) (by omega) (by omega) ?_
          walk_at "wp"
          walk_at "fl"
          refine has_ok (n := (n : Int)) (m := (n : Int) + 1) (r := (r : Int)) bd (by omega) (by omega) ?_
          rw [decide_eq_true (show ((dwd n r false b).length : Int) = n by rw [ld]), decide_eq_true (show wsum 0 (dwd n r false b) % ((n : Int) + 1) = r by rw [← sm]; push_cast; rfl)]
          refine exactL_bl ?_
          walk_at "wp"
          exact r14
      cases wr with
      | true =>
        have em : md n true = 2 * n := by unfold md; rw [if_pos rfl]
        rw [em] at sm
        have e : wsum 0 (dwd n r true b) % (2 * (n : Int)) = r := by rw [← sm]; push_cast; rfl
        walk_at "wp"
        refine ⟨by unfold CMul; omega, by omega, ?_⟩
        rw [if_neg fun h => h e]
        exact r10
      | false =>
        have em : md n false = n + 1 := by unfold md; rw [if_neg Bool.false_ne_true]
        rw [em] at sm
        have e : wsum 0 (dwd n r false b) % ((n : Int) + 1) = r := by rw [← sm]; push_cast; rfl
        walk_at "wp"
        refine ⟨by omega, ?_⟩
        rw [if_neg fun h => h e]
        exact r10
    cases wr with
    | true => walk_at "wp"; exact r8
    | false =>
      walk_at "wp"
      refine data_word_ok h1 hn hr ha hb hl ?_
      refine exactL_row (.inl rfl) (by omega) ?_
      walk_at "wp"
      exact r8
  rcases ha with rfl | rfl
  · walk_at "wp"
    refine dNe_self (eqE_L.sh b).sh ?_
    walk_at "wp"
    exact r6
  · walk_at "wp"
    refine dNe_self (eqE_L.sh b).sh ?_
    walk_at "wp"
    exact r6
end

section
theorem nodup_len {α : Type} [DecidableEq α] : ∀ {xs ys : List α}, xs.Nodup → (∀ x ∈ xs, x ∈ ys) → xs.length ≤ ys.length
  | [], ys, _, _ => Nat.zero_le _
  | x :: xs, ys, h, s => by
    obtain ⟨h1, h2⟩ := List.nodup_cons.mp h
    have hx := s x List.mem_cons_self
    have := nodup_len (xs := xs) (ys := ys.erase x) h2 fun y hy => (List.mem_erase_of_ne (a := y) (b := x) fun e => h1 (by rw [← e]; exact hy)).mpr (s y (List.mem_cons_of_mem _ hy))
    rw [List.length_erase_of_mem hx] at this
    have := List.length_pos_of_mem hx
    rw [List.length_cons]; omega
end

section
theorem few_of {ws : List (List Int)} {n : Nat} (h : ws.length < n) : Few n ws := fun us nd hs => Nat.lt_of_le_of_lt (nodup_len nd hs) h
end

section
/-! ### all of a short length -/
abbrev ahE (n : Nat) (wr : Bool) (s4 s5 s6 s7 : Sl) : List Sl := [.hand, .d (.int n), .d (.bl wr), .d (iL (fre n wr)), s4, s5, s6, s7]
/-- the words of all rows of bits below i -/
def wds (n r : Nat) (wr : Bool) (i : Nat) : List (List Int) := (List.range i).map fun a => dwd n r wr (bts (fre n wr).length a)
theorem wds_nodup {n r : Nat} {wr : Bool} (h1 : 1 ≤ n) : (wds n r wr (2 ^ (fre n wr).length)).Nodup := by
  refine map_nodup List.nodup_range fun a ha b hb e => ?_
  have e2 : rd (dwd n r wr (bts (fre n wr).length a)) n wr = rd (dwd n r wr (bts (fre n wr).length b)) n wr := congrArg (fun w => rd w n wr) e
  rw [dwd_read h1 (bts_len _ _), dwd_read h1 (bts_len _ _)] at e2
  exact bts_inj _ a b (List.mem_range.mp ha) (List.mem_range.mp hb) e2
theorem all_hold_b5 {n r : Nat} {wr : Bool} {s5 s6 s7 : Sl} {d : DEn} (h1 : 1 ≤ n) (hn : n ≤ 7) (hr : r < md n wr) (k : ∀ s5 s6 s7, d.nx (ahE n wr (.d (.int r)) s5 s6 s7)) : S_law_all_hold_b5 d (ahE n wr (.d (.int r)) s5 s6 s7) := by
  have fl := fre_len (n := n) (wr := wr)
  have big : 2 ^ (fre n wr).length ≤ 128 := Nat.pow_le_pow_right (by decide) (show (fre n wr).length ≤ 7 by omega)
  have big2 : (0 : Int) ≤ ((2 ^ (fre n wr).length : Nat) : Int) := Int.natCast_nonneg _
  rw [S_law_all_hold_b5_eq]
  unfold ahE
  walk_at "wp"
  rw [S_law_all_hold_r6_eq]
  walk_at "wp"
  refine law_power_two (m := (fre n wr).length) (by omega) ?_
  walk_at "wp"
  refine ⟨by clear big2; generalize 2 ^ (fre n wr).length = z at big ⊢; omega, ?_⟩
  rw [Int.toNat_natCast]
  refine dFor_inv (fun i e => ∃ s6 s7, e = ahE n wr (.d (.int r)) (.own (.lst ((wds n r wr i).map iT))) s6 s7) ⟨s6, s7, rfl⟩ ?_ ?_
  · rintro i x _ K B hx ⟨s6, s7, rfl⟩ hK
    obtain ⟨hi, rfl⟩ := rng_get hx
    unfold ahE
    walk_at "wp"
    rw [S_law_all_hold_b7_eq]
    walk_at "wp"
    refine law_bits_at (a := i) (m := (fre n wr).length) (by omega) ?_
    walk_at "wp"
    rw [S_law_all_hold_r8_eq]
    walk_at "wp"
    refine law_word_holds_ok h1 (by omega) hr (bts_bits _ _) (bts_len _ _) ?_
    walk_at "wp"
    rw [S_law_all_hold_r10_eq]
    walk_at "wp"
    refine data_word_ok h1 (by omega) hr (.inr rfl) (bts_bits _ _) (bts_len _ _) ?_
    refine ⟨by unfold wds; simp only [List.length_map, List.length_range]; omega, hK _ ⟨.d (.int i), .d (iL (bts (fre n wr).length i)), ?_⟩⟩
    unfold wds
    rw [List.range_succ, List.map_append, List.map_append]; rfl
  · rintro _ ⟨s6, s7, rfl⟩
    rw [List.length_map, List.length_range, S_law_all_hold_r11_eq]
    unfold ahE
    walk_at "wp"
    refine ⟨wds n r wr (2 ^ (fre n wr).length), rfl, few_of (by unfold wds; rw [List.length_map, List.length_range]; omega), fun us nd hm => ?_⟩
    have len : us.length = 2 ^ (fre n wr).length := by
      rw [same_len nd (wds_nodup h1) hm]
      unfold wds
      rw [List.length_map, List.length_range]
    walk_at "wp"
    refine law_power_two (m := (fre n wr).length) (by omega) ?_
    rw [len]
    walk_at "wp"
    exact k _ _ _
theorem law_all_hold_ok {n : Nat} {wr : Bool} {Q : Dt → Prop} {E : Xc → Prop} (h1 : 1 ≤ n) (hn : n ≤ 7) (k : Q (.bl true)) : F_law_all_hold [.hand, .d (.int n), .d (.bl wr)] Q E := by
  have fl := fre_len (n := n) (wr := wr)
  rw [F_law_all_hold_eq]; unfold S_law_all_hold
  walk_at "wp"
  refine law_free_ok h1 (by omega) ?_
  rw [S_law_all_hold_r2_eq]
  walk_at "wp"
  refine free_places_ok h1 (by omega) ?_
  refine exactL_row (.inr rfl) (by omega) ?_
  walk_at "wp"
  rw [S_law_all_hold_r4_eq]
  have loop : dFor (gD 4) S_law_all_hold_b5 ⟨S_law_all_hold_r13 ⟨fun _ => Q .non, Q, fun _ => False, fun _ => False, fun _ _ => False⟩, Q, fun _ => False, fun _ => False, fun _ _ => False⟩ ((List.range (md n wr)).map fun i : Nat => Dt.int (i : Nat)) (ahE n wr .no .no .no .no) := by
    refine dFor_inv (fun _ e => ∃ s4 s5 s6 s7, e = ahE n wr s4 s5 s6 s7) ⟨_, _, _, _, rfl⟩ ?_ ?_
    · rintro i x _ K B hx ⟨s4, s5, s6, s7, rfl⟩ hK
      obtain ⟨hi, rfl⟩ := rng_get hx
      unfold ahE
      walk_at "wp"
      exact all_hold_b5 h1 hn hi fun s5 s6 s7 => hK _ ⟨_, _, _, _, rfl⟩
    · rintro _ ⟨s4, s5, s6, s7, rfl⟩
      rw [S_law_all_hold_r13_eq]
      unfold ahE
      walk_at "wp"
      exact k
  cases wr with
  | true =>
    have em : (2 * (n : Int)).toNat = md n true := by unfold md; rw [if_pos rfl]; omega
    walk_at "wp"
    refine ⟨by unfold CMul; omega, by omega, ?_⟩
    rw [em]
    exact loop
  | false =>
    have em : ((n : Int) + 1).toNat = md n false := by unfold md; rw [if_neg Bool.false_ne_true]; omega
    walk_at "wp"
    refine ⟨by omega, ?_⟩
    rw [em]
    exact loop
end

section
/-! ### the law -/
abbrev lwE (s0 : Sl) (n : Nat) (s3 s4 s5 s6 s7 s8 s9 : Sl) : List Sl := [s0, .hand, .d (.int n), s3, s4, s5, s6, s7, s8, s9]
theorem two_wide {m : Nat} (h : m ≤ 200) : (0 : Int) < ((2 ^ m : Nat) : Int) ∧ ((2 ^ m : Nat) : Int) < 115792089237316195423570985008687907853269984665640564039457584007913129639936 := by
  have a := Nat.two_pow_pos m
  have b : 2 ^ m < 115792089237316195423570985008687907853269984665640564039457584007913129639936 := Nat.lt_of_le_of_lt (Nat.pow_le_pow_right (by decide) h) (by decide +kernel)
  exact ⟨by omega, by omega⟩
theorem law_b4_ok {n : Nat} {wr : Bool} {s0 s4 s5 s6 s7 s8 s9 : Sl} {d : DEn} (h1 : 1 ≤ n) (hn : n ≤ 200) (k : ∀ s3 s4 s5 s6 s7 s8 s9, d.nx (lwE s0 n s3 s4 s5 s6 s7 s8 s9)) : S_law_b4 d (lwE s0 n (.d (.bl wr)) s4 s5 s6 s7 s8 s9) := by
  have fl := fre_len (n := n) (wr := wr)
  have mp : (0 : Int) < (md n wr : Nat) := by unfold md; split <;> omega
  have mb : md n wr ≤ 1000 := by unfold md; split <;> omega
  rw [S_law_b4_eq]
  unfold lwE
  walk_at "wp"
  refine law_free_ok h1 hn ?_
  rw [S_law_r5_eq]
  walk_at "wp"
  refine law_power_two (m := (fre n wr).length) (by omega) ?_
  walk_at "wp"
  refine ⟨two_wide (by omega), fun a ha => ?_⟩
  refine law_bits_at (a := a) (m := (fre n wr).length) (by omega) ?_
  rw [S_law_r6_eq]
  walk_at "wp"
  have hl := bts_len (fre n wr).length a
  have hb := bts_bits (fre n wr).length a
  generalize bts (fre n wr).length a = b at hl hb ⊢
  have r7 : ∀ r : Nat, r < md n wr → S_law_r7 d (lwE s0 n (.d (.bl wr)) (.d (iL (fre n wr))) (.d (iL b)) (.d (.int r)) s7 s8 s9) := fun r hr => by
    rw [S_law_r7_eq]
    unfold lwE
    walk_at "wp"
    refine free_places_ok h1 hn ?_
    refine exactL_row (.inr rfl) (by omega) ?_
    walk_at "wp"
    rw [S_law_r9_eq]
    walk_at "wp"
    refine law_word_holds_ok h1 hn hr hb hl ?_
    walk_at "wp"
    rw [S_law_r11_eq]
    walk_at "wp"
    refine law_power_two (m := n) (by omega) ?_
    walk_at "wp"
    refine ⟨two_wide (by omega), fun c hc => ?_⟩
    refine law_bits_at (a := c) (m := n) (by omega) ?_
    walk_at "wp"
    rw [S_law_r12_eq]
    walk_at "wp"
    have wl := bts_len n c
    have wb := bts_bits n c
    generalize bts n c = w at wl wb ⊢
    refine data_of_ok (.inl rfl) wb wl h1 hn ?_
    walk_at "wp"
    refine lc_map (e := Dt.int) (fun p => Dt.int ((w[(p - 1).toNat]?).getD 0)) (fun p hp K1 h1 => ?_) (by omega) ?_
    · have pb := fre_bound hp
      walk_at "wp"
      have g := List.getElem?_eq_getElem (l := w) (i := (p - 1).toNat) (by omega)
      rw [g] at h1
      exact ix_mget pb.2 g h1
    · rw [show ((fre n wr).map fun p => Dt.int ((w[(p - 1).toNat]?).getD 0)) = (rd w n wr).map Dt.int by unfold rd; rw [List.map_map]; rfl]
      refine exactL_row (.inr rfl) (Nat.le_trans rd_len (by omega)) ?_
      walk_at "wp"
      exact k _ _ _ _ _ _ _
  cases wr with
  | true =>
    have em : md n true = 2 * n := by unfold md; rw [if_pos rfl]
    walk_at "wp"
    refine ⟨by unfold CMul; omega, ⟨by omega, by omega⟩, fun r hr => r7 r (by omega)⟩
  | false =>
    have em : md n false = n + 1 := by unfold md; rw [if_neg Bool.false_ne_true]
    walk_at "wp"
    exact ⟨⟨by omega, by omega⟩, fun r hr => r7 r (by omega)⟩
theorem law_r3_ok {n : Nat} {s0 : Sl} {d : DEn} (h1 : 1 ≤ n) (hn : n ≤ 200) (q : d.rt (.bl true)) : S_law_r3 d (lwE s0 n .no .no .no .no .no .no .no) := by
  rw [S_law_r3_eq]
  unfold lwE
  walk_at "wp"
  refine dFor_inv (fun _ e => ∃ s3 s4 s5 s6 s7 s8 s9, e = lwE s0 n s3 s4 s5 s6 s7 s8 s9) ⟨_, _, _, _, _, _, _, rfl⟩ ?_ ?_
  · rintro i x _ K B hx ⟨s3, s4, s5, s6, s7, s8, s9, rfl⟩ hK
    obtain ⟨wr, rfl⟩ : ∃ wr, x = .bl wr := by
      rcases List.mem_cons.mp (List.mem_of_getElem? hx) with h | h
      · exact ⟨_, h⟩
      · exact ⟨_, List.mem_singleton.mp h⟩
    unfold lwE
    walk_at "wp"
    exact law_b4_ok h1 hn fun _ _ _ _ _ _ _ => hK _ ⟨_, _, _, _, _, _, _, rfl⟩
  · rintro _ ⟨s3, s4, s5, s6, s7, s8, s9, rfl⟩
    have fl := fre_len (n := n) (wr := false)
    rw [S_law_r14_eq]
    unfold lwE
    walk_at "wp"
    refine free_places_ok h1 hn ?_
    walk_at "wp"
    refine law_free_ok h1 hn ?_
    refine exactL_row (.inr rfl) (by omega) ?_
    walk_at "wp"
    rw [S_law_r16_eq]
    walk_at "wp"
    refine fun a ha => ?_
    rw [S_law_r17_eq]
    walk_at "wp"
    rw [show (1 : Int) + (a : Int) = ((1 + a : Nat) : Int) by omega]
    refine law_all_hold_ok (by omega) (by omega) ?_
    walk_at "wp"
    exact law_all_hold_ok (by omega) (by omega) q
theorem goal : Goal := by
  unfold Goal LawGoal S_law
  walk_at "wp"
  refine fun a ha => ?_
  refine iteQ (fun _ => fun b hb => ?_) fun _ => fun b hb => ?_
  · rw [show (1 : Int) + (b : Int) = ((1 + b : Nat) : Int) by omega]
    exact law_r3_ok (by omega) (by omega) rfl
  · rw [show (1 : Int) + (b : Int) = ((1 + b : Nat) : Int) by omega]
    exact law_r3_ok (by omega) (by omega) rfl
end

end Mine
namespace Mine
open PySem PySem.Spec PyProof.Rows L2
local macro_rules | `(tactic| walk_at "rd") => `(tactic| try simp only [tMk1, iEnumA, iSeq, tPar3, tAugS, ipI, rRepA, rIxA, tCallSD, rExtend, tDNewK, iZipS, tXf, tSeq, tAsg, tCB, tCons, tNil, tVar, tOp, tUn, rI, rI0, rU, gName, gNil, gCons, gSub, rSetL, tC, tRet, tRetN, tNext, tIfS, tTest, tB, tAnd, tOr, tNot, tAndV, tOrV, tNotV, tIf,
  tDrop, tCall, tCallS, tPar, tAug, ipI, tBreak, tCont, tTup, tLst, rEq_int, rNe_int, rEq_bl, rNe_bl, rEq_str, rNe_str, HO.lst.injEq, HO.tup.injEq, Bool.not_eq_true', decide_eq_false_iff_not, rIxH, rIxTH, rCat, tSl, tPart, tNoPart, tBM, rAppend, L2.start, tFor_eq, tLc_eq, iList, iTup, iRng1, iRng2, iEnum, iZip, cx_K, cx_prog, cx_w, cx_nK, forall_const, tYes, wipe, List.foldl_cons, List.foldl_nil, and_assoc, List.map_cons, List.map_nil, List.length_cons, List.length_nil, List.replicate, List.append_nil, List.cons_append, List.nil_append,
  List.getElem?_cons_zero, List.getElem?_cons_succ, List.set_cons_zero, List.set_cons_succ, Nat.zero_add, Nat.add_zero, Nat.reduceAdd, Nat.reduceSub, Option.some.injEq, V.int.injEq, V.bl.injEq, V.ref.injEq, V.str.injEq,
  List.cons.injEq, and_true, true_and, exists_eq_left, exists_eq_left', exists_eq_right, exists_const, exists_eq, exists_and_left, exists_and_right, upd_same, upd_upd, atI_0, atI_1, atI_2, atI_3, ixN_4_0, ixN_4_1, ixN_4_2, ixN_4_3, some_lst, some_tup, decide_eq_true_eq, reduceCtorEq,
  V.int.injEq, Bool.true_eq_false, Bool.false_eq_true, if_true, if_false, ite_true, ite_false, eq_self, not_true_eq_false, not_false_eq_true, decide_true, decide_false, Bool.not_true, Bool.not_false, false_and, and_false, exists_false])
local macro_rules | `(tactic| walk_at "mono") => `(tactic| repeat (first | with_reducible exact mon_var _ | with_reducible exact mon_c _ | with_reducible exact mon_rI _ _ | with_reducible exact mon_rI0 _ | with_reducible exact mon_rEq | with_reducible exact mon_rNe | with_reducible refine mon_test ?_ | with_reducible refine mon_op ?_ ?_ ?_ | with_reducible refine mon_and ?_ ?_ | with_reducible refine mon_or ?_ ?_ | with_reducible exact mon_rU _ | with_reducible refine mon_un ?_ ?_))
local macro_rules | `(tactic| walk_at "sd") => `(tactic| first | assumption | omega | (unfold CMul; omega) | (unfold CDiv; omega) | rfl | decide)
local macro_rules | `(tactic| walk_at "go") => `(tactic| repeat (refine And.intro (by first | assumption | omega | exact tyL (by assumption) | (unfold CMul; omega) | (unfold CDiv; omega) | rfl | decide) ?_))
theorem ok_law_hand {P : Program} {w : World} {K : PySem.W.Frag} {mg : Str → Option Value} {base : Heap} (T : Txt K mg) : ∃ fd, FnOk P w K mg base CX0 1 (He.ga K "_law_hand") fd P_law_hand (sp_hand K) ∧ D_law_hand K (He.ga K "_law_hand") fd := by
  obtain ⟨fd, F⟩ := T.F_law_hand
  refine ⟨fd, F.ok sc_law_hand (fun vs H Q E h => ?_) (fun cdv A outer s H vs Q E hr h => ?_), F⟩
  · obtain ⟨a, ns, rfl, _⟩ := h
    rfl
  ·
    obtain ⟨a, ns, rfl, hS, hl, q⟩ := h
    refine ⟨_, PSs.nox (pss_cons (ps_set (i := 1) sc_law_hand.nd rfl (by first | exact Or.inl rfl | exact Or.inr rfl) (pe_op op_add (pe_callB call_len_seq (by rfl) T.z_len (by decide +kernel) (pa_cons (pv 0) pa_nil)) pe_int))
    (pss_cons (ps_set (i := 2) sc_law_hand.nd rfl (by first | exact Or.inl rfl | exact Or.inr rfl) (pe_lst pa_nil))
    (pss_cons (ps_for PassesOwn.never rfl (pi_list (pv 0)) (pg_name (i := 3) sc_law_hand.nd rfl (by first | exact Or.inl rfl | exact Or.inr rfl))
    (pss_cons (ps_set (i := 1) sc_law_hand.nd rfl (by first | exact Or.inl rfl | exact Or.inr rfl) (pe_op op_mod (pe_callTy call_intI (by rfl) T.z_int (by decide +kernel) (pa_cons (pe_op op_add (pe_op op_mul (pv 1) pe_int) (pe_callTy call_intI (by rfl) T.z_int (by decide +kernel) (pa_cons (pv 3) pa_nil))) pa_nil)) pe_int))
    (pss_one (ps_expr (pe_bm PySem.F.plainAttrs_list PySem.F.slot_list_append PySem.F.type_list_append mt_append (pv 2) (pa_cons (pe_callB call_abs (by rfl) T.z_abs (by decide +kernel) (pa_cons (pe_callTy call_intI (by rfl) T.z_int (by decide +kernel) (pa_cons (pv 3) pa_nil)) pa_nil)) pa_nil))))))
    (pss_one (ps_ret (pe_lst (pa_cons (pv 2) (pa_cons pe_int (pa_cons pe_int (pa_cons (pv 1) pa_nil)))))))))), ?_⟩
    walk_at "rd"
    refine ⟨ns.map V.int, .inl hS, by decide, fun c hc => ⟨⟨_, (same_upd hc).seq hS⟩, ?_⟩⟩
    refine Loop.by (walk_list (xs := ns.map V.int)) (i_hand H a c) ⟨_, none, [], rfl, rfl, upd_same, by simp, same_upd hc, by omega, by rw [List.length_map]; omega⟩
      (fun i σ H' _ ⟨_, _, _, _, _, _, _, sm, _⟩ => sm.seq hS) ?_ ?_
    · rintro i x σ H' H'' hi ⟨tot, v3, cells, rfl, hz, hc', hp, sm, h0, h1⟩ ⟨rfl, hx⟩
      rw [List.length_map] at hi
      rw [List.getElem?_map, List.getElem?_eq_getElem hi] at hx
      obtain rfl := Option.some.inj hx
      walk_at "rd"
      walk_at "go"
      refine ⟨_, hc', by rw [List.length_map]; exact small1000 (by omega), _, _, cells ++ [if ns[i] < 0 then -ns[i] else ns[i]], rfl, by simp [hz], by rw [upd_same, List.map_append]; rfl, ?_, ?_, by omega, by omega⟩
      · intro z hz
        rcases List.mem_append.mp hz with h | h
        · exact hp z h
        · rw [List.mem_singleton] at h; rw [h]; split <;> omega
      · intro b o e
        rw [upd_ne (ne_of_none e hc)]; exact sm b o e
    · rintro σ H' ⟨tot, v3, cells, rfl, hz, hc', hp, sm, h0, h1⟩
      walk_at "rd"
      rw [List.length_map] at hz
      refine ⟨by decide, fun p hp' => q _ p (sm.trans (same_upd hp')) (sm.free hp') ⟨c, cells, 0, 0, tot, upd_same, ?_, hp, by omega, by omega, by omega, h0, h1⟩⟩
      rw [upd_ne (ne_of_none hc' hp')]; exact hc'
end Mine

namespace Mine
open PySem PySem.Spec PyProof.Rows L2
local macro_rules | `(tactic| walk_at "rd") => `(tactic| try simp only [tMk1, iEnumA, iSeq, tPar3, tAugS, ipI, rRepA, rIxA, tCallSD, rExtend, tDNewK, iZipS, tXf, tSeq, tAsg, tCB, tCons, tNil, tVar, tOp, tUn, rI, rI0, rU, gName, gNil, gCons, gSub, rSetL, tC, tRet, tRetN, tNext, tIfS, tTest, tB, tAnd, tOr, tNot, tAndV, tOrV, tNotV, tIf,
  tDrop, tCall, tCallS, tPar, tAug, ipI, tBreak, tCont, tTup, tLst, rEq_int, rNe_int, rEq_bl, rNe_bl, rEq_str, rNe_str, HO.lst.injEq, HO.tup.injEq, Bool.not_eq_true', decide_eq_false_iff_not, rIxH, rIxTH, rCat, tSl, tPart, tNoPart, tBM, rAppend, L2.start, tFor_eq, tLc_eq, iList, iTup, iRng1, iRng2, iEnum, iZip, cx_K, cx_prog, cx_w, cx_nK, forall_const, tYes, wipe, List.foldl_cons, List.foldl_nil, and_assoc, List.map_cons, List.map_nil, List.length_cons, List.length_nil, List.replicate, List.append_nil, List.cons_append, List.nil_append,
  List.getElem?_cons_zero, List.getElem?_cons_succ, List.set_cons_zero, List.set_cons_succ, Nat.zero_add, Nat.add_zero, Nat.reduceAdd, Nat.reduceSub, Option.some.injEq, V.int.injEq, V.bl.injEq, V.ref.injEq, V.str.injEq,
  List.cons.injEq, and_true, true_and, exists_eq_left, exists_eq_left', exists_eq_right, exists_const, exists_eq, exists_and_left, exists_and_right, upd_same, upd_upd, atI_0, atI_1, atI_2, atI_3, ixN_4_0, ixN_4_1, ixN_4_2, ixN_4_3, some_lst, some_tup, decide_eq_true_eq, reduceCtorEq,
  V.int.injEq, Bool.true_eq_false, Bool.false_eq_true, if_true, if_false, ite_true, ite_false, eq_self, not_true_eq_false, not_false_eq_true, decide_true, decide_false, Bool.not_true, Bool.not_false, false_and, and_false, exists_false])
local macro_rules | `(tactic| walk_at "mono") => `(tactic| repeat (first | with_reducible exact mon_var _ | with_reducible exact mon_c _ | with_reducible exact mon_rI _ _ | with_reducible exact mon_rI0 _ | with_reducible exact mon_rEq | with_reducible exact mon_rNe | with_reducible refine mon_test ?_ | with_reducible refine mon_op ?_ ?_ ?_ | with_reducible refine mon_and ?_ ?_ | with_reducible refine mon_or ?_ ?_ | with_reducible exact mon_rU _ | with_reducible refine mon_un ?_ ?_))
local macro_rules | `(tactic| walk_at "sd") => `(tactic| first | assumption | omega | (unfold CMul; omega) | (unfold CDiv; omega) | rfl | decide)
local macro_rules | `(tactic| walk_at "go") => `(tactic| repeat (refine And.intro (by first | assumption | omega | exact tyL (by assumption) | (unfold CMul; omega) | (unfold CDiv; omega) | rfl | decide) ?_))
theorem ok_law_mixed {P : Program} {w : World} {K : PySem.W.Frag} {mg : Str → Option Value} {base : Heap} (T : Txt K mg) : ∃ fd, FnOk P w K mg base CX0 1 (He.ga K "_law_mixed") fd P_law_mixed sp_mixed ∧ D_law_mixed K (He.ga K "_law_mixed") fd := by
  obtain ⟨fd, F⟩ := T.F_law_mixed
  refine ⟨fd, F.ok sc_law_mixed (fun vs H Q E h => ?_) (fun cdv A outer s H vs Q E hr h => ?_), F⟩
  · obtain ⟨n, t, rfl, _⟩ := h
    rfl
  ·
    obtain ⟨n, t, rfl, ⟨h1, h2, h3, h4⟩, q⟩ := h
    refine ⟨_, PSs.nox (pss_cons (ps_set (i := 2) sc_law_mixed.nd rfl (by first | exact Or.inl rfl | exact Or.inr rfl) (pe_op op_mod (pe_callTy call_intI (by rfl) T.z_int (by decide +kernel) (pa_cons (pe_op op_add (pe_op op_add (pe_op op_mul (pv 0) pe_int) (pe_op op_mul (pv 1) pe_int)) pe_int) pa_nil)) pe_int))
    (pss_cons (ps_set (i := 3) sc_law_mixed.nd rfl (by first | exact Or.inl rfl | exact Or.inr rfl) (pe_op op_mod (pe_callTy call_intI (by rfl) T.z_int (by decide +kernel) (pa_cons (pe_op op_add (pe_op op_add (pe_op op_mul (pv 2) (pv 2)) (pe_op op_mul (pv 1) pe_int)) (pe_op op_fdiv (pv 2) pe_int)) pa_nil)) pe_int))
    (pss_one (ps_ret (pe_op op_fdiv (pe_callTy call_intI (by rfl) T.z_int (by decide +kernel) (pa_cons (pe_op op_mod (pe_callTy call_intI (by rfl) T.z_int (by decide +kernel) (pa_cons (pe_op op_add (pe_op op_mul (pv 3) pe_int) (pe_op op_fdiv (pv 2) pe_int)) pa_nil)) pe_int) pa_nil)) pe_int))))), ?_⟩
    walk_at "rd"
    walk_at "go"
    exact q _ (mixedN_pos n t)
end Mine

namespace Mine
open PySem PySem.Spec PyProof.Rows L2
local macro_rules | `(tactic| walk_at "rd") => `(tactic| try simp only [tMk1, iEnumA, iSeq, tPar3, tAugS, ipI, rRepA, rIxA, tCallSD, rExtend, tDNewK, iZipS, tXf, tSeq, tAsg, tCB, tCons, tNil, tVar, tOp, tUn, rI, rI0, rU, gName, gNil, gCons, gSub, rSetL, tC, tRet, tRetN, tNext, tIfS, tTest, tB, tAnd, tOr, tNot, tAndV, tOrV, tNotV, tIf,
  tDrop, tCall, tCallS, tPar, tAug, ipI, tBreak, tCont, tTup, tLst, rEq_int, rNe_int, rEq_bl, rNe_bl, rEq_str, rNe_str, HO.lst.injEq, HO.tup.injEq, Bool.not_eq_true', decide_eq_false_iff_not, rIxH, rIxTH, rCat, tSl, tPart, tNoPart, tBM, rAppend, L2.start, tFor_eq, tLc_eq, iList, iTup, iRng1, iRng2, iEnum, iZip, cx_K, cx_prog, cx_w, cx_nK, forall_const, tYes, wipe, List.foldl_cons, List.foldl_nil, and_assoc, List.map_cons, List.map_nil, List.length_cons, List.length_nil, List.replicate, List.append_nil, List.cons_append, List.nil_append,
  List.getElem?_cons_zero, List.getElem?_cons_succ, List.set_cons_zero, List.set_cons_succ, Nat.zero_add, Nat.add_zero, Nat.reduceAdd, Nat.reduceSub, Option.some.injEq, V.int.injEq, V.bl.injEq, V.ref.injEq, V.str.injEq,
  List.cons.injEq, and_true, true_and, exists_eq_left, exists_eq_left', exists_eq_right, exists_const, exists_eq, exists_and_left, exists_and_right, upd_same, upd_upd, atI_0, atI_1, atI_2, atI_3, ixN_4_0, ixN_4_1, ixN_4_2, ixN_4_3, some_lst, some_tup, decide_eq_true_eq, reduceCtorEq,
  V.int.injEq, Bool.true_eq_false, Bool.false_eq_true, if_true, if_false, ite_true, ite_false, eq_self, not_true_eq_false, not_false_eq_true, decide_true, decide_false, Bool.not_true, Bool.not_false, false_and, and_false, exists_false])
local macro_rules | `(tactic| walk_at "mono") => `(tactic| repeat (first | with_reducible exact mon_var _ | with_reducible exact mon_c _ | with_reducible exact mon_rI _ _ | with_reducible exact mon_rI0 _ | with_reducible exact mon_rEq | with_reducible exact mon_rNe | with_reducible refine mon_test ?_ | with_reducible refine mon_op ?_ ?_ ?_ | with_reducible refine mon_and ?_ ?_ | with_reducible refine mon_or ?_ ?_ | with_reducible exact mon_rU _ | with_reducible refine mon_un ?_ ?_))
local macro_rules | `(tactic| walk_at "sd") => `(tactic| first | assumption | omega | (unfold CMul; omega) | (unfold CDiv; omega) | rfl | decide)
local macro_rules | `(tactic| walk_at "go") => `(tactic| repeat (refine And.intro (by first | assumption | omega | exact tyL (by assumption) | (unfold CMul; omega) | (unfold CDiv; omega) | rfl | decide) ?_))
theorem ok_law_take {P : Program} {w : World} {K : PySem.W.Frag} {mg : Str → Option Value} {base : Heap} (T : Txt K mg) : ∃ fd, FnOk P w K mg base CX0 2 (He.ga K "_law_take") fd P_law_take (spD K F_law_take) ∧ D_law_take K (He.ga K "_law_take") fd := by
  obtain ⟨fd, F⟩ := T.F_law_take
  obtain ⟨fd_law_mixed, G_law_mixed, D_law_mixed⟩ := ok_law_mixed (P := P) (w := w) (base := base) T
  have k_law_mixed := D_law_mixed.kp
  have b_law_mixed := bd_law_mixed D_law_mixed
  refine ⟨fd, F.ok sc_law_take (fun vs H Q E h => ?_) (fun cdv A outer s H vs Q E hr h => ?_), F⟩
  · obtain ⟨h, m, rfl, _⟩ := take_spD _ _ _ _ h -- := h
    rfl
  ·
    replace h := take_spD _ _ _ _ h
    obtain ⟨h, m, rfl, ⟨c, cells, at_, big, mix, hH, hC, hp, ha, hl, hb, hm, hm2⟩, h1, h2, q⟩ := h
    have wd : CDivW big m := wide_div (b := 256) h1 (by rw [show (2 : Nat) ^ 256 = 115792089237316195423570985008687907853269984665640564039457584007913129639936 by decide +kernel]; omega) (by decide) (by decide)
    have hc : c ≠ h := ne_of hC hH (by
      intro z
      cases cells with
      | nil => cases z
      | cons x r => cases z)
    have k : ∀ xs, upd H h (.lst xs) c = some (.lst (cells.map V.int)) := fun xs => by rw [upd_ne hc]; exact hC
    have key : ∀ (ai : Int) (a2 : Nat) (b2 m2 : Int), ai = a2 → a2 ≤ cells.length → 0 ≤ b2 → 0 ≤ m2 → m2 < 2147483563 → HandN H h (.lst [.ref c, .int ai, .int b2, .int m2]) :=
      fun ai a2 b2 m2 e x1 x2 x3 x4 => ⟨⟨c, cells, a2, b2, m2, by rw [upd_same, e], k _, hp, x1, hl, x2, x3, x4⟩, c, _, _, hH, rfl⟩
    have emod : ∀ z : Int, 0 ≤ z % m ∧ z % m < m := fun z => ⟨Int.emod_nonneg _ (by omega), Int.emod_lt_of_pos _ h1⟩
    have ediv : ∀ z : Int, 0 ≤ z → 0 ≤ z / m := fun z hz => Int.ediv_nonneg hz (by omega)
    have fresh : ∀ (ai : Int) (a2 : Nat) (b2 : Int), ai = a2 → a2 ≤ cells.length → 0 ≤ b2 → (0 : Int) < 2147483549 ∧ sp_mixed [V.int ((mix + 1) % 2147483549), V.int ai] (upd H h (.lst [.ref c, .int ai, .int b2, .int ((mix + 1) % 2147483549)]))
        (fun x H1 => ∃ i, x = V.int i ∧ 0 < m ∧ Q (V.int (i % m)) H1) E0 := fun ai a2 b2 e x1 x2 => by
      refine ⟨by decide, _, _, rfl, by omega, fun r hr => ⟨r, rfl, h1, q _ _ (emod r).1 (emod r).2 (key ai a2 b2 _ e x1 x2 (by omega) (by omega))⟩⟩
    refine ⟨_, PSs.nox (pss_cons (ps_if (PW.pt (pw_and (pt_cmpR op_eq (pe_ix ix_H (pv 0) pe_int (fun _ _ => rfl)) pe_int (nomark _)) (pw_and1 (pt_cmpR op_lt (pe_ix ix_H (pv 0) pe_int (fun _ _ => rfl)) (pe_callB call_lenL (by rfl) T.z_len (by decide +kernel) (pa_cons (pe_ix ix_H (pv 0) pe_int (fun _ _ => rfl)) pa_nil)) (nomark _)))))
    (pss_cons (ps_set (i := 2) sc_law_take.nd rfl (by first | exact Or.inl rfl | exact Or.inr rfl) (pe_ix ix_H (pe_ix ix_H (pv 0) pe_int (fun _ _ => rfl)) (pe_ix ix_H (pv 0) pe_int (fun _ _ => rfl)) (fun _ _ => rfl)))
    (pss_cons (ps_asg (pe_op op_add (pe_ix ix_H (pv 0) pe_int (fun _ _ => rfl)) pe_int) (pg_sub (pv 0) pe_int set_list))
    (pss_cons (ps_if (pt_cmpR op_lt (pv 2) (pe_op op_pow pe_int pe_int) (nomark _))
    (pss_one (ps_ret (pe_op op_mod (pe_callTy call_intI (by rfl) T.z_int (by decide +kernel) (pa_cons (pe_call G_law_mixed (hr.mono (by decide)) rfl T.g__law_mixed k_law_mixed b_law_mixed .nil pass0 (pa_cons (pe_op op_mod (pe_callTy call_intI (by rfl) T.z_int (by decide +kernel) (pa_cons (pv 2) pa_nil)) pe_int) (pa_cons (pe_ix ix_H (pv 0) pe_int (fun _ _ => rfl)) pa_nil))) pa_nil)) (pv 1))))
    pss_nil)
    (pss_one (ps_asg (pv 2) (pg_sub (pv 0) pe_int set_list))))))
    pss_nil)
    (pss_cons (ps_if (pt_cmpR op_gt (pe_ix ix_H (pv 0) pe_int (fun _ _ => rfl)) pe_int (nomark _))
    (pss_cons (ps_set (i := 3) sc_law_take.nd rfl (by first | exact Or.inl rfl | exact Or.inr rfl) (pe_ix ix_H (pv 0) pe_int (fun _ _ => rfl)))
    (pss_cons (ps_asg (pe_op op_fdivW (pe_callTy call_intI (by rfl) T.z_int (by decide +kernel) (pa_cons (pv 3) pa_nil)) (pv 1)) (pg_sub (pv 0) pe_int set_list))
    (pss_one (ps_ret (pe_op op_mod (pe_callTy call_intI (by rfl) T.z_int (by decide +kernel) (pa_cons (pv 3) pa_nil)) (pv 1))))))
    pss_nil)
    (pss_cons (ps_asg (pe_op op_mod (pe_callTy call_intI (by rfl) T.z_int (by decide +kernel) (pa_cons (pe_op op_add (pe_ix ix_H (pv 0) pe_int (fun _ _ => rfl)) pe_int) pa_nil)) pe_int) (pg_sub (pv 0) pe_int set_list))
    (pss_one (ps_ret (pe_op op_mod (pe_callTy call_intI (by rfl) T.z_int (by decide +kernel) (pa_cons (pe_call G_law_mixed (hr.mono (by decide)) rfl T.g__law_mixed k_law_mixed b_law_mixed .nil pass0 (pa_cons (pe_ix ix_H (pv 0) pe_int (fun _ _ => rfl)) (pa_cons (pe_ix ix_H (pv 0) pe_int (fun _ _ => rfl)) pa_nil))) pa_nil)) (pv 1))))))), ?_⟩
    simp only [tMk1, iEnumA, iSeq, tPar3, tAugS, ipI, rRepA, rIxA, tCallSD, rExtend, tDNewK, iZipS, tXf, tSeq, tAsg, tCB, tCons, tNil, tVar, tOp, tUn, rI, rI0, rU, gName, gNil, gCons, gSub, rSetL, tC, tRet, tRetN, tNext, tIfS, tTest, tB, tAnd, tOr, tNot, tAndV, tOrV, tNotV, tIf,
  tDrop, tCall, tCallS, tPar, tAug, ipI, tBreak, tCont, tTup, tLst, rEq_int, rNe_int, rEq_bl, rNe_bl, rEq_str, rNe_str, HO.lst.injEq, HO.tup.injEq, Bool.not_eq_true', decide_eq_false_iff_not, rIxH, rIxTH, rCat, tSl, tPart, tNoPart, tBM, rAppend, L2.start, tFor_eq, tLc_eq, iList, iTup, iRng1, iRng2, iEnum, iZip, cx_K, cx_prog, cx_w, cx_nK, forall_const, tYes, wipe, List.foldl_cons, List.foldl_nil, and_assoc, List.map_cons, List.map_nil, List.length_cons, List.length_nil, List.replicate, List.append_nil, List.cons_append, List.nil_append,
  List.getElem?_cons_zero, List.getElem?_cons_succ, List.set_cons_zero, List.set_cons_succ, Nat.zero_add, Nat.add_zero, Nat.reduceAdd, Nat.reduceSub, Option.some.injEq, V.int.injEq, V.bl.injEq, V.ref.injEq, V.str.injEq,
  List.cons.injEq, and_true, true_and, exists_eq_left, exists_eq_left', exists_eq_right, exists_const, exists_eq, exists_and_left, exists_and_right, upd_same, upd_upd, atI_0, atI_1, atI_2, atI_3, ixN_4_0, ixN_4_1, ixN_4_2, ixN_4_3, some_lst, some_tup, decide_eq_true_eq, reduceCtorEq,
  V.int.injEq, Bool.true_eq_false, Bool.false_eq_true, if_true, if_false, ite_true, ite_false, eq_self, not_true_eq_false, not_false_eq_true, decide_true, decide_false, Bool.not_true, Bool.not_false, false_and, and_false, exists_false, hH, hC]
    have old : if 0 < big then CDivW big m ∧ 0 < m ∧ Q (V.int (big % m)) (upd H h (HO.lst [V.ref c, V.int ↑at_, V.int (big / m), V.int mix]))
        else (0 : Int) < 2147483549 ∧ sp_mixed [V.int ((mix + 1) % 2147483549), V.int ↑at_] (upd H h (HO.lst [V.ref c, V.int ↑at_, V.int big, V.int ((mix + 1) % 2147483549)])) (fun x H1 => ∃ i, x = V.int i ∧ 0 < m ∧ Q (V.int (i % m)) H1) E0 :=
      ite2 (fun _ => ⟨wd, h1, q _ _ (emod big).1 (emod big).2 (key _ at_ _ _ rfl ha (ediv _ hb) hm hm2)⟩) (fun _ => fresh _ at_ _ rfl ha hb)
    refine ite2 (fun _ => ite2 (fun e => ?_) (fun _ => old)) (fun _ => old)
    have hlt : at_ < cells.length := by rw [List.length_map] at e; omega
    have hz := hp cells[at_] (List.getElem_mem hlt)
    refine ⟨.int cells[at_], atI_nat (by rw [List.getElem?_map, List.getElem?_eq_getElem hlt]; rfl), ⟨by decide, by decide, by decide⟩, _, rfl, ite2 (fun e2 => ?_) (fun e2 => ?_)⟩
    · refine ⟨_, rfl, by decide, _, _, rfl, by omega, fun r hr => ⟨r, rfl, h1, q _ _ (emod r).1 (emod r).2 (key _ (at_ + 1) _ _ (by omega) (by omega) hb hm hm2)⟩⟩
    · refine ⟨_, rfl, ite2 (fun e3 => ?_) (fun e3 => fresh _ (at_ + 1) _ (by omega) (by omega) hz)⟩
      exact ⟨_, rfl, wd, _, rfl, h1, q _ _ (emod _).1 (emod _).2 (key _ (at_ + 1) _ _ (by omega) (by omega) (ediv _ hz) hm hm2)⟩
end Mine

namespace Mine
open PySem PySem.Spec PyProof.Rows L2
theorem ok_law_doubling {P : Program} {w : World} {K : PySem.W.Frag} {mg : Str → Option Value} {base : Heap} (T : Txt K mg) : ∃ fd, FnOk P w K mg base CX0 1 (He.ga K "_law_doubling") fd P_law_doubling (spD K F_law_doubling) ∧ D_law_doubling K (He.ga K "_law_doubling") fd := by
  obtain ⟨fd, F⟩ := T.F_law_doubling
  refine ⟨fd, F.ok sc_law_doubling (fun vs H Q E h => ?_) (fun cdv A outer s H vs Q E hr h => ?_), F⟩
  · rw [F_law_doubling_eq] at h
    exact spD_len (np := 1) (fun _ _ _ h => h.1) vs H Q E h
  · rw [F_law_doubling_eq] at h
    refine ⟨_, PSs.nox (pss_cons (ps_set (i := 1) sc_law_doubling.nd rfl (by first | exact Or.inl rfl | exact Or.inr rfl) (pe_lst pa_nil))
    (pss_cons (ps_set (i := 2) sc_law_doubling.nd rfl (by first | exact Or.inl rfl | exact Or.inr rfl) pe_int)
    (pss_cons (ps_for PassesOwn.never rfl (pi_range1 (by rfl) T.z_range (pa_cons pe_int pa_nil)) (pg_name (i := 3) sc_law_doubling.nd rfl (by first | exact Or.inl rfl | exact Or.inr rfl))
    (pss_cons (ps_if (pt_cmpR op_le (pv 2) (pv 0) (by first | exact nomark _ | rfl))
    (pss_one (ps_expr (pe_bm PySem.F.plainAttrs_list PySem.F.slot_list_append PySem.F.type_list_append mt_append (pv 1) (pa_cons (pv 2) pa_nil))))
    pss_nil)
    (pss_one (ps_set (i := 2) sc_law_doubling.nd rfl (by first | exact Or.inl rfl | exact Or.inr rfl) (pe_op op_mulU (pv 2) pe_int)))))
    (pss_one (ps_ret (pv 1)))))), ?_⟩
    exact body_of0 rfl h fun X hd => (dst_seq (dst_own (df_lst da_nil))
    (dst_seq (dst_asg (de_int 1) (dg_name 2))
    (dst_seq (dst_for (di_rng1 (db_cons (DEg.bor (de_int 9)) db_nil)) (dg_name 3)
    (dst_seq (dst_if (dt_test (dg_op od_le (db_var 2) (db_var 0)))
    (dst_app (de_var 2))
    dst_next)
    (dst_asg (dg_op od_mul (db_var 2) (DEg.bor (de_int 2))) (dg_name 2))))
    (dst_frz 1 (dst_ret (de_var 1))))))
end Mine

namespace Mine
open PySem PySem.Spec PyProof.Rows L2
theorem ok_law_free {P : Program} {w : World} {K : PySem.W.Frag} {mg : Str → Option Value} {base : Heap} (T : Txt K mg) : ∃ fd, FnOk P w K mg base CX0 2 (He.ga K "_law_free") fd P_law_free (spD K F_law_free) ∧ D_law_free K (He.ga K "_law_free") fd := by
  obtain ⟨fd, F⟩ := T.F_law_free
  obtain ⟨fd_law_doubling, G_law_doubling, D_law_doubling⟩ := ok_law_doubling (P := P) (w := w) (base := base) T
  have k_law_doubling := D_law_doubling.kp
  have b_law_doubling := bd_law_doubling D_law_doubling
  refine ⟨fd, F.ok sc_law_free (fun vs H Q E h => ?_) (fun cdv A outer s H vs Q E hr h => ?_), F⟩
  · rw [F_law_free_eq] at h
    exact spD_len (np := 2) (fun _ _ _ h => h.1) vs H Q E h
  · rw [F_law_free_eq] at h
    refine ⟨_, PSs.nox (pss_cons (ps_set (i := 2) sc_law_free.nd rfl (by first | exact Or.inl rfl | exact Or.inr rfl) (pe_op (op_addU rfl) (pe_call G_law_doubling (hr.mono (by decide)) rfl T.g__law_doubling k_law_doubling b_law_doubling .nil pass0 (pa_cons (pv 0) pa_nil)) (pe_ifExp (pt_tru rfl (pv 1) (by intro _; rfl)) (pe_lst (pa_cons (pv 0) pa_nil)) (pe_lst pa_nil))))
    (pss_one (ps_ret (pe_lc (own := [("_law_place", 3)]) rfl sc_law_free.nd (pi_range2 (by rfl) T.z_range (pa_cons pe_int (pa_cons (pe_op (op_addU rfl) (pv 0) pe_int) pa_nil))) (blkOk_by (own := [("_law_place", 3)]) (N := N_law_free) (sc := defScope s_law_free) (by decide +kernel)) (fun _ _ _ _ _ => (pg_name (i := 3) sc_law_free.nd rfl (by first | exact Or.inl rfl | exact Or.inr rfl))) (fun _ _ _ _ _ => (pts_one (pt_cmpR (op_notInU rfl (Room.u65 hr)) (pv 3) (pv 2) (by first | exact nomark _ | rfl)))) (fun _ _ _ _ _ => (pv 3)))))), ?_⟩
    exact body_of0 rfl h fun X hd => (dst_seq (dst_asg (dg_op od_add (DEg.bor (de_call0 dv_nil (ds_cons (de_var 0) ds_nil))) (DEg.bor (dg_if (dt_tru (db_var 1)) (DEg.cln (df_lst (da_cons (de_var 0) da_nil))) (DEg.cln (df_lst da_nil))))) (dg_name 2))
    (dst_ret (DEg.cln (df_lc (di_rng2 (db_cons (DEg.bor (de_int 1)) (db_cons (DEg.bor (dg_op od_add (db_var 0) (DEg.bor (de_int 1)))) db_nil))) (dg_name 3) (dt_test (dg_op od_notIn (db_var 3) (db_var 2))) (de_var 3)))))
end Mine

namespace Mine
open PySem PySem.Spec PyProof.Rows L2
theorem ok_law_bits {P : Program} {w : World} {K : PySem.W.Frag} {mg : Str → Option Value} {base : Heap} (T : Txt K mg) : ∃ fd, FnOk P w K mg base CX0 1 (He.ga K "_law_bits") fd P_law_bits (spD K F_law_bits) ∧ D_law_bits K (He.ga K "_law_bits") fd := by
  obtain ⟨fd, F⟩ := T.F_law_bits
  refine ⟨fd, F.ok sc_law_bits (fun vs H Q E h => ?_) (fun cdv A outer s H vs Q E hr h => ?_), F⟩
  · rw [F_law_bits_eq] at h
    exact spD_len (np := 2) (fun _ _ _ h => h.1) vs H Q E h
  · rw [F_law_bits_eq] at h
    refine ⟨_, PSs.nox (pss_cons (ps_set (i := 2) sc_law_bits.nd rfl (by first | exact Or.inl rfl | exact Or.inr rfl) (pe_lst pa_nil))
    (pss_cons (ps_for PassesOwn.never rfl (pi_range1 (by rfl) T.z_range (pa_cons (pv 1) pa_nil)) (pg_name (i := 3) sc_law_bits.nd rfl (by first | exact Or.inl rfl | exact Or.inr rfl))
    (pss_cons (ps_expr (pe_bm PySem.F.plainAttrs_list PySem.F.slot_list_append PySem.F.type_list_append mt_append (pv 2) (pa_cons (pe_op op_mod (pe_callTy call_intU (by rfl) T.z_int (by decide +kernel) (pa_cons (pv 0) pa_nil)) pe_int) pa_nil)))
    (pss_one (ps_set (i := 0) sc_law_bits.nd rfl (by first | exact Or.inl rfl | exact Or.inr rfl) (pe_op op_fdiv (pe_callTy call_intU (by rfl) T.z_int (by decide +kernel) (pa_cons (pv 0) pa_nil)) pe_int)))))
    (pss_one (ps_ret (pv 2))))), ?_⟩
    exact body_of0 rfl h fun X hd => (dst_seq (dst_own (df_lst da_nil))
    (dst_seq (dst_for (di_rng1 (db_cons (db_var 1) db_nil)) (dg_name 3)
    (dst_seq (dst_app (dg_op od_mod (DEg.bor (dg_cb cg_int (db_cons (db_var 0) db_nil))) (DEg.bor (de_int 2))))
    (dst_asg (dg_op od_fdiv (DEg.bor (dg_cb cg_int (db_cons (db_var 0) db_nil))) (DEg.bor (de_int 2))) (dg_name 0))))
    (dst_frz 2 (dst_ret (de_var 2)))))
end Mine

namespace Mine
open PySem PySem.Spec PyProof.Rows L2
theorem ok_law_power {P : Program} {w : World} {K : PySem.W.Frag} {mg : Str → Option Value} {base : Heap} (T : Txt K mg) : ∃ fd, FnOk P w K mg base CX0 1 (He.ga K "_law_power") fd P_law_power (spD K F_law_power) ∧ D_law_power K (He.ga K "_law_power") fd := by
  obtain ⟨fd, F⟩ := T.F_law_power
  refine ⟨fd, F.ok sc_law_power (fun vs H Q E h => ?_) (fun cdv A outer s H vs Q E hr h => ?_), F⟩
  · rw [F_law_power_eq] at h
    exact spD_len (np := 2) (fun _ _ _ h => h.1) vs H Q E h
  · rw [F_law_power_eq] at h
    refine ⟨_, PSs.nox (pss_cons (ps_set (i := 2) sc_law_power.nd rfl (by first | exact Or.inl rfl | exact Or.inr rfl) pe_int)
    (pss_cons (ps_for PassesOwn.never rfl (pi_range1 (by rfl) T.z_range (pa_cons (pv 1) pa_nil)) (pg_name (i := 3) sc_law_power.nd rfl (by first | exact Or.inl rfl | exact Or.inr rfl))
    (pss_one (ps_set (i := 2) sc_law_power.nd rfl (by first | exact Or.inl rfl | exact Or.inr rfl) (pe_op op_mulU (pv 2) (pv 0)))))
    (pss_one (ps_ret (pv 2))))), ?_⟩
    exact body_of0 rfl h fun X hd => (dst_seq (dst_asg (de_int 1) (dg_name 2))
    (dst_seq (dst_for (di_rng1 (db_cons (db_var 1) db_nil)) (dg_name 3)
    (dst_asg (dg_op od_mul (db_var 2) (db_var 0)) (dg_name 2)))
    (dst_ret (de_var 2))))
end Mine

namespace Mine
open PySem PySem.Spec PyProof.Rows L2
theorem okR_law_exact {P : Program} {w : World} {K : PySem.W.Frag} {mg : Str → Option Value} {base : Heap} (T : Txt K mg) {fd : FuncData} (F : D_law_exact K (He.ga K "_law_exact") fd) : ∀ m : Nat, FnOk P w K mg base CX0 (0 + m) (He.ga K "_law_exact") fd P_law_exact (spD K (F_law_exact m))
  | 0 => by
    rw [F_law_exact_0]
    exact ⟨fun vs H Q E h => by obtain ⟨_, _, _, _, _, _, _, _, h, _⟩ := h; exact h.elim, fun A outer s H args us vs Q E hr he hb hv h => by obtain ⟨_, _, _, _, _, _, _, _, h, _⟩ := h; exact h.elim⟩
  | m + 1 => by
    have G_law_exact := okR_law_exact (P := P) (w := w) (base := base) T F m
    have k_law_exact := F.kp
    have b_law_exact := bd_law_exact F
    rw [F_law_exact_s]
    show FnOk P w K mg base CX0 ((0 + m) + 1) (He.ga K "_law_exact") fd P_law_exact _
    refine F.ok sc_law_exact (fun vs H Q E h => ?_) (fun cdv A outer s H vs Q E hr h => ?_)
    · exact spD_len (np := 2) (fun _ _ _ h => h.1) vs H Q E h
    · refine ⟨_, PSs.nox (pss_cons (ps_if (pt_tru rfl (pe_callB (call_isiTU (K := K) rfl) (by rfl) T.z_isinstance (by decide +kernel) (pa_cons (pv 1) (pa_cons (pe_tup (pa_cons (pe_bltn (v := .ty "tuple") (by rfl) T.z_tuple (by decide +kernel) rfl) (pa_cons (pe_bltn (v := .ty "list") (by rfl) T.z_list (by decide +kernel) rfl) pa_nil))) pa_nil))) (by intro _; rfl))
    (pss_cons (ps_if (PW.pt (pw_or (pt_not (pt_tru rfl (pe_callB (call_isiU (K := K) rfl) (by rfl) T.z_isinstance (by decide +kernel) (pa_cons (pv 0) (pa_cons (pe_bltn (v := .ty "tuple") (by rfl) T.z_tuple (by decide +kernel) rfl) pa_nil))) (by intro _; rfl))) (pw_or1 (pt_cmpR (op_neU rfl hr.units) (pe_callB (call_lenU (K := K) rfl) (by rfl) T.z_len (by decide +kernel) (pa_cons (pv 0) pa_nil)) (pe_callB (call_lenU (K := K) rfl) (by rfl) T.z_len (by decide +kernel) (pa_cons (pv 1) pa_nil)) (by first | exact nomark _ | rfl)))))
    (pss_one (ps_ret pe_bl))
    pss_nil)
    (pss_one (ps_ret (pe_callB (call_allU (K := K) rfl rfl) (by rfl) T.z_all (by decide +kernel) (pa_cons (pe_lc (own := [("_law_k", 2)]) rfl sc_law_exact.nd (pi_range1 (by rfl) T.z_range (pa_cons (pe_callB (call_lenU (K := K) rfl) (by rfl) T.z_len (by decide +kernel) (pa_cons (pv 1) pa_nil)) pa_nil)) (blkOk_by (own := [("_law_k", 2)]) (N := N_law_exact) (sc := defScope s_law_exact) (by decide +kernel)) (fun _ _ _ _ _ => (pg_name (i := 2) sc_law_exact.nd rfl (by first | exact Or.inl rfl | exact Or.inr rfl))) (fun _ _ _ _ _ => pts_nil) (fun _ _ _ _ _ => (pe_call G_law_exact (hr.mono (by omega)) rfl T.g__law_exact k_law_exact b_law_exact .nil pass0 (pa_cons (pe_ix (ix_U (K := K) rfl) (pv 0) (pv 2) (fun _ _ => rfl)) (pa_cons (pe_ix (ix_U (K := K) rfl) (pv 1) (pv 2) (fun _ _ => rfl)) pa_nil))))) pa_nil)))))
    pss_nil)
    (pss_cons (ps_if (pt_cmpR op_isN (pv 1) pe_non (by first | exact nomark _ | rfl))
    (pss_one (ps_ret (pe_cmpR op_isN (pv 0) pe_non (by first | exact nomark _ | rfl))))
    pss_nil)
    (pss_cons (ps_if (pt_tru rfl (pe_callB (call_isiU (K := K) rfl) (by rfl) T.z_isinstance (by decide +kernel) (pa_cons (pv 1) (pa_cons (pe_bltn (v := .ty "bool") (by rfl) T.z_bool (by decide +kernel) rfl) pa_nil))) (by intro _; rfl))
    (pss_one (ps_ret (pe_and (pe_callB (call_isiU (K := K) rfl) (by rfl) T.z_isinstance (by decide +kernel) (pa_cons (pv 0) (pa_cons (pe_bltn (v := .ty "bool") (by rfl) T.z_bool (by decide +kernel) rfl) pa_nil))) (pe_one (pe_cmpR (op_eqU rfl hr.units) (pv 0) (pv 1) (by first | exact nomark _ | rfl))))))
    pss_nil)
    (pss_cons (ps_if (pt_tru rfl (pe_callB (call_isiU (K := K) rfl) (by rfl) T.z_isinstance (by decide +kernel) (pa_cons (pv 1) (pa_cons (pe_bltn (v := .ty "int") (by rfl) T.z_int (by decide +kernel) rfl) pa_nil))) (by intro _; rfl))
    (pss_one (ps_ret (pe_and (pe_callB (call_isiU (K := K) rfl) (by rfl) T.z_isinstance (by decide +kernel) (pa_cons (pv 0) (pa_cons (pe_bltn (v := .ty "int") (by rfl) T.z_int (by decide +kernel) rfl) pa_nil))) (pe_and (pe_notVT (K := K) rfl (pe_callB (call_isiU (K := K) rfl) (by rfl) T.z_isinstance (by decide +kernel) (pa_cons (pv 0) (pa_cons (pe_bltn (v := .ty "bool") (by rfl) T.z_bool (by decide +kernel) rfl) pa_nil)))) (pe_one (pe_cmpR (op_eqU rfl hr.units) (pv 0) (pv 1) (by first | exact nomark _ | rfl)))))))
    pss_nil)
    (pss_one (ps_ret (pe_and (pe_callB (call_isiU (K := K) rfl) (by rfl) T.z_isinstance (by decide +kernel) (pa_cons (pv 0) (pa_cons (pe_bltn (v := .ty "str") (by rfl) T.z_str (by decide +kernel) rfl) pa_nil))) (pe_one (pe_cmpR (op_eqU rfl hr.units) (pv 0) (pv 1) (by first | exact nomark _ | rfl)))))))))), ?_⟩
      exact body_of0 rfl h fun X hd => (dst_seq (dst_if (dt_tru (DEg.bor (dg_cb (cg_isi2 known_tuple known_list) (db_cons (db_var 1) (db_cons (DEg.bor (de_tup (da_cons (de_raw (.ty "tuple")) (da_cons (de_raw (.ty "list")) da_nil)))) db_nil)))))
    (dst_seq (dst_if (dt_or (dt_not (dt_tru (DEg.bor (dg_cb (cg_isi known_tuple) (db_cons (db_var 0) (db_cons (DEg.bor (de_raw (.ty "tuple"))) db_nil)))))) (dt_test (dg_op od_ne (DEg.bor (dg_cb cg_len (db_cons (db_var 0) db_nil))) (DEg.bor (dg_cb cg_len (db_cons (db_var 1) db_nil))))))
    (dst_ret (de_bl false))
    dst_next)
    (dst_ret (dg_cb cg_all (db_cons (DEg.bor (DEg.cln (df_lc (di_rng1 (db_cons (DEg.bor (dg_cb cg_len (db_cons (db_var 1) db_nil))) db_nil)) (dg_name 2) dt_yes (de_call0 dv_nil (ds_cons (dg_op od_ix (db_var 0) (db_var 2)) (ds_cons (dg_op od_ix (db_var 1) (db_var 2)) ds_nil)))))) db_nil))))
    dst_next)
    (dst_seq (dst_if (dt_test (dg_op od_isN (db_var 1) (DEg.bor de_non)))
    (dst_ret (dg_op od_isN (db_var 0) (DEg.bor de_non)))
    dst_next)
    (dst_seq (dst_if (dt_tru (DEg.bor (dg_cb (cg_isi known_bool) (db_cons (db_var 1) (db_cons (DEg.bor (de_raw (.ty "bool"))) db_nil)))))
    (dst_ret (de_andV (dg_cb (cg_isi known_bool) (db_cons (db_var 0) (db_cons (DEg.bor (de_raw (.ty "bool"))) db_nil))) (dg_op od_eq (db_var 0) (db_var 1))))
    dst_next)
    (dst_seq (dst_if (dt_tru (DEg.bor (dg_cb (cg_isi known_int) (db_cons (db_var 1) (db_cons (DEg.bor (de_raw (.ty "int"))) db_nil)))))
    (dst_ret (de_andV (dg_cb (cg_isi known_int) (db_cons (db_var 0) (db_cons (DEg.bor (de_raw (.ty "int"))) db_nil))) (de_andV (de_notVT (DEg.bor (dg_cb (cg_isi known_bool) (db_cons (db_var 0) (db_cons (DEg.bor (de_raw (.ty "bool"))) db_nil))))) (dg_op od_eq (db_var 0) (db_var 1)))))
    dst_next)
    (dst_ret (de_andV (dg_cb (cg_isi known_str) (db_cons (db_var 0) (db_cons (DEg.bor (de_raw (.ty "str"))) db_nil))) (dg_op od_eq (db_var 0) (db_var 1))))))))
theorem ok_law_exact {P : Program} {w : World} {K : PySem.W.Frag} {mg : Str → Option Value} {base : Heap} (T : Txt K mg) : ∃ fd, FnOk P w K mg base CX0 9 (He.ga K "_law_exact") fd P_law_exact (spD K (F_law_exact 8)) ∧ D_law_exact K (He.ga K "_law_exact") fd := by
  obtain ⟨fd, F⟩ := T.F_law_exact
  exact ⟨fd, (okR_law_exact T F 8).mono (by decide), F⟩
end Mine

namespace Mine
open PySem PySem.Spec PyProof.Rows L2
theorem ok_is_whole {P : Program} {w : World} {K : PySem.W.Frag} {mg : Str → Option Value} {base : Heap} (T : Txt K mg) : ∃ fd, FnOk P w K mg base CX0 1 (He.ga K "is_whole") fd P_is_whole (spD K F_is_whole) ∧ D_is_whole K (He.ga K "is_whole") fd := by
  obtain ⟨fd, F⟩ := T.F_is_whole
  refine ⟨fd, F.ok sc_is_whole (fun vs H Q E h => ?_) (fun cdv A outer s H vs Q E hr h => ?_), F⟩
  · rw [F_is_whole_eq] at h
    exact spD_len (np := 3) (fun _ _ _ h => h.1) vs H Q E h
  · rw [F_is_whole_eq] at h
    refine ⟨_, PSs.nox (pss_cons (ps_if (PW.pt (pw_or (pt_not (pt_tru rfl (pe_callB (call_isiU (K := K) rfl) (by rfl) T.z_isinstance (by decide +kernel) (pa_cons (pv 0) (pa_cons (pe_bltn (v := .ty "int") (by rfl) T.z_int (by decide +kernel) rfl) pa_nil))) (by intro _; rfl))) (pw_or1 (pt_tru rfl (pe_callB (call_isiU (K := K) rfl) (by rfl) T.z_isinstance (by decide +kernel) (pa_cons (pv 0) (pa_cons (pe_bltn (v := .ty "bool") (by rfl) T.z_bool (by decide +kernel) rfl) pa_nil))) (by intro _; rfl)))))
    (pss_one (ps_ret pe_bl))
    pss_nil)
    (pss_one (ps_ret (pe_and (pe_or (pe_cmpR op_isN (pv 1) pe_non (by first | exact nomark _ | rfl)) (pe_one (pe_cmpR op_ge (pv 0) (pv 1) (by first | exact nomark _ | rfl)))) (pe_one (pe_or (pe_cmpR op_isN (pv 2) pe_non (by first | exact nomark _ | rfl)) (pe_one (pe_cmpR op_le (pv 0) (pv 2) (by first | exact nomark _ | rfl))))))))), ?_⟩
    exact body_of0 rfl h fun X hd => (dst_seq (dst_if (dt_or (dt_not (dt_tru (DEg.bor (dg_cb (cg_isi known_int) (db_cons (db_var 0) (db_cons (DEg.bor (de_raw (.ty "int"))) db_nil)))))) (dt_tru (DEg.bor (dg_cb (cg_isi known_bool) (db_cons (db_var 0) (db_cons (DEg.bor (de_raw (.ty "bool"))) db_nil))))))
    (dst_ret (de_bl false))
    dst_next)
    (dst_ret (de_andV (de_orV (dg_op od_isN (db_var 1) (DEg.bor de_non)) (dg_op od_ge (db_var 0) (db_var 1))) (de_orV (dg_op od_isN (db_var 2) (DEg.bor de_non)) (dg_op od_le (db_var 0) (db_var 2))))))
end Mine

namespace Mine
open PySem PySem.Spec PyProof.Rows L2
theorem ok_check_number {P : Program} {w : World} {K : PySem.W.Frag} {mg : Str → Option Value} {base : Heap} (T : Txt K mg) : ∃ fd, FnOk P w K mg base (L2.CX P w) 2 (He.ga K "check_number") fd P_check_number (spD K F_check_number) ∧ D_check_number K (He.ga K "check_number") fd := by
  obtain ⟨fd, F⟩ := T.F_check_number
  obtain ⟨fd_is_whole, G_is_whole, D_is_whole⟩ := ok_is_whole (P := P) (w := w) (base := base) T
  have k_is_whole := D_is_whole.kp
  obtain ⟨ds_is_whole_3, r_is_whole_3, b_is_whole_3⟩ := bd_is_whole_3 D_is_whole
  refine ⟨fd, F.ok sc_check_number (fun vs H Q E h => ?_) (fun cdv A outer s H vs Q E hr h => ?_), F⟩
  · rw [F_check_number_eq] at h
    exact spD_len (np := 3) (fun _ _ _ h => h.1) vs H Q E h
  · rw [F_check_number_eq] at h
    refine ⟨_, (pss_cons (ps_if (pt_not (pt_tru rfl (pe_call G_is_whole (hr.mono (by decide)) rfl T.g_is_whole k_is_whole b_is_whole_3 r_is_whole_3 pass0 (pa_cons (pv 0) (pa_cons (pv 1) (pa_cons (pv 2) pa_nil)))) (by intro _; rfl)))
    (pss_one (ps_raise rfl (takes_of rfl rfl rfl rfl) (mk0 T.e_BadNumber T.g_BadNumber rfl)))
    pss_nil)
    (pss_one (ps_ret (pv 0)))), ?_⟩
    exact body_of rfl h fun X hd => (dst_seq (dst_if (dt_not (dt_tru (DEg.bor (de_call0 dv_nil (ds_cons (de_var 0) (ds_cons (de_var 1) (ds_cons (de_var 2) ds_nil)))))))
    (dst_raise rfl)
    dst_next)
    (dst_ret (de_var 0)))
end Mine

namespace Mine
open PySem PySem.Spec PyProof.Rows L2
theorem ok_fixed_places {P : Program} {w : World} {K : PySem.W.Frag} {mg : Str → Option Value} {base : Heap} (T : Txt K mg) : ∃ fd, FnOk P w K mg base CX0 1 (He.ga K "_fixed_places") fd P_fixed_places (spO K F_fixed_places) ∧ D_fixed_places K (He.ga K "_fixed_places") fd := by
  obtain ⟨fd, F⟩ := T.F_fixed_places
  refine ⟨fd, F.ok sc_fixed_places (fun vs H Q E h => ?_) (fun cdv A outer s H vs Q E hr h => ?_), F⟩
  · rw [F_fixed_places_eq] at h
    exact spO_len (np := 1) (fun _ _ _ h => h.1) vs H Q E h
  · rw [F_fixed_places_eq] at h
    refine ⟨_, PSs.nox (pss_cons (ps_set (i := 1) sc_fixed_places.nd rfl (by first | exact Or.inl rfl | exact Or.inr rfl) (pe_lst pa_nil))
    (pss_cons (ps_set (i := 2) sc_fixed_places.nd rfl (by first | exact Or.inl rfl | exact Or.inr rfl) pe_int)
    (pss_cons (ps_while PassesOwn.never (pt_cmpR op_le (pv 2) (pv 0) (by first | exact nomark _ | rfl))
    (pss_cons (ps_expr (pe_bm PySem.F.plainAttrs_list PySem.F.slot_list_append PySem.F.type_list_append mt_append (pv 1) (pa_cons (pv 2) pa_nil)))
    (pss_one (ps_set (i := 2) sc_fixed_places.nd rfl (by first | exact Or.inl rfl | exact Or.inr rfl) (pe_op op_mulU pe_int (pv 2))))))
    (pss_one (ps_ret (pv 1)))))), ?_⟩
    exact body_ofO0 rfl h fun X hd => (dso_seq (dst_own (df_lst da_nil))
    (dso_seq (dst_asg (de_int 1) (dg_name 2))
    (dso_seq (dst_while (dt_test (dg_op od_le (db_var 2) (db_var 0)))
    (dst_seq (dst_app (de_var 2))
    (dst_asg (dg_op od_mul (DEg.bor (de_int 2)) (db_var 2)) (dg_name 2))))
    (dso_own 1))))
end Mine

namespace Mine
open PySem PySem.Spec PyProof.Rows L2
theorem ok_free_places {P : Program} {w : World} {K : PySem.W.Frag} {mg : Str → Option Value} {base : Heap} (T : Txt K mg) : ∃ fd, FnOk P w K mg base (L2.CX P w) 3 (He.ga K "free_places") fd P_free_places (spD K F_free_places) ∧ D_free_places K (He.ga K "free_places") fd := by
  obtain ⟨fd, F⟩ := T.F_free_places
  obtain ⟨fd_check_number, G_check_number, D_check_number⟩ := ok_check_number (P := P) (w := w) (base := base) T
  have k_check_number := D_check_number.kp
  have b_check_number := bd_check_number D_check_number
  obtain ⟨fd_fixed_places, G_fixed_places, D_fixed_places⟩ := ok_fixed_places (P := P) (w := w) (base := base) T
  have k_fixed_places := D_fixed_places.kp
  have b_fixed_places := bd_fixed_places D_fixed_places
  refine ⟨fd, F.ok sc_free_places (fun vs H Q E h => ?_) (fun cdv A outer s H vs Q E hr h => ?_), F⟩
  · rw [F_free_places_eq] at h
    exact spD_len (np := 2) (fun _ _ _ h => h.1) vs H Q E h
  · rw [F_free_places_eq] at h
    refine ⟨_, (pss_cons (ps_expr (pe_call G_check_number (hr.mono (by decide)) rfl T.g_check_number k_check_number b_check_number .nil (E := E) (passes_call (takes_of rfl rfl rfl rfl) fun _ _ _ _ h => h) (pa_cons (pv 0) (pa_cons pe_int (pa_cons (pe_glob (v := .int (200)) rfl T.c_MOST_LENGTH_datas.choose_spec ⟨_, rfl⟩) pa_nil)))))
    (pss_cons (ps_set (i := 2) sc_free_places.nd rfl (by first | exact Or.inl rfl | exact Or.inr rfl) (pe_call G_fixed_places (hr.mono (by decide)) rfl T.g__fixed_places k_fixed_places b_fixed_places .nil pass0 (pa_cons (pv 0) pa_nil)))
    (pss_cons (ps_if (pt_tru rfl (pv 1) (by intro _; rfl))
    (pss_one (ps_expr (pe_bm PySem.F.plainAttrs_list PySem.F.slot_list_append PySem.F.type_list_append mt_append (pv 2) (pa_cons (pv 0) pa_nil))))
    pss_nil)
    (pss_one (ps_ret (pe_callTy (call_tupU (K := K) rfl) (by rfl) T.z_tuple (by decide +kernel) (pa_cons (pe_lc (own := [("place", 3)]) rfl sc_free_places.nd (pi_range2 (by rfl) T.z_range (pa_cons pe_int (pa_cons (pe_op (op_addU rfl) (pv 0) pe_int) pa_nil))) (blkOk_by (own := [("place", 3)]) (N := N_free_places) (sc := defScope s_free_places) (by decide +kernel)) (fun _ _ _ _ _ => (pg_name (i := 3) sc_free_places.nd rfl (by first | exact Or.inl rfl | exact Or.inr rfl))) (fun _ _ _ _ _ => (pts_one (pt_cmpR (op_notInU rfl (Room.u65 hr)) (pv 3) (pv 2) (by first | exact nomark _ | rfl)))) (fun _ _ _ _ _ => (pv 3))) pa_nil))))))), ?_⟩
    exact body_of rfl h fun X hd => (dst_seq (dst_drop (de_call rfl dv_nil (ds_cons (de_var 0) (ds_cons (de_int 1) (ds_cons (de_int (200)) ds_nil)))))
    (dst_seq (dst_own (df_callO0 dv_nil (ds_cons (de_var 0) ds_nil)))
    (dst_seq (dst_if (dt_tru (db_var 1))
    (dst_app (de_var 0))
    dst_next)
    (dst_ret (dg_cb cg_tup (db_cons (DEg.bor (DEg.cln (df_lc (di_rng2 (db_cons (DEg.bor (de_int 1)) (db_cons (DEg.bor (dg_op od_add (db_var 0) (DEg.bor (de_int 1)))) db_nil))) (dg_name 3) (dt_test (dg_op od_notIn (db_var 3) (db_var 2))) (de_var 3)))) db_nil))))))
end Mine

namespace Mine
open PySem PySem.Spec PyProof.Rows L2
theorem ok_law_either {P : Program} {w : World} {K : PySem.W.Frag} {mg : Str → Option Value} {base : Heap} (T : Txt K mg) : ∃ fd, FnOk P w K mg base CX0 3 (He.ga K "_law_either") fd P_law_either (spD K F_law_either) ∧ D_law_either K (He.ga K "_law_either") fd := by
  obtain ⟨fd, F⟩ := T.F_law_either
  obtain ⟨fd_law_take, G_law_take, D_law_take⟩ := ok_law_take (P := P) (w := w) (base := base) T
  have k_law_take := D_law_take.kp
  have b_law_take := bd_law_take D_law_take
  refine ⟨fd, F.ok sc_law_either (fun vs H Q E h => ?_) (fun cdv A outer s H vs Q E hr h => ?_), F⟩
  · rw [F_law_either_eq] at h
    exact spD_len (np := 2) (fun _ _ _ h => h.1) vs H Q E h
  · rw [F_law_either_eq] at h
    refine ⟨_, PSs.nox (pss_one (ps_ret (pe_ifExp (pt_cmpR (op_eqU rfl hr.units) (pe_call G_law_take (hr.mono (by decide)) rfl T.g__law_take k_law_take b_law_take .nil pass0 (pa_cons (pv 0) (pa_cons pe_int pa_nil))) pe_int (by first | exact nomark _ | rfl)) (pe_callTy (call_lstU (K := K) rfl) (by rfl) T.z_list (by decide +kernel) (pa_cons (pv 1) pa_nil)) (pe_callTy (call_tupU (K := K) rfl) (by rfl) T.z_tuple (by decide +kernel) (pa_cons (pv 1) pa_nil))))), ?_⟩
    exact body_of0 rfl h fun X hd => (dst_ret (dg_if (dt_test (dg_op od_eq (DEg.bor (de_call0 dv_nil (ds_hand (i := 0) (ds_cons (de_int 2) ds_nil)))) (DEg.bor (de_int 0)))) (DEg.cln (dg_cb cg_lst (db_cons (db_var 1) db_nil))) (dg_cb cg_tup (db_cons (db_var 1) db_nil))))
end Mine

namespace Mine
open PySem PySem.Spec PyProof.Rows L2
theorem ok_law_sum {P : Program} {w : World} {K : PySem.W.Frag} {mg : Str → Option Value} {base : Heap} (T : Txt K mg) : ∃ fd, FnOk P w K mg base CX0 1 (He.ga K "_law_sum") fd P_law_sum (spD K F_law_sum) ∧ D_law_sum K (He.ga K "_law_sum") fd := by
  obtain ⟨fd, F⟩ := T.F_law_sum
  refine ⟨fd, F.ok sc_law_sum (fun vs H Q E h => ?_) (fun cdv A outer s H vs Q E hr h => ?_), F⟩
  · rw [F_law_sum_eq] at h
    exact spD_len (np := 1) (fun _ _ _ h => h.1) vs H Q E h
  · rw [F_law_sum_eq] at h
    refine ⟨_, PSs.nox (pss_one (ps_ret (pe_callB (CallR.k (r := rSumA) (K := K) (cr_sumA rfl) rfl) (by rfl) T.z_sum (by decide +kernel) (pa_cons (pe_lc (own := [("_law_k", 1)]) rfl sc_law_sum.nd (pi_range1 (by rfl) T.z_range (pa_cons (pe_callB (call_lenU (K := K) rfl) (by rfl) T.z_len (by decide +kernel) (pa_cons (pv 0) pa_nil)) pa_nil)) (blkOk_by (own := [("_law_k", 1)]) (N := N_law_sum) (sc := defScope s_law_sum) (by decide +kernel)) (fun _ _ _ _ _ => (pg_name (i := 1) sc_law_sum.nd rfl (by first | exact Or.inl rfl | exact Or.inr rfl))) (fun _ _ _ _ _ => pts_nil) (fun _ _ _ _ _ => (pe_op op_mulU (pe_op (op_addU rfl) (pv 1) pe_int) (pe_ix (ix_U (K := K) rfl) (pv 0) (pv 1) (fun _ _ => rfl))))) pa_nil)))), ?_⟩
    exact body_of0 rfl h fun X hd => (dst_ret (dg_cb cg_sum (db_cons (DEg.bor (DEg.cln (df_lc (di_rng1 (db_cons (DEg.bor (dg_cb cg_len (db_cons (db_var 0) db_nil))) db_nil)) (dg_name 1) dt_yes (dg_op od_mul (DEg.bor (dg_op od_add (db_var 1) (DEg.bor (de_int 1)))) (DEg.bor (dg_op od_ix (db_var 0) (db_var 1))))))) db_nil)))
end Mine

namespace Mine
open PySem PySem.Spec PyProof.Rows L2
theorem ok_law_data {P : Program} {w : World} {K : PySem.W.Frag} {mg : Str → Option Value} {base : Heap} (T : Txt K mg) : ∃ fd, FnOk P w K mg base CX0 3 (He.ga K "_law_data") fd P_law_data (spD K F_law_data) ∧ D_law_data K (He.ga K "_law_data") fd := by
  obtain ⟨fd, F⟩ := T.F_law_data
  obtain ⟨fd_law_free, G_law_free, D_law_free⟩ := ok_law_free (P := P) (w := w) (base := base) T
  have k_law_free := D_law_free.kp
  have b_law_free := bd_law_free D_law_free
  obtain ⟨fd_law_sum, G_law_sum, D_law_sum⟩ := ok_law_sum (P := P) (w := w) (base := base) T
  have k_law_sum := D_law_sum.kp
  have b_law_sum := bd_law_sum D_law_sum
  obtain ⟨fd_law_doubling, G_law_doubling, D_law_doubling⟩ := ok_law_doubling (P := P) (w := w) (base := base) T
  have k_law_doubling := D_law_doubling.kp
  have b_law_doubling := bd_law_doubling D_law_doubling
  refine ⟨fd, F.ok sc_law_data (fun vs H Q E h => ?_) (fun cdv A outer s H vs Q E hr h => ?_), F⟩
  · rw [F_law_data_eq] at h
    exact spD_len (np := 4) (fun _ _ _ h => h.1) vs H Q E h
  · rw [F_law_data_eq] at h
    refine ⟨_, PSs.nox (pss_cons (ps_set (i := 4) sc_law_data.nd rfl (by first | exact Or.inl rfl | exact Or.inr rfl) (pe_ifExp (pt_tru rfl (pv 3) (by intro _; rfl)) (pe_op op_mulU pe_int (pv 0)) (pe_op (op_addU rfl) (pv 0) pe_int)))
    (pss_cons (ps_set (i := 5) sc_law_data.nd rfl (by first | exact Or.inl rfl | exact Or.inr rfl) (pe_call G_law_free (hr.mono (by decide)) rfl T.g__law_free k_law_free b_law_free .nil pass0 (pa_cons (pv 0) (pa_cons (pv 3) pa_nil))))
    (pss_cons (ps_set (i := 6) sc_law_data.nd rfl (by first | exact Or.inl rfl | exact Or.inr rfl) (pe_op op_mulU (pe_lst (pa_cons pe_int pa_nil)) (pv 0)))
    (pss_cons (ps_for PassesOwn.never rfl (pi_range1 (by rfl) T.z_range (pa_cons (pe_callB (call_lenU (K := K) rfl) (by rfl) T.z_len (by decide +kernel) (pa_cons (pv 5) pa_nil)) pa_nil)) (pg_name (i := 7) sc_law_data.nd rfl (by first | exact Or.inl rfl | exact Or.inr rfl))
    (pss_one (ps_asg (pe_ix (ix_U (K := K) rfl) (pv 2) (pv 7) (fun _ _ => rfl)) (pg_sub (pv 6) (pe_op op_sub (pe_ix (ix_U (K := K) rfl) (pv 5) (pv 7) (fun _ _ => rfl)) pe_int) set_list))))
    (pss_cons (ps_set (i := 8) sc_law_data.nd rfl (by first | exact Or.inl rfl | exact Or.inr rfl) (pe_op op_mod (pe_callTy call_intU (by rfl) T.z_int (by decide +kernel) (pa_cons (pe_op op_sub (pv 1) (pe_call G_law_sum (hr.mono (by decide)) rfl T.g__law_sum k_law_sum b_law_sum .nil pass0 (pa_cons (pv 6) pa_nil))) pa_nil)) (pv 4)))
    (pss_cons (ps_set (i := 9) sc_law_data.nd rfl (by first | exact Or.inl rfl | exact Or.inr rfl) (pe_call G_law_doubling (hr.mono (by decide)) rfl T.g__law_doubling k_law_doubling b_law_doubling .nil pass0 (pa_cons (pv 0) pa_nil)))
    (pss_cons (ps_if (PW.pt (pw_and (pt_tru rfl (pv 3) (by intro _; rfl)) (pw_and (pt_cmpR (op_notInU rfl (Room.u65 hr)) (pv 0) (pv 9) (by first | exact nomark _ | rfl)) (pw_and1 (pt_cmpR op_gt (pv 8) (pe_callB (CallR.k (r := rSumA) (K := K) (cr_sumA rfl) rfl) (by rfl) T.z_sum (by decide +kernel) (pa_cons (pv 9) pa_nil)) (by first | exact nomark _ | rfl))))))
    (pss_cons (ps_asg pe_int (pg_sub (pv 6) (pe_op op_sub (pv 0) pe_int) set_list))
    (pss_one (ps_set (i := 8) sc_law_data.nd rfl (by first | exact Or.inl rfl | exact Or.inr rfl) (pe_op op_sub (pv 8) (pv 0)))))
    pss_nil)
    (pss_cons (ps_for PassesOwn.never rfl (pi_seq (pv 9)) (pg_name (i := 10) sc_law_data.nd rfl (by first | exact Or.inl rfl | exact Or.inr rfl))
    (pss_one (ps_asg (pe_op op_mod (pe_callTy call_intU (by rfl) T.z_int (by decide +kernel) (pa_cons (pe_op op_fdiv (pv 8) (pv 10)) pa_nil)) pe_int) (pg_sub (pv 6) (pe_op op_sub (pv 10) pe_int) set_list))))
    (pss_one (ps_ret (pe_callTy (call_tupU (K := K) rfl) (by rfl) T.z_tuple (by decide +kernel) (pa_cons (pv 6) pa_nil)))))))))))), ?_⟩
    exact body_of0 rfl h fun X hd => (dst_seq (dst_asg (dg_if (dt_tru (db_var 3)) (dg_op od_mul (DEg.bor (de_int 2)) (db_var 0)) (dg_op od_add (db_var 0) (DEg.bor (de_int 1)))) (dg_name 4))
    (dst_of S_law_data_r2_eq
    (dst_seq (dst_asg (de_call0 dv_nil (ds_cons (de_var 0) (ds_cons (de_var 3) ds_nil))) (dg_name 5))
    (dst_of S_law_data_r3_eq
    (dst_seq (dst_own (dg_op od_mulL (DEg.bor (DEg.cln (df_lst (da_cons (de_int 0) da_nil)))) (db_var 0)))
    (dst_of S_law_data_r4_eq
    (dst_seq (dst_for (di_rng1 (db_cons (DEg.bor (dg_cb cg_len (db_cons (db_var 5) db_nil))) db_nil)) (dg_name 7)
    (dst_of S_law_data_b5_eq
    (dst_put (dg_op od_ix (db_var 2) (db_var 7)) (dg_op od_sub (DEg.bor (dg_op od_ix (db_var 5) (db_var 7))) (DEg.bor (de_int 1))))))
    (dst_of S_law_data_r6_eq
    (dst_seq (dst_keep (i := 6) (j := 8) (dg_op od_mod (DEg.bor (dg_cb cg_int (db_cons (DEg.bor (dg_op od_sub (db_var 1) (DEg.bor (de_call0 dv_nil (ds_cons (de_var 6) ds_nil))))) db_nil))) (db_var 4)))
    (dst_of S_law_data_r7_eq
    (dst_seq (dst_asg (de_call0 dv_nil (ds_cons (de_var 0) ds_nil)) (dg_name 9))
    (dst_of S_law_data_r8_eq
    (dst_seq (dst_if (dt_and (dt_tru (db_var 3)) (dt_and (dt_test (dg_op od_notIn (db_var 0) (db_var 9))) (dt_test (dg_op od_gt (db_var 8) (DEg.bor (dg_cb cg_sum (db_cons (db_var 9) db_nil)))))))
    (dst_seq (dst_put (de_int 1) (dg_op od_sub (db_var 0) (DEg.bor (de_int 1))))
    (dst_of S_law_data_r10_eq
    (dst_asg (dg_op od_sub (db_var 8) (db_var 0)) (dg_name 8))))
    dst_next)
    (dst_of S_law_data_r11_eq
    (dst_seq (dst_for (di_seq (R := Cln) (de_var 9)) (dg_name 10)
    (dst_of S_law_data_b12_eq
    (dst_put (dg_op od_mod (DEg.bor (dg_cb cg_int (db_cons (DEg.bor (dg_op od_fdiv (db_var 8) (db_var 10))) db_nil))) (DEg.bor (de_int 2))) (dg_op od_sub (db_var 10) (DEg.bor (de_int 1))))))
    (dst_of S_law_data_r13_eq
    (dst_ret (dg_cb cg_tup (db_cons (db_var 6) db_nil)))))))))))))))))))
end Mine

namespace Mine
open PySem PySem.Spec PyProof.Rows L2
local macro_rules | `(tactic| walk_at "rd") => `(tactic| try simp only [tMk1, iEnumA, iSeq, tPar3, tAugS, ipI, rRepA, rIxA, tCallSD, rExtend, tDNewK, iZipS, tXf, tSeq, tAsg, tCB, tCons, tNil, tVar, tOp, tUn, rI, rI0, rU, gName, gNil, gCons, gSub, rSetL, tC, tRet, tRetN, tNext, tIfS, tTest, tB, tAnd, tOr, tNot, tAndV, tOrV, tNotV, tIf,
  tDrop, tCall, tCallS, tPar, tAug, ipI, tBreak, tCont, tTup, tLst, rEq_int, rNe_int, rEq_bl, rNe_bl, rEq_str, rNe_str, HO.lst.injEq, HO.tup.injEq, Bool.not_eq_true', decide_eq_false_iff_not, rIxH, rIxTH, rCat, tSl, tPart, tNoPart, tBM, rAppend, L2.start, tFor_eq, tLc_eq, iList, iTup, iRng1, iRng2, iEnum, iZip, cx_K, cx_prog, cx_w, cx_nK, forall_const, tYes, wipe, List.foldl_cons, List.foldl_nil, and_assoc, List.map_cons, List.map_nil, List.length_cons, List.length_nil, List.replicate, List.append_nil, List.cons_append, List.nil_append,
  List.getElem?_cons_zero, List.getElem?_cons_succ, List.set_cons_zero, List.set_cons_succ, Nat.zero_add, Nat.add_zero, Nat.reduceAdd, Nat.reduceSub, Option.some.injEq, V.int.injEq, V.bl.injEq, V.ref.injEq, V.str.injEq,
  List.cons.injEq, and_true, true_and, exists_eq_left, exists_eq_left', exists_eq_right, exists_const, exists_eq, exists_and_left, exists_and_right, upd_same, upd_upd, atI_0, atI_1, atI_2, atI_3, ixN_4_0, ixN_4_1, ixN_4_2, ixN_4_3, some_lst, some_tup, decide_eq_true_eq, reduceCtorEq,
  V.int.injEq, Bool.true_eq_false, Bool.false_eq_true, if_true, if_false, ite_true, ite_false, eq_self, not_true_eq_false, not_false_eq_true, decide_true, decide_false, Bool.not_true, Bool.not_false, false_and, and_false, exists_false])
local macro_rules | `(tactic| walk_at "mono") => `(tactic| repeat (first | with_reducible exact mon_var _ | with_reducible exact mon_c _ | with_reducible exact mon_rI _ _ | with_reducible exact mon_rI0 _ | with_reducible exact mon_rEq | with_reducible exact mon_rNe | with_reducible refine mon_test ?_ | with_reducible refine mon_op ?_ ?_ ?_ | with_reducible refine mon_and ?_ ?_ | with_reducible refine mon_or ?_ ?_ | with_reducible exact mon_rU _ | with_reducible refine mon_un ?_ ?_))
local macro_rules | `(tactic| walk_at "sd") => `(tactic| first | assumption | omega | (unfold CMul; omega) | (unfold CDiv; omega) | rfl | decide)
local macro_rules | `(tactic| walk_at "go") => `(tactic| repeat (refine And.intro (by first | assumption | omega | exact tyL (by assumption) | (unfold CMul; omega) | (unfold CDiv; omega) | rfl | decide) ?_))
theorem ok_BadBits___init {P : Program} {w : World} {K : PySem.W.Frag} {mg : Str → Option Value} {base : Heap} (T : Txt K mg) : ∃ fd, FnOk P w K mg base CX0 1 (He.ma K (He.ga K "BadBits") "__init__") fd P_BadBits___init (spFld (He.ga K "BadBits") "index") ∧ D_BadBits___init K (He.ma K (He.ga K "BadBits") "__init__") fd := by
  obtain ⟨fd, F⟩ := T.F_BadBits___init
  refine ⟨fd, F.ok sc_BadBits___init (fun vs H Q E h => ?_) (fun cdv A outer s H vs Q E hr h => ?_), F⟩
  · obtain ⟨a, v, rfl, _⟩ := h
    rfl
  ·
    obtain ⟨a, v, rfl, ha, q⟩ := h
    refine ⟨_, PSs.nox (pss_one (ps_ost (pv 0) (pv 1))), ?_⟩
    simp only [tMk1, iEnumA, iSeq, tPar3, tAugS, ipI, rRepA, rIxA, tCallSD, rExtend, tDNewK, iZipS, tXf, tSeq, tAsg, tCB, tCons, tNil, tVar, tOp, tUn, rI, rI0, rU, gName, gNil, gCons, gSub, rSetL, tC, tRet, tRetN, tNext, tIfS, tTest, tB, tAnd, tOr, tNot, tAndV, tOrV, tNotV, tIf,
  tDrop, tCall, tCallS, tPar, tAug, ipI, tBreak, tCont, tTup, tLst, rEq_int, rNe_int, rEq_bl, rNe_bl, rEq_str, rNe_str, HO.lst.injEq, HO.tup.injEq, Bool.not_eq_true', decide_eq_false_iff_not, rIxH, rIxTH, rCat, tSl, tPart, tNoPart, tBM, rAppend, L2.start, tFor_eq, tLc_eq, iList, iTup, iRng1, iRng2, iEnum, iZip, cx_K, cx_prog, cx_w, cx_nK, forall_const, tYes, wipe, List.foldl_cons, List.foldl_nil, and_assoc, List.map_cons, List.map_nil, List.length_cons, List.length_nil, List.replicate, List.append_nil, List.cons_append, List.nil_append,
  List.getElem?_cons_zero, List.getElem?_cons_succ, List.set_cons_zero, List.set_cons_succ, Nat.zero_add, Nat.add_zero, Nat.reduceAdd, Nat.reduceSub, Option.some.injEq, V.int.injEq, V.bl.injEq, V.ref.injEq, V.str.injEq,
  List.cons.injEq, and_true, true_and, exists_eq_left, exists_eq_left', exists_eq_right, exists_const, exists_eq, exists_and_left, exists_and_right, upd_same, upd_upd, atI_0, atI_1, atI_2, atI_3, ixN_4_0, ixN_4_1, ixN_4_2, ixN_4_3, some_lst, some_tup, decide_eq_true_eq, reduceCtorEq,
  V.int.injEq, Bool.true_eq_false, Bool.false_eq_true, if_true, if_false, ite_true, ite_false, eq_self, not_true_eq_false, not_false_eq_true, decide_true, decide_false, Bool.not_true, Bool.not_false, false_and, and_false, exists_false, tOst]
    exact ⟨_, T.x_BadBits.o, T.n_BadBits_is_index, .inl ⟨ha, fun dx h1 h2 => q dx h1 h2⟩⟩
end Mine

namespace Mine
open PySem PySem.Spec PyProof.Rows L2
theorem ok_check_bits {P : Program} {w : World} {K : PySem.W.Frag} {mg : Str → Option Value} {base : Heap} (T : Txt K mg) : ∃ fd, FnOk P w K mg base (L2.CX P w) 3 (He.ga K "_check_bits") fd P_check_bits (spD K F_check_bits) ∧ D_check_bits K (He.ga K "_check_bits") fd := by
  obtain ⟨fd, F⟩ := T.F_check_bits
  obtain ⟨fd_BadBits___init, G_BadBits___init, D_BadBits___init⟩ := ok_BadBits___init (P := P) (w := w) (base := base) T
  have k_BadBits___init := D_BadBits___init.kp
  have b_BadBits___init := bd_BadBits___init D_BadBits___init
  obtain ⟨fd_is_whole, G_is_whole, D_is_whole⟩ := ok_is_whole (P := P) (w := w) (base := base) T
  have k_is_whole := D_is_whole.kp
  obtain ⟨ds_is_whole_3, r_is_whole_3, b_is_whole_3⟩ := bd_is_whole_3 D_is_whole
  refine ⟨fd, F.ok sc_check_bits (fun vs H Q E h => ?_) (fun cdv A outer s H vs Q E hr h => ?_), F⟩
  · rw [F_check_bits_eq] at h
    exact spD_len (np := 2) (fun _ _ _ h => h.1) vs H Q E h
  · rw [F_check_bits_eq] at h
    refine ⟨_, (pss_cons (ps_if (PW.pt (pw_or (pt_not (pt_tru rfl (pe_callB (call_isiTU (K := K) rfl) (by rfl) T.z_isinstance (by decide +kernel) (pa_cons (pv 0) (pa_cons (pe_tup (pa_cons (pe_bltn (v := .ty "list") (by rfl) T.z_list (by decide +kernel) rfl) (pa_cons (pe_bltn (v := .ty "tuple") (by rfl) T.z_tuple (by decide +kernel) rfl) pa_nil))) pa_nil))) (by intro _; rfl))) (pw_or1 (pt_cmpR (op_neU rfl hr.units) (pe_callB (call_lenU (K := K) rfl) (by rfl) T.z_len (by decide +kernel) (pa_cons (pv 0) pa_nil)) (pv 1) (by first | exact nomark _ | rfl)))))
    (pss_one (ps_raise rfl (takes_of rfl rfl rfl rfl) (mk1 T.x_BadBits T.g_BadBits G_BadBits___init b_BadBits___init (hr.mono (by decide)) (mon_un (mon_rU _) (mon_c _)) (pe_un un_neg pe_int) rfl)))
    pss_nil)
    (pss_cons (ps_for (passes_of rfl) rfl (pi_enumA (by rfl) T.z_enumerate (pa_cons (pv 0) pa_nil)) (pg_tupK (K := K) (n := 2) rfl (by rfl) (pgs_cons (pg_name (i := 2) sc_check_bits.nd rfl (by first | exact Or.inl rfl | exact Or.inr rfl)) (pgs_cons (pg_name (i := 3) sc_check_bits.nd rfl (by first | exact Or.inl rfl | exact Or.inr rfl)) pgs_nil)))
    (pss_one (ps_if (pt_not (pt_tru rfl (pe_call G_is_whole (hr.mono (by decide)) rfl T.g_is_whole k_is_whole b_is_whole_3 r_is_whole_3 pass0 (pa_cons (pv 3) (pa_cons pe_int (pa_cons pe_int pa_nil)))) (by intro _; rfl)))
    (pss_one (ps_raise rfl (takes_of rfl rfl rfl rfl) (mk1 T.x_BadBits T.g_BadBits G_BadBits___init b_BadBits___init (hr.mono (by decide)) (mon_var _) (pv 2) rfl)))
    pss_nil)))
    (pss_one (ps_ret (pe_callTy (call_tupU (K := K) rfl) (by rfl) T.z_tuple (by decide +kernel) (pa_cons (pv 0) pa_nil)))))), ?_⟩
    exact body_of rfl h fun X hd => (dst_seq (dst_if (dt_or (dt_not (dt_tru (DEg.bor (dg_cb (cg_isi2 known_list known_tuple) (db_cons (db_var 0) (db_cons (DEg.bor (de_tup (da_cons (de_raw (.ty "list")) (da_cons (de_raw (.ty "tuple")) da_nil)))) db_nil)))))) (dt_test (dg_op od_ne (DEg.bor (dg_cb cg_len (db_cons (db_var 0) db_nil))) (db_var 1))))
    (dst_raise1 rfl (de_un ud_neg (DEg.bor (de_int 1))))
    dst_next)
    (dst_seq (dst_for (di_enum (R := Cln) (de_var 0)) (dg_two 2 3)
    (dst_if (dt_not (dt_tru (DEg.bor (de_call0 dv_nil (ds_cons (de_var 3) (ds_cons (de_int 0) (ds_cons (de_int 1) ds_nil)))))))
    (dst_raise1 rfl (de_var 2))
    dst_next))
    (dst_ret (dg_cb cg_tup (db_cons (db_var 0) db_nil)))))
end Mine

namespace Mine
open PySem PySem.Spec PyProof.Rows L2
theorem ok_sum_of {P : Program} {w : World} {K : PySem.W.Frag} {mg : Str → Option Value} {base : Heap} (T : Txt K mg) : ∃ fd, FnOk P w K mg base CX0 1 (He.ga K "_sum_of") fd P_sum_of (spD K F_sum_of) ∧ D_sum_of K (He.ga K "_sum_of") fd := by
  obtain ⟨fd, F⟩ := T.F_sum_of
  refine ⟨fd, F.ok sc_sum_of (fun vs H Q E h => ?_) (fun cdv A outer s H vs Q E hr h => ?_), F⟩
  · rw [F_sum_of_eq] at h
    exact spD_len (np := 1) (fun _ _ _ h => h.1) vs H Q E h
  · rw [F_sum_of_eq] at h
    refine ⟨_, PSs.nox (pss_one (ps_ret (pe_callB (CallR.k (r := rSumA) (K := K) (cr_sumA rfl) rfl) (by rfl) T.z_sum (by decide +kernel) (pa_cons (pe_lc (own := [("place", 1), ("letter", 2)]) rfl sc_sum_of.nd (pi_enumTk (k := 1) (by decide) (by rfl) T.z_enumerate (pa_cons (pv 0) pa_nil)) (blkOk_by (own := [("place", 1), ("letter", 2)]) (N := N_sum_of) (sc := defScope s_sum_of) (by decide +kernel)) (fun _ _ _ _ _ => (pg_tupK (K := K) (n := 2) rfl (by rfl) (pgs_cons (pg_name (i := 1) sc_sum_of.nd rfl (by first | exact Or.inl rfl | exact Or.inr rfl)) (pgs_cons (pg_name (i := 2) sc_sum_of.nd rfl (by first | exact Or.inl rfl | exact Or.inr rfl)) pgs_nil)))) (fun _ _ _ _ _ => (pts_one (pt_cmpR (op_eqU rfl hr.units) (pv 2) pe_int (by first | exact nomark _ | rfl)))) (fun _ _ _ _ _ => (pv 1))) pa_nil)))), ?_⟩
    exact body_of0 rfl h fun X hd => (dst_ret (dg_cb cg_sum (db_cons (DEg.bor (DEg.cln (df_lc (di_enumK (R := Bor) (k := 1) (db_var 0)) (dg_two 1 2) (dt_test (dg_op od_eq (db_var 2) (DEg.bor (de_int 1)))) (de_var 1)))) db_nil)))
end Mine

namespace Mine
open PySem PySem.Spec PyProof.Rows L2
local macro_rules | `(tactic| walk_at "rd") => `(tactic| try simp only [tMk1, iEnumA, iSeq, tPar3, tAugS, ipI, rRepA, rIxA, tCallSD, rExtend, tDNewK, iZipS, tXf, tSeq, tAsg, tCB, tCons, tNil, tVar, tOp, tUn, rI, rI0, rU, gName, gNil, gCons, gSub, rSetL, tC, tRet, tRetN, tNext, tIfS, tTest, tB, tAnd, tOr, tNot, tAndV, tOrV, tNotV, tIf,
  tDrop, tCall, tCallS, tPar, tAug, ipI, tBreak, tCont, tTup, tLst, rEq_int, rNe_int, rEq_bl, rNe_bl, rEq_str, rNe_str, HO.lst.injEq, HO.tup.injEq, Bool.not_eq_true', decide_eq_false_iff_not, rIxH, rIxTH, rCat, tSl, tPart, tNoPart, tBM, rAppend, L2.start, tFor_eq, tLc_eq, iList, iTup, iRng1, iRng2, iEnum, iZip, cx_K, cx_prog, cx_w, cx_nK, forall_const, tYes, wipe, List.foldl_cons, List.foldl_nil, and_assoc, List.map_cons, List.map_nil, List.length_cons, List.length_nil, List.replicate, List.append_nil, List.cons_append, List.nil_append,
  List.getElem?_cons_zero, List.getElem?_cons_succ, List.set_cons_zero, List.set_cons_succ, Nat.zero_add, Nat.add_zero, Nat.reduceAdd, Nat.reduceSub, Option.some.injEq, V.int.injEq, V.bl.injEq, V.ref.injEq, V.str.injEq,
  List.cons.injEq, and_true, true_and, exists_eq_left, exists_eq_left', exists_eq_right, exists_const, exists_eq, exists_and_left, exists_and_right, upd_same, upd_upd, atI_0, atI_1, atI_2, atI_3, ixN_4_0, ixN_4_1, ixN_4_2, ixN_4_3, some_lst, some_tup, decide_eq_true_eq, reduceCtorEq,
  V.int.injEq, Bool.true_eq_false, Bool.false_eq_true, if_true, if_false, ite_true, ite_false, eq_self, not_true_eq_false, not_false_eq_true, decide_true, decide_false, Bool.not_true, Bool.not_false, false_and, and_false, exists_false])
local macro_rules | `(tactic| walk_at "mono") => `(tactic| repeat (first | with_reducible exact mon_var _ | with_reducible exact mon_c _ | with_reducible exact mon_rI _ _ | with_reducible exact mon_rI0 _ | with_reducible exact mon_rEq | with_reducible exact mon_rNe | with_reducible refine mon_test ?_ | with_reducible refine mon_op ?_ ?_ ?_ | with_reducible refine mon_and ?_ ?_ | with_reducible refine mon_or ?_ ?_ | with_reducible exact mon_rU _ | with_reducible refine mon_un ?_ ?_))
local macro_rules | `(tactic| walk_at "sd") => `(tactic| first | assumption | omega | (unfold CMul; omega) | (unfold CDiv; omega) | rfl | decide)
local macro_rules | `(tactic| walk_at "go") => `(tactic| repeat (refine And.intro (by first | assumption | omega | exact tyL (by assumption) | (unfold CMul; omega) | (unfold CDiv; omega) | rfl | decide) ?_))
theorem ok_BadWord___init {P : Program} {w : World} {K : PySem.W.Frag} {mg : Str → Option Value} {base : Heap} (T : Txt K mg) : ∃ fd, FnOk P w K mg base CX0 1 (He.ma K (He.ga K "BadWord") "__init__") fd P_BadWord___init (spFld (He.ga K "BadWord") "index") ∧ D_BadWord___init K (He.ma K (He.ga K "BadWord") "__init__") fd := by
  obtain ⟨fd, F⟩ := T.F_BadWord___init
  refine ⟨fd, F.ok sc_BadWord___init (fun vs H Q E h => ?_) (fun cdv A outer s H vs Q E hr h => ?_), F⟩
  · obtain ⟨a, v, rfl, _⟩ := h
    rfl
  ·
    obtain ⟨a, v, rfl, ha, q⟩ := h
    refine ⟨_, PSs.nox (pss_one (ps_ost (pv 0) (pv 1))), ?_⟩
    simp only [tMk1, iEnumA, iSeq, tPar3, tAugS, ipI, rRepA, rIxA, tCallSD, rExtend, tDNewK, iZipS, tXf, tSeq, tAsg, tCB, tCons, tNil, tVar, tOp, tUn, rI, rI0, rU, gName, gNil, gCons, gSub, rSetL, tC, tRet, tRetN, tNext, tIfS, tTest, tB, tAnd, tOr, tNot, tAndV, tOrV, tNotV, tIf,
  tDrop, tCall, tCallS, tPar, tAug, ipI, tBreak, tCont, tTup, tLst, rEq_int, rNe_int, rEq_bl, rNe_bl, rEq_str, rNe_str, HO.lst.injEq, HO.tup.injEq, Bool.not_eq_true', decide_eq_false_iff_not, rIxH, rIxTH, rCat, tSl, tPart, tNoPart, tBM, rAppend, L2.start, tFor_eq, tLc_eq, iList, iTup, iRng1, iRng2, iEnum, iZip, cx_K, cx_prog, cx_w, cx_nK, forall_const, tYes, wipe, List.foldl_cons, List.foldl_nil, and_assoc, List.map_cons, List.map_nil, List.length_cons, List.length_nil, List.replicate, List.append_nil, List.cons_append, List.nil_append,
  List.getElem?_cons_zero, List.getElem?_cons_succ, List.set_cons_zero, List.set_cons_succ, Nat.zero_add, Nat.add_zero, Nat.reduceAdd, Nat.reduceSub, Option.some.injEq, V.int.injEq, V.bl.injEq, V.ref.injEq, V.str.injEq,
  List.cons.injEq, and_true, true_and, exists_eq_left, exists_eq_left', exists_eq_right, exists_const, exists_eq, exists_and_left, exists_and_right, upd_same, upd_upd, atI_0, atI_1, atI_2, atI_3, ixN_4_0, ixN_4_1, ixN_4_2, ixN_4_3, some_lst, some_tup, decide_eq_true_eq, reduceCtorEq,
  V.int.injEq, Bool.true_eq_false, Bool.false_eq_true, if_true, if_false, ite_true, ite_false, eq_self, not_true_eq_false, not_false_eq_true, decide_true, decide_false, Bool.not_true, Bool.not_false, false_and, and_false, exists_false, tOst]
    exact ⟨_, T.x_BadWord.o, T.n_BadWord_is_index, .inl ⟨ha, fun dx h1 h2 => q dx h1 h2⟩⟩
end Mine

namespace Mine
open PySem PySem.Spec PyProof.Rows L2
theorem ok_check_word {P : Program} {w : World} {K : PySem.W.Frag} {mg : Str → Option Value} {base : Heap} (T : Txt K mg) : ∃ fd, FnOk P w K mg base (L2.CX P w) 3 (He.ga K "check_word") fd P_check_word (spD K F_check_word) ∧ D_check_word K (He.ga K "check_word") fd := by
  obtain ⟨fd, F⟩ := T.F_check_word
  obtain ⟨fd_BadWord___init, G_BadWord___init, D_BadWord___init⟩ := ok_BadWord___init (P := P) (w := w) (base := base) T
  have k_BadWord___init := D_BadWord___init.kp
  have b_BadWord___init := bd_BadWord___init D_BadWord___init
  obtain ⟨fd_is_whole, G_is_whole, D_is_whole⟩ := ok_is_whole (P := P) (w := w) (base := base) T
  have k_is_whole := D_is_whole.kp
  obtain ⟨ds_is_whole_3, r_is_whole_3, b_is_whole_3⟩ := bd_is_whole_3 D_is_whole
  refine ⟨fd, F.ok sc_check_word (fun vs H Q E h => ?_) (fun cdv A outer s H vs Q E hr h => ?_), F⟩
  · rw [F_check_word_eq] at h
    exact spD_len (np := 3) (fun _ _ _ h => h.1) vs H Q E h
  · rw [F_check_word_eq] at h
    refine ⟨_, (pss_cons (ps_if (PW.pt (pw_or (pt_not (pt_tru rfl (pe_callB (call_isiTU (K := K) rfl) (by rfl) T.z_isinstance (by decide +kernel) (pa_cons (pv 1) (pa_cons (pe_tup (pa_cons (pe_bltn (v := .ty "list") (by rfl) T.z_list (by decide +kernel) rfl) (pa_cons (pe_bltn (v := .ty "tuple") (by rfl) T.z_tuple (by decide +kernel) rfl) pa_nil))) pa_nil))) (by intro _; rfl))) (pw_or1 (pt_cmpR op_gt (pe_callB (call_lenU (K := K) rfl) (by rfl) T.z_len (by decide +kernel) (pa_cons (pv 1) pa_nil)) (pv 2) (by first | exact nomark _ | rfl)))))
    (pss_one (ps_raise rfl (takes_of rfl rfl rfl rfl) (mk1 T.x_BadWord T.g_BadWord G_BadWord___init b_BadWord___init (hr.mono (by decide)) (mon_un (mon_rU _) (mon_c _)) (pe_un un_neg pe_int) rfl)))
    pss_nil)
    (pss_cons (ps_for (passes_of rfl) rfl (pi_enumA (by rfl) T.z_enumerate (pa_cons (pv 1) pa_nil)) (pg_tupK (K := K) (n := 2) rfl (by rfl) (pgs_cons (pg_name (i := 3) sc_check_word.nd rfl (by first | exact Or.inl rfl | exact Or.inr rfl)) (pgs_cons (pg_name (i := 4) sc_check_word.nd rfl (by first | exact Or.inl rfl | exact Or.inr rfl)) pgs_nil)))
    (pss_one (ps_if (pt_not (pt_tru rfl (pe_call G_is_whole (hr.mono (by decide)) rfl T.g_is_whole k_is_whole b_is_whole_3 r_is_whole_3 pass0 (pa_cons (pv 4) (pa_cons pe_int (pa_cons (pe_op op_sub (pv 0) pe_int) pa_nil)))) (by intro _; rfl)))
    (pss_one (ps_raise rfl (takes_of rfl rfl rfl rfl) (mk1 T.x_BadWord T.g_BadWord G_BadWord___init b_BadWord___init (hr.mono (by decide)) (mon_var _) (pv 3) rfl)))
    pss_nil)))
    (pss_one (ps_ret (pe_callTy (call_tupU (K := K) rfl) (by rfl) T.z_tuple (by decide +kernel) (pa_cons (pv 1) pa_nil)))))), ?_⟩
    exact body_of rfl h fun X hd => (dst_seq (dst_if (dt_or (dt_not (dt_tru (DEg.bor (dg_cb (cg_isi2 known_list known_tuple) (db_cons (db_var 1) (db_cons (DEg.bor (de_tup (da_cons (de_raw (.ty "list")) (da_cons (de_raw (.ty "tuple")) da_nil)))) db_nil)))))) (dt_test (dg_op od_gt (DEg.bor (dg_cb cg_len (db_cons (db_var 1) db_nil))) (db_var 2))))
    (dst_raise1 rfl (de_un ud_neg (DEg.bor (de_int 1))))
    dst_next)
    (dst_seq (dst_for (di_enum (R := Cln) (de_var 1)) (dg_two 3 4)
    (dst_if (dt_not (dt_tru (DEg.bor (de_call0 dv_nil (ds_cons (de_var 4) (ds_cons (de_int 0) (ds_cons (dg_op od_sub (db_var 0) (DEg.bor (de_int 1))) ds_nil)))))))
    (dst_raise1 rfl (de_var 3))
    dst_next))
    (dst_ret (dg_cb cg_tup (db_cons (db_var 1) db_nil)))))
end Mine

namespace Mine
open PySem PySem.Spec PyProof.Rows L2
theorem ok_place_sum {P : Program} {w : World} {K : PySem.W.Frag} {mg : Str → Option Value} {base : Heap} (T : Txt K mg) : ∃ fd, FnOk P w K mg base (L2.CX P w) 4 (He.ga K "place_sum") fd P_place_sum (spD K F_place_sum) ∧ D_place_sum K (He.ga K "place_sum") fd := by
  obtain ⟨fd, F⟩ := T.F_place_sum
  obtain ⟨fd_sum_of, G_sum_of, D_sum_of⟩ := ok_sum_of (P := P) (w := w) (base := base) T
  have k_sum_of := D_sum_of.kp
  have b_sum_of := bd_sum_of D_sum_of
  obtain ⟨fd_check_word, G_check_word, D_check_word⟩ := ok_check_word (P := P) (w := w) (base := base) T
  have k_check_word := D_check_word.kp
  obtain ⟨ds_check_word_3, r_check_word_3, b_check_word_3⟩ := bd_check_word_3 D_check_word
  refine ⟨fd, F.ok sc_place_sum (fun vs H Q E h => ?_) (fun cdv A outer s H vs Q E hr h => ?_), F⟩
  · rw [F_place_sum_eq] at h
    exact spD_len (np := 1) (fun _ _ _ h => h.1) vs H Q E h
  · rw [F_place_sum_eq] at h
    refine ⟨_, (pss_one (ps_ret (pe_call G_sum_of (hr.mono (by decide)) rfl T.g__sum_of k_sum_of b_sum_of .nil pass0 (pa_cons (pe_call G_check_word (hr.mono (by decide)) rfl T.g_check_word k_check_word b_check_word_3 r_check_word_3 (E := E) (passes_call (takes_of rfl rfl rfl rfl) fun _ _ _ _ h => h) (pa_cons pe_int (pa_cons (pv 0) (pa_cons (pe_op (op_addU rfl) (pe_glob (v := .int (200)) rfl T.c_MOST_HERE_sums.choose_spec ⟨_, rfl⟩) pe_int) pa_nil)))) pa_nil)))), ?_⟩
    exact body_of rfl h fun X hd => (dst_ret (de_call0 dv_nil (ds_cons (de_call rfl dv_nil (ds_cons (de_int 2) (ds_cons (de_var 0) (ds_cons (dg_op od_add (DEg.bor (de_int (200))) (DEg.bor (de_int 1))) ds_nil)))) ds_nil)))
end Mine

namespace Mine
open PySem PySem.Spec PyProof.Rows L2
theorem ok_data_word {P : Program} {w : World} {K : PySem.W.Frag} {mg : Str → Option Value} {base : Heap} (T : Txt K mg) : ∃ fd, FnOk P w K mg base (L2.CX P w) 5 (He.ga K "data_word") fd P_data_word (spD K F_data_word) ∧ D_data_word K (He.ga K "data_word") fd := by
  obtain ⟨fd, F⟩ := T.F_data_word
  obtain ⟨fd_free_places, G_free_places, D_free_places⟩ := ok_free_places (P := P) (w := w) (base := base) T
  have k_free_places := D_free_places.kp
  obtain ⟨md_free_places_1_wrong, td_free_places_1_wrong, r_free_places_1_wrong, rt_free_places_1_wrong, b_free_places_1_wrong⟩ := kb_free_places_1_wrong D_free_places
  obtain ⟨fd_is_whole, G_is_whole, D_is_whole⟩ := ok_is_whole (P := P) (w := w) (base := base) T
  have k_is_whole := D_is_whole.kp
  obtain ⟨ds_is_whole_3, r_is_whole_3, b_is_whole_3⟩ := bd_is_whole_3 D_is_whole
  obtain ⟨fd_check_bits, G_check_bits, D_check_bits⟩ := ok_check_bits (P := P) (w := w) (base := base) T
  have k_check_bits := D_check_bits.kp
  have b_check_bits := bd_check_bits D_check_bits
  obtain ⟨fd_place_sum, G_place_sum, D_place_sum⟩ := ok_place_sum (P := P) (w := w) (base := base) T
  have k_place_sum := D_place_sum.kp
  have b_place_sum := bd_place_sum D_place_sum
  obtain ⟨fd_fixed_places, G_fixed_places, D_fixed_places⟩ := ok_fixed_places (P := P) (w := w) (base := base) T
  have k_fixed_places := D_fixed_places.kp
  have b_fixed_places := bd_fixed_places D_fixed_places
  refine ⟨fd, F.ok sc_data_word (fun vs H Q E h => ?_) (fun cdv A outer s H vs Q E hr h => ?_), F⟩
  · rw [F_data_word_eq] at h
    exact spD_len (np := 4) (fun _ _ _ h => h.1) vs H Q E h
  · rw [F_data_word_eq] at h
    refine ⟨_, (pss_cons (ps_set (i := 4) sc_data_word.nd rfl (by first | exact Or.inl rfl | exact Or.inr rfl) (pe_callN G_free_places (hr.mono (by decide)) rfl T.g_free_places k_free_places b_free_places_1_wrong (E := E) (passes_call (takes_of rfl rfl rfl rfl) fun _ _ _ _ h => h) (pa_cons (pv 0) pa_nil) (pk_cons (pv 3) pk_nil)))
    (pss_cons (ps_set (i := 5) sc_data_word.nd rfl (by first | exact Or.inl rfl | exact Or.inr rfl) (pe_ifExp (pt_tru rfl (pv 3) (by intro _; rfl)) (pe_op op_mulU pe_int (pv 0)) (pe_op (op_addU rfl) (pv 0) pe_int)))
    (pss_cons (ps_if (pt_not (pt_tru rfl (pe_call G_is_whole (hr.mono (by decide)) rfl T.g_is_whole k_is_whole b_is_whole_3 r_is_whole_3 pass0 (pa_cons (pv 1) (pa_cons pe_int (pa_cons (pe_op op_sub (pv 5) pe_int) pa_nil)))) (by intro _; rfl)))
    (pss_one (ps_raise rfl (takes_of rfl rfl rfl rfl) (mk0 T.e_BadRest T.g_BadRest rfl)))
    pss_nil)
    (pss_cons (ps_set (i := 2) sc_data_word.nd rfl (by first | exact Or.inl rfl | exact Or.inr rfl) (pe_call G_check_bits (hr.mono (by decide)) rfl T.g__check_bits k_check_bits b_check_bits .nil (E := E) (passes_call (takes_of rfl rfl rfl rfl) fun _ _ _ _ h => h) (pa_cons (pv 2) (pa_cons (pe_callB (call_lenU (K := K) rfl) (by rfl) T.z_len (by decide +kernel) (pa_cons (pv 4) pa_nil)) pa_nil))))
    (pss_cons (ps_set (i := 6) sc_data_word.nd rfl (by first | exact Or.inl rfl | exact Or.inr rfl) (pe_op op_mulU (pe_lst (pa_cons pe_int pa_nil)) (pv 0)))
    (pss_cons (ps_for (passes_of rfl) rfl (pi_zipU (by rfl) T.z_zip (pa_cons (pv 4) (pa_cons (pv 2) pa_nil))) (pg_tupK (K := K) (n := 2) rfl (by rfl) (pgs_cons (pg_name (i := 7) sc_data_word.nd rfl (by first | exact Or.inl rfl | exact Or.inr rfl)) (pgs_cons (pg_name (i := 8) sc_data_word.nd rfl (by first | exact Or.inl rfl | exact Or.inr rfl)) pgs_nil)))
    (pss_one (ps_asg (pv 8) (pg_sub (pv 6) (pe_op op_sub (pv 7) pe_int) set_list))))
    (pss_cons (ps_set (i := 9) sc_data_word.nd rfl (by first | exact Or.inl rfl | exact Or.inr rfl) (pe_op op_mod (pe_op op_sub (pv 1) (pe_call G_place_sum (hr.mono (by decide)) rfl T.g_place_sum k_place_sum b_place_sum .nil (E := E) (passes_call (takes_of rfl rfl rfl rfl) fun _ _ _ _ h => h) (pa_cons (pv 6) pa_nil))) (pv 5)))
    (pss_cons (ps_set (i := 10) sc_data_word.nd rfl (by first | exact Or.inl rfl | exact Or.inr rfl) (pe_call G_fixed_places (hr.mono (by decide)) rfl T.g__fixed_places k_fixed_places b_fixed_places .nil pass0 (pa_cons (pv 0) pa_nil)))
    (pss_cons (ps_if (pt_cmpR op_gt (pv 9) (pe_callB (CallR.k (r := rSumA) (K := K) (cr_sumA rfl) rfl) (by rfl) T.z_sum (by decide +kernel) (pa_cons (pv 10) pa_nil)) (by first | exact nomark _ | rfl))
    (pss_cons (ps_asg pe_int (pg_sub (pv 6) (pe_op op_sub (pv 0) pe_int) set_list))
    (pss_one (ps_aug (i := 9) sc_data_word.nd rfl (by first | exact Or.inl rfl | exact Or.inr rfl) (pv 0) ip_sub)))
    pss_nil)
    (pss_cons (ps_for (passes_of rfl) rfl (pi_seq (pv 10)) (pg_name (i := 7) sc_data_word.nd rfl (by first | exact Or.inl rfl | exact Or.inr rfl))
    (pss_one (ps_if (pt_tru rfl (pe_op op_and (pv 9) (pv 7)) (by intro _; rfl))
    (pss_one (ps_asg pe_int (pg_sub (pv 6) (pe_op op_sub (pv 7) pe_int) set_list)))
    pss_nil)))
    (pss_one (ps_ret (pe_callTy (call_tupU (K := K) rfl) (by rfl) T.z_tuple (by decide +kernel) (pa_cons (pv 6) pa_nil)))))))))))))), ?_⟩
    exact body_of rfl h fun X hd => (dst_seq (dst_asg (de_callK rfl dv_nil dv_nil (ds_cons (de_var 0) ds_nil) (ds_cons (de_var 3) ds_nil)) (dg_name 4))
    (dst_of S_data_word_r2_eq
    (dst_seq (dst_asg (dg_if (dt_tru (db_var 3)) (dg_op od_mul (DEg.bor (de_int 2)) (db_var 0)) (dg_op od_add (db_var 0) (DEg.bor (de_int 1)))) (dg_name 5))
    (dst_of S_data_word_r3_eq
    (dst_seq (dst_if (dt_not (dt_tru (DEg.bor (de_call0 dv_nil (ds_cons (de_var 1) (ds_cons (de_int 0) (ds_cons (dg_op od_sub (db_var 5) (DEg.bor (de_int 1))) ds_nil)))))))
    (dst_raise rfl)
    dst_next)
    (dst_of S_data_word_r5_eq
    (dst_seq (dst_asg (de_call rfl dv_nil (ds_cons (de_var 2) (ds_cons (dg_cb cg_len (db_cons (db_var 4) db_nil)) ds_nil))) (dg_name 2))
    (dst_of S_data_word_r6_eq
    (dst_seq (dst_own (dg_op od_mulL (DEg.bor (DEg.cln (df_lst (da_cons (de_int 0) da_nil)))) (db_var 0)))
    (dst_of S_data_word_r7_eq
    (dst_seq (dst_for (di_zip (R := Cln) (R2 := Cln) (de_var 4) (de_var 2) (fun r f h => Den.mono (r.vs f) h)) (dg_two 7 8)
    (dst_of S_data_word_b8_eq
    (dst_put (de_var 8) (dg_op od_sub (db_var 7) (DEg.bor (de_int 1))))))
    (dst_of S_data_word_r9_eq
    (dst_seq (dst_keep (i := 6) (j := 9) (dg_op od_mod (DEg.bor (dg_op od_sub (db_var 1) (DEg.bor (de_call rfl dv_nil (ds_cons (de_var 6) ds_nil))))) (db_var 5)))
    (dst_of S_data_word_r10_eq
    (dst_seq (dst_asg (DEg.cln (df_callO0 dv_nil (ds_cons (de_var 0) ds_nil))) (dg_name 10))
    (dst_of S_data_word_r11_eq
    (dst_seq (dst_if (dt_test (dg_op od_gt (db_var 9) (DEg.bor (dg_cb cg_sum (db_cons (db_var 10) db_nil)))))
    (dst_seq (dst_put (de_int 1) (dg_op od_sub (db_var 0) (DEg.bor (de_int 1))))
    (dst_of S_data_word_r13_eq
    (dst_aug (de_var 0))))
    dst_next)
    (dst_of S_data_word_r14_eq
    (dst_seq (dst_for (di_seq (R := Cln) (de_var 10)) (dg_name 7)
    (dst_of S_data_word_b15_eq
    (dst_if (dt_tru (DEg.bor (dg_op od_and (db_var 9) (db_var 7))))
    (dst_put (de_int 1) (dg_op od_sub (db_var 7) (DEg.bor (de_int 1))))
    dst_next)))
    (dst_of S_data_word_r17_eq
    (dst_ret (dg_cb cg_tup (db_cons (db_var 6) db_nil)))))))))))))))))))))))
end Mine

namespace Mine
open PySem PySem.Spec PyProof.Rows L2
theorem ok_WrongBook_has {P : Program} {w : World} {K : PySem.W.Frag} {mg : Str → Option Value} {base : Heap} (T : Txt K mg) : ∃ fd, FnOk P w K mg base (L2.CX P w) 5 (He.ma K (He.ga K "WrongBook") "has") fd P_WrongBook_has (spD K F_WrongBook_has) ∧ D_WrongBook_has K (He.ma K (He.ga K "WrongBook") "has") fd := by
  obtain ⟨fd, F⟩ := T.F_WrongBook_has
  obtain ⟨fd_check_word, G_check_word, D_check_word⟩ := ok_check_word (P := P) (w := w) (base := base) T
  have k_check_word := D_check_word.kp
  obtain ⟨ds_check_word_3, r_check_word_3, b_check_word_3⟩ := bd_check_word_3 D_check_word
  obtain ⟨fd_place_sum, G_place_sum, D_place_sum⟩ := ok_place_sum (P := P) (w := w) (base := base) T
  have k_place_sum := D_place_sum.kp
  have b_place_sum := bd_place_sum D_place_sum
  refine ⟨fd, F.ok sc_WrongBook_has (fun vs H Q E h => ?_) (fun cdv A outer s H vs Q E hr h => ?_), F⟩
  · rw [F_WrongBook_has_eq] at h
    exact spD_len (np := 2) (fun _ _ _ h => h.1) vs H Q E h
  · rw [F_WrongBook_has_eq] at h
    refine ⟨_, (pss_cons (ps_set (i := 1) sc_WrongBook_has.nd rfl (by first | exact Or.inl rfl | exact Or.inr rfl) (pe_call G_check_word (hr.mono (by decide)) rfl T.g_check_word k_check_word b_check_word_3 r_check_word_3 (E := E) (passes_call (takes_of rfl rfl rfl rfl) fun _ _ _ _ h => h) (pa_cons pe_int (pa_cons (pv 1) (pa_cons (pe_glob (v := .int (61)) rfl T.c_MOST_HERE_wrongs.choose_spec ⟨_, rfl⟩) pa_nil)))))
    (pss_one (ps_ret (pe_and (pe_cmpR (op_eqU rfl hr.units) (pe_callB (call_lenU (K := K) rfl) (by rfl) T.z_len (by decide +kernel) (pa_cons (pv 1) pa_nil)) (pe_fldU (K := K) rfl (pv 0) (by rfl)) (by first | exact nomark _ | rfl)) (pe_one (pe_cmpR (op_eqU rfl hr.units) (pe_op op_mod (pe_call G_place_sum (hr.mono (by decide)) rfl T.g_place_sum k_place_sum b_place_sum .nil (E := E) (passes_call (takes_of rfl rfl rfl rfl) fun _ _ _ _ h => h) (pa_cons (pv 1) pa_nil)) (pe_fldU (K := K) rfl (pv 0) (by rfl))) (pe_fldU (K := K) rfl (pv 0) (by rfl)) (by first | exact nomark _ | rfl))))))), ?_⟩
    exact body_of rfl h fun X hd => (dst_seq (dst_asg (de_call rfl dv_nil (ds_cons (de_int 2) (ds_cons (de_var 1) (ds_cons (de_int (61)) ds_nil)))) (dg_name 1))
    (dst_ret (de_andV (dg_op od_eq (DEg.bor (dg_cb cg_len (db_cons (db_var 1) db_nil))) (DEg.bor (de_fld (fld_ok T) (db_var 0)))) (dg_op od_eq (DEg.bor (dg_op od_mod (DEg.bor (de_call rfl dv_nil (ds_cons (de_var 1) ds_nil))) (DEg.bor (de_fld (fld_ok T) (db_var 0))))) (DEg.bor (de_fld (fld_ok T) (db_var 0)))))))
end Mine

namespace Mine
open PySem PySem.Spec PyProof.Rows L2
theorem ok_check_rest_sizes {P : Program} {w : World} {K : PySem.W.Frag} {mg : Str → Option Value} {base : Heap} (T : Txt K mg) : ∃ fd, FnOk P w K mg base (L2.CX P w) 2 (He.ga K "check_rest_sizes") fd P_check_rest_sizes (spD K F_check_rest_sizes) ∧ D_check_rest_sizes K (He.ga K "check_rest_sizes") fd := by
  obtain ⟨fd, F⟩ := T.F_check_rest_sizes
  obtain ⟨fd_is_whole, G_is_whole, D_is_whole⟩ := ok_is_whole (P := P) (w := w) (base := base) T
  have k_is_whole := D_is_whole.kp
  obtain ⟨ds_is_whole_3, r_is_whole_3, b_is_whole_3⟩ := bd_is_whole_3 D_is_whole
  refine ⟨fd, F.ok sc_check_rest_sizes (fun vs H Q E h => ?_) (fun cdv A outer s H vs Q E hr h => ?_), F⟩
  · rw [F_check_rest_sizes_eq] at h
    exact spD_len (np := 2) (fun _ _ _ h => h.1) vs H Q E h
  · rw [F_check_rest_sizes_eq] at h
    refine ⟨_, (pss_one (ps_if (pt_not (pt_tru rfl (pe_call G_is_whole (hr.mono (by decide)) rfl T.g_is_whole k_is_whole b_is_whole_3 r_is_whole_3 pass0 (pa_cons (pv 0) (pa_cons pe_int (pa_cons (pv 1) pa_nil)))) (by intro _; rfl)))
    (pss_one (ps_raise rfl (takes_of rfl rfl rfl rfl) (mk0 T.e_BadRest T.g_BadRest rfl)))
    pss_nil)), ?_⟩
    exact body_of rfl h fun X hd => (dst_if (dt_not (dt_tru (DEg.bor (de_call0 dv_nil (ds_cons (de_var 0) (ds_cons (de_int 0) (ds_cons (de_var 1) ds_nil)))))))
    (dst_raise rfl)
    dst_next)
end Mine

namespace Mine
open PySem PySem.Spec PyProof.Rows L2
theorem ok_divisors_of {P : Program} {w : World} {K : PySem.W.Frag} {mg : Str → Option Value} {base : Heap} (T : Txt K mg) : ∃ fd, FnOk P w K mg base (L2.CX P w) 3 (He.ga K "divisors_of") fd P_divisors_of (spD K F_divisors_of) ∧ D_divisors_of K (He.ga K "divisors_of") fd := by
  obtain ⟨fd, F⟩ := T.F_divisors_of
  obtain ⟨fd_check_number, G_check_number, D_check_number⟩ := ok_check_number (P := P) (w := w) (base := base) T
  have k_check_number := D_check_number.kp
  have b_check_number := bd_check_number D_check_number
  refine ⟨fd, F.ok sc_divisors_of (fun vs H Q E h => ?_) (fun cdv A outer s H vs Q E hr h => ?_), F⟩
  · rw [F_divisors_of_eq] at h
    exact spD_len (np := 1) (fun _ _ _ h => h.1) vs H Q E h
  · rw [F_divisors_of_eq] at h
    refine ⟨_, (pss_cons (ps_expr (pe_call G_check_number (hr.mono (by decide)) rfl T.g_check_number k_check_number b_check_number .nil (E := E) (passes_call (takes_of rfl rfl rfl rfl) fun _ _ _ _ h => h) (pa_cons (pv 0) (pa_cons pe_int (pa_cons (pe_glob (v := .int (2000)) rfl T.c_MOST_DIVIDED.choose_spec ⟨_, rfl⟩) pa_nil)))))
    (pss_one (ps_ret (pe_callTy (call_tupU (K := K) rfl) (by rfl) T.z_tuple (by decide +kernel) (pa_cons (pe_lc (own := [("part", 1)]) rfl sc_divisors_of.nd (pi_range2 (by rfl) T.z_range (pa_cons pe_int (pa_cons (pe_op (op_addU rfl) (pv 0) pe_int) pa_nil))) (blkOk_by (own := [("part", 1)]) (N := N_divisors_of) (sc := defScope s_divisors_of) (by decide +kernel)) (fun _ _ _ _ _ => (pg_name (i := 1) sc_divisors_of.nd rfl (by first | exact Or.inl rfl | exact Or.inr rfl))) (fun _ _ _ _ _ => (pts_one (pt_cmpR (op_eqU rfl hr.units) (pe_op op_mod (pv 0) (pv 1)) pe_int (by first | exact nomark _ | rfl)))) (fun _ _ _ _ _ => (pv 1))) pa_nil))))), ?_⟩
    exact body_of rfl h fun X hd => (dst_seq (dst_drop (de_call rfl dv_nil (ds_cons (de_var 0) (ds_cons (de_int 1) (ds_cons (de_int (2000)) ds_nil)))))
    (dst_ret (dg_cb cg_tup (db_cons (DEg.bor (DEg.cln (df_lc (di_rng2 (db_cons (DEg.bor (de_int 1)) (db_cons (DEg.bor (dg_op od_add (db_var 0) (DEg.bor (de_int 1)))) db_nil))) (dg_name 1) (dt_test (dg_op od_eq (DEg.bor (dg_op od_mod (db_var 0) (db_var 1))) (DEg.bor (de_int 0)))) (de_var 1)))) db_nil))))
end Mine

namespace Mine
open PySem PySem.Spec PyProof.Rows L2
theorem ok_primes_of {P : Program} {w : World} {K : PySem.W.Frag} {mg : Str → Option Value} {base : Heap} (T : Txt K mg) : ∃ fd, FnOk P w K mg base CX0 1 (He.ga K "_primes_of") fd P_primes_of (spD K F_primes_of) ∧ D_primes_of K (He.ga K "_primes_of") fd := by
  obtain ⟨fd, F⟩ := T.F_primes_of
  refine ⟨fd, F.ok sc_primes_of (fun vs H Q E h => ?_) (fun cdv A outer s H vs Q E hr h => ?_), F⟩
  · rw [F_primes_of_eq] at h
    exact spD_len (np := 1) (fun _ _ _ h => h.1) vs H Q E h
  · rw [F_primes_of_eq] at h
    refine ⟨_, PSs.nox (pss_cons (ps_set (i := 1) sc_primes_of.nd rfl (by first | exact Or.inl rfl | exact Or.inr rfl) (pe_lst pa_nil))
    (pss_cons (ps_set (i := 2) sc_primes_of.nd rfl (by first | exact Or.inl rfl | exact Or.inr rfl) pe_int)
    (pss_cons (ps_while PassesOwn.never (pt_cmpR op_gt (pv 0) pe_int (by first | exact nomark _ | rfl))
    (pss_one (ps_if (pt_cmpR (op_eqU rfl hr.units) (pe_op op_mod (pv 0) (pv 2)) pe_int (by first | exact nomark _ | rfl))
    (pss_cons (ps_expr (pe_bm PySem.F.plainAttrs_list PySem.F.slot_list_append PySem.F.type_list_append mt_append (pv 1) (pa_cons (pv 2) pa_nil)))
    (pss_one (ps_set (i := 0) sc_primes_of.nd rfl (by first | exact Or.inl rfl | exact Or.inr rfl) (pe_op op_fdiv (pv 0) (pv 2)))))
    (pss_one (ps_aug (i := 2) sc_primes_of.nd rfl (by first | exact Or.inl rfl | exact Or.inr rfl) pe_int ip_add)))))
    (pss_one (ps_ret (pv 1)))))), ?_⟩
    exact body_of0 rfl h fun X hd => (dst_seq (dst_own (df_lst da_nil))
    (dst_seq (dst_asg (de_int 2) (dg_name 2))
    (dst_seq (dst_while (dt_test (dg_op od_gt (db_var 0) (DEg.bor (de_int 1))))
    (dst_if (dt_test (dg_op od_eq (DEg.bor (dg_op od_mod (db_var 0) (db_var 2))) (DEg.bor (de_int 0))))
    (dst_seq (dst_app (de_var 2))
    (dst_asg (dg_op od_fdiv (db_var 0) (db_var 2)) (dg_name 0)))
    (dst_aug (de_int 1))))
    (dst_frz 1 (dst_ret (de_var 1))))))
end Mine

namespace Mine
open PySem PySem.Spec PyProof.Rows L2
theorem ok_phi_of {P : Program} {w : World} {K : PySem.W.Frag} {mg : Str → Option Value} {base : Heap} (T : Txt K mg) : ∃ fd, FnOk P w K mg base (L2.CX P w) 3 (He.ga K "phi_of") fd P_phi_of (spD K F_phi_of) ∧ D_phi_of K (He.ga K "phi_of") fd := by
  obtain ⟨fd, F⟩ := T.F_phi_of
  obtain ⟨fd_check_number, G_check_number, D_check_number⟩ := ok_check_number (P := P) (w := w) (base := base) T
  have k_check_number := D_check_number.kp
  have b_check_number := bd_check_number D_check_number
  obtain ⟨fd_primes_of, G_primes_of, D_primes_of⟩ := ok_primes_of (P := P) (w := w) (base := base) T
  have k_primes_of := D_primes_of.kp
  have b_primes_of := bd_primes_of D_primes_of
  refine ⟨fd, F.ok sc_phi_of (fun vs H Q E h => ?_) (fun cdv A outer s H vs Q E hr h => ?_), F⟩
  · rw [F_phi_of_eq] at h
    exact spD_len (np := 1) (fun _ _ _ h => h.1) vs H Q E h
  · rw [F_phi_of_eq] at h
    refine ⟨_, (pss_cons (ps_expr (pe_call G_check_number (hr.mono (by decide)) rfl T.g_check_number k_check_number b_check_number .nil (E := E) (passes_call (takes_of rfl rfl rfl rfl) fun _ _ _ _ h => h) (pa_cons (pv 0) (pa_cons pe_int (pa_cons (pe_glob (v := .int (2000)) rfl T.c_MOST_DIVIDED.choose_spec ⟨_, rfl⟩) pa_nil)))))
    (pss_cons (ps_set (i := 1) sc_phi_of.nd rfl (by first | exact Or.inl rfl | exact Or.inr rfl) pe_int)
    (pss_cons (ps_set (i := 2) sc_phi_of.nd rfl (by first | exact Or.inl rfl | exact Or.inr rfl) pe_int)
    (pss_cons (ps_for (passes_of rfl) rfl (pi_seq (pe_call G_primes_of (hr.mono (by decide)) rfl T.g__primes_of k_primes_of b_primes_of .nil pass0 (pa_cons (pv 0) pa_nil))) (pg_name (i := 3) sc_phi_of.nd rfl (by first | exact Or.inl rfl | exact Or.inr rfl))
    (pss_cons (ps_set (i := 1) sc_phi_of.nd rfl (by first | exact Or.inl rfl | exact Or.inr rfl) (pe_op op_mulU (pv 1) (pe_ifExp (pt_cmpR (op_eqU rfl hr.units) (pv 3) (pv 2) (by first | exact nomark _ | rfl)) (pv 3) (pe_op op_sub (pv 3) pe_int))))
    (pss_one (ps_set (i := 2) sc_phi_of.nd rfl (by first | exact Or.inl rfl | exact Or.inr rfl) (pv 3)))))
    (pss_one (ps_ret (pv 1))))))), ?_⟩
    exact body_of rfl h fun X hd => (dst_seq (dst_drop (de_call rfl dv_nil (ds_cons (de_var 0) (ds_cons (de_int 1) (ds_cons (de_int (2000)) ds_nil)))))
    (dst_seq (dst_asg (de_int 1) (dg_name 1))
    (dst_seq (dst_asg (de_int 1) (dg_name 2))
    (dst_seq (dst_for (di_seq (R := Cln) (de_call0 dv_nil (ds_cons (de_var 0) ds_nil))) (dg_name 3)
    (dst_seq (dst_asg (dg_op od_mul (db_var 1) (DEg.bor (dg_if (dt_test (dg_op od_eq (db_var 3) (db_var 2))) (de_var 3) (dg_op od_sub (db_var 3) (DEg.bor (de_int 1)))))) (dg_name 1))
    (dst_asg (de_var 3) (dg_name 2))))
    (dst_ret (de_var 1))))))
end Mine

namespace Mine
open PySem PySem.Spec PyProof.Rows L2
theorem ok_mu_of {P : Program} {w : World} {K : PySem.W.Frag} {mg : Str → Option Value} {base : Heap} (T : Txt K mg) : ∃ fd, FnOk P w K mg base (L2.CX P w) 3 (He.ga K "mu_of") fd P_mu_of (spD K F_mu_of) ∧ D_mu_of K (He.ga K "mu_of") fd := by
  obtain ⟨fd, F⟩ := T.F_mu_of
  obtain ⟨fd_check_number, G_check_number, D_check_number⟩ := ok_check_number (P := P) (w := w) (base := base) T
  have k_check_number := D_check_number.kp
  have b_check_number := bd_check_number D_check_number
  obtain ⟨fd_primes_of, G_primes_of, D_primes_of⟩ := ok_primes_of (P := P) (w := w) (base := base) T
  have k_primes_of := D_primes_of.kp
  have b_primes_of := bd_primes_of D_primes_of
  refine ⟨fd, F.ok sc_mu_of (fun vs H Q E h => ?_) (fun cdv A outer s H vs Q E hr h => ?_), F⟩
  · rw [F_mu_of_eq] at h
    exact spD_len (np := 1) (fun _ _ _ h => h.1) vs H Q E h
  · rw [F_mu_of_eq] at h
    refine ⟨_, (pss_cons (ps_expr (pe_call G_check_number (hr.mono (by decide)) rfl T.g_check_number k_check_number b_check_number .nil (E := E) (passes_call (takes_of rfl rfl rfl rfl) fun _ _ _ _ h => h) (pa_cons (pv 0) (pa_cons pe_int (pa_cons (pe_glob (v := .int (2000)) rfl T.c_MOST_DIVIDED.choose_spec ⟨_, rfl⟩) pa_nil)))))
    (pss_cons (ps_set (i := 1) sc_mu_of.nd rfl (by first | exact Or.inl rfl | exact Or.inr rfl) (pe_call G_primes_of (hr.mono (by decide)) rfl T.g__primes_of k_primes_of b_primes_of .nil pass0 (pa_cons (pv 0) pa_nil)))
    (pss_cons (ps_if (pt_cmpR (op_ltU rfl hr.units0) (pe_lenSetD rfl rfl T.z_len rfl T.z_set (pv 1)) (pe_callB (call_lenU (K := K) rfl) (by rfl) T.z_len (by decide +kernel) (pa_cons (pv 1) pa_nil)) (by first | exact nomark _ | rfl))
    (pss_one (ps_ret pe_int))
    pss_nil)
    (pss_one (ps_ret (pe_ifExp (pt_cmpR (op_eqU rfl hr.units) (pe_op op_mod (pe_callB (call_lenU (K := K) rfl) (by rfl) T.z_len (by decide +kernel) (pa_cons (pv 1) pa_nil)) pe_int) pe_int (by first | exact nomark _ | rfl)) pe_int (pe_un un_neg pe_int))))))), ?_⟩
    exact body_of rfl h fun X hd => (dst_seq (dst_drop (de_call rfl dv_nil (ds_cons (de_var 0) (ds_cons (de_int 1) (ds_cons (de_int (2000)) ds_nil)))))
    (dst_seq (dst_asg (de_call0 dv_nil (ds_cons (de_var 0) ds_nil)) (dg_name 1))
    (dst_seq (dst_if (dt_test (dg_op od_lt (DEg.bor (de_lenSet (db_var 1))) (DEg.bor (dg_cb cg_len (db_cons (db_var 1) db_nil)))))
    (dst_ret (de_int 0))
    dst_next)
    (dst_ret (dg_if (dt_test (dg_op od_eq (DEg.bor (dg_op od_mod (DEg.bor (dg_cb cg_len (db_cons (db_var 1) db_nil))) (DEg.bor (de_int 2)))) (DEg.bor (de_int 0)))) (de_int 1) (de_un ud_neg (DEg.bor (de_int 1))))))))
end Mine

namespace Mine
open PySem PySem.Spec PyProof.Rows L2
theorem ok_ram_of {P : Program} {w : World} {K : PySem.W.Frag} {mg : Str → Option Value} {base : Heap} (T : Txt K mg) : ∃ fd, FnOk P w K mg base (L2.CX P w) 4 (He.ga K "ram_of") fd P_ram_of (spD K F_ram_of) ∧ D_ram_of K (He.ga K "ram_of") fd := by
  obtain ⟨fd, F⟩ := T.F_ram_of
  obtain ⟨fd_check_number, G_check_number, D_check_number⟩ := ok_check_number (P := P) (w := w) (base := base) T
  have k_check_number := D_check_number.kp
  have b_check_number := bd_check_number D_check_number
  obtain ⟨fd_phi_of, G_phi_of, D_phi_of⟩ := ok_phi_of (P := P) (w := w) (base := base) T
  have k_phi_of := D_phi_of.kp
  have b_phi_of := bd_phi_of D_phi_of
  obtain ⟨fd_mu_of, G_mu_of, D_mu_of⟩ := ok_mu_of (P := P) (w := w) (base := base) T
  have k_mu_of := D_mu_of.kp
  have b_mu_of := bd_mu_of D_mu_of
  refine ⟨fd, F.ok sc_ram_of (fun vs H Q E h => ?_) (fun cdv A outer s H vs Q E hr h => ?_), F⟩
  · rw [F_ram_of_eq] at h
    exact spD_len (np := 2) (fun _ _ _ h => h.1) vs H Q E h
  · rw [F_ram_of_eq] at h
    refine ⟨_, (pss_cons (ps_expr (pe_call G_check_number (hr.mono (by decide)) rfl T.g_check_number k_check_number b_check_number .nil (E := E) (passes_call (takes_of rfl rfl rfl rfl) fun _ _ _ _ h => h) (pa_cons (pv 0) (pa_cons pe_int (pa_cons (pe_glob (v := .int (2000)) rfl T.c_MOST_DIVIDED.choose_spec ⟨_, rfl⟩) pa_nil)))))
    (pss_cons (ps_expr (pe_call G_check_number (hr.mono (by decide)) rfl T.g_check_number k_check_number b_check_number .nil (E := E) (passes_call (takes_of rfl rfl rfl rfl) fun _ _ _ _ h => h) (pa_cons (pv 1) (pa_cons pe_int (pa_cons (pe_glob (v := .int (2000)) rfl T.c_MOST_DIVIDED.choose_spec ⟨_, rfl⟩) pa_nil)))))
    (pss_cons (ps_set (i := 2) sc_ram_of.nd rfl (by first | exact Or.inl rfl | exact Or.inr rfl) (pe_op op_fdiv (pv 0) (pe_callBfun cr_gcd rfl T.i_gcd (pa_cons (pv 0) (pa_cons (pv 1) pa_nil)))))
    (pss_one (ps_ret (pe_op op_fdiv (pe_op op_mulU (pe_call G_phi_of (hr.mono (by decide)) rfl T.g_phi_of k_phi_of b_phi_of .nil (E := E) (passes_call (takes_of rfl rfl rfl rfl) fun _ _ _ _ h => h) (pa_cons (pv 0) pa_nil)) (pe_call G_mu_of (hr.mono (by decide)) rfl T.g_mu_of k_mu_of b_mu_of .nil (E := E) (passes_call (takes_of rfl rfl rfl rfl) fun _ _ _ _ h => h) (pa_cons (pv 2) pa_nil))) (pe_call G_phi_of (hr.mono (by decide)) rfl T.g_phi_of k_phi_of b_phi_of .nil (E := E) (passes_call (takes_of rfl rfl rfl rfl) fun _ _ _ _ h => h) (pa_cons (pv 2) pa_nil)))))))), ?_⟩
    exact body_of rfl h fun X hd => (dst_seq (dst_drop (de_call rfl dv_nil (ds_cons (de_var 0) (ds_cons (de_int 1) (ds_cons (de_int (2000)) ds_nil)))))
    (dst_seq (dst_drop (de_call rfl dv_nil (ds_cons (de_var 1) (ds_cons (de_int 0) (ds_cons (de_int (2000)) ds_nil)))))
    (dst_seq (dst_asg (dg_op od_fdiv (db_var 0) (DEg.bor (dg_cb cg_gcd (db_cons (db_var 0) (db_cons (db_var 1) db_nil))))) (dg_name 2))
    (dst_ret (dg_op od_fdiv (DEg.bor (dg_op od_mul (DEg.bor (de_call rfl dv_nil (ds_cons (de_var 0) ds_nil))) (DEg.bor (de_call rfl dv_nil (ds_cons (de_var 2) ds_nil))))) (DEg.bor (de_call rfl dv_nil (ds_cons (de_var 2) ds_nil))))))))
end Mine

namespace Mine
open PySem PySem.Spec PyProof.Rows L2
theorem ok_size_of {P : Program} {w : World} {K : PySem.W.Frag} {mg : Str → Option Value} {base : Heap} (T : Txt K mg) : ∃ fd, FnOk P w K mg base (L2.CX P w) 5 (He.ga K "size_of") fd P_size_of (spD K F_size_of) ∧ D_size_of K (He.ga K "size_of") fd := by
  obtain ⟨fd, F⟩ := T.F_size_of
  obtain ⟨fd_check_number, G_check_number, D_check_number⟩ := ok_check_number (P := P) (w := w) (base := base) T
  have k_check_number := D_check_number.kp
  have b_check_number := bd_check_number D_check_number
  obtain ⟨fd_check_rest_sizes, G_check_rest_sizes, D_check_rest_sizes⟩ := ok_check_rest_sizes (P := P) (w := w) (base := base) T
  have k_check_rest_sizes := D_check_rest_sizes.kp
  have b_check_rest_sizes := bd_check_rest_sizes D_check_rest_sizes
  obtain ⟨fd_divisors_of, G_divisors_of, D_divisors_of⟩ := ok_divisors_of (P := P) (w := w) (base := base) T
  have k_divisors_of := D_divisors_of.kp
  have b_divisors_of := bd_divisors_of D_divisors_of
  obtain ⟨fd_ram_of, G_ram_of, D_ram_of⟩ := ok_ram_of (P := P) (w := w) (base := base) T
  have k_ram_of := D_ram_of.kp
  have b_ram_of := bd_ram_of D_ram_of
  refine ⟨fd, F.ok sc_size_of (fun vs H Q E h => ?_) (fun cdv A outer s H vs Q E hr h => ?_), F⟩
  · rw [F_size_of_eq] at h
    exact spD_len (np := 2) (fun _ _ _ h => h.1) vs H Q E h
  · rw [F_size_of_eq] at h
    refine ⟨_, (pss_cons (ps_expr (pe_call G_check_number (hr.mono (by decide)) rfl T.g_check_number k_check_number b_check_number .nil (E := E) (passes_call (takes_of rfl rfl rfl rfl) fun _ _ _ _ h => h) (pa_cons (pv 0) (pa_cons pe_int (pa_cons (pe_glob (v := .int (200)) rfl T.c_MOST_LENGTH_sizes.choose_spec ⟨_, rfl⟩) pa_nil)))))
    (pss_cons (ps_expr (pe_call G_check_rest_sizes (hr.mono (by decide)) rfl T.g_check_rest_sizes k_check_rest_sizes b_check_rest_sizes .nil (E := E) (passes_call (takes_of rfl rfl rfl rfl) fun _ _ _ _ h => h) (pa_cons (pv 1) (pa_cons (pv 0) pa_nil))))
    (pss_cons (ps_set (i := 2) sc_size_of.nd rfl (by first | exact Or.inl rfl | exact Or.inr rfl) (pe_op (op_addU rfl) (pv 0) pe_int))
    (pss_cons (ps_set (i := 3) sc_size_of.nd rfl (by first | exact Or.inl rfl | exact Or.inr rfl) (pe_callB (CallR.k (r := rSumA) (K := K) (cr_sumA rfl) rfl) (by rfl) T.z_sum (by decide +kernel) (pa_cons (pe_lc (own := [("part", 4)]) rfl sc_size_of.nd (pi_seq (pe_call G_divisors_of (hr.mono (by decide)) rfl T.g_divisors_of k_divisors_of b_divisors_of .nil (E := E) (passes_call (takes_of rfl rfl rfl rfl) fun _ _ _ _ h => h) (pa_cons (pv 2) pa_nil))) (blkOk_by (own := [("part", 4)]) (N := N_size_of) (sc := defScope s_size_of) (by decide +kernel)) (fun _ _ _ _ _ => (pg_name (i := 4) sc_size_of.nd rfl (by first | exact Or.inl rfl | exact Or.inr rfl))) (fun _ _ _ _ _ => (pts_one (pt_cmpR (op_eqU rfl hr.units) (pe_op op_mod (pv 4) pe_int) pe_int (by first | exact nomark _ | rfl)))) (fun _ _ _ _ _ => (pe_op op_mulU (pe_call G_ram_of (hr.mono (by decide)) rfl T.g_ram_of k_ram_of b_ram_of .nil passL (pa_cons (pv 4) (pa_cons (pv 1) pa_nil))) (pe_op op_shl pe_int (pe_op op_fdiv (pv 2) (pv 4)))))) pa_nil)))
    (pss_one (ps_ret (pe_op op_fdiv (pv 3) (pe_op op_mulU pe_int (pv 2))))))))), ?_⟩
    exact body_of rfl h fun X hd => (dst_seq (dst_drop (de_call rfl dv_nil (ds_cons (de_var 0) (ds_cons (de_int 0) (ds_cons (de_int (200)) ds_nil)))))
    (dst_seq (dst_drop (de_call rfl dv_nil (ds_cons (de_var 1) (ds_cons (de_var 0) ds_nil))))
    (dst_seq (dst_asg (dg_op od_add (db_var 0) (DEg.bor (de_int 1))) (dg_name 2))
    (dst_seq (dst_asg (dg_cb cg_sum (db_cons (DEg.bor (DEg.cln (df_lc (di_seq (R := Bor) (DEg.bor (de_call rfl dv_nil (ds_cons (de_var 2) ds_nil)))) (dg_name 4) (dt_test (dg_op od_eq (DEg.bor (dg_op od_mod (db_var 4) (DEg.bor (de_int 2)))) (DEg.bor (de_int 1)))) (dg_op od_mul (DEg.bor (de_call0 dv_nil (ds_cons (de_var 4) (ds_cons (de_var 1) ds_nil)))) (DEg.bor (dg_op od_shl (DEg.bor (de_int 1)) (DEg.bor (dg_op od_fdiv (db_var 2) (db_var 4))))))))) db_nil)) (dg_name 3))
    (dst_ret (dg_op od_fdiv (db_var 3) (DEg.bor (dg_op od_mul (DEg.bor (de_int 2)) (db_var 2)))))))))
end Mine

namespace Mine
open PySem PySem.Spec PyProof.Rows L2
theorem ok_WrongBook___init {P : Program} {w : World} {K : PySem.W.Frag} {mg : Str → Option Value} {base : Heap} (T : Txt K mg) : ∃ fd, FnOk P w K mg base (L2.CX P w) 6 (He.ma K (He.ga K "WrongBook") "__init__") fd P_WrongBook___init (spI K "WrongBook" F_WrongBook___init) ∧ D_WrongBook___init K (He.ma K (He.ga K "WrongBook") "__init__") fd := by
  obtain ⟨fd, F⟩ := T.F_WrongBook___init
  obtain ⟨fd_check_number, G_check_number, D_check_number⟩ := ok_check_number (P := P) (w := w) (base := base) T
  have k_check_number := D_check_number.kp
  have b_check_number := bd_check_number D_check_number
  obtain ⟨fd_is_whole, G_is_whole, D_is_whole⟩ := ok_is_whole (P := P) (w := w) (base := base) T
  have k_is_whole := D_is_whole.kp
  obtain ⟨ds_is_whole_3, r_is_whole_3, b_is_whole_3⟩ := bd_is_whole_3 D_is_whole
  obtain ⟨fd_size_of, G_size_of, D_size_of⟩ := ok_size_of (P := P) (w := w) (base := base) T
  have k_size_of := D_size_of.kp
  have b_size_of := bd_size_of D_size_of
  refine ⟨fd, F.ok sc_WrongBook___init (fun vs H Q E h => ?_) (fun cdv A outer s H vs Q E hr h => ?_), F⟩
  · rw [F_WrongBook___init_eq] at h
    exact spI_len (np := 3) (fun _ _ _ h => h.1) vs H Q E h
  · rw [F_WrongBook___init_eq] at h
    refine ⟨_, (pss_cons (ps_expr (pe_call G_check_number (hr.mono (by decide)) rfl T.g_check_number k_check_number b_check_number .nil (E := E) (passes_call (takes_of rfl rfl rfl rfl) fun _ _ _ _ h => h) (pa_cons (pv 1) (pa_cons pe_int (pa_cons (pe_glob (v := .int (60)) rfl T.c_MOST_LENGTH_wrongs.choose_spec ⟨_, rfl⟩) pa_nil)))))
    (pss_cons (ps_if (pt_not (pt_tru rfl (pe_call G_is_whole (hr.mono (by decide)) rfl T.g_is_whole k_is_whole b_is_whole_3 r_is_whole_3 pass0 (pa_cons (pv 2) (pa_cons pe_int (pa_cons (pe_op op_sub (pe_op op_mulU pe_int (pv 1)) pe_int) pa_nil)))) (by intro _; rfl)))
    (pss_one (ps_raise rfl (takes_of rfl rfl rfl rfl) (mk0 T.e_BadRest T.g_BadRest rfl)))
    pss_nil)
    (pss_cons (ps_fld (pv 0) (pv 1) (by rfl))
    (pss_cons (ps_fld (pv 0) (pv 2) (by rfl))
    (pss_cons (ps_fld (pv 0) (pe_op op_mulU pe_int (pv 1)) (by rfl))
    (pss_one (ps_fld (pv 0) (pe_call G_size_of (hr.mono (by decide)) rfl T.g_size_of k_size_of b_size_of .nil (E := E) (passes_call (takes_of rfl rfl rfl rfl) fun _ _ _ _ h => h) (pa_cons (pe_op op_sub (pv 1) pe_int) (pa_cons (pe_op op_mod (pv 2) (pv 1)) pa_nil))) (by rfl)))))))), ?_⟩
    exact body_ofI rfl h fun H X hd x => (dst_seq (dst_drop (de_call rfl dv_nil (ds_cons (de_var 1) (ds_cons (de_int 1) (ds_cons (de_int (60)) ds_nil)))))
    (dst_seq (dst_if (dt_not (dt_tru (DEg.bor (de_call0 dv_nil (ds_cons (de_var 2) (ds_cons (de_int 0) (ds_cons (dg_op od_sub (DEg.bor (dg_op od_mul (DEg.bor (de_int 2)) (db_var 1))) (DEg.bor (de_int 1))) ds_nil)))))))
    (dst_raise rfl)
    dst_next)
    (dst_seq (dst_setF (fld_ok T) (de_var 1))
    (dst_seq (dst_setF (fld_ok T) (de_var 2))
    (dst_seq (dst_setF (fld_ok T) (dg_op od_mul (DEg.bor (de_int 2)) (db_var 1)))
    (dst_setF (fld_ok T) (de_call rfl dv_nil (ds_cons (dg_op od_sub (db_var 1) (DEg.bor (de_int 1))) (ds_cons (dg_op od_mod (db_var 2) (db_var 1)) ds_nil)))))))))
end Mine

namespace Mine
open PySem PySem.Spec PyProof.Rows L2
theorem ok_SumBook_has {P : Program} {w : World} {K : PySem.W.Frag} {mg : Str → Option Value} {base : Heap} (T : Txt K mg) : ∃ fd, FnOk P w K mg base (L2.CX P w) 4 (He.ma K (He.ga K "SumBook") "has") fd P_SumBook_has (spD K F_SumBook_has) ∧ D_SumBook_has K (He.ma K (He.ga K "SumBook") "has") fd := by
  obtain ⟨fd, F⟩ := T.F_SumBook_has
  obtain ⟨fd_check_word, G_check_word, D_check_word⟩ := ok_check_word (P := P) (w := w) (base := base) T
  have k_check_word := D_check_word.kp
  obtain ⟨ds_check_word_3, r_check_word_3, b_check_word_3⟩ := bd_check_word_3 D_check_word
  obtain ⟨fd_sum_of, G_sum_of, D_sum_of⟩ := ok_sum_of (P := P) (w := w) (base := base) T
  have k_sum_of := D_sum_of.kp
  have b_sum_of := bd_sum_of D_sum_of
  refine ⟨fd, F.ok sc_SumBook_has (fun vs H Q E h => ?_) (fun cdv A outer s H vs Q E hr h => ?_), F⟩
  · rw [F_SumBook_has_eq] at h
    exact spD_len (np := 2) (fun _ _ _ h => h.1) vs H Q E h
  · rw [F_SumBook_has_eq] at h
    refine ⟨_, (pss_cons (ps_set (i := 1) sc_SumBook_has.nd rfl (by first | exact Or.inl rfl | exact Or.inr rfl) (pe_call G_check_word (hr.mono (by decide)) rfl T.g_check_word k_check_word b_check_word_3 r_check_word_3 (E := E) (passes_call (takes_of rfl rfl rfl rfl) fun _ _ _ _ h => h) (pa_cons pe_int (pa_cons (pv 1) (pa_cons (pe_glob (v := .int (200)) rfl T.c_MOST_HERE_sums.choose_spec ⟨_, rfl⟩) pa_nil)))))
    (pss_one (ps_ret (pe_and (pe_cmpR (op_eqU rfl hr.units) (pe_callB (call_lenU (K := K) rfl) (by rfl) T.z_len (by decide +kernel) (pa_cons (pv 1) pa_nil)) (pe_fldU (K := K) rfl (pv 0) (by rfl)) (by first | exact nomark _ | rfl)) (pe_one (pe_cmpR (op_eqU rfl hr.units) (pe_op op_mod (pe_call G_sum_of (hr.mono (by decide)) rfl T.g__sum_of k_sum_of b_sum_of .nil pass0 (pa_cons (pv 1) pa_nil)) (pe_fldU (K := K) rfl (pv 0) (by rfl))) (pe_fldU (K := K) rfl (pv 0) (by rfl)) (by first | exact nomark _ | rfl))))))), ?_⟩
    exact body_of rfl h fun X hd => (dst_seq (dst_asg (de_call rfl dv_nil (ds_cons (de_int 2) (ds_cons (de_var 1) (ds_cons (de_int (200)) ds_nil)))) (dg_name 1))
    (dst_ret (de_andV (dg_op od_eq (DEg.bor (dg_cb cg_len (db_cons (db_var 1) db_nil))) (DEg.bor (de_fld (fld_ok T) (db_var 0)))) (dg_op od_eq (DEg.bor (dg_op od_mod (DEg.bor (de_call0 dv_nil (ds_cons (de_var 1) ds_nil))) (DEg.bor (de_fld (fld_ok T) (db_var 0))))) (DEg.bor (de_fld (fld_ok T) (db_var 0)))))))
end Mine

namespace Mine
open PySem PySem.Spec PyProof.Rows L2
theorem ok_check_modulus {P : Program} {w : World} {K : PySem.W.Frag} {mg : Str → Option Value} {base : Heap} (T : Txt K mg) : ∃ fd, FnOk P w K mg base (L2.CX P w) 2 (He.ga K "_check_modulus") fd P_check_modulus (spD K F_check_modulus) ∧ D_check_modulus K (He.ga K "_check_modulus") fd := by
  obtain ⟨fd, F⟩ := T.F_check_modulus
  obtain ⟨fd_is_whole, G_is_whole, D_is_whole⟩ := ok_is_whole (P := P) (w := w) (base := base) T
  have k_is_whole := D_is_whole.kp
  obtain ⟨ds_is_whole_3, r_is_whole_3, b_is_whole_3⟩ := bd_is_whole_3 D_is_whole
  refine ⟨fd, F.ok sc_check_modulus (fun vs H Q E h => ?_) (fun cdv A outer s H vs Q E hr h => ?_), F⟩
  · rw [F_check_modulus_eq] at h
    exact spD_len (np := 2) (fun _ _ _ h => h.1) vs H Q E h
  · rw [F_check_modulus_eq] at h
    refine ⟨_, (pss_one (ps_if (pt_not (pt_tru rfl (pe_call G_is_whole (hr.mono (by decide)) rfl T.g_is_whole k_is_whole b_is_whole_3 r_is_whole_3 pass0 (pa_cons (pv 0) (pa_cons (pv 1) (pa_cons (pe_glob (v := .int (1000000)) rfl T.c_MOST_MODULUS.choose_spec ⟨_, rfl⟩) pa_nil)))) (by intro _; rfl)))
    (pss_one (ps_raise rfl (takes_of rfl rfl rfl rfl) (mk0 T.e_BadModulus T.g_BadModulus rfl)))
    pss_nil)), ?_⟩
    exact body_of rfl h fun X hd => (dst_if (dt_not (dt_tru (DEg.bor (de_call0 dv_nil (ds_cons (de_var 0) (ds_cons (de_var 1) (ds_cons (de_int (1000000)) ds_nil)))))))
    (dst_raise rfl)
    dst_next)
end Mine

namespace Mine
open PySem PySem.Spec PyProof.Rows L2
theorem ok_check_rest_sums {P : Program} {w : World} {K : PySem.W.Frag} {mg : Str → Option Value} {base : Heap} (T : Txt K mg) : ∃ fd, FnOk P w K mg base (L2.CX P w) 2 (He.ga K "check_rest_sums") fd P_check_rest_sums (spD K F_check_rest_sums) ∧ D_check_rest_sums K (He.ga K "check_rest_sums") fd := by
  obtain ⟨fd, F⟩ := T.F_check_rest_sums
  obtain ⟨fd_is_whole, G_is_whole, D_is_whole⟩ := ok_is_whole (P := P) (w := w) (base := base) T
  have k_is_whole := D_is_whole.kp
  obtain ⟨ds_is_whole_3, r_is_whole_3, b_is_whole_3⟩ := bd_is_whole_3 D_is_whole
  refine ⟨fd, F.ok sc_check_rest_sums (fun vs H Q E h => ?_) (fun cdv A outer s H vs Q E hr h => ?_), F⟩
  · rw [F_check_rest_sums_eq] at h
    exact spD_len (np := 2) (fun _ _ _ h => h.1) vs H Q E h
  · rw [F_check_rest_sums_eq] at h
    refine ⟨_, (pss_one (ps_if (pt_not (pt_tru rfl (pe_call G_is_whole (hr.mono (by decide)) rfl T.g_is_whole k_is_whole b_is_whole_3 r_is_whole_3 pass0 (pa_cons (pv 0) (pa_cons pe_int (pa_cons (pe_op op_sub (pv 1) pe_int) pa_nil)))) (by intro _; rfl)))
    (pss_one (ps_raise rfl (takes_of rfl rfl rfl rfl) (mk0 T.e_BadRest T.g_BadRest rfl)))
    pss_nil)), ?_⟩
    exact body_of rfl h fun X hd => (dst_if (dt_not (dt_tru (DEg.bor (de_call0 dv_nil (ds_cons (de_var 0) (ds_cons (de_int 0) (ds_cons (dg_op od_sub (db_var 1) (DEg.bor (de_int 1))) ds_nil)))))))
    (dst_raise rfl)
    dst_next)
end Mine

namespace Mine
open PySem PySem.Spec PyProof.Rows L2
theorem ok_SumBook___init {P : Program} {w : World} {K : PySem.W.Frag} {mg : Str → Option Value} {base : Heap} (T : Txt K mg) : ∃ fd, FnOk P w K mg base (L2.CX P w) 3 (He.ma K (He.ga K "SumBook") "__init__") fd P_SumBook___init (spI K "SumBook" F_SumBook___init) ∧ D_SumBook___init K (He.ma K (He.ga K "SumBook") "__init__") fd := by
  obtain ⟨fd, F⟩ := T.F_SumBook___init
  obtain ⟨fd_check_number, G_check_number, D_check_number⟩ := ok_check_number (P := P) (w := w) (base := base) T
  have k_check_number := D_check_number.kp
  have b_check_number := bd_check_number D_check_number
  obtain ⟨fd_check_modulus, G_check_modulus, D_check_modulus⟩ := ok_check_modulus (P := P) (w := w) (base := base) T
  have k_check_modulus := D_check_modulus.kp
  have b_check_modulus := bd_check_modulus D_check_modulus
  obtain ⟨fd_check_rest_sums, G_check_rest_sums, D_check_rest_sums⟩ := ok_check_rest_sums (P := P) (w := w) (base := base) T
  have k_check_rest_sums := D_check_rest_sums.kp
  have b_check_rest_sums := bd_check_rest_sums D_check_rest_sums
  refine ⟨fd, F.ok sc_SumBook___init (fun vs H Q E h => ?_) (fun cdv A outer s H vs Q E hr h => ?_), F⟩
  · rw [F_SumBook___init_eq] at h
    exact spI_len (np := 4) (fun _ _ _ h => h.1) vs H Q E h
  · rw [F_SumBook___init_eq] at h
    refine ⟨_, (pss_cons (ps_expr (pe_call G_check_number (hr.mono (by decide)) rfl T.g_check_number k_check_number b_check_number .nil (E := E) (passes_call (takes_of rfl rfl rfl rfl) fun _ _ _ _ h => h) (pa_cons (pv 1) (pa_cons pe_int (pa_cons (pe_glob (v := .int (200)) rfl T.c_MOST_HERE_sums.choose_spec ⟨_, rfl⟩) pa_nil)))))
    (pss_cons (ps_expr (pe_call G_check_modulus (hr.mono (by decide)) rfl T.g__check_modulus k_check_modulus b_check_modulus .nil (E := E) (passes_call (takes_of rfl rfl rfl rfl) fun _ _ _ _ h => h) (pa_cons (pv 2) (pa_cons (pe_op (op_addU rfl) (pv 1) pe_int) pa_nil))))
    (pss_cons (ps_expr (pe_call G_check_rest_sums (hr.mono (by decide)) rfl T.g_check_rest_sums k_check_rest_sums b_check_rest_sums .nil (E := E) (passes_call (takes_of rfl rfl rfl rfl) fun _ _ _ _ h => h) (pa_cons (pv 3) (pa_cons (pv 2) pa_nil))))
    (pss_cons (ps_fld (pv 0) (pv 1) (by rfl))
    (pss_cons (ps_fld (pv 0) (pv 2) (by rfl))
    (pss_one (ps_fld (pv 0) (pv 3) (by rfl)))))))), ?_⟩
    exact body_ofI rfl h fun H X hd x => (dst_seq (dst_drop (de_call rfl dv_nil (ds_cons (de_var 1) (ds_cons (de_int 0) (ds_cons (de_int (200)) ds_nil)))))
    (dst_seq (dst_drop (de_call rfl dv_nil (ds_cons (de_var 2) (ds_cons (dg_op od_add (db_var 1) (DEg.bor (de_int 1))) ds_nil))))
    (dst_seq (dst_drop (de_call rfl dv_nil (ds_cons (de_var 3) (ds_cons (de_var 2) ds_nil))))
    (dst_seq (dst_setF (fld_ok T) (de_var 1))
    (dst_seq (dst_setF (fld_ok T) (de_var 2))
    (dst_setF (fld_ok T) (de_var 3)))))))
end Mine

namespace Mine
open PySem PySem.Spec PyProof.Rows L2
theorem ok_data_of {P : Program} {w : World} {K : PySem.W.Frag} {mg : Str → Option Value} {base : Heap} (T : Txt K mg) : ∃ fd, FnOk P w K mg base (L2.CX P w) 4 (He.ga K "data_of") fd P_data_of (spD K F_data_of) ∧ D_data_of K (He.ga K "data_of") fd := by
  obtain ⟨fd, F⟩ := T.F_data_of
  obtain ⟨fd_check_word, G_check_word, D_check_word⟩ := ok_check_word (P := P) (w := w) (base := base) T
  have k_check_word := D_check_word.kp
  obtain ⟨ds_check_word_3, r_check_word_3, b_check_word_3⟩ := bd_check_word_3 D_check_word
  obtain ⟨fd_BadWord___init, G_BadWord___init, D_BadWord___init⟩ := ok_BadWord___init (P := P) (w := w) (base := base) T
  have k_BadWord___init := D_BadWord___init.kp
  have b_BadWord___init := bd_BadWord___init D_BadWord___init
  obtain ⟨fd_free_places, G_free_places, D_free_places⟩ := ok_free_places (P := P) (w := w) (base := base) T
  have k_free_places := D_free_places.kp
  obtain ⟨md_free_places_1_wrong, td_free_places_1_wrong, r_free_places_1_wrong, rt_free_places_1_wrong, b_free_places_1_wrong⟩ := kb_free_places_1_wrong D_free_places
  refine ⟨fd, F.ok sc_data_of (fun vs H Q E h => ?_) (fun cdv A outer s H vs Q E hr h => ?_), F⟩
  · rw [F_data_of_eq] at h
    exact spD_len (np := 2) (fun _ _ _ h => h.1) vs H Q E h
  · rw [F_data_of_eq] at h
    refine ⟨_, (pss_cons (ps_set (i := 0) sc_data_of.nd rfl (by first | exact Or.inl rfl | exact Or.inr rfl) (pe_call G_check_word (hr.mono (by decide)) rfl T.g_check_word k_check_word b_check_word_3 r_check_word_3 (E := E) (passes_call (takes_of rfl rfl rfl rfl) fun _ _ _ _ h => h) (pa_cons pe_int (pa_cons (pv 0) (pa_cons (pe_glob (v := .int (200)) rfl T.c_MOST_LENGTH_datas.choose_spec ⟨_, rfl⟩) pa_nil)))))
    (pss_cons (ps_if (pt_not (pt_tru rfl (pv 0) (by intro _; rfl)))
    (pss_one (ps_raise rfl (takes_of rfl rfl rfl rfl) (mk1 T.x_BadWord T.g_BadWord G_BadWord___init b_BadWord___init (hr.mono (by decide)) (mon_un (mon_rU _) (mon_c _)) (pe_un un_neg pe_int) rfl)))
    pss_nil)
    (pss_one (ps_ret (pe_callTy (call_tupU (K := K) rfl) (by rfl) T.z_tuple (by decide +kernel) (pa_cons (pe_lc (own := [("place", 2)]) rfl sc_data_of.nd (pi_seq (pe_callN G_free_places (hr.mono (by decide)) rfl T.g_free_places k_free_places b_free_places_1_wrong (E := E) (passes_call (takes_of rfl rfl rfl rfl) fun _ _ _ _ h => h) (pa_cons (pe_callB (call_lenU (K := K) rfl) (by rfl) T.z_len (by decide +kernel) (pa_cons (pv 0) pa_nil)) pa_nil) (pk_cons (pv 1) pk_nil))) (blkOk_by (own := [("place", 2)]) (N := N_data_of) (sc := defScope s_data_of) (by decide +kernel)) (fun _ _ _ _ _ => (pg_name (i := 2) sc_data_of.nd rfl (by first | exact Or.inl rfl | exact Or.inr rfl))) (fun _ _ _ _ _ => pts_nil) (fun _ _ _ _ _ => (pe_ix (ix_U (K := K) rfl) (pv 0) (pe_op op_sub (pv 2) pe_int) (fun _ _ => rfl)))) pa_nil)))))), ?_⟩
    exact body_of rfl h fun X hd => (dst_seq (dst_asg (de_call rfl dv_nil (ds_cons (de_int 2) (ds_cons (de_var 0) (ds_cons (de_int (200)) ds_nil)))) (dg_name 0))
    (dst_seq (dst_if (dt_not (dt_tru (db_var 0)))
    (dst_raise1 rfl (de_un ud_neg (DEg.bor (de_int 1))))
    dst_next)
    (dst_ret (dg_cb cg_tup (db_cons (DEg.bor (DEg.cln (df_lc (di_seq (R := Bor) (DEg.bor (de_callK rfl dv_nil dv_nil (ds_cons (dg_cb cg_len (db_cons (db_var 0) db_nil)) ds_nil) (ds_cons (de_var 1) ds_nil)))) (dg_name 2) dt_yes (dg_op od_ix (db_var 0) (DEg.bor (dg_op od_sub (db_var 2) (DEg.bor (de_int 1)))))))) db_nil)))))
end Mine

namespace Mine
open PySem PySem.Spec PyProof.Rows L2
theorem ok_law_word_holds {P : Program} {w : World} {K : PySem.W.Frag} {mg : Str → Option Value} {base : Heap} (T : Txt K mg) : ∃ fd, FnOk P w K mg base CX0 10 (He.ga K "_law_word_holds") fd P_law_word_holds (spD K F_law_word_holds) ∧ D_law_word_holds K (He.ga K "_law_word_holds") fd := by
  obtain ⟨fd, F⟩ := T.F_law_word_holds
  obtain ⟨fd_law_either, G_law_either, D_law_either⟩ := ok_law_either (P := P) (w := w) (base := base) T
  have k_law_either := D_law_either.kp
  have b_law_either := bd_law_either D_law_either
  obtain ⟨fd_law_data, G_law_data, D_law_data⟩ := ok_law_data (P := P) (w := w) (base := base) T
  have k_law_data := D_law_data.kp
  have b_law_data := bd_law_data D_law_data
  obtain ⟨fd_data_word, G_data_word, D_data_word⟩ := ok_data_word (P := P) (w := w) (base := base) T
  have k_data_word := D_data_word.kp
  obtain ⟨md_data_word_3_wrong, td_data_word_3_wrong, r_data_word_3_wrong, rt_data_word_3_wrong, b_data_word_3_wrong⟩ := kb_data_word_3_wrong D_data_word
  obtain ⟨fd_law_exact, G_law_exact, D_law_exact⟩ := ok_law_exact (P := P) (w := w) (base := base) T
  have k_law_exact := D_law_exact.kp
  have b_law_exact := bd_law_exact D_law_exact
  obtain ⟨ds_data_word_3, r_data_word_3, b_data_word_3⟩ := bd_data_word_3 D_data_word
  obtain ⟨fd_law_sum, G_law_sum, D_law_sum⟩ := ok_law_sum (P := P) (w := w) (base := base) T
  have k_law_sum := D_law_sum.kp
  have b_law_sum := bd_law_sum D_law_sum
  obtain ⟨fd_WrongBook_has, G_WrongBook_has, D_WrongBook_has⟩ := ok_WrongBook_has (P := P) (w := w) (base := base) T
  have k_WrongBook_has := D_WrongBook_has.kp
  have b_WrongBook_has := bd_WrongBook_has D_WrongBook_has
  obtain ⟨fd_WrongBook___init, G_WrongBook___init, D_WrongBook___init⟩ := ok_WrongBook___init (P := P) (w := w) (base := base) T
  have k_WrongBook___init := D_WrongBook___init.kp
  have b_WrongBook___init := bd_WrongBook___init D_WrongBook___init
  obtain ⟨fd_SumBook_has, G_SumBook_has, D_SumBook_has⟩ := ok_SumBook_has (P := P) (w := w) (base := base) T
  have k_SumBook_has := D_SumBook_has.kp
  have b_SumBook_has := bd_SumBook_has D_SumBook_has
  obtain ⟨fd_SumBook___init, G_SumBook___init, D_SumBook___init⟩ := ok_SumBook___init (P := P) (w := w) (base := base) T
  have k_SumBook___init := D_SumBook___init.kp
  have b_SumBook___init := bd_SumBook___init D_SumBook___init
  obtain ⟨fd_data_of, G_data_of, D_data_of⟩ := ok_data_of (P := P) (w := w) (base := base) T
  have k_data_of := D_data_of.kp
  obtain ⟨md_data_of_1_wrong, td_data_of_1_wrong, r_data_of_1_wrong, rt_data_of_1_wrong, b_data_of_1_wrong⟩ := kb_data_of_1_wrong D_data_of
  obtain ⟨ds_data_of_1, r_data_of_1, b_data_of_1⟩ := bd_data_of_1 D_data_of
  refine ⟨fd, F.ok sc_law_word_holds (fun vs H Q E h => ?_) (fun cdv A outer s H vs Q E hr h => ?_), F⟩
  · rw [F_law_word_holds_eq] at h
    exact spD_len (np := 5) (fun _ _ _ h => h.1) vs H Q E h
  · rw [F_law_word_holds_eq] at h
    refine ⟨_, PSs.nox (pss_cons (ps_set (i := 5) sc_law_word_holds.nd rfl (by first | exact Or.inl rfl | exact Or.inr rfl) (pe_call G_law_either (hr.mono (by decide)) rfl T.g__law_either k_law_either b_law_either .nil pass0 (pa_cons (pv 0) (pa_cons (pv 3) pa_nil))))
    (pss_cons (ps_set (i := 6) sc_law_word_holds.nd rfl (by first | exact Or.inl rfl | exact Or.inr rfl) (pe_call G_law_data (hr.mono (by decide)) rfl T.g__law_data k_law_data b_law_data .nil pass0 (pa_cons (pv 1) (pa_cons (pv 2) (pa_cons (pv 3) (pa_cons (pv 4) pa_nil))))))
    (pss_cons (ps_set (i := 7) sc_law_word_holds.nd rfl (by first | exact Or.inl rfl | exact Or.inr rfl) (pe_callN G_data_word (hr.mono (by decide)) rfl T.g_data_word k_data_word b_data_word_3_wrong passL (pa_cons (pv 1) (pa_cons (pv 2) (pa_cons (pv 5) pa_nil))) (pk_cons (pv 4) pk_nil)))
    (pss_cons (ps_if (PW.pt (pw_or (pt_not (pt_tru rfl (pe_call G_law_exact (hr.mono (by decide)) rfl T.g__law_exact k_law_exact b_law_exact .nil pass0 (pa_cons (pv 7) (pa_cons (pv 6) pa_nil))) (by intro _; rfl))) (pw_or1 (pt_cmpR (op_neU rfl hr.units) (pe_callTy (call_lstU (K := K) rfl) (by rfl) T.z_list (by decide +kernel) (pa_cons (pv 5) pa_nil)) (pe_callTy (call_lstU (K := K) rfl) (by rfl) T.z_list (by decide +kernel) (pa_cons (pv 3) pa_nil)) (by first | exact nomark _ | rfl)))))
    (pss_one (ps_ret pe_bl))
    pss_nil)
    (pss_cons (ps_if (PW.pt (pw_and (pt_not (pt_tru rfl (pv 4) (by intro _; rfl))) (pw_and1 (pt_not (pt_tru rfl (pe_call G_law_exact (hr.mono (by decide)) rfl T.g__law_exact k_law_exact b_law_exact .nil pass0 (pa_cons (pe_call G_data_word (hr.mono (by decide)) rfl T.g_data_word k_data_word b_data_word_3 r_data_word_3 passL (pa_cons (pv 1) (pa_cons (pv 2) (pa_cons (pv 5) pa_nil)))) (pa_cons (pv 6) pa_nil))) (by intro _; rfl))))))
    (pss_one (ps_ret pe_bl))
    pss_nil)
    (pss_cons (ps_if (pt_cmpR (op_neU rfl hr.units) (pe_op op_mod (pe_callTy call_intU (by rfl) T.z_int (by decide +kernel) (pa_cons (pe_call G_law_sum (hr.mono (by decide)) rfl T.g__law_sum k_law_sum b_law_sum .nil pass0 (pa_cons (pv 6) pa_nil)) pa_nil)) (pe_ifExp (pt_tru rfl (pv 4) (by intro _; rfl)) (pe_op op_mulU pe_int (pv 1)) (pe_op (op_addU rfl) (pv 1) pe_int))) (pv 2) (by first | exact nomark _ | rfl))
    (pss_one (ps_ret pe_bl))
    pss_nil)
    (pss_cons (ps_if (PW.pt (pw_and (pt_tru rfl (pv 4) (by intro _; rfl)) (pw_and (pt_cmpR op_le (pv 1) pe_int (by first | exact nomark _ | rfl)) (pw_and1 (pt_not (pt_tru rfl (pe_call G_law_exact (hr.mono (by decide)) rfl T.g__law_exact k_law_exact b_law_exact .nil pass0 (pa_cons (pe_meth (pe_make T.r_WrongBook G_WrongBook___init (hr.mono (by decide)) rfl T.g_WrongBook b_WrongBook___init .nil passL (pa_cons (pv 1) (pa_cons (pv 2) pa_nil))) T.l_WrongBook T.b_WrongBook_is_has G_WrongBook_has (hr.mono (by decide)) b_WrongBook_has .nil passL (pa_cons (pv 6) pa_nil)) (pa_cons pe_bl pa_nil))) (by intro _; rfl)))))))
    (pss_one (ps_ret pe_bl))
    pss_nil)
    (pss_cons (ps_if (PW.pt (pw_and (pt_not (pt_tru rfl (pv 4) (by intro _; rfl))) (pw_and1 (pt_not (pt_tru rfl (pe_call G_law_exact (hr.mono (by decide)) rfl T.g__law_exact k_law_exact b_law_exact .nil pass0 (pa_cons (pe_meth (pe_make T.r_SumBook G_SumBook___init (hr.mono (by decide)) rfl T.g_SumBook b_SumBook___init .nil passL (pa_cons (pv 1) (pa_cons (pe_op (op_addU rfl) (pv 1) pe_int) (pa_cons (pv 2) pa_nil)))) T.l_SumBook T.b_SumBook_is_has G_SumBook_has (hr.mono (by decide)) b_SumBook_has .nil passL (pa_cons (pv 6) pa_nil)) (pa_cons pe_bl pa_nil))) (by intro _; rfl))))))
    (pss_one (ps_ret pe_bl))
    pss_nil)
    (pss_cons (ps_set (i := 8) sc_law_word_holds.nd rfl (by first | exact Or.inl rfl | exact Or.inr rfl) (pe_callN G_data_of (hr.mono (by decide)) rfl T.g_data_of k_data_of b_data_of_1_wrong passL (pa_cons (pe_call G_law_either (hr.mono (by decide)) rfl T.g__law_either k_law_either b_law_either .nil pass0 (pa_cons (pv 0) (pa_cons (pv 6) pa_nil))) pa_nil) (pk_cons (pv 4) pk_nil)))
    (pss_one (ps_ret (pe_and (pe_call G_law_exact (hr.mono (by decide)) rfl T.g__law_exact k_law_exact b_law_exact .nil pass0 (pa_cons (pv 8) (pa_cons (pv 3) pa_nil))) (pe_one (pe_or (pv 4) (pe_one (pe_call G_law_exact (hr.mono (by decide)) rfl T.g__law_exact k_law_exact b_law_exact .nil pass0 (pa_cons (pe_call G_data_of (hr.mono (by decide)) rfl T.g_data_of k_data_of b_data_of_1 r_data_of_1 passL (pa_cons (pv 6) pa_nil)) (pa_cons (pv 3) pa_nil)))))))))))))))))), ?_⟩
    exact body_of0 rfl h fun X hd => (dst_seq (dst_asg (de_call0 dv_nil (ds_hand (i := 0) (ds_cons (de_var 3) ds_nil))) (dg_name 5))
    (dst_of S_law_word_holds_r2_eq
    (dst_seq (dst_asg (de_call0 dv_nil (ds_cons (de_var 1) (ds_cons (de_var 2) (ds_cons (de_var 3) (ds_cons (de_var 4) ds_nil))))) (dg_name 6))
    (dst_of S_law_word_holds_r3_eq
    (dst_seq (dst_asg (de_callK0 dv_nil dv_nil (ds_cons (de_var 1) (ds_cons (de_var 2) (ds_cons (de_var 5) ds_nil))) (ds_cons (de_var 4) ds_nil)) (dg_name 7))
    (dst_of S_law_word_holds_r4_eq
    (dst_seq (dst_if (dt_or (dt_not (dt_tru (DEg.bor (de_call0 dv_nil (ds_cons (de_var 7) (ds_cons (de_var 6) ds_nil)))))) (dt_test (dg_op od_ne (DEg.bor (DEg.cln (dg_cb cg_lst (db_cons (db_var 5) db_nil)))) (DEg.bor (DEg.cln (dg_cb cg_lst (db_cons (db_var 3) db_nil)))))))
    (dst_ret (de_bl false))
    dst_next)
    (dst_of S_law_word_holds_r6_eq
    (dst_seq (dst_if (dt_and (dt_not (dt_tru (db_var 4))) (dt_not (dt_tru (DEg.bor (de_call0 dv_nil (ds_cons (de_call0 (dv_cons rfl dv_nil) (ds_cons (de_var 1) (ds_cons (de_var 2) (ds_cons (de_var 5) ds_nil)))) (ds_cons (de_var 6) ds_nil)))))))
    (dst_ret (de_bl false))
    dst_next)
    (dst_of S_law_word_holds_r8_eq
    (dst_seq (dst_if (dt_test (dg_op od_ne (DEg.bor (dg_op od_mod (DEg.bor (dg_cb cg_int (db_cons (DEg.bor (de_call0 dv_nil (ds_cons (de_var 6) ds_nil))) db_nil))) (DEg.bor (dg_if (dt_tru (db_var 4)) (dg_op od_mul (DEg.bor (de_int 2)) (db_var 1)) (dg_op od_add (db_var 1) (DEg.bor (de_int 1))))))) (db_var 2)))
    (dst_ret (de_bl false))
    dst_next)
    (dst_of S_law_word_holds_r10_eq
    (dst_seq (dst_if (dt_and (dt_tru (db_var 4)) (dt_and (dt_test (dg_op od_le (db_var 1) (DEg.bor (de_int 60)))) (dt_not (dt_tru (DEg.bor (de_call0 dv_nil (ds_cons (de_meth0 dv_nil (de_make0 (cls := "WrongBook") dv_nil (ds_cons (de_var 1) (ds_cons (de_var 2) ds_nil))) (ds_cons (de_var 6) ds_nil)) (ds_cons (de_bl true) ds_nil))))))))
    (dst_ret (de_bl false))
    dst_next)
    (dst_of S_law_word_holds_r12_eq
    (dst_seq (dst_if (dt_and (dt_not (dt_tru (db_var 4))) (dt_not (dt_tru (DEg.bor (de_call0 dv_nil (ds_cons (de_meth0 dv_nil (de_make0 (cls := "SumBook") dv_nil (ds_cons (de_var 1) (ds_cons (dg_op od_add (db_var 1) (DEg.bor (de_int 1))) (ds_cons (de_var 2) ds_nil)))) (ds_cons (de_var 6) ds_nil)) (ds_cons (de_bl true) ds_nil)))))))
    (dst_ret (de_bl false))
    dst_next)
    (dst_of S_law_word_holds_r14_eq
    (dst_seq (dst_asg (de_callK0 dv_nil dv_nil (ds_cons (de_call0 dv_nil (ds_hand (i := 0) (ds_cons (de_var 6) ds_nil))) ds_nil) (ds_cons (de_var 4) ds_nil)) (dg_name 8))
    (dst_of S_law_word_holds_r15_eq
    (dst_ret (de_andV (de_call0 dv_nil (ds_cons (de_var 8) (ds_cons (de_var 3) ds_nil))) (de_orV (de_var 4) (de_call0 dv_nil (ds_cons (de_call0 (dv_cons rfl dv_nil) (ds_cons (de_var 6) ds_nil)) (ds_cons (de_var 3) ds_nil))))))))))))))))))))))))
end Mine

namespace Mine
open PySem PySem.Spec PyProof.Rows L2
theorem ok_law_all_hold {P : Program} {w : World} {K : PySem.W.Frag} {mg : Str → Option Value} {base : Heap} (T : Txt K mg) : ∃ fd, FnOk P w K mg base CX0 11 (He.ga K "_law_all_hold") fd P_law_all_hold (spD K F_law_all_hold) ∧ D_law_all_hold K (He.ga K "_law_all_hold") fd := by
  obtain ⟨fd, F⟩ := T.F_law_all_hold
  obtain ⟨fd_law_free, G_law_free, D_law_free⟩ := ok_law_free (P := P) (w := w) (base := base) T
  have k_law_free := D_law_free.kp
  have b_law_free := bd_law_free D_law_free
  obtain ⟨fd_law_exact, G_law_exact, D_law_exact⟩ := ok_law_exact (P := P) (w := w) (base := base) T
  have k_law_exact := D_law_exact.kp
  have b_law_exact := bd_law_exact D_law_exact
  obtain ⟨fd_free_places, G_free_places, D_free_places⟩ := ok_free_places (P := P) (w := w) (base := base) T
  have k_free_places := D_free_places.kp
  obtain ⟨md_free_places_1_wrong, td_free_places_1_wrong, r_free_places_1_wrong, rt_free_places_1_wrong, b_free_places_1_wrong⟩ := kb_free_places_1_wrong D_free_places
  obtain ⟨fd_law_power, G_law_power, D_law_power⟩ := ok_law_power (P := P) (w := w) (base := base) T
  have k_law_power := D_law_power.kp
  have b_law_power := bd_law_power D_law_power
  obtain ⟨fd_law_bits, G_law_bits, D_law_bits⟩ := ok_law_bits (P := P) (w := w) (base := base) T
  have k_law_bits := D_law_bits.kp
  have b_law_bits := bd_law_bits D_law_bits
  obtain ⟨fd_law_word_holds, G_law_word_holds, D_law_word_holds⟩ := ok_law_word_holds (P := P) (w := w) (base := base) T
  have k_law_word_holds := D_law_word_holds.kp
  have b_law_word_holds := bd_law_word_holds D_law_word_holds
  obtain ⟨fd_data_word, G_data_word, D_data_word⟩ := ok_data_word (P := P) (w := w) (base := base) T
  have k_data_word := D_data_word.kp
  obtain ⟨md_data_word_3_wrong, td_data_word_3_wrong, r_data_word_3_wrong, rt_data_word_3_wrong, b_data_word_3_wrong⟩ := kb_data_word_3_wrong D_data_word
  refine ⟨fd, F.ok sc_law_all_hold (fun vs H Q E h => ?_) (fun cdv A outer s H vs Q E hr h => ?_), F⟩
  · rw [F_law_all_hold_eq] at h
    exact spD_len (np := 3) (fun _ _ _ h => h.1) vs H Q E h
  · rw [F_law_all_hold_eq] at h
    refine ⟨_, PSs.nox (pss_cons (ps_set (i := 3) sc_law_all_hold.nd rfl (by first | exact Or.inl rfl | exact Or.inr rfl) (pe_call G_law_free (hr.mono (by decide)) rfl T.g__law_free k_law_free b_law_free .nil pass0 (pa_cons (pv 1) (pa_cons (pv 2) pa_nil))))
    (pss_cons (ps_if (pt_not (pt_tru rfl (pe_call G_law_exact (hr.mono (by decide)) rfl T.g__law_exact k_law_exact b_law_exact .nil pass0 (pa_cons (pe_callN G_free_places (hr.mono (by decide)) rfl T.g_free_places k_free_places b_free_places_1_wrong passL (pa_cons (pv 1) pa_nil) (pk_cons (pv 2) pk_nil)) (pa_cons (pv 3) pa_nil))) (by intro _; rfl)))
    (pss_one (ps_ret pe_bl))
    pss_nil)
    (pss_cons (ps_for PassesOwn.never rfl (pi_range1 (by rfl) T.z_range (pa_cons (pe_ifExp (pt_tru rfl (pv 2) (by intro _; rfl)) (pe_op op_mulU pe_int (pv 1)) (pe_op (op_addU rfl) (pv 1) pe_int)) pa_nil)) (pg_name (i := 4) sc_law_all_hold.nd rfl (by first | exact Or.inl rfl | exact Or.inr rfl))
    (pss_cons (ps_set (i := 5) sc_law_all_hold.nd rfl (by first | exact Or.inl rfl | exact Or.inr rfl) (pe_lst pa_nil))
    (pss_cons (ps_for PassesOwn.never rfl (pi_range1 (by rfl) T.z_range (pa_cons (pe_call G_law_power (hr.mono (by decide)) rfl T.g__law_power k_law_power b_law_power .nil pass0 (pa_cons pe_int (pa_cons (pe_callB (call_lenU (K := K) rfl) (by rfl) T.z_len (by decide +kernel) (pa_cons (pv 3) pa_nil)) pa_nil))) pa_nil)) (pg_name (i := 6) sc_law_all_hold.nd rfl (by first | exact Or.inl rfl | exact Or.inr rfl))
    (pss_cons (ps_set (i := 7) sc_law_all_hold.nd rfl (by first | exact Or.inl rfl | exact Or.inr rfl) (pe_call G_law_bits (hr.mono (by decide)) rfl T.g__law_bits k_law_bits b_law_bits .nil pass0 (pa_cons (pv 6) (pa_cons (pe_callB (call_lenU (K := K) rfl) (by rfl) T.z_len (by decide +kernel) (pa_cons (pv 3) pa_nil)) pa_nil))))
    (pss_cons (ps_if (pt_not (pt_tru rfl (pe_call G_law_word_holds (hr.mono (by decide)) rfl T.g__law_word_holds k_law_word_holds b_law_word_holds .nil pass0 (pa_cons (pv 0) (pa_cons (pv 1) (pa_cons (pv 4) (pa_cons (pv 7) (pa_cons (pv 2) pa_nil)))))) (by intro _; rfl)))
    (pss_one (ps_ret pe_bl))
    pss_nil)
    (pss_one (ps_expr (pe_bm PySem.F.plainAttrs_list PySem.F.slot_list_append PySem.F.type_list_append mt_append (pv 5) (pa_cons (pe_callN G_data_word (hr.mono (by decide)) rfl T.g_data_word k_data_word b_data_word_3_wrong passL (pa_cons (pv 1) (pa_cons (pv 4) (pa_cons (pv 7) pa_nil))) (pk_cons (pv 2) pk_nil)) pa_nil)))))))
    (pss_one (ps_if (pt_cmpR (op_neU rfl hr.units) (pe_callB cr_lenSG (by rfl) T.z_len (by decide +kernel) (pa_cons (pe_callTy (cr_setOfG rfl hr.units) (by rfl) T.z_set (by decide +kernel) (pa_cons (pv 5) pa_nil)) pa_nil)) (pe_call G_law_power (hr.mono (by decide)) rfl T.g__law_power k_law_power b_law_power .nil pass0 (pa_cons pe_int (pa_cons (pe_callB (call_lenU (K := K) rfl) (by rfl) T.z_len (by decide +kernel) (pa_cons (pv 3) pa_nil)) pa_nil))) (by first | exact nomark _ | rfl))
    (pss_one (ps_ret pe_bl))
    pss_nil)))))
    (pss_one (ps_ret pe_bl))))), ?_⟩
    exact body_of0 rfl h fun X hd => (dst_seq (dst_asg (de_call0 dv_nil (ds_cons (de_var 1) (ds_cons (de_var 2) ds_nil))) (dg_name 3))
    (dst_of S_law_all_hold_r2_eq
    (dst_seq (dst_if (dt_not (dt_tru (DEg.bor (de_call0 dv_nil (ds_cons (de_callK0 dv_nil dv_nil (ds_cons (de_var 1) ds_nil) (ds_cons (de_var 2) ds_nil)) (ds_cons (de_var 3) ds_nil))))))
    (dst_ret (de_bl false))
    dst_next)
    (dst_of S_law_all_hold_r4_eq
    (dst_seq (dst_for (di_rng1 (db_cons (DEg.bor (dg_if (dt_tru (db_var 2)) (dg_op od_mul (DEg.bor (de_int 2)) (db_var 1)) (dg_op od_add (db_var 1) (DEg.bor (de_int 1))))) db_nil)) (dg_name 4)
    (dst_of S_law_all_hold_b5_eq
    (dst_seq (dst_own (df_lst da_nil))
    (dst_of S_law_all_hold_r6_eq
    (dst_seq (dst_for (di_rng1 (db_cons (DEg.bor (de_call0 dv_nil (ds_cons (de_int 2) (ds_cons (dg_cb cg_len (db_cons (db_var 3) db_nil)) ds_nil)))) db_nil)) (dg_name 6)
    (dst_of S_law_all_hold_b7_eq
    (dst_seq (dst_asg (de_call0 dv_nil (ds_cons (de_var 6) (ds_cons (dg_cb cg_len (db_cons (db_var 3) db_nil)) ds_nil))) (dg_name 7))
    (dst_of S_law_all_hold_r8_eq
    (dst_seq (dst_if (dt_not (dt_tru (DEg.bor (de_call0 dv_nil (ds_hand (i := 0) (ds_cons (de_var 1) (ds_cons (de_var 4) (ds_cons (de_var 7) (ds_cons (de_var 2) ds_nil)))))))))
    (dst_ret (de_bl false))
    dst_next)
    (dst_of S_law_all_hold_r10_eq
    (dst_app (de_callK0 dv_nil dv_nil (ds_cons (de_var 1) (ds_cons (de_var 4) (ds_cons (de_var 7) ds_nil))) (ds_cons (de_var 2) ds_nil)))))))))
    (dst_of S_law_all_hold_r11_eq
    (dst_if (dt_test (dg_op od_ne (DEg.bor (de_lenSetG (db_var 5))) (DEg.bor (de_call0 dv_nil (ds_cons (de_int 2) (ds_cons (dg_cb cg_len (db_cons (db_var 3) db_nil)) ds_nil))))))
    (dst_ret (de_bl false))
    dst_next)))))))
    (dst_of S_law_all_hold_r13_eq
    (dst_ret (de_bl true))))))))
end Mine

namespace Mine
open PySem PySem.Spec PyProof.Rows L2
theorem ok_law {P : Program} {w : World} {K : PySem.W.Frag} {mg : Str → Option Value} {base : Heap} (T : Txt K mg) (g : Goal) : ∃ fd, FnOk P w K mg base CX0 12 (He.ga K "law") fd P_law (sp_law K) ∧ D_law K (He.ga K "law") fd := by
  obtain ⟨fd, F⟩ := T.F_law
  obtain ⟨fd_law_hand, G_law_hand, D_law_hand⟩ := ok_law_hand (P := P) (w := w) (base := base) T
  have k_law_hand := D_law_hand.kp
  have b_law_hand := bd_law_hand D_law_hand
  obtain ⟨fd_law_take, G_law_take, D_law_take⟩ := ok_law_take (P := P) (w := w) (base := base) T
  have k_law_take := D_law_take.kp
  have b_law_take := bd_law_take D_law_take
  obtain ⟨fd_law_free, G_law_free, D_law_free⟩ := ok_law_free (P := P) (w := w) (base := base) T
  have k_law_free := D_law_free.kp
  have b_law_free := bd_law_free D_law_free
  obtain ⟨fd_law_bits, G_law_bits, D_law_bits⟩ := ok_law_bits (P := P) (w := w) (base := base) T
  have k_law_bits := D_law_bits.kp
  have b_law_bits := bd_law_bits D_law_bits
  obtain ⟨fd_law_power, G_law_power, D_law_power⟩ := ok_law_power (P := P) (w := w) (base := base) T
  have k_law_power := D_law_power.kp
  have b_law_power := bd_law_power D_law_power
  obtain ⟨fd_law_exact, G_law_exact, D_law_exact⟩ := ok_law_exact (P := P) (w := w) (base := base) T
  have k_law_exact := D_law_exact.kp
  have b_law_exact := bd_law_exact D_law_exact
  obtain ⟨fd_free_places, G_free_places, D_free_places⟩ := ok_free_places (P := P) (w := w) (base := base) T
  have k_free_places := D_free_places.kp
  obtain ⟨md_free_places_1_wrong, td_free_places_1_wrong, r_free_places_1_wrong, rt_free_places_1_wrong, b_free_places_1_wrong⟩ := kb_free_places_1_wrong D_free_places
  obtain ⟨fd_law_word_holds, G_law_word_holds, D_law_word_holds⟩ := ok_law_word_holds (P := P) (w := w) (base := base) T
  have k_law_word_holds := D_law_word_holds.kp
  have b_law_word_holds := bd_law_word_holds D_law_word_holds
  obtain ⟨fd_data_of, G_data_of, D_data_of⟩ := ok_data_of (P := P) (w := w) (base := base) T
  have k_data_of := D_data_of.kp
  obtain ⟨md_data_of_1_wrong, td_data_of_1_wrong, r_data_of_1_wrong, rt_data_of_1_wrong, b_data_of_1_wrong⟩ := kb_data_of_1_wrong D_data_of
  obtain ⟨ds_free_places_1, r_free_places_1, b_free_places_1⟩ := bd_free_places_1 D_free_places
  obtain ⟨fd_law_all_hold, G_law_all_hold, D_law_all_hold⟩ := ok_law_all_hold (P := P) (w := w) (base := base) T
  have k_law_all_hold := D_law_all_hold.kp
  have b_law_all_hold := bd_law_all_hold D_law_all_hold
  refine ⟨fd, F.ok sc_law (fun vs H Q E h => ?_) (fun cdv A outer s H vs Q E hr h => ?_), F⟩
  · obtain ⟨a, ns, rfl, _⟩ := h
    rfl
  · refine ⟨_, PSs.nox (pss_cons (ps_set (i := 1) sc_law.nd rfl (by first | exact Or.inl rfl | exact Or.inr rfl) (pe_call G_law_hand (hr.mono (by decide)) rfl T.g__law_hand k_law_hand b_law_hand .nil pass0 (pa_cons (pv 0) pa_nil)))
    (pss_cons (ps_set (i := 2) sc_law.nd rfl (by first | exact Or.inl rfl | exact Or.inr rfl) (pe_op (op_addU rfl) pe_int (pe_call G_law_take (hr.mono (by decide)) rfl T.g__law_take k_law_take b_law_take .nil pass0 (pa_cons (pv 1) (pa_cons (pe_ifExp (pt_cmpR (op_eqU rfl hr.units) (pe_call G_law_take (hr.mono (by decide)) rfl T.g__law_take k_law_take b_law_take .nil pass0 (pa_cons (pv 1) (pa_cons pe_int pa_nil))) pe_int (by first | exact nomark _ | rfl)) pe_int pe_int) pa_nil)))))
    (pss_cons (ps_for PassesOwn.never rfl (pi_seq (pe_tup (pa_cons pe_bl (pa_cons pe_bl pa_nil)))) (pg_name (i := 3) sc_law.nd rfl (by first | exact Or.inl rfl | exact Or.inr rfl))
    (pss_cons (ps_set (i := 4) sc_law.nd rfl (by first | exact Or.inl rfl | exact Or.inr rfl) (pe_call G_law_free (hr.mono (by decide)) rfl T.g__law_free k_law_free b_law_free .nil pass0 (pa_cons (pv 2) (pa_cons (pv 3) pa_nil))))
    (pss_cons (ps_set (i := 5) sc_law.nd rfl (by first | exact Or.inl rfl | exact Or.inr rfl) (pe_call G_law_bits (hr.mono (by decide)) rfl T.g__law_bits k_law_bits b_law_bits .nil pass0 (pa_cons (pe_call G_law_take (hr.mono (by decide)) rfl T.g__law_take k_law_take b_law_take .nil pass0 (pa_cons (pv 1) (pa_cons (pe_call G_law_power (hr.mono (by decide)) rfl T.g__law_power k_law_power b_law_power .nil pass0 (pa_cons pe_int (pa_cons (pe_callB (call_lenU (K := K) rfl) (by rfl) T.z_len (by decide +kernel) (pa_cons (pv 4) pa_nil)) pa_nil))) pa_nil))) (pa_cons (pe_callB (call_lenU (K := K) rfl) (by rfl) T.z_len (by decide +kernel) (pa_cons (pv 4) pa_nil)) pa_nil))))
    (pss_cons (ps_set (i := 6) sc_law.nd rfl (by first | exact Or.inl rfl | exact Or.inr rfl) (pe_call G_law_take (hr.mono (by decide)) rfl T.g__law_take k_law_take b_law_take .nil pass0 (pa_cons (pv 1) (pa_cons (pe_ifExp (pt_tru rfl (pv 3) (by intro _; rfl)) (pe_op op_mulU pe_int (pv 2)) (pe_op (op_addU rfl) (pv 2) pe_int)) pa_nil))))
    (pss_cons (ps_if (pt_not (pt_tru rfl (pe_call G_law_exact (hr.mono (by decide)) rfl T.g__law_exact k_law_exact b_law_exact .nil pass0 (pa_cons (pe_callN G_free_places (hr.mono (by decide)) rfl T.g_free_places k_free_places b_free_places_1_wrong passL (pa_cons (pv 2) pa_nil) (pk_cons (pv 3) pk_nil)) (pa_cons (pv 4) pa_nil))) (by intro _; rfl)))
    (pss_one (ps_ret pe_bl))
    pss_nil)
    (pss_cons (ps_if (pt_not (pt_tru rfl (pe_call G_law_word_holds (hr.mono (by decide)) rfl T.g__law_word_holds k_law_word_holds b_law_word_holds .nil pass0 (pa_cons (pv 1) (pa_cons (pv 2) (pa_cons (pv 6) (pa_cons (pv 5) (pa_cons (pv 3) pa_nil)))))) (by intro _; rfl)))
    (pss_one (ps_ret pe_bl))
    pss_nil)
    (pss_cons (ps_set (i := 7) sc_law.nd rfl (by first | exact Or.inl rfl | exact Or.inr rfl) (pe_callTy (call_tupU (K := K) rfl) (by rfl) T.z_tuple (by decide +kernel) (pa_cons (pe_call G_law_bits (hr.mono (by decide)) rfl T.g__law_bits k_law_bits b_law_bits .nil pass0 (pa_cons (pe_call G_law_take (hr.mono (by decide)) rfl T.g__law_take k_law_take b_law_take .nil pass0 (pa_cons (pv 1) (pa_cons (pe_call G_law_power (hr.mono (by decide)) rfl T.g__law_power k_law_power b_law_power .nil pass0 (pa_cons pe_int (pa_cons (pv 2) pa_nil))) pa_nil))) (pa_cons (pv 2) pa_nil))) pa_nil)))
    (pss_one (ps_if (pt_not (pt_tru rfl (pe_call G_law_exact (hr.mono (by decide)) rfl T.g__law_exact k_law_exact b_law_exact .nil pass0 (pa_cons (pe_callN G_data_of (hr.mono (by decide)) rfl T.g_data_of k_data_of b_data_of_1_wrong passL (pa_cons (pv 7) pa_nil) (pk_cons (pv 3) pk_nil)) (pa_cons (pe_lc (own := [("_law_place", 9)]) rfl sc_law.nd (pi_seq (pv 4)) (blkOk_by (own := [("_law_place", 9)]) (N := N_law) (sc := defScope s_law) (by decide +kernel)) (fun _ _ _ _ _ => (pg_name (i := 9) sc_law.nd rfl (by first | exact Or.inl rfl | exact Or.inr rfl))) (fun _ _ _ _ _ => pts_nil) (fun _ _ _ _ _ => (pe_ix (ix_U (K := K) rfl) (pv 7) (pe_op op_sub (pv 9) pe_int) (fun _ _ => rfl)))) pa_nil))) (by intro _; rfl)))
    (pss_one (ps_ret pe_bl))
    pss_nil)))))))))
    (pss_cons (ps_if (pt_not (pt_tru rfl (pe_call G_law_exact (hr.mono (by decide)) rfl T.g__law_exact k_law_exact b_law_exact .nil pass0 (pa_cons (pe_call G_free_places (hr.mono (by decide)) rfl T.g_free_places k_free_places b_free_places_1 r_free_places_1 passL (pa_cons (pv 2) pa_nil)) (pa_cons (pe_call G_law_free (hr.mono (by decide)) rfl T.g__law_free k_law_free b_law_free .nil pass0 (pa_cons (pv 2) (pa_cons pe_bl pa_nil))) pa_nil))) (by intro _; rfl)))
    (pss_one (ps_ret pe_bl))
    pss_nil)
    (pss_cons (ps_set (i := 8) sc_law.nd rfl (by first | exact Or.inl rfl | exact Or.inr rfl) (pe_op (op_addU rfl) pe_int (pe_call G_law_take (hr.mono (by decide)) rfl T.g__law_take k_law_take b_law_take .nil pass0 (pa_cons (pv 1) (pa_cons pe_int pa_nil)))))
    (pss_one (ps_ret (pe_and (pe_call G_law_all_hold (hr.mono (by decide)) rfl T.g__law_all_hold k_law_all_hold b_law_all_hold .nil pass0 (pa_cons (pv 1) (pa_cons (pv 8) (pa_cons pe_bl pa_nil)))) (pe_one (pe_call G_law_all_hold (hr.mono (by decide)) rfl T.g__law_all_hold k_law_all_hold b_law_all_hold .nil pass0 (pa_cons (pv 1) (pa_cons (pv 8) (pa_cons pe_bl pa_nil))))))))))))), ?_⟩
    exact body_law rfl h g fun H X hd => (dst_seq (dst_asg (dg_op od_add (DEg.bor (de_int 1)) (DEg.bor (de_call0 dv_nil (ds_hand (i := 1) (ds_cons (dg_if (dt_test (dg_op od_eq (DEg.bor (de_call0 dv_nil (ds_hand (i := 1) (ds_cons (de_int 3) ds_nil)))) (DEg.bor (de_int 0)))) (de_int 200) (de_int 40)) ds_nil))))) (dg_name 2))
    (dst_of S_law_r3_eq
    (dst_seq (dst_for (di_seq (R := Cln) (de_tup (da_cons (de_bl false) (da_cons (de_bl true) da_nil)))) (dg_name 3)
    (dst_of S_law_b4_eq
    (dst_seq (dst_asg (de_call0 dv_nil (ds_cons (de_var 2) (ds_cons (de_var 3) ds_nil))) (dg_name 4))
    (dst_of S_law_r5_eq
    (dst_seq (dst_asg (de_call0 dv_nil (ds_cons (de_call0 dv_nil (ds_hand (i := 1) (ds_cons (de_call0 dv_nil (ds_cons (de_int 2) (ds_cons (dg_cb cg_len (db_cons (db_var 4) db_nil)) ds_nil))) ds_nil))) (ds_cons (dg_cb cg_len (db_cons (db_var 4) db_nil)) ds_nil))) (dg_name 5))
    (dst_of S_law_r6_eq
    (dst_seq (dst_asg (de_call0 dv_nil (ds_hand (i := 1) (ds_cons (dg_if (dt_tru (db_var 3)) (dg_op od_mul (DEg.bor (de_int 2)) (db_var 2)) (dg_op od_add (db_var 2) (DEg.bor (de_int 1)))) ds_nil))) (dg_name 6))
    (dst_of S_law_r7_eq
    (dst_seq (dst_if (dt_not (dt_tru (DEg.bor (de_call0 dv_nil (ds_cons (de_callK0 dv_nil dv_nil (ds_cons (de_var 2) ds_nil) (ds_cons (de_var 3) ds_nil)) (ds_cons (de_var 4) ds_nil))))))
    (dst_ret (de_bl false))
    dst_next)
    (dst_of S_law_r9_eq
    (dst_seq (dst_if (dt_not (dt_tru (DEg.bor (de_call0 dv_nil (ds_hand (i := 1) (ds_cons (de_var 2) (ds_cons (de_var 6) (ds_cons (de_var 5) (ds_cons (de_var 3) ds_nil)))))))))
    (dst_ret (de_bl false))
    dst_next)
    (dst_of S_law_r11_eq
    (dst_seq (dst_asg (dg_cb cg_tup (db_cons (DEg.bor (de_call0 dv_nil (ds_cons (de_call0 dv_nil (ds_hand (i := 1) (ds_cons (de_call0 dv_nil (ds_cons (de_int 2) (ds_cons (de_var 2) ds_nil))) ds_nil))) (ds_cons (de_var 2) ds_nil)))) db_nil)) (dg_name 7))
    (dst_of S_law_r12_eq
    (dst_if (dt_not (dt_tru (DEg.bor (de_call0 dv_nil (ds_cons (de_callK0 dv_nil dv_nil (ds_cons (de_var 7) ds_nil) (ds_cons (de_var 3) ds_nil)) (ds_cons (DEg.cln (df_lc (di_seq (R := Bor) (db_var 4)) (dg_name 9) dt_yes (dg_op od_ix (db_var 7) (DEg.bor (dg_op od_sub (db_var 9) (DEg.bor (de_int 1))))))) ds_nil))))))
    (dst_ret (de_bl false))
    dst_next)))))))))))))))
    (dst_of S_law_r14_eq
    (dst_seq (dst_if (dt_not (dt_tru (DEg.bor (de_call0 dv_nil (ds_cons (de_call0 (dv_cons rfl dv_nil) (ds_cons (de_var 2) ds_nil)) (ds_cons (de_call0 dv_nil (ds_cons (de_var 2) (ds_cons (de_bl false) ds_nil))) ds_nil))))))
    (dst_ret (de_bl false))
    dst_next)
    (dst_of S_law_r16_eq
    (dst_seq (dst_asg (dg_op od_add (DEg.bor (de_int 1)) (DEg.bor (de_call0 dv_nil (ds_hand (i := 1) (ds_cons (de_int 7) ds_nil))))) (dg_name 8))
    (dst_of S_law_r17_eq
    (dst_ret (de_andV (de_call0 dv_nil (ds_hand (i := 1) (ds_cons (de_var 8) (ds_cons (de_bl false) ds_nil)))) (de_call0 dv_nil (ds_hand (i := 1) (ds_cons (de_var 8) (ds_cons (de_bl true) ds_nil))))))))))))))
end Mine

open PySem PySem.W PySem.Calls PyProof.Rows
set_option maxHeartbeats 0 in
theorem PySem.Challenge.cw_lostplaces_k32_whole_data_in_every_rest_holds : PySem.Challenge.rw_lostplaces_k32_whole_data_in_every_rest.Holds := by
  w_on; o_law
  refine HandSHeadRun.head_imp (r := OpenLaw.row PySem.Challenge.rw_lostplaces_k32_whole_data_in_every_rest) (q := view (OpenLaw.row PySem.Challenge.rw_lostplaces_k32_whole_data_in_every_rest).prog [0, 59]) (H := Mine.hk) (ob := Mine.ob) (M := 20000) (loose := Mine.loose) (d := HandSHeadRun.topDef (OpenLaw.row PySem.Challenge.rw_lostplaces_k32_whole_data_in_every_rest).prog 59) (kwd := []) Mine.ob_eq
    Mine.run Mine.h_def Mine.h_p Mine.h_k Mine.h_wr Mine.h_ws Mine.h_ok Mine.h_b ?hw ?hc
  case hw => w_witness2
  case hc =>
    refine L2.walk_ofE (l := PySem.Challenge.rw_lostplaces_k32_whole_data_in_every_rest) (n := 63) (k := 12) (x := "_law_script") (CX := L2.CX0) rfl (by decide) (by kernel_rfl) ⟨rfl, by decide, by decide⟩ ?F (fun _ _ _ _ z => z)
    intro w mg fa h Y G hmg0
    obtain ⟨K, KX, c, E⟩ := Y
    have hmg : mg ("law" : PySem.Str) = some (.ref fa) := by
      have e : (HandSHeadRun.topDef (OpenLaw.row PySem.Challenge.rw_lostplaces_k32_whole_data_in_every_rest).prog 59).name = ("law" : PySem.Str) := by kernel_rfl
      rw [← e]
      exact hmg0
    have T := Mine.txt_of KX G c E
    obtain ⟨fd0, F0⟩ := T.F_law
    have e : fa = He.ga K "law" := by
      have z := hmg.symm.trans (He.glo_ok KX G (c.fact 77 (f := .glo "law") rfl))
      cases z
      rfl
    subst e
    have b0 : ∀ (s : Shared) (v : Value), BindsTo s fd0 ⟨[v], []⟩ [("_law_script", v)] := fun s v => L2.FunD.bindsA (ps := ["_law_script"]) F0 (fun _ _ _ _ _ _ us hl => match us, hl with | [_], _ => rfl) s [v] rfl
    refine ⟨K, fd0, Mine.sp_law K, KX, b0, fun H a ns hl _ hS => ⟨a, ns, rfl, hS, hl, fun _ => rfl⟩, fun base _ _ => ?_⟩
    obtain ⟨fd1, G1, D1⟩ := Mine.ok_law (g := Mine.goal) (P := (PySem.Challenge.rw_lostplaces_k32_whole_data_in_every_rest).prog) (w := w) (base := base) T
    have ef : fd1 = fd0 := Mine.funD_inj D1 F0
    exact ef ▸ G1
