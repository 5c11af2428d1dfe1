import PyProof.Rows.All
import Wide.All
import OpenK.AllK
import Wide.FinOn
import HandS.Base
import HandS.Call
import HandS.List
import HandS.Comp
import HandS.Ends
import HandS.Iter
import HandS.Text
import HandS.Words
import HandS.WordsList
import HandS.More
import HandS.Codes
import HandS.IsInst
import HandS.Zip
import HandS.Walk
import HandS.Style
import HandS.IntHex
import HandS.StrMore
import KE.KRevSl
import HandS.Defaults
import HandS.MakeKwOnly
import KE.GoesEnum
import KE.KExcSuper
import HandS.Exc
import HandS.ExcInit
import HandS.FStr
import HandS.Conv
import HandS.ExcField
import HandS.Lambda
import HandS.Star
import HandS.WordsExc
import HandS.DictComp
import HandS.WordsDict
import HandS.ClsMeth
import HandS.Property
import HandS.Deep
import KE.KeyNested
import HandS.Dict
import HandS.GenList
import HandS.Set
import HandS.Strs
import HandS.ForDict
import HandS.OwnEq
import PyProof.InstNe
import PyProof.NeKinds
import HandS.EndTab
import KE.OsRunLaw
import PySem.Challenge.RW_fivefault_k27_whole_products_have_values
set_option Elab.async false
set_option linter.all false
set_option maxRecDepth 100000

namespace Fv
open PySem PySem.Spec PyProof.Rows L2
/-! ### heaps -/
theorem same_upd {H : Hp} {p : Addr} {o : HO} (h : H p = none) : Same H (upd H p o) := fun b x e => by
  rw [upd_ne (ne_of_none e h)]
  exact e
/-- all but what stands at M is as it was -/
def SmX (M : List Addr) (H H' : Hp) : Prop := ∀ b o, b ∉ M → H b = some o → H' b = some o
theorem SmX.refl (M : List Addr) (H : Hp) : SmX M H H := fun _ _ _ h => h
theorem SmX.trans {M : List Addr} {H H1 H2 : Hp} (a : SmX M H H1) (b : SmX M H1 H2) : SmX M H H2 := fun c o m h => b c o m (a c o m h)
theorem SmX.of_same {M : List Addr} {H H1 : Hp} (a : Same H H1) : SmX M H H1 := fun c o _ h => a c o h
theorem SmX.new {M : List Addr} {H : Hp} {p : Addr} {o : HO} (h : H p = none) : SmX M H (upd H p o) := .of_same (same_upd h)
theorem SmX.sub {M M' : List Addr} {H H1 : Hp} (a : SmX M H H1) (h : ∀ b, b ∈ M → b ∈ M' ∨ H b = none) : SmX M' H H1 := fun c o m e => by
  refine a c o (fun hc => ?_) e
  rcases h c hc with q | q
  · exact m q
  · rw [q] at e; cases e
theorem SmX.at {M : List Addr} {H H1 : Hp} {a : Addr} (h : ∀ b, b ≠ a → H1 b = H b) (m : a ∈ M) : SmX M H H1 := fun c o n e => by
  rw [h c (fun z => n (z ▸ m))]; exact e
theorem SmX.put {M : List Addr} {H H1 : Hp} {p : Addr} {o : HO} (a : SmX M H H1) (m : p ∈ M) : SmX M H (L2.upd H1 p o) := fun c x n e => by
  have ne : c ≠ p := fun z => n (z ▸ m)
  rw [upd_ne ne]; exact a c x n e
/-- what does not stand at M -/
def hide (M : List Addr) (H : Hp) : Hp := fun b => if b ∈ M then none else H b
theorem hide_ne {M : List Addr} {H : Hp} {b : Addr} (h : b ∉ M) : hide M H b = H b := by unfold hide; rw [if_neg h]
theorem hide_some {M : List Addr} {H : Hp} {b : Addr} {o : HO} (h : hide M H b = some o) : b ∉ M ∧ H b = some o := by
  unfold hide at h
  by_cases m : b ∈ M
  · rw [if_pos m] at h; cases h
  · rw [if_neg m] at h; exact ⟨m, h⟩
theorem hide_same {M : List Addr} {H : Hp} : Same (hide M H) H := fun b o h => (hide_some h).2
theorem SmX.hid {M : List Addr} {H H' : Hp} (h : SmX M H H') : Same (hide M H) (hide M H') := fun b o e => by
  obtain ⟨m, e⟩ := hide_some e
  rw [hide_ne m]
  exact h b o m e
theorem hide_sub {M M' : List Addr} {H : Hp} (h : ∀ b, b ∈ M' → b ∈ M) : Same (hide M H) (hide M' H) := fun b o e => by
  obtain ⟨m, e⟩ := hide_some e
  rw [hide_ne (fun z => m (h b z))]
  exact e
theorem same_seqT {K : PySem.W.Frag} {H H' : Hp} {a : Addr} {xs : List V} (e : Same H H') (h : SqT K H a xs) : SqT K H' a xs := by
  rcases h with (h | ⟨o, h⟩) | h
  · exact .inl (.inl (e _ _ h))
  · exact .inl (.inr ⟨o, e _ _ h⟩)
  · exact .inr h
mutual
theorem dp_same {K : PySem.W.Frag} {H H' : Hp} (e : Same H H') : ∀ (d : PyData) (v : V), Dp K H v d → Dp K H' v d
  | .none, _, h => by cases h; exact .non
  | .bool b, _, h => by cases h; exact .bl b
  | .int i, _, h => by cases h; exact .int i
  | .str x, _, h => by cases h; exact .str x
  | .list ds, _, h => by cases h with | lst hs ha => exact .lst (e.seq hs) (dpAll_same e ds _ ha)
  | .tuple ds, _, h => by cases h with | tup hs ha => exact .tup (same_seqT e hs) (dpAll_same e ds _ ha)
  | .dict kvs, _, h => by cases h
theorem dpAll_same {K : PySem.W.Frag} {H H' : Hp} (e : Same H H') : ∀ (ds : List PyData) (vs : List V), DpAll K H vs ds → DpAll K H' vs ds
  | [], _, h => by cases h; exact .nil
  | d :: ds, _, h => by cases h with | cons h1 h2 => exact .cons (dp_same e d _ h1) (dpAll_same e ds _ h2)
end
theorem dpAll_len {K : PySem.W.Frag} {H : Hp} : ∀ {vs : List V} {ds : List PyData}, DpAll K H vs ds → vs.length = ds.length
  | _, _, .nil => rfl
  | _, _, .cons _ h => by rw [List.length_cons, List.length_cons, dpAll_len h]
theorem dpAll_get {K : PySem.W.Frag} {H : Hp} : ∀ {vs : List V} {ds : List PyData} {i : Nat} {v : V}, DpAll K H vs ds → vs[i]? = some v → ∃ d, ds[i]? = some d ∧ Dp K H v d
  | _, _, _, _, .nil, e => by simp at e
  | _, _, 0, _, .cons h _, e => by simp at e; subst e; exact ⟨_, rfl, h⟩
  | _ :: vs, _ :: ds, i + 1, _, .cons _ h, e => by
    have e' : vs[i]? = some _ := e
    exact dpAll_get (ds := ds) h e'
theorem dpAll_app {K : PySem.W.Frag} {H : Hp} : ∀ {vs ws : List V} {ds es : List PyData}, DpAll K H vs ds → DpAll K H ws es → DpAll K H (vs ++ ws) (ds ++ es)
  | _, _, _, _, .nil, h => h
  | _, _, _, _, .cons h1 h2, h => .cons h1 (dpAll_app h2 h)
theorem dpAll_drop {K : PySem.W.Frag} {H : Hp} : ∀ (n : Nat) {vs : List V} {ds : List PyData}, DpAll K H vs ds → DpAll K H (vs.drop n) (ds.drop n)
  | 0, _, _, h => h
  | n + 1, _, _, .nil => .nil
  | n + 1, _, _, .cons _ h => dpAll_drop n h
/-! ### data -/
mutual
/-- plain data, nested at most n deep -/
def gd : Nat → PyData → Bool
  | _, .none => true
  | _, .bool _ => true
  | _, .int _ => true
  | _, .str x => PyData.strOk x && decide (x.length ≤ 100000)
  | 0, _ => false
  | n + 1, .list ds => gdAll n ds && decide (ds.length ≤ 1000)
  | n + 1, .tuple ds => gdAll n ds && decide (ds.length ≤ 1000)
  | _, .dict _ => false
def gdAll : Nat → List PyData → Bool
  | _, [] => true
  | n, d :: ds => gd n d && gdAll n ds
end
theorem gdAll_iff {n : Nat} : ∀ {ds : List PyData}, gdAll n ds = true ↔ ∀ d ∈ ds, gd n d = true
  | [] => by simp [gdAll]
  | d :: ds => by simp [gdAll, gdAll_iff (n := n) (ds := ds)]
mutual
theorem gd_up : ∀ (n : Nat) (d : PyData), gd n d = true → gd (n + 1) d = true
  | _, .none, _ => rfl
  | _, .bool _, _ => rfl
  | _, .int _, _ => rfl
  | 0, .str x, h => h
  | n + 1, .str x, h => h
  | 0, .list _, h => by cases h
  | 0, .tuple _, h => by cases h
  | 0, .dict _, h => by cases h
  | n + 1, .list ds, h => by
    simp only [gd, Bool.and_eq_true] at h ⊢
    exact ⟨gdAll_up n ds h.1, h.2⟩
  | n + 1, .tuple ds, h => by
    simp only [gd, Bool.and_eq_true] at h ⊢
    exact ⟨gdAll_up n ds h.1, h.2⟩
  | n + 1, .dict _, h => by cases h
theorem gdAll_up : ∀ (n : Nat) (ds : List PyData), gdAll n ds = true → gdAll (n + 1) ds = true
  | _, [], _ => rfl
  | n, d :: ds, h => by
    simp only [gdAll, Bool.and_eq_true] at h ⊢
    exact ⟨gd_up n d h.1, gdAll_up n ds h.2⟩
end
theorem gd_le {n m : Nat} {d : PyData} (h : gd n d = true) (hm : n ≤ m) : gd m d = true := by
  induction hm with
  | refl => exact h
  | step _ ih => exact gd_up _ _ ih
mutual
theorem gd_lay : ∀ (n : Nat) (d : PyData), gd n d = true → d.canLay0 = true ∧ d.depth ≤ n
  | _, .none, _ => ⟨rfl, by simp [PyData.depth]⟩
  | _, .bool _, _ => ⟨rfl, by simp [PyData.depth]⟩
  | _, .int _, _ => ⟨rfl, by simp [PyData.depth]⟩
  | 0, .str x, h => ⟨by simp only [gd, Bool.and_eq_true] at h; simpa [PyData.canLay0] using h.1, by simp [PyData.depth]⟩
  | n + 1, .str x, h => ⟨by simp only [gd, Bool.and_eq_true] at h; simpa [PyData.canLay0] using h.1, by simp [PyData.depth]⟩
  | 0, .list _, h => by cases h
  | 0, .tuple _, h => by cases h
  | 0, .dict _, h => by cases h
  | n + 1, .list ds, h => by
    have q := gdAll_lay n ds (by simp only [gd, Bool.and_eq_true] at h; exact h.1)
    exact ⟨by simpa [PyData.canLay0] using q.1, by simp only [PyData.depth]; omega⟩
  | n + 1, .tuple ds, h => by
    have q := gdAll_lay n ds (by simp only [gd, Bool.and_eq_true] at h; exact h.1)
    exact ⟨by simpa [PyData.canLay0] using q.1, by simp only [PyData.depth]; omega⟩
  | n + 1, .dict _, h => by cases h
theorem gdAll_lay : ∀ (n : Nat) (ds : List PyData), gdAll n ds = true → PyData.canLayAll0 ds = true ∧ PyData.depthAll ds ≤ n
  | _, [], _ => ⟨rfl, by simp [PyData.depthAll]⟩
  | n, d :: ds, h => by
    simp only [gdAll, Bool.and_eq_true] at h
    have a := gd_lay n d h.1
    have b := gdAll_lay n ds h.2
    exact ⟨by simp [PyData.canLayAll0, a.1, b.1], by simp only [PyData.depthAll]; omega⟩
end
theorem gd_list {n : Nat} {ds : List PyData} (h : gd (n + 1) (.list ds) = true) : ds.length ≤ 1000 ∧ ∀ d ∈ ds, gd n d = true := by
  simp only [gd, Bool.and_eq_true, decide_eq_true_eq] at h
  exact ⟨h.2, gdAll_iff.mp h.1⟩
theorem gd_tuple {n : Nat} {ds : List PyData} (h : gd (n + 1) (.tuple ds) = true) : ds.length ≤ 1000 ∧ ∀ d ∈ ds, gd n d = true := by
  simp only [gd, Bool.and_eq_true, decide_eq_true_eq] at h
  exact ⟨h.2, gdAll_iff.mp h.1⟩
theorem gd_tup {n : Nat} {ds : List PyData} (h : ∀ d ∈ ds, gd n d = true) (hl : ds.length ≤ 1000) : gd (n + 1) (.tuple ds) = true := by
  simp only [gd, Bool.and_eq_true, decide_eq_true_eq]
  exact ⟨gdAll_iff.mpr h, hl⟩
theorem gd_lst {n : Nat} {ds : List PyData} (h : ∀ d ∈ ds, gd n d = true) (hl : ds.length ≤ 1000) : gd (n + 1) (.list ds) = true := by
  simp only [gd, Bool.and_eq_true, decide_eq_true_eq]
  exact ⟨gdAll_iff.mpr h, hl⟩
theorem gd_shaped {n : Nat} {d : PyData} (h : gd n d = true) (hn : n ≤ 64) : SeqAt.shaped d = true := by
  have q := gd_lay n d h
  show (d.canLay0 && decide (d.depth ≤ 64)) = true
  rw [q.1, decide_eq_true (Nat.le_trans q.2 hn)]
  rfl
end Fv


namespace Fv
open PySem PySem.Spec PyProof.Rows L2
/-! ### an own def as its callers see it -/
structure Own (P : Program) (w : World) (K : PySem.W.Frag) (mg : Str → Option Value) (base : Heap) (k : Nat) (x : Str) (ps : List Str) (sp : Sp) : Prop where
  ex : ∃ (f : Addr) (fd : FuncData), mg x = some (.ref f) ∧ PySem.W.keepIn K (.ref f) = true ∧ Binds K fd ps [] ∧ FnOk P w K mg base CX0 k f fd ps sp
section
variable {X : Cx} {k : Nat} {x : Str} {ps : List Str} {sp : Sp} {e : Expr} {es : List Expr} {t : TA} {p pos : Pos}
theorem pe_own (C : Own X.prog X.w X.K X.mg X.base k x ps sp) (hr : Room k X.A) (hg : Gl X x) (ha : PA X (e :: es) t) (hdb : (x == ("__debug__" : Str)) = false := by decide)
    (he : starEach (e :: es) X.env = (false, eval e X.env) :: starEach es X.env := by rfl) (hpl : (backTo pos (starEach es X.env)).any (·.1) = false := by rfl) : PE X (.Call (.Name x p) (e :: es) [] pos) (tCall sp [] E0 t) := by
  obtain ⟨f, fd, h1, h2, h3, h4⟩ := C.ex
  exact pe_call h4 hr hg h1 h2 h3 .nil pass0 ha hdb he hpl
end
/-! ### isinstance of data -/
def tyN : PyData → String
  | .none => "NoneType"
  | .bool _ => "bool"
  | .int _ => "int"
  | .str _ => "str"
  | .list _ => "list"
  | .tuple _ => "tuple"
  | .dict _ => "dict"
/-- isinstance of data, by the names of the types -/
def isB : String → String → Bool
  | a, b => a == b || (a == "bool" && b == "int")
def tyOk (T : String) : Bool := T == "str" || T == "int" || T == "bool" || T == "list" || T == "tuple" || T == "dict"
theorem kitB_all {d : PyData} {T : String} (h : tyOk T = true) : kitB (tyN d) T = some (isB (tyN d) T) := by
  simp only [tyOk, Bool.or_eq_true, beq_iff_eq] at h
  rcases h with ((((h | h) | h) | h) | h) | h <;> subst h <;> cases d <;> (simp only [tyN]; decide +kernel)
theorem dp_ty {K : PySem.W.Frag} {H : Hp} {v : V} {d : PyData} (h : Dp K H v d) : TyX K H v (.type (tyN d)) := by
  cases h with
  | non => exact .base .non
  | bl b => exact .base (.bl b)
  | int i => exact .base (.int i)
  | str x => exact .base (.str x)
  | lst hs ha =>
    rcases hs with (h | ⟨o, h⟩) | ⟨o, its, n, h1, h2, _⟩
    · exact .base (.lst h)
    · exact .base (.frz h)
    · exact .kList h1 h2
  | tup hs ha =>
    rcases hs with (h | ⟨o, h⟩) | ⟨o, its, n, h1, h2, _⟩
    · exact .base (.tup h)
    · exact .fTuple h
    · exact .kTuple h1 h2
def rIsD (K : PySem.W.Frag) : List V → Hp → VK → Prop := fun xs H Q => ∃ (x : V) (T : String) (d : PyData), xs = [x, .ty T] ∧ tyOk T = true ∧ Dp K H x d ∧ Q (.bl (isB (tyN d) T)) H
theorem call_isD {X : Cx} : CallR X (.builtin "isinstance") (rIsD X.K) := by
  intro pins s σ H xs us Q I r h
  obtain ⟨x, T, d, rfl, hT, hd, q⟩ := h
  exact call_isi pins s σ H _ us Q I r ⟨x, .ty T, _, _, _, rfl, .ty T, dp_ty hd, kit_ty (kitB_all hT), q⟩
section
variable {X : Cx} {e : Expr} {te : TE} {T : String} {y : Str} {p p2 pos : Pos}
theorem pe_isD (hg : Gl X "isinstance") (hm : X.mg "isinstance" = none) (hg2 : Gl X y) (hm2 : X.mg y = none) (ha : PE X e te)
    (hv : bootBuiltins y = some (.type T) := by decide +kernel) (hn : y ≠ "__name__" := by decide) (hd2 : (y == ("__debug__" : Str)) = false := by decide)
    (he : starEach (e :: [.Name y p2]) X.env = (false, eval e X.env) :: starEach [.Name y p2] X.env := by rfl) (hpl : (backTo pos (starEach [.Name y p2] X.env)).any (·.1) = false := by rfl) :
    PE X (.Call (.Name "isinstance" p) [e, .Name y p2] [] pos) (tCB (rIsD X.K) (tCons te (tCons (tC (.ty T)) tNil))) :=
  pe_callB (x := "isinstance") call_isD hg hm (by decide +kernel) (pa_cons ha (pa_cons (pe_bltn (v := .ty T) (pos := p2) hg2 hm2 hv rfl hn hd2) pa_nil) (hs := he)) (by decide) (by decide) he hpl
/-! ### in, not in: a tuple of data -/
def rInT (K : PySem.W.Frag) : R2 := fun x y H Q => ∃ d ds, Dp K H x d ∧ Dp K H y (.tuple ds) ∧ SeqAt.shaped d = true ∧ SeqAt.shaped (.tuple ds) = true ∧ Q (.bl (ds.any fun z => PyData.eqv z d)) H
def rNotInT (K : PySem.W.Frag) : R2 := fun x y H Q => ∃ d ds, Dp K H x d ∧ Dp K H y (.tuple ds) ∧ SeqAt.shaped d = true ∧ SeqAt.shaped (.tuple ds) = true ∧ Q (.bl (!ds.any fun z => PyData.eqv z d)) H
theorem room_shaped {n : Nat} {ds : List PyData} {d : PyData} (h : SeqAt.shaped d = true) (hu : n + 65 < cLine) : n + 1 + min (PyData.depthAll ds) d.depth < cLine := by
  have := SeqAt.depth_of_shaped h
  have := Nat.min_le_right (PyData.depthAll ds) d.depth
  omega
theorem op_inT (hu : X.A.units + 65 < cLine) : OpR X (compareOp .In) (rInT X.K) := by
  intro pins s σ H x y v u Q I rx ry h
  obtain ⟨d, ds, hd, he, sd, se, q⟩ := h
  obtain ⟨as, r1⟩ := Dp.reads I d x v hd rx
  obtain ⟨bs, r2⟩ := Dp.reads I (.tuple ds) y u he ry
  exact SeqAt.in_tuple_reads r2 r1 (SeqAt.canLay_of_shaped se) (SeqAt.canLay_of_shaped sd) (room_shaped sd hu) ⟨.bl _, H, I, rfl, q⟩
theorem op_notInT (hu : X.A.units + 65 < cLine) : OpR X (compareOp .NotIn) (rNotInT X.K) := by
  intro pins s σ H x y v u Q I rx ry h
  obtain ⟨d, ds, hd, he, sd, se, q⟩ := h
  obtain ⟨as, r1⟩ := Dp.reads I d x v hd rx
  obtain ⟨bs, r2⟩ := Dp.reads I (.tuple ds) y u he ry
  exact SeqAt.notIn_tuple_reads r2 r1 (SeqAt.canLay_of_shaped se) (SeqAt.canLay_of_shaped sd) (room_shaped sd hu) ⟨.bl _, H, I, rfl, q⟩
end
theorem hu65 {A : Around} {k : Nat} (hr : Room k A) : A.units + 65 < cLine := by have := hr.un; omega
/-! ### the source of draws -/
/-- the source at a: its script at L, ns -/
def Src (H : Hp) (a L : Addr) (ns : List Int) : Prop := ∃ i p st c : Int, H a = some (.lst [.ref L, .int i, .int p, .int st, .int c]) ∧ H L = some (.lst (ns.map V.int)) ∧ 0 ≤ i ∧ 0 ≤ st ∧ st < 2147483629
theorem Src.off {H H' : Hp} {a L b : Addr} {ns : List Int} (h : Src H a L ns) (hb : H b = none) (e : ∀ c, c ≠ b → H' c = H c) : Src H' a L ns := by
  obtain ⟨i, p, st, c, h1, h2, h3⟩ := h
  exact ⟨i, p, st, c, by rw [e a (ne_of_none h1 hb)]; exact h1, by rw [e L (ne_of_none h2 hb)]; exact h2, h3⟩
theorem Src.same {H H' : Hp} {a L : Addr} {ns : List Int} (h : Src H a L ns) (e : Same H H') : Src H' a L ns := by
  obtain ⟨i, p, st, c, h1, h2, h3⟩ := h
  exact ⟨i, p, st, c, e _ _ h1, e _ _ h2, h3⟩
def spSource (K : PySem.W.Frag) : Sp := fun vs H Q _ => ∃ (a : Addr) (ns : List Int), vs = [.ref a] ∧ SqL K H a (ns.map V.int) ∧ ns.length ≤ 63 ∧
  ∀ (H' : Hp) (p L : Addr), Same H H' → H p = none → H L = none → Src H' p L ns → Q (.ref p) H'
def spTake : Sp := fun vs H Q _ => ∃ (a L : Addr) (ns : List Int) (n : Int), vs = [.ref a, .int n] ∧ Src H a L ns ∧ 1 ≤ n ∧ n ≤ 1000000 ∧
  ∀ (H' : Hp) (d : Int), 0 ≤ d → d < n → Src H' a L ns → (∀ b, b ≠ a → H' b = H b) → Q (.int d) H'
def spPick : Sp := fun vs H Q _ => ∃ (a L r : Addr) (ns : List Int) (xs : List V), vs = [.ref a, .ref r] ∧ Src H a L ns ∧ r ≠ a ∧ H r = some (.lst xs) ∧ 0 < xs.length ∧ xs.length ≤ 1000 ∧
  ∀ (H' : Hp) (v : V), v ∈ xs → Src H' a L ns → (∀ b, b ≠ a → H' b = H b) → Q v H'
def spMixed : Sp := fun vs H Q _ => ∃ (a L r : Addr) (ns : List Int) (xs : List V), vs = [.ref a, .ref r] ∧ Src H a L ns ∧ r ≠ a ∧ H r = some (.lst xs) ∧ xs.length ≤ 1000 ∧
  ∀ (H' : Hp) (p : Addr) (ys : List V), ys.Perm xs → H p = none → H' p = some (.lst ys) → Src H' a L ns → (∀ b, b ≠ a → b ≠ p → H' b = H b) → Q (.ref p) H'
end Fv


namespace Fv
open PySem PySem.Spec PyProof.Rows L2
/-! ### list(text) -/
def signs (x : Str) : List V := x.cps.toList.map fun c => V.str ⟨#[c]⟩
theorem vals_signs {x : Str} {acc : Array Value} (h : ItemsOf (SignAt x) acc x.cps.size) : Vals (signs x) acc.toList := by
  have hs : acc.toList.length = x.cps.toList.length := by simpa using h.1
  have hi : ∀ (j : Nat) (v : Value), acc.toList[j]? = some v → ∃ c u, x.cps.toList[j]? = some c ∧ v = .str ⟨#[c]⟩ u := fun j v e => by
    obtain ⟨c, u, e1, e2⟩ := h.2 j v (by simpa using e)
    exact ⟨c, u, by simpa using e1, e2⟩
  unfold signs
  generalize acc.toList = us at hs hi
  generalize x.cps.toList = cs at hs hi
  induction cs generalizing us with
  | nil =>
    cases us with
    | nil => exact .nil
    | cons u us => simp at hs
  | cons c cs ih =>
    cases us with
    | nil => simp at hs
    | cons u us =>
      obtain ⟨c', t, e1, e2⟩ := hi 0 u rfl
      simp at e1
      subst e1
      refine .cons ⟨t, e2⟩ (ih us (by simpa using hs) fun j v e => ?_)
      obtain ⟨c', t, e1, e2⟩ := hi (j + 1) v (by simpa using e)
      exact ⟨c', t, by simpa using e1, e2⟩
section
variable {X : Cx}
theorem call_listStr (hh : X.A.handled = none) : CallR X (.type "list") (fun xs H Q => ∃ x : Str, xs = [.str x] ∧ x.cps.size ≤ sizeLine ∧ ∀ l, H l = none → Q (.ref l) (upd H l (.lst (signs x)))) := by
  intro pins s σ H xs us Q I r h
  obtain ⟨x, rfl, hz, q⟩ := h
  obtain ⟨u, rfl, rx⟩ := vals1 r
  obtain ⟨t, rfl⟩ := rx
  refine call_list_str hh x t (fun h' tk acc' c' kp e it => ?_) hz
  have rv := vals_signs it
  refine ⟨.ref s.heap.objs.size, _, I.laid (t' := tk) kp (Nat.le_refl _) (show ObjOk X.prog X.w _ h' _ (.lst (signs x)) from ⟨?_, acc'.toList, c', rv, ?_⟩), rfl, q _ (I.hok.fresh (Nat.le_refl _))⟩
  · unfold signs; rw [List.length_map, Array.length_toList]; exact hz
  · simpa using e
end
theorem atI_mem {xs : List V} {i : Int} (h0 : 0 ≤ i) (h : i < (xs.length : Nat)) : ∃ v, atI xs i = some v ∧ v ∈ xs := by
  have hk : i.toNat < xs.length := by omega
  have q : atI xs ((i.toNat : Nat) : Int) = some xs[i.toNat] := atI_nat (List.getElem?_eq_getElem hk)
  rw [show ((i.toNat : Nat) : Int) = i by omega] at q
  exact ⟨_, q, List.getElem_mem hk⟩
theorem le1000 {n : Nat} (h : n ≤ 1000) : n ≤ sizeLine := Nat.le_of_lt (small1000 h)
/-- the letters of a list of signs are texts of one sign of a to h -/
def lett (v : V) : Prop := v ∈ signs "abcdefgh"
theorem lett_data {v : V} (h : lett v) : ∃ x : Str, v = .str x ∧ x ∈ (["a", "b", "c", "d", "e", "f", "g", "h"] : List Str) := by
  have e : signs "abcdefgh" = (["a", "b", "c", "d", "e", "f", "g", "h"] : List Str).map V.str := by decide +kernel
  unfold lett at h
  rw [e] at h
  obtain ⟨x, hx, rfl⟩ := List.mem_map.mp h
  exact ⟨x, rfl, hx⟩
def spSigns : Sp := fun vs H Q _ => ∃ (a L : Addr) (ns : List Int) (n : Int), vs = [.ref a, .int n] ∧ Src H a L ns ∧ 1 ≤ n ∧ n ≤ 8 ∧
  ∀ (H' : Hp) (p : Addr) (ys : List V), 0 < ys.length → ys.length ≤ n → (∀ y ∈ ys, lett y) → ys.Nodup → H p = none → H' p = some (.lst ys) → Src H' a L ns → SmX [a] H H' → Q (.ref p) H'
theorem cut_take (xs : List V) {n : Int} (h : 0 ≤ n) : cutV xs none (some n) = xs.take n.toNat := by
  unfold cutV
  rw [HT.sIx_none, show HT.sIx xs.length xs.length (some n) = min n.toNat xs.length by
    have := HT.sIx_nat xs.length xs.length n.toNat
    rw [show ((n.toNat : Nat) : Int) = n by omega] at this
    exact this]
  rw [List.drop_zero, Nat.sub_zero]
  rcases Nat.le_total n.toNat xs.length with q | q
  · rw [Nat.min_eq_left q]
  · rw [Nat.min_eq_right q, List.take_of_length_le (Nat.le_refl _), List.take_of_length_le q]
theorem cut_drop1 (xs : List V) : cutV xs (some 1) none = xs.drop 1 := by
  unfold cutV
  rw [show HT.sIx xs.length 0 (some 1) = min 1 xs.length from HT.sIx_nat xs.length 0 1, HT.sIx_none]
  cases xs with
  | nil => rfl
  | cons x r =>
    rw [show min 1 (x :: r).length = 1 by
      rw [List.length_cons]
      omega]
    show (List.take ((x :: r).length - 1) r) = r
    rw [List.length_cons, Nat.add_sub_cancel]
    exact List.take_length
theorem at0 {x : V} {xs : List V} : atI (x :: xs) 0 = some x := atI_nat (xs := x :: xs) (rfl : (x :: xs)[0]? = some x)
end Fv


namespace Fv
open PySem PySem.Spec PyProof.Rows L2 TL
/-- a text of these signs -/
def mk (l : List Nat) : Str := ⟨l.toArray⟩
theorem tl_mk (l : List Nat) : tl (mk l) = l := rfl
theorem mk_len (l : List Nat) : (mk l).length = l.length := by rw [len_tl, tl_mk]
theorem join_empty : ∀ l : List Nat, Txt.join "" (l.map fun c => (⟨#[c]⟩ : Str)) = mk l := fun l => by
  refine ext_tl ?_
  rw [join_eq, tl_join, List.map_map]
  have e : ∀ l : List Nat, joinL (tl "") (l.map (tl ∘ fun c => (⟨#[c]⟩ : Str))) = l := fun l => by
    induction l with
    | nil => rfl
    | cons c l ih =>
      cases l with
      | nil => rfl
      | cons c2 l =>
        show [c] ++ (tl "" ++ joinL (tl "") ((c2 :: l).map (tl ∘ fun c => (⟨#[c]⟩ : Str)))) = _
        rw [ih]
        rfl
  exact e l
theorem pos26 : (0 : Int) < 26 := by decide
theorem sum_ones : ∀ l : List Nat, ((l.map fun c => (⟨#[c]⟩ : Str)).map (·.length)).sum = l.length
  | [] => rfl
  | c :: l => by rw [List.map_cons, List.map_cons, List.sum_cons, sum_ones l, List.length_cons]; show 1 + _ = _; omega
end Fv


/-! spreading boards, by simple places (mathematics) -/
namespace FvO
/-- the board spreads -/
def SprB (n : Nat) (lo hi : Nat → Nat → Nat) : Prop := ∀ x, x < n → ∀ y, y < n → ∀ z, z < n → lo x (hi y z) = hi (lo x y) (lo x z)
/-- the other places below p are those below s -/
def SimB (n : Nat) (b : Nat → Nat → Bool) (p s : Nat) : Prop := s < n ∧ ∀ y, y < n → b y s = (b y p && decide (y ≠ p))
/-- the places that p is not below are those below t -/
def PriB (n : Nat) (b : Nat → Nat → Bool) (p t : Nat) : Prop := t < n ∧ ∀ z, z < n → b z t = !b p z
structure Lat (n : Nat) (b : Nat → Nat → Bool) (lo hi : Nat → Nat → Nat) (bt : Nat) : Prop where
  rf : ∀ x, x < n → b x x = true
  an : ∀ x y, x < n → y < n → b x y = true → b y x = true → x = y
  tr : ∀ x y z, x < n → y < n → z < n → b x y = true → b y z = true → b x z = true
  lo : ∀ x y, x < n → y < n → lo x y < n ∧ ∀ z, z < n → b z (lo x y) = (b z x && b z y)
  hi : ∀ x y, x < n → y < n → hi x y < n ∧ ∀ z, z < n → b (hi x y) z = (b x z && b y z)
  bt : bt < n ∧ ∀ z, z < n → b bt z = true
theorem countP_lt {α : Type} {p q : α → Bool} : ∀ {l : List α}, (∀ x ∈ l, p x = true → q x = true) → (∃ x ∈ l, q x = true ∧ p x = false) → l.countP p < l.countP q
  | [], _, ⟨_, h, _⟩ => nomatch h
  | a :: l, h, ⟨x, hx, h1, h2⟩ => by
    have le : l.countP p ≤ l.countP q := List.countP_mono_left fun y hy => h y (List.mem_cons_of_mem _ hy)
    rw [List.countP_cons, List.countP_cons]
    rcases List.mem_cons.mp hx with e | e
    · rw [← e, h1, h2]
      simp
      omega
    · have lt := countP_lt (l := l) (fun y hy => h y (List.mem_cons_of_mem _ hy)) ⟨x, e, h1, h2⟩
      cases c : p a with
      | true => rw [h a List.mem_cons_self c]; simp; omega
      | false => simp; omega
section
variable {n : Nat} {b : Nat → Nat → Bool} {lo hi : Nat → Nat → Nat} {bt : Nat}
theorem Lat.lo_l (B : Lat n b lo hi bt) {x y : Nat} (hx : x < n) (hy : y < n) : b (lo x y) x = true ∧ b (lo x y) y = true := by
  have z := (B.lo x y hx hy).2 _ (B.lo x y hx hy).1
  rw [B.rf _ (B.lo x y hx hy).1] at z
  exact Bool.and_eq_true_iff.mp z.symm
theorem Lat.hi_u (B : Lat n b lo hi bt) {x y : Nat} (hx : x < n) (hy : y < n) : b x (hi x y) = true ∧ b y (hi x y) = true := by
  have z := (B.hi x y hx hy).2 _ (B.hi x y hx hy).1
  rw [B.rf _ (B.hi x y hx hy).1] at z
  exact Bool.and_eq_true_iff.mp z.symm
theorem Lat.lo_in (B : Lat n b lo hi bt) {x y z : Nat} (hx : x < n) (hy : y < n) (hz : z < n) (h1 : b z x = true) (h2 : b z y = true) : b z (lo x y) = true := by rw [(B.lo x y hx hy).2 z hz, h1, h2]; rfl
theorem Lat.hi_in (B : Lat n b lo hi bt) {x y z : Nat} (hx : x < n) (hy : y < n) (hz : z < n) (h1 : b x z = true) (h2 : b y z = true) : b (hi x y) z = true := by rw [(B.hi x y hx hy).2 z hz, h1, h2]; rfl
/-- what is below p and not above it is below s -/
theorem SimB.low (B : Lat n b lo hi bt) {p s x : Nat} (hp : p < n) (h : SimB n b p s) (hx : x < n) (nx : b p x = false) : b (lo p x) s = true := by
  have l := (B.lo p x hp hx).1
  rw [h.2 _ l, (B.lo_l hp hx).1, Bool.true_and]
  refine decide_eq_true fun e => ?_
  have := (B.lo_l hp hx).2
  rw [e, nx] at this
  cases this
theorem SimB.self {p s : Nat} (hp : p < n) (h : SimB n b p s) : b p s = false := by rw [h.2 p hp]; simp
theorem pri_of (B : Lat n b lo hi bt) (S : SprB n lo hi) {p s : Nat} (hp : p < n) (h : SimB n b p s) : ∃ t, PriB n b p t := by
  have step : ∀ x y, x < n → y < n → b p x = false → b p y = false → b p (hi x y) = false := fun x y hx hy h1 h2 => by
    have hu := (B.hi x y hx hy).1
    refine Bool.eq_false_iff.mpr fun z => ?_
    have e : lo p (hi x y) = p := B.an _ _ (B.lo p _ hp hu).1 hp (B.lo_l hp hu).1 (B.lo_in hp hu hp (B.rf p hp) z)
    rw [S p hp x hx y hy] at e
    have l1 := (B.lo p x hp hx).1
    have l2 := (B.lo p y hp hy).1
    have := B.hi_in l1 l2 h.1 (h.low B hp hx h1) (h.low B hp hy h2)
    rw [e, h.self hp] at this
    cases this
  have fold : ∀ (l : List Nat) (x : Nat), x < n → b p x = false → (∀ z ∈ l, z < n ∧ b p z = false) → l.foldl hi x < n ∧ b p (l.foldl hi x) = false ∧ b x (l.foldl hi x) = true ∧ ∀ z ∈ l, b z (l.foldl hi x) = true := fun l => by
    induction l with
    | nil => intro x hx h1 _; exact ⟨hx, h1, B.rf x hx, fun z hz => nomatch hz⟩
    | cons a l ih =>
      intro x hx h1 hl
      obtain ⟨ha, ha2⟩ := hl a List.mem_cons_self
      have hu := (B.hi x a hx ha).1
      obtain ⟨i1, i2, i3, i4⟩ := ih (hi x a) hu (step x a hx ha h1 ha2) fun z hz => hl z (List.mem_cons_of_mem _ hz)
      rw [List.foldl_cons]
      refine ⟨i1, i2, B.tr _ _ _ hx hu i1 (B.hi_u hx ha).1 i3, fun z hz => ?_⟩
      rcases List.mem_cons.mp hz with e | e
      · rw [e]; exact B.tr _ _ _ ha hu i1 (B.hi_u hx ha).2 i3
      · exact i4 z e
  have nb : b p bt = false := by
    refine Bool.eq_false_iff.mpr fun z => ?_
    have e : p = bt := B.an _ _ hp B.bt.1 z (B.bt.2 p hp)
    have hs := h.2 s h.1
    rw [B.rf s h.1] at hs
    have h2 := Bool.and_eq_true_iff.mp hs.symm
    have es : s = p := B.an _ _ h.1 hp h2.1 (by rw [e]; exact B.bt.2 s h.1)
    rw [es] at h2
    simp at h2
  obtain ⟨f1, f2, _, f4⟩ := fold ((List.range n).filter fun z => !b p z) bt B.bt.1 nb fun z hz => by
    have := List.mem_filter.mp hz
    exact ⟨List.mem_range.mp this.1, by have := this.2; cases c : b p z with | false => rfl | true => rw [c] at this; cases this⟩
  refine ⟨_, f1, fun z hz => ?_⟩
  cases c : b p z with
  | false => exact f4 z (List.mem_filter.mpr ⟨List.mem_range.mpr hz, by rw [c]; rfl⟩)
  | true =>
    refine Bool.eq_false_iff.mpr fun k => ?_
    have := B.tr _ _ _ hp hz f1 c k
    rw [f2] at this
    cases this
/-- simple places suffice -/
theorem dens (B : Lat n b lo hi bt) {d : Nat} (hd : d < n) : ∀ (N a : Nat), (List.range n).countP (fun y => b y a) < N → a < n → (∀ p, p < n → (∃ s, SimB n b p s) → b p a = true → b p d = true) → b a d = true
  | 0, _, h, _, _ => absurd h (Nat.not_lt_zero _)
  | N + 1, a, h, ha, hs => by
    have below : ∀ c, c < n → b c a = true → c ≠ a → b c d = true := fun c hc h1 h2 => by
      refine dens B hd N c ?_ hc fun p hp hsp hpc => hs p hp hsp (B.tr _ _ _ hp hc ha hpc h1)
      have : (List.range n).countP (fun y => b y c) < (List.range n).countP (fun y => b y a) := by
        refine countP_lt (fun y hy h3 => B.tr _ _ _ (List.mem_range.mp hy) hc ha h3 h1) ⟨a, List.mem_range.mpr ha, B.rf a ha, ?_⟩
        exact Bool.eq_false_iff.mpr fun z => h2 (B.an _ _ hc ha h1 z)
      omega
    cases c : b a d with
    | true => rfl
    | false =>
      have l := (B.lo a d ha hd).1
      have sim : SimB n b a (lo a d) := ⟨l, fun y hy => by
        rw [(B.lo a d ha hd).2 y hy]
        by_cases e : y = a
        · subst e; rw [c]; simp
        · rw [decide_eq_true e, Bool.and_true]
          cases k : b y a with
          | false => rfl
          | true => rw [below y hy k e]; rfl⟩
      have := hs a ha ⟨_, sim⟩ (B.rf a ha)
      rw [c] at this
      cases this
theorem spr_of (B : Lat n b lo hi bt) (h : ∀ p, p < n → (∃ s, SimB n b p s) → ∃ t, PriB n b p t) : SprB n lo hi := fun x hx y hy z hz => by
  have hu := (B.hi y z hy hz).1
  have l1 := B.lo x y hx hy
  have l2 := B.lo x z hx hz
  have l := B.lo x _ hx hu
  have u := B.hi _ _ l1.1 l2.1
  refine B.an _ _ l.1 u.1 (dens B u.1 _ _ (Nat.lt_succ_self _) l.1 fun p hp hs ha => ?_) (B.hi_in l1.1 l2.1 l.1 (B.lo_in hx hu l1.1 (B.lo_l hx hy).1 ?_) (B.lo_in hx hu l2.1 (B.lo_l hx hz).1 ?_))
  · obtain ⟨t, ht, pt⟩ := h p hp hs
    rw [l.2 p hp] at ha
    obtain ⟨a1, a2⟩ := Bool.and_eq_true_iff.mp ha
    cases c1 : b p y with
    | true => exact B.tr _ _ _ hp l1.1 u.1 (B.lo_in hx hy hp a1 c1) (B.hi_u l1.1 l2.1).1
    | false =>
      cases c2 : b p z with
      | true => exact B.tr _ _ _ hp l2.1 u.1 (B.lo_in hx hz hp a1 c2) (B.hi_u l1.1 l2.1).2
      | false =>
        have k := B.hi_in hy hz ht (by rw [pt y hy, c1]; rfl) (by rw [pt z hz, c2]; rfl)
        rw [pt _ hu, a2] at k
        cases k
  · exact B.tr _ _ _ l1.1 hy hu (B.lo_l hx hy).2 (B.hi_u hy hz).1
  · exact B.tr _ _ _ l2.1 hz hu (B.lo_l hx hz).2 (B.hi_u hy hz).2
theorem spr_iff (B : Lat n b lo hi bt) : SprB n lo hi ↔ ∀ p, p < n → (∃ s, SimB n b p s) → ∃ t, PriB n b p t :=
  ⟨fun S p hp ⟨s, hs⟩ => pri_of B S hp hs, spr_of B⟩
end
end FvO


namespace FvO
open PySem PySem.Spec PyProof.Rows L2
/-! ### int(t, 2) -/
section
open PySem.NumText PySem.Calls L2.Hx
def IsBin (c : Nat) : Prop := c = 48 ∨ c = 49
def binNum (l : List Nat) : Nat := l.foldl (fun a c => a * 2 + (c - 48)) 0
theorem digit_bin {c : Nat} (h : IsBin c) : digit? c = some (c - 48) := by
  unfold IsBin at h
  unfold digit?
  rw [if_pos (bb (show 48 ≤ c by omega) (show c ≤ 57 by omega))]
theorem step_bin {ds : Array Nat} {b : Bool} {c : Nat} (h : IsBin c) : PySem.NumText.step 2 (ds, b) c = some (ds.push (c - 48), true) := by
  have hr : c ≠ 95 := by unfold IsBin at h; omega
  unfold PySem.NumText.step
  rw [if_neg (by rw [beq_iff_eq]; exact hr), digit_bin h]
  exact if_pos (show c - 48 < 2 by unfold IsBin at h; omega)
theorem foldl_bin : ∀ (cs : List Nat) (ds : Array Nat), (∀ c ∈ cs, IsBin c) → cs.foldlM (PySem.NumText.step 2) (ds, true) = some (cs.foldl (fun acc c => acc.push (c - 48)) ds, true)
  | [], _, _ => rfl
  | c :: cs, ds, h => by
    rw [List.foldlM_cons, step_bin (h c (List.mem_cons_self ..))]
    show cs.foldlM (PySem.NumText.step 2) (ds.push (c - 48), true) = _
    exact foldl_bin cs (ds.push (c - 48)) fun d hd => h d (List.mem_cons_of_mem _ hd)
theorem digits_bin {cs : List Nat} (h : ∀ c ∈ cs, IsBin c) (hne : cs ≠ []) : digits? 2 cs = some (cs.foldl (fun acc c => acc.push (c - 48)) #[]) := by
  cases cs with
  | nil => exact absurd rfl hne
  | cons c cs =>
    unfold digits?
    rw [List.foldlM_cons, step_bin (h c (List.mem_cons_self ..))]
    show (cs.foldlM (PySem.NumText.step 2) ((#[] : Array Nat).push (c - 48), true)).bind _ = _
    rw [foldl_bin cs _ fun d hd => h d (List.mem_cons_of_mem _ hd)]
    rfl
theorem push_bin : ∀ (cs : List Nat) (ds : Array Nat), (cs.foldl (fun acc c => acc.push (c - 48)) ds).foldl (fun acc d => acc * 2 + d) 0 = cs.foldl (fun a c => a * 2 + (c - 48)) (ds.foldl (fun acc d => acc * 2 + d) 0)
  | [], _ => rfl
  | c :: cs, ds => by
    rw [List.foldl_cons, push_bin cs (ds.push (c - 48)), List.foldl_cons]
    congr 1
    simp
theorem bin_hex {c : Nat} (h : IsBin c) : IsHex c := .inl (by unfold IsBin at h; omega)
theorem prefB {cs : List Nat} (h : ∀ c ∈ cs, IsBin c) : PySem.NumText.prefix? cs = none := by
  match cs, h with
  | [], _ => rfl
  | [a], _ =>
    unfold PySem.NumText.prefix?
    split
    · rename_i e; cases e
    · rfl
  | a :: c :: r, h =>
    have hc := h c (List.mem_cons_of_mem _ (List.mem_cons_self ..))
    unfold IsBin at hc
    by_cases ha : a = 48
    · subst ha
      have e : PySem.NumText.prefix? (48 :: c :: r) = if (c == 120 || c == 88) = true then some 16 else if (c == 111 || c == 79) = true then some 8 else if (c == 98 || c == 66) = true then some 2 else none := rfl
      rw [e, if_neg (by rw [Bool.or_eq_true, beq_iff_eq, beq_iff_eq]; omega), if_neg (by rw [Bool.or_eq_true, beq_iff_eq, beq_iff_eq]; omega), if_neg (by rw [Bool.or_eq_true, beq_iff_eq, beq_iff_eq]; omega)]
    · unfold PySem.NumText.prefix?
      split
      · rename_i e
        exact absurd (List.cons.inj e).1 ha
      · rfl
theorem basedB {cs : List Nat} (h : ∀ c ∈ cs, IsBin c) : based 2 cs = (2, false, cs) := by
  unfold based
  rw [prefB h]
  rfl
theorem read_bin {cs : List Nat} (h : ∀ c ∈ cs, IsBin c) (hne : cs ≠ []) : (int_private% "readNumeral") 0 2 cs = (int_private% "Numeral.value") ((binNum cs : Nat) : Int) := by
  have hh : ∀ c ∈ cs, IsHex c := fun c hc => bin_hex (h c hc)
  have hr : ∀ c ∈ cs.reverse, IsHex c := fun c hc => hh c (List.mem_reverse.mp hc)
  refine (readNumeral_eq 0 2 cs).trans ?_
  rw [dropB hh, signH hh]
  show judge 0 false (based 2 cs).1 (based 2 cs).2.1 (digits? (based 2 cs).1 (((based 2 cs).2.2.reverse.dropWhile blank).reverse)) = _
  rw [basedB h]
  show judge 0 false 2 false (digits? 2 ((cs.reverse.dropWhile blank).reverse)) = _
  rw [dropB hr, List.reverse_reverse, digits_bin h hne]
  show (int_private% "Numeral.value") (((cs.foldl (fun acc c => acc.push (c - 48)) (#[] : Array Nat)).foldl (fun acc d => acc * 2 + d) 0 : Nat) : Int) = _
  have z : (#[] : Array Nat).foldl (fun acc d => acc * 2 + d) 0 = 0 := by first | rfl | simp
  rw [push_bin, z] <;> rfl
set_option maxHeartbeats 4000000 in
theorem gives_bin {x : PySem.Str} {u t : Tok} (hl : x.length ≤ 640) (h : ∀ c ∈ x.cps.toList, IsBin c) (hne : x.cps.toList ≠ []) :
    Gives (Builtin.«int.__new__» ⟨[.type "int", .str x u, .int 2 t], []⟩) (.int ((binNum x.cps.toList : Nat) : Int)) :=
  .of_wp fun M A E s Q hQ => by
    obtain ⟨hp, g, d, tk, os⟩ := s
    have f1 := F.conv_sub_int
    have f2 := F.madeHere_int
    have f6 : typeOf (.str x u) = pure (.type "str") := rfl
    obtain ⟨e1, e2⟩ := seen_hex (x := x) fun c hc => bin_hex (h c hc)
    have hs : (numSeenOf x).length ≤ 640 := by
      rw [e2, Array.length_toList]
      exact hl
    have hr : (int_private% "readNumeral") 0 2 (numSeenOf x) = (int_private% "Numeral.value") ((binNum x.cps.toList : Nat) : Int) := by
      rw [e2]
      exact read_bin h hne
    have ha : ((numSeenOf x).length == (numTextOf x).length) = true := by
      rw [e1, e2]
      exact beq_self_eq_true _
    have hk := Hid.mk (And.intro hs (And.intro hr ha))
    clear hs hr ha e1 e2 hl hne h
    repeat (any_goals (first
      | assumption
      | ((with_reducible show wpAny _ _ ((int_private% "intFromText") _ _ _) _ _ _); refine wp_textB hk.out.1 hk.out.2.1 hk.out.2.2 ?_)
      | wp_step))
    all_goals first | exact ⟨_, rfl, hQ⟩ | skip
theorem call_bin {prog : Program} {w : World} {A : Around} {E : Value → Shared → Prop} {s : Shared} {Q : Value → Shared → Prop} {x : PySem.Str} {u t : Tok} (hl : x.length ≤ 640) (h : ∀ c ∈ x.cps.toList, IsBin c) (hne : x.cps.toList ≠ [])
    (hQ : Q (.int ((binNum x.cps.toList : Nat) : Int) s.toks) { s with toks := s.toks + 1 }) : wpAny (model prog w) A (call (.type "int") [.str x u, .int 2 t]) Q E s :=
  callType_new F.called_int F.newNe_int (typeCall_int_2 _ _) (newCall_int_2 _ _) (fun obj => F.initArgs_range_2 obj _ _) F.entry_int_new (gives_bin hl h hne).meets (show (Made.int ((binNum x.cps.toList : Nat) : Int)).post _ s from ⟨rfl, hQ⟩)
end
def rIntBin : List V → Hp → VK → Prop := fun xs H Q => ∃ x : Str, xs = [.str x, .int 2] ∧ x.cps.toList ≠ [] ∧ x.length ≤ 640 ∧ (∀ c ∈ x.cps.toList, IsBin c) ∧ Q (.int ((binNum x.cps.toList : Nat) : Int)) H
theorem call_int_bin {X : Cx} : CallR X (.type "int") rIntBin := by
  intro pins s σ H xs us Q I r h
  obtain ⟨x, rfl, hne, hl, hx, q⟩ := h
  obtain ⟨u, w', rfl, r1, r2⟩ := vals2 r
  obtain ⟨t1, rfl⟩ := r1
  obtain ⟨t2, rfl⟩ := r2
  exact call_bin hl hx hne ⟨.int ((binNum x.cps.toList : Nat) : Int), H, I.tok _, ⟨_, rfl⟩, q⟩
/-! ### t[::-1] of a text -/
def revS (z : Str) : Str := ⟨z.cps.toList.reverse.toArray⟩
theorem idx_rev (n : Nat) : Builtin.Str.strSliceIndices none none (-1) n = (List.range n).reverse := by
  show sliceRange (if (-1 : Int) > 0 then 0 else (n : Int) - 1) (if (-1 : Int) > 0 then (n : Int) else -1) (-1) = _
  rw [if_neg (by decide), if_neg (by decide), PySem.W.krv_sliceRange, PySem.W.krv_range]
theorem pick_rev {α : Type} (xs : Array α) : (List.range xs.size).reverse.filterMap (xs[·]?) = xs.toList.reverse := by
  rw [List.filterMap_reverse, PySem.W.krv_all]
section
variable {X : Cx}
def tRevS (te : TE) : TE := fun σ H Q => te σ H fun x H1 => ∃ z : Str, x = .str z ∧ z.length ≤ sizeLine ∧ Q (.str (revS z)) H1
theorem pe_revS {e : Expr} {te : TE} {k : Nat} {p1 p2 p3 pos : Pos} (he : PE X e te) : PE X (.Subscript e (.Slice none none (some (.UnaryOp .USub (.Constant (.int 1) k p1) p2)) p3) pos) (tRevS te) := by
  refine ⟨fun pins s σ H Q I h => ?_⟩
  refine Subscript_ (thn (he.run pins s σ H _ I h) fun v s1 ⟨x, H1, I1, r1, q1⟩ => ?_)
  obtain ⟨z, ex, hz, q⟩ := q1
  subst ex
  obtain ⟨t, rfl⟩ := r1
  have hst : PO X (some (.UnaryOp .USub (.Constant (.int 1) k p1) p2)) (tPart (tUn (rU fun i => .int (-i)) (tC (.int 1)))) := po_some (pe_un un_neg pe_int)
  refine wpAny_Slice (thn (po_none.run pins s1 σ H1 (fun o H2 => o = none ∧ H2 = H1) I1 ⟨rfl, rfl⟩) fun vl s2 ⟨l, H2, I2, pl, el, e2⟩ => ?_)
  subst el e2
  refine thn (po_none.run pins s2 σ H2 (fun o H3 => o = none ∧ H3 = H2) I2 ⟨rfl, rfl⟩) fun vu s3 ⟨u, H3, I3, pu, eu, e3⟩ => ?_
  subst eu e3
  refine thn (hst.run pins s3 σ H3 (fun o H4 => o = some (-1) ∧ H4 = H3) I3 ⟨1, rfl, -1, rfl, rfl, rfl⟩) fun vs s4 ⟨o, H4, I4, ps, eo, e4⟩ => ?_
  subst eo e4
  have I5 : Inv X pins σ H4 { s4 with heap := s4.heap.push { cls := .type "slice", data := .fields #[vl, vu, vs] } } := I4.kept (t' := s4.toks) fun b ob q => Heap.get?_push_of_some _ q
  show wpAny (model X.prog X.w) X.A (subscriptTail e (.Slice none none (some (.UnaryOp .USub (.Constant (.int 1) k p1) p2)) p3) (.str z t) (.ref s4.heap.objs.size)) (EP X pins σ Q) X.xe { s4 with heap := s4.heap.push { cls := .type "slice", data := .fields #[vl, vu, vs] } }
  refine tail_any (ops := [.str z t, .ref s4.heap.objs.size]) (typeIs_str _ z t) (F.slot_str_getitem.lookup) ?_ (by with_unfolding_all rfl)
  obtain ⟨l, rfl, el⟩ := IsPart.raw pl
  obtain ⟨u, rfl, eu⟩ := IsPart.raw pu
  obtain ⟨st, rfl, es⟩ := IsPart.raw ps
  have hs5 : ((st.map (·.1)).getD 1) = -1 := by rw [es]; rfl
  refine wpAny_getItem_str_slice (l := l) (u := u) (st := st) ⟨_, Heap.get?_push_size _ rfl, rfl, rfl⟩ (by rw [hs5]; decide) ?_
  have hp : slicePicked z l u st = (List.range z.cps.size).reverse := by
    unfold slicePicked
    rw [hs5, el, eu]
    exact idx_rev z.length
  unfold sliceMade
  rw [hs5, hp, pick_rev, if_neg (by simp)]
  exact ⟨(by show z.cps.toList.reverse.toArray.size ≤ sizeLine; rw [List.size_toArray, List.length_reverse, Array.length_toList]; exact hz), .str _, H4, I5.tok _, ⟨_, rfl⟩, q⟩
end
/-! ### t.strip('01') -/
theorem mt_stripK {X : Cx} : MtR X "str.strip" (fun x xs H Q => ∃ a b, x = .str a ∧ xs = [.str b] ∧ a.length ≤ sizeLine ∧ Q (.str (Txt.stripChars a b)) H) := mt_stripChars
end FvO


namespace Fv
open PySem PySem.Spec PyProof.Rows L2 TL
/-! ### families of sets as boards -/
def subM (a b : Nat) : Bool := decide (a &&& b = a)
theorem subM_iff {a b : Nat} : subM a b = true ↔ a &&& b = a := decide_eq_true_iff
theorem subM_refl (a : Nat) : subM a a = true := subM_iff.mpr (Nat.and_self a)
theorem subM_trans {a b c : Nat} (h : subM a b = true) (g : subM b c = true) : subM a c = true := by
  rw [subM_iff] at h g ⊢
  rw [← h, Nat.and_assoc, g]
theorem subM_anti {a b : Nat} (h : subM a b = true) (g : subM b a = true) : a = b := by
  rw [subM_iff] at h g
  rw [← h, Nat.and_comm, g]
theorem subM_and {z a b : Nat} : subM z (a &&& b) = true ↔ subM z a = true ∧ subM z b = true := by
  constructor
  · intro h
    have h1 : subM (a &&& b) a = true := subM_iff.mpr (by rw [Nat.and_comm a b, Nat.and_assoc, Nat.and_self])
    have h2 : subM (a &&& b) b = true := subM_iff.mpr (by rw [Nat.and_assoc, Nat.and_self])
    exact ⟨subM_trans h h1, subM_trans h h2⟩
  · rintro ⟨h, g⟩
    rw [subM_iff] at h g ⊢
    rw [← Nat.and_assoc, h, g]
/-- at most 16 sets, with a greatest one and with all meets -/
structure Fam (ms : List Nat) : Prop where
  nd : ms.Nodup
  cl : ∀ a ∈ ms, ∀ b ∈ ms, a &&& b ∈ ms
  top : ∃ t ∈ ms, ∀ a ∈ ms, subM a t = true
  ln : ms.length ≤ 16
theorem Fam.perm {ms ns : List Nat} (h : Fam ms) (p : ns.Perm ms) : Fam ns :=
  ⟨p.nodup_iff.mpr h.nd, fun a ha b hb => p.mem_iff.mpr (h.cl a (p.mem_iff.mp ha) b (p.mem_iff.mp hb)), by
    obtain ⟨t, ht, h1⟩ := h.top
    exact ⟨t, p.mem_iff.mpr ht, fun a ha => h1 a (p.mem_iff.mp ha)⟩, by rw [p.length_eq]; exact h.ln⟩
def msAt (ms : List Nat) (x : Nat) : Nat := ms.getD x 0
theorem msAt_get {ms : List Nat} {x : Nat} (h : x < ms.length) : ms[x]? = some (msAt ms x) := by
  unfold msAt
  rw [List.getD_eq_getElem?_getD, List.getElem?_eq_getElem h]
  rfl
theorem msAt_mem {ms : List Nat} {x : Nat} (h : x < ms.length) : msAt ms x ∈ ms := List.mem_of_getElem? (msAt_get h)
theorem msAt_ex {ms : List Nat} {a : Nat} (h : a ∈ ms) : ∃ x, x < ms.length ∧ msAt ms x = a := by
  obtain ⟨x, hx, e⟩ := List.getElem_of_mem h
  refine ⟨x, hx, ?_⟩
  have := msAt_get hx
  rw [List.getElem?_eq_getElem hx, e] at this
  exact (Option.some.inj this).symm
theorem msAt_inj {ms : List Nat} (nd : ms.Nodup) {x y : Nat} (hx : x < ms.length) (hy : y < ms.length) (h : msAt ms x = msAt ms y) : x = y := by
  have e1 := msAt_get hx
  have e2 := msAt_get hy
  rw [List.getElem?_eq_getElem hx] at e1
  rw [List.getElem?_eq_getElem hy] at e2
  have e3 : ms[x] = ms[y] := by rw [Option.some.inj e1, Option.some.inj e2, h]
  exact (List.getElem_inj nd).mp e3
def leI (ms : List Nat) (x y : Nat) : Bool := subM (msAt ms x) (msAt ms y)
def lowL (ms : List Nat) (x y : Nat) : List Nat := (List.range ms.length).filter fun z => leI ms z x && leI ms z y
def upL (ms : List Nat) (x y : Nat) : List Nat := (List.range ms.length).filter fun z => leI ms x z && leI ms y z
def lowM (ms : List Nat) (x y : Nat) : List Nat := (lowL ms x y).filter fun z => (lowL ms x y).all fun w => leI ms w z
def upM (ms : List Nat) (x y : Nat) : List Nat := (upL ms x y).filter fun z => (upL ms x y).all fun w => leI ms z w
def lowI (ms : List Nat) (x y : Nat) : Nat := (lowM ms x y).headD 0
def upI (ms : List Nat) (x y : Nat) : Nat := (upM ms x y).headD 0
theorem mem_lowL {ms : List Nat} {x y z : Nat} : z ∈ lowL ms x y ↔ z < ms.length ∧ leI ms z x = true ∧ leI ms z y = true := by
  unfold lowL
  rw [List.mem_filter, List.mem_range, Bool.and_eq_true]
theorem mem_upL {ms : List Nat} {x y z : Nat} : z ∈ upL ms x y ↔ z < ms.length ∧ leI ms x z = true ∧ leI ms y z = true := by
  unfold upL
  rw [List.mem_filter, List.mem_range, Bool.and_eq_true]
theorem head_mem {l : List Nat} {z : Nat} (h : z ∈ l) : l.headD 0 ∈ l ∧ ∃ r, l = l.headD 0 :: r := by
  cases l with
  | nil => cases h
  | cons a r => exact ⟨List.mem_cons_self, r, rfl⟩
theorem low_ex {ms : List Nat} (F : Fam ms) {x y : Nat} (hx : x < ms.length) (hy : y < ms.length) : ∃ z, z ∈ lowM ms x y := by
  obtain ⟨z, hz, e⟩ := msAt_ex (F.cl _ (msAt_mem hx) _ (msAt_mem hy))
  have key : ∀ w, leI ms w z = true ↔ leI ms w x = true ∧ leI ms w y = true := fun w => by
    unfold leI
    rw [e]
    exact subM_and
  refine ⟨z, List.mem_filter.mpr ⟨mem_lowL.mpr ⟨hz, (key z).mp (subM_refl _)⟩, List.all_eq_true.mpr fun w hw => (key w).mpr (mem_lowL.mp hw).2⟩⟩
theorem inf_ex {ms : List Nat} (cl : ∀ a ∈ ms, ∀ b ∈ ms, a &&& b ∈ ms) : ∀ (l : List Nat) (t : Nat), t ∈ ms → (∀ a ∈ l, a ∈ ms) → ∃ j ∈ ms, subM j t = true ∧ (∀ a ∈ l, subM j a = true) ∧ ∀ z, subM z t = true → (∀ a ∈ l, subM z a = true) → subM z j = true
  | [], t, ht, _ => ⟨t, ht, subM_refl t, fun a ha => (nomatch ha), fun z h _ => h⟩
  | b :: l, t, ht, hl => by
    obtain ⟨j, hj, h1, h2, h3⟩ := inf_ex cl l t ht fun a ha => hl a (List.mem_cons_of_mem _ ha)
    have q := subM_and.mp (subM_refl (j &&& b))
    refine ⟨j &&& b, cl _ hj _ (hl b List.mem_cons_self), subM_trans q.1 h1, fun a ha => ?_, fun z hz hzl => subM_and.mpr ⟨h3 z hz fun a ha => hzl a (List.mem_cons_of_mem _ ha), hzl b List.mem_cons_self⟩⟩
    rcases List.mem_cons.mp ha with e | e
    · rw [e]; exact q.2
    · exact subM_trans q.1 (h2 a e)
theorem up_ex {ms : List Nat} (F : Fam ms) {x y : Nat} (hx : x < ms.length) (hy : y < ms.length) : ∃ z, z ∈ upM ms x y := by
  obtain ⟨t, ht, h1⟩ := F.top
  obtain ⟨j, hj, j1, j2, j3⟩ := inf_ex F.cl (ms.filter fun c => subM (msAt ms x) c && subM (msAt ms y) c) t ht fun a ha => (List.mem_filter.mp ha).1
  obtain ⟨z, hz, e⟩ := msAt_ex hj
  have ux : subM (msAt ms x) j = true := j3 _ (h1 _ (msAt_mem hx)) fun a ha => (Bool.and_eq_true_iff.mp (List.mem_filter.mp ha).2).1
  have uy : subM (msAt ms y) j = true := j3 _ (h1 _ (msAt_mem hy)) fun a ha => (Bool.and_eq_true_iff.mp (List.mem_filter.mp ha).2).2
  refine ⟨z, List.mem_filter.mpr ⟨mem_upL.mpr ⟨hz, ?_, ?_⟩, List.all_eq_true.mpr fun w hw => ?_⟩⟩
  · unfold leI; rw [e]; exact ux
  · unfold leI; rw [e]; exact uy
  · obtain ⟨w1, w2, w3⟩ := mem_upL.mp hw
    unfold leI at w2 w3 ⊢
    rw [e]
    exact j2 _ (List.mem_filter.mpr ⟨msAt_mem w1, by rw [w2, w3]; rfl⟩)
theorem low_cons {ms : List Nat} (F : Fam ms) {x y : Nat} (hx : x < ms.length) (hy : y < ms.length) : lowI ms x y ∈ lowM ms x y ∧ ∃ r, lowM ms x y = lowI ms x y :: r := by
  obtain ⟨z, hz⟩ := low_ex F hx hy
  exact head_mem hz
theorem up_cons {ms : List Nat} (F : Fam ms) {x y : Nat} (hx : x < ms.length) (hy : y < ms.length) : upI ms x y ∈ upM ms x y ∧ ∃ r, upM ms x y = upI ms x y :: r := by
  obtain ⟨z, hz⟩ := up_ex F hx hy
  exact head_mem hz
theorem low_spec {ms : List Nat} (F : Fam ms) {x y : Nat} (hx : x < ms.length) (hy : y < ms.length) : lowI ms x y < ms.length ∧ ∀ w, w < ms.length → (leI ms w (lowI ms x y) = true ↔ leI ms w x = true ∧ leI ms w y = true) := by
  obtain ⟨h1, h2⟩ := List.mem_filter.mp (low_cons F hx hy).1
  obtain ⟨a, b, c⟩ := mem_lowL.mp h1
  refine ⟨a, fun w hw => ⟨fun h => ⟨subM_trans h b, subM_trans h c⟩, fun h => ?_⟩⟩
  exact List.all_eq_true.mp h2 w (mem_lowL.mpr ⟨hw, h⟩)
theorem up_spec {ms : List Nat} (F : Fam ms) {x y : Nat} (hx : x < ms.length) (hy : y < ms.length) : upI ms x y < ms.length ∧ ∀ w, w < ms.length → (leI ms (upI ms x y) w = true ↔ leI ms x w = true ∧ leI ms y w = true) := by
  obtain ⟨h1, h2⟩ := List.mem_filter.mp (up_cons F hx hy).1
  obtain ⟨a, b, c⟩ := mem_upL.mp h1
  refine ⟨a, fun w hw => ⟨fun h => ⟨subM_trans b h, subM_trans c h⟩, fun h => ?_⟩⟩
  exact List.all_eq_true.mp h2 w (mem_upL.mpr ⟨hw, h⟩)
theorem leI_refl {ms : List Nat} (x : Nat) : leI ms x x = true := subM_refl _
theorem leI_trans {ms : List Nat} {x y z : Nat} (h : leI ms x y = true) (g : leI ms y z = true) : leI ms x z = true := subM_trans h g
theorem leI_anti {ms : List Nat} (F : Fam ms) {x y : Nat} (hx : x < ms.length) (hy : y < ms.length) (h : leI ms x y = true) (g : leI ms y x = true) : x = y := msAt_inj F.nd hx hy (subM_anti h g)
/-- all triples -/
def Spr (ms : List Nat) : Prop := ∀ x, x < ms.length → ∀ y, y < ms.length → ∀ z, z < ms.length → lowI ms x (upI ms y z) = upI ms (lowI ms x y) (lowI ms x z)
theorem low_ms {ms : List Nat} (F : Fam ms) {x y : Nat} (hx : x < ms.length) (hy : y < ms.length) : msAt ms (lowI ms x y) = msAt ms x &&& msAt ms y := by
  obtain ⟨h1, h2⟩ := low_spec F hx hy
  obtain ⟨z, hz, e⟩ := msAt_ex (F.cl _ (msAt_mem hx) _ (msAt_mem hy))
  have a := (h2 _ h1).mp (leI_refl _)
  refine subM_anti (subM_and.mpr a) ?_
  have q := subM_and.mp (subM_refl (msAt ms x &&& msAt ms y))
  have b := (h2 z hz).mpr (by unfold leI; rw [e]; exact q)
  unfold leI at b
  rw [e] at b
  exact b
/-- all subsets spread -/
theorem spr_range {ms : List Nat} {k : Nat} (F : Fam ms) (h : ∀ a, a ∈ ms ↔ a < 2 ^ k) : Spr ms := by
  have up_ms : ∀ {x y : Nat}, x < ms.length → y < ms.length → msAt ms (upI ms x y) = msAt ms x ||| msAt ms y := fun {x y} hx hy => by
    obtain ⟨h1, h2⟩ := up_spec F hx hy
    obtain ⟨z, hz, e⟩ := msAt_ex ((h _).mpr (Nat.or_lt_two_pow ((h _).mp (msAt_mem hx)) ((h _).mp (msAt_mem hy))))
    have a := (h2 _ h1).mp (leI_refl _)
    have b1 : subM (msAt ms x) (msAt ms x ||| msAt ms y) = true := subM_iff.mpr (by rw [Nat.and_or_distrib_left, Nat.and_self]; apply Nat.eq_of_testBit_eq; intro i; rw [Nat.testBit_or, Nat.testBit_and]; cases Nat.testBit (msAt ms x) i <;> simp)
    have b2 : subM (msAt ms y) (msAt ms x ||| msAt ms y) = true := subM_iff.mpr (by apply Nat.eq_of_testBit_eq; intro i; rw [Nat.testBit_and, Nat.testBit_or]; cases Nat.testBit (msAt ms y) i <;> simp)
    have b := (h2 z hz).mpr (by unfold leI; rw [e]; exact ⟨b1, b2⟩)
    unfold leI at a b
    rw [e] at b
    refine subM_anti b ?_
    rw [subM_iff]
    obtain ⟨a1, a2⟩ := a
    rw [subM_iff] at a1 a2
    rw [Nat.and_comm, Nat.and_or_distrib_left, Nat.and_comm _ (msAt ms x), a1, Nat.and_comm _ (msAt ms y), a2]
  intro x hx y hy z hz
  have u1 := (up_spec F hy hz).1
  have l1 := (low_spec F hx hy).1
  have l2 := (low_spec F hx hz).1
  refine msAt_inj F.nd (low_spec F hx u1).1 (up_spec F l1 l2).1 ?_
  rw [low_ms F hx u1, up_ms hy hz, up_ms l1 l2, low_ms F hx hy, low_ms F hx hz, Nat.and_or_distrib_left]
/-- a cut over a board that spreads -/
theorem spr_cut {ms : List Nat} (F : Fam ms) (S : Spr ms) {u v a : Nat} (hu : u < ms.length) (hv : v < ms.length) (ha : a < ms.length) (h1 : leI ms u (upI ms v a) = true) (h2 : leI ms (lowI ms u a) v = true) : leI ms u v = true := by
  have e := S u hu v hv a ha
  have uva := up_spec F hv ha
  have luv := low_spec F hu hv
  have lua := low_spec F hu ha
  have t1 : leI ms u (lowI ms u (upI ms v a)) = true := ((low_spec F hu uva.1).2 u hu).mpr ⟨leI_refl _, h1⟩
  rw [e] at t1
  refine leI_trans t1 ?_
  refine ((up_spec F luv.1 lua.1).2 v hv).mpr ⟨((luv.2 _ luv.1).mp (leI_refl _)).2, h2⟩
/-! ### rows as texts -/
def rowC (ms : List Nat) (a : Nat) : List Nat := ms.map fun b => if subM a b = true then 49 else 48
def rowsOf (ms : List Nat) : List Str := ms.map fun a => mk (rowC ms a)
theorem rowC_at {ms : List Nat} {a x : Nat} (h : x < ms.length) : (rowC ms a)[x]? = some (if subM a (msAt ms x) = true then 49 else 48) := by
  unfold rowC
  rw [List.getElem?_map, msAt_get h]
  rfl
theorem rows_at {ms : List Nat} {x : Nat} (h : x < ms.length) : ((rowsOf ms).map V.str)[x]? = some (.str (mk (rowC ms (msAt ms x)))) := by
  unfold rowsOf
  rw [List.getElem?_map, List.getElem?_map, msAt_get h]
  rfl
theorem one_dec (b : Bool) : decide (V.str (⟨#[if b = true then 49 else 48]⟩ : Str) = V.str "1") = b := by
  cases b <;> decide +kernel
end Fv


namespace FvO
open PySem PySem.Spec PyProof.Rows L2 Fv
/-! ### rows of digits, as functions -/
def chB (b : Bool) : Nat := if b = true then 49 else 48
def rowF (n : Nat) (f : Nat → Bool) : Str := mk ((List.range n).map fun y => chB (f y))
def rowsF (n : Nat) (b : Nat → Nat → Bool) : List Str := (List.range n).map fun x => rowF n (b x)
theorem rowF_cps (n : Nat) (f : Nat → Bool) : (rowF n f).cps.toList = (List.range n).map fun y => chB (f y) := by
  unfold rowF mk
  simp
theorem rowF_len (n : Nat) (f : Nat → Bool) : (rowF n f).length = n := by
  show (rowF n f).cps.size = n
  rw [← Array.length_toList, rowF_cps, List.length_map, List.length_range]
theorem chB_bin (b : Bool) : IsBin (chB b) := by cases b <;> simp [chB, IsBin]
theorem rowF_bin (n : Nat) (f : Nat → Bool) : ∀ c ∈ (rowF n f).cps.toList, IsBin c := fun c hc => by
  rw [rowF_cps] at hc
  obtain ⟨y, _, rfl⟩ := List.mem_map.mp hc
  exact chB_bin _
theorem rowF_congr {n : Nat} {f g : Nat → Bool} (h : ∀ y, y < n → f y = g y) : rowF n f = rowF n g := by
  unfold rowF
  congr 1
  exact List.map_congr_left fun y hy => by rw [h y (List.mem_range.mp hy)]
theorem rows_eq (ms : List Nat) : rowsOf ms = rowsF ms.length (leI ms) := by
  unfold rowsOf rowsF
  apply List.ext_getElem?
  intro x
  rw [List.getElem?_map, List.getElem?_map]
  rcases Nat.lt_or_ge x ms.length with h | h
  · rw [msAt_get h, List.getElem?_range h]
    show some (mk (rowC ms (msAt ms x))) = some (rowF ms.length (leI ms x))
    congr 1
    unfold rowF
    congr 1
    unfold rowC
    apply List.ext_getElem?
    intro y
    rw [List.getElem?_map, List.getElem?_map]
    rcases Nat.lt_or_ge y ms.length with g | g
    · rw [msAt_get g, List.getElem?_range g]; rfl
    · rw [List.getElem?_eq_none g, List.getElem?_eq_none (by rw [List.length_range]; exact g)]; rfl
  · rw [List.getElem?_eq_none h, List.getElem?_eq_none (by rw [List.length_range]; exact h)]; rfl
/-! ### strip -/
theorem takeW_all {α : Type} {p : α → Bool} : ∀ {l : List α}, (∀ c ∈ l, p c = true) → l.takeWhile p = l
  | [], _ => rfl
  | a :: l, h => by rw [List.takeWhile_cons, h a List.mem_cons_self, if_pos rfl, takeW_all fun c hc => h c (List.mem_cons_of_mem _ hc)]
theorem strip_bin {x : Str} (h : ∀ c ∈ x.cps.toList, IsBin c) : Txt.stripChars x "01" = "" := by
  have hg : ∀ c ∈ x.cps.toList, (Array.contains (Str.ofString "01").cps) c = true := fun c hc => by
    rcases h c hc with rfl | rfl <;> decide +kernel
  have lo : PySem.stripLo (Array.contains (Str.ofString "01").cps) true x = x.length := by
    unfold PySem.stripLo
    rw [if_pos rfl, takeW_all hg]
    exact Array.length_toList
  have hi : PySem.stripHi (Array.contains (Str.ofString "01").cps) true x x.length = x.length := by
    unfold PySem.stripHi
    rw [if_pos rfl, List.drop_eq_nil_of_le (by rw [Array.length_toList]; exact Nat.le_refl _)]
    rfl
  show (if PySem.stripSame (Array.contains (Str.ofString "01").cps) true true x = true then x else PySem.stripped (Array.contains (Str.ofString "01").cps) true true x) = _
  unfold PySem.stripSame PySem.stripped
  rw [lo, hi]
  by_cases z : x.length = 0
  · have e : x = "" := by
      obtain ⟨a⟩ := x
      have : a = #[] := Array.eq_empty_of_size_eq_zero z
      rw [this]; rfl
    rw [if_pos (by rw [z]; rfl), e]
  · rw [if_neg (by rw [beq_eq_false_iff_ne.mpr z]; simp)]
    unfold Builtin.Str.strSub
    obtain ⟨a⟩ := x
    have e : a.extract a.size a.size = #[] := by
      apply Array.eq_empty_of_size_eq_zero
      simp
    show (⟨a.extract a.size a.size⟩ : Str) = ⟨#[]⟩
    rw [e]
/-! ### masks -/
def maskF : Nat → (Nat → Bool) → Nat
  | 0, _ => 0
  | n + 1, f => maskF n f + (if f n = true then 2 ^ n else 0)
theorem maskF_lt : ∀ (n : Nat) (f : Nat → Bool), maskF n f < 2 ^ n
  | 0, _ => Nat.one_pos
  | n + 1, f => by
    have := maskF_lt n f
    unfold maskF
    rw [Nat.pow_succ]
    split <;> omega
theorem maskF_bit : ∀ (n : Nat) (f : Nat → Bool) (y : Nat), Nat.testBit (maskF n f) y = (decide (y < n) && f y)
  | 0, _, y => by simp [maskF]
  | n + 1, f, y => by
    have lt := maskF_lt n f
    have ih := maskF_bit n f y
    unfold maskF
    by_cases h : f n = true
    · rw [if_pos h]
      have e : maskF n f + 2 ^ n = 2 ^ n * 1 ||| maskF n f := by
        rw [← Nat.two_pow_add_eq_or_of_lt lt 1, Nat.mul_one, Nat.add_comm]
      rw [e, Nat.testBit_or, ih, Nat.mul_one, Nat.testBit_two_pow]
      by_cases c : n = y
      · subst c; simp [h]
      · rw [decide_eq_false c, Bool.false_or]
        congr 1
        exact decide_eq_decide.mpr (by omega)
    · rw [if_neg h, Nat.add_zero, ih]
      by_cases c : n = y
      · subst c
        rw [Bool.eq_false_iff.mpr h]
        simp
      · congr 1
        exact decide_eq_decide.mpr (by omega)
theorem bin_cons (c : Nat) (l : List Nat) : binNum (c :: l) = (c - 48) * 2 ^ l.length + binNum l := by
  have gen : ∀ (l : List Nat) (a : Nat), l.foldl (fun a c => a * 2 + (c - 48)) a = a * 2 ^ l.length + l.foldl (fun a c => a * 2 + (c - 48)) 0 := by
    intro l
    induction l with
    | nil => intro a; simp
    | cons d l ih =>
      intro a
      rw [List.foldl_cons, List.foldl_cons, ih (a * 2 + (d - 48)), ih (0 * 2 + (d - 48)), List.length_cons, Nat.pow_succ, Nat.add_mul, Nat.zero_mul, Nat.zero_add, Nat.mul_assoc, Nat.mul_comm 2, Nat.add_assoc]
  show l.foldl _ (0 * 2 + (c - 48)) = _
  rw [gen, Nat.zero_mul, Nat.zero_add]
  rfl
theorem bin_rev (n : Nat) (f : Nat → Bool) : binNum ((List.range n).map fun y => chB (f y)).reverse = maskF n f := by
  induction n with
  | zero => rfl
  | succ n ih =>
    rw [List.range_succ, List.map_append, List.reverse_append]
    show binNum (chB (f n) :: ((List.range n).map fun y => chB (f y)).reverse) = _
    rw [bin_cons, ih, List.length_reverse, List.length_map, List.length_range]
    show _ = maskF n f + (if f n = true then 2 ^ n else 0)
    unfold chB
    cases f n <;> simp [Nat.add_comm]
theorem mask_and {n : Nat} {f g : Nat → Bool} : maskF n f &&& maskF n g = maskF n fun y => f y && g y := by
  apply Nat.eq_of_testBit_eq
  intro y
  rw [Nat.testBit_and, maskF_bit, maskF_bit, maskF_bit]
  cases decide (y < n) <;> simp
theorem mask_congr {n : Nat} {f g : Nat → Bool} (h : ∀ y, y < n → f y = g y) : maskF n f = maskF n g := by
  apply Nat.eq_of_testBit_eq
  intro y
  rw [maskF_bit, maskF_bit]
  by_cases c : y < n
  · rw [h y c]
  · rw [decide_eq_false c]; rfl
theorem mask_inj {n : Nat} {f g : Nat → Bool} (h : maskF n f = maskF n g) : ∀ y, y < n → f y = g y := fun y hy => by
  have := congrArg (fun m => Nat.testBit m y) h
  simp only [maskF_bit, decide_eq_true hy, Bool.true_and] at this
  exact this
theorem mask_mono {f g : Nat → Bool} : ∀ {n : Nat}, (∀ y, y < n → f y = true → g y = true) → maskF n f ≤ maskF n g
  | 0, _ => Nat.le_refl _
  | n + 1, h => by
    have := mask_mono (n := n) fun y hy => h y (by omega)
    unfold maskF
    have e := h n (by omega)
    cases a : f n with
    | false => rw [if_neg (fun z => by cases z)]; omega
    | true => rw [e a]; omega
theorem mask_one {n a : Nat} (h : a < n) : maskF n (fun y => decide (y = a)) = 2 ^ a := by
  apply Nat.eq_of_testBit_eq
  intro y
  rw [maskF_bit, Nat.testBit_two_pow]
  by_cases c : y = a
  · subst c; simp [h]
  · rw [show decide (y = a) = false from decide_eq_false c, Bool.and_false, show decide (a = y) = false from decide_eq_false (fun z => c z.symm)]
end FvO


namespace Fv
open PySem PySem.Spec PyProof.Rows L2
/-! ### measures of data -/
def isL (s : Str) : Bool := decide (V.int (s.length : Nat) = V.int 1) && !(Builtin.Str.occurrences "abcdefgh" s 0 (Str.length "abcdefgh") 1).isEmpty
def isLd : PyData → Bool
  | .str s => isL s
  | _ => false
def isOp (o : PyData) : Bool := ([PyData.str "&", .str "|"] : List PyData).any fun z => PyData.eqv z o
def isCd : PyData → Bool
  | .tuple (o :: ds) => decide (2 ≤ ds.length) && isOp o
  | _ => false
def parts : PyData → List PyData
  | .tuple (_ :: ds) => ds
  | _ => []
def measL (f : PyData → Int → Option (Int × Int)) : List PyData → Int → Int → Int → Option (Int × Int)
  | [], _, dp, tot => some (dp + 1, tot)
  | d :: ds, ms, dp, tot => match f d (ms - tot) with
    | none => none
    | some (a, b) => measL f ds ms (if a > dp then a else dp) (tot + b)
def meas : Nat → PyData → Int → Option (Int × Int)
  | 0, _, _ => none
  | n + 1, d, ms => if ms < 1 then none else if isLd d = true then some (1, 1) else if isCd d = true then measL (meas n) (parts d) ms 0 0 else none
def lmeas : Nat → PyData → Int
  | 0, _ => 0
  | n + 1, d => if isLd d = true then 1 else if isCd d = true then (if (0 : Int) ∈ (parts d).map (lmeas n) then 0 else ((parts d).map (lmeas n)).sum) else 0
theorem sum_nonneg : ∀ {l : List Int}, (∀ x ∈ l, 0 ≤ x) → 0 ≤ l.sum
  | [], _ => by simp
  | x :: l, h => by
    rw [List.sum_cons]
    have := h x (List.mem_cons_self ..)
    have := sum_nonneg (l := l) fun y hy => h y (List.mem_cons_of_mem _ hy)
    omega
theorem lmeas_nonneg : ∀ (n : Nat) (d : PyData), 0 ≤ lmeas n d
  | 0, _ => by simp [lmeas]
  | n + 1, d => by
    unfold lmeas
    split
    · decide
    · split
      · split
        · decide
        · exact sum_nonneg fun x hx => by
            obtain ⟨d', _, rfl⟩ := List.mem_map.mp hx
            exact lmeas_nonneg n d'
      · decide
theorem measL_iff {f : PyData → Int → Option (Int × Int)} {g : PyData → Int} (hg : ∀ d, 0 ≤ g d)
    (hf : ∀ d ms, (f d ms = none ∧ ¬ (1 ≤ g d ∧ g d ≤ ms)) ∨ (∃ dp, f d ms = some (dp, g d) ∧ 1 ≤ g d ∧ g d ≤ ms)) :
    ∀ (ds : List PyData) (ms dp tot : Int), tot ≤ ms →
      (measL f ds ms dp tot = none ∧ ¬ ((∀ d ∈ ds, 1 ≤ g d) ∧ tot + (ds.map g).sum ≤ ms)) ∨ (∃ dp', measL f ds ms dp tot = some (dp', tot + (ds.map g).sum) ∧ (∀ d ∈ ds, 1 ≤ g d) ∧ tot + (ds.map g).sum ≤ ms)
  | [], ms, dp, tot, h => by
    refine .inr ⟨dp + 1, ?_, by simp, by simpa using h⟩
    simp [measL]
  | d :: ds, ms, dp, tot, h => by
    have hs : 0 ≤ (ds.map g).sum := sum_nonneg fun x hx => by
      obtain ⟨d', _, rfl⟩ := List.mem_map.mp hx
      exact hg d'
    rw [List.map_cons, List.sum_cons]
    rcases hf d (ms - tot) with ⟨e, ne⟩ | ⟨a, e, e1, e2⟩
    · refine .inl ⟨by simp only [measL, e], fun ⟨q1, q2⟩ => ne ⟨q1 d (List.mem_cons_self ..), by omega⟩⟩
    · have st : measL f (d :: ds) ms dp tot = measL f ds ms (if a > dp then a else dp) (tot + g d) := by simp only [measL, e]
      rw [st]
      rcases measL_iff hg hf ds ms (if a > dp then a else dp) (tot + g d) (by omega) with ⟨e', ne⟩ | ⟨dp', e', q1, q2⟩
      · refine .inl ⟨e', fun ⟨q1, q2⟩ => ne ⟨fun x hx => q1 x (List.mem_cons_of_mem _ hx), by omega⟩⟩
      · refine .inr ⟨dp', by rw [e', Int.add_assoc], fun x hx => ?_, by omega⟩
        rcases List.mem_cons.mp hx with e | hx
        · rw [e]; exact e1
        · exact q1 x hx
theorem meas_iff : ∀ (n : Nat) (d : PyData) (ms : Int), (meas n d ms = none ∧ ¬ (1 ≤ lmeas n d ∧ lmeas n d ≤ ms)) ∨ (∃ dp, meas n d ms = some (dp, lmeas n d) ∧ 1 ≤ lmeas n d ∧ lmeas n d ≤ ms)
  | 0, d, ms => .inl ⟨rfl, fun h => by simp only [lmeas] at h; omega⟩
  | n + 1, d, ms => by
    have hn := lmeas_nonneg (n + 1) d
    unfold meas
    by_cases h1 : ms < 1
    · rw [if_pos h1]
      exact .inl ⟨rfl, fun h => by omega⟩
    · rw [if_neg h1]
      unfold lmeas
      by_cases h2 : isLd d = true
      · rw [if_pos h2, if_pos h2]
        exact .inr ⟨1, rfl, by decide, by omega⟩
      · rw [if_neg h2, if_neg h2]
        by_cases h3 : isCd d = true
        · rw [if_pos h3, if_pos h3]
          have q := measL_iff (g := lmeas n) (lmeas_nonneg n) (meas_iff n) (parts d) ms 0 0 (by omega)
          rw [Int.zero_add] at q
          by_cases h4 : (0 : Int) ∈ (parts d).map (lmeas n)
          · rw [if_pos h4]
            rcases q with ⟨e, _⟩ | ⟨dp, e, q1, _⟩
            · exact .inl ⟨e, fun h => by omega⟩
            · obtain ⟨x, hx, e0⟩ := List.mem_map.mp h4
              have := q1 x hx
              omega
          · rw [if_neg h4]
            have all1 : ∀ x ∈ parts d, 1 ≤ lmeas n x := fun x hx => by
              have z := lmeas_nonneg n x
              rcases Int.lt_or_eq_of_le z with z | z
              · omega
              · exact absurd (List.mem_map.mpr ⟨x, hx, z.symm⟩) h4
            rcases q with ⟨e, ne⟩ | ⟨dp, e, q1, q2⟩
            · exact .inl ⟨e, fun h => ne ⟨all1, h.2⟩⟩
            · refine .inr ⟨dp, e, ?_, q2⟩
              have hp : parts d ≠ [] := by
                cases d with
                | tuple ds =>
                  cases ds with
                  | nil => cases h3
                  | cons o ds =>
                    intro e0
                    simp only [parts] at e0
                    rw [e0] at h3
                    simp [isCd] at h3
                | _ => cases h3
              cases hd : parts d with
              | nil => exact absurd hd hp
              | cons x r =>
                rw [hd] at all1
                rw [List.map_cons, List.sum_cons]
                have := all1 x (List.mem_cons_self ..)
                have := sum_nonneg (l := r.map (lmeas n)) fun y hy => by
                  obtain ⟨d', _, rfl⟩ := List.mem_map.mp hy
                  exact lmeas_nonneg n d'
                omega
        · rw [if_neg h3, if_neg h3]
          exact .inl ⟨rfl, fun h => by omega⟩
/-- the two measures agree -/
theorem meas_some (n : Nat) (d : PyData) (ms : Int) : (meas n d ms).isSome = (decide (1 ≤ lmeas n d) && decide (lmeas n d ≤ ms)) := by
  rcases meas_iff n d ms with ⟨e, ne⟩ | ⟨dp, e, h1, h2⟩
  · rw [e]
    by_cases a : 1 ≤ lmeas n d
    · have b : ¬ lmeas n d ≤ ms := fun z => ne ⟨a, z⟩
      simp [b]
    · simp [a]
  · rw [e]; simp [h1, h2]
/-! ### contracts -/
/-- plain data at v: nested at most 20 deep -/
def spIsLetter (K : PySem.W.Frag) : Sp := fun vs H Q _ => ∃ (v : V) (d : PyData), vs = [v] ∧ Dp K H v d ∧ gd 20 d = true ∧ Q (.bl (isLd d)) H
def spIsCompound (K : PySem.W.Frag) : Sp := fun vs H Q _ => ∃ (v : V) (d : PyData), vs = [v] ∧ Dp K H v d ∧ gd 20 d = true ∧ Q (.bl (isCd d)) H
def spMeas (K : PySem.W.Frag) (n : Nat) : Sp := fun vs H Q _ => ∃ (v : V) (d : PyData) (md ms : Int), vs = [v, .int md, .int ms] ∧ Dp K H v d ∧ gd 20 d = true ∧ 0 ≤ md ∧ md < n ∧
  (meas md.toNat d ms = none → ∀ H', Same H H' → Q .non H') ∧ (∀ dp sz, meas md.toNat d ms = some (dp, sz) → ∀ (H' : Hp) (p : Addr), Same H H' → H' p = some (.tup [.int dp, .int sz]) → Q (.ref p) H')
def spIsTerm (K : PySem.W.Frag) : Sp := fun vs H Q _ => ∃ (v : V) (d : PyData) (md ms : Int), vs = [v, .int md, .int ms] ∧ Dp K H v d ∧ gd 20 d = true ∧ 0 ≤ md ∧ md < 20 ∧
  ∀ H', Same H H' → Q (.bl (meas md.toNat d ms).isSome) H'
def spMeasure (K : PySem.W.Frag) (n : Nat) : Sp := fun vs H Q _ => ∃ (v : V) (d : PyData) (md : Int), vs = [v, .int md] ∧ Dp K H v d ∧ gd 20 d = true ∧ 0 ≤ md ∧ md < n ∧
  ∀ H', Same H H' → Q (.int (lmeas md.toNat d)) H'
def spFits (K : PySem.W.Frag) : Sp := fun vs H Q _ => ∃ (v : V) (d : PyData), vs = [v] ∧ Dp K H v d ∧ gd 20 d = true ∧
  ∀ H', Same H H' → Q (.bl (decide (1 ≤ lmeas 5 d) && decide (lmeas 5 d ≤ 24))) H'
theorem gd_parts {n : Nat} {o : PyData} {ds : List PyData} (h : gd (n + 1) (.tuple (o :: ds)) = true) : gd n o = true ∧ ∀ d ∈ ds, gd n d = true := by
  have q := (gd_tuple h).2
  exact ⟨q o (List.mem_cons_self ..), fun d hd => q d (List.mem_cons_of_mem _ hd)⟩
theorem drop_cons_get {α : Type} {l : List α} {i : Nat} {x : α} (h : l[i]? = some x) : l.drop i = x :: l.drop (i + 1) := by
  obtain ⟨hi, e⟩ := List.getElem?_eq_some_iff.mp h
  rw [List.drop_eq_getElem_cons hi, e]
theorem dropHead {vs : List V} {ds : List PyData} {K : PySem.W.Frag} {H : Hp} (h : DpAll K H vs ds) : DpAll K H (vs.drop 1) (ds.drop 1) := dpAll_drop 1 h
theorem isOp_str : isOp (.str "&") = true ∧ isOp (.str "|") = true := by decide +kernel
end Fv


namespace Fv
open PySem PySem.Spec PyProof.Rows L2
/-! ### own defs with defaults, called with and without keywords -/
structure OwnD (P : Program) (w : World) (K : PySem.W.Frag) (mg : Str → Option Value) (base : Heap) (k : Nat) (x : Str) (ps : List Str) (dvs : List V) (sp : Sp) : Prop where
  ex : ∃ (f : Addr) (fd : FuncData) (ds : List Value), mg x = some (.ref f) ∧ PySem.W.keepIn K (.ref f) = true ∧ Binds K fd ps ds ∧ Vals dvs ds ∧ FnOk P w K mg base CX0 k f fd ps sp
structure OwnK (P : Program) (w : World) (K : PySem.W.Frag) (mg : Str → Option Value) (base : Heap) (k : Nat) (x : Str) (ps : List Str) (n : Nat) (ks : List Str) (gV : List V → List V → List V) (sp : Sp) : Prop where
  ex : ∃ (f : Addr) (fd : FuncData) (g : List Value → List Value → List Value), mg x = some (.ref f) ∧ PySem.W.keepIn K (.ref f) = true ∧ KBn K fd ps n ks g gV ∧ FnOk P w K mg base CX0 k f fd ps sp
section
variable {X : Cx} {k n : Nat} {x : Str} {ps ks : List Str} {dvs : List V} {gV : List V → List V → List V} {sp : Sp} {e : Expr} {es : List Expr} {t tk : TA} {p pos : Pos} {kws : List Keyword}
theorem pe_ownD (C : OwnD X.prog X.w X.K X.mg X.base k x ps dvs sp) (hr : Room k X.A) (hg : Gl X x) (ha : PA X (e :: es) t) (hdb : (x == ("__debug__" : Str)) = false := by decide)
    (he : starEach (e :: es) X.env = (false, eval e X.env) :: starEach es X.env := by rfl) (hpl : (backTo pos (starEach es X.env)).any (·.1) = false := by rfl) : PE X (.Call (.Name x p) (e :: es) [] pos) (tCall sp dvs E0 t) := by
  obtain ⟨f, fd, ds, h1, h2, h3, h4, h5⟩ := C.ex
  exact pe_call h5 hr hg h1 h2 h3 h4 pass0 ha hdb he hpl
theorem pe_ownK (C : OwnK X.prog X.w X.K X.mg X.base k x ps n ks gV sp) (hr : Room k X.A) (hg : Gl X x) (ha : PA X (e :: es) t) (hkw : PK X kws tk)
    (hall : (backToKw pos (keywordEach kws X.env)).all (·.1.isSome) = true := by rfl) (hks : (backToKw pos (keywordEach kws X.env)).filterMap (·.1) = ks := by rfl)
    (hdb : (x == ("__debug__" : Str)) = false := by decide) (he : starEach (e :: es) X.env = (false, eval e X.env) :: starEach es X.env := by rfl)
    (hpl : ((backTo pos (starEach (e :: es) X.env)).any (·.1) || (backToKw pos (keywordEach kws X.env)).any (·.1.isNone)) = false := by rfl) :
    PE X (.Call (.Name x p) (e :: es) kws pos) (tCallN n ks.length sp gV E0 t tk) := by
  obtain ⟨f, fd, g, h1, h2, h3, h4⟩ := C.ex
  exact pe_callN h4 hr hg h1 h2 h3 pass0 ha hkw hall hks hdb he hpl
/-- no positional value -/
theorem pe_ownK0 (C : OwnK X.prog X.w X.K X.mg X.base k x ps 0 ks gV sp) (hr : Room k X.A) (hg : Gl X x) (hkw : PK X kws tk)
    (hall : (backToKw pos (keywordEach kws X.env)).all (·.1.isSome) = true := by rfl) (hks : (backToKw pos (keywordEach kws X.env)).filterMap (·.1) = ks := by rfl)
    (hdb : (x == ("__debug__" : Str)) = false := by decide)
    (hpl : ((backTo pos (starEach [] X.env)).any (·.1) || (backToKw pos (keywordEach kws X.env)).any (·.1.isNone)) = false := by rfl) :
    PE X (.Call (.Name x p) [] kws pos) (tCallN 0 ks.length sp gV E0 tNil tk) := by
  obtain ⟨f, fd, g, h1, h2, h3, h4⟩ := C.ex
  refine ⟨fun pins s σ H Q I h => ?_⟩
  refine wpAny_Call_Name_kw (ld_glob I hg h1 ?_ hdb)
  refine PySem.W.callWith_KW0 (h₀ := X.base) I.ok.mod.kin h2 hall ?_ hpl
  refine thn (hkw.run pos pins s σ H _ I h) fun ws s2 ⟨zs, H2, I2, rz, l1, l2, q2⟩ => ⟨I2.kIn, ?_⟩
  rw [hks]
  exact run_fnN h4 hr h3 pass0 I2 .nil rz l1 l2 q2
end
end Fv


namespace Fv
open PySem PySem.Spec PyProof.Rows L2
/-! ### what is tracked; values that are plain data apart from M -/
def Trk (M : List Addr) (H : Hp) : Prop := ∀ b ∈ M, ∃ o, H b = some o
theorem Trk.same {M : List Addr} {H H' : Hp} (h : Trk M H) (s : Same H H') : Trk M H' := fun b hb => by
  obtain ⟨o, e⟩ := h b hb
  exact ⟨o, s _ _ e⟩
theorem Trk.smx {M N : List Addr} {H H' : Hp} (h : Trk M H) (s : SmX N H H') (hN : Trk N H') : Trk M H' := fun b hb => by
  by_cases m : b ∈ N
  · exact hN b m
  · obtain ⟨o, e⟩ := h b hb
    exact ⟨o, s _ _ m e⟩
theorem Trk.ne {M : List Addr} {H : Hp} (h : Trk M H) {p : Addr} (np : H p = none) : p ∉ M := fun hp => by
  obtain ⟨o, e⟩ := h p hp
  rw [np] at e
  cases e
theorem hid_new {M : List Addr} {H : Hp} {p : Addr} {o : HO} (np : H p = none) : Same (hide M H) (hide M (upd H p o)) := (SmX.new np).hid
theorem hid_at {M : List Addr} {H : Hp} (h : Trk M H) {p : Addr} {o : HO} (np : H p = none) : hide M (upd H p o) p = some o := by
  rw [hide_ne (h.ne np), upd_same]
def GV (K : PySem.W.Frag) (n : Nat) (M : List Addr) (H : Hp) (v : V) : Prop := ∃ d, Dp K (hide M H) v d ∧ gd n d = true
theorem GV.same {K : PySem.W.Frag} {n : Nat} {M : List Addr} {H H' : Hp} {v : V} (g : GV K n M H v) (s : Same H H') : GV K n M H' v := by
  obtain ⟨d, h1, h2⟩ := g
  exact ⟨d, dp_same (SmX.of_same s).hid d v h1, h2⟩
theorem GV.up {K : PySem.W.Frag} {n m : Nat} {M : List Addr} {H : Hp} {v : V} (g : GV K n M H v) (h : n ≤ m) : GV K m M H v := by
  obtain ⟨d, h1, h2⟩ := g
  exact ⟨d, h1, gd_le h2 h⟩
theorem GV.str {K : PySem.W.Frag} {n : Nat} {M : List Addr} {H : Hp} {x : Str} (h : gd 0 (.str x) = true) : GV K n M H (.str x) := ⟨_, .str x, gd_le h (Nat.zero_le _)⟩
theorem GV.int {K : PySem.W.Frag} {n : Nat} {M : List Addr} {H : Hp} (i : Int) : GV K n M H (.int i) := ⟨_, .int i, gd_le (n := 0) rfl (Nat.zero_le _)⟩
theorem GV.bl {K : PySem.W.Frag} {n : Nat} {M : List Addr} {H : Hp} (b : Bool) : GV K n M H (.bl b) := ⟨_, .bl b, gd_le (n := 0) rfl (Nat.zero_le _)⟩
theorem GV.non {K : PySem.W.Frag} {n : Nat} {M : List Addr} {H : Hp} : GV K n M H .non := ⟨_, .non, gd_le (n := 0) rfl (Nat.zero_le _)⟩
theorem gv_all {K : PySem.W.Frag} {n : Nat} {M : List Addr} {H : Hp} : ∀ {xs : List V}, (∀ x ∈ xs, GV K n M H x) → ∃ ds, DpAll K (hide M H) xs ds ∧ ∀ d ∈ ds, gd n d = true
  | [], _ => ⟨[], .nil, fun d h => nomatch h⟩
  | x :: xs, h => by
    obtain ⟨d, h1, h2⟩ := h x (List.mem_cons_self ..)
    obtain ⟨ds, h3, h4⟩ := gv_all (xs := xs) fun y hy => h y (List.mem_cons_of_mem _ hy)
    refine ⟨d :: ds, .cons h1 h3, fun e he => ?_⟩
    rcases List.mem_cons.mp he with z | z
    · rw [z]; exact h2
    · exact h4 e z
theorem GV.tup {K : PySem.W.Frag} {n : Nat} {M : List Addr} {H : Hp} {p : Addr} {xs : List V} (hM : Trk M H) (np : H p = none) (h : ∀ x ∈ xs, GV K n M H x) (hl : xs.length ≤ 1000 := by decide) : GV K (n + 1) M (upd H p (.tup xs)) (.ref p) := by
  obtain ⟨ds, h1, h2⟩ := gv_all h
  exact ⟨.tuple ds, .tup (SqT.of (hid_at hM np)) (dpAll_same (hid_new np) _ _ h1), gd_tup h2 (by rw [← dpAll_len h1]; exact hl)⟩
theorem GV.lst {K : PySem.W.Frag} {n : Nat} {M : List Addr} {H : Hp} {p : Addr} {xs : List V} (hM : Trk M H) (np : H p = none) (h : ∀ x ∈ xs, GV K n M H x) (hl : xs.length ≤ 1000 := by decide) : GV K (n + 1) M (upd H p (.lst xs)) (.ref p) := by
  obtain ⟨ds, h1, h2⟩ := gv_all h
  exact ⟨.list ds, .lst (SqL.of (hid_at hM np)) (dpAll_same (hid_new np) _ _ h1), gd_lst h2 (by rw [← dpAll_len h1]; exact hl)⟩
theorem Src.trk {H : Hp} {a L : Addr} {ns : List Int} (h : Src H a L ns) : Trk [a] H := fun b hb => by
  obtain ⟨_, _, _, _, e, _⟩ := h
  rw [List.mem_singleton.mp hb]
  exact ⟨_, e⟩
theorem Src.ne {H : Hp} {a L p : Addr} {ns : List Int} (h : Src H a L ns) (np : H p = none) : a ≠ p := by
  obtain ⟨_, _, _, _, e, _⟩ := h
  exact ne_of_none e np
theorem Src.put {H : Hp} {a L p : Addr} {ns : List Int} {o : HO} (h : Src H a L ns) (pa : p ≠ a) (pL : p ≠ L) : Src (upd H p o) a L ns := by
  obtain ⟨i, q, st, c, h1, h2, h3⟩ := h
  exact ⟨i, q, st, c, by rw [upd_ne pa.symm]; exact h1, by rw [upd_ne pL.symm]; exact h2, h3⟩
theorem Src.new {H : Hp} {a L p : Addr} {ns : List Int} {o : HO} (h : Src H a L ns) (np : H p = none) : Src (upd H p o) a L ns := h.same (same_upd np)
/-- the term that is drawn: its data d, its depth at most n, its size by the room that was used -/
def spTerm (K : PySem.W.Frag) (n : Nat) : Sp := fun vs H Q _ => ∃ (a L sg r : Addr) (ns : List Int) (deep m : Int) (ys : List V) (M : List Addr), vs = [.ref a, .ref sg, .int deep, .ref r] ∧ Src H a L ns ∧
  H sg = some (.lst ys) ∧ 0 < ys.length ∧ ys.length ≤ 8 ∧ (∀ y ∈ ys, lett y) ∧ H r = some (.lst [.int m]) ∧ sg ≠ a ∧ sg ≠ r ∧ r ≠ a ∧ r ≠ L ∧ 0 ≤ m ∧ m ≤ 1000 ∧ 1 ≤ deep ∧ deep ≤ n ∧ a ∈ M ∧ r ∈ M ∧ Trk M H ∧
  ∀ (H' : Hp) (v : V) (d : PyData) (m' : Int), Dp K (hide M H') v d → lmeas deep.toNat d = m - m' + 1 → 0 ≤ m' → m' ≤ m → gd deep.toNat d = true → Src H' a L ns → H' r = some (.lst [.int m']) → SmX [a, r] H H' → Q v H'
def spAnyTerm (K : PySem.W.Frag) : Sp := fun vs H Q _ => ∃ (a L : Addr) (ns : List Int) (M : List Addr), vs = [.ref a] ∧ Src H a L ns ∧ a ∈ M ∧ Trk M H ∧
  ∀ (H' : Hp) (v : V) (d : PyData) (n : Nat), Dp K (hide M H') v d → 1 ≤ n → n ≤ 5 → 1 ≤ lmeas n d → lmeas n d ≤ 24 → gd n d = true → Src H' a L ns → SmX [a] H H' → Q v H'
def nestD : Nat → PyData
  | 0 => .str "a"
  | n + 1 => .tuple [.str (if n % 2 = 0 then "&" else "|"), nestD n, .str "b"]
def spNest (K : PySem.W.Frag) : Sp := fun vs H Q _ => ∃ (n : Nat) (M : List Addr), vs = [.int (n : Nat)] ∧ n ≤ 12 ∧ Trk M H ∧
  ∀ (H' : Hp) (v : V), Dp K (hide M H') v (nestD n) → Same H H' → Q v H'
def spOdd (K : PySem.W.Frag) : Sp := fun vs H Q _ => ∃ (a L : Addr) (ns : List Int) (v : V) (M : List Addr), vs = [.ref a, v] ∧ Src H a L ns ∧ GV K 5 M H v ∧ a ∈ M ∧ Trk M H ∧
  ∀ (H' : Hp) (v' : V), GV K 12 M H' v' → Src H' a L ns → SmX [a] H H' → Q v' H'
theorem isL_lett {x : Str} (h : x ∈ (["a", "b", "c", "d", "e", "f", "g", "h"] : List Str)) : isL x = true ∧ gd 0 (.str x) = true := by
  have q : ∀ x ∈ (["a", "b", "c", "d", "e", "f", "g", "h"] : List Str), isL x = true ∧ gd 0 (.str x) = true := by decide +kernel
  exact q x h
theorem nest_gd : ∀ n : Nat, gd n (nestD n) = true
  | 0 => by decide +kernel
  | n + 1 => gd_tup (fun d hd => by
      rcases List.mem_cons.mp hd with e | hd
      · rw [e]
        refine gd_le (n := 0) ?_ (Nat.zero_le _)
        split <;> decide +kernel
      · rcases List.mem_cons.mp hd with e | hd
        · rw [e]; exact nest_gd n
        · rw [List.mem_singleton.mp hd]
          exact gd_le (n := 0) (by decide +kernel) (Nat.zero_le _)) (by show 3 ≤ 1000; decide)
/-- a term made of parts -/
theorem lmeas_tup {n : Nat} {op : Str} {ds : List PyData} {t : Int} (ho : isOp (.str op) = true) (h2 : 2 ≤ ds.length) (h1 : ∀ d ∈ ds, 1 ≤ lmeas n d) (hs : (ds.map (lmeas n)).sum = t) : lmeas (n + 1) (.tuple (.str op :: ds)) = t := by
  have e : lmeas (n + 1) (.tuple (.str op :: ds)) = if (decide (2 ≤ ds.length) && isOp (.str op)) = true then (if (0 : Int) ∈ ds.map (lmeas n) then 0 else (ds.map (lmeas n)).sum) else 0 := by
    show (if false = true then _ else _) = _
    rw [if_neg (fun z => by cases z)]
    rfl
  rw [e, ho, decide_eq_true h2, Bool.and_self, if_pos rfl, if_neg, hs]
  intro z
  obtain ⟨d, hd, e⟩ := List.mem_map.mp z
  have := h1 d hd
  omega
end Fv


namespace FvW
open PySem PySem.Spec PyProof.Rows L2
/-! ### enumerate of a tuple -/
set_option maxHeartbeats 1000000 in
theorem new_enum {v : Value} {o : Obj} {B : Heap → Prop} (b : Begins v o B) : Meets (Builtin.«enumerate.__new__» ⟨[.type "enumerate", v], []⟩) (fun _ R s => B s.heap ∧ R (.ok (.ret (.ref (s.heap.push o).objs.size))) { s with heap := (s.heap.push o).push { cls := .type "enumerate", data := .fields #[.none, .bool false, .ref s.heap.objs.size, rawInt 0, .none, .none] } }) :=
  .of_wp fun prog w A R s z => by
    have hsub := sub_enumerate
    obtain ⟨hp, g, d, tk, os⟩ := s
    have it1 : ∀ {A' : Around} {E : Value → Shared → Prop} {Q : Value → Shared → Prop}, Q (.ref hp.objs.size) ⟨hp.push o, g, d, tk, os⟩ → wpAny (model prog w) A' (pyIter v) Q E ⟨hp, g, d, tk, os⟩ := fun q => b.iter prog w _ _ ⟨hp, g, d, tk, os⟩ _ z.1 q
    have fin := z.2
    wp_walk using it1
    refine wpAny_stack_any fun st => wpAny_pure ?_
    split
    next c _ _ _ _ _ =>
      cases (c == Value.type "enumerate") <;> (wp_walk using it1; exact ⟨_, rfl, fin⟩)
    next => wp_walk using it1; exact ⟨_, rfl, fin⟩
section
variable {P : Program} {w : World} {A : Around} {E : Value → Shared → Prop} {s : Shared}
theorem enum1 {v : Value} {o : Obj} {B : Heap → Prop} {Q : Value → Shared → Prop} (b : Begins v o B) (hb : B s.heap)
    (q : ∀ h1, IsEnum h1 (s.heap.objs.size + 1) s.heap.objs.size 0 .none → h1.get? s.heap.objs.size = some o → (∀ c x, s.heap.get? c = some x → h1.get? c = some x) → Q (.ref (s.heap.objs.size + 1)) { s with heap := h1 }) :
    wpAny (model P w) A (call (.type "enumerate") [v]) Q E s := by
  refine callType_new F.called_enumerate (by decide) (F.typeCall_enumerate_1 v) (F.newCall_enumerate_1 v) (fun obj => F.args_object_init_2 obj v) F.entry_enumerate_new (new_enum b) ⟨hb, ?_⟩
  have z1 : (s.heap.push o).objs.size = s.heap.objs.size + 1 := Heap.size_push ..
  have at1 := Heap.get?_push_size (s.heap.push o) (o := { cls := .type "enumerate", data := .fields #[.none, .bool false, .ref s.heap.objs.size, rawInt 0, .none, .none] }) rfl
  rw [z1] at at1
  show _ ∧ _
  rw [z1]
  exact ⟨⟨_, at1, rfl⟩, q _ at1 (Heap.get?_push_of_some _ (Heap.get?_push_size _ b.free)) fun c x e => Heap.get?_push_of_some _ (Heap.get?_push_of_some _ e)⟩
end
/-- behind the last item -/
theorem draws_end {P : Program} {w : World} {A : Around} (hh : A.handled = none) (it t : Addr) (items : Array Value) (i : Nat) (hi : items.size ≤ i) :
    Draws P w A it [it, t] i (fun _ _ => False) (fun j h => j = i ∧ h.IsTupleIter it t i ∧ h.IsTuple t items) where
  live := fun _ _ st => let ⟨o, ho, _⟩ := st.2.1; ⟨o, ho⟩
  frame := fun _ _ _ st hk => ⟨st.1, st.2.1.at fun o e => hk it (List.mem_cons_self ..) o e, st.2.2.at fun o e => hk t (List.mem_cons_of_mem _ (List.mem_singleton.mpr rfl)) o e⟩
  item := fun j s Q E hj st _ => by
    have := st.1
    omega
  done := fun s Q E st hE => wpAny_nextOf_tuple_end hh st.2.1 st.2.2 (Array.getElem?_eq_none hi) hE
/-- the tuple at a, each item in a new pair -/
def IteT (K : PySem.W.Frag) (a : Addr) : It where
  go := fun i H => ∃ (xs : List V) (x : V), SqT K H a xs ∧ xs[i]? = some x
  yld := fun i H v H' => ∃ T x, v = .ref T ∧ H T = none ∧ H' = upd H T (.tup [.int (i : Nat), x]) ∧ ∀ xs, SqT K H a xs → xs[i]? = some x
  stop := fun i H => ∃ xs : List V, SqT K H a xs ∧ xs.length ≤ i
theorem turn_enumT {P : Program} {w : World} {K : PySem.W.Frag} {elts : List Expr} {kk : Nat} {tpos : Pos} (a e it : Addr) (hai : a ≠ it) (hae : e ≠ a) :
    Turn P w K (.Tuple elts kk tpos) (IteT K a) [e, it] e (fun i h => (∃ old, IsEnum h e it ((i : Nat) : Int) old) ∧ h.IsTupleIter it a i ∧ e ≠ it) where
  mem := List.mem_cons_self ..
  obj := fun i h st b hb => by
    obtain ⟨⟨old, he⟩, ⟨o, ho, hc, hd⟩, _⟩ := st
    rcases List.mem_cons.mp hb with z | z
    · subst z
      exact ⟨_, he, fun v q => nomatch q⟩
    · exact ⟨o, (List.mem_singleton.mp z) ▸ ho, fun v q => by rw [hd] at q; cases q⟩
  keep := fun i h h' st k => ⟨st.1.imp fun old he => k e (List.mem_cons_self ..) _ he, st.2.1.at fun o q => k it (List.mem_cons_of_mem _ (List.mem_singleton.mpr rfl)) o q, st.2.2⟩
  item := by
    intro X hP hw hK hc i pins s σ H E I hf st hg
    subst hP
    subst hw
    subst hK
    obtain ⟨xs, x, hq, hx⟩ := hg
    obtain ⟨its, rv, p, hz⟩ := I.tuple hq
    obtain ⟨u, hu, ru⟩ := rv.get hx
    obtain ⟨⟨old, he⟩, hit, hne⟩ := st
    have le : e < s.heap.objs.size := Heap.lt_size he
    have li : it < s.heap.objs.size := let ⟨_, q, _⟩ := hit; Heap.lt_size q
    have hlt : i < its.toArray.size := by
      have := (List.getElem?_eq_some_iff.mp hu).1
      simpa using this
    have hin : e ∉ [it, a] := fun z => by
      rcases List.mem_cons.mp z with z | z
      · exact hne z
      · exact hae (List.mem_singleton.mp z)
    refine wpAny_pyNext_enum_itemD (Draws.tuple (A := X.A.in1) (I.ok.hd hc) it a hai its.toArray) he ⟨hit, (show s.heap.IsTuple a its.toArray from p)⟩ hlt hne hin fun y h1 tk hy ho st1 hT hsz hk => ?_
    have ey : y = u := by
      have e1 : its.toArray[i]? = some y := hy
      have e2 : its.toArray[i]? = some u := by simpa using hu
      exact Option.some.inj (e1.symm.trans e2)
    subst ey
    refine ⟨_, rfl, wpAny_letOwnedTupleGo_enum (s := { s with heap := h1, toks := tk + 1 }) ho fun h2 he2 sb => ?_⟩
    have hT2 := (sb.2 _ (Nat.ne_of_gt le)).trans hT
    have pair : ObjOk X.prog X.w (upd H s.heap.objs.size (.tup [.int (i : Nat), x])) h2 s.heap.objs.size (.tup [.int (i : Nat), x]) := ⟨by show 2 ≤ sizeLine; decide, [.int i tk, y], .cons ⟨_, rfl⟩ (.cons ru .nil), ⟨_, hT2, rfl, _, rfl⟩⟩
    have I1 : Inv X pins σ (upd H s.heap.objs.size (.tup [.int (i : Nat), x])) { s with heap := h2, toks := tk + 1 } := I.turnedNew (ch := [e, it]) (fun b ob hb q => by
      have b1 : b ≠ e := fun z => hb (z ▸ List.mem_cons_self ..)
      have b2 : b ≠ it := fun z => hb (z ▸ List.mem_cons_of_mem _ (List.mem_singleton.mpr rfl))
      exact (sb.2 b b1).trans (hk b ob b1 b2 q)) hf (Nat.le_refl _) pair
    refine ⟨.ref s.heap.objs.size, _, I1, rfl, ⟨_, x, rfl, I.hok.fresh (Nat.le_refl _), rfl, fun ys hys => by rw [I.tuple_inj hys hq]; exact hx⟩, ⟨⟨y, ?_⟩, st1.1.at fun o q => (sb.2 it (Ne.symm hne)).trans q, hne⟩, fun b hb => ?_⟩
    · rw [show ((i + 1 : Nat) : Int) = (i : Int) + 1 from by omega]
      exact he2
    · have lb : b < s.heap.objs.size := by
        rcases List.mem_cons.mp hb with z | z
        · exact z ▸ le
        · exact (List.mem_singleton.mp z) ▸ li
      rw [upd_ne (Nat.ne_of_lt lb)]
      exact (hf b hb).1
  done := by
    intro X hP hw hK hc i pins s σ H E I hf st hg
    subst hP
    subst hw
    subst hK
    obtain ⟨xs, hq, hx⟩ := hg
    obtain ⟨its, rv, p, hz⟩ := I.tuple hq
    obtain ⟨⟨old, he⟩, hit, hne⟩ := st
    have hl := rv.length
    obtain ⟨f0, f1, f2, f3, f4, f5⟩ := hf it (List.mem_cons_of_mem _ (List.mem_singleton.mpr rfl))
    have hsz : its.toArray.size ≤ i := by rw [List.size_toArray]; omega
    exact wpAny_pyNext_enum_endD (draws_end (A := X.A.in1) (I.ok.hd hc) it a its.toArray i hsz) he ⟨rfl, hit, (show s.heap.IsTuple a its.toArray from p)⟩ fun h1 eb => ⟨rfl, I.turned (t' := s.toks) (fun b o hb q => eb b o hb q) f0 f1 f3 f4 f5⟩
  self := fun _ _ _ _ _ st h => let ⟨⟨_, he⟩, _⟩ := st; wpAny_pyIter_enum he h
def iEnumT (K : PySem.W.Frag) (ta : TA) : TI := fun σ H R => ta σ H fun vs H1 => ∃ a xs, vs = [.ref a] ∧ SqT K H1 a xs ∧ R (IteT K a) H1
theorem pi_enumT {X : Cx} {e : Expr} {ta : TA} {p pos tpos : Pos} {elts : List Expr} {kk : Nat} (hg : Gl X "enumerate") (hm : X.mg "enumerate" = none) (ha : PA X [e] ta) (hs : starEach [e] X.env = [(false, eval e X.env)] := by rfl) : PI X (.Tuple elts kk tpos) (.Call (.Name "enumerate" p) [e] [] pos) (iEnumT X.K ta) := by
  refine ⟨fun pins s σ H R I h => ?_⟩
  refine Call_ (ld_blt I hg hm boot_enumerate (PyProof.Rows.callWith_type1 (thn (ha.run pos pins s σ H _ I h) fun us s1 ⟨vs, H1, I1, r1, a, xs, ex, hq, q⟩ => ?_) hs rfl))
  subst ex
  obtain ⟨u, rfl, rfl⟩ : ∃ u, us = [u] ∧ u = Value.ref a := by
    cases r1 with
    | cons r rr =>
      cases rr
      exact ⟨_, rfl, r⟩
  obtain ⟨its, rv, p1, hz⟩ := I1.tuple hq
  have la : a < s1.heap.objs.size := let ⟨_, e0, _⟩ := p1; Heap.lt_size e0
  refine enum1 (begins_tuple a its.toArray) p1 fun h1 he hit hk => wpAny_pyIter_enum he ?_
  have I2 : Inv X pins σ H1 { s1 with heap := h1 } := I1.kept (t' := s1.toks) hk
  refine ⟨s1.heap.objs.size + 1, [s1.heap.objs.size + 1, s1.heap.objs.size], _, _, H1, rfl, I2, turn_enumT a (s1.heap.objs.size + 1) s1.heap.objs.size (Nat.ne_of_lt la) (Nat.ne_of_gt (Nat.lt_succ_of_lt la)), ⟨⟨.none, he⟩, ⟨_, hit, rfl, rfl⟩, Nat.succ_ne_self _⟩, fun b hb => ?_, q⟩
  have lb : s1.heap.objs.size ≤ b := by
    rcases List.mem_cons.mp hb with z | z
    · rw [z]; exact Nat.le_succ _
    · rw [List.mem_singleton.mp z]; exact Nat.le_refl _
  exact I1.fpOk lb (I1.hok.fresh lb)
/-- one reading or the other -/
def iOr (w1 w2 : TI) : TI := fun σ H R => w1 σ H R ∨ w2 σ H R
theorem pi_or {X : Cx} {t e : Expr} {w1 w2 : TI} (h1 : PI X t e w1) (h2 : PI X t e w2) : PI X t e (iOr w1 w2) := ⟨fun pins s σ H R I h => h.elim (h1.run pins s σ H R I) (h2.run pins s σ H R I)⟩
end FvW


set_option maxHeartbeats 2000000
namespace FvX
open PySem PySem.W PySem.Calls PyProof.Rows
/-! ### an own error whose __init__ says super().__init__(text) and self.code = text -/
abbrev errScope : Scope := { kind := .function, names := [("self", .local), ("__class__", .free), ("super", .globalImplicit)], isGenerator := false, isCoroutine := false, more := [] }
abbrev errParams (pp : Pos) : Arguments := { posonlyargs := [], args := [{ arg := "self", annotation := none, pos := pp : Arg }], vararg := none, kwonlyargs := [], kw_defaults := [], kwarg := none, defaults := [] }
/-- the places of such a body's parts -/
structure ErrPos where
  (p0 p1 p2 p3 p4 p5 p6 p7 p8 p9 pp : Pos)
abbrev errBody (q : ErrPos) (msg cod : Str) (j1 j2 : Nat) : List Stmt :=
  [.Expr (.Call (.Attribute (.Call (.Name "super" q.p0) [] [] q.p1) "__init__" q.p2) [.Constant (.str msg) j1 q.p3] [] q.p4) q.p5, .Assign [.Attribute (.Name "self" q.p6) "code" q.p7] (.Constant (.str cod) j2 q.p8) q.p9]
/-- the call stands on one line -/
def LineOk (q : ErrPos) (msg : Str) (j1 : Nat) : Prop := ∀ env : Env, ∃ pl : Sem Bool, eval (.Call (.Attribute (.Call (.Name "super" q.p0) [] [] q.p1) "__init__" q.p2) [.Constant (.str msg) j1 q.p3] [] q.p4) env = (do
  let ov ← attributeBase (.Call (.Name "super" q.p0) [] [] q.p1) "__init__" env (eval (.Call (.Name "super" q.p0) [] [] q.p1) env)
  standAt q.p2.atName
  let (f, first) ← holding [ov] (getMethod ov "__init__" pl)
  callWith q.p4 f first (backTo q.p4 (starEach [.Constant (.str msg) j1 q.p3] env)) [])
abbrev veTail4 : List Value := [.type "ValueError", .type "Exception", .type "BaseException", .type "object"]
/-- what the written part says of the class at C and of its __init__ at f -/
structure ErrC (file0 : Str) (K : Frag) (C f : Addr) (qual : Str) (q : ErrPos) (msg cod : Str) (j1 j2 : Nat) : Prop where
  oex : L2.OexC K C
  fn : ∃ (oc : Value) (od an : Option Addr) (osl : Array (Option Value)) (kV doc pm ct : Value) (cda cc : Addr) (ccl cl : Value) (cdd cld : Option Addr) (vs : Array Value) (ccs csl : Array (Option Value)) (file : Str) (tf : Tok),
    K.lookup f = some ⟨oc, od, .func (ksFn "__init__" qual (errParams q.pp) (errBody q msg cod j1 j2) errScope .none kV doc pm an (.ref cda) ct cc), osl⟩ ∧ codeIn K (.ref cda) qual = true ∧ K.lookup cda = some ⟨ccl, cdd, .fields vs, ccs⟩ ∧ vs[2]? = some (.str file tf) ∧
      (file0 == file) = true ∧ K.lookup cc = some ⟨cl, cld, .cell (some (.ref C)), csl⟩
  sup : ks_superIn K C C "__init__" = some (some (.builtin "ValueError.__init__"))
  self : mroIn K C (.ref C) = some true
  isV : subIn K (.ref C) (.type "ValueError") = some true
  init : excInitIn K C veTail4 "ValueError.__new__" = true
  third : nsIn K cStatics "thirdparty.any" = some none
  code : findIn K (.ref C) "code" = some none
  find : findIn K (.ref C) "__init__" = some (some (.ref f))
  typ : typeIn K (.ref f) = some (.type "function")
section
variable {prog : Program} {w : World} {A : Around} {K : Frag} {h : Heap} {g : Array GenState} {d : Drawn} {t : Nat} {os : OsState} {R : Result → Shared → Prop} {mg mb : Str → Option Value}
  {C f a t0 : Addr} {qual msg cod : Str} {q : ErrPos} {j1 j2 : Nat}
theorem init_run (T : ErrC prog.main.file K C f qual q msg cod j1 j2) (hline : LineOk q msg j1) (htop : (prog.main.scope.names.lookup ("super" : Str)).isSome = false)
    (X : K.In h) (hg : h.Ns mainGlobals mg) (hms : mg "super" = none) (hb : h.Ns builtinsNs mb) (hmb : mb "super" = some (.type "super")) (hlim : h.NoLimit) (hroom : A.depth < recursionLimit) (ha : h.get? a = some (excObj C t0 none .none)) (haK : K.lookup a = none)
    (hq : ∀ h' t1 tk' dx tk, (∀ b o, b ≠ a → h.get? b = some o → h'.get? b = some o) → h.objs.size ≤ dx → dx ≠ a → h'.get? a = some { cls := .ref C, dict := some dx, data := .fields #[.ref t1, .none, .none, .none, .bool false, .none] } →
      h'.Ns1 dx (fun y => if y = ("code" : Str) then some (.str cod tk) else none) → R (.ok (.ret .none)) ⟨h', g, d, tk', os⟩) :
    codeAny (model prog w) A (.call (.ref f) ⟨[.ref a], []⟩) R ⟨h, g, d, t, os⟩ := by
  obtain ⟨oc, od, an, osl, kV, doc, pm, ct, cda, cc, ccl, cl, cdd, cld, vs, ccs, csl, file, tf, hf, hcd, hcode, hvs, hfile, hcell⟩ := T.fn
  refine ks_codeAny_call_defAt (binds := [("self", .ref a)]) hroom (X _ _ hf) rfl hlim (codeRec_of X hcd) rfl (.of_eq rfl) (show ∀ x ∈ errScope.names, x.2 ≠ .cell by decide) (fun y hy => ?_) (fun h1 hns hk1 => ?_)
  · rw [List.mem_singleton.mp hy]; rfl
  have X1 : K.In h1 := fun b o e => hk1 b o (X b o e)
  have ha1 : h1.get? a = some (excObj C t0 none .none) := hk1 _ _ ha
  have haL : a ≠ h.objs.size := Nat.ne_of_lt (Heap.lt_size ha)
  obtain ⟨cd, hc⟩ : ∃ cd, clsIn K C = some cd := by
    have z := T.sup
    unfold ks_superIn at z
    cases hc : clsIn K C with
    | none => rw [hc] at z; cases z
    | some cd => exact ⟨cd, rfl⟩
  obtain ⟨oD, hD0, hD2⟩ : ∃ oD, K.lookup C = some oD ∧ oD.data = .cls cd := by
    unfold clsIn at hc
    split at hc
    · rename_i c d' cd' sl ho
      cases hc
      exact ⟨_, ho, rfl⟩
    · cases hc
  have hD1 := X1 _ _ hD0
  have hsup : alongIn K "__init__" ((cd.mro.dropWhile (· != .ref C)).drop 1) = some (some (.builtin "ValueError.__init__")) := by
    have z := T.sup
    unfold ks_superIn at z
    rw [hc] at z
    exact z
  have hv : (fun x => ([("self", Value.ref a)] : List (Str × Value)).reverse.lookup x) ("self" : Str) = some (.ref a) := rfl
  -- super().__init__(text)
  obtain ⟨pl, hline⟩ := hline (callEnv (ksFn "__init__" qual (errParams q.pp) (errBody q msg cod j1 j2) errScope .none kV doc pm an (.ref cda) ct cc) h.objs.size f)
  refine ks_wpAt_execs_cons (ks_wpAt_Expr_any (ks_wpAt_MethodCall ?_ hline))
  refine ks_wpAt_super_base rfl rfl (by decide) rfl (X1 _ _ hf) rfl rfl rfl (X1 _ _ hcode) rfl hvs hfile htop ?_
  refine ks_loadName_global rfl rfl (loadGlobal_builtin (hg.keeps hk1) hms (hb.keeps hk1) hmb ⟨rfl, ?_⟩)
  refine wpAny_loadName_free rfl rfl rfl ⟨_, X1 _ _ hcell, rfl⟩ ?_
  refine wpAny_loadName_local rfl rfl hns hv ?_
  refine ks_wpAny_isType_cls hD1 hD2 ⟨rfl, ?_⟩
  refine ks_wpAny_call_super hD1 hD2 ha1 rfl (fun c e => by cases e) (looks_mroIn X1 T.self) (fun h2 hso hk2 => ?_)
  have X2 : K.In h2 := fun b o e => hk2 b o (X1 b o e)
  have ha2 := hk2 _ _ ha1
  have haC : a ≠ C := fun e => by rw [e, hD0] at haK; cases haK
  have I2 : InstAt h2 a (excObj C t0 none .none) C none := ⟨ha2, rfl, rfl, trivial⟩
  refine kxs_getMethod kxs_ValueError hso (looks_opaque X2 T.third) (l₀ := cd.mro) (fun A Q E s k z => wpAny_bind ((looks_clsIn X2 hc) A _ E s k (wpAny_pure z))) rfl X2 hsup (I2.type.andThen (looks_subIn X2 T.isV)) haC (by decide) ?_
  have nsK : ∀ {h h' : Heap} {L : Addr} {m : Str → Option Value}, h.Ns L m → (∀ b o, h.get? b = some o → h'.get? b = some o) → h'.Ns L m := fun {h h' L m} ⟨o, es, ep, e, r⟩ k => ⟨o, es, ep, k _ _ e, r⟩
  have hns2 := nsK hns hk2
  have hk3 : ∀ b o, h2.get? b = some o → (h2.push (kxs_mw "ValueError.__init__" a)).get? b = some o := fun b o e => Heap.get?_push_of_some _ e
  have hLt : h.objs.size < h2.objs.size := by
    obtain ⟨o, _, _, e, _⟩ := hns2
    exact Heap.lt_size e
  have FR : Fr (hideAll h [a]) h.objs.size (h2.push (kxs_mw "ValueError.__init__" a)) (fun x => ([("self", Value.ref a)] : List (Str × Value)).reverse.lookup x) :=
    ⟨nsK hns2 hk3, fun b o e => hk3 _ _ (hk2 _ _ (hk1 _ _ (of_hideAll _ e))), Nat.le_of_eq (hideAll_size _ _)⟩
  have NW : News (hideAll h [a]) h.objs.size (h2.push (kxs_mw "ValueError.__init__" a)) [(h2.objs.size, kxs_mw "ValueError.__init__" a), (a, excObj C t0 none .none)] := fun p hp => by
    rcases List.mem_cons.mp hp with e | hp
    · subst e
      refine ⟨Heap.get?_push_size _ rfl, Nat.ne_of_gt hLt, ?_⟩
      cases z : (hideAll h [a]).get? h2.objs.size with
      | none => rfl
      | some o => exact absurd (Heap.lt_size (of_hideAll _ z)) (Nat.lt_asymm hLt)
    · rw [List.mem_singleton.mp hp]
      exact ⟨hk3 _ _ ha2, haL, hideAll_none _ (List.mem_singleton.mpr rfl)⟩
  have X0 : K.In (hideAll h [a]) := fun b o e => hideAll_get _ (X b o e) (fun z => by
    rw [List.mem_singleton.mp z, haK] at e
    cases e)
  refine kxs_callWith1 NW (List.mem_cons_self ..) ?_
  refine Calls.spliced_cons (wpAny_Constant_str (k := j1) (pos := q.p3) (Calls.spliced_nil ⟨kxs_at NW (List.mem_cons_self ..), ?_⟩))
  refine kxs_call FR X0 NW PySem.F.excBase_ValueError T.init (List.mem_cons_self ..) (.tail (Nat.ne_of_gt (Heap.lt_size ha2)) (.head fun p hp => nomatch hp)) (by show 1 ≤ sizeLine; decide) (fun t' h4 F4 N4 _ => ?_)
  have ha4 : h4.get? a = some (excObj C t' none .none) := (N4 (a, excObj C t' none .none) (List.mem_cons_of_mem _ (List.mem_cons_of_mem _ (List.mem_cons_self ..)))).1
  have X4 : K.In h4 := fun b o e => F4.keep b o (X0 b o e)
  obtain ⟨nm, qn, N, bs, bm, sn, sub, ab, col, dd, k0, k1, k2, k3, k5, hC, hbm⟩ := T.oex.cls
  have hcl : clsIn K C = some { name := nm, bases := bs, mro := .ref C :: bm, ns := N, qualname := qn, hasDict := true, slotNames := sn, subclasses := sub, abstract := ab, collection := col, hasDel := false } := by
    unfold clsIn
    rw [hC] <;> rfl
  -- self.code = text
  refine wpAt_of_wpAny (wpAny_execs_cons (plainObj_wpAny_Assign_Attribute (wpAny_Constant_str (k := j2) (pos := q.p8) (wpAny_Name (wpAny_loadName_local rfl rfl F4.ns hv ?_) (by decide))) rfl))
  refine set_plain X4 (ox := excObj C t' none .none) (od := none) ⟨ha4, rfl, rfl, trivial⟩ T.oex.sa ?_
  refine PySem.HandSPX.exc_osa X4 ha4 hcl (show PySem.HandSPX.refsVE (.ref C :: bm) = true from hbm) rfl T.code (fun h5 tk' dx hk5 dn dne hx hn => ?_)
  have hL4 : h.objs.size ≤ h4.objs.size := by
    obtain ⟨o, _, _, e, _⟩ := F4.ns
    exact Nat.le_of_lt (Heap.lt_size e)
  refine wpAny_execs_nil (hq h5 t' tk' dx _ (fun b o hb e => hk5 b o hb (F4.keep b o (hideAll_get _ e fun z => hb (List.mem_singleton.mp z)))) (Nat.le_trans hL4 dn) dne hx hn)
end
end FvX


set_option maxHeartbeats 2000000
namespace FvX
open PySem PySem.Spec PyProof.Rows L2
section
variable {X : Cx} {C f : Addr} {qual msg cod x : Str} {q : ErrPos} {j1 j2 k : Nat} {p pos : Pos}
/-- x(): the new error, its dict at d -/
def tErr0 (C : Addr) (cod : Str) : L2.St → Hp → XK → Prop := fun _ H Q => ∀ d, H d = none → Q (.ref C) (some d) (upd H d (.xd [("code", .str cod)]))
theorem pmk_err0 (T : ErrC X.prog.main.file X.K C f qual q msg cod j1 j2) (hline : LineOk q msg j1) (htop : (X.prog.main.scope.names.lookup ("super" : Str)).isSome = false) (hms : X.mg "super" = none) (hr : Room (k + 1) X.A) (hg : Gl X x) (hm : X.mg x = some (.ref C))
    (hdb : (x == ("__debug__" : Str)) = false := by decide) : PMk X (.Call (.Name x p) [] [] pos) (tErr0 C cod) := by
  intro pins s σ H Q I h
  obtain ⟨nm, qn, N, bs, bm, sn, sub, ab, col, dd, k0, k1, k2, k3, k5, hC, hbm⟩ := T.oex.cls
  refine wpAny_Call_Name_kw (ld_glob I hg hm ?_ hdb)
  refine PySem.W.callWith_K0 I.kIn T.oex.kC ?_
  show wpAny _ _ (call (.ref C) []) _ _ _
  obtain ⟨hp, g, dr, tk, os⟩ := s
  have nK : X.K.lookup (hp.objs.size + 1) = none := by
    cases e : X.K.lookup (hp.objs.size + 1) with
    | none => rfl
    | some o => exact absurd (Nat.lt_of_succ_lt (Heap.lt_size (I.kIn _ _ e))) (Nat.lt_irrefl _)
  have fresh : H (hp.objs.size + 1) = none := I.hok.fresh (Nat.le_succ _)
  have kk : ∀ b o, hp.get? b = some o → ((hp.push (PySem.W.kdv_tup [])).push (PySem.HandSPX.excO C hp.objs.size)).get? b = some o := fun b o e => Heap.get?_push_of_some _ (Heap.get?_push_of_some _ e)
  have at1 : ((hp.push (PySem.W.kdv_tup [])).push (PySem.HandSPX.excO C hp.objs.size)).get? (hp.objs.size + 1) = some (PySem.HandSPX.excO C hp.objs.size) := by heap_get
  have I2 := I.laid (t' := tk) (a := hp.objs.size + 1) (o := exo (hp.objs.size + 1) C none) (h' := (hp.push (PySem.W.kdv_tup [])).push (PySem.HandSPX.excO C hp.objs.size)) kk (Nat.le_succ _) (exo_ok at1)
  obtain ⟨mb, hb, hbb⟩ := I.mod.blt
  refine wpAny_call (PySem.HandSPX.call_own PySem.F.excBase_ValueError (fun Y => PySem.HandSPX.refsVE_contains Y bm hbm) (I.kIn _ _ hC) (PySem.W.looks_findIn I.kIn T.find) (fun self => PySem.W.bind_fn I.kIn self T.typ) (Nat.zero_le _) ?_)
  refine init_run (mg := X.mg) (mb := mb) (t0 := hp.objs.size) T hline htop (fun b o e => kk b o (I.kIn b o e)) ((I.mod.glob.keeps I.bk).keeps kk) hms ((hb.keeps I.bk).keeps kk) ((hbb _ (by decide)).trans (by decide +kernel)) ?lim (hr.make C [] []).depth at1 nK (fun h' t1 tk' dx tk0 hk dn dne hx hn => ?_)
  case lim => exact (I.mod.nolimit.keeps I.bk).keeps kk
  have nd : H dx = none := I.hok.fresh (Nat.le_trans (by simp; omega) dn)
  have na : ∀ {b : Addr} {u : Option HO}, upd H (hp.objs.size + 1) (exo (hp.objs.size + 1) C none) b = none → b ≠ hp.objs.size + 1 := fun {b u} e z => by
    rw [z, upd_same] at e
    cases e
  have lt2 : ∀ {b : Addr} {o : Obj}, ((hp.push (PySem.W.kdv_tup [])).push (PySem.HandSPX.excO C hp.objs.size)).get? b = some o → b ≠ dx := fun {b o} e => Nat.ne_of_lt (Nat.lt_of_lt_of_le (Heap.lt_size e) dn)
  have same : ∀ {b : Addr} {o : HO}, upd H (hp.objs.size + 1) (exo (hp.objs.size + 1) C none) b = some o → o ≠ exo (hp.objs.size + 1) C none → upd (upd H dx (exd dx [("code", .str cod)])) (hp.objs.size + 1) (exo (hp.objs.size + 1) C (some dx)) b = some o := fun {b o} e ne => by
    have b1 : b ≠ hp.objs.size + 1 := fun z => by
      rw [z, upd_same] at e
      exact ne (Option.some.inj e).symm
    rw [upd_ne b1] at e
    rw [upd_ne b1, upd_ne (ne_of_none e nd)]
    exact e
  have un : Un (frs X.stack) [] (upd H (hp.objs.size + 1) (exo (hp.objs.size + 1) C none)) (upd (upd H dx (exd dx [("code", .str cod)])) (hp.objs.size + 1) (exo (hp.objs.size + 1) C (some dx))) ((hp.push (PySem.W.kdv_tup [])).push (PySem.HandSPX.excO C hp.objs.size)) h' := by
    refine ⟨fun b o e n _ _ => hk b o (na (u := none) n) e, fun b o e n _ _ => ⟨o.slots, hk b o (na (u := none) n) e⟩, fun b o e n _ => ?_, fun b o e _ => ?_, fun b xs e => same e fun z => exo_tup z.symm, fun b o u e => same e fun z => exo_frz z.symm, fun b ps e => ⟨#[], ?_⟩⟩
    · have b1 := na (u := none) n
      rw [upd_ne b1, upd_ne (lt2 e)]
      rw [upd_ne b1] at n
      exact n
    · by_cases b1 : b = hp.objs.size + 1
      · exact ⟨_, by rw [b1]; exact hx⟩
      · exact ⟨o, hk b o b1 e⟩
    · rw [Array.append_empty]
      exact same e fun z => exo_tbl z.symm
  have hok : HOk X.prog X.w (upd (upd H dx (exd dx [("code", .str cod)])) (hp.objs.size + 1) (exo (hp.objs.size + 1) C (some dx))) h' := fun b o e => by
    by_cases b1 : b = hp.objs.size + 1
    · rw [b1, upd_same] at e
      cases e
      rw [b1]
      exact exo_ok hx
    · rw [upd_ne b1] at e
      by_cases b2 : b = dx
      · rw [b2, upd_same] at e
        cases e
        rw [b2]
        exact exd_ok hn (relO_put (fs := []) ⟨_, rfl⟩ fun g => True.intro)
      · rw [upd_ne b2] at e
        have e2 : upd H (hp.objs.size + 1) (exo (hp.objs.size + 1) C none) b = some o := by rw [upd_ne b1]; exact e
        refine (I2.hok b o e2).stay (fun c v hc z => hk c v (fun c1 => ?_) z) (fun c hc => same hc fun z => exo_own z.symm) (fun c xs hc => same hc fun z => exo_tup z.symm)
        rcases hc with hc | hc
        · exact b1 (hc.symm.trans c1)
        · rw [c1, upd_same] at hc
          exact exo_own (Option.some.inj hc)
  refine ⟨rfl, mk_end (a := hp.objs.size + 1) (C := C) (d := dx) (fs := [("code", .str cod)]) (raises_own T.oex.exC T.oex.tyC) I (Nat.le_succ _) kk un hok rfl I.bare upd_same ?_ nd ?_⟩
  · rw [upd_ne dne, upd_same]
  · have e : upd (del (upd (upd H dx (exd dx [("code", .str cod)])) (hp.objs.size + 1) (exo (hp.objs.size + 1) C (some dx))) (hp.objs.size + 1)) dx (.xd [("code", .str cod)]) = upd H dx (.xd [("code", .str cod)]) := by
      funext b
      by_cases b2 : b = dx
      · rw [b2, upd_same, upd_same]
      · rw [upd_ne b2, upd_ne b2]
        by_cases b1 : b = hp.objs.size + 1
        · rw [b1, del_same, fresh]
        · rw [del_ne b1, upd_ne b1, upd_ne b2]
    rw [e]
    exact h dx nd
end
end FvX


set_option maxHeartbeats 4000000
namespace FvX
open PySem PySem.W PySem.Calls PyProof.Rows
/-! ### an own error with one field: super().__init__(f".."), self.code = text, self.f = f -/
def flds : List Str := ["index", "letter", "name", "count", "place", "limit", "line", "word"]
abbrev errScope1 (fl : Str) : Scope := { kind := .function, names := [("self", .local), (fl, .local), ("__class__", .free), ("super", .globalImplicit)], isGenerator := false, isCoroutine := false, more := [] }
abbrev errParams1 (fl : Str) (pp pp2 : Pos) : Arguments := { posonlyargs := [], args := [{ arg := "self", annotation := none, pos := pp : Arg }, { arg := fl, annotation := none, pos := pp2 : Arg }], vararg := none, kwonlyargs := [], kw_defaults := [], kwarg := none, defaults := [] }
structure ErrPos1 where
  (p0 p1 p2 p4 p5 p6 p7 p8 p9 p10 p11 p12 p13 pp pp2 : Pos)
abbrev errBody1 (q : ErrPos1) (me : Expr) (cod fl : Str) (j2 : Nat) : List Stmt :=
  [.Expr (.Call (.Attribute (.Call (.Name "super" q.p0) [] [] q.p1) "__init__" q.p2) [me] [] q.p4) q.p5, .Assign [.Attribute (.Name "self" q.p6) "code" q.p7] (.Constant (.str cod) j2 q.p8) q.p9, .Assign [.Attribute (.Name "self" q.p10) fl q.p11] (.Name fl q.p12) q.p13]
def LineOk1 (q : ErrPos1) (me : Expr) : Prop := ∀ env : Env, ∃ pl : Sem Bool, eval (.Call (.Attribute (.Call (.Name "super" q.p0) [] [] q.p1) "__init__" q.p2) [me] [] q.p4) env = (do
  let ov ← attributeBase (.Call (.Name "super" q.p0) [] [] q.p1) "__init__" env (eval (.Call (.Name "super" q.p0) [] [] q.p1) env)
  standAt q.p2.atName
  let (f, first) ← holding [ov] (getMethod ov "__init__" pl)
  callWith q.p4 f first (backTo q.p4 (starEach [me] env)) [])
/-- the message is some text; nothing else is changed -/
def MsgOk (me : Expr) (fl : Str) (u : Value) : Prop := ∀ {prog : Program} {w : World} {A : Around} {env : Env} {E : Value → Shared → Prop} {Q : Value → Shared → Prop} {h : Heap} {g : Array GenState} {d : Drawn} {t : Nat} {os : OsState},
  (∀ (p : Pos) (tk : Nat) (Q' : Value → Shared → Prop), Q' u ⟨h, g, d, tk, os⟩ → wpAny (model prog w) A (eval (.Name fl p) env) Q' E ⟨h, g, d, tk, os⟩) → (∀ y t' tk, Q (.str y t') ⟨h, g, d, tk, os⟩) → wpAny (model prog w) A (eval me env) Q E ⟨h, g, d, t, os⟩
/-- the shape of the message: one call's arguments are evaluated from the left -/
def ArgsOk (me : Expr) : Prop := ∀ env : Env, starEach [me] env = (false, eval me env) :: starEach [] env
theorem nocell (fl : Str) : ∀ x ∈ (errScope1 fl).names, x.2 ≠ .cell := by
  intro x hx
  simp only [List.mem_cons, List.not_mem_nil, or_false] at hx
  rcases hx with rfl | rfl | rfl | rfl <;> (intro z; cases z)
structure ErrC1 (file0 : Str) (K : Frag) (C f : Addr) (qual : Str) (q : ErrPos1) (me : Expr) (cod fl : Str) (j2 : Nat) : Prop where
  oex : L2.OexC K C
  fn : ∃ (oc : Value) (od an : Option Addr) (osl : Array (Option Value)) (kV doc pm ct : Value) (cda cc : Addr) (ccl cl : Value) (cdd cld : Option Addr) (vs : Array Value) (ccs csl : Array (Option Value)) (file : Str) (tf : Tok),
    K.lookup f = some ⟨oc, od, .func (ksFn "__init__" qual (errParams1 fl q.pp q.pp2) (errBody1 q me cod fl j2) (errScope1 fl) .none kV doc pm an (.ref cda) ct cc), osl⟩ ∧ codeIn K (.ref cda) qual = true ∧ K.lookup cda = some ⟨ccl, cdd, .fields vs, ccs⟩ ∧ vs[2]? = some (.str file tf) ∧
      (file0 == file) = true ∧ K.lookup cc = some ⟨cl, cld, .cell (some (.ref C)), csl⟩
  sup : ks_superIn K C C "__init__" = some (some (.builtin "ValueError.__init__"))
  self : mroIn K C (.ref C) = some true
  isV : subIn K (.ref C) (.type "ValueError") = some true
  init : excInitIn K C veTail4 "ValueError.__new__" = true
  third : nsIn K cStatics "thirdparty.any" = some none
  code : findIn K (.ref C) "code" = some none
  fld : findIn K (.ref C) fl = some none
  find : findIn K (.ref C) "__init__" = some (some (.ref f))
  typ : typeIn K (.ref f) = some (.type "function")
section
variable {prog : Program} {w : World} {A : Around} {K : Frag} {h : Heap} {g : Array GenState} {d : Drawn} {t : Nat} {os : OsState} {R : Result → Shared → Prop} {mg mb : Str → Option Value}
  {C f a t0 : Addr} {qual cod fl : Str} {q : ErrPos1} {me : Expr} {j2 : Nat} {u : Value}
theorem init_run1 (hfl : fl ∈ flds) (T : ErrC1 prog.main.file K C f qual q me cod fl j2) (hline : LineOk1 q me) (hargs : ArgsOk me) (hmsg : MsgOk me fl u) (htop : (prog.main.scope.names.lookup ("super" : Str)).isSome = false)
    (X : K.In h) (hg : h.Ns mainGlobals mg) (hms : mg "super" = none) (hb : h.Ns builtinsNs mb) (hmb : mb "super" = some (.type "super")) (hlim : h.NoLimit) (hroom : A.depth < recursionLimit) (ha : h.get? a = some (excObj C t0 none .none)) (haK : K.lookup a = none)
    (hq : ∀ h' t1 tk' dx tk, (∀ b o, b ≠ a → h.get? b = some o → h'.get? b = some o) → h.objs.size ≤ dx → dx ≠ a → h'.get? a = some { cls := .ref C, dict := some dx, data := .fields #[.ref t1, .none, .none, .none, .bool false, .none] } →
      h'.Ns1 dx (fun y => if y = fl then some u else if y = ("code" : Str) then some (.str cod tk) else none) → R (.ok (.ret .none)) ⟨h', g, d, tk', os⟩) :
    codeAny (model prog w) A (.call (.ref f) ⟨[.ref a, u], []⟩) R ⟨h, g, d, t, os⟩ := by
  simp only [flds, List.mem_cons, List.not_mem_nil, or_false] at hfl
  obtain ⟨oc, od, an, osl, kV, doc, pm, ct, cda, cc, ccl, cl, cdd, cld, vs, ccs, csl, file, tf, hf, hcd, hcode, hvs, hfile, hcell⟩ := T.fn
  rcases hfl with rfl | rfl | rfl | rfl | rfl | rfl | rfl | rfl
  all_goals
    refine ks_codeAny_call_defAt (binds := [("self", .ref a), (_, u)]) hroom (X _ _ hf) rfl hlim (codeRec_of X hcd) rfl (.of_eq rfl) (nocell _) (fun y hy => ?_) (fun h1 hns hk1 => ?_)
    · rcases List.mem_cons.mp hy with e | e
      · rw [e]; rfl
      · rw [List.mem_singleton.mp e]; rfl
    have X1 : K.In h1 := fun b o e => hk1 b o (X b o e)
    have ha1 : h1.get? a = some (excObj C t0 none .none) := hk1 _ _ ha
    have haL : a ≠ h.objs.size := Nat.ne_of_lt (Heap.lt_size ha)
    obtain ⟨cd, hc⟩ : ∃ cd, clsIn K C = some cd := by
      have z := T.sup
      unfold ks_superIn at z
      cases hc : clsIn K C with
      | none => rw [hc] at z; cases z
      | some cd => exact ⟨cd, rfl⟩
    obtain ⟨oD, hD0, hD2⟩ : ∃ oD, K.lookup C = some oD ∧ oD.data = .cls cd := by
      unfold clsIn at hc
      split at hc
      · rename_i c d' cd' sl ho
        cases hc
        exact ⟨_, ho, rfl⟩
      · cases hc
    have hD1 := X1 _ _ hD0
    have hsup : alongIn K "__init__" ((cd.mro.dropWhile (· != .ref C)).drop 1) = some (some (.builtin "ValueError.__init__")) := by
      have z := T.sup
      unfold ks_superIn at z
      rw [hc] at z
      exact z
    obtain ⟨pl, hline⟩ := hline (callEnv (ksFn "__init__" qual (errParams1 _ q.pp q.pp2) (errBody1 q me cod _ j2) (errScope1 _) .none kV doc pm an (.ref cda) ct cc) h.objs.size f)
    refine ks_wpAt_execs_cons (ks_wpAt_Expr_any (ks_wpAt_MethodCall ?_ hline))
    refine ks_wpAt_super_base rfl rfl (by decide) rfl (X1 _ _ hf) rfl rfl rfl (X1 _ _ hcode) rfl hvs hfile htop ?_
    refine ks_loadName_global rfl rfl (loadGlobal_builtin (hg.keeps hk1) hms (hb.keeps hk1) hmb ⟨rfl, ?_⟩)
    refine wpAny_loadName_free rfl rfl rfl ⟨_, X1 _ _ hcell, rfl⟩ ?_
    refine wpAny_loadName_local rfl rfl hns (show _ = some (Value.ref a) from rfl) ?_
    refine ks_wpAny_isType_cls hD1 hD2 ⟨rfl, ?_⟩
    refine ks_wpAny_call_super hD1 hD2 ha1 rfl (fun c e => by cases e) (looks_mroIn X1 T.self) (fun h2 hso hk2 => ?_)
    have X2 : K.In h2 := fun b o e => hk2 b o (X1 b o e)
    have ha2 := hk2 _ _ ha1
    have haC : a ≠ C := fun e => by rw [e, hD0] at haK; cases haK
    have I2 : InstAt h2 a (excObj C t0 none .none) C none := ⟨ha2, rfl, rfl, trivial⟩
    refine kxs_getMethod kxs_ValueError hso (looks_opaque X2 T.third) (l₀ := cd.mro) (fun A Q E s k z => wpAny_bind ((looks_clsIn X2 hc) A _ E s k (wpAny_pure z))) rfl X2 hsup (I2.type.andThen (looks_subIn X2 T.isV)) haC (by decide) ?_
    have nsK : ∀ {h h' : Heap} {L : Addr} {m : Str → Option Value}, h.Ns L m → (∀ b o, h.get? b = some o → h'.get? b = some o) → h'.Ns L m := fun {h h' L m} ⟨o, es, ep, e, r⟩ k => ⟨o, es, ep, k _ _ e, r⟩
    have hns2 := nsK hns hk2
    have hk3 : ∀ b o, h2.get? b = some o → (h2.push (kxs_mw "ValueError.__init__" a)).get? b = some o := fun b o e => Heap.get?_push_of_some _ e
    have hLt : h.objs.size < h2.objs.size := by
      obtain ⟨o, _, _, e, _⟩ := hns2
      exact Heap.lt_size e
    have FR := (⟨nsK hns2 hk3, fun b o e => hk3 _ _ (hk2 _ _ (hk1 _ _ (of_hideAll _ e))), Nat.le_of_eq (hideAll_size _ _)⟩ : Fr (hideAll h [a]) h.objs.size (h2.push (kxs_mw "ValueError.__init__" a)) _)
    have NW : News (hideAll h [a]) h.objs.size (h2.push (kxs_mw "ValueError.__init__" a)) [(h2.objs.size, kxs_mw "ValueError.__init__" a), (a, excObj C t0 none .none)] := fun p hp => by
      rcases List.mem_cons.mp hp with e | hp
      · subst e
        refine ⟨Heap.get?_push_size _ rfl, Nat.ne_of_gt hLt, ?_⟩
        cases z : (hideAll h [a]).get? h2.objs.size with
        | none => rfl
        | some o => exact absurd (Heap.lt_size (of_hideAll _ z)) (Nat.lt_asymm hLt)
      · rw [List.mem_singleton.mp hp]
        exact ⟨hk3 _ _ ha2, haL, hideAll_none _ (List.mem_singleton.mpr rfl)⟩
    have X0 : K.In (hideAll h [a]) := fun b o e => hideAll_get _ (X b o e) (fun z => by
      rw [List.mem_singleton.mp z, haK] at e
      cases e)
    refine kxs_callWith1 NW (List.mem_cons_self ..) ?_ (he := hargs _)
    rw [hargs]
    refine Calls.spliced_cons (hmsg ?_ ?_)
    · intro p tk Q' z
      exact wpAny_Name (wpAny_loadName_local rfl rfl FR.ns (show _ = some u from rfl) z) (by decide)
    intro y t' tk
    refine Calls.spliced_nil ⟨kxs_at NW (List.mem_cons_self ..), ?_⟩
    refine kxs_call FR X0 NW PySem.F.excBase_ValueError T.init (List.mem_cons_self ..) (.tail (Nat.ne_of_gt (Heap.lt_size ha2)) (.head fun p hp => nomatch hp)) (by show 1 ≤ sizeLine; decide) (fun t' h4 F4 N4 _ => ?_)
    have ha4 : h4.get? a = some (excObj C t' none .none) := (N4 (a, excObj C t' none .none) (List.mem_cons_of_mem _ (List.mem_cons_of_mem _ (List.mem_cons_self ..)))).1
    have X4 : K.In h4 := fun b o e => F4.keep b o (X0 b o e)
    obtain ⟨nm, qn, N, bs, bm, sn, sub, ab, col, dd, k0, k1, k2, k3, k5, hC, hbm⟩ := T.oex.cls
    have hcl : clsIn K C = some { name := nm, bases := bs, mro := .ref C :: bm, ns := N, qualname := qn, hasDict := true, slotNames := sn, subclasses := sub, abstract := ab, collection := col, hasDel := false } := by
      unfold clsIn
      rw [hC] <;> rfl
    -- self.code = text
    refine wpAt_of_wpAny (wpAny_execs_cons (plainObj_wpAny_Assign_Attribute (wpAny_Constant_str (k := j2) (pos := q.p8) (wpAny_Name (wpAny_loadName_local rfl rfl F4.ns (show _ = some (Value.ref a) from rfl) ?_) (by decide))) rfl))
    refine set_plain X4 (ox := excObj C t' none .none) (od := none) ⟨ha4, rfl, rfl, trivial⟩ T.oex.sa ?_
    refine PySem.HandSPX.exc_osa X4 ha4 hcl (show PySem.HandSPX.refsVE (.ref C :: bm) = true from hbm) rfl T.code (fun h5 tk' dx hk5 dn dne hx hn => ?_)
    have hL4 : h.objs.size ≤ h4.objs.size := by
      obtain ⟨o, _, _, e, _⟩ := F4.ns
      exact Nat.le_of_lt (Heap.lt_size e)
    -- self.f = f
    have nsB : ∀ {h h' : Heap} {L : Addr} {m : Str → Option Value}, h.Ns L m → (∀ b o, b ≠ a → h.get? b = some o → h'.get? b = some o) → L ≠ a → h'.Ns L m := fun {h h' L m} ⟨o, es, ep, e, r⟩ k n => ⟨o, es, ep, k _ _ n e, r⟩
    have ns5 := nsB F4.ns hk5 haL.symm
    have X5 : K.In h5 := fun b o e => hk5 b o (fun z => by rw [z, haK] at e; cases e) (X4 b o e)
    have hw : ∀ {v : Value}, Within (fun y => if y = ("code" : Str) then some v else none) [("code" : Str)] := fun {v} y hy => by
      by_cases e : y = "code"
      · rw [e]; exact List.mem_singleton.mpr rfl
      · exact absurd (if_neg e) hy
    obtain ⟨oX, _, _, hoX, _, _⟩ := hn.count hw
    refine wpAny_execs_cons (plainObj_wpAny_Assign_Attribute (wpAny_Name (wpAny_loadName_local rfl rfl ns5 (show _ = some u from rfl) (wpAny_Name (wpAny_loadName_local rfl rfl ns5 (show _ = some (Value.ref a) from rfl) ?_) (by decide))) (by decide)) rfl)
    refine set_plain X5 (ox := { cls := .ref C, dict := some dx, data := .fields #[.ref t', .none, .none, .none, .bool false, .none] }) (od := some oX) ⟨hx, rfl, rfl, hoX⟩ T.oex.sa ?_
    refine PySem.OEX.osa_old X5 hx hn hw (by decide) hcl (show PySem.HandSPX.refsVE (.ref C :: bm) = true from hbm) rfl T.fld (fun h6 tk6 hk6 hn6 => ?_)
    refine wpAny_execs_nil (hq h6 t' tk6 dx _ (fun b o hb e => ?_) (Nat.le_trans hL4 dn) dne ?_ hn6)
    · exact hk6 b o (fun z => by
        have := Heap.lt_size e
        have hh := Nat.le_trans hL4 dn
        rw [z] at this
        exact absurd (Nat.lt_of_lt_of_le this hh) (Nat.lt_irrefl _)) (hk5 b o hb (F4.keep b o (hideAll_get _ e fun z => hb (List.mem_singleton.mp z))))
    · exact hk6 a _ dne.symm hx
end
end FvX


set_option maxHeartbeats 2000000
namespace FvX
open PySem PySem.Spec PyProof.Rows L2
/-! ### the messages -/
def MsgV (u : Value) : Prop := (∃ y t, u = .str y t ∧ (reprText y).length ≤ 100000) ∨ ∃ i t, u = .int i t ∧ i.natAbs.log2 < 1920
def MsgW (v : V) : Prop := (∃ y, v = .str y ∧ (reprText y).length ≤ 100000) ∨ ∃ i, v = .int i ∧ i.natAbs.log2 < 1920
theorem MsgW.val {v : V} {u : Value} (h : MsgW v) (r : RelV v u) : MsgV u := by
  rcases h with ⟨y, rfl, hy⟩ | ⟨i, rfl, hi⟩
  · obtain ⟨t, rfl⟩ := r
    exact .inl ⟨y, t, rfl, hy⟩
  · obtain ⟨t, rfl⟩ := r
    exact .inr ⟨i, t, rfl, hi⟩
theorem emp_len (x : Str) : (Str.empty ++ x).length = x.length := by
  rw [TL.len_tl, TL.tl_append, List.length_append, ← TL.len_tl x]
  show 0 + _ = _
  omega
theorem app_len (x y : Str) : (x ++ y).length = x.length + y.length := by
  rw [TL.len_tl, TL.tl_append, List.length_append, ← TL.len_tl, ← TL.len_tl]
theorem fmt_msg {prog : Program} {w : World} {A : Around} {env : Env} {E : Value → Shared → Prop} {Q : Value → Shared → Prop} {fl : Str} {u : Value} {h : Heap} {g : Array GenState} {d : Drawn} {t : Nat} {os : OsState} {p p2 : Pos} (hu : MsgV u)
    (hn : ∀ (p : Pos) (tk : Nat) (Q' : Value → Shared → Prop), Q' u ⟨h, g, d, tk, os⟩ → wpAny (model prog w) A (eval (.Name fl p) env) Q' E ⟨h, g, d, tk, os⟩)
    (hq : ∀ y t' tk, y.length ≤ 100000 → Q (.str y t') ⟨h, g, d, tk, os⟩) : wpAny (model prog w) A (eval (.FormattedValue (.Name fl p) 114 none p2) env) Q E ⟨h, g, d, t, os⟩ := by
  refine wpAny_FormattedValue_repr (hn p t _ ?_)
  have big : ∀ n : Nat, n ≤ 100000 → n ≤ sizeLine := fun n h => Nat.le_trans h (by decide)
  rcases hu with ⟨y, t', rfl, hy⟩ | ⟨i, t', rfl, hi⟩
  · exact pyReprObj_str (wpAny_formatField_str (hq _ _ _ hy) (hq _ _ _ hy) (big _ hy)) (big _ hy)
  · have e := int_text_length_le (k := 1920) (by decide) hi
    have hy : (Str.ofString (toString i)).length ≤ 100000 := by rw [PySem.ofString_length]; omega
    exact pyReprObj_int hi (wpAny_formatField_str (hq _ _ _ hy) (hq _ _ _ hy) (big _ hy))
theorem msg2 {pre fl : Str} {u : Value} {k : Nat} {p1 p2 p3 p4 : Pos} (hp : pre.length ≤ 1000) (hu : MsgV u) : MsgOk (.JoinedStr [.Constant (.str pre) k p1, .FormattedValue (.Name fl p2) 114 none p3] p4) fl u := by
  intro prog w A env E Q h g d t os hn hq
  have big : ∀ n : Nat, n ≤ 102000 → n ≤ sizeLine := fun n h => Nat.le_trans h (by decide)
  refine wpAny_JoinedStr ?_
  show wpAny _ _ (eval (.Constant (.str pre) k p1) env) (fun v s₁ => ∃ y t, v = .str y t ∧ (Str.empty ++ y).length ≤ sizeLine ∧ wpAny _ _ (eval (.FormattedValue (.Name fl p2) 114 none p3) env) (fun v s₁ => ∃ y' t, v = .str y' t ∧ ((Str.empty ++ y) ++ y').length ≤ sizeLine ∧ _) _ s₁) _ _
  refine wpAny_Constant_str ⟨_, _, rfl, by rw [emp_len]; exact big _ (by omega), fmt_msg hu hn fun y t' tk hy => ⟨_, _, rfl, ?_, ?_, hq _ _ _⟩⟩
  · rw [app_len, emp_len]; exact big _ (by omega)
  · rw [app_len, emp_len]; exact big _ (by omega)
theorem msg3 {pre post fl : Str} {u : Value} {k k2 : Nat} {p1 p2 p3 p4 p5 : Pos} (hp : pre.length ≤ 1000) (hp2 : post.length ≤ 1000) (hu : MsgV u) : MsgOk (.JoinedStr [.Constant (.str pre) k p1, .FormattedValue (.Name fl p2) 114 none p3, .Constant (.str post) k2 p5] p4) fl u := by
  intro prog w A env E Q h g d t os hn hq
  have big : ∀ n : Nat, n ≤ 103000 → n ≤ sizeLine := fun n h => Nat.le_trans h (by decide)
  refine wpAny_JoinedStr ?_
  show wpAny _ _ (eval (.Constant (.str pre) k p1) env) (fun v s₁ => ∃ y t, v = .str y t ∧ (Str.empty ++ y).length ≤ sizeLine ∧ wpAny _ _ (eval (.FormattedValue (.Name fl p2) 114 none p3) env) (fun v s₁ => ∃ y' t, v = .str y' t ∧ ((Str.empty ++ y) ++ y').length ≤ sizeLine ∧ wpAny _ _ (eval (.Constant (.str post) k2 p5) env) (fun v s₁ => ∃ y'' t, v = .str y'' t ∧ (((Str.empty ++ y) ++ y') ++ y'').length ≤ sizeLine ∧ _) _ s₁) _ s₁) _ _
  refine wpAny_Constant_str ⟨_, _, rfl, by rw [emp_len]; exact big _ (by omega), fmt_msg hu hn fun y t' tk hy => ⟨_, _, rfl, ?_, wpAny_Constant_str ⟨_, _, rfl, ?_, ?_, hq _ _ _⟩⟩⟩
  · rw [app_len, emp_len]; exact big _ (by omega)
  · rw [app_len, app_len, emp_len]; exact big _ (by omega)
  · rw [app_len, app_len, emp_len]; exact big _ (by omega)
section
variable {X : Cx} {C f : Addr} {qual cod fl x : Str} {q : ErrPos1} {me : Expr} {j2 k : Nat} {p pos : Pos} {e : Expr} {ta : TA}
/-- x(e): the new error, its dict at d -/
def tErr1 (C : Addr) (cod fl : Str) (ta : TA) : L2.St → Hp → XK → Prop := fun σ H Q => ta σ H fun vs H1 => ∃ v, vs = [v] ∧ MsgW v ∧ ∀ d, H1 d = none → Q (.ref C) (some d) (upd H1 d (.xd [(fl, v), ("code", .str cod)]))
theorem pmk_err1 (hfl : fl ∈ flds) (T : ErrC1 X.prog.main.file X.K C f qual q me cod fl j2) (hline : LineOk1 q me) (hargs : ArgsOk me) (hme : ∀ u, MsgV u → MsgOk me fl u) (htop : (X.prog.main.scope.names.lookup ("super" : Str)).isSome = false) (hms : X.mg "super" = none) (hr : Room (k + 1) X.A) (hg : Gl X x) (hm : X.mg x = some (.ref C)) (ha : PA X [e] ta)
    (hdb : (x == ("__debug__" : Str)) = false := by decide) (he : starEach [e] X.env = (false, eval e X.env) :: starEach [] X.env := by rfl) (hpl : (backTo pos (starEach [] X.env)).any (·.1) = false := by rfl) : PMk X (.Call (.Name x p) [e] [] pos) (tErr1 C cod fl ta) := by
  intro pins s σ H Q I h
  obtain ⟨nm, qn, N, bs, bm, sn, sub, ab, col, dd, k0, k1, k2, k3, k5, hC, hbm⟩ := T.oex.cls
  refine wpAny_Call_Name_kw (ld_glob I hg hm (PySem.W.callWith_K (h₀ := X.base) I.ok.mod.kin T.oex.kC (thn (ha.run pos pins s σ H _ I h) fun us s1 z => ?_) he hpl) hdb)
  obtain ⟨vs, H1, I1, r, v, rfl, hv, h⟩ := z
  obtain ⟨u, rfl, ru⟩ := vals1 r
  clear I
  rename Inv X pins σ H1 s1 => I
  refine ⟨I.kIn, ?_⟩
  show wpAny _ _ (call (.ref C) [u]) _ _ _
  obtain ⟨hp, g, dr, tk, os⟩ := s1
  have nK : X.K.lookup (hp.objs.size + 1) = none := by
    cases e : X.K.lookup (hp.objs.size + 1) with
    | none => rfl
    | some o => exact absurd (Nat.lt_of_succ_lt (Heap.lt_size (I.kIn _ _ e))) (Nat.lt_irrefl _)
  have fresh : H1 (hp.objs.size + 1) = none := I.hok.fresh (Nat.le_succ _)
  have kk : ∀ b o, hp.get? b = some o → ((hp.push (PySem.W.kdv_tup [u])).push (PySem.HandSPX.excO C hp.objs.size)).get? b = some o := fun b o e => Heap.get?_push_of_some _ (Heap.get?_push_of_some _ e)
  have at1 : ((hp.push (PySem.W.kdv_tup [u])).push (PySem.HandSPX.excO C hp.objs.size)).get? (hp.objs.size + 1) = some (PySem.HandSPX.excO C hp.objs.size) := by heap_get
  have I2 := I.laid (t' := tk) (a := hp.objs.size + 1) (o := exo (hp.objs.size + 1) C none) (h' := (hp.push (PySem.W.kdv_tup [u])).push (PySem.HandSPX.excO C hp.objs.size)) kk (Nat.le_succ _) (exo_ok at1)
  obtain ⟨mb, hb, hbb⟩ := I.mod.blt
  refine wpAny_call (PySem.HandSPX.call_own PySem.F.excBase_ValueError (fun Y => PySem.HandSPX.refsVE_contains Y bm hbm) (I.kIn _ _ hC) (PySem.W.looks_findIn I.kIn T.find) (fun self => PySem.W.bind_fn I.kIn self T.typ) (by show 1 ≤ sizeLine; decide) ?_)
  refine init_run1 (mg := X.mg) (mb := mb) (t0 := hp.objs.size) hfl T hline hargs (hme u (hv.val ru)) htop (fun b o e => kk b o (I.kIn b o e)) ((I.mod.glob.keeps I.bk).keeps kk) hms ((hb.keeps I.bk).keeps kk) ((hbb _ (by decide)).trans (by decide +kernel)) ?lim (hr.make C [u] []).depth at1 nK (fun h' t1 tk' dx tk0 hk dn dne hx hn => ?_)
  case lim => exact (I.mod.nolimit.keeps I.bk).keeps kk
  have nd : H1 dx = none := I.hok.fresh (Nat.le_trans (by simp; omega) dn)
  have na : ∀ {b : Addr} {u : Option HO}, upd H1 (hp.objs.size + 1) (exo (hp.objs.size + 1) C none) b = none → b ≠ hp.objs.size + 1 := fun {b u} e z => by
    rw [z, upd_same] at e
    cases e
  have lt2 : ∀ {b : Addr} {o : Obj}, ((hp.push (PySem.W.kdv_tup [u])).push (PySem.HandSPX.excO C hp.objs.size)).get? b = some o → b ≠ dx := fun {b o} e => Nat.ne_of_lt (Nat.lt_of_lt_of_le (Heap.lt_size e) dn)
  have same : ∀ {b : Addr} {o : HO}, upd H1 (hp.objs.size + 1) (exo (hp.objs.size + 1) C none) b = some o → o ≠ exo (hp.objs.size + 1) C none → upd (upd H1 dx (exd dx [(fl, v), ("code", .str cod)])) (hp.objs.size + 1) (exo (hp.objs.size + 1) C (some dx)) b = some o := fun {b o} e ne => by
    have b1 : b ≠ hp.objs.size + 1 := fun z => by
      rw [z, upd_same] at e
      exact ne (Option.some.inj e).symm
    rw [upd_ne b1] at e
    rw [upd_ne b1, upd_ne (ne_of_none e nd)]
    exact e
  have un : Un (frs X.stack) [] (upd H1 (hp.objs.size + 1) (exo (hp.objs.size + 1) C none)) (upd (upd H1 dx (exd dx [(fl, v), ("code", .str cod)])) (hp.objs.size + 1) (exo (hp.objs.size + 1) C (some dx))) ((hp.push (PySem.W.kdv_tup [u])).push (PySem.HandSPX.excO C hp.objs.size)) h' := by
    refine ⟨fun b o e n _ _ => hk b o (na (u := none) n) e, fun b o e n _ _ => ⟨o.slots, hk b o (na (u := none) n) e⟩, fun b o e n _ => ?_, fun b o e _ => ?_, fun b xs e => same e fun z => exo_tup z.symm, fun b o u e => same e fun z => exo_frz z.symm, fun b ps e => ⟨#[], ?_⟩⟩
    · have b1 := na (u := none) n
      rw [upd_ne b1, upd_ne (lt2 e)]
      rw [upd_ne b1] at n
      exact n
    · by_cases b1 : b = hp.objs.size + 1
      · exact ⟨_, by rw [b1]; exact hx⟩
      · exact ⟨o, hk b o b1 e⟩
    · rw [Array.append_empty]
      exact same e fun z => exo_tbl z.symm
  have hok : HOk X.prog X.w (upd (upd H1 dx (exd dx [(fl, v), ("code", .str cod)])) (hp.objs.size + 1) (exo (hp.objs.size + 1) C (some dx))) h' := fun b o e => by
    by_cases b1 : b = hp.objs.size + 1
    · rw [b1, upd_same] at e
      cases e
      rw [b1]
      exact exo_ok hx
    · rw [upd_ne b1] at e
      by_cases b2 : b = dx
      · rw [b2, upd_same] at e
        cases e
        rw [b2]
        exact exd_ok hn (relO_put ru (relO_put (fs := []) ⟨_, rfl⟩ fun g => True.intro))
      · rw [upd_ne b2] at e
        have e2 : upd H1 (hp.objs.size + 1) (exo (hp.objs.size + 1) C none) b = some o := by rw [upd_ne b1]; exact e
        refine (I2.hok b o e2).stay (fun c v hc z => hk c v (fun c1 => ?_) z) (fun c hc => same hc fun z => exo_own z.symm) (fun c xs hc => same hc fun z => exo_tup z.symm)
        rcases hc with hc | hc
        · exact b1 (hc.symm.trans c1)
        · rw [c1, upd_same] at hc
          exact exo_own (Option.some.inj hc)
  refine ⟨rfl, mk_end (a := hp.objs.size + 1) (C := C) (d := dx) (fs := [(fl, v), ("code", .str cod)]) (raises_own T.oex.exC T.oex.tyC) I (Nat.le_succ _) kk un hok rfl I.bare upd_same ?_ nd ?_⟩
  · rw [upd_ne dne, upd_same]
  · have e : upd (del (upd (upd H1 dx (exd dx [(fl, v), ("code", .str cod)])) (hp.objs.size + 1) (exo (hp.objs.size + 1) C (some dx))) (hp.objs.size + 1)) dx (.xd [(fl, v), ("code", .str cod)]) = upd H1 dx (.xd [(fl, v), ("code", .str cod)]) := by
      funext b
      by_cases b2 : b = dx
      · rw [b2, upd_same, upd_same]
      · rw [upd_ne b2, upd_ne b2]
        by_cases b1 : b = hp.objs.size + 1
        · rw [b1, del_same, fresh]
        · rw [del_ne b1, upd_ne b1, upd_ne b2]
    rw [e]
    exact h dx nd
end
end FvX


namespace FvW
open PySem PySem.Spec PyProof.Rows L2 FvX Fv
/-! ### lists and tuples alike -/
def isSeq : PyData → Bool
  | .list _ => true
  | .tuple _ => true
  | _ => false
def rows : PyData → List PyData
  | .list ds => ds
  | .tuple ds => ds
  | _ => []
theorem isSeq_ty (d : PyData) : (isB (tyN d) "list" || isB (tyN d) "tuple") = isSeq d := by
  cases d <;> (simp only [tyN, isSeq]; decide +kernel)
/-- isinstance(x, (list, tuple)) of data -/
def rIsDL (K : PySem.W.Frag) : List V → Hp → VK → Prop := fun xs H Q => ∃ (x : V) (tp : Addr) (d : PyData), xs = [x, .ref tp] ∧ H tp = some (.tup [.ty "list", .ty "tuple"]) ∧ Dp K H x d ∧ Q (.bl (isSeq d)) H
theorem call_isDL {X : Cx} : CallR X (.builtin "isinstance") (rIsDL X.K) := by
  intro pins s σ H xs us Q I r h
  obtain ⟨x, tp, d, rfl, htp, hd, q⟩ := h
  refine call_isiT pins s σ H _ us Q I r ⟨x, tp, _, _, _, isSeq d, rfl, htp, .cons (.ty "list") (.cons (.ty "tuple") .nil), dp_ty hd, ?_, q⟩
  have e := isSeq_ty d
  refine kitAny_cons (b := isB (tyN d) "list") (kit_ty (kitB_all (by decide))) (fun e1 => ?_) (fun e1 => ?_)
  · rw [e1, Bool.false_or] at e
    refine kitAny_cons (b := isB (tyN d) "tuple") (kit_ty (kitB_all (by decide))) (fun e2 => ?_) (fun e2 => ?_)
    · rw [← e, e2]; exact kitAny_nil
    · rw [← e, e2]
  · rw [← e, e1, Bool.true_or]
theorem walk_enumT {K : PySem.W.Frag} {a : Addr} {xs : List V} : Walk (IteT K a) xs.length (fun H => SqT K H a xs) (YPair (fun i => some (.int (i : Nat))) (fun i => xs[i]?)) where
  goes := fun i _ hi q => ⟨xs, xs[i], q, List.getElem?_eq_getElem hi⟩
  stops := fun _ q => ⟨xs, q, Nat.le_refl _⟩
  yields := fun i H v H' _ q y => let ⟨T, x, h1, h2, h3, h4⟩ := y; ⟨T, .int (i : Nat), x, h1, h2, h3, rfl, h4 xs q⟩
theorem enum_or {K : PySem.W.Frag} {H0 H1 : Hp} {v : V} {d : PyData} {R : It → Hp → Prop} (hd : Dp K H0 v d) (hs : isSeq d = true) (s : Same H0 H1)
    (h : ∀ (J : It) (G : Hp → Prop) (xs : List V), DpAll K H0 xs (rows d) → Walk J xs.length G (YPair (fun i => some (.int (i : Nat))) (fun i => xs[i]?)) → (∀ H', Same H0 H' → G H') → R J H1) :
    (∃ a xs, [v] = [V.ref a] ∧ SqL K H1 a xs ∧ R (Ite K a) H1) ∨ ∃ a xs, [v] = [V.ref a] ∧ SqT K H1 a xs ∧ R (IteT K a) H1 := by
  cases hd with
  | non => cases hs
  | bl => cases hs
  | int => cases hs
  | str => cases hs
  | lst hq ha => exact .inl ⟨_, _, rfl, s.seq hq, h _ _ _ ha walk_enum fun H' s' => s'.seq hq⟩
  | tup hq ha => exact .inr ⟨_, _, rfl, same_seqT s hq, h _ _ _ ha walk_enumT fun H' s' => same_seqT s' hq⟩
theorem i_enum {K : PySem.W.Frag} {H0 H1 : Hp} {v : V} {d : PyData} {R : It → Hp → Prop} {σ : L2.St} {j : Nat} (hv : σ[j]? = some (some v)) (hd : Dp K H0 v d) (hs : isSeq d = true) (s : Same H0 H1)
    (h : ∀ (J : It) (G : Hp → Prop) (xs : List V), DpAll K H0 xs (rows d) → Walk J xs.length G (YPair (fun i => some (.int (i : Nat))) (fun i => xs[i]?)) → (∀ H', Same H0 H' → G H') → R J H1) :
    iOr (iEnum K (tCons (tVar j) tNil)) (iEnumT K (tCons (tVar j) tNil)) σ H1 R := Or.imp (fun z => ⟨v, hv, z⟩) (fun z => ⟨v, hv, z⟩) (enum_or hd hs s h)
/-- what a for over a list or a tuple wants -/
theorem seq_or {K : PySem.W.Frag} {H0 H1 : Hp} {v : V} {d : PyData} {R : It → Hp → Prop} (hd : Dp K H0 v d) (hs : isSeq d = true) (s : Same H0 H1)
    (h : ∀ (J : It) (G : Hp → Prop) (xs : List V), DpAll K H0 xs (rows d) → Walk J xs.length G (YAt xs) → (∀ H', Same H0 H' → G H') → R J H1) :
    (∃ a, v = V.ref a ∧ (∃ xs, SqL K H1 a xs) ∧ R (Itl K a) H1) ∨ ∃ a, v = V.ref a ∧ (∃ xs, SqT K H1 a xs) ∧ R (Itt K a) H1 := by
  cases hd with
  | non => cases hs
  | bl => cases hs
  | int => cases hs
  | str => cases hs
  | lst hq ha => exact .inl ⟨_, rfl, ⟨_, s.seq hq⟩, h _ _ _ ha walk_list fun H' s' => s'.seq hq⟩
  | tup hq ha => exact .inr ⟨_, rfl, ⟨_, same_seqT s hq⟩, h _ _ _ ha walk_tup fun H' s' => same_seqT s' hq⟩
/-- an error with one field -/
def errF (C : Addr) (cod fl : Str) (v : V) (H : Hp) (E : XK) : Prop := ∀ (H' : Hp) (dd : Addr), Same H H' → H' dd = some (.xd [(fl, v), ("code", .str cod)]) → E (.ref C) (some dd) H'
theorem errF.mono {C : Addr} {cod fl : Str} {v : V} {H H1 : Hp} {E : XK} (h : errF C cod fl v H E) (s : Same H H1) : errF C cod fl v H1 E := fun H' dd s' e => h H' dd (s.trans s') e
end FvW


namespace FvW
open PySem PySem.Spec PyProof.Rows L2 FvX Fv
theorem pi_tupK {X : Cx} {K : PySem.W.Frag} {tg l : Expr} {tl : TE} (hK : X.K = K) (hl : PE X l tl) : PI X tg l (iTup K tl) := by
  subst hK
  exact pi_tup hl
theorem sl_tupK {X : Cx} {K : PySem.W.Frag} (hK : X.K = K) : SlR X (rSlT K) := by
  subst hK
  exact sl_tup
/-! ### [e for x in xs for y in ys]: the two loops -/
theorem in_it {J : It} {n : Nat} {G : Hp → Prop} {Y : Nat → Hp → V → Hp → Prop} (w : Walk J n G Y) {g : TG} {tt : TT} {te : TE} {vs : List Nat} {σ : L2.St} {H0 : Hp} {D : Addr} {N : Hp → Prop} (P : Nat → Hp → Prop) (h0 : P 0 H0) (hG : ∀ j H, j ≤ n → P j H → G H)
    (hs : ∀ j x H H', j < n → P j H → Y j H x H' → g x (wipe σ vs) H' fun σ3 H5 => wipe σ3 vs = wipe σ vs ∧ tt σ3 H5 fun b H6 => if b = true then te σ3 H6 fun y H7 => ∃ acc, H7 D = some (.lst acc) ∧ acc.length < sizeLine ∧ P (j + 1) (upd H7 D (.lst (acc ++ [y]))) else P (j + 1) H6)
    (hd : ∀ H, P n H → N H) :
    ∃ W : Nat → Nat → Hp → Prop, (∃ m, W 0 m H0) ∧ ∀ j k H, W j k H → (J.stop j H ∧ N H) ∨ (J.go j H ∧ ∃ Nx : Hp → Prop, (∀ H', Nx H' → ∃ k', k' < k ∧ W (j + 1) k' H') ∧ ∀ x H', J.yld j H x H' → g x (wipe σ vs) H' fun σ3 H5 => wipe σ3 vs = wipe σ vs ∧ tt σ3 H5 fun b H6 => if b = true then te σ3 H6 fun y H7 => ∃ acc, H7 D = some (.lst acc) ∧ acc.length < sizeLine ∧ Nx (upd H7 D (.lst (acc ++ [y]))) else Nx H6) := by
  refine ⟨fun j k H => k = n - j ∧ j ≤ n ∧ P j H, ⟨n - 0, rfl, Nat.zero_le n, h0⟩, fun j k H z => ?_⟩
  obtain ⟨ek, hj, p⟩ := z
  have hg := hG j H hj p
  rcases Nat.lt_or_ge j n with lt | ge
  · exact .inr ⟨w.goes j H lt hg, P (j + 1), fun H' p' => ⟨n - (j + 1), by omega, rfl, lt, p'⟩, fun x H' y => hs j x H H' lt p (w.yields j H x H' lt hg y)⟩
  · have e : n = j := Nat.le_antisymm ge hj
    subst e
    exact .inl ⟨w.stops H hg, hd H p⟩
theorem lc2_it {J : It} {n : Nat} {G : Hp → Prop} {Y : Nat → Hp → V → Hp → Prop} (w : Walk J n G Y) {g g1 : TG} {tt tt1 : TT} {te : TE} {wi1 : TI} {vs vs1 : List Nat} {σ : L2.St} {H1 : Hp} {D : Addr} {Qd : Hp → Prop} (P : Nat → Hp → Prop) (h0 : P 0 (upd H1 D (.lst []))) (hG : ∀ i H, i ≤ n → P i H → G H)
    (hs : ∀ i x H H', i < n → P i H → Y i H x H' → g x (wipe σ vs) H' fun σ2 H2 => wipe σ2 vs = wipe σ vs ∧ tt σ2 H2 fun b H3 => if b = true then wi1 σ2 H3 (fun J1 H4 => ∃ W1 : Nat → Nat → Hp → Prop, (∃ m, W1 0 m H4) ∧ ∀ j k H, W1 j k H → (J1.stop j H ∧ P (i + 1) H) ∨ (J1.go j H ∧ ∃ Nx1 : Hp → Prop, (∀ H', Nx1 H' → ∃ k', k' < k ∧ W1 (j + 1) k' H') ∧ ∀ x H', J1.yld j H x H' → g1 x (wipe σ2 vs1) H' fun σ3 H5 => wipe σ3 vs1 = wipe σ2 vs1 ∧ tt1 σ3 H5 fun b H6 => if b = true then te σ3 H6 fun y H7 => ∃ acc, H7 D = some (.lst acc) ∧ acc.length < sizeLine ∧ Nx1 (upd H7 D (.lst (acc ++ [y]))) else Nx1 H6)) else P (i + 1) H3)
    (hd : ∀ H, P n H → Qd H) :
    ∃ W : Nat → Nat → Hp → Prop, (∃ m, W 0 m (upd H1 D (.lst []))) ∧ ∀ i m H, W i m H → (J.stop i H ∧ Qd H) ∨ (J.go i H ∧ ∃ Nx : Hp → Prop, (∀ H', Nx H' → ∃ m', m' < m ∧ W (i + 1) m' H') ∧ ∀ x H', J.yld i H x H' → g x (wipe σ vs) H' fun σ2 H2 => wipe σ2 vs = wipe σ vs ∧ tt σ2 H2 fun b H3 => if b = true then wi1 σ2 H3 (fun J1 H4 => ∃ W1 : Nat → Nat → Hp → Prop, (∃ m, W1 0 m H4) ∧ ∀ j k H, W1 j k H → (J1.stop j H ∧ Nx H) ∨ (J1.go j H ∧ ∃ Nx1 : Hp → Prop, (∀ H', Nx1 H' → ∃ k', k' < k ∧ W1 (j + 1) k' H') ∧ ∀ x H', J1.yld j H x H' → g1 x (wipe σ2 vs1) H' fun σ3 H5 => wipe σ3 vs1 = wipe σ2 vs1 ∧ tt1 σ3 H5 fun b H6 => if b = true then te σ3 H6 fun y H7 => ∃ acc, H7 D = some (.lst acc) ∧ acc.length < sizeLine ∧ Nx1 (upd H7 D (.lst (acc ++ [y]))) else Nx1 H6)) else Nx H3) := by
  refine ⟨fun i m H => m = n - i ∧ i ≤ n ∧ P i H, ⟨n - 0, rfl, Nat.zero_le n, h0⟩, fun i m H z => ?_⟩
  obtain ⟨em, hi, p⟩ := z
  have hg := hG i H hi p
  rcases Nat.lt_or_ge i n with lt | ge
  · exact .inr ⟨w.goes i H lt hg, P (i + 1), fun H' p' => ⟨n - (i + 1), by omega, rfl, lt, p'⟩, fun x H' y => hs i x H H' lt p (w.yields i H x H' lt hg y)⟩
  · have e : n = i := Nat.le_antisymm ge hi
    subst e
    exact .inl ⟨w.stops H hg, hd H p⟩
/-- no if stands there -/
theorem yes_it {σ : L2.St} {H : Hp} {A B : Hp → Prop} (h : A H) : tYes σ H fun b H' => if b = true then A H' else B H' := by
  show if true = true then A H else B H
  rw [if_pos rfl]
  exact h
theorem i_seq {K : PySem.W.Frag} {H0 H1 : Hp} {v : V} {d : PyData} {R : It → Hp → Prop} {σ : L2.St} {j : Nat} (hv : σ[j]? = some (some v)) (hd : Dp K H0 v d) (hs : isSeq d = true) (s : Same H0 H1)
    (h : ∀ (J : It) (G : Hp → Prop) (xs : List V), DpAll K H0 xs (rows d) → Walk J xs.length G (YAt xs) → (∀ H', Same H0 H' → G H') → R J H1) :
    iOr (iList K (tVar j)) (iTup K (tVar j)) σ H1 R := Or.imp (fun z => ⟨v, hv, z⟩) (fun z => ⟨v, hv, z⟩) (seq_or hd hs s h)
end FvW


namespace Fv
open PySem PySem.Spec PyProof.Rows L2 FvX FvW
theorem pi_listK {X : Cx} {K : PySem.W.Frag} {tg l : Expr} {tl : TE} (hK : X.K = K) (hl : PE X l tl) : PI X tg l (iList K tl) := by
  subst hK
  exact pi_list hl
theorem cr_allK {X : Cx} {K : PySem.W.Frag} (hK : X.K = K) (hc : X.calm = true) : CallR X (.builtin "all") (rAll K) := by
  subst hK
  exact cr_all hc
theorem pe_joinK {X : Cx} {K : PySem.W.Frag} {o e : Expr} {to te : TE} {apos pos : Pos} (hK : X.K = K) (ho : PE X o to) (he : PE X e te) (hs : starEach [e] X.env = [(false, eval e X.env)] := by rfl) (hbase : attributeBase o "join" X.env (eval o X.env) = eval o X.env := by rfl) (hline : (apos.endLine == pos.line) = true := by rfl) :
    PE X (.Call (.Attribute o "join" apos) [e] [] pos) (tM1 (fun x xs H Q => ∃ a p, ∃ ys : List Str, x = .str a ∧ xs = [.ref p] ∧ (SqL K H p (ys.map V.str) ∨ SqT K H p (ys.map V.str)) ∧
      (ys.map (·.length)).sum + ys.length * a.length ≤ 16777216 ∧ Q (.str (Txt.join a ys)) H) to te) := by
  subst hK
  exact pe_join ho he hs hbase hline
theorem smx_none' {a L : Addr} {ns : List Int} {H H' : Hp} {p : Addr} (s : SmX [a] H H') (hs : Src H' a L ns) (n : H' p = none) : H p = none := by
  cases e : H p with
  | none => rfl
  | some o =>
    by_cases c : p = a
    · obtain ⟨_, _, _, _, e', _⟩ := hs
      rw [c, e'] at n; cases n
    · rw [s _ _ (fun z => c (List.mem_singleton.mp z)) e] at n; cases n
theorem Src.neL' {H : Hp} {a L l : Addr} {ns : List Int} (h : Src H a L ns) (n : H l = none) : l ≠ L := fun z => by
  obtain ⟨_, _, _, _, _, e, _⟩ := h
  rw [← z, n] at e; cases e
def natsV (ms : List Nat) : List V := ms.map fun x => V.int (x : Nat)
theorem bitAnd_nat (a b : Nat) : Builtin.bitAnd ((a : Nat) : Int) ((b : Nat) : Int) = ((a &&& b : Nat) : Int) := by
  unfold Builtin.bitAnd
  rw [decide_eq_true (Int.natCast_nonneg a), decide_eq_true (Int.natCast_nonneg b)]
  show ((((a : Int).toNat &&& (b : Int).toNat : Nat)) : Int) = _
  rw [Int.toNat_natCast, Int.toNat_natCast]
theorem inV_nats (x : Nat) : ∀ ms : List Nat, inV (.int (x : Nat)) (natsV ms) = decide (x ∈ ms)
  | [] => rfl
  | a :: ms => by
    have ih := inV_nats x ms
    unfold inV natsV at ih ⊢
    rw [List.map_cons, List.any_cons, ih, Bool.eq_iff_iff, Bool.or_eq_true, decide_eq_true_eq, decide_eq_true_eq, List.mem_cons]
    refine or_congr ?_ Iff.rfl
    show decide ((a : Int) = (x : Int)) = true ↔ _
    rw [decide_eq_true_eq]
    omega
theorem flat_nats (ms : List Nat) : (natsV ms).all flatV = true := by
  unfold natsV
  rw [List.all_map]
  exact List.all_eq_true.mpr fun v _ => rfl
theorem nats_get {ms : List Nat} {j : Nat} {x : V} (h : (natsV ms)[j]? = some x) : ∃ a, ms[j]? = some a ∧ x = .int (a : Nat) := by
  unfold natsV at h
  rw [List.getElem?_map] at h
  cases e : ms[j]? with
  | none => rw [e] at h; cases h
  | some a => rw [e] at h; exact ⟨a, rfl, (Option.some.inj h).symm⟩
theorem nats_len (ms : List Nat) : (natsV ms).length = ms.length := by unfold natsV; rw [List.length_map]
theorem nodup_lt : ∀ (n : Nat) (ms : List Nat), ms.Nodup → (∀ a ∈ ms, a < n) → ms.length ≤ n
  | 0, [], _, _ => Nat.le_refl _
  | 0, a :: ms, _, h => absurd (h a List.mem_cons_self) (Nat.not_lt_zero _)
  | n + 1, ms, nd, h => by
    have ih := nodup_lt n (ms.erase n) (nd.erase n) fun a ha => by
      have h1 := h a (List.mem_of_mem_erase ha)
      have h2 : a ≠ n := fun z => by
        rw [z] at ha
        exact (List.Nodup.mem_erase_iff nd).mp ha |>.1 rfl
      omega
    have h3 := List.length_erase (a := n) (l := ms)
    by_cases c : n ∈ ms
    · rw [if_pos c] at h3; omega
    · rw [if_neg c] at h3; omega
def unI : V → Nat
  | .int i => i.toNat
  | _ => 0
theorem perm_nats {ys : List V} {ms : List Nat} (h : ys.Perm (natsV ms)) : ∃ ns, ns.Perm ms ∧ ys = natsV ns := by
  refine ⟨ys.map unI, ?_, ?_⟩
  · have z := h.map unI
    unfold natsV at z
    rw [List.map_map] at z
    have e : ms.map (unI ∘ fun x : Nat => V.int (x : Nat)) = ms := by
      refine Eq.trans (List.map_congr_left (g := id) fun x _ => ?_) (List.map_id ms)
      show ((x : Nat) : Int).toNat = x
      exact Int.toNat_natCast x
    rw [e] at z
    exact z
  · unfold natsV
    rw [List.map_map]
    refine Eq.trans (List.map_id ys).symm (List.map_congr_left fun y hy => ?_)
    obtain ⟨x, _, rfl⟩ := List.mem_map.mp (h.mem_iff.mp hy)
    show V.int (x : Nat) = V.int ((((x : Nat) : Int).toNat : Nat) : Int)
    rw [Int.toNat_natCast]
end Fv


namespace Fv
open PySem PySem.Spec PyProof.Rows L2
def topS (i : Nat) : Stmt := PySem.Challenge.pw_fivefault_k27_whole_products_have_values.main.body.getD i (.Pass ⟨0, 0, 0, 0⟩)
-- top 30  slots: 0:_law_source_here 1:_law_many 2:_law_cell 3:_law_digit 4:_law_mixed_here
abbrev s_law_take : Stmt := topS 30
abbrev N_law_take : List Str := ["_law_source_here", "_law_many", "_law_cell", "_law_digit", "_law_mixed_here"]
theorem sc_law_take : FnScope N_law_take ["_law_source_here", "_law_many"] (defScope s_law_take) := ⟨rfl, rfl, rfl, by decide +kernel, rfl, by decide +kernel, by decide +kernel⟩

theorem at_int {ns : List Int} {i : Int} (h0 : 0 ≤ i) (h : i < ((ns.map V.int).length : Nat)) : ∃ v : Int, atI (ns.map V.int) i = some (.int v) := by
  rw [List.length_map] at h
  have hk : i.toNat < ns.length := by omega
  have q : atI (ns.map V.int) ((i.toNat : Nat) : Int) = some (.int ns[i.toNat]) := atI_nat (by rw [List.getElem?_map, List.getElem?_eq_getElem hk] <;> rfl)
  rw [show ((i.toNat : Nat) : Int) = i by omega] at q
  exact ⟨_, q⟩
def zz (st c : Int) : Int := (((st * st) % 2147483629 + 40507 * (c + 1)) * 48271 + st + 17) % 2147483629
theorem pos1 : (0 : Int) < 2147483587 := by decide
theorem pos2 : (0 : Int) < 2147483629 := by decide
theorem pos3 : (0 : Int) < 8191 := by decide
section
variable {P : Program} {w : World} {K : PySem.W.Frag} {mg : Str → Option Value} {base : Heap}
theorem ok_take {f : Addr} {fd : FuncData} {k : Nat} (F : Fun K "_law_take" "_law_take" s_law_take f fd) (m_len : mg "len" = none) (m_int : mg "int" = none) :
    FnOk P w K mg base CX0 (k + 1) f fd ["_law_source_here", "_law_many"] spTake := by
  refine F.ok sc_law_take (fun vs H Q E h => ?_) (fun cdv A outer s H vs Q E hr h => ?_)
  · obtain ⟨a, L, ns, n, rfl, _⟩ := h
    rfl
  · obtain ⟨a, L, ns, n, rfl, ⟨i, p, st, c, hA, hL, h0, h1, h2⟩, n1, n2, q⟩ := h
    have aL : L ≠ a := fun e => by
      rw [e, hA] at hL
      cases ns with
      | nil => cases hL
      | cons x r => cases hL
    refine ⟨_, (C8.pss_cut (ps_if (PW.pt (pw_and (pt_cmpR op_eq (pe_ix ix_list (pv 0) pe_int (fun _ _ => rfl)) pe_int (nomark _)) (pw_and1 (pt_cmpR op_lt (pe_ix ix_list (pv 0) pe_int (fun _ _ => rfl)) (pe_callB call_len_seq (by rfl) m_len (by decide +kernel) (pa_cons (pe_ix ix_list (pv 0) pe_int (fun _ _ => rfl)) pa_nil)) (nomark _)))))
        (pss_cons (ps_set (i := 2) sc_law_take.nd rfl (by first | exact .inl rfl | exact .inr rfl) (pe_ix ix_list (pe_ix ix_list (pv 0) pe_int (fun _ _ => rfl)) (pe_ix ix_list (pv 0) pe_int (fun _ _ => rfl)) (fun _ _ => rfl)))
        (pss_cons (ps_asg (pe_op op_add (pe_ix ix_list (pv 0) pe_int (fun _ _ => rfl)) pe_int) (pg_sub (pv 0) pe_int set_list))
        (pss_one (ps_if (pt_cmpR op_ge (pv 2) (pe_op op_pow pe_int pe_int) (nomark _))
          (pss_one (ps_asg (pv 2) (pg_sub (pv 0) pe_int set_list)))
          (pss_one (ps_asg (pe_op op_mod (pe_callTy call_int1 (by rfl) m_int (by decide +kernel) (pa_cons (pe_op op_add (pe_op op_add (pe_op op_mul (pe_ix ix_list (pv 0) pe_int (fun _ _ => rfl)) pe_int) (pe_op op_mul (pe_op op_mod (pe_callTy call_int1 (by rfl) m_int (by decide +kernel) (pa_cons (pv 2) pa_nil)) pe_int) pe_int)) pe_int) pa_nil)) pe_int) (pg_sub (pv 0) pe_int set_list)))))))
        pss_nil)
      (pss_cons (ps_if (pt_cmpR op_gt (pe_ix ix_list (pv 0) pe_int (fun _ _ => rfl)) pe_int (nomark _))
        (pss_cons (ps_set (i := 3) sc_law_take.nd rfl (by first | exact .inl rfl | exact .inr rfl) (pe_op op_mod (pe_callTy call_int1 (by rfl) m_int (by decide +kernel) (pa_cons (pe_ix ix_list (pv 0) pe_int (fun _ _ => rfl)) pa_nil)) (pv 1)))
        (pss_cons (ps_asg (pe_op op_fdiv (pe_ix ix_list (pv 0) pe_int (fun _ _ => rfl)) (pv 1)) (pg_sub (pv 0) pe_int set_list))
        (pss_one (ps_ret (pv 3)))))
        pss_nil)
      (pss_cons (ps_asg (pe_op op_add (pe_ix ix_list (pv 0) pe_int (fun _ _ => rfl)) pe_int) (pg_sub (pv 0) pe_int set_list))
      (pss_cons (ps_set (i := 4) sc_law_take.nd rfl (by first | exact .inl rfl | exact .inr rfl) (pe_op op_add (pe_op op_mod (pe_callTy call_int1 (by rfl) m_int (by decide +kernel) (pa_cons (pe_op op_mul (pe_ix ix_list (pv 0) pe_int (fun _ _ => rfl)) (pe_ix ix_list (pv 0) pe_int (fun _ _ => rfl))) pa_nil)) pe_int) (pe_op op_mul pe_int (pe_ix ix_list (pv 0) pe_int (fun _ _ => rfl)))))
      (pss_cons (ps_asg (pe_op op_mod (pe_callTy call_int1 (by rfl) m_int (by decide +kernel) (pa_cons (pe_op op_add (pe_op op_add (pe_op op_mul (pv 4) pe_int) (pe_ix ix_list (pv 0) pe_int (fun _ _ => rfl))) pe_int) pa_nil)) pe_int) (pg_sub (pv 0) pe_int set_list))
      (pss_one (ps_ret (pe_op op_mod (pe_callTy call_int1 (by rfl) m_int (by decide +kernel) (pa_cons (pe_op op_add (pe_op op_fdiv (pe_ix ix_list (pv 0) pe_int (fun _ _ => rfl)) pe_int) (pe_op op_mul (pe_op op_mod (pe_callTy call_int1 (by rfl) m_int (by decide +kernel) (pa_cons (pe_ix ix_list (pv 0) pe_int (fun _ _ => rfl)) pa_nil)) pe_int) pe_int)) pa_nil)) (pv 1))))))))), ?_⟩
    refine ⟨fun σ' H' => ∃ (y2 : Option V) (i p st c : Int), σ' = [some (.ref a), some (.int n), y2, none, none] ∧ H' a = some (.lst [.ref L, .int i, .int p, .int st, .int c]) ∧ H' L = some (.lst (ns.map V.int)) ∧ 0 ≤ i ∧ 0 ≤ st ∧ st < 2147483629 ∧ (∀ b, b ≠ a → H' b = H b), ?_, ?_⟩
    · -- the first if
      refine ⟨_, rfl, a, _, _, _, rfl, rfl, SqL.of hA, rfl, rfl, _, rfl, ?_⟩
      refine ite2 (fun c0 => ?_) (fun c0 => ?_)
      · refine ⟨_, rfl, a, _, _, _, rfl, rfl, SqL.of hA, rfl, _, rfl, a, _, _, _, rfl, rfl, SqL.of hA, rfl, L, _, rfl, .inl (SqL.of hL), _, _, rfl, rfl, _, rfl, ?_⟩
        refine ite2 (fun c1 => ?_) (fun c1 => ?_)
        · obtain ⟨v, hv⟩ := at_int h0 (of_decide_eq_true c1)
          refine ⟨_, rfl, a, _, _, _, rfl, rfl, SqL.of hA, rfl, _, rfl, a, _, _, _, rfl, rfl, SqL.of hA, rfl, L, _, _, _, rfl, rfl, SqL.of hL, hv, ?_⟩
          refine ⟨_, rfl, a, _, _, _, rfl, rfl, SqL.of hA, rfl, _, _, rfl, rfl, _, rfl, a, _, _, _, rfl, rfl, hA, rfl, ?_⟩
          have hA2 : (upd H a (.lst [.ref L, .int (i + 1), .int p, .int st, .int c])) a = some (.lst [.ref L, .int (i + 1), .int p, .int st, .int c]) := upd_same
          refine ⟨_, rfl, _, _, rfl, rfl, ⟨by decide, by decide, by decide⟩, _, _, rfl, rfl, _, rfl, ?_⟩
          refine ite2 (fun c2 => ?_) (fun c2 => ?_)
          · refine ⟨_, rfl, _, rfl, a, _, _, _, rfl, rfl, hA2, rfl, ?_⟩
            refine ⟨some (.int v), i + 1, v, st, c, rfl, upd_same, ?_, by omega, h1, h2, fun b nb => ?_⟩
            · rw [upd_ne aL, upd_ne aL]; exact hL
            · rw [upd_ne nb, upd_ne nb]
          · refine ⟨_, rfl, a, _, _, _, rfl, rfl, SqL.of hA2, rfl, _, _, rfl, rfl, .inr ⟨by decide, by decide⟩, _, rfl, .inl ⟨_, rfl, _, _, rfl, rfl, pos1, _, _, rfl, rfl, .inr ⟨by decide, by decide⟩, _, _, rfl, rfl, _, _, rfl, rfl, .inl ⟨_, rfl, _, _, rfl, rfl, pos2, ?_⟩⟩⟩
            refine ⟨_, rfl, a, _, _, _, rfl, rfl, hA2, rfl, ?_⟩
            refine ⟨some (.int v), i + 1, p, _, c, rfl, upd_same, ?_, by omega, ?_, ?_, fun b nb => ?_⟩
            · rw [upd_ne aL, upd_ne aL]; exact hL
            · exact Int.emod_nonneg _ (by decide)
            · exact Int.emod_lt_of_pos _ (by decide)
            · rw [upd_ne nb, upd_ne nb]
        · exact ⟨none, i, p, st, c, rfl, hA, hL, h0, h1, h2, fun b nb => rfl⟩
      · exact iteF ⟨none, i, p, st, c, rfl, hA, hL, h0, h1, h2, fun b nb => rfl⟩
    · rintro σ' H' ⟨y2, i, p, st, c, rfl, hA, hL, h0, h1, h2, off⟩
      refine ⟨_, rfl, a, _, _, _, rfl, rfl, SqL.of hA, rfl, _, _, rfl, rfl, _, rfl, ?_⟩
      refine ite2 (fun c0 => ?_) (fun c0 => ?_)
      · have cp : p > 0 := of_decide_eq_true c0
        refine ⟨_, rfl, a, _, _, _, rfl, rfl, SqL.of hA, rfl, .inl ⟨_, rfl, _, rfl, _, _, rfl, rfl, by omega, ?_⟩⟩
        refine ⟨_, rfl, a, _, _, _, rfl, rfl, SqL.of hA, rfl, _, rfl, _, _, rfl, rfl, ⟨by omega, by omega⟩, _, rfl, a, _, _, _, rfl, rfl, hA, rfl, ?_⟩
        refine ⟨_, rfl, q _ _ (Int.emod_nonneg _ (by omega)) (Int.emod_lt_of_pos _ (by omega)) ⟨i, _, st, c, upd_same, ?_, h0, h1, h2⟩ fun b nb => ?_⟩
        · rw [upd_ne aL]; exact hL
        · rw [upd_ne nb]; exact off b nb
      · refine ⟨_, rfl, a, _, _, _, rfl, rfl, SqL.of hA, rfl, _, _, rfl, rfl, _, rfl, a, _, _, _, rfl, rfl, hA, rfl, ?_⟩
        have hA2 : (upd H' a (.lst [.ref L, .int i, .int p, .int st, .int (c + 1)])) a = some (.lst [.ref L, .int i, .int p, .int st, .int (c + 1)]) := upd_same
        refine ⟨_, rfl, a, _, _, _, rfl, rfl, SqL.of hA2, rfl, _, rfl, a, _, _, _, rfl, rfl, SqL.of hA2, rfl, _, _, rfl, rfl, .inl ⟨by omega, by omega⟩, .inl ⟨_, rfl, _, _, rfl, rfl, pos2, ?_⟩⟩
        refine ⟨_, rfl, a, _, _, _, rfl, rfl, SqL.of hA2, rfl, _, _, rfl, rfl, .inl ⟨by decide, by decide⟩, _, _, rfl, rfl, ?_⟩
        refine ⟨_, rfl, _, _, rfl, rfl, .inr ⟨by decide, by decide⟩, _, rfl, a, _, _, _, rfl, rfl, SqL.of hA2, rfl, _, _, rfl, rfl, _, _, rfl, rfl, .inl ⟨_, rfl, _, _, rfl, rfl, pos2, ?_⟩⟩
        refine ⟨_, rfl, a, _, _, _, rfl, rfl, hA2, rfl, ?_⟩
        have z0 : 0 ≤ zz st c := Int.emod_nonneg _ (by decide)
        have z1 : zz st c < 2147483629 := Int.emod_lt_of_pos _ (by decide)
        have hA3 : (upd (upd H' a (.lst [.ref L, .int i, .int p, .int st, .int (c + 1)])) a (.lst [.ref L, .int i, .int p, .int (zz st c), .int (c + 1)])) a = some (.lst [.ref L, .int i, .int p, .int (zz st c), .int (c + 1)]) := upd_same
        refine ⟨_, rfl, a, _, _, _, rfl, rfl, SqL.of hA3, rfl, _, _, rfl, rfl, ⟨by decide, by decide⟩, ?_⟩
        refine ⟨_, rfl, a, _, _, _, rfl, rfl, SqL.of hA3, rfl, .inl ⟨_, rfl, _, _, rfl, rfl, pos3, _, _, rfl, rfl, .inr ⟨by decide, by decide⟩, _, _, rfl, rfl, .inl ⟨_, rfl, _, rfl, _, _, rfl, rfl, by omega, ?_⟩⟩⟩
        refine q _ _ (Int.emod_nonneg _ (by omega)) (Int.emod_lt_of_pos _ (by omega)) ⟨i, p, zz st c, c + 1, upd_same, ?_, h0, z0, z1⟩ fun b nb => ?_
        · rw [upd_ne aL, upd_ne aL]; exact hL
        · rw [upd_ne nb, upd_ne nb]; exact off b nb
end
end Fv


namespace Fv
open PySem PySem.Spec PyProof.Rows L2 FvX FvW TL
-- top 38  slots: 0:_law_row 1:_law_one
abbrev s_law_copied : Stmt := topS 38
abbrev N_law_copied : List Str := ["_law_row", "_law_one"]
theorem sc_law_copied : FnScope N_law_copied ["_law_row"] (defScope s_law_copied) := ⟨rfl, rfl, rfl, by decide +kernel, rfl, by decide +kernel, by decide +kernel⟩

-- top 39  slots: 0:_law_source_here 1:_law_wide 2:_law_many 3:_law_found 4:_law_k 5:_law_mask 6:_law_mother
abbrev s_law_family : Stmt := topS 39
abbrev N_law_family : List Str := ["_law_source_here", "_law_wide", "_law_many", "_law_found", "_law_k", "_law_mask", "_law_mother"]
theorem sc_law_family : FnScope N_law_family ["_law_source_here", "_law_wide", "_law_many"] (defScope s_law_family) := ⟨rfl, rfl, rfl, by decide +kernel, rfl, by decide +kernel, by decide +kernel⟩

-- top 40  slots: 0:_law_masks 1:_law_mother 2:_law_one
abbrev s_law_rows : Stmt := topS 40
abbrev N_law_rows : List Str := ["_law_masks", "_law_mother", "_law_one"]
theorem sc_law_rows : FnScope N_law_rows ["_law_masks"] (defScope s_law_rows) := ⟨rfl, rfl, rfl, by decide +kernel, rfl, by decide +kernel, by decide +kernel⟩

-- top 41  slots: 0:_law_source_here 1:_law_way
abbrev s_law_some_rows : Stmt := topS 41
abbrev N_law_some_rows : List Str := ["_law_source_here", "_law_way"]
theorem sc_law_some_rows : FnScope N_law_some_rows ["_law_source_here"] (defScope s_law_some_rows) := ⟨rfl, rfl, rfl, by decide +kernel, rfl, by decide +kernel, by decide +kernel⟩

/-- a family under way -/
structure FI (w : Nat) (fs : List Nat) : Prop where
  nd : fs.Nodup
  cl : ∀ a ∈ fs, ∀ b ∈ fs, a &&& b ∈ fs
  full : 2 ^ w - 1 ∈ fs
  lt : ∀ a ∈ fs, a < 2 ^ w
theorem FI.fam {w : Nat} {fs : List Nat} (h : FI w fs) (hw : w ≤ 4) : Fam fs := by
  refine ⟨h.nd, h.cl, ⟨_, h.full, fun a ha => ?_⟩, ?_⟩
  · rw [subM_iff, Nat.and_two_pow_sub_one_eq_mod, Nat.mod_eq_of_lt (h.lt a ha)]
  · refine Nat.le_trans (nodup_lt _ _ h.nd h.lt) ?_
    exact Nat.pow_le_pow_right (show 0 < 2 by decide) hw
theorem FI.one (w : Nat) : FI w [2 ^ w - 1] := by
  have p : 0 < 2 ^ w := Nat.two_pow_pos w
  refine ⟨by simp, fun a ha b hb => ?_, List.mem_singleton.mpr rfl, fun a ha => ?_⟩
  · rw [List.mem_singleton.mp ha, List.mem_singleton.mp hb, Nat.and_self]; exact List.mem_singleton.mpr rfl
  · rw [List.mem_singleton.mp ha]; omega
/-- between two families: what is met with m -/
structure FJ (w m : Nat) (fs : List Nat) (j : Nat) (gs : List Nat) : Prop where
  nd : gs.Nodup
  old : ∀ a ∈ fs, a ∈ gs
  done : ∀ a ∈ fs.take j, m &&& a ∈ gs
  all : ∀ a ∈ gs, a ∈ fs ∨ ∃ b ∈ fs, a = m &&& b
theorem FJ.fi {w m : Nat} {fs gs : List Nat} (F : FI w fs) (h : FJ w m fs fs.length gs) (hm : m < 2 ^ w) : FI w gs := by
  have dn : ∀ a ∈ fs, m &&& a ∈ gs := fun a ha => h.done a (by rw [List.take_length]; exact ha)
  refine ⟨h.nd, fun a ha b hb => ?_, h.old _ F.full, fun a ha => ?_⟩
  · rcases h.all a ha with ha' | ⟨c, hc, rfl⟩ <;> rcases h.all b hb with hb' | ⟨e, he, rfl⟩
    · exact h.old _ (F.cl a ha' b hb')
    · have := dn _ (F.cl a ha' e he)
      rw [← Nat.and_assoc, Nat.and_comm m a, Nat.and_assoc] at this
      exact this
    · rw [Nat.and_assoc]; exact dn _ (F.cl c hc b hb')
    · have := dn _ (F.cl c hc e he)
      have z : (m &&& c) &&& (m &&& e) = m &&& (c &&& e) := by
        rw [Nat.and_assoc, ← Nat.and_assoc c m e, Nat.and_comm c m, Nat.and_assoc, ← Nat.and_assoc m m, Nat.and_self]
      rw [z]; exact this
  · rcases h.all a ha with z | ⟨c, hc, rfl⟩
    · exact F.lt a z
    · exact Nat.and_lt_two_pow _ (F.lt c hc)
theorem FJ.len {w m : Nat} {fs gs : List Nat} {j : Nat} (F : FI w fs) (h : FJ w m fs j gs) (hw : w ≤ 4) : gs.length ≤ 16 := by
  refine Nat.le_trans (nodup_lt _ _ h.nd fun a ha => ?_) (Nat.pow_le_pow_right (show 0 < 2 by decide) hw)
  rcases h.all a ha with z | ⟨c, hc, rfl⟩
  · exact F.lt a z
  · exact Nat.and_lt_two_pow _ (F.lt c hc)
def spCopied (K : PySem.W.Frag) : Sp := fun vs H Q _ => ∃ (r : Addr) (xs : List V), vs = [.ref r] ∧ SqL K H r xs ∧ xs.length ≤ 1000 ∧ ∀ (H' : Hp) (p : Addr), Same H H' → H p = none → H' p = some (.lst xs) → Q (.ref p) H'
def spFamily : Sp := fun vs H Q _ => ∃ (a L : Addr) (ns : List Int) (wd m : Nat), vs = [.ref a, .int (wd : Nat), .int (m : Nat)] ∧ Src H a L ns ∧ wd ≤ 4 ∧ m ≤ 100 ∧
  ∀ (H' : Hp) (p : Addr) (ms : List Nat), Fam ms → H p = none → H' p = some (.lst (natsV ms)) → Src H' a L ns → SmX [a] H H' → Q (.ref p) H'
def spRows (K : PySem.W.Frag) : Sp := fun vs H Q _ => ∃ (r : Addr) (ms : List Nat), vs = [.ref r] ∧ SqL K H r (natsV ms) ∧ ms.length ≤ 60 ∧ ∀ (H' : Hp) (p : Addr), Same H H' → H p = none → H' p = some (.lst ((rowsOf ms).map V.str)) → Q (.ref p) H'
def spSomeRows : Sp := fun vs H Q _ => ∃ (a L : Addr) (ns : List Int), vs = [.ref a] ∧ Src H a L ns ∧
  ∀ (H' : Hp) (p : Addr) (ms : List Nat), Fam ms → H p = none → H' p = some (.lst ((rowsOf ms).map V.str)) → Src H' a L ns → SmX [a] H H' → Q (.ref p) H'
theorem str01 (b : Bool) : ((toString (if b = true then (1 : Int) else 0) : String) : Str) = ⟨#[if b = true then 49 else 48]⟩ := by
  cases b <;> decide +kernel
theorem log01 (b : Bool) : (if b = true then (1 : Int) else 0).natAbs.log2 < 1920 := by
  cases b <;> decide +kernel
theorem subM_dec (a b : Nat) : decide (V.int ((a &&& b : Nat) : Int) = V.int ((a : Nat) : Int)) = subM a b := by
  unfold subM
  rw [Bool.eq_iff_iff, decide_eq_true_eq, decide_eq_true_eq]
  exact ⟨fun h => by have := V.int.inj h; omega, fun h => by rw [h]⟩
theorem shl_nat {wd : Nat} (h : wd ≤ 4) : (1 : Int) * 2 ^ ((wd : Nat) : Int).toNat = ((2 ^ wd : Nat) : Int) := by
  have all : ∀ wd ≤ 4, (1 : Int) * 2 ^ ((wd : Nat) : Int).toNat = ((2 ^ wd : Nat) : Int) := by decide
  exact all wd h
theorem fam_a : Fam [0, 1, 2, 4, 7] := ⟨by decide, by decide, ⟨7, by decide, by decide⟩, by decide⟩
theorem fam_b : Fam [0, 1, 3, 4, 7] := ⟨by decide, by decide, ⟨7, by decide, by decide⟩, by decide⟩
section
variable {P : Program} {w : World} {K : PySem.W.Frag} {mg : Str → Option Value} {base : Heap}
theorem ok_copied {f : Addr} {fd : FuncData} {k : Nat} (F : Fun K "_law_copied" "_law_copied" s_law_copied f fd) :
    FnOk P w K mg base CX0 (k + 1) f fd ["_law_row"] (spCopied K) := by
  refine F.ok sc_law_copied (fun vs H Q E h => ?_) (fun cdv A outer s H vs Q E hr h => ?_)
  · obtain ⟨r, xs, rfl, _⟩ := h
    rfl
  · obtain ⟨r, xs, rfl, hr0, hl, good⟩ := h
    refine ⟨_, (pss_one (ps_ret (pe_lc (own := [("_law_one", 1)]) (g := gName 1) (by rfl) sc_law_copied.nd (pi_list (pv 0)) (blkOk_by (own := [("_law_one", 1)]) (N := N_law_copied) (sc := defScope s_law_copied) (by decide +kernel)) (fun _ _ _ _ _ => pg_name (i := 1) sc_law_copied.nd rfl (Or.inl rfl)) (fun _ _ _ _ _ => pts_nil) (fun _ _ _ _ _ => (pv 1))))), ?_⟩
    refine ⟨_, rfl, r, rfl, ⟨_, hr0⟩, fun D nD => lc_list (xs := xs) (fun j H' => Same H H' ∧ H' D = some (.lst (xs.take j))) ?_ ?_ ?_ ?_⟩
    · exact ⟨same_upd nD, upd_same⟩
    · rintro j H' _ ⟨sm, _⟩
      exact sm.seq hr0
    · rintro j x H' hx ⟨sm, hD⟩
      refine ⟨rfl, ?_⟩
      dsimp only [tYes]
      rw [if_pos rfl]
      refine ⟨_, rfl, _, hD, small1000 (by rw [List.length_take]; omega), fun c o e => ?_, ?_⟩
      · rw [upd_ne (ne_of_none e nD)]; exact sm _ _ e
      · rw [upd_same, List.take_add_one, hx]; rfl
    · rintro H' ⟨sm, hD⟩
      rw [List.take_length] at hD
      exact good H' D sm nD hD
theorem ok_rows {f : Addr} {fd : FuncData} {k : Nat} (F : Fun K "_law_rows" "_law_rows" s_law_rows f fd) (m_str : mg "str" = none) (m_int : mg "int" = none) :
    FnOk P w K mg base CX0 (k + 1) f fd ["_law_masks"] (spRows K) := by
  refine F.ok sc_law_rows (fun vs H Q E h => ?_) (fun cdv A outer s H vs Q E hr h => ?_)
  · obtain ⟨r, ms, rfl, _⟩ := h
    rfl
  · obtain ⟨r, ms, rfl, hr0, hl, good⟩ := h
    refine ⟨_, (pss_one (ps_ret (pe_lc (own := [("_law_one", 2)]) (g := gName 2) (by rfl) sc_law_rows.nd (pi_listK (K := K) rfl (pv 0)) (blkOk_by (own := [("_law_one", 2)]) (N := N_law_rows) (sc := defScope s_law_rows) (by decide +kernel)) (fun _ _ _ _ _ => pg_name (i := 2) sc_law_rows.nd rfl (Or.inr rfl)) (fun _ _ _ _ _ => pts_nil) (fun _ _ _ _ _ => (pe_joinK (K := K) rfl pe_str (pe_lc (own := [("_law_mother", 1)]) (g := gName 1) (by rfl) sc_law_rows.nd (pi_listK (K := K) rfl (pv 0)) (blkOk_by (own := [("_law_mother", 1)]) (N := N_law_rows) (by exact rfl)) (fun _ _ _ _ _ => pg_name (i := 1) sc_law_rows.nd rfl (Or.inl rfl)) (fun _ _ _ _ _ => pts_nil) (fun _ _ _ _ _ => (pe_callTy call_str_int (by rfl) m_str (by decide +kernel) (pa_cons (pe_callTy call_int1 (by rfl) m_int (by decide +kernel) (pa_cons (pe_cmpR op_eq (pe_op L2.op_and (pv 2) (pv 1)) (pv 2) (nomark _)) pa_nil)) pa_nil))))))))), ?_⟩
    refine ⟨_, rfl, r, rfl, ⟨_, hr0⟩, fun D nD => lc_list (xs := natsV ms) (fun j H' => Same H H' ∧ H' D = some (.lst ((ms.take j).map fun a => V.str (mk (rowC ms a))))) ?_ ?_ ?_ ?_⟩
    · exact ⟨same_upd nD, upd_same⟩
    · rintro j H' _ ⟨sm, _⟩
      exact sm.seq hr0
    · rintro j x H' hx ⟨sm, hD⟩
      obtain ⟨a, ha, rfl⟩ := nats_get hx
      refine ⟨rfl, ?_⟩
      refine yes_it ⟨⟨_, rfl⟩, _, rfl, r, rfl, ⟨_, sm.seq hr0⟩, fun D2 nD2 => lc_list (xs := natsV ms) (fun i H2 => Same H' H2 ∧ H2 D2 = some (.lst ((ms.take i).map fun b => V.str ⟨#[if subM a b = true then 49 else 48]⟩))) ?_ ?_ ?_ ?_⟩
      · exact ⟨same_upd nD2, upd_same⟩
      · rintro i H2 _ ⟨sm2, _⟩
        exact (sm.trans sm2).seq hr0
      · rintro i y H2 hy ⟨sm2, hD2⟩
        obtain ⟨b, hb, rfl⟩ := nats_get hy
        refine ⟨rfl, ?_⟩
        refine yes_it ⟨_, rfl, _, rfl, _, _, rfl, rfl, ?_⟩
        dsimp only
        rw [bitAnd_nat]
        refine ⟨_, rfl, rfl, .inr ⟨_, rfl, _, rfl, log01 _, ?_⟩⟩
        rw [subM_dec, str01]
        refine ⟨_, hD2, small1000 (by rw [List.length_map, List.length_take]; omega), fun c o e => ?_, ?_⟩
        · rw [upd_ne (ne_of_none e nD2)]; exact sm2 _ _ e
        · rw [upd_same, List.take_add_one, hb, List.map_append]; rfl
      · rintro H2 ⟨sm2, hD2⟩
        rw [nats_len, List.take_length] at hD2
        have ej : (ms.map fun b => V.str (⟨#[if subM a b = true then 49 else 48]⟩ : Str)) = ((rowC ms a).map fun c => (⟨#[c]⟩ : Str)).map V.str := by
          unfold rowC
          rw [List.map_map, List.map_map]
          rfl
        rw [ej] at hD2
        refine ⟨"", D2, (rowC ms a).map fun c => (⟨#[c]⟩ : Str), rfl, rfl, .inl (SqL.of hD2), ?_, ?_⟩
        · rw [sum_ones, List.length_map]
          unfold rowC
          rw [List.length_map]
          show ms.length + ms.length * 0 ≤ _
          omega
        · rw [join_empty]
          refine ⟨_, sm2 _ _ hD, small1000 (by rw [List.length_map, List.length_take]; omega), fun c o e => ?_, ?_⟩
          · rw [upd_ne (ne_of_none e nD)]; exact sm2 _ _ (sm _ _ e)
          · rw [upd_same, List.take_add_one, ha, List.map_append]; rfl
    · rintro H' ⟨sm, hD⟩
      rw [nats_len, List.take_length] at hD
      refine good H' D sm nD ?_
      rw [hD]
      unfold rowsOf
      rw [List.map_map]
      rfl
theorem ok_family {f : Addr} {fd : FuncData} {k : Nat} (F : Fun K "_law_family" "_law_family" s_law_family f fd) (m_range : mg "range" = none) (hk : 2 ≤ k)
    (C_law_take : Own P w K mg base 1 "_law_take" ["_law_source_here", "_law_many"] spTake)
    (C_law_mixed : Own P w K mg base 2 "_law_mixed" ["_law_source_here", "_law_row"] spMixed)
    (C_law_copied : Own P w K mg base 1 "_law_copied" ["_law_row"] (spCopied K)) :
    FnOk P w K mg base CX0 (k + 1) f fd ["_law_source_here", "_law_wide", "_law_many"] spFamily := by
  refine F.ok sc_law_family (fun vs H Q E h => ?_) (fun cdv A outer s H vs Q E hr h => ?_)
  · obtain ⟨a, L, ns, wd, m, rfl, _⟩ := h
    rfl
  · obtain ⟨a, L, ns, wd, m, rfl, hs, hw, hm, good⟩ := h
    refine ⟨_, (pss_cons (ps_set (i := 3) sc_law_family.nd rfl (by first | exact .inl rfl | exact .inr rfl) (pe_lst (pa_cons (pe_op op_sub (pe_op op_shl pe_int (pv 1)) pe_int) pa_nil)))
      (pss_cons (ps_for PassesOwn.never rfl (pi_range1 (by rfl) m_range (pa_cons (pv 2) pa_nil)) (pg_name (i := 4) sc_law_family.nd rfl (by first | exact .inl rfl | exact .inr rfl))
        (pss_cons (ps_set (i := 5) sc_law_family.nd rfl (by first | exact .inl rfl | exact .inr rfl) (pe_own C_law_take (hr.mono (by omega)) (by rfl) (pa_cons (pv 0) (pa_cons (pe_op op_shl pe_int (pv 1)) pa_nil))))
        (pss_one (ps_for PassesOwn.never rfl (pi_list (pe_own C_law_copied (hr.mono (by omega)) (by rfl) (pa_cons (pv 3) pa_nil))) (pg_name (i := 6) sc_law_family.nd rfl (by first | exact .inl rfl | exact .inr rfl))
          (pss_one (ps_if (pt_cmpR op_notIn_seq (pe_op L2.op_and (pv 5) (pv 6)) (pv 3) (by rfl))
            (pss_one (ps_expr (pe_bm PySem.F.plainAttrs_list PySem.F.slot_list_append PySem.F.type_list_append mt_append (pv 3) (pa_cons (pe_op L2.op_and (pv 5) (pv 6)) pa_nil))))
            pss_nil))))))
      (pss_one (ps_ret (pe_own C_law_mixed (hr.mono (by omega)) (by rfl) (pa_cons (pv 0) (pa_cons (pv 3) pa_nil))))))), ?_⟩
    have p2 : 2 ^ wd ≤ 16 := Nat.pow_le_pow_right (show 0 < 2 by decide) hw
    have p1 : 0 < 2 ^ wd := Nat.two_pow_pos wd
    refine ⟨_, rfl, _, _, rfl, rfl, ⟨by omega, by omega, by decide⟩, _, _, rfl, rfl, (by show 1 ≤ sizeLine; decide), fun fo nfo => ?_⟩
    have e0 : upd H fo (.lst [V.int ((1 : Int) * 2 ^ ((wd : Nat) : Int).toNat - 1)]) fo = some (.lst (natsV [2 ^ wd - 1])) := by
      rw [upd_same, shl_nat hw, show ((2 ^ wd : Nat) : Int) - 1 = ((2 ^ wd - 1 : Nat) : Int) by omega]
      rfl
    have fa : fo ≠ a := (hs.ne nfo).symm
    have fL : fo ≠ L := hs.neL' nfo
    refine ⟨_, rfl, (m : Nat), rfl, by omega, by omega, for_range (lo := 0) (n := ((m : Nat) : Int).toNat) (fun i σ H1 => ∃ (y4 y5 y6 : Option V) (fs : List Nat), σ = [some (.ref a), some (.int (wd : Nat)), some (.int (m : Nat)), some (.ref fo), y4, y5, y6] ∧ FI wd fs ∧ H1 fo = some (.lst (natsV fs)) ∧ Src H1 a L ns ∧ SmX [a] H H1) ?_ ?_ ?_⟩
    · exact ⟨none, none, none, _, rfl, FI.one wd, e0, hs.off nfo fun c hc => upd_ne hc, SmX.new nfo⟩
    · rintro i σ H1 hi ⟨y4, y5, y6, fs, rfl, hF, hfo, hs1, sm1⟩
      refine ⟨_, rfl, _, rfl, _, _, rfl, rfl, ⟨by omega, by omega, by decide⟩, ?_⟩
      have pw := shl_nat hw
      refine ⟨a, L, ns, (1 : Int) * 2 ^ ((wd : Nat) : Int).toNat, rfl, hs1, (by rw [pw]; omega), (by rw [pw]; omega), fun H2 d d0 d1 hs2 off2 => ?_⟩
      rw [pw] at d1
      have hfo2 : H2 fo = some (.lst (natsV fs)) := (off2 fo fa).trans hfo
      have lf := (hF.fam hw).ln
      obtain ⟨md, rfl⟩ : ∃ md : Nat, d = (md : Nat) := ⟨d.toNat, by omega⟩
      refine ⟨_, rfl, fo, _, rfl, SqL.of hfo2, by rw [nats_len]; omega, fun H3 cp s3 ncp hcp => ?_⟩
      have hfo3 := s3 _ _ hfo2
      have cpf : cp ≠ fo := (ne_of_none hfo2 ncp).symm
      have sm2 : SmX [a] H H2 := sm1.trans (SmX.at off2 (List.mem_singleton.mpr rfl))
      refine ⟨cp, rfl, ⟨_, SqL.of hcp⟩, for_list (xs := natsV fs) (fun j σ H4 => ∃ (y6 : Option V) (gs : List Nat), σ = [some (.ref a), some (.int (wd : Nat)), some (.int (m : Nat)), some (.ref fo), some (.int (0 + (i : Nat))), some (.int (md : Nat)), y6] ∧ FJ wd md fs j gs ∧ H4 fo = some (.lst (natsV gs)) ∧ H4 cp = some (.lst (natsV fs)) ∧ Src H4 a L ns ∧ SmX [a] H H4) ?_ ?_ ?_ ?_⟩
      · exact ⟨_, fs, rfl, ⟨hF.nd, fun a ha => ha, fun a ha => (by cases ha), fun a ha => .inl ha⟩, hfo3, hcp, hs2.same s3, sm2.trans (SmX.of_same s3)⟩
      · rintro j σ H4 _ ⟨y6, gs, rfl, _, _, h4, _⟩
        exact SqL.of h4
      · rintro j x σ H4 hx ⟨y6, gs, rfl, hJ, hfo4, hcp4, hs4, sm4⟩
        obtain ⟨b, hb, rfl⟩ := nats_get hx
        have mb : b ∈ fs := List.mem_of_getElem? hb
        have lg := hJ.len hF hw
        have et : fs.take (j + 1) = fs.take j ++ [b] := by rw [List.take_add_one, hb]; rfl
        refine ⟨_, rfl, _, rfl, _, _, rfl, rfl, ?_⟩
        dsimp only
        rw [bitAnd_nat]
        refine ⟨_, rfl, fo, _, rfl, .inl (SqL.of hfo4), rfl, flat_nats gs, _, rfl, ?_⟩
        rw [inV_nats]
        by_cases c : md &&& b ∈ gs
        · rw [decide_eq_true c]
          refine iteF ⟨_, gs, rfl, ⟨hJ.nd, hJ.old, fun x hx => ?_, hJ.all⟩, hfo4, hcp4, hs4, sm4⟩
          rw [et] at hx
          rcases List.mem_append.mp hx with z | z
          · exact hJ.done x z
          · rw [List.mem_singleton.mp z]; exact c
        · rw [decide_eq_false c]
          refine iteT ⟨_, rfl, .inl ⟨rfl, _, SqL.of hfo4⟩, _, rfl, _, rfl, _, _, rfl, rfl, ?_⟩
          dsimp only
          rw [bitAnd_nat]
          refine ⟨fo, _, _, rfl, rfl, hfo4, small1000 (by rw [nats_len]; omega), _, gs ++ [md &&& b], rfl, ⟨?_, fun x hx => List.mem_append_left _ (hJ.old x hx), fun x hx => ?_, fun x hx => ?_⟩, ?_, ?_, ?_, ?_⟩
          · rw [List.nodup_append]
            refine ⟨hJ.nd, by simp, fun x hx y hy z => c ?_⟩
            rw [← List.mem_singleton.mp hy, ← z]; exact hx
          · rw [et] at hx
            rcases List.mem_append.mp hx with z | z
            · exact List.mem_append_left _ (hJ.done x z)
            · rw [List.mem_singleton.mp z]; exact List.mem_append_right _ (List.mem_singleton.mpr rfl)
          · rcases List.mem_append.mp hx with z | z
            · exact hJ.all x z
            · exact .inr ⟨b, mb, List.mem_singleton.mp z⟩
          · rw [upd_same]; unfold natsV; rw [List.map_append]; rfl
          · rw [upd_ne cpf]; exact hcp4
          · exact hs4.put fa fL
          · exact fun x o n e => by
              have nx : x ≠ fo := ne_of_none e nfo
              rw [upd_ne nx]; exact sm4 x o n e
      · rintro σ H4 ⟨y6, gs, rfl, hJ, hfo4, hcp4, hs4, sm4⟩
        rw [nats_len] at hJ
        exact ⟨_, _, _, gs, rfl, hJ.fi hF (by omega), hfo4, hs4, sm4⟩
    · rintro σ H1 ⟨y4, y5, y6, fs, rfl, hF, hfo, hs1, sm1⟩
      have lf := (hF.fam hw).ln
      refine ⟨_, rfl, _, rfl, a, L, fo, ns, _, rfl, hs1, fa, hfo, by rw [nats_len]; omega, fun H2 p ys pm np hp hs2 off2 => ?_⟩
      obtain ⟨gs, pg, rfl⟩ := perm_nats pm
      refine good H2 p gs ((hF.fam hw).perm pg) (smx_none' sm1 hs1 np) hp hs2 (sm1.trans fun x o n e => ?_)
      rw [off2 x (fun z => n (List.mem_singleton.mpr z)) (ne_of_none e np)]; exact e
theorem ok_some_rows {f : Addr} {fd : FuncData} {k : Nat} (F : Fun K "_law_some_rows" "_law_some_rows" s_law_some_rows f fd) (hk : 3 ≤ k)
    (C_law_take : Own P w K mg base 1 "_law_take" ["_law_source_here", "_law_many"] spTake)
    (C_law_mixed : Own P w K mg base 2 "_law_mixed" ["_law_source_here", "_law_row"] spMixed)
    (C_law_rows : Own P w K mg base 1 "_law_rows" ["_law_masks"] (spRows K))
    (C_law_family : Own P w K mg base 3 "_law_family" ["_law_source_here", "_law_wide", "_law_many"] spFamily) :
    FnOk P w K mg base CX0 (k + 1) f fd ["_law_source_here"] spSomeRows := by
  refine F.ok sc_law_some_rows (fun vs H Q E h => ?_) (fun cdv A outer s H vs Q E hr h => ?_)
  · obtain ⟨a, L, ns, rfl, _⟩ := h
    rfl
  · obtain ⟨a, L, ns, rfl, hs, good⟩ := h
    refine ⟨_, (pss_cons (ps_set (i := 1) sc_law_some_rows.nd rfl (by first | exact .inl rfl | exact .inr rfl) (pe_own C_law_take (hr.mono (by omega)) (by rfl) (pa_cons (pv 0) (pa_cons pe_int pa_nil))))
      (pss_cons (ps_if (pt_cmpR op_eq (pv 1) pe_int (nomark _))
        (pss_one (ps_ret (pe_own C_law_rows (hr.mono (by omega)) (by rfl) (pa_cons (pe_own C_law_mixed (hr.mono (by omega)) (by rfl) (pa_cons (pv 0) (pa_cons (pe_lst (pa_cons pe_int (pa_cons pe_int (pa_cons pe_int (pa_cons pe_int (pa_cons pe_int pa_nil)))))) pa_nil))) pa_nil))))
        pss_nil)
      (pss_cons (ps_if (pt_cmpR op_eq (pv 1) pe_int (nomark _))
        (pss_one (ps_ret (pe_own C_law_rows (hr.mono (by omega)) (by rfl) (pa_cons (pe_own C_law_mixed (hr.mono (by omega)) (by rfl) (pa_cons (pv 0) (pa_cons (pe_lst (pa_cons pe_int (pa_cons pe_int (pa_cons pe_int (pa_cons pe_int (pa_cons pe_int pa_nil)))))) pa_nil))) pa_nil))))
        pss_nil)
      (pss_one (ps_ret (pe_own C_law_rows (hr.mono (by omega)) (by rfl) (pa_cons (pe_own C_law_family (hr.mono (by omega)) (by rfl) (pa_cons (pv 0) (pa_cons (pe_op op_add pe_int (pe_op op_fdiv (pv 1) pe_int)) (pa_cons (pe_own C_law_take (hr.mono (by omega)) (by rfl) (pa_cons (pv 0) (pa_cons pe_int pa_nil))) pa_nil)))) pa_nil))))))), ?_⟩
    have five : ∀ (H1 : Hp) (ms : List Nat), Fam ms → Src H1 a L ns → SmX [a] H H1 → ∀ p, H1 p = none → ∀ (R : VK), (∀ H' v, (∃ (q : Addr) (gs : List Nat), v = .ref q ∧ Fam gs ∧ H q = none ∧ H' q = some (.lst ((rowsOf gs).map V.str)) ∧ Src H' a L ns ∧ SmX [a] H H') → R v H') → spMixed [.ref a, .ref p] (upd H1 p (.lst (natsV ms))) (fun v H' => spRows K [v] H' R (fun _ _ _ => False)) (fun _ _ _ => False) := by
      intro H1 ms fm hs1 sm1 p np R hR
      have pa : p ≠ a := (hs1.ne np).symm
      have lf := fm.ln
      refine ⟨a, L, p, ns, _, rfl, hs1.off np fun c hc => upd_ne hc, pa, upd_same, by rw [nats_len]; omega, fun H2 q ys pm nq hq hs2 off2 => ?_⟩
      obtain ⟨gs, pg, rfl⟩ := perm_nats pm
      have fg := fm.perm pg
      have lg := fg.ln
      have sm2 : SmX [a] H H2 := (sm1.trans (SmX.new np)).trans fun x o n e => by rw [off2 x (fun z => n (List.mem_singleton.mpr z)) (ne_of_none e nq)]; exact e
      refine ⟨q, gs, rfl, SqL.of hq, by omega, fun H3 t s3 nt ht => hR _ _ ⟨t, gs, rfl, fg, ?_, ht, hs2.same s3, sm2.trans (SmX.of_same s3)⟩⟩
      exact smx_none' sm2 hs2 nt
    refine ⟨_, rfl, a, L, ns, 4, rfl, hs, by decide, by decide, fun H1 d d0 d1 hs1 off1 => ?_⟩
    have sm1 : SmX [a] H H1 := SmX.at off1 (List.mem_singleton.mpr rfl)
    have hR : ∀ H' v, (∃ (q : Addr) (gs : List Nat), v = .ref q ∧ Fam gs ∧ H q = none ∧ H' q = some (.lst ((rowsOf gs).map V.str)) ∧ Src H' a L ns ∧ SmX [a] H H') → Q v H' := fun H' v ⟨q, gs, e, fg, nq, hq, h1, h2⟩ => by
      rw [e]; exact good H' q gs fg nq hq h1 h2
    refine ⟨_, rfl, rfl, _, rfl, ?_⟩
    refine ite2 (fun c0 => ?_) (fun c0 => ?_)
    · refine ⟨_, rfl, (by show 5 ≤ sizeLine; decide), fun p np => ?_⟩
      exact five H1 [0, 1, 2, 4, 7] fam_a hs1 sm1 p np _ hR
    refine ⟨_, rfl, rfl, _, rfl, ?_⟩
    refine ite2 (fun c1 => ?_) (fun c1 => ?_)
    · refine ⟨_, rfl, (by show 5 ≤ sizeLine; decide), fun p np => ?_⟩
      exact five H1 [0, 1, 3, 4, 7] fam_b hs1 sm1 p np _ hR
    refine ⟨_, rfl, _, rfl, _, _, rfl, rfl, ⟨by decide, by decide⟩, _, _, rfl, rfl, _, rfl, a, L, ns, 4, rfl, hs1, by decide, by decide, fun H2 m m0 m1 hs2 off2 => ?_⟩
    have sm2 : SmX [a] H H2 := sm1.trans (SmX.at off2 (List.mem_singleton.mpr rfl))
    obtain ⟨mn, rfl⟩ : ∃ mn : Nat, m = (mn : Nat) := ⟨m.toNat, by omega⟩
    obtain ⟨wn, ew, hw⟩ : ∃ wn : Nat, 3 + d / 3 = ((wn : Nat) : Int) ∧ wn ≤ 4 := ⟨(3 + d / 3).toNat, by omega, by omega⟩
    refine ⟨a, L, ns, wn, mn, (show [V.ref a, V.int (3 + d / 3), V.int (mn : Nat)] = [V.ref a, V.int (wn : Nat), V.int (mn : Nat)] by rw [ew]), hs2, hw, by omega, fun H3 p ms fm np hp hs3 sm3 => ?_⟩
    have sm23 := sm2.trans sm3
    have lf := fm.ln
    refine ⟨p, ms, rfl, SqL.of hp, by omega, fun H4 t s4 nt ht => good H4 t ms fm ?_ ht (hs3.same s4) (sm23.trans (SmX.of_same s4))⟩
    exact smx_none' sm23 hs3 nt
end
end Fv


set_option maxHeartbeats 2000000
namespace FvX
open PySem PySem.Spec PyProof.Rows L2
/-! ### try: .. except x as n: .. except ..: ..; the first clause takes what comes -/
/-- what the first clause wishes -/
def wFst (K : PySem.W.Frag) (c : Value) (i : Nat) (ts : Addr → Value → Option Addr → TS) (D : Ends) : WX := fun cls dd σ H => PySem.W.exmOne K cls c = some true ∧
  ∀ a, H a = none → ts a cls dd { nx := fun σ' H' => D.nx (σ'.set i none) H', rt := D.rt, bk := fun σ' H' => D.bk (σ'.set i none) H', ct := fun σ' H' => D.ct (σ'.set i none) H' } (σ.set i (some (.ref a))) H
section
variable {X : Cx} {x n : Str} {c : Value} {i : Nat} {bd su : List Stmt} {b1 : Stmt} {np tp hp' : Pos} {more : List ExceptHandler} {tb : WX → TS} {ts : Addr → Value → Option Addr → TS}
theorem ps_try_first (hstk : X.stack = X.env :: X.outer) (hfrm : X.env.frame = some X.env.locals) (nd : X.N.Nodup) (hix : X.N[i]? = some n) (hlc : X.env.kindOf n = some .local) (hcl : Names X x c)
    (hbd : ∀ (W : WX) (pn : List (Addr × Obj)) (xe : Value → Shared → Prop), Takes (X.tr pn xe) W → PassesOwn (model X.prog X.w) X.A X.env xe → PSs (X.tr pn xe) bd (tb W))
    (hsu : ∀ (a : Addr) (oe : Obj) (cls : Value) (dd : Option Addr) (pn : List (Addr × Obj)), Zc cls dd oe → (∃ vs, oe.data = .fields vs) → PSs (X.suite a ((a, oe) :: pn)) (b1 :: su) (ts a cls dd)) :
    PS X (.Try bd (.ExceptHandler (some (.Name x np)) (some n) (b1 :: su) hp' :: more) [] [] tp) (fun D σ H => tb (wFst X.K c i ts D) D σ H) := by
  refine ⟨fun pins s σ H D I hW => wpAny_Try_except ?_⟩
  have fr : X.A.frames = some (X.env :: X.outer) := I.ok.frames.trans (congrArg some hstk)
  let land : Value → Shared → Prop := fun e s1 => wpAny (model X.prog X.w) X.A (noteFrame e X.env) (fun _ s2 => wpAny (model X.prog X.w) X.A (setFlight e none) (fun _ s3 => wpAny (model X.prog X.w) X.A (handleBy e X.env (.ExceptHandler (some (.Name x np)) (some n) (b1 :: su) hp' :: more)) (SP X pins D) X.xe s3) X.xe s2) X.xe s1
  have caught : Takes (X.tr (X.pn ++ pins) land) (wFst X.K c i ts D) := by
    rintro u s' ⟨a, B, sI, pins', σ', H', cls, dd, rfl, J', nb, up, sky, na, os, ag, hm, hyes⟩
    have J : Inv X pins σ' H' sI := J'.ofTry I.ok
    show wpAny (model X.prog X.w) X.A (noteFrame (.ref a) X.env) _ _ _
    refine Sky.land Zc.steady fr hfrm (show Sky B (X.env :: X.outer) a (Zc cls dd) X.env.locals s'.heap from hstk ▸ sky) fun h3 fl up3 => ?_
    have J3 : Inv X pins σ' H' { s' with heap := h3 } := J.landed nb fl.1 (up.trans up3) os ag
    obtain ⟨o3, v3, g3, z3, d3⟩ := fl.there
    have apart : a ∉ frs (X.env :: X.outer) := fun hin => by
      obtain ⟨_, o', g', no⟩ := fl.2.2.1.mem hin
      rw [g3] at g'
      cases g'
      exact no _ d3
    have aL : a ≠ X.env.locals := fun z => apart (List.mem_filterMap.mpr ⟨X.env, List.mem_cons_self, hfrm.trans (congrArg some z.symm)⟩)
    have aF : a ∉ X.fs := fun hin => by
      obtain ⟨e, he, z⟩ := List.mem_filterMap.mp hin
      exact apart (List.mem_filterMap.mpr ⟨e, List.mem_cons_of_mem _ he, z⟩)
    have S3 := J3.suite g3 d3 na aL aF
    have tyIs : PySem.W.Looks (model X.prog X.w) h3 (typeOf (.ref a)) cls := fun A Q E s k z => wpAny_typeOf_ref (k _ _ g3) (z3.1.symm ▸ z)
    have meets := PySem.W.exm_one (M := model X.prog X.w) J3.kIn tyIs hm
    refine wpAny_handleBy_cons (codeAny_handlers_test ?_) (fun z => by cases z)
    have ask : ∀ {Q : Value → Shared → Prop} {E : Value → Shared → Prop}, Q c { s' with heap := h3 } → wpAny (model X.prog X.w) (X.A.mark (some (.ref a))) (eval (.Name x np) X.env) Q E { s' with heap := h3 } := fun {Q E} z => by
      rcases hcl with ⟨gl, nd', m | ⟨m, bv, nn⟩⟩
      · exact ld_glob (X := X.suite a ((a, o3) :: (X.pn ++ pins))) S3 gl m z nd'
      · exact ld_blt (X := X.suite a ((a, o3) :: (X.pn ++ pins))) S3 gl m bv z nn nd'
    refine ask (meets.here (codeAny_handlers_suite_as (HandSPX.lands_againZ fl fun h4 fl4 up4 => ?_)))
    have J4 : Inv X pins σ' H' { s' with heap := h4 } := J.landed nb fl4.1 ((up.trans up3).trans up4) os ag
    obtain ⟨o4, v4, g4, z4, d4⟩ := fl4.there
    refine store_ok (X := X.suite a ((a, o4) :: (X.pn ++ pins))) (v := .ref a) (J4.suite g4 d4 na aL aF) nd hix (.inl hlc) rfl (fun s5 S5 => ?_) (.inr hlc)
    refine wpAny_mono ((hsu a o4 cls dd (X.pn ++ pins) z4 ⟨_, d4⟩).run [] s5 _ H' _ S5 (hyes a na)) (fun fl6 s6 q6 => ?_) (fun _ _ z => z.elim)
    have gone : ∀ {σ6 : L2.St} {H6 : Hp} {Q : Shared → Prop}, Inv (X.suite a ((a, o4) :: (X.pn ++ pins))) [] σ6 H6 s6 → (∀ s7, Inv X pins (σ6.set i none) H6 s7 → Q s7) →
        wpAny (model X.prog X.w) X.A (do bindName X.env n .none; unbindBehindTheSuite X.env n hp') (fun _ s7 => Q s7) X.xe s6 := fun {σ6 H6 Q} S6 z => gone_ok (S6.unsuite I.ok) nd hix hlc z
    cases fl6 with
    | ret u => obtain ⟨v6, σ6, H6, S6, r6, z6⟩ := q6; exact gone S6 fun s7 J7 => ⟨_, _, _, J7, r6, z6⟩
    | next => obtain ⟨σ6, H6, S6, z6⟩ := q6; exact gone S6 fun s7 J7 => ⟨_, _, J7, z6⟩
    | brk => obtain ⟨σ6, H6, S6, z6⟩ := q6; exact gone S6 fun s7 J7 => ⟨_, _, J7, z6⟩
    | cont => obtain ⟨σ6, H6, S6, z6⟩ := q6; exact gone S6 fun s7 J7 => ⟨_, _, J7, z6⟩
  refine wpAny_mono ((hbd (wFst X.K c i ts D) (X.pn ++ pins) land caught PassesOwn.looking).run [] s σ H D (I.toTry _) hW) (fun fl s1 z => ?_) (fun e s1 z => z)
  cases fl with
  | ret u => obtain ⟨v, σ', H', J', r, z⟩ := z; exact ⟨v, σ', H', J'.ofTry I.ok, r, z⟩
  | next => obtain ⟨σ', H', J', z⟩ := z; exact wpAny_execs_nil ⟨σ', H', J'.ofTry I.ok, z⟩
  | brk => obtain ⟨σ', H', J', z⟩ := z; exact ⟨σ', H', J'.ofTry I.ok, z⟩
  | cont => obtain ⟨σ', H', J', z⟩ := z; exact ⟨σ', H', J'.ofTry I.ok, z⟩
end
/-! ### e.f of the caught error -/
section
variable {X : Cx} {a : Addr} {oe : Obj} {cls : Value} {d : Option Addr} {pn : List (Addr × Obj)} {i : Nat} {n f : Str} {p pos : Pos}
theorem pe_errf (hz : Zc cls d oe) (hf : ∃ vs, oe.data = .fields vs) (hv : PE (X.suite a ((a, oe) :: pn)) (.Name n p) (tVar i)) (hb : attributeBase (.Name n p) f X.env (eval (.Name n p) X.env) = eval (.Name n p) X.env := by rfl) :
    PE (X.suite a ((a, oe) :: pn)) (.Attribute (.Name n p) f pos) (fun σ H Q => σ[i]? = some (some (.ref a)) ∧ ∃ (C dd : Addr) (fs : List (Str × V)) (v : V), cls = .ref C ∧ XfC X.K C ∧ PySem.W.findIn X.K (.ref C) f = some none ∧ d = some dd ∧ H dd = some (.xd fs) ∧ fs.lookup f = some v ∧ Q v H) := by
  refine ⟨fun pins s σ H Q I h => ?_⟩
  obtain ⟨h1, C, dd, fs, v, h2, T, h3, h4, h5, h6, q⟩ := h
  exact (pe_xf T h3 hz hf hv hb).run pins s σ H Q I ⟨_, h1, rfl, h2, dd, fs, v, h4, h5, h6, q⟩
end
end FvX


set_option maxHeartbeats 2000000
namespace FvX
open PySem PySem.Spec PyProof.Rows L2 LamX
/-! ### x(lambda: body), where x calls what it got within a try and goes on behind it -/
section
variable {X : Cx} {pins : List (Addr × Obj)} {σ : L2.St} {H : Hp} {s : Shared}
/-- the call of the lambda; what it raises is told of the very slots -/
theorem pe_actS {Eg : XK} {Ng : List Str} {qg : Str} {sg : Scope} {gf lf lc : Addr} {cdg pm ctv : Value} {pr : Arguments} {bd : Expr} {sc : Scope} {k i : Nat} {nm : Str} {pn : List (Addr × Obj)} {xe : Value → Shared → Prop} {W : WX} {E : XK} {tb : TE} {p1 p2 : Pos}
    (I : Inv X pins σ H s) (L : LamS X.env.scope sc) (hobj : s.heap.get? lf = some (PySem.W.kla_obj "<lambda>" (X.env.qual ++ "<lambda>") pr bd sc (cloFrom X.env.cells sc.names []) pm lc ctv)) (hn : H lf = none) (hnf : lf ∉ frs X.stack)
    (hbnd : bindArgs (PySem.W.kla_fn "<lambda>" (X.env.qual ++ "<lambda>") pr bd sc (cloFrom X.env.cells sc.names []) pm (.ref lc) ctv) ⟨[], []⟩ = pure [])
    (tk : Takes ((cxOf C8.CX0 X.prog X.w X.K X.mg X.base Ng qg sg gf cdg X.A X.stack s H Eg).tr pn xe) W) (hr : Room (k + 1) (X.A.deeper (envOfC qg sg s.heap.objs.size gf cdg)))
    (hbd : ∀ (A : Around) (outer : List Env) (s : Shared) (H : Hp), Room k (A.deeper (lamEnv X sc s.heap.objs.size lf lc)) → PE (lamCx X A outer s H E sc lf lc) bd tb)
    (hN : Ng[i]? = some nm) (hv : Vis sg nm) (hd : (nm == ("__debug__" : Str)) = false) (hcd : (nm == ("__classdict__" : Str)) = false) :
    PE ((cxOf C8.CX0 X.prog X.w X.K X.mg X.base Ng qg sg gf cdg X.A X.stack s H Eg).tr pn xe) (.Call (.Name nm p1) [] [] p2)
      (fun σZ HZ Q => σZ[i]? = some (some (.ref lf)) ∧ HZ lc = some (CodeO lc (X.env.qual ++ "<lambda>")) ∧ (∀ cls d H', E cls d H' → W cls d σZ H') ∧ tb σ HZ Q) := by
  refine ⟨fun pZ sZ σZ HZ Q IZ hh => ?_⟩
  obtain ⟨h1, h2, hW, h3⟩ := hh
  have var := (pe_var (X := (cxOf C8.CX0 X.prog X.w X.K X.mg X.base Ng qg sg gf cdg X.A X.stack s H Eg).tr pn xe) (pos := p1) (i := i) hN hv hd hcd).run pZ sZ σZ HZ (fun v H1 => v = .ref lf ∧ H1 = HZ) IZ ⟨.ref lf, h1, rfl, rfl⟩
  refine wpAny_Call_Name_kw (thn var fun u s1 z => ?_)
  obtain ⟨v, H1, I1, r1, e1, e2⟩ := z
  subst e1
  subst e2
  have eu : u = Value.ref lf := r1
  subst eu
  have here := I1.base.keep lf _ hobj hn hnf (fun z => nomatch (show lf ∈ ([] : List Addr) from z))
  have un : Un (frs X.stack) [] H H1 s.heap s1.heap := I1.base
  obtain ⟨⟨oc, vs, t, g1, g2, g3⟩, _, _⟩ := I1.hok lc _ h2
  have body : codeAny (model X.prog X.w) (X.A.deeper (envOfC qg sg s.heap.objs.size gf cdg)) (.call (.ref lf) ⟨[], []⟩) (CR (L2.CX X.prog X.w) (envOfC qg sg s.heap.objs.size gf cdg :: X.stack) X.prog X.w H1 s1 Q E) s1 := by
    refine PySem.W.kla_callFunE hr.depth here rfl L.co L.gen rfl ⟨lc, oc, vs, t, rfl, g1, g2, g3⟩ ?_
    rw [hbnd]
    refine wpAny_pure (wpAny_newFunctionEnv (fun y hy => (L.own y hy).2) (fun y hy => absurd hy List.not_mem_nil) (fun h₁ hns hsb => ⟨I1.nolimit.fresh _ hsb, ?_⟩) L.kind)
    show codeAny _ _ (.expr bd (lamEnv X sc s1.heap.objs.size lf lc)) _ _
    have kp : ∀ b o, s1.heap.get? b = some o → h₁.get? b = some o := fun b o e => hsb.extBut b o (Nat.ne_of_lt (Heap.lt_size e)) (Heap.get?_push_of_some _ e)
    have J := lam_start2 (A := X.A.deeper (envOfC qg sg s.heap.objs.size gf cdg)) (outer := envOfC qg sg s.heap.objs.size gf cdg :: X.stack) (E := E) (scope := sc) (f := lf) (c' := lc) (tk := s1.toks + ([] : List (Str × Value)).length) I L I1.env0 hr.hd un hns kp
    refine PySem.W.kla_codeExpr (wpAny_mono ((hbd _ _ s1 H1 (hr.deeper _)).run [] _ _ H1 Q J h3) (fun v s' z => ?_) fun e s' z => z)
    obtain ⟨v', H', J', rv, z⟩ := z
    exact ⟨v', H', J'.os, J'.bare, J'.base, J'.hok, rv, z⟩
  refine PySem.W.callWith_F0 ⟨_, _, _, _, here⟩ (wpAny_call (codeAny_mono body fun r s' z => ?_))
  cases r with
  | ok fl =>
    cases fl with
    | ret u => exact I1.after z
    | next => exact z.elim
    | brk => exact z.elim
    | cont => exact z.elim
  | error e => exact tk e s' (XE.of_call I1 (fun cls d H' hE => hW cls d H' hE) z)
end
/-- the def at gf, called with one value, makes of the lambda's reading what TT says -/
def GivesS (X : Cx) (Ng : List Str) (x : Str) (sg : Scope) (gf : Addr) (cdg : Value) (bg : List Stmt) (nm q : Str) (TT : (XK → Hp → VK → Prop) → Hp → VK → Prop) : Prop :=
  ∀ (lf lc : Addr) (s : Shared) (H : Hp) (Q : VK) (tl : XK → Hp → VK → Prop),
    (∀ (W : WX) (pn : List (Addr × Obj)) (xe : Value → Shared → Prop) (E : XK) (p1 p2 : Pos), Takes ((cxOf C8.CX0 X.prog X.w X.K X.mg X.base Ng x sg gf cdg X.A X.stack s H C8.E0).tr pn xe) W →
      PE ((cxOf C8.CX0 X.prog X.w X.K X.mg X.base Ng x sg gf cdg X.A X.stack s H C8.E0).tr pn xe) (.Call (.Name nm p1) [] [] p2)
        (fun σZ HZ Q => σZ[0]? = some (some (.ref lf)) ∧ HZ lc = some (CodeO lc q) ∧ (∀ cls d H', E cls d H' → W cls d σZ H') ∧ tl E HZ Q)) →
    H lc = some (CodeO lc q) → TT tl H Q →
    ∃ t, PSs (cxOf C8.CX0 X.prog X.w X.K X.mg X.base Ng x sg gf cdg X.A X.stack s H C8.E0).nox bg t ∧ t { nx := fun _ H' => Q .non H', rt := Q } (L2.start Ng [.ref lf]) H
section
variable {X : Cx}
theorem pe_lamS {T : List (Addr × Str)} {TT : (XK → Hp → VK → Prop) → Hp → VK → Prop} {x nm : Str} {gf c P : Addr} {k : Nat} {pg : Arguments} {bg : List Stmt} {sg : Scope} {dV kV doc pm cdv ct oc : Value} {an od : Option Addr} {osl : Array (Option Value)} {Ng : List Str}
    {pr : Arguments} {bd : Expr} {sc : Scope} {t : XK → TE} {p lpos pos : Pos} (hg : Gl X x) (hm : X.mg x = some (.ref gf)) (hk : PySem.W.keepIn X.K (.ref gf) = true)
    (lk : X.K.lookup gf = some ⟨oc, od, .func (PySem.W.fnOf x x pg bg sg dV kV doc pm an cdv ct), osl⟩) (hcg : PySem.W.codeIn X.K cdv x = true) (hb : L2.Binds X.K (PySem.W.fnOf x x pg bg sg dV kV doc pm an cdv ct) [nm] []) (Sg : FnScope Ng [nm] sg) (hNg : Ng[0]? = some nm) (hva : Vis sg nm)
    (hG : GivesS X Ng x sg gf cdv bg nm (X.env.qual ++ "<lambda>") TT)
    (TB : TabB X.base X.mg c P) (hcode : X.env.code = .ref c) (hmT : (P, X.env.qual ++ "<lambda>") ∈ T) (hu : ∀ p ∈ T, p.1 = P → p.2 = X.env.qual ++ "<lambda>") (hr : Room (k + 2) X.A) (L : LamS X.env.scope sc) (hdef : defaultsOf pr X.env = ([], []))
    (hbind : ∀ (q : Str) (cl : List (Str × Addr)) (pm cv ctv : Value), bindArgs (PySem.W.kla_fn "<lambda>" q pr bd sc cl pm cv ctv) ⟨[], []⟩ = pure [])
    (hbd : ∀ (A : Around) (outer : List Env) (s : Shared) (H : Hp) (E : XK) (lf lc : Addr), Room k (A.deeper (lamEnv X sc s.heap.objs.size lf lc)) → PE (lamCx X A outer s H E sc lf lc) bd (t E))
    (hdb : (x == ("__debug__" : Str)) = false := by decide) (hd : (nm == ("__debug__" : Str)) = false := by decide) (hcd : (nm == ("__classdict__" : Str)) = false := by decide) :
    PE X (.Call (.Name x p) [.Lambda pr bd sc lpos] [] pos) (tLam T TT t) := by
  refine ⟨fun pins s σ H Q I hh => wpAny_Call_Name_kw (ld_glob I hg hm (PySem.W.callWith_K (h₀ := X.base) I.ok.mod.kin hk ?_ (by rfl) (by rfl)) hdb)⟩
  show wpAny _ _ (spliced ((false, eval (.Lambda pr bd sc lpos) X.env) :: backTo pos (starEach [] X.env))) _ _ s
  refine Calls.spliced_cons (lam_make2 I TB hcode hmT hu hh.1 hdef (L.has I.ok) fun lf lc pm' ctv H1 s' I1 eN T1 g1 g2 g3 g4 => Calls.spliced_nil ⟨I1.kIn, ?_⟩)
  refine wpAny_call (codeAny_mono (R := CR C8.CX0 X.stack X.prog X.w H1 s' Q C8.E0) ?_ fun r s2 z => ?_)
  · refine run_ofS (N := Ng) (ps := [nm]) (us := [.ref lf]) (vs := [.ref lf]) lk hcg Sg hr I1.env0 (hb s' [.ref lf] I1.kIn rfl) (.cons rfl .nil) rfl fun hr' => ?_
    obtain ⟨t', q1, q2⟩ := hG lf lc s' H1 Q (fun E H' Q' => t E σ H' Q') (fun W pn xe E p1 p2 tk => pe_actS (i := 0) I1 L g1 g2 g3 (hbind _ _ _ _ _) tk hr' (fun A outer s H hr2 => hbd A outer s H E lf lc hr2) hNg hva hd hcd) g4 (hh.2 H1 eN T1)
    exact ⟨t', q1.nox, q2⟩
  · cases r with
    | error e => exact (show False from z).elim
    | ok fl =>
      cases fl with
      | ret u => exact I1.after z
      | next => exact z.elim
      | brk => exact z.elim
      | cont => exact z.elim
end
end FvX


namespace Fv
open PySem PySem.Spec PyProof.Rows L2 FvX
/-! ### own defs that may raise -/
structure OwnR (P : Program) (w : World) (K : PySem.W.Frag) (mg : Str → Option Value) (base : Heap) (k : Nat) (x : Str) (sp : Sp) : Prop where
  ex : ∃ f : Addr, mg x = some (.ref f) ∧ PySem.W.keepIn K (.ref f) = true ∧ FnR P w K mg base (L2.CX P w) k f sp
section
variable {X : Cx} {k : Nat} {x : Str} {sp : Sp} {E : XK} {e : Expr} {es : List Expr} {t : TA} {p pos : Pos}
theorem pe_ownR (C : OwnR X.prog X.w X.K X.mg X.base k x sp) (hr : Room k X.A) (hg : Gl X x) (hx : Passes (L2.CX X.prog X.w) X E) (ha : PA X (e :: es) t) (hdb : (x == ("__debug__" : Str)) = false := by decide)
    (he : starEach (e :: es) X.env = (false, eval e X.env) :: starEach es X.env := by rfl) (hpl : (backTo pos (starEach es X.env)).any (·.1) = false := by rfl) : PE X (.Call (.Name x p) (e :: es) [] pos) (fun σ H Q => t σ H fun vs H1 => sp vs H1 Q E) := by
  obtain ⟨f, h1, h2, h3⟩ := C.ex
  refine ⟨fun pins s σ H Q I h => wpAny_Call_Name_kw (ld_glob I hg h1 (PySem.W.callWith_K (h₀ := X.base) I.ok.mod.kin h2 (thn (ha.run pos pins s σ H _ I h) fun us s1 z => ?_) he hpl) hdb)⟩
  obtain ⟨vs, H1, I1, r, q⟩ := z
  exact ⟨I1.kIn, wpAny_call (run_fnR h3 hr hx I1 r q)⟩
theorem pe_ownR0 (C : OwnR X.prog X.w X.K X.mg X.base k x sp) (hr : Room k X.A) (hg : Gl X x) (hx : Passes (L2.CX X.prog X.w) X E) (hdb : (x == ("__debug__" : Str)) = false := by decide) : PE X (.Call (.Name x p) [] [] pos) (fun σ H Q => sp [] H Q E) := by
  obtain ⟨f, h1, h2, h3⟩ := C.ex
  exact ⟨fun pins s σ H Q I h => wpAny_Call_Name_kw (ld_glob I hg h1 (PySem.W.callWith_K0 I.kIn h2 (wpAny_call (run_fnR h3 hr hx I .nil h))) hdb)⟩
end
theorem passX {P : Program} {w : World} {K : PySem.W.Frag} {mg : Str → Option Value} {base : Heap} {N : List Str} {qual : Str} {scope : Scope} {f : Addr} {cd : Value} {A : Around} {outer : List Env} {s : Shared} {H : Hp} {E : XK} :
    Passes (L2.CX P w) (cxOf (L2.CX P w) P w K mg base N qual scope f cd A outer s H E) E := passes_call (takes_of rfl rfl rfl rfl) (fun _ _ _ _ h => h)
theorem passL {X : Cx} {A : Around} {outer : List Env} {s : Shared} {H : Hp} {E : XK} {sc : Scope} {lf lc : Addr} : Passes (L2.CX X.prog X.w) (LamX.lamCx X A outer s H E sc lf lc) E := passes_call (takes_of rfl rfl rfl rfl) (fun _ _ _ _ h => h)
/-- the error of the class at CT leaves, its code told -/
def errAt (CT : Addr) (cod : Str) (H : Hp) (E : XK) : Prop := ∀ (H' : Hp) (dd : Addr), Same H H' → H' dd = some (.xd [("code", .str cod)]) → E (.ref CT) (some dd) H'
theorem errAt.mono {CT : Addr} {cod : Str} {H H1 : Hp} {E : XK} (h : errAt CT cod H E) (s : Same H H1) : errAt CT cod H1 E := fun H' dd s' e => h H' dd (s.trans s') e
/-- a term by is_term's default bounds -/
def tmB (d : PyData) : Bool := (meas 5 d 24).isSome
def spChecked (K : PySem.W.Frag) (CT : Addr) : Sp := fun vs H Q E => ∃ (v : V) (d : PyData), vs = [v] ∧ Dp K H v d ∧ gd 20 d = true ∧ (tmB d = true → ∀ H', Same H H' → Q v H') ∧ (tmB d = false → errAt CT "InvalidTerm" H E)
/-- the term of an operator and its parts, or the only part -/
def madeD (op : Str) : List PyData → PyData
  | [d] => d
  | ds => .tuple (.str op :: ds)
def spJoined (K : PySem.W.Frag) (CT : Addr) : Sp := fun vs H Q E => ∃ (op : Str) (tp : Addr) (xs : List V) (ds : List PyData), vs = [.str op, .ref tp] ∧ SqT K H tp xs ∧ DpAll K H xs ds ∧ xs.length ≤ 100 ∧ gd 0 (.str op) = true ∧ (∀ d ∈ ds, gd 15 d = true) ∧
  (tmB (madeD op ds) = true → ∀ H' v, Same H H' → Dp K H' v (madeD op ds) → Q v H') ∧ (tmB (madeD op ds) = false → errAt CT "InvalidTerm" H E)
def spLower (K : PySem.W.Frag) (CT : Addr) (op : Str) : Sp := fun vs H Q E => ∃ (tp : Addr) (xs : List V) (ds : List PyData), vs = [.ref tp] ∧ SqT K H tp xs ∧ DpAll K H xs ds ∧ xs.length ≤ 100 ∧ (∀ d ∈ ds, gd 15 d = true) ∧
  (tmB (madeD op ds) = true → ∀ H' v, Same H H' → Dp K H' v (madeD op ds) → Q v H') ∧ (tmB (madeD op ds) = false → errAt CT "InvalidTerm" H E)
def spLowerR (K : PySem.W.Frag) (CT : Addr) (op : Str) : Sp := fun xs H Q E => ∃ ds : List PyData, DpAll K H xs ds ∧ xs.length ≤ 100 ∧ (∀ d ∈ ds, gd 15 d = true) ∧
  (tmB (madeD op ds) = true → ∀ H' v, Same H H' → Dp K H' v (madeD op ds) → Q v H') ∧ (tmB (madeD op ds) = false → errAt CT "InvalidTerm" H E)
theorem madeD_gd {op : Str} {ds : List PyData} (ho : gd 0 (.str op) = true) (h : ∀ d ∈ ds, gd 15 d = true) (hl : ds.length ≤ 100) : gd 20 (madeD op ds) = true := by
  have z : gd 16 (.tuple (.str op :: ds)) = true := gd_tup (fun d hd => by
    rcases List.mem_cons.mp hd with e | e
    · rw [e]; exact gd_le ho (by decide)
    · exact h d e) (by rw [List.length_cons]; omega)
  unfold madeD
  split
  · rename_i d
    exact gd_le (h d (List.mem_singleton.mpr rfl)) (by decide)
  · exact gd_le z (by decide)
theorem madeD_ne {op : Str} {ds : List PyData} (h : ds.length ≠ 1) : madeD op ds = .tuple (.str op :: ds) := by
  match ds, h with
  | [], _ => rfl
  | [d], h => exact absurd rfl h
  | a :: b :: r, _ => rfl
end Fv


namespace Fv
open PySem PySem.Spec PyProof.Rows L2 FvX
theorem lmeas_up : ∀ (n : Nat) (d : PyData), 1 ≤ lmeas n d → lmeas (n + 1) d = lmeas n d
  | 0, d, h => by simp only [lmeas] at h; omega
  | n + 1, d, h => by
    by_cases a : isLd d = true
    · unfold lmeas
      rw [if_pos a, if_pos a]
    · by_cases b : isCd d = true
      · have e : ∀ m, lmeas (m + 1) d = if (0 : Int) ∈ (parts d).map (lmeas m) then 0 else ((parts d).map (lmeas m)).sum := fun m => by
          show (if isLd d = true then (1 : Int) else if isCd d = true then _ else 0) = _
          rw [if_neg a, if_pos b]
        rw [e] at h
        by_cases c : (0 : Int) ∈ (parts d).map (lmeas n)
        · rw [if_pos c] at h; omega
        · have em : (parts d).map (lmeas (n + 1)) = (parts d).map (lmeas n) := List.map_congr_left fun x hx => lmeas_up n x (by
            have z := lmeas_nonneg n x
            rcases Int.lt_or_eq_of_le z with z | z
            · omega
            · exact absurd (List.mem_map.mpr ⟨x, hx, z.symm⟩) c)
          rw [e (n + 1), e n, em]
      · have e : ∀ m, lmeas (m + 1) d = 0 := fun m => by
          show (if isLd d = true then (1 : Int) else if isCd d = true then _ else 0) = _
          rw [if_neg a, if_neg b]
        rw [e] at h; omega
theorem mem_le_sum : ∀ {l : List Int} {x : Int}, (∀ y ∈ l, 0 ≤ y) → x ∈ l → x ≤ l.sum
  | y :: l, x, h, hx => by
    rw [List.sum_cons]
    have h0 := sum_nonneg (l := l) fun z hz => h z (List.mem_cons_of_mem _ hz)
    have h1 := h y (List.mem_cons_self ..)
    rcases List.mem_cons.mp hx with e | e
    · omega
    · have := mem_le_sum (l := l) (fun z hz => h z (List.mem_cons_of_mem _ hz)) e
      omega
theorem tmB_iff (d : PyData) : tmB d = true ↔ 1 ≤ lmeas 5 d ∧ lmeas 5 d ≤ 24 := by
  unfold tmB
  rw [meas_some, Bool.and_eq_true, decide_eq_true_eq, decide_eq_true_eq]
theorem tmB_fits (d : PyData) : (decide (1 ≤ lmeas 5 d) && decide (lmeas 5 d ≤ 24)) = tmB d := (meas_some 5 d 24).symm
/-- what makes a term is made of terms -/
theorem made_parts {op : Str} {ds : List PyData} (h : tmB (madeD op ds) = true) : ds ≠ [] ∧ ∀ d ∈ ds, tmB d = true := by
  match ds, h with
  | [], h => cases (show false = true from h)
  | [d], h => exact ⟨fun z => (by cases z), fun x hx => by rw [List.mem_singleton.mp hx]; exact h⟩
  | a :: b :: r, h =>
    refine ⟨fun z => (by cases z), fun x hx => ?_⟩
    obtain ⟨h1, h2⟩ := (tmB_iff _).mp h
    have e : lmeas 5 (madeD op (a :: b :: r)) = if isCd (.tuple (.str op :: a :: b :: r)) = true then (if (0 : Int) ∈ (a :: b :: r).map (lmeas 4) then 0 else ((a :: b :: r).map (lmeas 4)).sum) else 0 := rfl
    rw [e] at h1 h2
    by_cases c : isCd (.tuple (.str op :: a :: b :: r)) = true
    · rw [if_pos c] at h1 h2
      by_cases c0 : (0 : Int) ∈ (a :: b :: r).map (lmeas 4)
      · rw [if_pos c0] at h1; omega
      · rw [if_neg c0] at h1 h2
        have z := lmeas_nonneg 4 x
        have x1 : 1 ≤ lmeas 4 x := by
          rcases Int.lt_or_eq_of_le z with z | z
          · omega
          · exact absurd (List.mem_map.mpr ⟨x, hx, z.symm⟩) c0
        have xs : lmeas 4 x ≤ ((a :: b :: r).map (lmeas 4)).sum := mem_le_sum (fun y hy => by
          obtain ⟨d', _, rfl⟩ := List.mem_map.mp hy
          exact lmeas_nonneg 4 d') (List.mem_map.mpr ⟨x, hx, rfl⟩)
        exact (tmB_iff x).mpr (by rw [lmeas_up 4 x x1]; omega)
    · rw [if_neg c] at h1; omega
def badD : PyData := .tuple [.none, .str "InvalidTerm"]
def outD (op : Str) (ds : List PyData) : PyData := if tmB (madeD op ds) = true then .tuple [madeD op ds, .str ""] else badD
def opOf (low : Bool) : Str := if low = true then "&" else "|"
def spMade (K : PySem.W.Frag) (CT : Addr) : Sp := fun vs H Q E => ∃ (pl : Addr) (xs : List V) (ds : List PyData) (low : Bool), vs = [.ref pl, .bl low] ∧ H pl = some (.lst xs) ∧ DpAll K H xs ds ∧ xs.length ≤ 4 ∧ (∀ d ∈ ds, gd 13 d = true) ∧
  (tmB (madeD (opOf low) ds) = true → ∀ H' v, Same H H' → Dp K H' v (madeD (opOf low) ds) → Q v H') ∧ (tmB (madeD (opOf low) ds) = false → errAt CT "InvalidTerm" H E)
def spDue (K : PySem.W.Frag) : Sp := fun vs H Q _ => ∃ (pl : Addr) (xs : List V) (ds : List PyData) (low : Bool), vs = [.ref pl, .bl low] ∧ H pl = some (.lst xs) ∧ DpAll K H xs ds ∧ xs.length ≤ 4 ∧ (∀ d ∈ ds, gd 13 d = true) ∧
  ∀ H' v, Same H H' → Dp K H' v (outD (opOf low) ds) → Q v H'
theorem eqv_nil (ds : List PyData) : PyData.eqv (.list ds) (.list []) = decide (ds = []) := by
  cases ds with
  | nil => rfl
  | cons d ds => simp [PyData.eqv, PyData.eqvAll]
/-- what _law_call makes of the lambda's reading -/
def TCall (K : PySem.W.Frag) (CF : Addr) : (XK → Hp → VK → Prop) → Hp → VK → Prop := fun tl H Q => ∀ (R : VK) (E : XK),
  (∀ v H', (∀ p, H' p = none → Q (.ref p) (upd H' p (.tup [v, .str ""]))) → R v H') →
  (∀ (C dd : Addr) (H' : Hp) (fs : List (Str × V)) (v : V), PySem.W.exmOne K (.ref C) (.ref CF) = some true → XfC K C → PySem.W.findIn K (.ref C) "code" = some none → H' dd = some (.xd fs) → fs.lookup ("code" : Str) = some v →
      (∀ p, H' p = none → Q (.ref p) (upd H' p (.tup [.non, v]))) → E (.ref C) (some dd) H') → tl E H R
end Fv


namespace Fv
open PySem PySem.Spec PyProof.Rows L2 FvX
/-! ### what stays when a lambda is made -/
theorem sq_ext {K : PySem.W.Frag} {H H' : Hp} {a : Addr} {xs : List V} (e : LamX.ExtN H H') (h : SqL K H a xs) : SqL K H' a xs := by
  rcases h with (h | ⟨o, h⟩) | h
  · exact .inl (.inl (e _ _ h fun ps z => by cases z))
  · exact .inl (.inr ⟨o, e _ _ h fun ps z => by cases z⟩)
  · exact .inr h
theorem sqT_ext {K : PySem.W.Frag} {H H' : Hp} {a : Addr} {xs : List V} (e : LamX.ExtN H H') (h : SqT K H a xs) : SqT K H' a xs := by
  rcases h with (h | ⟨o, h⟩) | h
  · exact .inl (.inl (e _ _ h fun ps z => by cases z))
  · exact .inl (.inr ⟨o, e _ _ h fun ps z => by cases z⟩)
  · exact .inr h
mutual
theorem dp_ext {K : PySem.W.Frag} {H H' : Hp} (e : LamX.ExtN H H') : ∀ (d : PyData) (v : V), Dp K H v d → Dp K H' v d
  | .none, _, h => by cases h; exact .non
  | .bool b, _, h => by cases h; exact .bl b
  | .int i, _, h => by cases h; exact .int i
  | .str x, _, h => by cases h; exact .str x
  | .list ds, _, h => by cases h with | lst hs ha => exact .lst (sq_ext e hs) (dpAll_ext e ds _ ha)
  | .tuple ds, _, h => by cases h with | tup hs ha => exact .tup (sqT_ext e hs) (dpAll_ext e ds _ ha)
  | .dict kvs, _, h => by cases h
theorem dpAll_ext {K : PySem.W.Frag} {H H' : Hp} (e : LamX.ExtN H H') : ∀ (ds : List PyData) (vs : List V), DpAll K H vs ds → DpAll K H' vs ds
  | [], _, h => by cases h; exact .nil
  | d :: ds, _, h => by cases h with | cons h1 h2 => exact .cons (dp_ext e d _ h1) (dpAll_ext e ds _ h2)
end
theorem ext_hide {M : List Addr} {H H' : Hp} (e : LamX.ExtN H H') : LamX.ExtN (hide M H) (hide M H') := fun b o z n => by
  obtain ⟨m, z⟩ := hide_some z
  rw [hide_ne m]
  exact e b o z n
theorem Src.ext {H H' : Hp} {a L : Addr} {ns : List Int} (h : Src H a L ns) (e : LamX.ExtN H H') : Src H' a L ns := by
  obtain ⟨i, p, st, c, h1, h2, h3⟩ := h
  exact ⟨i, p, st, c, e _ _ h1 (fun ps z => by cases z), e _ _ h2 (fun ps z => by cases z), h3⟩
theorem GV.ext {K : PySem.W.Frag} {n : Nat} {M : List Addr} {H H' : Hp} {v : V} (g : GV K n M H v) (e : LamX.ExtN H H') : GV K n M H' v := by
  obtain ⟨d, h1, h2⟩ := g
  exact ⟨d, dp_ext (ext_hide e) d v h1, h2⟩
theorem GV.smx {K : PySem.W.Frag} {n : Nat} {M : List Addr} {H H' : Hp} {v : V} (g : GV K n M H v) (s : SmX M H H') : GV K n M H' v := by
  obtain ⟨d, h1, h2⟩ := g
  exact ⟨d, dp_same s.hid d v h1, h2⟩
/-- tables stay where lists alone are changed -/
theorem tabs_smx {T : List (Addr × Str)} {M : List Addr} {H H' : Hp} (t : LamX.Tabs T H) (s : SmX M H H') (hM : ∀ b ∈ M, ∃ xs, H b = some (.lst xs)) : LamX.Tabs T H' := fun p hp => by
  obtain ⟨ps, h1, h2, h3⟩ := t p hp
  have nm : ∀ {b : Addr} {o : HO}, H b = some o → (∀ xs, o ≠ .lst xs) → b ∉ M := fun {b o} e n hb => by
    obtain ⟨xs, e'⟩ := hM b hb
    rw [e] at e'
    exact n xs (Option.some.inj e')
  refine ⟨ps, s _ _ (nm h1 fun xs z => by cases z) h1, h2, fun pos cv hc => ?_⟩
  obtain ⟨c, e1, e2⟩ := h3 pos cv hc
  exact ⟨c, e1, s _ _ (nm e2 fun xs z => by unfold LamX.CodeO at z; cases z) e2⟩
theorem tabs_same {T : List (Addr × Str)} {H H' : Hp} (t : LamX.Tabs T H) (s : Same H H') : LamX.Tabs T H' := t.ext s
theorem Src.lst {H : Hp} {a L : Addr} {ns : List Int} (h : Src H a L ns) : ∀ b ∈ [a], ∃ xs, H b = some (.lst xs) := fun b hb => by
  obtain ⟨_, _, _, _, e, _⟩ := h
  rw [List.mem_singleton.mp hb]
  exact ⟨_, e⟩
/-- the table of the law's own code -/
def TT0 (Pt : Addr) : List (Addr × Str) := [(Pt, ("law" : Str) ++ ".<locals>." ++ "<lambda>")]
section
variable {P : Program} {w : World} {K : PySem.W.Frag} {mg : Str → Option Value} {base : Heap}
/-- a def whose code object is told -/
theorem okC {x qual : Str} {st : Stmt} {f c : Addr} {oc : Value} {od an : Option Addr} {osl : Array (Option Value)} {kV doc pm ct : Value} {N ps : List Str} {k : Nat} {sp : Sp} (lk : K.lookup f = some ⟨oc, od, .func (PySem.W.fnOf x qual (defArgs st) (defBody st) (defScope st) .none kV doc pm an (.ref c) ct), osl⟩)
    (hcd : PySem.W.codeIn K (.ref c) qual = true) (S : FnScope N ps (defScope st)) (len : ∀ vs H Q E, sp vs H Q E → vs.length = ps.length)
    (hbody : ∀ (A : Around) (outer : List Env) (s : Shared) (H : Hp) (vs : List V) (Q : VK) (E : XK), Room k (A.deeper (envOfC qual (defScope st) s.heap.objs.size f (.ref c))) → sp vs H Q E →
      ∃ t, PSs (cxOf CX0 P w K mg base N qual (defScope st) f (.ref c) A outer s H E).nox (defBody st) t ∧ t { nx := fun _ H' => Q .non H', rt := Q } (start N vs) H) :
    FnOk P w K mg base CX0 (k + 1) f (PySem.W.fnOf x qual (defArgs st) (defBody st) (defScope st) .none kV doc pm an (.ref c) ct) ps sp :=
  fn_of lk hcd S len fun A outer s H vs Q E hr h => by
    obtain ⟨t, h1, h2⟩ := hbody A outer s H vs Q E hr h
    exact ⟨t, h1.nox, h2⟩
end
def spLawT (K : PySem.W.Frag) (Pt : Addr) : Sp := fun vs H Q _ => ∃ (a : Addr) (ns : List Int), vs = [.ref a] ∧ SqL K H a (ns.map V.int) ∧ ns.length ≤ 63 ∧ H Pt = some (.tbl #[]) ∧ ∀ H', Q (.bl true) H'
theorem outD_gd {op : Str} {ds : List PyData} (h : gd 20 (madeD op ds) = true) : gd 21 (outD op ds) = true := by
  unfold outD
  split
  · refine gd_tup (fun d hd => ?_) (Nat.le_of_ble_eq_true rfl)
    rcases List.mem_cons.mp hd with e | e
    · rw [e]; exact h
    · rw [List.mem_singleton.mp e]; exact gd_le (n := 0) (by decide +kernel) (Nat.zero_le _)
  · exact gd_le (n := 1) (by decide +kernel) (by decide)
end Fv


namespace Fv
open PySem PySem.Spec PyProof.Rows L2 FvX
/-! ### calls that never raise; calls by keywords of defs that may raise -/
theorem passE0 {P : Program} {w : World} {X : Cx} : Passes (L2.CX P w) X E0 := fun _ _ _ _ _ _ _ h => by
  obtain ⟨_, _, _, _, _, _, _, _, _, _, _, _, z⟩ := h
  exact z.elim
structure OwnKR (P : Program) (w : World) (K : PySem.W.Frag) (mg : Str → Option Value) (base : Heap) (k : Nat) (x : Str) (ps ks : List Str) (gV : List V → List V → List V) (sp : Sp) : Prop where
  ex : ∃ (f : Addr) (fd : FuncData) (g : List Value → List Value → List Value), mg x = some (.ref f) ∧ PySem.W.keepIn K (.ref f) = true ∧ KBn K fd ps 0 ks g gV ∧ FnOk P w K mg base (L2.CX P w) k f fd ps sp
theorem pe_ownKR0 {X : Cx} {k : Nat} {x : Str} {ps ks : List Str} {gV : List V → List V → List V} {sp : Sp} {E : XK} {tk : TA} {p pos : Pos} {kws : List Keyword} (C : OwnKR X.prog X.w X.K X.mg X.base k x ps ks gV sp) (hr : Room k X.A) (hg : Gl X x) (hx : Passes (L2.CX X.prog X.w) X E) (hkw : PK X kws tk)
    (hall : (backToKw pos (keywordEach kws X.env)).all (·.1.isSome) = true := by rfl) (hks : (backToKw pos (keywordEach kws X.env)).filterMap (·.1) = ks := by rfl)
    (hdb : (x == ("__debug__" : Str)) = false := by decide)
    (hpl : ((backTo pos (starEach [] X.env)).any (·.1) || (backToKw pos (keywordEach kws X.env)).any (·.1.isNone)) = false := by rfl) :
    PE X (.Call (.Name x p) [] kws pos) (tCallN 0 ks.length sp gV E tNil tk) := by
  obtain ⟨f, fd, g, h1, h2, h3, h4⟩ := C.ex
  refine ⟨fun pins s σ H Q I h => ?_⟩
  refine wpAny_Call_Name_kw (ld_glob I hg h1 ?_ hdb)
  refine PySem.W.callWith_KW0 (h₀ := X.base) I.ok.mod.kin h2 hall ?_ hpl
  refine thn (hkw.run pos pins s σ H _ I h) fun ws s2 ⟨zs, H2, I2, rz, l1, l2, q2⟩ => ⟨I2.kIn, ?_⟩
  rw [hks]
  exact run_fnN h4 hr h3 hx I2 .nil rz l1 l2 q2
/-! ### rules in the element of a comprehension: the written part is told -/
theorem op_in_seqK {X : Cx} {K : PySem.W.Frag} (hK : X.K = K) : OpR X (compareOp .In) (rIn K false) := by
  subst hK
  exact op_in_seq
theorem ix_listK {X : Cx} {K : PySem.W.Frag} (hK : X.K = K) : IxR X (rIxL K) := by
  subst hK
  exact ix_list
end Fv


namespace Fv
open PySem PySem.Spec PyProof.Rows L2 FvX FvW TL
-- top 42  slots: 0:_law_rows_here 1:_law_x 2:_law_y 3:_law_some 4:_law_z 5:_law_w
abbrev s_law_low : Stmt := topS 42
abbrev N_law_low : List Str := ["_law_rows_here", "_law_x", "_law_y", "_law_some", "_law_z", "_law_w"]
theorem sc_law_low : FnScope N_law_low ["_law_rows_here", "_law_x", "_law_y"] (defScope s_law_low) := ⟨rfl, rfl, rfl, by decide +kernel, rfl, by decide +kernel, by decide +kernel⟩

-- top 43  slots: 0:_law_rows_here 1:_law_x 2:_law_y 3:_law_some 4:_law_z 5:_law_w
abbrev s_law_up : Stmt := topS 43
abbrev N_law_up : List Str := ["_law_rows_here", "_law_x", "_law_y", "_law_some", "_law_z", "_law_w"]
theorem sc_law_up : FnScope N_law_up ["_law_rows_here", "_law_x", "_law_y"] (defScope s_law_up) := ⟨rfl, rfl, rfl, by decide +kernel, rfl, by decide +kernel, by decide +kernel⟩

-- top 44  slots: 0:_law_rows_here 1:_law_every 2:_law_lows 3:_law_y 4:_law_x
abbrev s_law_tables : Stmt := topS 44
abbrev N_law_tables : List Str := ["_law_rows_here", "_law_every", "_law_lows", "_law_y", "_law_x"]
theorem sc_law_tables : FnScope N_law_tables ["_law_rows_here"] (defScope s_law_tables) := ⟨rfl, rfl, rfl, by decide +kernel, rfl, by decide +kernel, by decide +kernel⟩

def spLow (K : PySem.W.Frag) (g : List Nat → Nat → Nat → Nat) : Sp := fun vs H Q _ => ∃ (r : Addr) (ms : List Nat) (x y : Nat), vs = [.ref r, .int (x : Nat), .int (y : Nat)] ∧ SqL K H r ((rowsOf ms).map V.str) ∧ Fam ms ∧ x < ms.length ∧ y < ms.length ∧ ∀ H', Same H H' → Q (.int (g ms x y : Nat)) H'
def rowD (n : Nat) (g : Nat → Nat) : PyData := .list ((List.range n).map fun y => .int (g y : Nat))
def tabD (n : Nat) (g : Nat → Nat → Nat) : PyData := .list ((List.range n).map fun x => rowD n (g x))
def tabsD (ms : List Nat) : PyData := .tuple [tabD ms.length (lowI ms), tabD ms.length (upI ms)]
/-- what is new -/
def nw (H H' : Hp) : Hp := fun b => if H b = none then H' b else none
theorem nw_at {H H' : Hp} {b : Addr} (h : H b = none) : nw H H' b = H' b := by unfold nw; rw [if_pos h]
theorem nw_some {H H' : Hp} {b : Addr} {o : HO} (h : nw H H' b = some o) : H b = none ∧ H' b = some o := by
  unfold nw at h
  by_cases c : H b = none
  · rw [if_pos c] at h; exact ⟨c, h⟩
  · rw [if_neg c] at h; cases h
theorem nw_hide {H H' : Hp} {a L : Addr} {ns : List Int} (hs : Src H a L ns) : Same (nw H H') (hide [a] H') := fun b o h => by
  obtain ⟨n, e⟩ := nw_some h
  rw [hide_ne (fun z => hs.ne n (List.mem_singleton.mp z).symm)]
  exact e
theorem nw_same {H H' : Hp} : Same (nw H H') H' := fun b o h => (nw_some h).2
theorem dpAll_of {K : PySem.W.Frag} {H : Hp} : ∀ {vs : List V} {ds : List PyData}, vs.length = ds.length → (∀ (i : Nat) (v : V) (d : PyData), vs[i]? = some v → ds[i]? = some d → Dp K H v d) → DpAll K H vs ds
  | [], [], _, _ => .nil
  | [], _ :: _, h, _ => by simp at h
  | _ :: _, [], h, _ => by simp at h
  | v :: vs, d :: ds, h, f => .cons (f 0 v d rfl rfl) (dpAll_of (by simpa using h) fun i v d h1 h2 => f (i + 1) v d (by simpa using h1) (by simpa using h2))
theorem dp_nats {K : PySem.W.Frag} {H : Hp} : ∀ l : List Nat, DpAll K H (natsV l) (l.map fun y => .int (y : Nat))
  | [] => .nil
  | y :: l => .cons (.int _) (dp_nats l)
structure Rws (H0 H : Hp) (D : Addr) (n : Nat) (g : Nat → Nat → Nat) (as : List Addr) : Prop where
  at_ : H D = some (.lst (as.map V.ref))
  rw_ : ∀ (i : Nat) (a : Addr), as[i]? = some a → a ≠ D ∧ H0 a = none ∧ H a = some (.lst (natsV ((List.range n).map (g i))))
theorem Rws.same {H0 H H' : Hp} {D : Addr} {n : Nat} {g : Nat → Nat → Nat} {as : List Addr} (h : Rws H0 H D n g as) (s : Same H H') : Rws H0 H' D n g as :=
  ⟨s _ _ h.at_, fun i a e => ⟨(h.rw_ i a e).1, (h.rw_ i a e).2.1, s _ _ (h.rw_ i a e).2.2⟩⟩
theorem Rws.put {H0 H : Hp} {D D2 : Addr} {n : Nat} {g : Nat → Nat → Nat} {as : List Addr} (h : Rws H0 H D n g as) (e : H D2 = some (.lst (natsV ((List.range n).map (g as.length))))) (ne : D2 ≠ D) (n0 : H0 D2 = none) : Rws H0 (upd H D (.lst (as.map V.ref ++ [.ref D2]))) D n g (as ++ [D2]) := by
  refine ⟨by rw [upd_same, List.map_append]; rfl, fun i a ha => ?_⟩
  rcases Nat.lt_or_ge i as.length with lt | ge
  · rw [List.getElem?_append_left lt] at ha
    obtain ⟨h1, h2, h3⟩ := h.rw_ i a ha
    exact ⟨h1, h2, by rw [upd_ne h1]; exact h3⟩
  · rw [List.getElem?_append_right ge] at ha
    have hi : i - as.length = 0 := by
      have := (List.getElem?_eq_some_iff.mp ha).1
      simp at this; omega
    rw [hi] at ha
    have ea : D2 = a := by simpa using ha
    subst ea
    refine ⟨ne, n0, ?_⟩
    rw [upd_ne ne, e, show i = as.length by omega]
theorem Rws.dp {K : PySem.W.Frag} {H0 H : Hp} {D : Addr} {n : Nat} {g : Nat → Nat → Nat} {as : List Addr} (h : Rws H0 H D n g as) (nD : H0 D = none) (la : as.length = n) : Dp K (nw H0 H) (.ref D) (tabD n g) := by
  refine .lst (SqL.of (by rw [nw_at nD]; exact h.at_)) (dpAll_of (by simp [la]) fun i v d hv hd => ?_)
  rw [List.getElem?_map] at hv hd
  cases ea : as[i]? with
  | none => rw [ea] at hv; cases hv
  | some a =>
    rw [ea] at hv
    have ev : V.ref a = v := by simpa using hv
    have li : i < n := by rw [← la]; exact (List.getElem?_eq_some_iff.mp ea).1
    rw [List.getElem?_range li] at hd
    have ed : rowD n (g i) = d := by simpa using hd
    rw [← ev, ← ed]
    obtain ⟨_, h2, h3⟩ := h.rw_ i a ea
    have z := dp_nats (K := K) (H := nw H0 H) ((List.range n).map (g i))
    rw [List.map_map] at z
    exact .lst (SqL.of (by rw [nw_at h2]; exact h3)) z
theorem rgV_nats (n : Nat) : rgV 0 ((n : Nat) : Int) = natsV (List.range n) := by
  unfold rgV natsV
  rw [show (((n : Nat) : Int) - 0).toNat = n by omega]
  refine List.map_congr_left fun x _ => ?_
  show V.int (0 + (x : Int)) = V.int (x : Int)
  rw [Int.zero_add]
def spTables (K : PySem.W.Frag) : Sp := fun vs H Q _ => ∃ (r : Addr) (ms : List Nat), vs = [.ref r] ∧ SqL K H r ((rowsOf ms).map V.str) ∧ Fam ms ∧ ∀ (H' : Hp) (p : Addr), Same H H' → H p = none → Dp K (nw H H') (.ref p) (tabsD ms) → Q (.ref p) H'
theorem rows_len (ms : List Nat) : ((rowsOf ms).map V.str).length = ms.length := by unfold rowsOf; rw [List.length_map, List.length_map]
/-- one sign of a row -/
theorem row_ix {ms : List Nat} {x y : Nat} (hx : x < ms.length) (hy : y < ms.length) (l : ms.length ≤ 16) : atI ((rowsOf ms).map V.str) ((x : Nat) : Int) = some (.str (mk (rowC ms (msAt ms x)))) ∧ (mk (rowC ms (msAt ms x))).length ≤ sizeLine ∧ atI (mk (rowC ms (msAt ms x))).cps.toList ((y : Nat) : Int) = some (if leI ms x y = true then 49 else 48) := by
  refine ⟨atI_nat (rows_at hx), ?_, ?_⟩
  · rw [mk_len]; unfold rowC; rw [List.length_map]; exact le1000 (by omega)
  · exact atI_nat (xs := rowC ms (msAt ms x)) (rowC_at hy)
theorem filt_add {p : Nat → Bool} {l : List Nat} {j z : Nat} (h : l[j]? = some z) : (l.take (j + 1)).filter p = (l.take j).filter p ++ (if p z = true then [z] else []) := by
  rw [List.take_add_one, h, List.filter_append]
  cases e : p z <;> simp [e]
section
variable {P : Program} {w : World} {K : PySem.W.Frag} {mg : Str → Option Value} {base : Heap}
theorem ok_low {f : Addr} {fd : FuncData} {k : Nat} (F : Fun K "_law_low" "_law_low" s_law_low f fd) (m_len : mg "len" = none) (m_range : mg "range" = none) (m_all : mg "all" = none) :
    FnOk P w K mg base CX0 (k + 1) f fd ["_law_rows_here", "_law_x", "_law_y"] (spLow K lowI) := by
  refine F.ok sc_law_low (fun vs H Q E h => ?_) (fun cdv A outer s H vs Q E hr h => ?_)
  · obtain ⟨r, ms, x, y, rfl, _⟩ := h
    rfl
  · obtain ⟨r, ms, x, y, rfl, hr0, Fm, hx, hy, good⟩ := h
    have l16 := Fm.ln
    have lr := rows_len ms
    refine ⟨_, (pss_cons (ps_set (i := 3) sc_law_low.nd rfl (by first | exact .inl rfl | exact .inr rfl) (pe_lc (own := [("_law_z", 4)]) (g := gName 4) (by rfl) sc_law_low.nd (pi_range1 (by rfl) m_range (pa_cons (pe_callB call_len_seq (by rfl) m_len (by decide +kernel) (pa_cons (pv 0) pa_nil)) pa_nil)) (blkOk_by (own := [("_law_z", 4)]) (N := N_law_low) (sc := defScope s_law_low) (by decide +kernel)) (fun _ _ _ _ _ => pg_name (i := 4) sc_law_low.nd rfl (Or.inl rfl)) (fun _ _ _ _ _ => pts_one (PW.pt (pw_and (pt_cmpR op_eq (pe_ix ix_str (pe_ix (ix_listK (K := K) rfl) (pv 0) (pv 4) (fun _ _ => rfl)) (pv 1) (fun _ _ => rfl)) pe_str (nomark _)) (pw_and1 (pt_cmpR op_eq (pe_ix ix_str (pe_ix (ix_listK (K := K) rfl) (pv 0) (pv 4) (fun _ _ => rfl)) (pv 2) (fun _ _ => rfl)) pe_str (nomark _)))))) (fun _ _ _ _ _ => (pv 4))))
      (pss_one (ps_ret (pe_ix ix_list (pe_lc (own := [("_law_z", 4)]) (g := gName 4) (by rfl) sc_law_low.nd (pi_listK (K := K) rfl (pv 3)) (blkOk_by (own := [("_law_z", 4)]) (N := N_law_low) (sc := defScope s_law_low) (by decide +kernel)) (fun _ _ _ _ _ => pg_name (i := 4) sc_law_low.nd rfl (Or.inr rfl)) (fun _ _ _ _ _ => pts_one (pt_val (pe_callB (cr_allK (K := K) rfl rfl) (by rfl) m_all (by decide +kernel) (pa_cons (pe_lc (own := [("_law_w", 5)]) (g := gName 5) (by rfl) sc_law_low.nd (pi_listK (K := K) rfl (pv 3)) (blkOk_by (own := [("_law_w", 5)]) (N := N_law_low) (by exact rfl)) (fun _ _ _ _ _ => pg_name (i := 5) sc_law_low.nd rfl (Or.inl rfl)) (fun _ _ _ _ _ => pts_nil) (fun _ _ _ _ _ => (pe_cmpR op_eq (pe_ix ix_str (pe_ix (ix_listK (K := K) rfl) (pv 0) (pv 5) (fun _ _ => rfl)) (pv 4) (fun _ _ => rfl)) pe_str (nomark _)))) pa_nil)))) (fun _ _ _ _ _ => (pv 4))) pe_int (fun _ _ => rfl))))), ?_⟩
    refine ⟨_, rfl, r, _, rfl, .inl hr0, _, rfl, (by rw [lr]; omega), (by rw [lr]; omega), fun D nD => lc_range (lo := 0) (n := (((rowsOf ms).map V.str).length : Int).toNat) (fun j H' => Same H H' ∧ H' D = some (.lst (natsV (((List.range ms.length).take j).filter fun z => leI ms z x && leI ms z y)))) ?_ ?_ ?_⟩
    · exact ⟨same_upd nD, upd_same⟩
    · rintro j H' hj ⟨sm, hD⟩
      rw [lr, Int.toNat_natCast] at hj
      have hz : (List.range ms.length)[j]? = some j := by rw [List.getElem?_range hj]
      obtain ⟨a1, a2, a3⟩ := row_ix hj hx l16
      obtain ⟨b1, b2, b3⟩ := row_ix hj hy l16
      have ej : (0 : Int) + (j : Nat) = ((j : Nat) : Int) := by omega
      rw [ej]
      refine ⟨rfl, _, rfl, _, rfl, r, _, _, _, rfl, rfl, sm.seq hr0, a1, _, rfl, _, _, _, rfl, rfl, a2, a3, rfl, _, rfl, ?_⟩
      rw [one_dec]
      have fa := filt_add (p := fun z => leI ms z x && leI ms z y) hz
      have lf : (natsV (((List.range ms.length).take j).filter fun z => leI ms z x && leI ms z y)).length ≤ 16 := by
        rw [nats_len]
        refine Nat.le_trans (List.length_filter_le _ _) ?_
        rw [List.length_take, List.length_range]
        omega
      cases e1 : leI ms j x with
      | false =>
        refine iteF (iteF ⟨sm, ?_⟩)
        rw [fa, hD, e1]
        simp
      | true =>
        refine iteT ⟨_, rfl, _, rfl, r, _, _, _, rfl, rfl, sm.seq hr0, b1, _, rfl, _, _, _, rfl, rfl, b2, b3, rfl, _, rfl, ?_⟩
        rw [one_dec]
        cases e2 : leI ms j y with
        | false =>
          refine iteF ⟨sm, ?_⟩
          rw [fa, hD, e1, e2]
          simp
        | true =>
          refine iteT ⟨_, rfl, _, hD, small1000 (by omega), fun c o e => ?_, ?_⟩
          · rw [upd_ne (ne_of_none e nD)]; exact sm _ _ e
          · rw [upd_same, fa, e1, e2]
            unfold natsV
            simp
    rintro H1 ⟨s1, hD1⟩
    rw [lr, Int.toNat_natCast, show (List.range ms.length).take ms.length = List.range ms.length from List.take_of_length_le (by rw [List.length_range]; exact Nat.le_refl _)] at hD1
    change H1 D = some (.lst (natsV (lowL ms x y))) at hD1
    have lL : (lowL ms x y).length ≤ 16 := by
      unfold lowL
      refine Nat.le_trans (List.length_filter_le _ _) ?_
      rw [List.length_range]; exact l16
    refine ⟨_, rfl, D, rfl, ⟨_, SqL.of hD1⟩, fun D2 nD2 => lc_list (xs := natsV (lowL ms x y)) (fun j H' => Same H1 H' ∧ H' D2 = some (.lst (natsV (((lowL ms x y).take j).filter fun z => (lowL ms x y).all fun w => leI ms w z)))) ?_ ?_ ?_ ?_⟩
    · exact ⟨same_upd nD2, upd_same⟩
    · rintro j H' _ ⟨sm, _⟩
      exact SqL.of (sm _ _ hD1)
    · rintro j v H' hv ⟨sm, hD2⟩
      obtain ⟨z, hz, rfl⟩ := nats_get hv
      have zn : z < ms.length := (mem_lowL.mp (List.mem_of_getElem? hz)).1
      have fa := filt_add (p := fun z => (lowL ms x y).all fun w => leI ms w z) hz
      refine ⟨rfl, _, rfl, D, rfl, ⟨_, SqL.of (sm _ _ hD1)⟩, fun D3 nD3 => lc_list (xs := natsV (lowL ms x y)) (fun i H3 => Same H' H3 ∧ H3 D3 = some (.lst (((lowL ms x y).take i).map fun w => V.bl (leI ms w z)))) ?_ ?_ ?_ ?_⟩
      · exact ⟨same_upd nD3, upd_same⟩
      · rintro i H3 _ ⟨sm3, _⟩
        exact SqL.of ((sm.trans sm3) _ _ hD1)
      · rintro i u H3 hu ⟨sm3, hD3⟩
        obtain ⟨w, hw, rfl⟩ := nats_get hu
        have wn : w < ms.length := (mem_lowL.mp (List.mem_of_getElem? hw)).1
        obtain ⟨a1, a2, a3⟩ := row_ix wn zn l16
        refine ⟨rfl, yes_it ⟨_, rfl, _, rfl, r, _, _, _, rfl, rfl, (s1.trans (sm.trans sm3)).seq hr0, a1, _, rfl, _, _, _, rfl, rfl, a2, a3, rfl, _, hD3, small1000 (by rw [List.length_map, List.length_take]; omega), fun c o e => ?_, ?_⟩⟩
        · rw [upd_ne (ne_of_none e nD3)]; exact sm3 _ _ e
        · rw [upd_same, List.take_add_one, hw, List.map_append, one_dec]; rfl
      · rintro H3 ⟨sm3, hD3⟩
        rw [nats_len, List.take_length] at hD3
        have eb : ((lowL ms x y).map fun w => V.bl (leI ms w z)) = ((lowL ms x y).map fun w => leI ms w z).map V.bl := by rw [List.map_map]; rfl
        rw [eb] at hD3
        refine ⟨D3, _, rfl, SqL.of hD3, _, rfl, ?_⟩
        have ea : ((lowL ms x y).map fun w => leI ms w z).all id = (lowL ms x y).all fun w => leI ms w z := by rw [List.all_map]; rfl
        rw [ea]
        have sm4 := sm.trans sm3
        have lf : (natsV (((lowL ms x y).take j).filter fun z => (lowL ms x y).all fun w => leI ms w z)).length ≤ 16 := by
          rw [nats_len]
          refine Nat.le_trans (List.length_filter_le _ _) ?_
          rw [List.length_take]
          omega
        cases e1 : (lowL ms x y).all fun w => leI ms w z with
        | false =>
          refine iteF ⟨sm4, ?_⟩
          rw [fa, sm3 _ _ hD2, e1]
          simp
        | true =>
          refine iteT ⟨_, rfl, _, sm3 _ _ hD2, small1000 (by omega), fun c o e => ?_, ?_⟩
          · rw [upd_ne (ne_of_none e nD2)]; exact sm4 _ _ e
          · rw [upd_same, fa, e1]
            unfold natsV
            simp
    · rintro H2 ⟨s2, hD2⟩
      rw [nats_len, List.take_length] at hD2
      change H2 D2 = some (.lst (natsV (lowM ms x y))) at hD2
      obtain ⟨_, rr, er⟩ := low_cons Fm hx hy
      rw [er] at hD2
      exact ⟨D2, _, _, _, rfl, rfl, SqL.of hD2, at0, good H2 (s1.trans s2)⟩
theorem ok_up {f : Addr} {fd : FuncData} {k : Nat} (F : Fun K "_law_up" "_law_up" s_law_up f fd) (m_len : mg "len" = none) (m_range : mg "range" = none) (m_all : mg "all" = none) :
    FnOk P w K mg base CX0 (k + 1) f fd ["_law_rows_here", "_law_x", "_law_y"] (spLow K upI) := by
  refine F.ok sc_law_up (fun vs H Q E h => ?_) (fun cdv A outer s H vs Q E hr h => ?_)
  · obtain ⟨r, ms, x, y, rfl, _⟩ := h
    rfl
  · obtain ⟨r, ms, x, y, rfl, hr0, Fm, hx, hy, good⟩ := h
    have l16 := Fm.ln
    have lr := rows_len ms
    refine ⟨_, (pss_cons (ps_set (i := 3) sc_law_up.nd rfl (by first | exact .inl rfl | exact .inr rfl) (pe_lc (own := [("_law_z", 4)]) (g := gName 4) (by rfl) sc_law_up.nd (pi_range1 (by rfl) m_range (pa_cons (pe_callB call_len_seq (by rfl) m_len (by decide +kernel) (pa_cons (pv 0) pa_nil)) pa_nil)) (blkOk_by (own := [("_law_z", 4)]) (N := N_law_up) (sc := defScope s_law_up) (by decide +kernel)) (fun _ _ _ _ _ => pg_name (i := 4) sc_law_up.nd rfl (Or.inl rfl)) (fun _ _ _ _ _ => pts_one (PW.pt (pw_and (pt_cmpR op_eq (pe_ix ix_str (pe_ix (ix_listK (K := K) rfl) (pv 0) (pv 1) (fun _ _ => rfl)) (pv 4) (fun _ _ => rfl)) pe_str (nomark _)) (pw_and1 (pt_cmpR op_eq (pe_ix ix_str (pe_ix (ix_listK (K := K) rfl) (pv 0) (pv 2) (fun _ _ => rfl)) (pv 4) (fun _ _ => rfl)) pe_str (nomark _)))))) (fun _ _ _ _ _ => (pv 4))))
      (pss_one (ps_ret (pe_ix ix_list (pe_lc (own := [("_law_z", 4)]) (g := gName 4) (by rfl) sc_law_up.nd (pi_listK (K := K) rfl (pv 3)) (blkOk_by (own := [("_law_z", 4)]) (N := N_law_up) (sc := defScope s_law_up) (by decide +kernel)) (fun _ _ _ _ _ => pg_name (i := 4) sc_law_up.nd rfl (Or.inr rfl)) (fun _ _ _ _ _ => pts_one (pt_val (pe_callB (cr_allK (K := K) rfl rfl) (by rfl) m_all (by decide +kernel) (pa_cons (pe_lc (own := [("_law_w", 5)]) (g := gName 5) (by rfl) sc_law_up.nd (pi_listK (K := K) rfl (pv 3)) (blkOk_by (own := [("_law_w", 5)]) (N := N_law_up) (by exact rfl)) (fun _ _ _ _ _ => pg_name (i := 5) sc_law_up.nd rfl (Or.inl rfl)) (fun _ _ _ _ _ => pts_nil) (fun _ _ _ _ _ => (pe_cmpR op_eq (pe_ix ix_str (pe_ix (ix_listK (K := K) rfl) (pv 0) (pv 4) (fun _ _ => rfl)) (pv 5) (fun _ _ => rfl)) pe_str (nomark _)))) pa_nil)))) (fun _ _ _ _ _ => (pv 4))) pe_int (fun _ _ => rfl))))), ?_⟩
    refine ⟨_, rfl, r, _, rfl, .inl hr0, _, rfl, (by rw [lr]; omega), (by rw [lr]; omega), fun D nD => lc_range (lo := 0) (n := (((rowsOf ms).map V.str).length : Int).toNat) (fun j H' => Same H H' ∧ H' D = some (.lst (natsV (((List.range ms.length).take j).filter fun z => leI ms x z && leI ms y z)))) ?_ ?_ ?_⟩
    · exact ⟨same_upd nD, upd_same⟩
    · rintro j H' hj ⟨sm, hD⟩
      rw [lr, Int.toNat_natCast] at hj
      have hz : (List.range ms.length)[j]? = some j := by rw [List.getElem?_range hj]
      obtain ⟨a1, a2, a3⟩ := row_ix hx hj l16
      obtain ⟨b1, b2, b3⟩ := row_ix hy hj l16
      have ej : (0 : Int) + (j : Nat) = ((j : Nat) : Int) := by omega
      rw [ej]
      refine ⟨rfl, _, rfl, _, rfl, r, _, _, _, rfl, rfl, sm.seq hr0, a1, _, rfl, _, _, _, rfl, rfl, a2, a3, rfl, _, rfl, ?_⟩
      rw [one_dec]
      have fa := filt_add (p := fun z => leI ms x z && leI ms y z) hz
      have lf : (natsV (((List.range ms.length).take j).filter fun z => leI ms x z && leI ms y z)).length ≤ 16 := by
        rw [nats_len]
        refine Nat.le_trans (List.length_filter_le _ _) ?_
        rw [List.length_take, List.length_range]
        omega
      cases e1 : leI ms x j with
      | false =>
        refine iteF (iteF ⟨sm, ?_⟩)
        rw [fa, hD, e1]
        simp
      | true =>
        refine iteT ⟨_, rfl, _, rfl, r, _, _, _, rfl, rfl, sm.seq hr0, b1, _, rfl, _, _, _, rfl, rfl, b2, b3, rfl, _, rfl, ?_⟩
        rw [one_dec]
        cases e2 : leI ms y j with
        | false =>
          refine iteF ⟨sm, ?_⟩
          rw [fa, hD, e1, e2]
          simp
        | true =>
          refine iteT ⟨_, rfl, _, hD, small1000 (by omega), fun c o e => ?_, ?_⟩
          · rw [upd_ne (ne_of_none e nD)]; exact sm _ _ e
          · rw [upd_same, fa, e1, e2]
            unfold natsV
            simp
    rintro H1 ⟨s1, hD1⟩
    rw [lr, Int.toNat_natCast, show (List.range ms.length).take ms.length = List.range ms.length from List.take_of_length_le (by rw [List.length_range]; exact Nat.le_refl _)] at hD1
    change H1 D = some (.lst (natsV (upL ms x y))) at hD1
    have lL : (upL ms x y).length ≤ 16 := by
      unfold upL
      refine Nat.le_trans (List.length_filter_le _ _) ?_
      rw [List.length_range]; exact l16
    refine ⟨_, rfl, D, rfl, ⟨_, SqL.of hD1⟩, fun D2 nD2 => lc_list (xs := natsV (upL ms x y)) (fun j H' => Same H1 H' ∧ H' D2 = some (.lst (natsV (((upL ms x y).take j).filter fun z => (upL ms x y).all fun w => leI ms z w)))) ?_ ?_ ?_ ?_⟩
    · exact ⟨same_upd nD2, upd_same⟩
    · rintro j H' _ ⟨sm, _⟩
      exact SqL.of (sm _ _ hD1)
    · rintro j v H' hv ⟨sm, hD2⟩
      obtain ⟨z, hz, rfl⟩ := nats_get hv
      have zn : z < ms.length := (mem_upL.mp (List.mem_of_getElem? hz)).1
      have fa := filt_add (p := fun z => (upL ms x y).all fun w => leI ms z w) hz
      refine ⟨rfl, _, rfl, D, rfl, ⟨_, SqL.of (sm _ _ hD1)⟩, fun D3 nD3 => lc_list (xs := natsV (upL ms x y)) (fun i H3 => Same H' H3 ∧ H3 D3 = some (.lst (((upL ms x y).take i).map fun w => V.bl (leI ms z w)))) ?_ ?_ ?_ ?_⟩
      · exact ⟨same_upd nD3, upd_same⟩
      · rintro i H3 _ ⟨sm3, _⟩
        exact SqL.of ((sm.trans sm3) _ _ hD1)
      · rintro i u H3 hu ⟨sm3, hD3⟩
        obtain ⟨w, hw, rfl⟩ := nats_get hu
        have wn : w < ms.length := (mem_upL.mp (List.mem_of_getElem? hw)).1
        obtain ⟨a1, a2, a3⟩ := row_ix zn wn l16
        refine ⟨rfl, yes_it ⟨_, rfl, _, rfl, r, _, _, _, rfl, rfl, (s1.trans (sm.trans sm3)).seq hr0, a1, _, rfl, _, _, _, rfl, rfl, a2, a3, rfl, _, hD3, small1000 (by rw [List.length_map, List.length_take]; omega), fun c o e => ?_, ?_⟩⟩
        · rw [upd_ne (ne_of_none e nD3)]; exact sm3 _ _ e
        · rw [upd_same, List.take_add_one, hw, List.map_append, one_dec]; rfl
      · rintro H3 ⟨sm3, hD3⟩
        rw [nats_len, List.take_length] at hD3
        have eb : ((upL ms x y).map fun w => V.bl (leI ms z w)) = ((upL ms x y).map fun w => leI ms z w).map V.bl := by rw [List.map_map]; rfl
        rw [eb] at hD3
        refine ⟨D3, _, rfl, SqL.of hD3, _, rfl, ?_⟩
        have ea : ((upL ms x y).map fun w => leI ms z w).all id = (upL ms x y).all fun w => leI ms z w := by rw [List.all_map]; rfl
        rw [ea]
        have sm4 := sm.trans sm3
        have lf : (natsV (((upL ms x y).take j).filter fun z => (upL ms x y).all fun w => leI ms z w)).length ≤ 16 := by
          rw [nats_len]
          refine Nat.le_trans (List.length_filter_le _ _) ?_
          rw [List.length_take]
          omega
        cases e1 : (upL ms x y).all fun w => leI ms z w with
        | false =>
          refine iteF ⟨sm4, ?_⟩
          rw [fa, sm3 _ _ hD2, e1]
          simp
        | true =>
          refine iteT ⟨_, rfl, _, sm3 _ _ hD2, small1000 (by omega), fun c o e => ?_, ?_⟩
          · rw [upd_ne (ne_of_none e nD2)]; exact sm4 _ _ e
          · rw [upd_same, fa, e1]
            unfold natsV
            simp
    · rintro H2 ⟨s2, hD2⟩
      rw [nats_len, List.take_length] at hD2
      change H2 D2 = some (.lst (natsV (upM ms x y))) at hD2
      obtain ⟨_, rr, er⟩ := up_cons Fm hx hy
      rw [er] at hD2
      exact ⟨D2, _, _, _, rfl, rfl, SqL.of hD2, at0, good H2 (s1.trans s2)⟩
theorem ok_tables {f : Addr} {fd : FuncData} {k : Nat} (F : Fun K "_law_tables" "_law_tables" s_law_tables f fd) (m_len : mg "len" = none) (m_list : mg "list" = none) (m_range : mg "range" = none)
    (C_law_low : Own P w K mg base k "_law_low" ["_law_rows_here", "_law_x", "_law_y"] (spLow K lowI)) (C_law_up : Own P w K mg base k "_law_up" ["_law_rows_here", "_law_x", "_law_y"] (spLow K upI)) :
    FnOk P w K mg base CX0 (k + 1) f fd ["_law_rows_here"] (spTables K) := by
  refine F.ok sc_law_tables (fun vs H Q E h => ?_) (fun cdv A outer s H vs Q E hr h => ?_)
  · obtain ⟨r, ms, rfl, _⟩ := h
    rfl
  · obtain ⟨r, ms, rfl, hr0, Fm, good⟩ := h
    have l16 := Fm.ln
    have lr := rows_len ms
    refine ⟨_, (pss_cons (ps_set (i := 1) sc_law_tables.nd rfl (by first | exact .inl rfl | exact .inr rfl) (pe_listRg rfl (by rfl) m_list (prg_1 (by rfl) m_range (pe_callB call_len_seq (by rfl) m_len (by decide +kernel) (pa_cons (pv 0) pa_nil)))))
      (pss_cons (ps_setLc (i := 2) (own := [("_law_x", 4)]) (g := gName 4) (by rfl) sc_law_tables.nd rfl rfl (sw_true rfl rfl rfl (by decide +kernel)) (pi_listK (K := K) rfl (pv 1)) (blkOk_by (own := [("_law_x", 4)]) (N := N_law_tables) (sc := defScope s_law_tables) (by decide +kernel)) (fun _ _ _ _ _ => pg_name (i := 4) sc_law_tables.nd rfl (Or.inr rfl)) (fun _ _ _ _ _ => pts_nil) (fun _ _ _ _ _ => (pe_lc (own := [("_law_y", 3)]) (g := gName 3) (by rfl) sc_law_tables.nd (pi_listK (K := K) rfl (pv 1)) (blkOk_by (own := [("_law_y", 3)]) (N := N_law_tables) (by exact rfl)) (fun _ _ _ _ _ => pg_name (i := 3) sc_law_tables.nd rfl (Or.inl rfl)) (fun _ _ _ _ _ => pts_nil) (fun _ _ _ _ _ => (pe_own C_law_low (hr.mono (by omega)) (by rfl) (pa_cons (pv 0) (pa_cons (pv 4) (pa_cons (pv 3) pa_nil))))))))
      (pss_one (ps_ret (pe_tup (pa_cons (pv 2) (pa_cons (pe_lc (own := [("_law_x", 4)]) (g := gName 4) (by rfl) sc_law_tables.nd (pi_listK (K := K) rfl (pv 1)) (blkOk_by (own := [("_law_x", 4)]) (N := N_law_tables) (sc := defScope s_law_tables) (by decide +kernel)) (fun _ _ _ _ _ => pg_name (i := 4) sc_law_tables.nd rfl (Or.inr rfl)) (fun _ _ _ _ _ => pts_nil) (fun _ _ _ _ _ => (pe_lc (own := [("_law_y", 3)]) (g := gName 3) (by rfl) sc_law_tables.nd (pi_listK (K := K) rfl (pv 1)) (blkOk_by (own := [("_law_y", 3)]) (N := N_law_tables) (by exact rfl)) (fun _ _ _ _ _ => pg_name (i := 3) sc_law_tables.nd rfl (Or.inl rfl)) (fun _ _ _ _ _ => pts_nil) (fun _ _ _ _ _ => (pe_own C_law_up (hr.mono (by omega)) (by rfl) (pa_cons (pv 0) (pa_cons (pv 4) (pa_cons (pv 3) pa_nil)))))))) pa_nil))))))), ?_⟩
    refine ⟨_, rfl, r, _, rfl, .inl hr0, _, rfl, (by rw [lr]; exact RgOk.of_le (by decide) (by omega) (by decide) (by omega)), fun ev nev => ?_⟩
    rw [lr, rgV_nats]
    have s1 := same_upd (o := .lst (natsV (List.range ms.length))) nev
    have hev1 : upd H ev (.lst (natsV (List.range ms.length))) ev = some (.lst (natsV (List.range ms.length))) := upd_same
    generalize upd H ev (.lst (natsV (List.range ms.length))) = H1 at s1 hev1
    refine ⟨_, rfl, ev, rfl, ⟨_, SqL.of hev1⟩, fun D1 nD1 => lc_list (xs := natsV (List.range ms.length)) (fun j H' => Same H1 H' ∧ ∃ as : List Addr, as.length = j ∧ Rws H H' D1 ms.length (lowI ms) as) ?_ ?_ ?_ ?_⟩
    · exact ⟨same_upd nD1, [], rfl, ⟨upd_same, fun i a e => (by cases e)⟩⟩
    · rintro j H' _ ⟨sm, _⟩
      exact SqL.of (sm _ _ hev1)
    · rintro j v H' hv ⟨sm, as, la, hR⟩
      obtain ⟨x, hx, rfl⟩ := nats_get hv
      have xn : x < ms.length := List.mem_range.mp (List.mem_of_getElem? hx)
      have jx : x = j := by
        rw [List.getElem?_range (by have := (List.getElem?_eq_some_iff.mp hx).1; rw [List.length_range] at this; exact this)] at hx
        exact (Option.some.inj hx).symm
      refine ⟨rfl, yes_it ⟨_, rfl, ev, rfl, ⟨_, SqL.of (sm _ _ hev1)⟩, fun D2 nD2 => lc_list (xs := natsV (List.range ms.length)) (fun i H3 => Same H' H3 ∧ H3 D2 = some (.lst (natsV (((List.range ms.length).take i).map (lowI ms j))))) ?_ ?_ ?_ ?_⟩⟩
      · exact ⟨same_upd nD2, upd_same⟩
      · rintro i H3 _ ⟨sm3, _⟩
        exact SqL.of ((sm.trans sm3) _ _ hev1)
      · rintro i u H3 hu ⟨sm3, hD3⟩
        obtain ⟨y, hy, rfl⟩ := nats_get hu
        have yn : y < ms.length := List.mem_range.mp (List.mem_of_getElem? hy)
        refine ⟨rfl, yes_it ⟨_, rfl, _, rfl, _, rfl, r, ms, x, y, rfl, (s1.trans (sm.trans sm3)).seq hr0, Fm, xn, yn, fun H4 s4 => ⟨_, s4 _ _ hD3, small1000 (by rw [nats_len, List.length_map, List.length_take, List.length_range]; omega), fun c o e => ?_, ?_⟩⟩⟩
        · rw [upd_ne (ne_of_none e nD2)]; exact s4 _ _ (sm3 _ _ e)
        · rw [upd_same, List.take_add_one, hy, List.map_append, jx]
          unfold natsV
          rw [List.map_append]
          rfl
      · rintro H3 ⟨sm3, hD3⟩
        rw [nats_len, List.length_range, show (List.range ms.length).take ms.length = List.range ms.length from List.take_of_length_le (by rw [List.length_range]; exact Nat.le_refl _)] at hD3
        have hR3 := hR.same sm3
        have ne2 : D2 ≠ D1 := fun z => by rw [z, hR.at_] at nD2; cases nD2
        have jn : j < ms.length := by rw [← jx]; exact xn
        refine ⟨_, hR3.at_, small1000 (by rw [List.length_map]; omega), fun c o e => ?_, as ++ [D2], by rw [List.length_append, List.length_singleton, la], hR3.put (by rw [la]; exact hD3) ne2 (Same.free (s1.trans sm) nD2)⟩
        rw [upd_ne (ne_of_none e nD1)]
        exact sm3 _ _ (sm _ _ e)
    · rintro H2 ⟨s12, as1, la1, hR1⟩
      rw [nats_len, List.length_range] at la1
      have s2 := s1.trans s12
      have hev2 := s12 _ _ hev1
      refine ⟨_, rfl, _, rfl, ev, rfl, ⟨_, SqL.of hev2⟩, fun D2 nD2 => lc_list (xs := natsV (List.range ms.length)) (fun j H' => Same H2 H' ∧ ∃ as : List Addr, as.length = j ∧ Rws H H' D2 ms.length (upI ms) as) ?_ ?_ ?_ ?_⟩
      · exact ⟨same_upd nD2, [], rfl, ⟨upd_same, fun i a e => (by cases e)⟩⟩
      · rintro j H' _ ⟨sm, _⟩
        exact SqL.of (sm _ _ hev2)
      · rintro j v H' hv ⟨sm, as, la, hR⟩
        obtain ⟨x, hx, rfl⟩ := nats_get hv
        have xn : x < ms.length := List.mem_range.mp (List.mem_of_getElem? hx)
        have jx : x = j := by
          rw [List.getElem?_range (by have := (List.getElem?_eq_some_iff.mp hx).1; rw [List.length_range] at this; exact this)] at hx
          exact (Option.some.inj hx).symm
        refine ⟨rfl, yes_it ⟨_, rfl, ev, rfl, ⟨_, SqL.of (sm _ _ hev2)⟩, fun D5 nD5 => lc_list (xs := natsV (List.range ms.length)) (fun i H3 => Same H' H3 ∧ H3 D5 = some (.lst (natsV (((List.range ms.length).take i).map (upI ms j))))) ?_ ?_ ?_ ?_⟩⟩
        · exact ⟨same_upd nD5, upd_same⟩
        · rintro i H3 _ ⟨sm3, _⟩
          exact SqL.of ((sm.trans sm3) _ _ hev2)
        · rintro i u H3 hu ⟨sm3, hD3⟩
          obtain ⟨y, hy, rfl⟩ := nats_get hu
          have yn : y < ms.length := List.mem_range.mp (List.mem_of_getElem? hy)
          refine ⟨rfl, yes_it ⟨_, rfl, _, rfl, _, rfl, r, ms, x, y, rfl, (s2.trans (sm.trans sm3)).seq hr0, Fm, xn, yn, fun H4 s4 => ⟨_, s4 _ _ hD3, small1000 (by rw [nats_len, List.length_map, List.length_take, List.length_range]; omega), fun c o e => ?_, ?_⟩⟩⟩
          · rw [upd_ne (ne_of_none e nD5)]; exact s4 _ _ (sm3 _ _ e)
          · rw [upd_same, List.take_add_one, hy, List.map_append, jx]
            unfold natsV
            rw [List.map_append]
            rfl
        · rintro H3 ⟨sm3, hD3⟩
          rw [nats_len, List.length_range, show (List.range ms.length).take ms.length = List.range ms.length from List.take_of_length_le (by rw [List.length_range]; exact Nat.le_refl _)] at hD3
          have hR3 := hR.same sm3
          have ne2 : D5 ≠ D2 := fun z => by rw [z, hR.at_] at nD5; cases nD5
          have jn : j < ms.length := by rw [← jx]; exact xn
          refine ⟨_, hR3.at_, small1000 (by rw [List.length_map]; omega), fun c o e => ?_, as ++ [D5], by rw [List.length_append, List.length_singleton, la], hR3.put (by rw [la]; exact hD3) ne2 (Same.free (s2.trans sm) nD5)⟩
          rw [upd_ne (ne_of_none e nD2)]
          exact sm3 _ _ (sm _ _ e)
      · rintro H3 ⟨s23, as2, la2, hR2⟩
        rw [nats_len, List.length_range] at la2
        refine ⟨(by show 2 ≤ sizeLine; decide), fun T nT => ?_⟩
        have sT := same_upd (o := .tup [.ref D1, .ref D2]) nT
        have s3 := s2.trans s23
        have nTH : H T = none := Same.free s3 nT
        refine good _ T (s3.trans sT) nTH (.tup (SqT.of (by rw [nw_at nTH]; exact upd_same)) (.cons ?_ (.cons ?_ .nil)))
        · exact ((hR1.same s23).same sT).dp (Same.free s1 nD1) la1
        · exact (hR2.same sT).dp (Same.free s2 nD2) la2
end
end Fv


namespace Fv
open PySem PySem.Spec PyProof.Rows L2 FvX
/-! ### rules in the element of a comprehension -/
theorem pe_isDc {X : Cx} {K : PySem.W.Frag} {e : Expr} {te : TE} {T : String} {y : Str} {p p2 pos : Pos} (hK : X.K = K) (hg : Gl X "isinstance") (hm : X.mg "isinstance" = none) (hg2 : Gl X y) (hm2 : X.mg y = none) (ha : PE X e te)
    (hv : bootBuiltins y = some (.type T) := by decide +kernel) (hn : y ≠ "__name__" := by decide) (hd2 : (y == ("__debug__" : Str)) = false := by decide)
    (he : starEach (e :: [.Name y p2]) X.env = (false, eval e X.env) :: starEach [.Name y p2] X.env := by rfl) (hpl : (backTo pos (starEach [.Name y p2] X.env)).any (·.1) = false := by rfl) :
    PE X (.Call (.Name "isinstance" p) [e, .Name y p2] [] pos) (tCB (rIsD K) (tCons te (tCons (tC (.ty T)) tNil))) := by
  subst hK
  exact pe_isD hg hm hg2 hm2 ha hv hn hd2 he hpl
theorem call_len_seqK {X : Cx} {K : PySem.W.Frag} (hK : X.K = K) : CallR X (.builtin "len") (fun xs H Q => ∃ p ys, xs = [.ref p] ∧ (SqL K H p ys ∨ SqT K H p ys) ∧ Q (.int ys.length) H) := by
  subst hK
  exact call_len_seq
theorem call_lenTK {X : Cx} {K : PySem.W.Frag} (hK : X.K = K) : CallR X (.builtin "len") (fun xs H Q => ∃ x n, xs = [x] ∧ LenV K x H n ∧ Q (.int (n : Nat)) H) := by
  subst hK
  exact call_len
end Fv


namespace Fv
open PySem PySem.Spec PyProof.Rows L2
/-- x in a list of data -/
def rInL (K : PySem.W.Frag) : R2 := fun x y H Q => ∃ d ds, Dp K H x d ∧ Dp K H y (.list ds) ∧ SeqAt.shaped d = true ∧ SeqAt.shaped (.list ds) = true ∧ Q (.bl (ds.any fun z => PyData.eqv z d)) H
theorem op_inL {X : Cx} (hu : X.A.units + 65 < cLine) : OpR X (compareOp .In) (rInL X.K) := by
  intro pins s σ H x y v u Q I rx ry h
  obtain ⟨d, ds, hd, he, sd, se, q⟩ := h
  obtain ⟨as, r1⟩ := Dp.reads I d x v hd rx
  obtain ⟨bs, r2⟩ := Dp.reads I (.list ds) y u he ry
  exact SeqAt.in_list_reads r2 r1 (SeqAt.canLay_of_shaped se) (SeqAt.canLay_of_shaped sd) (room_shaped sd hu) ⟨.bl _, H, I, rfl, q⟩
end Fv


namespace Fv
open PySem PySem.Spec PyProof.Rows L2 FvX FvW
/-! ### comprehensions that make truth values, or leave some out -/
theorem lc_bools {K : PySem.W.Frag} {a : Addr} {xs : List V} {bs : List Bool} {g : TG} {te : TE} {vs : List Nat} {σ : L2.St} {H1 : Hp} {D : Addr} {Qd : Hp → Prop} (hl : SqL K H1 a xs) (hn : H1 D = none) (lx : xs.length = bs.length) (lb : bs.length ≤ 900)
    (hs : ∀ (i : Nat) (x : V) (b : Bool) (H' : Hp), xs[i]? = some x → bs[i]? = some b → Same H1 H' → ∀ (N : V → Hp → Prop) (M : Hp → Prop), (∀ H'', Same H' H'' → N (.bl b) H'') → g x (wipe σ vs) H' fun σ2 H2 => wipe σ2 vs = wipe σ vs ∧ tYes σ2 H2 fun b H3 => if b = true then te σ2 H3 N else M H3)
    (hd : ∀ H', Same H1 H' → H' D = some (.lst (bs.map V.bl)) → Qd H') :
    ∃ W : Nat → Nat → Hp → Prop, (∃ m, W 0 m (upd H1 D (.lst []))) ∧ ∀ i m H, W i m H →
      ((Itl K a).stop i H ∧ Qd H) ∨ ((Itl K a).go i H ∧ ∃ Nx : Hp → Prop, (∀ H', Nx H' → ∃ m', m' < m ∧ W (i + 1) m' H') ∧ ∀ x H', (Itl K a).yld i H x H' → g x (wipe σ vs) H' fun σ2 H2 => wipe σ2 vs = wipe σ vs ∧ tYes σ2 H2 fun b H3 =>
        if b = true then te σ2 H3 fun y H4 => ∃ acc, H4 D = some (.lst acc) ∧ acc.length < sizeLine ∧ Nx (upd H4 D (.lst (acc ++ [y]))) else Nx H3) := by
  refine lc_list (xs := xs) (fun i H' => Same H1 H' ∧ H' D = some (.lst ((bs.take i).map V.bl))) ⟨same_upd hn, upd_same⟩ (fun i H' _ p => p.1.seq hl) (fun i x H' hx p => ?_) (fun H' p => ?_)
  · obtain ⟨sm, e⟩ := p
    have il := (List.getElem?_eq_some_iff.mp hx).1
    obtain ⟨b, hb⟩ : ∃ b, bs[i]? = some b := ⟨_, List.getElem?_eq_getElem (by omega)⟩
    refine hs i x b H' hx hb sm _ _ fun H4 s4 => ⟨_, s4 _ _ e, small1000 (by rw [List.length_map, List.length_take]; omega), fun c o ec => ?_, ?_⟩
    · rw [upd_ne (ne_of_none ec hn)]
      exact s4 _ _ (sm _ _ ec)
    · rw [upd_same, List.take_add_one, hb, List.map_append]
      rfl
  · obtain ⟨sm, e⟩ := p
    rw [lx, List.take_length] at e
    exact hd H' sm e
/-- with a test, all that are made are true -/
theorem lc_trues {K : PySem.W.Frag} {a : Addr} {xs : List V} {g : TG} {tt : TT} {te : TE} {vs : List Nat} {σ : L2.St} {H1 : Hp} {D : Addr} {Qd : Hp → Prop} (hl : SqL K H1 a xs) (hn : H1 D = none) (lb : xs.length ≤ 900)
    (hs : ∀ (i : Nat) (x : V) (H' : Hp), xs[i]? = some x → Same H1 H' → ∀ (N : V → Hp → Prop) (M : Hp → Prop), (∀ H'', Same H' H'' → N (.bl true) H'') → (∀ H'', Same H' H'' → M H'') → g x (wipe σ vs) H' fun σ2 H2 => wipe σ2 vs = wipe σ vs ∧ tt σ2 H2 fun b H3 => if b = true then te σ2 H3 N else M H3)
    (hd : ∀ H' n, Same H1 H' → H' D = some (.lst ((List.replicate n true).map V.bl)) → Qd H') :
    ∃ W : Nat → Nat → Hp → Prop, (∃ m, W 0 m (upd H1 D (.lst []))) ∧ ∀ i m H, W i m H →
      ((Itl K a).stop i H ∧ Qd H) ∨ ((Itl K a).go i H ∧ ∃ Nx : Hp → Prop, (∀ H', Nx H' → ∃ m', m' < m ∧ W (i + 1) m' H') ∧ ∀ x H', (Itl K a).yld i H x H' → g x (wipe σ vs) H' fun σ2 H2 => wipe σ2 vs = wipe σ vs ∧ tt σ2 H2 fun b H3 =>
        if b = true then te σ2 H3 fun y H4 => ∃ acc, H4 D = some (.lst acc) ∧ acc.length < sizeLine ∧ Nx (upd H4 D (.lst (acc ++ [y]))) else Nx H3) := by
  refine lc_list (xs := xs) (fun i H' => Same H1 H' ∧ ∃ n, n ≤ i ∧ H' D = some (.lst ((List.replicate n true).map V.bl))) ⟨same_upd hn, 0, Nat.le_refl _, upd_same⟩ (fun i H' _ p => p.1.seq hl) (fun i x H' hx p => ?_) (fun H' p => ?_)
  · obtain ⟨sm, n, ni, e⟩ := p
    have il := (List.getElem?_eq_some_iff.mp hx).1
    refine hs i x H' hx sm _ _ (fun H4 s4 => ⟨_, s4 _ _ e, small1000 (by rw [List.length_map, List.length_replicate]; omega), fun c o ec => ?_, n + 1, by omega, ?_⟩) fun H4 s4 => ⟨sm.trans s4, n, by omega, s4 _ _ e⟩
    · rw [upd_ne (ne_of_none ec hn)]
      exact s4 _ _ (sm _ _ ec)
    · rw [upd_same, List.replicate_succ', List.map_append]
      rfl
  · obtain ⟨sm, n, ni, e⟩ := p
    exact hd H' n sm e
/-- some of a list's data -/
theorem lc_filt {K : PySem.W.Frag} {a : Addr} {xs : List V} {ds : List PyData} {f : PyData → Bool} {g : TG} {tt : TT} {te : TE} {vs : List Nat} {σ : L2.St} {H1 : Hp} {D : Addr} {Qd : Hp → Prop} (hl : SqL K H1 a xs) (hn : H1 D = none) (hD : DpAll K H1 xs ds) (lb : ds.length ≤ 900)
    (hs : ∀ (i : Nat) (x : V) (d : PyData) (H' : Hp), xs[i]? = some x → ds[i]? = some d → Same H1 H' → ∀ (N : V → Hp → Prop) (M : Hp → Prop), (f d = true → ∀ H'', Same H' H'' → N x H'') → (f d = false → ∀ H'', Same H' H'' → M H'') → g x (wipe σ vs) H' fun σ2 H2 => wipe σ2 vs = wipe σ vs ∧ tt σ2 H2 fun b H3 => if b = true then te σ2 H3 N else M H3)
    (hd : ∀ H' ys, Same H1 H' → H' D = some (.lst ys) → DpAll K H1 ys (ds.filter f) → Qd H') :
    ∃ W : Nat → Nat → Hp → Prop, (∃ m, W 0 m (upd H1 D (.lst []))) ∧ ∀ i m H, W i m H →
      ((Itl K a).stop i H ∧ Qd H) ∨ ((Itl K a).go i H ∧ ∃ Nx : Hp → Prop, (∀ H', Nx H' → ∃ m', m' < m ∧ W (i + 1) m' H') ∧ ∀ x H', (Itl K a).yld i H x H' → g x (wipe σ vs) H' fun σ2 H2 => wipe σ2 vs = wipe σ vs ∧ tt σ2 H2 fun b H3 =>
        if b = true then te σ2 H3 fun y H4 => ∃ acc, H4 D = some (.lst acc) ∧ acc.length < sizeLine ∧ Nx (upd H4 D (.lst (acc ++ [y]))) else Nx H3) := by
  have lx := dpAll_len hD
  refine lc_list (xs := xs) (fun i H' => Same H1 H' ∧ ∃ ys, H' D = some (.lst ys) ∧ DpAll K H1 ys ((ds.take i).filter f)) ⟨same_upd hn, [], upd_same, .nil⟩ (fun i H' _ p => p.1.seq hl) (fun i x H' hx p => ?_) (fun H' p => ?_)
  · obtain ⟨sm, ys, e, hy⟩ := p
    obtain ⟨d, hd', hDx⟩ := dpAll_get hD hx
    have ly := dpAll_len hy
    have lf := List.length_filter_le f (ds.take i)
    rw [List.length_take] at lf
    refine hs i x d H' hx hd' sm _ _ (fun ft H4 s4 => ⟨_, s4 _ _ e, small1000 (by omega), fun c o ec => ?_, ys ++ [x], upd_same, ?_⟩) fun ff H4 s4 => ⟨sm.trans s4, ys, s4 _ _ e, ?_⟩
    · rw [upd_ne (ne_of_none ec hn)]
      exact s4 _ _ (sm _ _ ec)
    · rw [List.take_add_one, hd', List.filter_append]
      refine dpAll_app hy ?_
      rw [show (some d).toList = [d] from rfl, List.filter_cons, if_pos ft]
      exact .cons hDx .nil
    · rw [List.take_add_one, hd', List.filter_append, show (some d).toList = [d] from rfl, List.filter_cons, ff]
      simpa using hy
  · obtain ⟨sm, ys, e, hy⟩ := p
    rw [lx, List.take_length] at hy
    exact hd H' ys sm e hy
theorem all_map_true {α : Type} {l : List α} {f : α → Bool} (h : ∀ x ∈ l, f x = true) : ((l.map f).all id) = true := by
  rw [List.all_map]
  exact List.all_eq_true.mpr h
theorem rep_all (n : Nat) : ((List.replicate n true).all id) = true := List.all_eq_true.mpr fun x hx => List.eq_of_mem_replicate hx
theorem op_inLK {X : Cx} {K : PySem.W.Frag} (hK : X.K = K) (hu : X.A.units + 65 < cLine) : OpR X (compareOp .In) (rInL K) := by
  subst hK
  exact op_inL hu
end Fv


namespace FvK
open PySem PySem.Spec PyProof.Rows L2 Fv FvX FvW
/-! ### dicts made over a range -/
theorem dc_rangeK {lo : Int} {n : Nat} {g : TG} {tt : TT} {tk tv : TE} {vs : List Nat} {σ : L2.St} {H1 : Hp} {D : Addr} {Qd : Hp → Prop} (Pv : Nat → Hp → Prop) (h0 : Pv 0 (upd H1 D (.dK [])))
    (hs : ∀ i H, i < n → Pv i H → g (.int (lo + (i : Nat))) (wipe σ vs) H fun σ2 H2 => wipe σ2 vs = wipe σ vs ∧ tt σ2 H2 fun b H3 => if b = true then tk σ2 H3 (fun y H4 => tv σ2 H4 fun z H5 => ∃ kvs k, y = kV k ∧ H5 D = some (.dK kvs) ∧ kvs.length < sizeLine ∧ Pv (i + 1) (upd H5 D (.dK (putK kvs k z)))) else Pv (i + 1) H3) (hd : ∀ H, Pv n H → Qd H) :
    ∃ W : Nat → Nat → Hp → Prop, (∃ m, W 0 m (upd H1 D (.dK []))) ∧ ∀ i m H, W i m H → ((Itr lo n).stop i H ∧ Qd H) ∨ ((Itr lo n).go i H ∧ ∃ N : Hp → Prop, (∀ H', N H' → ∃ m', m' < m ∧ W (i + 1) m' H') ∧
      ∀ x H', (Itr lo n).yld i H x H' → g x (wipe σ vs) H' fun σ2 H2 => wipe σ2 vs = wipe σ vs ∧ tt σ2 H2 fun b H3 => if b = true then tk σ2 H3 (fun y H4 => tv σ2 H4 fun z H5 => ∃ kvs k, y = kV k ∧ H5 D = some (.dK kvs) ∧ kvs.length < sizeLine ∧ N (upd H5 D (.dK (putK kvs k z)))) else N H3) := by
  refine ⟨fun i m H => m = n - i ∧ i ≤ n ∧ Pv i H, ⟨n - 0, rfl, Nat.zero_le _, h0⟩, fun i m H z => ?_⟩
  obtain ⟨em, hi, p⟩ := z
  rcases Nat.lt_or_ge i n with lt | ge
  · refine .inr ⟨lt, Pv (i + 1), fun H' p' => ⟨n - (i + 1), by omega, rfl, lt, p'⟩, fun x H' y => ?_⟩
    obtain ⟨rfl, rfl⟩ := y
    exact hs i _ lt p
  · have e : n = i := Nat.le_antisymm ge hi
    subst e
    exact .inl ⟨Nat.le_refl _, hd H p⟩
theorem putK_lenK (c : List (Key × V)) (k : Key) (x : V) : (putK c k x).length ≤ c.length + 1 := by
  unfold putK
  split
  · rw [List.length_map]; omega
  · rw [List.length_append]; exact Nat.le_refl _
theorem pe_fldK {X : Cx} {K : PySem.W.Frag} {e : Expr} {ta : TE} {f : Str} {pos : Pos} (hK : X.K = K) (he : PE X e ta) (hb : attributeBase e f X.env (eval e X.env) = eval e X.env) : PE X (.Attribute e f pos) (tFld K ta f) := by
  subst hK
  exact pe_fld he hb
end FvK



namespace FvO
open PySem PySem.Spec PyProof.Rows L2 Fv FvW
-- top 23  slots: 0:rows 1:most 2:row
abbrev s_are_square : Stmt := topS 23
abbrev N_are_square : List Str := ["rows", "most", "row"]
theorem sc_are_square : FnScope N_are_square ["rows", "most"] (defScope s_are_square) := ⟨rfl, rfl, rfl, by decide +kernel, rfl, by decide +kernel, by decide +kernel⟩

-- top 24  slots: 0:rows 1:row 2:at
abbrev s_columns_of : Stmt := topS 24
abbrev N_columns_of : List Str := ["rows", "row", "at"]
theorem sc_columns_of : FnScope N_columns_of ["rows"] (defScope s_columns_of) := ⟨rfl, rfl, rfl, by decide +kernel, rfl, by decide +kernel, by decide +kernel⟩

-- top 25  slots: 0:rows 1:row
abbrev s_masks_of : Stmt := topS 25
abbrev N_masks_of : List Str := ["rows", "row"]
theorem sc_masks_of : FnScope N_masks_of ["rows"] (defScope s_masks_of) := ⟨rfl, rfl, rfl, by decide +kernel, rfl, by decide +kernel, by decide +kernel⟩

-- top 26  slots: 0:masks 1:places 2:at 3:other 4:one
abbrev s_bound_table : Stmt := topS 26
abbrev N_bound_table : List Str := ["masks", "places", "at", "other", "one"]
theorem sc_bound_table : FnScope N_bound_table ["masks"] (defScope s_bound_table) := ⟨rfl, rfl, rfl, by decide +kernel, rfl, by decide +kernel, by decide +kernel⟩

theorem hu_of {A : Around} {k : Nat} (hr : Room k A) : A.units + 1 < cLine := by have := hu65 hr; omega
/-! ### what a board's rows become -/
def spSqR (K : PySem.W.Frag) : Sp := fun vs H Q _ => ∃ (r : Addr) (n : Nat) (b : Nat → Nat → Bool), vs = [.ref r, .int 60] ∧ SqL K H r ((rowsF n b).map V.str) ∧ 1 ≤ n ∧ n ≤ 60 ∧ ∀ H', Same H H' → Q (.bl true) H'
def spCol (K : PySem.W.Frag) : Sp := fun vs H Q _ => ∃ (r : Addr) (n : Nat) (b : Nat → Nat → Bool), vs = [.ref r] ∧ SqL K H r ((rowsF n b).map V.str) ∧ n ≤ 60 ∧ ∀ (H' : Hp) (p : Addr), Same H H' → H p = none → H' p = some (.lst ((rowsF n fun x y => b y x).map V.str)) → Q (.ref p) H'
def spMsk (K : PySem.W.Frag) : Sp := fun vs H Q _ => ∃ (r : Addr) (n : Nat) (b : Nat → Nat → Bool), vs = [.ref r] ∧ SqL K H r ((rowsF n b).map V.str) ∧ 1 ≤ n ∧ n ≤ 60 ∧ ∀ (H' : Hp) (p : Addr), Same H H' → H p = none → H' p = some (.lst (natsV ((List.range n).map fun x => maskF n (b x)))) → Q (.ref p) H'
def spBT (K : PySem.W.Frag) : Sp := fun vs H Q _ => ∃ (r : Addr) (n : Nat) (m : Nat → Nat) (g : Nat → Nat → Nat), vs = [.ref r] ∧ SqL K H r (natsV ((List.range n).map m)) ∧ n ≤ 60 ∧ (∀ x y, x < n → y < n → m x = m y → x = y) ∧ (∀ x y, x < n → y < n → g x y < n ∧ m x &&& m y = m (g x y)) ∧
  ∀ (H' : Hp) (p : Addr), Same H H' → H p = none → Dp K (nw H H') (.ref p) (tabD n g) → Q (.ref p) H'
theorem rows_get {n : Nat} {b : Nat → Nat → Bool} {i : Nat} {x : V} (h : ((rowsF n b).map V.str)[i]? = some x) : i < n ∧ x = .str (rowF n (b i)) := by
  rw [List.getElem?_map] at h
  obtain ⟨s, hs, rfl⟩ := Option.map_eq_some_iff.mp h
  unfold rowsF at hs
  rw [List.getElem?_map] at hs
  obtain ⟨j, hj, rfl⟩ := Option.map_eq_some_iff.mp hs
  have l := (List.getElem?_eq_some_iff.mp hj).1
  rw [List.length_range] at l
  rw [List.getElem?_range l] at hj
  cases hj
  exact ⟨l, rfl⟩
theorem rows_lenF (n : Nat) (b : Nat → Nat → Bool) : ((rowsF n b).map V.str).length = n := by unfold rowsF; rw [List.length_map, List.length_map, List.length_range]
theorem rowF_size {n : Nat} (f : Nat → Bool) (h : n ≤ 60) : (rowF n f).length ≤ sizeLine := by rw [rowF_len, sizeLine_eq]; omega
section
variable {P : Program} {w : World} {K : PySem.W.Frag} {mg : Str → Option Value} {base : Heap}
theorem ok_square {f : Addr} {fd : FuncData} {k : Nat} (F : Fun K "are_square" "are_square" s_are_square f fd) (m_len : mg "len" = none) (m_all : mg "all" = none) (m_isinstance : mg "isinstance" = none) (m_str : mg "str" = none) :
    FnOk P w K mg base CX0 (k + 1) f fd ["rows", "most"] (spSqR K) := by
  refine F.ok sc_are_square (fun vs H Q E h => ?_) (fun cdv A outer s H vs Q E hr h => ?_)
  · obtain ⟨r, n, b, rfl, _⟩ := h
    rfl
  · obtain ⟨r, n, b, rfl, hr0, n1, n60, good⟩ := h
    refine ⟨_, (pss_cons (ps_if (PW.pt (pw_or (pt_cmpR op_lt (pe_callB call_len_seq (by rfl) m_len (by decide +kernel) (pa_cons (pv 0) pa_nil)) pe_int (nomark _)) (pw_or1 (pt_cmpR op_gt (pe_callB call_len_seq (by rfl) m_len (by decide +kernel) (pa_cons (pv 0) pa_nil)) (pv 1) (nomark _)))))
        (pss_one (ps_ret pe_bl))
        pss_nil)
      (pss_one (ps_ret (pe_callB (cr_allK (K := K) rfl rfl) (by rfl) m_all (by decide +kernel) (pa_cons (pe_lc (own := [("row", 2)]) (g := gName 2) (by rfl) sc_are_square.nd (pi_list (pv 0)) (blkOk_by (own := [("row", 2)]) (N := N_are_square) (sc := defScope s_are_square) (by decide +kernel)) (fun _ _ _ _ _ => pg_name (i := 2) sc_are_square.nd rfl (Or.inl rfl)) (fun _ _ _ _ _ => pts_nil) (fun _ _ _ _ _ => (pe_and (pe_isDc (K := K) (T := "str") rfl (by rfl) m_isinstance (by rfl) m_str (pv 2)) (pe_and (pe_cmpR op_eq (pe_callB (call_lenTK (K := K) rfl) (by rfl) m_len (by decide +kernel) (pa_cons (pv 2) pa_nil)) (pe_callB (call_len_seqK (K := K) rfl) (by rfl) m_len (by decide +kernel) (pa_cons (pv 0) pa_nil)) (nomark _)) (pe_one (pe_cmpR op_eq (pe_m1 PySem.F.slot_str_strip PySem.F.type_str_strip mt_stripChars (pv 2) pe_str) pe_str (nomark _))))))) pa_nil))))), ?_⟩
    have lr := rows_lenF n b
    refine ⟨_, rfl, r, _, rfl, .inl hr0, _, _, rfl, rfl, _, rfl, ?_⟩
    rw [lr, show decide (((n : Nat) : Int) < 1) = false from decide_eq_false (by omega)]
    refine iteF ⟨_, rfl, r, _, rfl, .inl hr0, _, rfl, _, _, rfl, rfl, _, rfl, ?_⟩
    rw [lr, show decide (((n : Nat) : Int) > 60) = false from decide_eq_false (by omega)]
    refine iteF ⟨_, rfl, r, rfl, ⟨_, hr0⟩, fun D nD => lc_bools (xs := (rowsF n b).map V.str) (bs := (List.range n).map fun _ => true) hr0 nD (by rw [lr, List.length_map, List.length_range]) (by rw [List.length_map, List.length_range]; omega) (fun i x c H' hx hc sm N M qN => ?_) (fun H' sm hD => ?_)⟩
    · obtain ⟨il, rfl⟩ := rows_get hx
      rw [List.getElem?_map, List.getElem?_range il] at hc
      cases hc
      refine ⟨rfl, yes_it ⟨_, rfl, _, _, .str (rowF n (b i)), rfl, by decide, .str _, _, rfl, iteT ⟨_, rfl, _, _, rfl, ⟨rowF_size _ n60, rfl⟩, _, rfl, r, _, rfl, .inl (sm.seq hr0), rfl, _, rfl, ?_⟩⟩⟩
      rw [show decide (V.int (((rowF n (b i)).length : Nat) : Int) = V.int ((((rowsF n b).map V.str).length : Nat) : Int)) = true from decide_eq_true (by rw [rowF_len, lr])]
      refine iteT ⟨_, rfl, ⟨_, rfl⟩, _, _, rfl, rfl, rowF_size _ n60, rfl, ?_⟩
      rw [strip_bin (rowF_bin n (b i))]
      exact qN _ (Same.refl _)
    · refine ⟨D, _, rfl, SqL.of hD, ?_⟩
      rw [all_map_true fun x _ => rfl]
      exact good _ sm
theorem ok_columns {f : Addr} {fd : FuncData} {k : Nat} (F : Fun K "columns_of" "columns_of" s_columns_of f fd) (m_len : mg "len" = none) (m_range : mg "range" = none) :
    FnOk P w K mg base CX0 (k + 1) f fd ["rows"] (spCol K) := by
  refine F.ok sc_columns_of (fun vs H Q E h => ?_) (fun cdv A outer s H vs Q E hr h => ?_)
  · obtain ⟨r, n, b, rfl, _⟩ := h
    rfl
  · obtain ⟨r, n, b, rfl, hr0, n60, good⟩ := h
    refine ⟨_, (pss_one (ps_ret (pe_lc (own := [("at", 2)]) (g := gName 2) (by rfl) sc_columns_of.nd (pi_range1 (by rfl) m_range (pa_cons (pe_callB call_len_seq (by rfl) m_len (by decide +kernel) (pa_cons (pv 0) pa_nil)) pa_nil)) (blkOk_by (own := [("at", 2)]) (N := N_columns_of) (sc := defScope s_columns_of) (by decide +kernel)) (fun _ _ _ _ _ => pg_name (i := 2) sc_columns_of.nd rfl (Or.inr rfl)) (fun _ _ _ _ _ => pts_nil) (fun _ _ _ _ _ => (pe_joinK (K := K) rfl pe_str (pe_lc (own := [("row", 1)]) (g := gName 1) (by rfl) sc_columns_of.nd (pi_listK (K := K) rfl (pv 0)) (blkOk_by (own := [("row", 1)]) (N := N_columns_of) (by exact rfl)) (fun _ _ _ _ _ => pg_name (i := 1) sc_columns_of.nd rfl (Or.inl rfl)) (fun _ _ _ _ _ => pts_nil) (fun _ _ _ _ _ => (pe_ix ix_str (pv 1) (pv 2) (fun _ _ => rfl))))))))), ?_⟩
    have lr := rows_lenF n b
    refine ⟨_, rfl, r, _, rfl, .inl hr0, _, rfl, by omega, by omega, fun D nD => lc_range (lo := 0) (n := ((((rowsF n b).map V.str).length : Nat) : Int).toNat) (fun j H' => Same H H' ∧ H' D = some (.lst ((List.range j).map fun y => V.str (rowF n fun x => b x y)))) ?_ ?_ ?_⟩
    · exact ⟨same_upd nD, upd_same⟩
    · rintro j H' hj ⟨sm, hD⟩
      have ej : (0 : Int) + (j : Nat) = ((j : Nat) : Int) := by omega
      rw [ej]
      rw [Int.toNat_natCast, lr] at hj
      refine ⟨rfl, yes_it ⟨⟨_, rfl⟩, _, rfl, r, rfl, ⟨_, sm.seq hr0⟩, fun D2 nD2 => lc_list (xs := (rowsF n b).map V.str) (fun i H2 => Same H' H2 ∧ H2 D2 = some (.lst ((((List.range i).map fun x => chB (b x j)).map fun c => (⟨#[c]⟩ : Str)).map V.str))) ?_ ?_ ?_ ?_⟩⟩
      · exact ⟨same_upd nD2, upd_same⟩
      · rintro i H2 _ ⟨s2, _⟩
        exact s2.seq (sm.seq hr0)
      · rintro i x H2 hx ⟨s2, hD2⟩
        obtain ⟨il, rfl⟩ := rows_get hx
        refine ⟨rfl, yes_it ⟨_, rfl, _, rfl, _, _, chB (b i j), rfl, rfl, rowF_size _ n60, ?_, _, hD2, small1000 (by rw [List.length_map, List.length_map, List.length_map, List.length_range]; omega), fun c o e => ?_, ?_⟩⟩
        · rw [rowF_cps]
          exact atI_nat (by rw [List.getElem?_map, List.getElem?_range hj]; rfl)
        · rw [upd_ne (ne_of_none e nD2)]; exact s2 _ _ e
        · rw [upd_same, List.range_succ]
          simp
      · rintro H2 ⟨s2, hD2⟩
        rw [lr] at hD2
        refine ⟨_, D2, _, rfl, rfl, .inl (SqL.of hD2), ?_, _, s2 _ _ hD, small1000 (by rw [List.length_map, List.length_range]; omega), fun c o e => ?_, ?_⟩
        · rw [sum_ones, List.length_map, List.length_map, List.length_range, List.length_map, List.length_range]
          show n + n * 0 ≤ 16777216
          omega
        · rw [upd_ne (ne_of_none e nD)]; exact s2 _ _ (sm _ _ e)
        · rw [upd_same, List.range_succ, List.map_append, join_empty]
          rfl
    · rintro H' ⟨sm, hD⟩
      rw [Int.toNat_natCast, lr] at hD
      refine good H' D sm nD ?_
      rw [hD]
      unfold rowsF
      rw [List.map_map]
      rfl
theorem ok_masksB {f : Addr} {fd : FuncData} {k : Nat} (F : Fun K "masks_of" "masks_of" s_masks_of f fd) (m_int : mg "int" = none) :
    FnOk P w K mg base CX0 (k + 1) f fd ["rows"] (spMsk K) := by
  refine F.ok sc_masks_of (fun vs H Q E h => ?_) (fun cdv A outer s H vs Q E hr h => ?_)
  · obtain ⟨r, n, b, rfl, _⟩ := h
    rfl
  · obtain ⟨r, n, b, rfl, hr0, n1, n60, good⟩ := h
    refine ⟨_, (pss_one (ps_ret (pe_lc (own := [("row", 1)]) (g := gName 1) (by rfl) sc_masks_of.nd (pi_list (pv 0)) (blkOk_by (own := [("row", 1)]) (N := N_masks_of) (sc := defScope s_masks_of) (by decide +kernel)) (fun _ _ _ _ _ => pg_name (i := 1) sc_masks_of.nd rfl (Or.inl rfl)) (fun _ _ _ _ _ => pts_nil) (fun _ _ _ _ _ => (pe_callTy call_int_bin (by rfl) m_int (by decide +kernel) (pa_cons (pe_revS (pv 1)) (pa_cons pe_int pa_nil))))))), ?_⟩
    have lr := rows_lenF n b
    refine ⟨_, rfl, r, rfl, ⟨_, hr0⟩, fun D nD => lc_list (xs := (rowsF n b).map V.str) (fun i H2 => Same H H2 ∧ H2 D = some (.lst (natsV ((List.range i).map fun x => maskF n (b x))))) ?_ ?_ ?_ ?_⟩
    · exact ⟨same_upd nD, upd_same⟩
    · rintro i H2 _ ⟨s2, _⟩
      exact s2.seq hr0
    · rintro i x H2 hx ⟨s2, hD⟩
      obtain ⟨il, rfl⟩ := rows_get hx
      have er : (revS (rowF n (b i))).cps.toList = ((List.range n).map fun y => chB (b i y)).reverse := by
        unfold revS
        rw [rowF_cps]
      refine ⟨rfl, yes_it ⟨_, rfl, _, rfl, rowF_size _ n60, _, rfl, ?_, ?_, ?_, _, hD, small1000 (by rw [nats_len, List.length_map, List.length_range]; omega), fun c o e => ?_, ?_⟩⟩
      · rw [er]
        intro z
        have := congrArg List.length z
        rw [List.length_reverse, List.length_map, List.length_range] at this
        simp at this
        omega
      · show (revS (rowF n (b i))).cps.size ≤ 640
        rw [← Array.length_toList, er, List.length_reverse, List.length_map, List.length_range]
        omega
      · rw [er]
        intro c hc
        obtain ⟨y, _, rfl⟩ := List.mem_map.mp (List.mem_reverse.mp hc)
        exact chB_bin _
      · rw [upd_ne (ne_of_none e nD)]; exact s2 _ _ e
      · rw [upd_same, er, bin_rev, List.range_succ, List.map_append]
        unfold natsV
        rw [List.map_append]
        rfl
    · rintro H2 ⟨s2, hD⟩
      rw [lr] at hD
      exact good H2 D s2 nD hD
theorem ok_bound {f : Addr} {fd : FuncData} {k : Nat} (F : Fun K "bound_table" "bound_table" s_bound_table f fd) (m_len : mg "len" = none) (m_range : mg "range" = none) :
    FnOk P w K mg base CX0 (k + 1) f fd ["masks"] (spBT K) := by
  refine F.ok sc_bound_table (fun vs H Q E h => ?_) (fun cdv A outer s H vs Q E hr h => ?_)
  · obtain ⟨r, n, m, g, rfl, _⟩ := h
    rfl
  · obtain ⟨r, n, m, g, rfl, hr0, n60, inj, hg, good⟩ := h
    refine ⟨_, (pss_cons (ps_set (i := 1) sc_bound_table.nd rfl (by first | exact .inl rfl | exact .inr rfl) (pe_dc (own := [("at", 2)]) (g := gName 2) (by rfl) sc_bound_table.nd (pi_range1 (by rfl) m_range (pa_cons (pe_callB call_len_seq (by rfl) m_len (by decide +kernel) (pa_cons (pv 0) pa_nil)) pa_nil)) (blkOk_by (own := [("at", 2)]) (N := N_bound_table) (sc := defScope s_bound_table) (by decide +kernel)) (fun _ _ _ _ _ => pg_name (i := 2) sc_bound_table.nd rfl (Or.inl rfl)) (fun _ _ _ _ _ => pts_nil) (fun _ _ _ _ _ => (pe_ix (ix_listK (K := K) rfl) (pv 0) (pv 2) (fun _ _ => rfl))) (fun _ _ _ _ _ => (pv 2))))
      (pss_one (ps_ret (pe_lc (own := [("one", 4)]) (g := gName 4) (by rfl) sc_bound_table.nd (pi_listK (K := K) rfl (pv 0)) (blkOk_by (own := [("one", 4)]) (N := N_bound_table) (sc := defScope s_bound_table) (by decide +kernel)) (fun _ _ _ _ _ => pg_name (i := 4) sc_bound_table.nd rfl (Or.inr rfl)) (fun _ _ _ _ _ => pts_nil) (fun _ _ _ _ _ => (pe_lc (own := [("other", 3)]) (g := gName 3) (by rfl) sc_bound_table.nd (pi_listK (K := K) rfl (pv 0)) (blkOk_by (own := [("other", 3)]) (N := N_bound_table) (by exact rfl)) (fun _ _ _ _ _ => pg_name (i := 3) sc_bound_table.nd rfl (Or.inl rfl)) (fun _ _ _ _ _ => pts_nil) (fun _ _ _ _ _ => (pe_dget1 (hu_of hr) (pv 1) (pe_op L2.op_and (pv 4) (pv 3)) ⟨rfl, rfl, rfl, rfl⟩)))))))), ?_⟩
    have lr : (natsV ((List.range n).map m)).length = n := by rw [nats_len, List.length_map, List.length_range]
    have get : ∀ x, x < n → (natsV ((List.range n).map m))[x]? = some (.int (m x : Nat)) := fun x hx => by
      unfold natsV
      rw [List.getElem?_map, List.getElem?_map, List.getElem?_range hx]
      rfl
    refine ⟨_, rfl, r, _, rfl, .inl hr0, _, rfl, by omega, by omega, fun pv npv => FvK.dc_rangeK (lo := 0) (n := (((natsV ((List.range n).map m)).length : Nat) : Int).toNat) (fun j H' => Same H H' ∧ ∃ kvs, H' pv = some (.dK kvs) ∧ kvs.length ≤ j ∧ ∀ x, x < j → valV kvs (Sum.inl ((m x : Nat) : Int)) = some (.int (x : Nat))) ?_ ?_ ?_⟩
    · exact ⟨same_upd npv, [], upd_same, Nat.le_refl _, fun x hx => absurd hx (Nat.not_lt_zero _)⟩
    · rintro j H' hj ⟨sm, kvs, hpv, lk, hva⟩
      rw [Int.toNat_natCast, lr] at hj
      have ej : (0 : Int) + (j : Nat) = ((j : Nat) : Int) := by omega
      rw [ej]
      refine ⟨rfl, yes_it ⟨_, rfl, _, rfl, r, _, _, _, rfl, rfl, sm.seq hr0, atI_nat (get j hj), _, rfl, kvs, Sum.inl ((m j : Nat) : Int), rfl, hpv, small1000 (by omega), fun c o e => ?_, _, upd_same, Nat.le_trans (FvK.putK_lenK _ _ _) (by omega), fun x hx => ?_⟩⟩
      · rw [upd_ne (ne_of_none e npv)]; exact sm _ _ e
      · rw [valV_put]
        by_cases e : x = j
        · rw [e, if_pos rfl]
        · rw [if_neg (fun z => e (inj x j (by omega) hj (by simp only [Sum.inl.injEq] at z; omega)))]
          exact hva x (by omega)
    · rintro H1 ⟨s1, kvs, hpv, lk, hva⟩
      rw [Int.toNat_natCast, lr] at hva
      have hr1 := s1.seq hr0
      refine ⟨_, rfl, r, rfl, ⟨_, hr1⟩, fun D1 nD1 => lc_list (xs := natsV ((List.range n).map m)) (fun j H' => Same H1 H' ∧ ∃ as : List Addr, as.length = j ∧ Rws H H' D1 n g as) ?_ ?_ ?_ ?_⟩
      · exact ⟨same_upd nD1, [], rfl, ⟨upd_same, fun i a e => (by cases e)⟩⟩
      · rintro j H' _ ⟨sm, _⟩
        exact sm.seq hr1
      · rintro j v H' hv ⟨sm, as, la, hR⟩
        have jn : j < n := by have := (List.getElem?_eq_some_iff.mp hv).1; omega
        rw [get j jn] at hv
        cases hv
        refine ⟨rfl, yes_it ⟨_, rfl, r, rfl, ⟨_, sm.seq hr1⟩, fun D2 nD2 => lc_list (xs := natsV ((List.range n).map m)) (fun i H3 => Same H' H3 ∧ H3 D2 = some (.lst (natsV ((List.range i).map (g j))))) ?_ ?_ ?_ ?_⟩⟩
        · exact ⟨same_upd nD2, upd_same⟩
        · rintro i H3 _ ⟨sm3, _⟩
          exact (sm.trans sm3).seq hr1
        · rintro i u H3 hu ⟨sm3, hD3⟩
          have iN : i < n := by have := (List.getElem?_eq_some_iff.mp hu).1; omega
          rw [get i iN] at hu
          cases hu
          have s13 := sm.trans sm3
          have hp3 := s13 _ _ hpv
          obtain ⟨gl, ge⟩ := hg j i jn iN
          have dg := DGet.k (k := Sum.inl ((m (g j i) : Nat) : Int)) hp3
          rw [hva _ gl] at dg
          refine ⟨rfl, yes_it ⟨_, rfl, pv, rfl, .inl ⟨_, .inl hp3⟩, _, rfl, _, rfl, _, _, rfl, rfl, some (.int (g j i : Nat)), ?_, ?_⟩⟩
          · have e : Builtin.bitAnd ((m j : Nat) : Int) ((m i : Nat) : Int) = ((m (g j i) : Nat) : Int) := by rw [bitAnd_nat, ge]
            dsimp only
            rw [e]
            exact dg
          · refine ⟨_, hD3, small1000 (by rw [nats_len, List.length_map, List.length_range]; omega), fun c o e => ?_, ?_⟩
            · rw [upd_ne (ne_of_none e nD2)]; exact sm3 _ _ e
            · rw [upd_same, List.range_succ, List.map_append]
              unfold natsV
              rw [List.map_append]
              rfl
        · rintro H3 ⟨sm3, hD3⟩
          rw [lr] at hD3
          have hR3 := hR.same sm3
          have ne2 : D2 ≠ D1 := fun z => by rw [z, hR.at_] at nD2; cases nD2
          refine ⟨_, hR3.at_, small1000 (by rw [List.length_map]; omega), fun c o e => ?_, as ++ [D2], by rw [List.length_append, List.length_singleton, la], hR3.put (by rw [la]; exact hD3) ne2 (Same.free (s1.trans sm) nD2)⟩
          rw [upd_ne (ne_of_none e nD1)]
          exact sm3 _ _ (sm _ _ e)
      · rintro H2 ⟨s2, as, la, hR⟩
        rw [lr] at la
        exact good H2 D1 (s1.trans s2) (Same.free s1 nD1) (hR.dp (Same.free s1 nD1) la)
end
end FvO


namespace FvO
open PySem PySem.Spec PyProof.Rows L2 Fv FvW
open FvK (pe_fldK)
open ClX (CRead CVal pe_cval)
-- top 27  slots: 0:self 1:rows 2:at 3:row
abbrev s_init__of__Board : Stmt := inClass (topS 27) 1
abbrev N_init__of__Board : List Str := ["self", "rows", "at", "row"]
theorem sc_init__of__Board : FnScope N_init__of__Board ["self", "rows"] (defScope s_init__of__Board) := ⟨rfl, rfl, rfl, by decide +kernel, rfl, by decide +kernel, by decide +kernel⟩

/-! ### boards -/
structure Brd (n : Nat) (b : Nat → Nat → Bool) (lo hi : Nat → Nat → Nat) (bt tp : Nat) : Prop where
  n1 : 1 ≤ n
  n60 : n ≤ 60
  rf : ∀ x, x < n → b x x = true
  an : ∀ x y, x < n → y < n → b x y = true → b y x = true → x = y
  tr : ∀ x y z, x < n → y < n → z < n → b x y = true → b y z = true → b x z = true
  lo : ∀ x y, x < n → y < n → lo x y < n ∧ ∀ z, z < n → b z (lo x y) = (b z x && b z y)
  hi : ∀ x y, x < n → y < n → hi x y < n ∧ ∀ z, z < n → b (hi x y) z = (b x z && b y z)
  bt : bt < n ∧ ∀ z, z < n → b bt z = true
  tp : tp < n ∧ ∀ z, z < n → b z tp = true
structure BL where
  ln : Addr
  ab : Addr
  be : Addr
  lo : Addr
  hi : Addr
  bt : Nat
  tp : Nat
def flB (L : BL) : List (Str × V) := [("lines", .ref L.ln), ("above", .ref L.ab), ("below", .ref L.be), ("lows", .ref L.lo), ("highs", .ref L.hi), ("least", .int (L.bt : Nat)), ("greatest", .int (L.tp : Nat))]
def fb1 (ln : Addr) : List (Str × V) := [("lines", .ref ln)]
def fb2 (ln ab : Addr) : List (Str × V) := [("lines", .ref ln), ("above", .ref ab)]
def fb3 (ln ab be : Addr) : List (Str × V) := [("lines", .ref ln), ("above", .ref ab), ("below", .ref be)]
def fb4 (ln ab be lo : Addr) : List (Str × V) := [("lines", .ref ln), ("above", .ref ab), ("below", .ref be), ("lows", .ref lo)]
def fb5 (ln ab be lo hi : Addr) : List (Str × V) := [("lines", .ref ln), ("above", .ref ab), ("below", .ref be), ("lows", .ref lo), ("highs", .ref hi)]
def fb6 (ln ab be lo hi : Addr) (bt : Nat) : List (Str × V) := [("lines", .ref ln), ("above", .ref ab), ("below", .ref be), ("lows", .ref lo), ("highs", .ref hi), ("least", .int (bt : Nat))]
theorem tab_inv {K : PySem.W.Frag} {H : Hp} {p : Addr} {n : Nat} {g : Nat → Nat → Nat} (h : Dp K H (.ref p) (tabD n g)) : ∃ xs, SqL K H p xs ∧ DpAll K H xs ((List.range n).map fun x => rowD n (g x)) := by
  cases h with
  | lst hs ha => exact ⟨_, hs, ha⟩
theorem row_gd {n : Nat} (f : Nat → Nat) (h : n ≤ 60) : gd 2 (rowD n f) = true := gd_lst (n := 1) (fun d hd => by
  obtain ⟨y, _, rfl⟩ := List.mem_map.mp hd
  rfl) (by rw [List.length_map, List.length_range]; omega)
theorem row_none {n : Nat} (f : Nat → Nat) : (((List.range n).map fun y => PyData.int (f y : Nat)).any fun z => PyData.eqv z .none) = false := by
  rw [List.any_eq_false]
  intro z hz
  obtain ⟨y, _, rfl⟩ := List.mem_map.mp hz
  exact Bool.false_ne_true
theorem hide_upd {x : Addr} {M : List Addr} {H : Hp} {o : HO} : hide (x :: M) (upd H x o) = hide (x :: M) H := by
  funext b
  by_cases e : b = x
  · subst e
    unfold hide
    rw [if_pos List.mem_cons_self, if_pos List.mem_cons_self]
  · by_cases m : b ∈ M
    · unfold hide
      rw [if_pos (List.mem_cons_of_mem _ m), if_pos (List.mem_cons_of_mem _ m)]
    · rw [hide_ne (fun z => (List.mem_cons.mp z).elim e m), hide_ne (fun z => (List.mem_cons.mp z).elim e m), upd_ne e]
theorem hid_new {x p : Addr} {M : List Addr} {H0 H H' : Hp} {o u : HO} (tM : Trk M H0) (xM : x ∉ M) (sm : SmX [x] H0 H) (hx : H x = some u) (n : H p = none) (h : H' p = some o) : hide (x :: M) H' p = some o := by
  rw [hide_ne]
  · exact h
  · intro z
    rcases List.mem_cons.mp z with z | z
    · rw [z, hx] at n
      cases n
    · obtain ⟨o2, e⟩ := tM p z
      have := sm p o2 (fun y => xM (List.mem_singleton.mp y ▸ z)) e
      rw [n] at this; cases this
structure TxB (K : PySem.W.Frag) (C : Addr) : Prop where
  cl : Cls K C
  n1 : NoAttr K C "lines"
  n2 : NoAttr K C "above"
  n3 : NoAttr K C "below"
  n4 : NoAttr K C "lows"
  n5 : NoAttr K C "highs"
  n6 : NoAttr K C "least"
  n7 : NoAttr K C "greatest"
/-- the class's constant -/
structure TxM (K : PySem.W.Frag) (C : Addr) : Prop where
  ex : ∃ mc u, CRead K C mc ∧ CVal K C mc "MAX_PLACES" (.int 60) u
structure BAt (K : PySem.W.Frag) (C : Addr) (H : Hp) (c : Addr) (L : BL) (n : Nat) (b : Nat → Nat → Bool) (lo hi : Nat → Nat → Nat) : Prop where
  ob : ∃ dx, H c = some (.ins C dx (flB L))
  ln : H L.ln = some (.lst ((rowsF n b).map V.str))
  ab : H L.ab = some (.lst (natsV ((List.range n).map fun x => maskF n (b x))))
  be : H L.be = some (.lst (natsV ((List.range n).map fun x => maskF n fun y => b y x)))
  lo : Dp K H (.ref L.lo) (tabD n lo)
  hi : Dp K H (.ref L.hi) (tabD n hi)
theorem BAt.same {K : PySem.W.Frag} {C : Addr} {H H' : Hp} {c : Addr} {L : BL} {n : Nat} {b : Nat → Nat → Bool} {lo hi : Nat → Nat → Nat} (h : BAt K C H c L n b lo hi) (s : Same H H') : BAt K C H' c L n b lo hi :=
  ⟨h.ob.imp fun dx e => s _ _ e, s _ _ h.ln, s _ _ h.ab, s _ _ h.be, dp_same s _ _ h.lo, dp_same s _ _ h.hi⟩
def spBIn (K : PySem.W.Frag) (C : Addr) : Sp := fun vs H Q _ => ∃ (M : List Addr) (x rl dx : Addr) (n : Nat) (b : Nat → Nat → Bool) (lo hi : Nat → Nat → Nat) (bt tp : Nat), vs = [.ref x, .ref rl] ∧ Trk M H ∧ x ∉ M ∧ H x = some (.ins C dx []) ∧ SqL K (hide (x :: M) H) rl ((rowsF n b).map V.str) ∧ Brd n b lo hi bt tp ∧
  ∀ (H' : Hp) (L : BL), SmX [x] H H' → BAt K C (hide M H') x L n b lo hi → L.bt = bt → L.tp = tp → Q .non H'
section
variable {P : Program} {w : World} {K : PySem.W.Frag} {mg : Str → Option Value} {base : Heap} {C : Addr}
set_option maxHeartbeats 1000000 in
theorem ok_binit {f : Addr} {fd : FuncData} {k : Nat} (F : Fun K "__init__" "Board.__init__" s_init__of__Board f fd) (T : TxB K C) (TM : TxM K C) (g_Board : mg "Board" = some (.ref C)) (m_len : mg "len" = none) (m_range : mg "range" = none) (m_list : mg "list" = none) (m_all : mg "all" = none) (m_any : mg "any" = none) (m_max : mg "max" = none) (hk : 2 ≤ k)
    (C_are_square : Own P w K mg base 2 "are_square" ["rows", "most"] (spSqR K)) (C_columns_of : Own P w K mg base 2 "columns_of" ["rows"] (spCol K)) (C_masks_of : Own P w K mg base 2 "masks_of" ["rows"] (spMsk K)) (C_bound_table : Own P w K mg base 2 "bound_table" ["masks"] (spBT K)) :
    FnOk P w K mg base CX0 (k + 1) f fd ["self", "rows"] (spBIn K C) := by
  refine F.ok sc_init__of__Board (fun vs H Q E h => ?_) (fun cdv A outer s H vs Q E hr h => ?_)
  · obtain ⟨M, x, rl, dx, n, b, lo, hi, bt, tp, rfl, _⟩ := h
    rfl
  · obtain ⟨M, x, rl, dx, n, b, lo, hi, bt, tp, rfl, tM, xM, hx, hrl, B, good⟩ := h
    refine ⟨_, (pss_cons (ps_if (pt_not (pt_val (pe_own C_are_square (hr.mono (by omega)) (by rfl) (pa_cons (pv 1) (pa_cons (pe_cval (pe_glob (v := .ref C) (by rfl) g_Board rfl)) pa_nil)))))
        pss_never
        pss_nil)
      (pss_cons (ps_fld (pv 0) (pe_callTy call_list_of (by rfl) m_list (by decide +kernel) (pa_cons (pv 1) pa_nil)) rfl)
      (pss_cons (ps_fld (pv 0) (pe_own C_masks_of (hr.mono (by omega)) (by rfl) (pa_cons (pe_fldK (K := K) rfl (pv 0) rfl) pa_nil)) rfl)
      (pss_cons (ps_fld (pv 0) (pe_own C_masks_of (hr.mono (by omega)) (by rfl) (pa_cons (pe_own C_columns_of (hr.mono (by omega)) (by rfl) (pa_cons (pe_fldK (K := K) rfl (pv 0) rfl) pa_nil)) pa_nil)) rfl)
      (pss_cons (ps_if (pt_not (pt_val (pe_callB (cr_allK (K := K) rfl rfl) (by rfl) m_all (by decide +kernel) (pa_cons (pe_lc (own := [("at", 2)]) (g := gName 2) (by rfl) sc_init__of__Board.nd (pi_range1 (by rfl) m_range (pa_cons (pe_callB call_len_seq (by rfl) m_len (by decide +kernel) (pa_cons (pe_fldK (K := K) rfl (pv 0) rfl) pa_nil)) pa_nil)) (blkOk_by (own := [("at", 2)]) (N := N_init__of__Board) (sc := defScope s_init__of__Board) (by decide +kernel)) (fun _ _ _ _ _ => pg_name (i := 2) sc_init__of__Board.nd rfl (Or.inl rfl)) (fun _ _ _ _ _ => pts_nil) (fun _ _ _ _ _ => (pe_cmpR op_eq (pe_op L2.op_and (pe_ix (ix_listK (K := K) rfl) (pe_fldK (K := K) rfl (pv 0) rfl) (pv 2) (fun _ _ => rfl)) (pe_ix (ix_listK (K := K) rfl) (pe_fldK (K := K) rfl (pv 0) rfl) (pv 2) (fun _ _ => rfl))) (pe_op op_shl pe_int (pv 2)) (nomark _)))) pa_nil))))
        pss_never
        pss_nil)
      (pss_cons (ps_fld (pv 0) (pe_own C_bound_table (hr.mono (by omega)) (by rfl) (pa_cons (pe_fldK (K := K) rfl (pv 0) rfl) pa_nil)) rfl)
      (pss_cons (ps_fld (pv 0) (pe_own C_bound_table (hr.mono (by omega)) (by rfl) (pa_cons (pe_fldK (K := K) rfl (pv 0) rfl) pa_nil)) rfl)
      (pss_cons (ps_if (pt_val (pe_callB (cr_any rfl) (by rfl) m_any (by decide +kernel) (pa_cons (pe_lc (own := [("row", 3)]) (g := gName 3) (by rfl) sc_init__of__Board.nd (pi_list (pe_lst (StX.pa_star (pe_fldK (K := K) rfl (pv 0) rfl) (StX.pa_star (pe_fldK (K := K) rfl (pv 0) rfl) pa_nil)))) (blkOk_by (own := [("row", 3)]) (N := N_init__of__Board) (sc := defScope s_init__of__Board) (by decide +kernel)) (fun _ _ _ _ _ => pg_name (i := 3) sc_init__of__Board.nd rfl (Or.inl rfl)) (fun _ _ _ _ _ => pts_nil) (fun _ _ _ _ _ => (pe_cmpR (op_inLK (K := K) rfl (hu65 hr)) pe_non (pv 3) (by rfl)))) pa_nil)))
        pss_never
        pss_nil)
      (pss_cons (ps_fld (pv 0) (pe_bm PySem.F.plainAttrs_list PySem.F.slot_list_index PySem.F.type_list_index mt_index (pe_fldK (K := K) rfl (pv 0) rfl) (pa_cons (pe_callB (cr_max rfl) (by rfl) m_max (by decide +kernel) (pa_cons (pe_fldK (K := K) rfl (pv 0) rfl) pa_nil)) pa_nil)) rfl)
      (pss_one (ps_fld (pv 0) (pe_bm PySem.F.plainAttrs_list PySem.F.slot_list_index PySem.F.type_list_index mt_index (pe_fldK (K := K) rfl (pv 0) rfl) (pa_cons (pe_callB (cr_max rfl) (by rfl) m_max (by decide +kernel) (pa_cons (pe_fldK (K := K) rfl (pv 0) rfl) pa_nil)) pa_nil)) rfl))))))))))), ?_⟩
    obtain ⟨mc, u, cr, cv⟩ := TM.ex
    have n1 := B.n1
    have n60 := B.n60
    have hrl0 : SqL K H rl ((rowsF n b).map V.str) := hide_same.seq hrl
    refine ⟨_, rfl, C, mc, .int 60, u, rfl, cr, cv, rl, n, b, rfl, hrl0, n1, n60, fun H1 s1 => ⟨_, rfl, iteF ?_⟩⟩
    have mx : x ∈ [x] := List.mem_singleton.mpr rfl
    have hx1 := s1 _ _ hx
    have sm1 : SmX [x] H H1 := SmX.of_same s1
    have hrl1 := (SmX.of_same (M := x :: M) s1).hid.seq hrl
    -- the lines
    refine ⟨_, rfl, rl, _, rfl, .inl (hide_same.seq hrl1), fun ln nln => ⟨_, rfl, x, C, dx, _, rfl, same_upd nln _ _ hx1, T.cl, T.n1, (by show 0 < 1000; decide), ?_⟩⟩
    rw [show putF "lines" (.ref ln) ([] : List (Str × V)) = fb1 ln from rfl]
    have sa1 := same_upd (o := .lst ((rowsF n b).map V.str)) nln
    have hln1 : upd H1 ln (.lst ((rowsF n b).map V.str)) ln = some (.lst ((rowsF n b).map V.str)) := upd_same
    have gln := hid_new tM xM sm1 hx1 nln hln1
    have sm1 := sm1.trans (SmX.of_same sa1)
    generalize upd H1 ln (.lst ((rowsF n b).map V.str)) = G1 at sm1 gln
    have sm2 : SmX [x] H (upd G1 x (.ins C dx (fb1 ln))) := sm1.put mx
    have hx2 : upd G1 x (.ins C dx (fb1 ln)) x = some (.ins C dx (fb1 ln)) := upd_same
    rw [← hide_upd (x := x) (M := M) (H := G1) (o := .ins C dx (fb1 ln))] at gln
    generalize upd G1 x (.ins C dx (fb1 ln)) = H2 at sm2 hx2 gln
    -- the masks above
    refine ⟨_, rfl, x, C, dx, _, _, rfl, hx2, T.cl, T.n1, rfl, ln, n, b, rfl, SqL.of (hide_same _ _ gln), n1, n60, fun G2 ab s2 nab hab => ⟨_, rfl, x, C, dx, _, rfl, s2 _ _ hx2, T.cl, T.n2, (by show 1 < 1000; decide), ?_⟩⟩
    rw [show putF "above" (.ref ab) (fb1 ln) = fb2 ln ab from rfl]
    have gab := hid_new tM xM sm2 hx2 nab hab
    have gln := (SmX.of_same (M := x :: M) s2).hid _ _ gln
    have sm3 : SmX [x] H (upd G2 x (.ins C dx (fb2 ln ab))) := (sm2.trans (SmX.of_same s2)).put mx
    have hx3 : upd G2 x (.ins C dx (fb2 ln ab)) x = some (.ins C dx (fb2 ln ab)) := upd_same
    rw [← hide_upd (x := x) (M := M) (H := G2) (o := .ins C dx (fb2 ln ab))] at gln gab
    generalize upd G2 x (.ins C dx (fb2 ln ab)) = H3 at sm3 hx3 gln gab
    -- the masks below
    refine ⟨_, rfl, x, C, dx, _, _, rfl, hx3, T.cl, T.n1, rfl, ln, n, b, rfl, SqL.of (hide_same _ _ gln), n60, fun G3 cl s3 ncl hcl => ⟨cl, n, fun u v => b v u, rfl, SqL.of hcl, n1, n60, fun G4 be s4 nbe hbe => ⟨_, rfl, x, C, dx, _, rfl, (s3.trans s4) _ _ hx3, T.cl, T.n3, (by show 2 < 1000; decide), ?_⟩⟩⟩
    rw [show putF "below" (.ref be) (fb2 ln ab) = fb3 ln ab be from rfl]
    have s34 := s3.trans s4
    have gbe := hid_new tM xM (sm3.trans (SmX.of_same s3)) (s3 _ _ hx3) nbe hbe
    have gln := (SmX.of_same (M := x :: M) s34).hid _ _ gln
    have gab := (SmX.of_same (M := x :: M) s34).hid _ _ gab
    have sm4 : SmX [x] H (upd G4 x (.ins C dx (fb3 ln ab be))) := (sm3.trans (SmX.of_same s34)).put mx
    have hx4 : upd G4 x (.ins C dx (fb3 ln ab be)) x = some (.ins C dx (fb3 ln ab be)) := upd_same
    rw [← hide_upd (x := x) (M := M) (H := G4) (o := .ins C dx (fb3 ln ab be))] at gln gab gbe
    generalize upd G4 x (.ins C dx (fb3 ln ab be)) = H4 at sm4 hx4 gln gab gbe
    have lr := rows_lenF n b
    have getA : ∀ i, i < n → (natsV ((List.range n).map fun x => maskF n (b x)))[i]? = some (.int (maskF n (b i) : Nat)) := fun i hi => by
      unfold natsV
      rw [List.getElem?_map, List.getElem?_map, List.getElem?_range hi]; rfl
    have getB : ∀ i, i < n → (natsV ((List.range n).map fun x => maskF n fun y => b y x))[i]? = some (.int (maskF n (fun y => b y i) : Nat)) := fun i hi => by
      unfold natsV
      rw [List.getElem?_map, List.getElem?_map, List.getElem?_range hi]; rfl
    refine ⟨_, rfl, x, C, dx, _, _, rfl, hx4, T.cl, T.n1, rfl, ln, _, rfl, .inl (SqL.of (hide_same _ _ gln)), _, rfl, by omega, by omega, fun D nD => lc_range (lo := 0) (n := ((((rowsF n b).map V.str).length : Nat) : Int).toNat) (fun j H' => Same H4 H' ∧ H' D = some (.lst ((List.replicate j true).map V.bl))) ?_ ?_ ?_⟩
    · exact ⟨same_upd nD, upd_same⟩
    · rintro j H' hj ⟨sm, hD⟩
      have ej : (0 : Int) + (j : Nat) = ((j : Nat) : Int) := by omega
      rw [ej]
      rw [Int.toNat_natCast, lr] at hj
      refine ⟨rfl, yes_it ⟨_, rfl, x, C, dx, _, _, rfl, sm _ _ hx4, T.cl, T.n2, rfl, _, rfl, ab, _, _, _, rfl, rfl, SqL.of (sm _ _ (hide_same _ _ gab)), atI_nat (getA j hj), _, rfl, x, C, dx, _, _, rfl, sm _ _ hx4, T.cl, T.n3, rfl, _, rfl, be, _, _, _, rfl, rfl, SqL.of (sm _ _ (hide_same _ _ gbe)), atI_nat (getB j hj), _, _, rfl, rfl, _, rfl, _, _, rfl, rfl, ⟨by omega, by omega, by decide⟩, rfl, ?_⟩⟩
      dsimp only
      have ev : decide (V.int (Builtin.bitAnd ((maskF n (b j) : Nat) : Int) ((maskF n (fun y => b y j) : Nat) : Int)) = V.int ((1 : Int) * 2 ^ ((j : Nat) : Int).toNat)) = true := by
        refine decide_eq_true ?_
        rw [bitAnd_nat, mask_and, Int.toNat_natCast, Int.one_mul]
        have e : maskF n (fun y => b j y && b y j) = 2 ^ j := by
          rw [← mask_one hj]
          refine mask_congr fun y hy => ?_
          by_cases c : y = j
          · subst c; rw [B.rf _ hj]; simp
          · rw [decide_eq_false c, Bool.and_eq_false_iff]
            cases h1 : b j y with
            | false => exact .inl rfl
            | true =>
              right
              cases h2 : b y j with
              | false => rfl
              | true => exact absurd (B.an y j hy hj h2 h1) c
        rw [e, Int.natCast_pow]
        rfl
      rw [ev]
      refine ⟨_, hD, small1000 (by rw [List.length_map, List.length_replicate]; omega), fun c o e => ?_, ?_⟩
      · rw [upd_ne (ne_of_none e nD)]; exact sm _ _ e
      · rw [upd_same, List.replicate_succ', List.map_append]; rfl
    · rintro H5 ⟨s5, hD⟩
      refine ⟨D, _, rfl, SqL.of hD, _, rfl, ?_⟩
      rw [rep_all]
      refine iteF ?_
      have gln := (SmX.of_same (M := x :: M) s5).hid _ _ gln
      have gab := (SmX.of_same (M := x :: M) s5).hid _ _ gab
      have gbe := (SmX.of_same (M := x :: M) s5).hid _ _ gbe
      have sm5 := sm4.trans (SmX.of_same s5)
      have hx5 := s5 _ _ hx4
      have below : ∀ u v, u < n → v < n → (maskF n (fun y => b y u) &&& maskF n fun y => b y v) = maskF n fun y => b y (lo u v) := fun u v hu hv => by
        rw [mask_and]
        exact mask_congr fun y hy => ((B.lo u v hu hv).2 y hy).symm
      have above : ∀ u v, u < n → v < n → (maskF n (b u) &&& maskF n (b v)) = maskF n (b (hi u v)) := fun u v hu hv => by
        rw [mask_and]
        exact mask_congr fun y hy => ((B.hi u v hu hv).2 y hy).symm
      have injB : ∀ u v, u < n → v < n → (maskF n fun y => b y u) = (maskF n fun y => b y v) → u = v := fun u v hu hv e => by
        have z := mask_inj e
        exact B.an u v hu hv (by rw [← z u hu]; exact B.rf u hu) (by rw [z v hv]; exact B.rf v hv)
      have injA : ∀ u v, u < n → v < n → maskF n (b u) = maskF n (b v) → u = v := fun u v hu hv e => by
        have z := mask_inj e
        exact B.an u v hu hv (by rw [z v hv]; exact B.rf v hv) (by rw [← z u hu]; exact B.rf u hu)
      -- the lows
      refine ⟨_, rfl, x, C, dx, _, _, rfl, hx5, T.cl, T.n3, rfl, be, n, _, lo, rfl, SqL.of (hide_same _ _ gbe), n60, injB, fun u v hu hv => ⟨(B.lo u v hu hv).1, below u v hu hv⟩, fun G5 pl s6 npl hlo => ⟨_, rfl, x, C, dx, _, rfl, s6 _ _ hx5, T.cl, T.n4, (by show 3 < 1000; decide), ?_⟩⟩
      rw [show putF "lows" (.ref pl) (fb3 ln ab be) = fb4 ln ab be pl from rfl]
      have glo : Dp K (hide (x :: M) G5) (.ref pl) (tabD n lo) := dp_same (fun c o e => by
        obtain ⟨e1, e2⟩ := nw_some e
        exact hid_new tM xM sm5 hx5 e1 e2) _ _ hlo
      have gln := (SmX.of_same (M := x :: M) s6).hid _ _ gln
      have gab := (SmX.of_same (M := x :: M) s6).hid _ _ gab
      have gbe := (SmX.of_same (M := x :: M) s6).hid _ _ gbe
      have sm6 : SmX [x] H (upd G5 x (.ins C dx (fb4 ln ab be pl))) := (sm5.trans (SmX.of_same s6)).put mx
      have hx6 : upd G5 x (.ins C dx (fb4 ln ab be pl)) x = some (.ins C dx (fb4 ln ab be pl)) := upd_same
      rw [← hide_upd (x := x) (M := M) (H := G5) (o := .ins C dx (fb4 ln ab be pl))] at gln gab gbe glo
      generalize upd G5 x (.ins C dx (fb4 ln ab be pl)) = H6 at sm6 hx6 gln gab gbe glo
      -- the highs
      refine ⟨_, rfl, x, C, dx, _, _, rfl, hx6, T.cl, T.n2, rfl, ab, n, _, hi, rfl, SqL.of (hide_same _ _ gab), n60, injA, fun u v hu hv => ⟨(B.hi u v hu hv).1, above u v hu hv⟩, fun G6 ph s7 nph hhi => ⟨_, rfl, x, C, dx, _, rfl, s7 _ _ hx6, T.cl, T.n5, (by show 4 < 1000; decide), ?_⟩⟩
      rw [show putF "highs" (.ref ph) (fb4 ln ab be pl) = fb5 ln ab be pl ph from rfl]
      have ghi : Dp K (hide (x :: M) G6) (.ref ph) (tabD n hi) := dp_same (fun c o e => by
        obtain ⟨e1, e2⟩ := nw_some e
        exact hid_new tM xM sm6 hx6 e1 e2) _ _ hhi
      have h7 := (SmX.of_same (M := x :: M) s7).hid
      have gln := h7 _ _ gln
      have gab := h7 _ _ gab
      have gbe := h7 _ _ gbe
      have glo := dp_same h7 _ _ glo
      have sm7 : SmX [x] H (upd G6 x (.ins C dx (fb5 ln ab be pl ph))) := (sm6.trans (SmX.of_same s7)).put mx
      have hx7 : upd G6 x (.ins C dx (fb5 ln ab be pl ph)) x = some (.ins C dx (fb5 ln ab be pl ph)) := upd_same
      rw [← hide_upd (x := x) (M := M) (H := G6) (o := .ins C dx (fb5 ln ab be pl ph))] at gln gab gbe glo ghi
      generalize upd G6 x (.ins C dx (fb5 ln ab be pl ph)) = H7 at sm7 hx7 gln gab gbe glo ghi
      -- no None among them
      obtain ⟨xs, hxs, dxs⟩ := tab_inv (dp_same hide_same _ _ glo)
      obtain ⟨ys, hys, dys⟩ := tab_inv (dp_same hide_same _ _ ghi)
      have lx := dpAll_len dxs
      have ly := dpAll_len dys
      rw [List.length_map, List.length_range] at lx ly
      have dal := dpAll_app dxs dys
      refine ⟨_, rfl, x, C, dx, _, _, rfl, hx7, T.cl, T.n4, rfl, pl, xs, rfl, .inr hxs, _, rfl, x, C, dx, _, _, rfl, hx7, T.cl, T.n5, rfl, ph, ys, rfl, .inr hys, (by rw [List.append_nil, List.length_append, sizeLine_eq]; omega), fun q nq => ?_⟩
      rw [List.append_nil]
      have sq := same_upd (o := .lst (xs ++ ys)) nq
      have hq : upd H7 q (.lst (xs ++ ys)) q = some (.lst (xs ++ ys)) := upd_same
      have dal := dpAll_same sq _ _ dal
      generalize upd H7 q (.lst (xs ++ ys)) = H8 at sq hq dal
      refine ⟨q, rfl, ⟨_, SqL.of hq⟩, fun D2 nD2 => lc_bools (xs := xs ++ ys) (bs := List.replicate (n + n) false) (SqL.of hq) nD2 (by rw [List.length_append, List.length_replicate]; omega) (by rw [List.length_replicate]; omega) (fun i v c H' hv hc sm N M qN => ?_) (fun H9 s9 hD2 => ?_)⟩
      · obtain ⟨d, hd, hDv⟩ := dpAll_get dal hv
        rw [List.getElem?_replicate] at hc
        split at hc
        · cases hc
          have md := List.mem_of_getElem? hd
          obtain ⟨f, rfl⟩ : ∃ f : Nat → Nat, d = rowD n f := by
            rcases List.mem_append.mp md with z | z
            · obtain ⟨u, _, rfl⟩ := List.mem_map.mp z; exact ⟨_, rfl⟩
            · obtain ⟨u, _, rfl⟩ := List.mem_map.mp z; exact ⟨_, rfl⟩
          refine ⟨rfl, yes_it ⟨_, rfl, .none, _, .non, dp_same sm _ _ hDv, by decide, gd_shaped (row_gd f n60) (by decide), ?_⟩⟩
          rw [row_none f]
          exact qN _ (Same.refl _)
        · cases hc
      · refine ⟨D2, _, rfl, SqL.of hD2, _, rfl, ?_⟩
        rw [show (List.replicate (n + n) false).any id = false by rw [List.any_eq_false]; intro z hz; rw [List.eq_of_mem_replicate hz]; exact Bool.false_ne_true]
        refine iteF ?_
        -- bottom and top
        have s79 := sq.trans s9
        have h9 := (SmX.of_same (M := x :: M) s79).hid
        have gln := h9 _ _ gln
        have gab := h9 _ _ gab
        have gbe := h9 _ _ gbe
        have glo := dp_same h9 _ _ glo
        have ghi := dp_same h9 _ _ ghi
        have sm9 := sm7.trans (SmX.of_same s79)
        have hx9 := s79 _ _ hx7
        have inA : ∀ f : Nat → Nat, natsV ((List.range n).map f) = ((List.range n).map fun x => ((f x : Nat) : Int)).map V.int := fun f => by
          unfold natsV
          rw [List.map_map, List.map_map]; rfl
        have fl : ∀ f : Nat → Nat, (natsV ((List.range n).map f)).all flatV = true := fun f => List.all_eq_true.mpr fun v hv => by
          unfold natsV at hv
          obtain ⟨y, _, rfl⟩ := List.mem_map.mp hv
          rfl
        -- the greatest mask stands at t
        have big : ∀ (f : Nat → Nat) (t : Nat) (m : Int), t < n → (∀ y, y < n → f y ≤ f t) → (m ∈ (List.range n).map fun x => ((f x : Nat) : Int)) → (∀ y, (y ∈ (List.range n).map fun x => ((f x : Nat) : Int)) → y ≤ m) → m = ((f t : Nat) : Int) := fun f t m ht hf hm hmax => by
          obtain ⟨y, hy, rfl⟩ := List.mem_map.mp hm
          have a := hmax _ (List.mem_map.mpr ⟨t, List.mem_range.mpr ht, rfl⟩)
          have c := hf y (List.mem_range.mp hy)
          show ((f y : Nat) : Int) = _
          have a : ((f t : Nat) : Int) ≤ ((f y : Nat) : Int) := a
          omega
        have lnr : ∀ f : Nat → Nat, 0 < ((List.range n).map fun x => ((f x : Nat) : Int)).length := fun f => by rw [List.length_map, List.length_range]; omega
        have hab9 := hide_same _ _ gab
        have first : ∀ (f : Nat → Nat) (t : Nat), t < n → (∀ u v, u < n → v < n → f u = f v → u = v) → ∀ (m : Nat) (z' : V), m < t → (natsV ((List.range n).map f))[m]? = some z' → eqV z' (.int ((f t : Nat) : Int)) = false := fun f t ht inj m z' hm hz => by
          unfold natsV at hz
          rw [List.getElem?_map, List.getElem?_map, List.getElem?_range (by omega)] at hz
          have e : V.int ((f m : Nat) : Int) = z' := Option.some.inj hz
          rw [← e]
          show (((f m : Nat) : Int) == ((f t : Nat) : Int)) = false
          rw [beq_eq_false_iff_ne]
          intro z
          have := inj m t (by omega) ht (by omega)
          omega
        refine ⟨_, rfl, x, C, dx, _, _, rfl, hx9, T.cl, T.n2, rfl, .inl ⟨rfl, _, SqL.of hab9⟩, _, rfl, x, C, dx, _, _, rfl, hx9, T.cl, T.n2, rfl, ab, (List.range n).map fun y => ((maskF n (b y) : Nat) : Int), rfl, by rw [← inA]; exact SqL.of hab9, lnr _, fun m hm hmax => ?_⟩
        have em := big (fun y => maskF n (b y)) bt m B.bt.1 (fun y hy => mask_mono fun z hz _ => B.bt.2 z hz) hm hmax
        subst em
        refine ⟨ab, _, _, bt, _, rfl, rfl, SqL.of hab9, rfl, fl _, getA bt B.bt.1, (by show (((maskF n (b bt) : Nat) : Int) == _) = true; exact beq_self_eq_true _), first (fun y => maskF n (b y)) bt B.bt.1 injA, _, rfl, x, C, dx, _, rfl, hx9, T.cl, T.n6, (by show 5 < 1000; decide), ?_⟩
        rw [show putF "least" (.int ((bt : Nat) : Int)) (fb5 ln ab be pl ph) = fb6 ln ab be pl ph bt from rfl]
        have smA : SmX [x] H (upd H9 x (.ins C dx (fb6 ln ab be pl ph bt))) := sm9.put mx
        have hxA : upd H9 x (.ins C dx (fb6 ln ab be pl ph bt)) x = some (.ins C dx (fb6 ln ab be pl ph bt)) := upd_same
        rw [← hide_upd (x := x) (M := M) (H := H9) (o := .ins C dx (fb6 ln ab be pl ph bt))] at gln gab gbe glo ghi
        generalize upd H9 x (.ins C dx (fb6 ln ab be pl ph bt)) = HA at smA hxA gln gab gbe glo ghi
        have hbeA := hide_same _ _ gbe
        refine ⟨_, rfl, x, C, dx, _, _, rfl, hxA, T.cl, T.n3, rfl, .inl ⟨rfl, _, SqL.of hbeA⟩, _, rfl, x, C, dx, _, _, rfl, hxA, T.cl, T.n3, rfl, be, (List.range n).map fun y => ((maskF n (fun z => b z y) : Nat) : Int), rfl, by rw [← inA fun y => maskF n fun z => b z y]; exact SqL.of hbeA, lnr _, fun m hm hmax => ?_⟩
        have em := big (fun y => maskF n fun z => b z y) tp m B.tp.1 (fun y hy => mask_mono fun z hz _ => B.tp.2 z hz) hm hmax
        subst em
        refine ⟨be, _, _, tp, _, rfl, rfl, SqL.of hbeA, rfl, fl _, getB tp B.tp.1, (by show (((maskF n (fun z => b z tp) : Nat) : Int) == _) = true; exact beq_self_eq_true _), first (fun y => maskF n fun z => b z y) tp B.tp.1 injB, _, rfl, x, C, dx, _, rfl, hxA, T.cl, T.n7, (by show 6 < 1000; decide), ?_⟩
        rw [show putF "greatest" (.int ((tp : Nat) : Int)) (fb6 ln ab be pl ph bt) = flB ⟨ln, ab, be, pl, ph, bt, tp⟩ from rfl]
        have smB : SmX [x] H (upd HA x (.ins C dx (flB ⟨ln, ab, be, pl, ph, bt, tp⟩))) := smA.put mx
        have hxB : upd HA x (.ins C dx (flB ⟨ln, ab, be, pl, ph, bt, tp⟩)) x = some (.ins C dx (flB ⟨ln, ab, be, pl, ph, bt, tp⟩)) := upd_same
        rw [← hide_upd (x := x) (M := M) (H := HA) (o := .ins C dx (flB ⟨ln, ab, be, pl, ph, bt, tp⟩))] at gln gab gbe glo ghi
        generalize upd HA x (.ins C dx (flB ⟨ln, ab, be, pl, ph, bt, tp⟩)) = HB at smB hxB gln gab gbe glo ghi
        have sub : Same (hide (x :: M) HB) (hide M HB) := hide_sub fun b hb => List.mem_cons_of_mem _ hb
        exact good HB ⟨ln, ab, be, pl, ph, bt, tp⟩ smB ⟨⟨dx, by rw [hide_ne xM]; exact hxB⟩, sub _ _ gln, sub _ _ gab, sub _ _ gbe, dp_same sub _ _ glo, dp_same sub _ _ ghi⟩ rfl rfl
end
end FvO


namespace FvX
open PySem PySem.Spec PyProof.Rows L2 Fv
/-! ### methods that may raise; by keywords; properties -/
structure MetR (P : Program) (w : World) (K : PySem.W.Frag) (mg : Str → Option Value) (base : Heap) (k : Nat) (C : Addr) (m : Str) (sp : Sp) : Prop where
  ex : ∃ f : Addr, Cls K C ∧ Meth K C m f ∧ FnR P w K mg base (L2.CX P w) k f sp
structure MetKR (P : Program) (w : World) (K : PySem.W.Frag) (mg : Str → Option Value) (base : Heap) (k : Nat) (C : Addr) (m : Str) (ps ks : List Str) (gV : List V → List V → List V) (sp : Sp) : Prop where
  ex : ∃ (f : Addr) (fd : FuncData) (g : List Value → List Value → List Value), Cls K C ∧ Meth K C m f ∧ KBn K fd ps 1 ks g gV ∧ FnOk P w K mg base (L2.CX P w) k f fd ps sp
structure PropK (P : Program) (w : World) (K : PySem.W.Frag) (mg : Str → Option Value) (base : Heap) (k : Nat) (C : Addr) (f : Str) (sp : Sp) : Prop where
  ex : ∃ (p g : Addr) (fd : FuncData), Cls K C ∧ PropOf K C f p g ∧ FnOk P w K mg base CX0 k g fd ["self"] sp ∧ Binds K fd ["self"] []
section
variable {X : Cx} {k : Nat} {C : Addr} {m : Str} {sp : Sp} {E : XK} {o e : Expr} {es : List Expr} {ta : TE} {t tk : TA} {apos pos : Pos} {pl : Sem Bool} {ps ks : List Str} {gV : List V → List V → List V} {kws : List Keyword}
theorem pe_mtR (M : MetR X.prog X.w X.K X.mg X.base k C m sp) (hr : Room k X.A) (hx : Passes (L2.CX X.prog X.w) X E) (he : PE X o ta) (ha : PA X (e :: es) t)
    (hst : starEach (e :: es) X.env = (false, eval e X.env) :: starEach es X.env := by rfl) (hpl : (backTo pos (starEach es X.env)).any (·.1) = false := by rfl)
    (ht : eval (.Call (.Attribute o m apos) (e :: es) [] pos) X.env = (do
      let ov ← eval o X.env
      standAt apos.atName
      let (f, first) ← holding [ov] (getMethod ov m pl)
      callWith pos f first (backTo pos (starEach (e :: es) X.env)) (backToKw pos (keywordEach [] X.env))) := by rfl) :
    PE X (.Call (.Attribute o m apos) (e :: es) [] pos) (tMethR C m sp E ta t) := by
  obtain ⟨f, h1, h2, h3⟩ := M.ex
  exact pe_methR (pl := pl) he h1 h2 h3 hr hx ha hst hpl ht
theorem pe_mtR0 (M : MetR X.prog X.w X.K X.mg X.base k C m sp) (hr : Room k X.A) (hx : Passes (L2.CX X.prog X.w) X E) (he : PE X o ta)
    (ht : eval (.Call (.Attribute o m apos) [] [] pos) X.env = (do
      let ov ← eval o X.env
      standAt apos.atName
      let (f, first) ← holding [ov] (getMethod ov m pl)
      callWith pos f first (backTo pos (starEach [] X.env)) (backToKw pos (keywordEach [] X.env))) := by rfl) :
    PE X (.Call (.Attribute o m apos) [] [] pos) (tMethR C m sp E ta tNil) := by
  obtain ⟨f, c, hm, F⟩ := M.ex
  refine ⟨fun pins s σ H Q I h => ?_⟩
  refine PySem.W.methodCall_KW (pl := pl) (thn (he.run pins s σ H _ I h) fun u s1 ⟨x, H1, I1, rx, a, dx, fs, ex, ea, l, q⟩ => ?_) ht
  subst ex
  obtain rfl : u = Value.ref a := rx
  refine getmeth_ok I1 ea c hm l ?_
  exact PySem.W.callWith_K0 (first := [.ref a]) I1.kIn hm.kp (wpAny_call (run_fnR (us := .ref a :: []) (vs := .ref a :: []) F hr hx I1 (.cons rfl .nil) q))
def tMethK (C : Addr) (m : Str) (n : Nat) (gV : List V → List V → List V) (sp : Sp) (E : XK) (ta : TE) (tk : TA) : TE := fun σ H Q => ta σ H fun x H1 => ∃ a dx fs, x = .ref a ∧ H1 a = some (.ins C dx fs) ∧ fs.lookup m = none ∧ tk σ H1 fun zs H2 => zs.length = n ∧ sp (gV [x] zs) H2 Q E
theorem pe_mtK (M : MetKR X.prog X.w X.K X.mg X.base k C m ps ks gV sp) (hr : Room k X.A) (hx : Passes (L2.CX X.prog X.w) X E) (he : PE X o ta) (hkw : PK X kws tk)
    (hall : (backToKw pos (keywordEach kws X.env)).all (·.1.isSome) = true := by rfl) (hks : (backToKw pos (keywordEach kws X.env)).filterMap (·.1) = ks := by rfl)
    (hpl : ((backTo pos (starEach [] X.env)).any (·.1) || (backToKw pos (keywordEach kws X.env)).any (·.1.isNone)) = false := by rfl)
    (ht : eval (.Call (.Attribute o m apos) [] kws pos) X.env = (do
      let ov ← eval o X.env
      standAt apos.atName
      let (f, first) ← holding [ov] (getMethod ov m pl)
      callWith pos f first (backTo pos (starEach [] X.env)) (backToKw pos (keywordEach kws X.env))) := by rfl) :
    PE X (.Call (.Attribute o m apos) [] kws pos) (tMethK C m ks.length gV sp E ta tk) := by
  obtain ⟨f, fd, g, c, hm, hb, F⟩ := M.ex
  refine ⟨fun pins s σ H Q I h => ?_⟩
  refine PySem.W.methodCall_KW (pl := pl) (thn (he.run pins s σ H _ I h) fun u s1 ⟨x, H1, I1, rx, a, dx, fs, ex, ea, l, q⟩ => ?_) ht
  subst ex
  obtain rfl : u = Value.ref a := rx
  refine getmeth_ok I1 ea c hm l ?_
  refine PySem.W.callWith_KW0 (first := [.ref a]) (h₀ := X.base) I1.ok.mod.kin hm.kp hall ?_ hpl
  refine thn (hkw.run pos pins s1 σ H1 _ I1 q) fun ws s2 ⟨zs, H2, I2, rz, l2, q2⟩ => ⟨I2.kIn, ?_⟩
  rw [hks]
  exact run_fnN (us := [.ref a]) (vs := [.ref a]) F hr hb hx I2 (.cons rfl .nil) rz rfl l2 q2
theorem pe_propK (M : PropK X.prog X.w X.K X.mg X.base k C m sp) (hr : Room (k + 1) X.A) (he : PE X e ta) (hab : attributeBase e m X.env (eval e X.env) = eval e X.env := by rfl) : PE X (.Attribute e m pos) (tProp C sp [] E0 ta) := by
  obtain ⟨p, g, fd, c, hp, F, hb⟩ := M.ex
  exact pe_prop he c hp F hr hb .nil pass0 hab
end
end FvX


namespace FvO
open PySem PySem.Spec PyProof.Rows L2 Fv FvW FvX
open FvK (pe_fldK)
-- top 27  slots: 0:self 1:value
abbrev s_has_place__of__Board : Stmt := inClass (topS 27) 8
abbrev N_has_place__of__Board : List Str := ["self", "value"]
theorem sc_has_place__of__Board : FnScope N_has_place__of__Board ["self", "value"] (defScope s_has_place__of__Board) := ⟨rfl, rfl, rfl, by decide +kernel, rfl, by decide +kernel, by decide +kernel⟩

-- top 27  slots: 0:self 1:places 2:place
abbrev s_check_places__of__Board : Stmt := inClass (topS 27) 9
abbrev N_check_places__of__Board : List Str := ["self", "places", "place"]
theorem sc_check_places__of__Board : FnScope N_check_places__of__Board ["self", "places"] (defScope s_check_places__of__Board) := ⟨rfl, rfl, rfl, by decide +kernel, rfl, by decide +kernel, by decide +kernel⟩

-- top 27  slots: 0:self 1:one 2:other
abbrev s_is_below__of__Board : Stmt := inClass (topS 27) 10
abbrev N_is_below__of__Board : List Str := ["self", "one", "other"]
theorem sc_is_below__of__Board : FnScope N_is_below__of__Board ["self", "one", "other"] (defScope s_is_below__of__Board) := ⟨rfl, rfl, rfl, by decide +kernel, rfl, by decide +kernel, by decide +kernel⟩

-- top 27  slots: 0:self 1:places 2:found 3:place
abbrev s_low__of__Board : Stmt := inClass (topS 27) 11
abbrev N_low__of__Board : List Str := ["self", "places", "found", "place"]
theorem sc_low__of__Board : FnScope N_low__of__Board ["self", "places"] (defScope s_low__of__Board) := ⟨rfl, rfl, rfl, by decide +kernel, rfl, by decide +kernel, by decide +kernel⟩

-- top 27  slots: 0:self 1:places 2:found 3:place
abbrev s_up__of__Board : Stmt := inClass (topS 27) 12
abbrev N_up__of__Board : List Str := ["self", "places", "found", "place"]
theorem sc_up__of__Board : FnScope N_up__of__Board ["self", "places"] (defScope s_up__of__Board) := ⟨rfl, rfl, rfl, by decide +kernel, rfl, by decide +kernel, by decide +kernel⟩

-- top 27  slots: 0:self
abbrev s_bottom__of__Board : Stmt := inClass (topS 27) 6
abbrev N_bottom__of__Board : List Str := ["self"]
theorem sc_bottom__of__Board : FnScope N_bottom__of__Board ["self"] (defScope s_bottom__of__Board) := ⟨rfl, rfl, rfl, by decide +kernel, rfl, by decide +kernel, by decide +kernel⟩

-- top 27  slots: 0:self
abbrev s_top__of__Board : Stmt := inClass (topS 27) 7
abbrev N_top__of__Board : List Str := ["self"]
theorem sc_top__of__Board : FnScope N_top__of__Board ["self"] (defScope s_top__of__Board) := ⟨rfl, rfl, rfl, by decide +kernel, rfl, by decide +kernel, by decide +kernel⟩

/-! ### places -/
def plOk (n : Nat) (i : Int) : Bool := decide (0 ≤ i) && decide (i < (n : Nat))
def plB (n : Nat) : PyData → Bool
  | .int i => plOk n i
  | _ => false
def bad1 (n : Nat) (is : List Int) : Option Int := is.find? fun i => !plOk n i
def intsD (is : List Int) : List PyData := is.map PyData.int
def spHas (K : PySem.W.Frag) (C : Addr) : Sp := fun vs H Q _ => ∃ (c : Addr) (v : V) (d : PyData) (L : BL) (n : Nat) (b : Nat → Nat → Bool) (lo hi : Nat → Nat → Nat), vs = [.ref c, v] ∧ BAt K C H c L n b lo hi ∧ n ≤ 60 ∧ Dp K H v d ∧ Q (.bl (plB n d)) H
def spChk (K : PySem.W.Frag) (C CP : Addr) : Sp := fun vs H Q E => ∃ (c : Addr) (v : V) (d : PyData) (is : List Int) (L : BL) (n : Nat) (b : Nat → Nat → Bool) (lo hi : Nat → Nat → Nat), vs = [.ref c, v] ∧ BAt K C H c L n b lo hi ∧ n ≤ 60 ∧ Dp K H v d ∧ isSeq d = true ∧ rows d = intsD is ∧ (∀ i ∈ is, i.natAbs < 2 ^ 200) ∧
  (bad1 n is = none → ∀ H', Same H H' → Q .non H') ∧ ∀ i, bad1 n is = some i → errF CP "InvalidPlace" "place" (.int i) H E
def spBel (K : PySem.W.Frag) (C CP : Addr) : Sp := fun vs H Q E => ∃ (c : Addr) (i j : Int) (L : BL) (n : Nat) (b : Nat → Nat → Bool) (lo hi : Nat → Nat → Nat), vs = [.ref c, .int i, .int j] ∧ BAt K C H c L n b lo hi ∧ n ≤ 60 ∧ i.natAbs < 2 ^ 200 ∧ j.natAbs < 2 ^ 200 ∧
  (∀ x y : Nat, i = (x : Nat) → j = (y : Nat) → x < n → y < n → ∀ H', Same H H' → Q (.bl (b x y)) H') ∧ ∀ e, bad1 n [i, j] = some e → errF CP "InvalidPlace" "place" (.int e) H E
/-- a fold of bounds, from the greatest or the least place -/
def spFold (K : PySem.W.Frag) (C CP : Addr) (up : Bool) : Sp := fun vs H Q E => ∃ (c : Addr) (is : List Int) (L : BL) (n : Nat) (b : Nat → Nat → Bool) (lo hi : Nat → Nat → Nat) (bt tp : Nat), vs = .ref c :: is.map V.int ∧ BAt K C H c L n b lo hi ∧ Brd n b lo hi bt tp ∧ L.bt = bt ∧ L.tp = tp ∧ is.length ≤ 100 ∧ (∀ i ∈ is, i.natAbs < 2 ^ 200) ∧
  (∀ xs : List Nat, is = xs.map (fun x => ((x : Nat) : Int)) → (∀ x ∈ xs, x < n) → ∀ H', Same H H' → Q (.int ((xs.foldl (if up then hi else lo) (if up then bt else tp) : Nat) : Int)) H') ∧ ∀ e, bad1 n is = some e → errF CP "InvalidPlace" "place" (.int e) H E
def spFoldT (K : PySem.W.Frag) (C CP : Addr) (up : Bool) : Sp := fun vs H Q E => ∃ (c T : Addr) (is : List Int) (L : BL) (n : Nat) (b : Nat → Nat → Bool) (lo hi : Nat → Nat → Nat) (bt tp : Nat), vs = [.ref c, .ref T] ∧ SqT K H T (is.map V.int) ∧ BAt K C H c L n b lo hi ∧ Brd n b lo hi bt tp ∧ L.bt = bt ∧ L.tp = tp ∧ is.length ≤ 100 ∧ (∀ i ∈ is, i.natAbs < 2 ^ 200) ∧
  (∀ xs : List Nat, is = xs.map (fun x => ((x : Nat) : Int)) → (∀ x ∈ xs, x < n) → ∀ H', Same H H' → Q (.int ((xs.foldl (if up then hi else lo) (if up then bt else tp) : Nat) : Int)) H') ∧ ∀ e, bad1 n is = some e → errF CP "InvalidPlace" "place" (.int e) H E
theorem plOk_nat {n : Nat} {i : Int} (h : plOk n i = true) : ∃ x : Nat, i = (x : Nat) ∧ x < n := by
  unfold plOk at h
  rw [Bool.and_eq_true, decide_eq_true_iff, decide_eq_true_iff] at h
  exact ⟨i.toNat, by omega, by omega⟩
theorem bad_nats {n : Nat} {is : List Int} (h : bad1 n is = none) : ∃ xs : List Nat, is = xs.map (fun x => ((x : Nat) : Int)) ∧ ∀ x ∈ xs, x < n := by
  unfold bad1 at h
  rw [List.find?_eq_none] at h
  refine ⟨is.map Int.toNat, ?_, fun x hx => ?_⟩
  · rw [List.map_map]
    refine ((List.map_congr_left fun i hi => ?_).trans (List.map_id is)).symm
    obtain ⟨x, e, _⟩ := plOk_nat (n := n) (i := i) (by have := h i hi; simpa using this)
    show ((i.toNat : Nat) : Int) = id i
    rw [e]; rfl
  · obtain ⟨i, hi, rfl⟩ := List.mem_map.mp hx
    obtain ⟨x, e, l⟩ := plOk_nat (n := n) (i := i) (by have := h i hi; simpa using this)
    rw [e, Int.toNat_natCast]; exact l
section
variable {P : Program} {w : World} {K : PySem.W.Frag} {mg : Str → Option Value} {base : Heap} {C CP fP : Addr}
theorem ok_has {f : Addr} {fd : FuncData} {k : Nat} (F : Fun K "has_place" "Board.has_place" s_has_place__of__Board f fd) (T : TxB K C) (m_isinstance : mg "isinstance" = none) (m_int : mg "int" = none) (m_bool : mg "bool" = none) (m_len : mg "len" = none) :
    FnOk P w K mg base CX0 (k + 1) f fd ["self", "value"] (spHas K C) := by
  refine F.ok sc_has_place__of__Board (fun vs H Q E h => ?_) (fun cdv A outer s H vs Q E hr h => ?_)
  · obtain ⟨c, v, d, L, n, b, lo, hi, rfl, _⟩ := h
    rfl
  · obtain ⟨c, v, d, L, n, b, lo, hi, rfl, hB, n60, hd, q⟩ := h
    refine ⟨_, (pss_one (ps_ret (pe_and (pe_isD (T := "int") (by rfl) m_isinstance (by rfl) m_int (pv 1)) (pe_and (pe_not (pe_isD (T := "bool") (by rfl) m_isinstance (by rfl) m_bool (pv 1))) (pe_and (pe_cmpR op_ge (pv 1) pe_int (nomark _)) (pe_one (pe_cmpR op_lt (pv 1) (pe_callB call_len_seq (by rfl) m_len (by decide +kernel) (pa_cons (pe_fldK (K := K) rfl (pv 0) rfl) pa_nil)) (nomark _)))))))), ?_⟩
    refine ⟨_, rfl, _, _, d, rfl, by decide, hd, _, rfl, ?_⟩
    cases d with
    | int i =>
      cases hd
      refine iteT ⟨_, rfl, _, _, .int i, rfl, by decide, .int i, _, rfl, ?_⟩
      refine ⟨_, rfl, iteT ⟨_, rfl, _, _, rfl, rfl, _, rfl, ?_⟩⟩
      have q : Q (.bl (decide (0 ≤ i) && decide (i < (n : Nat)))) H := q
      obtain ⟨dx, ob⟩ := hB.ob
      refine ite2 (fun c => ?_) (fun c => ?_)
      · have c' : decide (0 ≤ i) = true := by rw [decide_eq_true_iff] at c ⊢; omega
        rw [c', Bool.true_and] at q
        refine ⟨_, rfl, _, rfl, _, C, dx, _, _, rfl, ob, T.cl, T.n1, rfl, L.ln, _, rfl, .inl (SqL.of hB.ln), _, _, rfl, rfl, ?_⟩
        rw [rows_lenF]
        exact q
      · have c' : decide (0 ≤ i) = false := by rw [Bool.eq_false_iff, Ne, decide_eq_true_iff] at *; omega
        rw [c', Bool.false_and] at q
        exact q
    | bool b' =>
      cases hd
      exact iteT ⟨_, rfl, _, _, .bool b', rfl, by decide, .bl b', _, rfl, _, rfl, iteF q⟩
    | _ => exact iteF q
theorem ok_chk {f : Addr} {fd : FuncData} {k : Nat} {qual : Str} {q : ErrPos1} {me : Expr} {j2 : Nat} (F : Fun K "check_places" "Board.check_places" s_check_places__of__Board f fd) (hk : 1 ≤ k)
    (T_IP : ErrC1 P.main.file K CP fP qual q me "InvalidPlace" "place" j2) (hline : LineOk1 q me) (hargs : ArgsOk me) (hme : ∀ u, MsgV u → MsgOk me "place" u) (htop : (P.main.scope.names.lookup ("super" : Str)).isSome = false) (m_super : mg "super" = none) (g_IP : mg "InvalidPlace" = some (.ref CP))
    (M_has_place : C8.Met P w K mg base 1 C "has_place" (spHas K C) []) :
    FnOk P w K mg base (L2.CX P w) (k + 1) f fd ["self", "places"] (spChk K C CP) := by
  refine F.okX sc_check_places__of__Board (fun vs H Q E h => ?_) (fun cdv A outer s H vs Q E hr h => ?_)
  · obtain ⟨c, v, d, is, L, n, b, lo, hi, rfl, _⟩ := h
    rfl
  · obtain ⟨c, v, d, is, L, n, b, lo, hi, rfl, hB, n60, hd, hsq, hrw, big, good, bad⟩ := h
    refine ⟨_, (pss_one (ps_for (passes_of rfl) rfl (FvW.pi_or (pi_list (pv 1)) (pi_tup (pv 1))) (pg_name (i := 2) sc_check_places__of__Board.nd rfl (by first | exact .inl rfl | exact .inr rfl))
        (pss_one (ps_if (pt_not (pt_val (C8.pe_mt M_has_place hr (by omega) (pv 0) (pa_cons (pv 2) pa_nil))))
          (pss_one (ps_raise rfl (takes_of rfl rfl rfl rfl) (pmk_err1 (k := 0) (by decide +kernel) T_IP hline hargs hme htop m_super (hr.mono (by omega)) (by rfl) g_IP (pa_cons (pv 2) pa_nil))))
          pss_nil)))), ?_⟩
    obtain ⟨dx, ob⟩ := hB.ob
    refine i_seq rfl hd hsq (Same.refl _) fun J Gd ys hys hW hG => for_it hW (fun i σ H2 => ∃ y2 : Option V, σ = [some (.ref c), some v, y2] ∧ Same H H2 ∧ bad1 n (is.take i) = none) ?_ ?_ ?_ ?_
    · exact ⟨_, rfl, Same.refl _, rfl⟩
    · rintro i σ H2 _ ⟨y2, rfl, sm, _⟩
      exact hG H2 sm
    · rintro i x σ H2 H2' hil ⟨y2, rfl, sm, nb⟩ ⟨rfl, hx⟩
      obtain ⟨e, he, hDe⟩ := dpAll_get hys hx
      rw [hrw] at he
      unfold intsD at he
      rw [List.getElem?_map] at he
      obtain ⟨i0, hi0, rfl⟩ := Option.map_eq_some_iff.mp he
      have hDe := dp_same sm _ _ hDe
      refine ⟨_, rfl, c, dx, _, rfl, sm _ _ ob, rfl, _, rfl, c, x, .int i0, L, n, b, lo, hi, rfl, hB.same sm, n60, hDe, _, rfl, ?_⟩
      show if (!plOk n i0) = true then _ else _
      have tk : is.take (i + 1) = is.take i ++ [i0] := by rw [List.take_add_one, hi0]; rfl
      cases hp : plOk n i0 with
      | true =>
        refine iteF ⟨_, rfl, sm, ?_⟩
        unfold bad1 at nb ⊢
        rw [tk, List.find?_append, nb]
        simp [hp]
      | false =>
        cases hDe
        have eb : bad1 n is = some i0 := by
          have h1 : bad1 n (is.take (i + 1)) = some i0 := by
            unfold bad1 at nb ⊢
            rw [tk, List.find?_append, nb]
            simp [hp]
          have h2 := List.take_append_drop (i + 1) is
          unfold bad1 at h1 ⊢
          rw [← h2, List.find?_append, h1]
          rfl
        have bg := big i0 (List.mem_of_getElem? hi0)
        refine iteT ⟨_, rfl, _, rfl, .inr ⟨i0, rfl, ?_⟩, fun dd nd => ?_⟩
        · by_cases z : i0.natAbs = 0
          · rw [z]; decide
          · exact Nat.lt_of_lt_of_le ((Nat.log2_lt z).mpr bg) (by decide)
        · exact bad i0 eb _ dd (sm.trans (same_upd nd)) upd_same
    · rintro σ H2 ⟨y2, rfl, sm, nb⟩
      have ly := dpAll_len hys
      rw [hrw] at ly
      have l2 : is.length = ys.length := by rw [ly]; unfold intsD; rw [List.length_map]
      rw [← l2, List.take_length] at nb
      exact good nb H2 sm
theorem tab_ix' {H : Hp} {p : Addr} {n x : Nat} {g : Nat → Nat → Nat} (h : Dp K H (.ref p) (tabD n g)) (hx : x < n) : ∃ xs b, SqL K H p xs ∧ xs.length = n ∧ atI xs ((x : Nat) : Int) = some (.ref b) ∧ Dp K H (.ref b) (rowD n (g x)) := by
  obtain ⟨xs, hs, ha⟩ := tab_inv h
  have lx := dpAll_len ha
  rw [List.length_map, List.length_range] at lx
  obtain ⟨v, hv⟩ : ∃ v, xs[x]? = some v := ⟨_, List.getElem?_eq_getElem (by omega)⟩
  obtain ⟨d, hd, hDv⟩ := dpAll_get ha hv
  rw [List.getElem?_map, List.getElem?_range hx] at hd
  have e : rowD n (g x) = d := Option.some.inj hd
  subst e
  obtain ⟨b, rfl⟩ : ∃ b, v = .ref b := by cases hDv; exact ⟨_, rfl⟩
  exact ⟨xs, b, hs, lx, atI_nat hv, hDv⟩
theorem row_ixO {H : Hp} {b : Addr} {n y : Nat} {g : Nat → Nat} (h : Dp K H (.ref b) (rowD n g)) (hy : y < n) : ∃ ys, SqL K H b ys ∧ atI ys ((y : Nat) : Int) = some (.int (g y : Nat)) := by
  cases h with
  | @lst _ ys _ hs ha =>
    have ly := dpAll_len ha
    rw [List.length_map, List.length_range] at ly
    obtain ⟨v, hv⟩ : ∃ v, ys[y]? = some v := ⟨_, List.getElem?_eq_getElem (by omega)⟩
    obtain ⟨d, hd, hDv⟩ := dpAll_get ha hv
    rw [List.getElem?_map, List.getElem?_range hy] at hd
    have e : PyData.int (g y : Nat) = d := Option.some.inj hd
    subst e
    cases hDv
    exact ⟨ys, hs, atI_nat hv⟩
theorem ok_low {f : Addr} {k : Nat} {oc : Value} {od an : Option Addr} {osl : Array (Option Value)} {kV doc pm cdv ct : Value} (lk : K.lookup f = some ⟨oc, od, .func (PySem.W.fnOf "low" "Board.low" (defArgs s_low__of__Board) (defBody s_low__of__Board) (defScope s_low__of__Board) .none kV doc pm an cdv ct), osl⟩) (hcd : PySem.W.codeIn K cdv "Board.low" = true) (T : TxB K C) (hk : 2 ≤ k)
    (M_check_places : MetR P w K mg base 2 C "check_places" (spChk K C CP)) :
    FnR P w K mg base (L2.CX P w) (k + 1) f (spFold K C CP false) := by
  have z := StX.fn_star (ps := ["self"]) (pv := "places") (N := N_low__of__Board) (k := k) (P := P) (w := w) (mg := mg) (base := base) (CX := L2.CX P w) (sp := spFoldT K C CP false) lk hcd sc_low__of__Board StX.cxUp
    (fun us rest hl => match us, rest, hl with | [_], [], _ => rfl | [_], _ :: _, _ => rfl) (fun A outer s H vs Q E hr h => ?_)
  · refine z.imp fun vs H Q E h => ?_
    obtain ⟨c, is, L, n, b, lo, hi, bt, tp, rfl, hB, B, e1, e2, l100, big, good, bad⟩ := h
    refine ⟨[.ref c], is.map V.int, rfl, rfl, by rw [List.length_map, sizeLine_eq]; omega, fun p np => ?_⟩
    have sp := same_upd (o := .tup (is.map V.int)) np
    exact ⟨c, p, is, L, n, b, lo, hi, bt, tp, rfl, SqT.of upd_same, hB.same sp, B, e1, e2, l100, big, fun xs e lt H' s' => good xs e lt H' (sp.trans s'), fun e he => (bad e he).mono sp⟩
  · obtain ⟨c, T1, is, L, n, b, lo, hi, bt, tp, rfl, hT, hB, B, e1, e2, l100, big, good, bad⟩ := h
    refine ⟨_, (pss_cons (ps_expr (pe_mtR M_check_places (hr.mono (by omega)) passX (pv 0) (pa_cons (pv 1) pa_nil)))
      (pss_cons (ps_set (i := 2) sc_low__of__Board.nd rfl (by first | exact .inl rfl | exact .inr rfl) (pe_fldK (K := K) rfl (pv 0) rfl))
      (pss_cons (ps_for (passes_of rfl) rfl (pi_tup (pv 1)) (pg_name (i := 3) sc_low__of__Board.nd rfl (by first | exact .inl rfl | exact .inr rfl))
        (pss_one (ps_set (i := 2) sc_low__of__Board.nd rfl (by first | exact .inl rfl | exact .inr rfl) (pe_ix ix_list (pe_ix ix_list (pe_fldK (K := K) rfl (pv 0) rfl) (pv 2) (fun _ _ => rfl)) (pv 3) (fun _ _ => rfl)))))
      (pss_one (ps_ret (pv 2)))))), ?_⟩
    obtain ⟨dx, ob⟩ := hB.ob
    have dps : ∀ l : List Int, DpAll K H (l.map V.int) (intsD l) := fun l => by
      induction l with
      | nil => exact .nil
      | cons i l ih => exact .cons (.int i) ih
    refine ⟨_, rfl, c, dx, _, rfl, ob, rfl, _, rfl, c, .ref T1, .tuple (intsD is), is, L, n, b, lo, hi, rfl, hB, B.n60, .tup hT (dps is), rfl, rfl, big, fun eb H1 s1 => ?_, bad⟩
    obtain ⟨xs, rfl, lt⟩ := bad_nats eb
    refine ⟨_, rfl, c, C, dx, _, _, rfl, s1 _ _ ob, T.cl, T.n7, rfl, _, rfl, T1, rfl, ⟨_, same_seqT s1 hT⟩, for_tup (xs := (xs.map fun x => ((x : Nat) : Int)).map V.int) (fun j σ H2 => ∃ y3 : Option V, σ = [some (.ref c), some (.ref T1), some (.int (((xs.take j).foldl lo L.tp : Nat) : Int)), y3] ∧ Same H H2 ∧ (xs.take j).foldl lo L.tp < n) ?_ ?_ ?_ ?_⟩
    · exact ⟨_, rfl, s1, by rw [e2]; exact B.tp.1⟩
    · rintro j σ H2 _ ⟨y3, rfl, s2, _⟩
      exact same_seqT s2 hT
    · rintro j v σ H2 hv ⟨y3, rfl, s2, lf⟩
      rw [List.getElem?_map, List.getElem?_map] at hv
      obtain ⟨x, hx, rfl⟩ : ∃ x, xs[j]? = some x ∧ V.int ((x : Nat) : Int) = v := by
        cases e : xs[j]? with
        | none => rw [e] at hv; cases hv
        | some x => rw [e] at hv; exact ⟨x, rfl, Option.some.inj hv⟩
      have lx := lt x (List.mem_of_getElem? hx)
      obtain ⟨rs, bb, h1, _, h3, h4⟩ := tab_ix' (dp_same s2 _ _ hB.lo) lf
      obtain ⟨ys, h5, h6⟩ := row_ixO h4 lx
      have st : (xs.take (j + 1)).foldl lo L.tp = lo ((xs.take j).foldl lo L.tp) x := by
        rw [List.take_add_one, hx, List.foldl_append]; rfl
      refine ⟨_, rfl, c, C, dx, _, _, rfl, s2 _ _ ob, T.cl, T.n4, rfl, _, rfl, L.lo, _, _, _, rfl, rfl, h1, h3, _, rfl, bb, _, _, _, rfl, rfl, h5, h6, ?_⟩
      exact ⟨_, by rw [st]; rfl, s2, by rw [st]; exact (B.lo _ _ lf lx).1⟩
    · rintro σ H2 ⟨y3, rfl, s2, _⟩
      rw [List.length_map, List.length_map, List.take_length]
      refine ⟨_, rfl, ?_⟩
      have z := good xs rfl lt H2 s2
      rw [e2]
      exact z
theorem ok_up {f : Addr} {k : Nat} {oc : Value} {od an : Option Addr} {osl : Array (Option Value)} {kV doc pm cdv ct : Value} (lk : K.lookup f = some ⟨oc, od, .func (PySem.W.fnOf "up" "Board.up" (defArgs s_up__of__Board) (defBody s_up__of__Board) (defScope s_up__of__Board) .none kV doc pm an cdv ct), osl⟩) (hcd : PySem.W.codeIn K cdv "Board.up" = true) (T : TxB K C) (hk : 2 ≤ k)
    (M_check_places : MetR P w K mg base 2 C "check_places" (spChk K C CP)) :
    FnR P w K mg base (L2.CX P w) (k + 1) f (spFold K C CP true) := by
  have z := StX.fn_star (ps := ["self"]) (pv := "places") (N := N_up__of__Board) (k := k) (P := P) (w := w) (mg := mg) (base := base) (CX := L2.CX P w) (sp := spFoldT K C CP true) lk hcd sc_up__of__Board StX.cxUp
    (fun us rest hl => match us, rest, hl with | [_], [], _ => rfl | [_], _ :: _, _ => rfl) (fun A outer s H vs Q E hr h => ?_)
  · refine z.imp fun vs H Q E h => ?_
    obtain ⟨c, is, L, n, b, lo, hi, bt, tp, rfl, hB, B, e1, e2, l100, big, good, bad⟩ := h
    refine ⟨[.ref c], is.map V.int, rfl, rfl, by rw [List.length_map, sizeLine_eq]; omega, fun p np => ?_⟩
    have sp := same_upd (o := .tup (is.map V.int)) np
    exact ⟨c, p, is, L, n, b, lo, hi, bt, tp, rfl, SqT.of upd_same, hB.same sp, B, e1, e2, l100, big, fun xs e lt H' s' => good xs e lt H' (sp.trans s'), fun e he => (bad e he).mono sp⟩
  · obtain ⟨c, T1, is, L, n, b, lo, hi, bt, tp, rfl, hT, hB, B, e1, e2, l100, big, good, bad⟩ := h
    refine ⟨_, (pss_cons (ps_expr (pe_mtR M_check_places (hr.mono (by omega)) passX (pv 0) (pa_cons (pv 1) pa_nil)))
      (pss_cons (ps_set (i := 2) sc_up__of__Board.nd rfl (by first | exact .inl rfl | exact .inr rfl) (pe_fldK (K := K) rfl (pv 0) rfl))
      (pss_cons (ps_for (passes_of rfl) rfl (pi_tup (pv 1)) (pg_name (i := 3) sc_up__of__Board.nd rfl (by first | exact .inl rfl | exact .inr rfl))
        (pss_one (ps_set (i := 2) sc_up__of__Board.nd rfl (by first | exact .inl rfl | exact .inr rfl) (pe_ix ix_list (pe_ix ix_list (pe_fldK (K := K) rfl (pv 0) rfl) (pv 2) (fun _ _ => rfl)) (pv 3) (fun _ _ => rfl)))))
      (pss_one (ps_ret (pv 2)))))), ?_⟩
    obtain ⟨dx, ob⟩ := hB.ob
    have dps : ∀ l : List Int, DpAll K H (l.map V.int) (intsD l) := fun l => by
      induction l with
      | nil => exact .nil
      | cons i l ih => exact .cons (.int i) ih
    refine ⟨_, rfl, c, dx, _, rfl, ob, rfl, _, rfl, c, .ref T1, .tuple (intsD is), is, L, n, b, lo, hi, rfl, hB, B.n60, .tup hT (dps is), rfl, rfl, big, fun eb H1 s1 => ?_, bad⟩
    obtain ⟨xs, rfl, lt⟩ := bad_nats eb
    refine ⟨_, rfl, c, C, dx, _, _, rfl, s1 _ _ ob, T.cl, T.n6, rfl, _, rfl, T1, rfl, ⟨_, same_seqT s1 hT⟩, for_tup (xs := (xs.map fun x => ((x : Nat) : Int)).map V.int) (fun j σ H2 => ∃ y3 : Option V, σ = [some (.ref c), some (.ref T1), some (.int (((xs.take j).foldl hi L.bt : Nat) : Int)), y3] ∧ Same H H2 ∧ (xs.take j).foldl hi L.bt < n) ?_ ?_ ?_ ?_⟩
    · exact ⟨_, rfl, s1, by rw [e1]; exact B.bt.1⟩
    · rintro j σ H2 _ ⟨y3, rfl, s2, _⟩
      exact same_seqT s2 hT
    · rintro j v σ H2 hv ⟨y3, rfl, s2, lf⟩
      rw [List.getElem?_map, List.getElem?_map] at hv
      obtain ⟨x, hx, rfl⟩ : ∃ x, xs[j]? = some x ∧ V.int ((x : Nat) : Int) = v := by
        cases e : xs[j]? with
        | none => rw [e] at hv; cases hv
        | some x => rw [e] at hv; exact ⟨x, rfl, Option.some.inj hv⟩
      have lx := lt x (List.mem_of_getElem? hx)
      obtain ⟨rs, bb, h1, _, h3, h4⟩ := tab_ix' (dp_same s2 _ _ hB.hi) lf
      obtain ⟨ys, h5, h6⟩ := row_ixO h4 lx
      have st : (xs.take (j + 1)).foldl hi L.bt = hi ((xs.take j).foldl hi L.bt) x := by
        rw [List.take_add_one, hx, List.foldl_append]; rfl
      refine ⟨_, rfl, c, C, dx, _, _, rfl, s2 _ _ ob, T.cl, T.n5, rfl, _, rfl, L.hi, _, _, _, rfl, rfl, h1, h3, _, rfl, bb, _, _, _, rfl, rfl, h5, h6, ?_⟩
      exact ⟨_, by rw [st]; rfl, s2, by rw [st]; exact (B.hi _ _ lf lx).1⟩
    · rintro σ H2 ⟨y3, rfl, s2, _⟩
      rw [List.length_map, List.length_map, List.take_length]
      refine ⟨_, rfl, ?_⟩
      have z := good xs rfl lt H2 s2
      rw [e1]
      exact z
theorem rows_at {n : Nat} {b : Nat → Nat → Bool} {x : Nat} (h : x < n) : ((rowsF n b).map V.str)[x]? = some (.str (rowF n (b x))) := by
  unfold rowsF
  rw [List.getElem?_map, List.getElem?_map, List.getElem?_range h]; rfl
theorem one_chB (b : Bool) : decide (V.str (⟨#[chB b]⟩ : Str) = V.str "1") = b := by cases b <;> decide
theorem ok_below {f : Addr} {fd : FuncData} {k : Nat} (F : Fun K "is_below" "Board.is_below" s_is_below__of__Board f fd) (T : TxB K C) (hk : 2 ≤ k)
    (M_check_places : MetR P w K mg base 2 C "check_places" (spChk K C CP)) :
    FnOk P w K mg base (L2.CX P w) (k + 1) f fd ["self", "one", "other"] (spBel K C CP) := by
  refine F.okX sc_is_below__of__Board (fun vs H Q E h => ?_) (fun cdv A outer s H vs Q E hr h => ?_)
  · obtain ⟨c, i, j, L, n, b, lo, hi, rfl, _⟩ := h
    rfl
  · obtain ⟨c, i, j, L, n, b, lo, hi, rfl, hB, n60, bi, bj, good, bad⟩ := h
    refine ⟨_, (pss_cons (ps_expr (pe_mtR M_check_places (hr.mono (by omega)) passX (pv 0) (pa_cons (pe_lst (pa_cons (pv 1) (pa_cons (pv 2) pa_nil))) pa_nil)))
      (pss_one (ps_ret (pe_cmpR op_eq (pe_ix ix_str (pe_ix ix_list (pe_fldK (K := K) rfl (pv 0) rfl) (pv 1) (fun _ _ => rfl)) (pv 2) (fun _ _ => rfl)) pe_str (nomark _))))), ?_⟩
    obtain ⟨dx, ob⟩ := hB.ob
    refine ⟨_, rfl, c, dx, _, rfl, ob, rfl, _, rfl, _, rfl, (by show 2 ≤ sizeLine; decide), fun t nt => ?_⟩
    have st := same_upd (o := .lst [.int i, .int j]) nt
    refine ⟨c, .ref t, .list (intsD [i, j]), [i, j], L, n, b, lo, hi, rfl, hB.same st, n60, .lst (SqL.of upd_same) (.cons (.int i) (.cons (.int j) .nil)), rfl, rfl, fun e he => ?_, fun eb H1 s1 => ?_, fun e he => (bad e he).mono st⟩
    · simp only [List.mem_cons, List.not_mem_nil, or_false] at he
      rcases he with rfl | rfl
      · exact bi
      · exact bj
    · obtain ⟨xs, exs, lt⟩ := bad_nats eb
      have s01 := st.trans s1
      match xs, exs, lt with
      | [x, y], exs, lt =>
        have e1 : i = ((x : Nat) : Int) := by simp only [List.map_cons, List.map_nil, List.cons.injEq, and_true] at exs; exact exs.1
        have e2 : j = ((y : Nat) : Int) := by simp only [List.map_cons, List.map_nil, List.cons.injEq, and_true] at exs; exact exs.2
        subst e1 e2
        have lx := lt x (by simp)
        have ly := lt y (by simp)
        refine ⟨_, rfl, c, C, dx, _, _, rfl, s01 _ _ ob, T.cl, T.n1, rfl, _, rfl, L.ln, _, _, _, rfl, rfl, SqL.of (s01 _ _ hB.ln), atI_nat (rows_at lx), _, rfl, _, _, chB (b x y), rfl, rfl, rowF_size _ n60, ?_, rfl, ?_⟩
        · rw [rowF_cps]
          exact atI_nat (by rw [List.getElem?_map, List.getElem?_range ly]; rfl)
        · rw [one_chB]
          exact good x y rfl rfl lx ly H1 s01
      | [], exs, _ => cases exs
      | [_], exs, _ => cases exs
      | _ :: _ :: _ :: _, exs, _ => cases exs
def spBot (K : PySem.W.Frag) (C : Addr) (up : Bool) : Sp := fun vs H Q _ => ∃ (c : Addr) (L : BL) (dx : Addr), vs = [.ref c] ∧ H c = some (.ins C dx (flB L)) ∧ Q (.int ((if up then L.bt else L.tp : Nat) : Int)) H
theorem ok_bottom {f : Addr} {fd : FuncData} {k : Nat} (F : Fun K "bottom" "Board.bottom" s_bottom__of__Board f fd) (T : TxB K C) :
    FnOk P w K mg base CX0 (k + 1) f fd ["self"] (spBot K C true) := by
  refine F.ok sc_bottom__of__Board (fun vs H Q E h => ?_) (fun cdv A outer s H vs Q E hr h => ?_)
  · obtain ⟨c, L, dx, rfl, _⟩ := h
    rfl
  · obtain ⟨c, L, dx, rfl, ob, q⟩ := h
    refine ⟨_, (pss_one (ps_ret (pe_fldK (K := K) rfl (pv 0) rfl))), ?_⟩
    exact ⟨_, rfl, c, C, dx, _, _, rfl, ob, T.cl, T.n6, rfl, q⟩
theorem ok_top {f : Addr} {fd : FuncData} {k : Nat} (F : Fun K "top" "Board.top" s_top__of__Board f fd) (T : TxB K C) :
    FnOk P w K mg base CX0 (k + 1) f fd ["self"] (spBot K C false) := by
  refine F.ok sc_top__of__Board (fun vs H Q E h => ?_) (fun cdv A outer s H vs Q E hr h => ?_)
  · obtain ⟨c, L, dx, rfl, _⟩ := h
    rfl
  · obtain ⟨c, L, dx, rfl, ob, q⟩ := h
    refine ⟨_, (pss_one (ps_ret (pe_fldK (K := K) rfl (pv 0) rfl))), ?_⟩
    exact ⟨_, rfl, c, C, dx, _, _, rfl, ob, T.cl, T.n7, rfl, q⟩
/-- the law's boards are boards -/
theorem fam_brd {ms : List Nat} (Fm : Fam ms) : ∃ bt tp, Brd ms.length (leI ms) (lowI ms) (upI ms) bt tp := by
  have n1 : 1 ≤ ms.length := by
    obtain ⟨t, ht, _⟩ := Fm.top
    exact List.length_pos_of_mem ht
  have fold : ∀ (g : Nat → Nat → Nat) (r : Nat → Nat → Bool), (∀ x y, x < ms.length → y < ms.length → g x y < ms.length ∧ r (g x y) x = true ∧ r (g x y) y = true) → (∀ x y z, r x y = true → r y z = true → r x z = true) → (∀ x, r x x = true) → ∀ l : List Nat, (∀ z ∈ l, z < ms.length) → ∀ x, x < ms.length → ∃ y, y < ms.length ∧ r y x = true ∧ ∀ z ∈ l, r y z = true := fun g r hg tr rf l => by
    induction l with
    | nil => exact fun _ x hx => ⟨x, hx, rf x, fun z hz => (nomatch hz)⟩
    | cons a l ih =>
      intro hl x hx
      have ha := hl a List.mem_cons_self
      obtain ⟨h1, h2, h3⟩ := hg x a hx ha
      obtain ⟨y, y1, y2, y3⟩ := ih (fun z hz => hl z (List.mem_cons_of_mem _ hz)) _ h1
      refine ⟨y, y1, tr _ _ _ y2 h2, fun z hz => ?_⟩
      rcases List.mem_cons.mp hz with e | e
      · rw [e]; exact tr _ _ _ y2 h3
      · exact y3 z e
  have lo := fun x y hx hy => low_spec Fm (x := x) (y := y) hx hy
  have up := fun x y hx hy => up_spec Fm (x := x) (y := y) hx hy
  obtain ⟨bt, b1, _, b3⟩ := fold (lowI ms) (leI ms) (fun x y hx hy => ⟨(lo x y hx hy).1, ((lo x y hx hy).2 _ (lo x y hx hy).1).mp (leI_refl _)⟩) (fun x y z => leI_trans) leI_refl (List.range ms.length) (fun z hz => List.mem_range.mp hz) 0 n1
  obtain ⟨tp, t1, _, t3⟩ := fold (upI ms) (fun x y => leI ms y x) (fun x y hx hy => ⟨(up x y hx hy).1, ((up x y hx hy).2 _ (up x y hx hy).1).mp (leI_refl _)⟩) (fun x y z h g => leI_trans g h) (fun x => leI_refl x) (List.range ms.length) (fun z hz => List.mem_range.mp hz) 0 n1
  refine ⟨bt, tp, n1, Nat.le_trans Fm.ln (by decide), fun x _ => leI_refl x, fun x y hx hy => leI_anti Fm hx hy, fun x y z _ _ _ => leI_trans, fun x y hx hy => ⟨(lo x y hx hy).1, fun z hz => ?_⟩, fun x y hx hy => ⟨(up x y hx hy).1, fun z hz => ?_⟩, ⟨b1, fun z hz => b3 z (List.mem_range.mpr hz)⟩, ⟨t1, fun z hz => t3 z (List.mem_range.mpr hz)⟩⟩
  · rw [Bool.eq_iff_iff, Bool.and_eq_true]; exact (lo x y hx hy).2 z hz
  · rw [Bool.eq_iff_iff, Bool.and_eq_true]; exact (up x y hx hy).2 z hz
end
end FvO


namespace Fv
open PySem PySem.Spec PyProof.Rows L2 TL
/-! ### text * int -/
def mulS (x : Str) (n : Nat) : Str := ⟨(List.replicate n x.cps).foldl (· ++ ·) #[]⟩
def rMulS : R2 := fun x y H Q => ∃ (z : Str) (n : Nat), x = .str z ∧ y = .int (n : Nat) ∧ 2 ≤ n ∧ n ≤ 1000 ∧ 1 ≤ z.length ∧ z.length ≤ 10 ∧ Q (.str (mulS z n)) H
theorem op_mulS {X : Cx} : OpR X (binaryOp .Mult) rMulS := by
  intro pins s σ H x y v u Q I rx ry h
  obtain ⟨z, n, rfl, rfl, n2, n3, z1, z2, q⟩ := h
  obtain ⟨t, rfl⟩ := rx
  obtain ⟨t', rfl⟩ := ry
  have ok := mulOk_of (x := z) (n := (n : Nat)) 10 1000 z2 (by omega) (by omega) (by decide) (by decide)
  have c : ((((n : Nat) : Int) == 1) || z.length == 0) = false := by
    rw [Bool.or_eq_false_iff]
    exact ⟨beq_eq_false_iff_ne.mpr (by omega), beq_eq_false_iff_ne.mpr (by omega)⟩
  refine P.mul_str ok.1 ok.2.1 ok.2.2 ?_
  rw [if_neg (by omega), if_neg (by rw [c]; decide)]
  refine ⟨?_, ?_⟩
  · show ((List.replicate n z.cps).foldl (· ++ ·) #[]).size ≤ _
    rw [len_reps]
    have : n * z.cps.size ≤ 1000 * 10 := Nat.mul_le_mul n3 z2
    refine Nat.le_trans (?_ : _ ≤ 10000) (by decide)
    simp
    omega
  · exact ⟨.str (mulS z n), H, I.tok _, ⟨_, rfl⟩, q⟩
def rMulN : R2 := fun x y H Q => ∃ (z : Str) (n : Nat), x = .str z ∧ y = .int (n : Nat) ∧ 1 ≤ n ∧ n ≤ 1000 ∧ 1 ≤ z.length ∧ z.length ≤ 10 ∧ Q (.str (mulS z n)) H
theorem op_mulN {X : Cx} : OpR X (binaryOp .Mult) rMulN := by
  intro pins s σ H x y v u Q I rx ry h
  obtain ⟨z, n, rfl, rfl, n2, n3, z1, z2, q⟩ := h
  by_cases h2 : 2 ≤ n
  · exact op_mulS pins s σ H _ _ v u Q I rx ry ⟨z, n, rfl, rfl, h2, n3, z1, z2, q⟩
  have e1 : n = 1 := by omega
  subst e1
  obtain ⟨t, rfl⟩ := rx
  obtain ⟨t', rfl⟩ := ry
  have ok := mulOk_of (x := z) (n := ((1 : Nat) : Int)) 10 1000 z2 (by omega) (by omega) (by decide) (by decide)
  refine P.mul_str ok.1 ok.2.1 ok.2.2 ?_
  rw [if_neg (by decide), if_pos (by rfl)]
  have e : mulS z 1 = z := by
    unfold mulS
    obtain ⟨a⟩ := z
    simp
  rw [e] at q
  exact ⟨.str z, H, I, ⟨t, rfl⟩, q⟩
end Fv


namespace FvO
open PySem PySem.Spec PyProof.Rows L2 Fv FvW FvX TL
open FvK (pe_fldK)
open ClX (CRead CVal pe_cval)
-- top 27  slots: 0:self
abbrev s_rows__of__Board : Stmt := inClass (topS 27) 5
abbrev N_rows__of__Board : List Str := ["self"]
theorem sc_rows__of__Board : FnScope N_rows__of__Board ["self"] (defScope s_rows__of__Board) := ⟨rfl, rfl, rfl, by decide +kernel, rfl, by decide +kernel, by decide +kernel⟩


-- top 27  slots: 0:cls 1:size 2:at
abbrev s_chain__of__Board : Stmt := inClass (topS 27) 2
abbrev N_chain__of__Board : List Str := ["cls", "size", "at"]
theorem sc_chain__of__Board : FnScope N_chain__of__Board ["cls", "size"] (defScope s_chain__of__Board) := ⟨rfl, rfl, rfl, by decide +kernel, rfl, by decide +kernel, by decide +kernel⟩



theorem none_backO {H H1 : Hp} {p : Addr} (s : Same H H1) (h : H1 p = none) : H p = none := by
  cases e : H p with
  | none => rfl
  | some o => rw [s p o e] at h; cases h
/-! ### a class in a local name, called -/
structure MakR (P : Program) (w : World) (K : PySem.W.Frag) (mg : Str → Option Value) (base : Heap) (k : Nat) (C : Addr) (sp : Sp) : Prop where
  ex : ∃ f : Addr, Mk K C f ∧ FnR P w K mg base (L2.CX P w) k f sp
def tMakeV (i : Nat) (C : Addr) (sp : Sp) (E : XK) (t : TA) : TE := fun σ H Q => σ[i]? = some (some (.ref C)) ∧ StX.tMakeR C sp E t σ H Q
theorem pe_makeV {X : Cx} {i k : Nat} {C : Addr} {x : Str} {sp : Sp} {E : XK} {e : Expr} {es : List Expr} {t : TA} {p pos : Pos} (M : MakR X.prog X.w X.K X.mg X.base k C sp) (hr : Room (k + 1) X.A) (hN : X.N[i]? = some x) (hv : Vis X.env.scope x) (hx : Passes (L2.CX X.prog X.w) X E) (ha : PA X (e :: es) t)
    (hd : (x == ("__debug__" : Str)) = false := by decide) (hcd : (x == ("__classdict__" : Str)) = false := by decide)
    (he : starEach (e :: es) X.env = (false, eval e X.env) :: starEach es X.env := by rfl) (hpl : (backTo pos (starEach es X.env)).any (·.1) = false := by rfl) :
    PE X (.Call (.Name x p) (e :: es) [] pos) (tMakeV i C sp E t) := by
  obtain ⟨f, M, F⟩ := M.ex
  refine ⟨fun pins s σ H Q I h => ?_⟩
  obtain ⟨hs, h⟩ := h
  refine wpAny_Call_Name_kw (thn ((pe_var (pos := p) hN hv hd hcd).run pins s σ H (fun v H1 => v = .ref C ∧ H1 = H) I ⟨.ref C, hs, rfl, rfl⟩) fun u s1 ⟨v, H1, I1, r1, q1⟩ => ?_)
  obtain ⟨rfl, rfl⟩ := q1
  cases r1
  refine PySem.W.callWith_K (h₀ := X.base) I.ok.mod.kin M.kp (thn (ha.run pos pins s1 σ _ _ I1 h) fun us s2 ⟨vs, H2, I2, r, q⟩ => ⟨I2.kIn, ?_⟩) he hpl
  exact StX.run_makeR M F hr hx I2 r q
def rMulG : R2 := fun x y H Q => ∃ (z : Str) (n : Nat), x = .str z ∧ y = .int (n : Nat) ∧ n ≤ 1000 ∧ 1 ≤ z.length ∧ z.length ≤ 10 ∧ Q (.str (mulS z n)) H
def rCatS : R2 := fun x y H Q => ∃ i j, x = .str i ∧ y = .str j ∧ i.length + j.length ≤ sizeLine ∧ Q (.str (i ++ j)) H
theorem op_catS {X : Cx} : OpR X (binaryOp .Add) rCatS := op_add_str
theorem op_mulG {X : Cx} : OpR X (binaryOp .Mult) rMulG := by
  intro pins s σ H x y v u Q I rx ry h
  obtain ⟨z, n, rfl, rfl, n3, z1, z2, q⟩ := h
  by_cases h2 : 1 ≤ n
  · exact op_mulN pins s σ H _ _ v u Q I rx ry ⟨z, n, rfl, rfl, h2, n3, z1, z2, q⟩
  have e1 : n = 0 := by omega
  subst e1
  obtain ⟨t, rfl⟩ := rx
  obtain ⟨t', rfl⟩ := ry
  have ok := mulOk_of (x := z) (n := ((0 : Nat) : Int)) 10 1000 z2 (by omega) (by omega) (by decide) (by decide)
  refine P.mul_str ok.1 ok.2.1 ok.2.2 ?_
  rw [if_pos (by omega)]
  exact ⟨by decide, .str (mulS z 0), H, I.tok _, ⟨_, rfl⟩, q⟩
/-! ### the board turned over -/
theorem Brd.dual {n : Nat} {b : Nat → Nat → Bool} {lo hi : Nat → Nat → Nat} {bt tp : Nat} (B : Brd n b lo hi bt tp) : Brd n (fun x y => b y x) hi lo tp bt :=
  ⟨B.n1, B.n60, B.rf, fun x y hx hy h1 h2 => B.an x y hx hy h2 h1, fun x y z hx hy hz h1 h2 => B.tr z y x hz hy hx h2 h1,
   fun x y hx hy => ⟨(B.hi x y hx hy).1, fun z hz => (B.hi x y hx hy).2 z hz⟩, fun x y hx hy => ⟨(B.lo x y hx hy).1, fun z hz => (B.lo x y hx hy).2 z hz⟩, B.tp, B.bt⟩
theorem chain_brd {n : Nat} (h1 : 1 ≤ n) (h2 : n ≤ 60) : Brd n (fun x y => decide (x ≤ y)) min max 0 (n - 1) where
  n1 := h1
  n60 := h2
  rf := fun x _ => by simp
  an := fun x y _ _ a b => by simp at a b; omega
  tr := fun x y z _ _ _ a b => by simp at a b ⊢; omega
  lo := fun x y hx hy => ⟨by omega, fun z _ => by rw [Bool.eq_iff_iff]; simp; omega⟩
  hi := fun x y hx hy => ⟨by omega, fun z _ => by rw [Bool.eq_iff_iff]; simp; omega⟩
  bt := ⟨by omega, fun z _ => by simp⟩
  tp := ⟨by omega, fun z hz => by simp; omega⟩
def newB (K : PySem.W.Frag) (C : Addr) (M : List Addr) (n : Nat) (b : Nat → Nat → Bool) (lo hi : Nat → Nat → Nat) (bt tp : Nat) (H : Hp) (Q : VK) : Prop :=
  ∀ (H' : Hp) (x : Addr) (L : BL), Same H H' → H x = none → BAt K C (hide M H') x L n b lo hi → L.bt = bt → L.tp = tp → Q (.ref x) H'
def spRowsB (K : PySem.W.Frag) (C : Addr) : Sp := fun vs H Q _ => ∃ (c : Addr) (L : BL) (n : Nat) (b : Nat → Nat → Bool) (lo hi : Nat → Nat → Nat), vs = [.ref c] ∧ BAt K C H c L n b lo hi ∧ ∀ (H' : Hp) (p : Addr), Same H H' → H p = none → H' p = some (.lst ((rowsF n b).map V.str)) → Q (.ref p) H'
def spTurn (K : PySem.W.Frag) (C : Addr) : Sp := fun vs H Q _ => ∃ (M : List Addr) (c : Addr) (L : BL) (n : Nat) (b : Nat → Nat → Bool) (lo hi : Nat → Nat → Nat) (bt tp : Nat), vs = [.ref c] ∧ Trk M H ∧ BAt K C H c L n b lo hi ∧ Brd n b lo hi bt tp ∧ newB K C M n (fun x y => b y x) hi lo tp bt H Q
/-- a board of a family by its size: made, or refused -/
def spMade (K : PySem.W.Frag) (C CB : Addr) (ok : Int → Option Nat) (nn : Nat → Nat) (b : Nat → Nat → Nat → Bool) (lo hi : Nat → Nat → Nat → Nat) (bt tp : Nat → Nat) : Sp := fun vs H Q E => ∃ (M : List Addr) (i : Int), vs = [.ref C, .int i] ∧ Trk M H ∧
  (∀ n, ok i = some n → newB K C M (nn n) (b n) (lo n) (hi n) (bt n) (tp n) H Q) ∧ (ok i = none → errAt CB "InvalidBoard" H E)
def okI (a z : Int) (i : Int) : Option Nat := if a ≤ i ∧ i ≤ z then some i.toNat else none
def spChain (K : PySem.W.Frag) (C CB : Addr) : Sp := spMade K C CB (okI 1 60) (fun n => n) (fun _ x y => decide (x ≤ y)) (fun _ => min) (fun _ => max) (fun _ => 0) (fun n => n - 1)
def spCube (K : PySem.W.Frag) (C CB : Addr) : Sp := spMade K C CB (okI 0 5) (fun k => 2 ^ k) (fun _ x y => decide (x &&& y = x)) (fun _ => (· &&& ·)) (fun _ => (· ||| ·)) (fun _ => 0) (fun k => 2 ^ k - 1)
def fanB (n x y : Nat) : Bool := decide (x = y) || decide (x = 0) || decide (y = n - 1)
def fanL (n x y : Nat) : Nat := if x = y then x else if x = n - 1 then y else if y = n - 1 then x else 0
def fanH (n x y : Nat) : Nat := if x = y then x else if x = 0 then y else if y = 0 then x else n - 1
def spFan (K : PySem.W.Frag) (C CB : Addr) : Sp := fun vs H Q E => ∃ (M : List Addr) (i : Int), vs = [.int i] ∧ Trk M H ∧
  (∀ n, okI 1 58 i = some n → newB K C M (n + 2) (fanB (n + 2)) (fanL (n + 2)) (fanH (n + 2)) 0 (n + 1) H Q) ∧ (okI 1 58 i = none → errAt CB "InvalidBoard" H E)
theorem fan_brd {n : Nat} (h1 : 3 ≤ n) (h2 : n ≤ 60) : Brd n (fanB n) (fanL n) (fanH n) 0 (n - 1) where
  n1 := by omega
  n60 := h2
  rf := fun x _ => by unfold fanB; simp
  an := fun x y _ _ a b => by unfold fanB at a b; simp at a b; omega
  tr := fun x y z _ _ _ a b => by unfold fanB at a b ⊢; simp at a b ⊢; omega
  lo := fun x y hx hy => ⟨by unfold fanL; (repeat' split) <;> omega, fun z hz => by
    rw [Bool.eq_iff_iff, Bool.and_eq_true]
    unfold fanB fanL
    simp only [Bool.or_eq_true, decide_eq_true_eq]
    (repeat' split) <;> omega⟩
  hi := fun x y hx hy => ⟨by unfold fanH; (repeat' split) <;> omega, fun z hz => by
    rw [Bool.eq_iff_iff, Bool.and_eq_true]
    unfold fanB fanH
    simp only [Bool.or_eq_true, decide_eq_true_eq]
    (repeat' split) <;> omega⟩
  bt := ⟨by omega, fun z _ => by unfold fanB; simp⟩
  tp := ⟨by omega, fun z _ => by unfold fanB; simp⟩
section
variable {P : Program} {w : World} {K : PySem.W.Frag} {mg : Str → Option Value} {base : Heap} {C : Addr}
theorem ok_rowsB {f : Addr} {fd : FuncData} {k : Nat} (F : Fun K "rows" "Board.rows" s_rows__of__Board f fd) (T : TxB K C) (m_list : mg "list" = none) :
    FnOk P w K mg base CX0 (k + 1) f fd ["self"] (spRowsB K C) := by
  refine F.ok sc_rows__of__Board (fun vs H Q E h => ?_) (fun cdv A outer s H vs Q E hr h => ?_)
  · obtain ⟨c, L, n, b, lo, hi, rfl, _⟩ := h
    rfl
  · obtain ⟨c, L, n, b, lo, hi, rfl, hB, good⟩ := h
    refine ⟨_, (pss_one (ps_ret (pe_callTy call_list_of (by rfl) m_list (by decide +kernel) (pa_cons (pe_fldK (K := K) rfl (pv 0) rfl) pa_nil)))), ?_⟩
    obtain ⟨dx, ob⟩ := hB.ob
    refine ⟨_, rfl, c, C, dx, _, _, rfl, ob, T.cl, T.n1, rfl, L.ln, _, rfl, .inl (SqL.of hB.ln), fun p np => ?_⟩
    exact good _ p (same_upd np) np upd_same
theorem rep_mk (c : Nat) (x : Str) (hx : x = ⟨#[c]⟩) (n : Nat) : mulS x n = mk (List.replicate n c) := by
  have h : ∀ (n : Nat) (acc : Array Nat), ((List.replicate n (#[c] : Array Nat)).foldl (· ++ ·) acc) = acc ++ (List.replicate n c).toArray := by
    intro n
    induction n with
    | zero => intro acc; simp
    | succ n ih =>
      intro acc
      rw [List.replicate_succ, List.foldl_cons, ih, List.replicate_succ]
      refine Array.ext' ?_
      simp
  subst hx
  show (⟨(List.replicate n (#[c] : Array Nat)).foldl (· ++ ·) #[]⟩ : Str) = ⟨_⟩
  rw [h]
  simp
theorem chain_row {n j : Nat} (h : j ≤ n) : mulS "0" j ++ mulS "1" (n - j) = rowF n fun y => decide (j ≤ y) := by
  rw [rep_mk 48 "0" rfl, rep_mk 49 "1" rfl]
  have e : List.replicate j 48 ++ List.replicate (n - j) 49 = (List.range n).map fun y => chB (decide (j ≤ y)) := by
    refine List.ext_getElem (by simp; omega) fun i h1 h2 => ?_
    rw [List.getElem_map, List.getElem_range, List.getElem_append]
    by_cases c : i < j
    · rw [dif_pos (by simpa using c), List.getElem_replicate, decide_eq_false (by omega)]; rfl
    · rw [dif_neg (by simpa using c), List.getElem_replicate, decide_eq_true (by omega)]; rfl
  unfold rowF
  rw [← e]
  show (⟨_ ++ _⟩ : Str) = ⟨_⟩
  simp [mk]
theorem mul_len (c : Nat) (x : Str) (hx : x = ⟨#[c]⟩) (n : Nat) : (mulS x n).length = n := by
  rw [rep_mk c x hx, mk_len, List.length_replicate]
theorem ok_chain {CB fI : Addr} {qual msg : Str} {q : ErrPos} {j1 j2 : Nat} {f : Addr} {fd : FuncData} {k : Nat} (F : Fun K "chain" "Board.chain" s_chain__of__Board f fd) (TM : TxM K C) (hk : 6 ≤ k) (m_range : mg "range" = none)
    (T_IB : ErrC P.main.file K CB fI qual q msg "InvalidBoard" j1 j2) (hline : LineOk q msg j1) (htop : (P.main.scope.names.lookup ("super" : Str)).isSome = false) (m_super : mg "super" = none) (g_IB : mg "InvalidBoard" = some (.ref CB))
    (M_Board : MakR P w K mg base 4 C (spBIn K C)) :
    FnOk P w K mg base (L2.CX P w) (k + 1) f fd ["cls", "size"] (spChain K C CB) := by
  refine F.okX sc_chain__of__Board (fun vs H Q E h => ?_) (fun cdv A outer s H vs Q E hr h => ?_)
  · obtain ⟨M, i, rfl, _⟩ := h
    rfl
  · obtain ⟨M, i, rfl, tM, good, bad⟩ := h
    refine ⟨_, (pss_cons (ps_if (PW.pt (pw_or (pt_cmpR op_lt (pv 1) pe_int (nomark _)) (pw_or1 (pt_cmpR op_gt (pv 1) (pe_cval (pv 0)) (nomark _)))))
        (pss_one (ps_raise rfl (takes_of rfl rfl rfl rfl) (pmk_err0 (k := 0) T_IB hline htop m_super (hr.mono (by omega)) (by rfl) g_IB)))
        pss_nil)
      (pss_one (ps_ret (pe_makeV (i := 0) M_Board (hr.mono (by omega)) rfl (.inl rfl) passE0 (pa_cons (pe_lc (own := [("at", 2)]) (g := gName 2) (by rfl) sc_chain__of__Board.nd (pi_range1 (by rfl) m_range (pa_cons (pv 1) pa_nil)) (blkOk_by (own := [("at", 2)]) (N := N_chain__of__Board) (sc := defScope s_chain__of__Board) (by decide +kernel)) (fun _ _ _ _ _ => pg_name (i := 2) sc_chain__of__Board.nd rfl (Or.inl rfl)) (fun _ _ _ _ _ => pts_nil) (fun _ _ _ _ _ => (pe_op op_catS (pe_op op_mulG pe_str (pv 2)) (pe_op op_mulG pe_str (pe_op op_sub (pv 1) (pv 2)))))) pa_nil))))), ?_⟩
    obtain ⟨mc, u, cr, cv⟩ := TM.ex
    have bad1 : ¬ (1 ≤ i ∧ i ≤ 60) → ∀ dd, H dd = none → E (.ref CB) (some dd) (upd H dd (.xd [("code", .str "InvalidBoard")])) := fun h dd nd => bad (if_neg h) _ dd (same_upd nd) upd_same
    refine ⟨_, rfl, _, _, rfl, rfl, _, rfl, ?_⟩
    by_cases c1 : i < 1
    · rw [decide_eq_true c1]
      exact iteT (iteT fun dd nd => bad1 (by omega) dd nd)
    rw [decide_eq_false c1]
    refine iteF ⟨_, rfl, _, rfl, C, mc, .int 60, u, rfl, cr, cv, _, _, rfl, rfl, _, rfl, ?_⟩
    by_cases c2 : (60 : Int) < i
    · rw [decide_eq_true c2]
      exact iteT fun dd nd => bad1 (by omega) dd nd
    rw [decide_eq_false c2]
    refine iteF ⟨rfl, ?_⟩
    obtain ⟨n, rfl⟩ : ∃ n : Nat, i = (n : Nat) := ⟨i.toNat, by omega⟩
    have n1 : 1 ≤ n := by omega
    have n60 : n ≤ 60 := by omega
    have good : newB K C M n (fun x y => decide (x ≤ y)) min max 0 (n - 1) H Q := good n (by unfold okI; rw [if_pos (by omega), Int.toNat_natCast])
    refine ⟨_, rfl, _, rfl, by omega, by omega, fun D nD => lc_range (lo := 0) (n := ((n : Nat) : Int).toNat) (fun j H' => Same H H' ∧ H' D = some (.lst (((List.range j).map fun x => V.str (rowF n fun y => decide (x ≤ y)))))) ?_ ?_ ?_⟩
    · exact ⟨same_upd nD, upd_same⟩
    · rintro j H' hj ⟨sm, hD⟩
      rw [Int.toNat_natCast] at hj
      have ej : (0 : Int) + (j : Nat) = ((j : Nat) : Int) := by omega
      rw [ej]
      have en : ((n : Nat) : Int) - ((j : Nat) : Int) = ((n - j : Nat) : Int) := by omega
      refine ⟨rfl, yes_it ⟨_, rfl, _, j, rfl, rfl, by omega, by decide, by decide, _, rfl, _, rfl, _, _, rfl, rfl, _, n - j, rfl, congrArg V.int en, by omega, by decide, by decide, _, _, rfl, rfl, ?_, ?_⟩⟩
      · rw [mul_len 48 "0" rfl, mul_len 49 "1" rfl, sizeLine_eq]; omega
      · rw [chain_row (by omega)]
        refine ⟨_, hD, small1000 (by rw [List.length_map, List.length_range]; omega), fun c o e => ?_, ?_⟩
        · rw [upd_ne (ne_of_none e nD)]; exact sm _ _ e
        · rw [upd_same, List.range_succ, List.map_append]; rfl
    · rintro H1 ⟨s1, hD⟩
      rw [Int.toNat_natCast] at hD
      refine fun x d2 nx nd nxd => ?_
      have DM : D ∉ M := tM.ne nD
      have tM1 := tM.same s1
      have xM : x ∉ M := tM1.ne nx
      have px : D ≠ x := ne_of_none hD nx
      have sA := same_upd (o := .own x) nd
      have nx' : upd H1 d2 (.own x) x = none := by rw [upd_ne (Ne.symm nxd)]; exact nx
      have sB := sA.trans (same_upd (o := .ins C d2 []) nx')
      have hpB := sB _ _ hD
      have hxB : upd (upd H1 d2 (.own x)) x (.ins C d2 []) x = some (.ins C d2 []) := upd_same
      generalize upd (upd H1 d2 (.own x)) x (.ins C d2 []) = HB at sB hpB hxB
      refine ⟨M, x, D, d2, n, _, min, max, 0, n - 1, rfl, tM1.same sB, xM, hxB, SqL.of ?_, chain_brd n1 n60, fun H2 L2 smx hB2 e1 e2 => ?_⟩
      · rw [hide_ne (fun z => (List.mem_cons.mp z).elim px DM), hpB]
        unfold rowsF
        rw [List.map_map]
        rfl
      · exact ⟨rfl, good H2 x L2 (s1.trans fun b o e => smx b o (fun z => ne_of_none e nx (List.mem_singleton.mp z)) (sB b o e)) (none_backO s1 nx) hB2 e1 e2⟩
theorem sub_iff {z w : Nat} : z &&& w = z ↔ ∀ i, z.testBit i = true → w.testBit i = true := by
  constructor
  · intro h i hi
    rw [← h, Nat.testBit_and, Bool.and_eq_true] at hi
    exact hi.2
  · intro h
    refine Nat.eq_of_testBit_eq fun i => ?_
    rw [Nat.testBit_and]
    cases c : z.testBit i with
    | false => rfl
    | true => rw [h i c]; rfl
theorem cube_brd {k : Nat} (hk : k ≤ 5) : Brd (2 ^ k) (fun x y => decide (x &&& y = x)) (· &&& ·) (· ||| ·) 0 (2 ^ k - 1) where
  n1 := Nat.one_le_two_pow
  n60 := Nat.le_trans (Nat.pow_le_pow_right (by decide) hk) (by decide)
  rf := fun x _ => decide_eq_true (Nat.and_self x)
  an := fun x y _ _ a b => by
    have a := of_decide_eq_true a
    have b := of_decide_eq_true b
    rw [Nat.and_comm] at b
    rw [← a, b]
  tr := fun x y z _ _ _ a b => decide_eq_true (sub_iff.mpr fun i h => sub_iff.mp (of_decide_eq_true b) i (sub_iff.mp (of_decide_eq_true a) i h))
  lo := fun x y hx _ => ⟨Nat.lt_of_le_of_lt Nat.and_le_left hx, fun z _ => by
    rw [Bool.eq_iff_iff, Bool.and_eq_true, decide_eq_true_iff, decide_eq_true_iff, decide_eq_true_iff, sub_iff, sub_iff, sub_iff]
    constructor
    · intro h
      refine ⟨fun i hi => ?_, fun i hi => ?_⟩
      · have := h i hi; rw [Nat.testBit_and, Bool.and_eq_true] at this; exact this.1
      · have := h i hi; rw [Nat.testBit_and, Bool.and_eq_true] at this; exact this.2
    · rintro ⟨h1, h2⟩ i hi
      rw [Nat.testBit_and, h1 i hi, h2 i hi]; rfl⟩
  hi := fun x y hx hy => ⟨Nat.or_lt_two_pow hx hy, fun z _ => by
    rw [Bool.eq_iff_iff, Bool.and_eq_true, decide_eq_true_iff, decide_eq_true_iff, decide_eq_true_iff, sub_iff, sub_iff, sub_iff]
    constructor
    · intro h
      refine ⟨fun i hi => h i ?_, fun i hi => h i ?_⟩
      · rw [Nat.testBit_or, hi]; rfl
      · rw [Nat.testBit_or, hi, Bool.or_true]
    · rintro ⟨h1, h2⟩ i hi
      rw [Nat.testBit_or, Bool.or_eq_true] at hi
      rcases hi with hi | hi
      · exact h1 i hi
      · exact h2 i hi⟩
  bt := ⟨Nat.two_pow_pos k, fun z _ => by simp⟩
  tp := ⟨Nat.sub_lt (Nat.two_pow_pos k) (by decide), fun z hz => decide_eq_true (by rw [Nat.and_two_pow_sub_one_eq_mod, Nat.mod_eq_of_lt hz])⟩
theorem mk_app (a b : List Nat) : mk a ++ mk b = mk (a ++ b) := by
  show (⟨_ ++ _⟩ : Str) = ⟨_⟩
  simp [mk]
theorem app_len (a b : Str) : (a ++ b).length = a.length + b.length := by
  show (a.cps ++ b.cps).size = a.cps.size + b.cps.size
  exact Array.size_append
theorem one_mk : ("1" : Str) = mk [49] := rfl
theorem fan_mid {n j : Nat} (h1 : 1 ≤ j) (h2 : j ≤ n) : mulS "0" j ++ "1" ++ mulS "0" (n - j) ++ "1" = rowF (n + 2) (fanB (n + 2) j) := by
  rw [rep_mk 48 "0" rfl, rep_mk 48 "0" rfl, one_mk, mk_app, mk_app, mk_app]
  unfold rowF
  congr 1
  refine List.ext_getElem (by simp; omega) fun i a b => ?_
  rw [List.getElem_map, List.getElem_range]
  simp only [List.getElem_append, List.length_append, List.length_replicate, List.length_cons, List.length_nil, List.getElem_replicate, List.getElem_singleton]
  simp only [List.length_map, List.length_range] at b
  have key : fanB (n + 2) j i = true ↔ (i = j ∨ i = n + 1) := by
    unfold fanB
    simp only [Bool.or_eq_true, decide_eq_true_eq]
    omega
  by_cases c : i = j ∨ i = n + 1
  · rw [key.mpr c]
    show _ = 49
    (repeat' split) <;> first | rfl | omega
  · rw [Bool.eq_false_iff.mpr (fun z => c (key.mp z))]
    show _ = 48
    (repeat' split) <;> first | rfl | omega
theorem fan_first (n : Nat) : mulS "1" (n + 2) = rowF (n + 2) (fanB (n + 2) 0) := by
  rw [rep_mk 49 "1" rfl]
  unfold rowF
  congr 1
  refine List.ext_getElem (by simp) fun i a b => ?_
  rw [List.getElem_map, List.getElem_range, List.getElem_replicate]
  have : fanB (n + 2) 0 i = true := by unfold fanB; simp
  rw [this]
  rfl
theorem fan_last (n : Nat) : mulS "0" (n + 1) ++ "1" = rowF (n + 2) (fanB (n + 2) (n + 1)) := by
  rw [rep_mk 48 "0" rfl, one_mk, mk_app]
  unfold rowF
  congr 1
  refine List.ext_getElem (by simp) fun i a b => ?_
  rw [List.getElem_map, List.getElem_range]
  simp only [List.getElem_append, List.length_replicate, List.getElem_replicate, List.getElem_singleton]
  simp only [List.length_map, List.length_range] at b
  have key : fanB (n + 2) (n + 1) i = true ↔ i = n + 1 := by
    unfold fanB
    simp only [Bool.or_eq_true, decide_eq_true_eq]
    omega
  by_cases c : i = n + 1
  · rw [key.mpr c]
    show _ = 49
    (repeat' split) <;> first | rfl | omega
  · rw [Bool.eq_false_iff.mpr (fun z => c (key.mp z))]
    show _ = 48
    (repeat' split) <;> first | rfl | omega
end
end FvO


namespace Fv
open PySem PySem.Spec PyProof.Rows L2
-- top 15  slots: 0:value
abbrev s_is_letter : Stmt := topS 15
abbrev N_is_letter : List Str := ["value"]
theorem sc_is_letter : FnScope N_is_letter ["value"] (defScope s_is_letter) := ⟨rfl, rfl, rfl, by decide +kernel, rfl, by decide +kernel, by decide +kernel⟩

-- top 16  slots: 0:value
abbrev s_is_compound : Stmt := topS 16
abbrev N_is_compound : List Str := ["value"]
theorem sc_is_compound : FnScope N_is_compound ["value"] (defScope s_is_compound) := ⟨rfl, rfl, rfl, by decide +kernel, rfl, by decide +kernel, by decide +kernel⟩

-- top 17  slots: 0:value 1:max_depth 2:max_size 3:deepest 4:total 5:part 6:found
abbrev s_measured : Stmt := topS 17
abbrev N_measured : List Str := ["value", "max_depth", "max_size", "deepest", "total", "part", "found"]
theorem sc_measured : FnScope N_measured ["value", "max_depth", "max_size"] (defScope s_measured) := ⟨rfl, rfl, rfl, by decide +kernel, rfl, by decide +kernel, by decide +kernel⟩


section
variable {P : Program} {w : World} {K : PySem.W.Frag} {mg : Str → Option Value} {base : Heap}
theorem len_ok {n : Nat} {s : Str} (h : gd n (.str s) = true) : s.length ≤ sizeLine := by
  have q : s.length ≤ 100000 := by
    cases n <;> (simp only [gd, Bool.and_eq_true, decide_eq_true_eq] at h; exact h.2)
  exact Nat.le_trans q (by decide)
theorem ok_is_letter {f : Addr} {fd : FuncData} {k : Nat} (F : Fun K "is_letter" "is_letter" s_is_letter f fd) (m_isinstance : mg "isinstance" = none) (m_str : mg "str" = none) (m_len : mg "len" = none)
    {t : Tok} (g_LETTERS : mg "LETTERS" = some (.str "abcdefgh" t)) :
    FnOk P w K mg base CX0 (k + 1) f fd ["value"] (spIsLetter K) := by
  refine F.ok sc_is_letter (fun vs H Q E h => ?_) (fun cdv A outer s H vs Q E hr h => ?_)
  · obtain ⟨v, d, rfl, _⟩ := h
    rfl
  · obtain ⟨v, d, rfl, hd, hg, q⟩ := h
    refine ⟨_, (pss_one (ps_ret (pe_and (pe_isD (T := "str") (by rfl) m_isinstance (by rfl) m_str (pv 0)) (pe_and (pe_cmpR op_eq (pe_callB call_len_str (by rfl) m_len (by decide +kernel) (pa_cons (pv 0) pa_nil)) pe_int (nomark _)) (pe_one (pe_cmpR op_in_str (pv 0) (pe_glob (v := .str "abcdefgh") (by rfl) g_LETTERS (⟨_, rfl⟩)) (by rfl))))))), ?_⟩
    refine ⟨_, rfl, _, _, d, rfl, by decide, hd, _, rfl, ?_⟩
    cases d with
    | str z =>
      cases hd
      refine iteT ⟨_, rfl, z, rfl, len_ok hg, rfl, _, rfl, ?_⟩
      have e : isLd (.str z) = isL z := rfl
      rw [e] at q
      unfold isL at q
      refine ite2 (fun c => ?_) (fun c => ?_)
      · refine ⟨_, rfl, z, _, rfl, rfl, ?_⟩
        rw [c, Bool.true_and] at q
        exact q
      · rw [Bool.eq_false_iff.mpr c, Bool.false_and] at q
        exact q
    | _ => exact iteF q
theorem ok_is_compound {f : Addr} {fd : FuncData} {k : Nat} (F : Fun K "is_compound" "is_compound" s_is_compound f fd) (m_isinstance : mg "isinstance" = none) (m_tuple : mg "tuple" = none) (m_len : mg "len" = none)
    {oA : Addr} (g_OPERATORS : mg "OPERATORS" = some (.ref oA)) (hO : ∀ H, SqT K H oA [.str "&", .str "|"]) :
    FnOk P w K mg base CX0 (k + 1) f fd ["value"] (spIsCompound K) := by
  refine F.ok sc_is_compound (fun vs H Q E h => ?_) (fun cdv A outer s H vs Q E hr h => ?_)
  · obtain ⟨v, d, rfl, _⟩ := h
    rfl
  · obtain ⟨v, d, rfl, hd, hg, q⟩ := h
    refine ⟨_, (pss_one (ps_ret (pe_and (pe_isD (T := "tuple") (by rfl) m_isinstance (by rfl) m_tuple (pv 0)) (pe_and (pe_cmpR op_ge (pe_callB call_len_seq (by rfl) m_len (by decide +kernel) (pa_cons (pv 0) pa_nil)) pe_int (nomark _)) (pe_one (pe_cmpR (op_inT (hu65 hr)) (pe_ix ix_tup (pv 0) pe_int (fun _ _ => rfl)) (pe_glob (v := .ref oA) (by rfl) g_OPERATORS (rfl)) (by rfl))))))), ?_⟩
    refine ⟨_, rfl, _, _, d, rfl, by decide, hd, _, rfl, ?_⟩
    cases d with
    | tuple ds =>
      cases hd with
      | @tup a xs _ hs ha =>
        refine iteT ⟨_, rfl, a, xs, rfl, .inr hs, _, _, rfl, rfl, _, rfl, ?_⟩
        have hl := dpAll_len ha
        cases ds with
        | nil =>
          rw [hl]
          exact iteF q
        | cons o ds =>
          cases ha with
          | @cons x0 xr _ _ h1 h2 =>
            have hl' := dpAll_len h2
            have e : isCd (.tuple (o :: ds)) = (decide (2 ≤ ds.length) && isOp o) := rfl
            rw [e] at q
            refine ite2 (fun c => ?_) (fun c => ?_)
            · have c' : (3 : Int) ≤ (((x0 :: xr).length : Nat) : Int) := of_decide_eq_true c
              rw [List.length_cons] at c'
              refine ⟨_, rfl, a, _, _, x0, rfl, rfl, hs, at0, o, [.str "&", .str "|"], h1, .tup (hO _) (.cons (.str _) (.cons (.str _) .nil)), gd_shaped (gd_parts hg).1 (by decide), by decide +kernel, ?_⟩
              rw [decide_eq_true (by omega), Bool.true_and] at q
              exact q
            · have c' : ¬ (3 : Int) ≤ (((x0 :: xr).length : Nat) : Int) := of_decide_eq_false (Bool.eq_false_iff.mpr c)
              rw [List.length_cons] at c'
              rw [decide_eq_false (by omega), Bool.false_and] at q
              exact q
    | _ => exact iteF q
theorem ok_measured {f : Addr} {fd : FuncData} {k n : Nat} (F : Fun K "measured" "measured" s_measured f fd) (m_max : mg "max" = none) (hk : 1 ≤ k)
    (C_is_letter : Own P w K mg base 1 "is_letter" ["value"] (spIsLetter K)) (C_is_compound : Own P w K mg base 1 "is_compound" ["value"] (spIsCompound K))
    (C_measured : Own P w K mg base k "measured" ["value", "max_depth", "max_size"] (spMeas K n)) :
    FnOk P w K mg base CX0 (k + 1) f fd ["value", "max_depth", "max_size"] (spMeas K (n + 1)) := by
  refine F.ok sc_measured (fun vs H Q E h => ?_) (fun cdv A outer s H vs Q E hr h => ?_)
  · obtain ⟨v, d, md, ms, rfl, _⟩ := h
    rfl
  · obtain ⟨v, d, md, ms, rfl, hd, hg, m0, m1, q1, q2⟩ := h
    refine ⟨_, (pss_cons (ps_if (PW.pt (pw_or (pt_cmpR op_lt (pv 1) pe_int (nomark _)) (pw_or1 (pt_cmpR op_lt (pv 2) pe_int (nomark _)))))
        (pss_one (ps_ret pe_non))
        pss_nil)
      (pss_cons (ps_if (pt_val (pe_own C_is_letter (hr.mono (by omega)) (by rfl) (pa_cons (pv 0) pa_nil)))
        (pss_one (ps_ret (pe_tup (pa_cons pe_int (pa_cons pe_int pa_nil)))))
        pss_nil)
      (pss_cons (ps_if (pt_not (pt_val (pe_own C_is_compound (hr.mono (by omega)) (by rfl) (pa_cons (pv 0) pa_nil))))
        (pss_one (ps_ret pe_non))
        pss_nil)
      (pss_cons (ps_set (i := 3) sc_measured.nd rfl (by first | exact .inl rfl | exact .inr rfl) pe_int)
      (pss_cons (ps_set (i := 4) sc_measured.nd rfl (by first | exact .inl rfl | exact .inr rfl) pe_int)
      (pss_cons (ps_for PassesOwn.never rfl (pi_tup (pe_slice sl_tup (pv 0) (po_some pe_int) po_none)) (pg_name (i := 5) sc_measured.nd rfl (by first | exact .inl rfl | exact .inr rfl))
        (pss_cons (ps_set (i := 6) sc_measured.nd rfl (by first | exact .inl rfl | exact .inr rfl) (pe_own C_measured (hr.mono (by omega)) (by rfl) (pa_cons (pv 5) (pa_cons (pe_op op_sub (pv 1) pe_int) (pa_cons (pe_op op_sub (pv 2) (pv 4)) pa_nil)))))
        (pss_cons (ps_if (pt_cmpR op_isN (pv 6) pe_non (nomark _))
          (pss_one (ps_ret pe_non))
          pss_nil)
        (pss_cons (ps_set (i := 3) sc_measured.nd rfl (by first | exact .inl rfl | exact .inr rfl) (pe_callB (call_max2 rfl) (by rfl) m_max (by decide +kernel) (pa_cons (pv 3) (pa_cons (pe_ix ix_tup (pv 6) pe_int (fun _ _ => rfl)) pa_nil))))
        (pss_one (ps_set (i := 4) sc_measured.nd rfl (by first | exact .inl rfl | exact .inr rfl) (pe_op op_add (pv 4) (pe_ix ix_tup (pv 6) pe_int (fun _ _ => rfl)))))))))
      (pss_one (ps_ret (pe_tup (pa_cons (pe_op op_add (pv 3) pe_int) (pa_cons (pv 4) pa_nil))))))))))), ?_⟩
    refine ⟨_, rfl, _, _, rfl, rfl, _, rfl, ?_⟩
    have fin0 : ¬ 1 ≤ md ∨ ms < 1 → Q .non H := fun c => by
      refine q1 ?_ H (Same.refl H)
      rcases c with c | c
      · rw [show md.toNat = 0 by omega]; rfl
      · cases md.toNat with
        | zero => rfl
        | succ m => unfold meas; rw [if_pos c]
    refine ite2 (fun c => iteT (fin0 (.inl (by have := of_decide_eq_true c; omega)))) (fun c => ?_)
    have c1 : ¬ md < 1 := of_decide_eq_false (Bool.eq_false_iff.mpr c)
    refine ⟨_, rfl, _, _, rfl, rfl, _, rfl, ?_⟩
    refine ite2 (fun c => fin0 (.inr (of_decide_eq_true c))) (fun c => ?_)
    have c2 : ¬ ms < 1 := of_decide_eq_false (Bool.eq_false_iff.mpr c)
    obtain ⟨m, em⟩ : ∃ m, md.toNat = m + 1 := ⟨md.toNat - 1, by omega⟩
    have em' : (md - 1).toNat = m := by omega
    rw [em] at q1 q2
    unfold meas at q1 q2
    rw [if_neg c2] at q1 q2
    refine ⟨_, rfl, v, d, rfl, hd, hg, _, rfl, ?_⟩
    refine ite2 (fun c => ?_) (fun c => ?_)
    · refine ⟨(by show 2 ≤ sizeLine; decide), fun p np => ?_⟩
      rw [if_pos c] at q2
      exact q2 1 1 rfl _ p (same_upd np) upd_same
    · rw [if_neg c] at q1 q2
      refine ⟨_, rfl, v, d, rfl, hd, hg, _, rfl, ?_⟩
      cases hc : isCd d with
      | false =>
        rw [if_neg (by rw [hc]; decide)] at q1
        exact iteT (q1 rfl H (Same.refl H))
      | true =>
        rw [if_pos hc] at q1 q2
        refine iteF ?_
        cases d with
        | tuple ds =>
          cases ds with
          | nil => cases hc
          | cons o ds =>
            cases hd with
            | @tup a xs _ hs ha =>
              cases ha with
              | @cons x0 xr _ _ h1 h2 =>
                have hl := dpAll_len h2
                have h2l : 2 ≤ ds.length := by
                  have e : isCd (.tuple (o :: ds)) = (decide (2 ≤ ds.length) && isOp o) := rfl
                  rw [e, Bool.and_eq_true] at hc
                  exact of_decide_eq_true hc.1
                have ep : parts (.tuple (o :: ds)) = ds := rfl
                rw [ep] at q1 q2
                have gp := (gd_parts hg).2
                refine ⟨_, rfl, 1, rfl, a, x0 :: xr, rfl, hs, ?_, fun p np => ?_⟩
                · rw [show HT.sIx (x0 :: xr).length 0 (some 1) = min 1 (x0 :: xr).length from HT.sIx_nat _ 0 1, List.length_cons]
                  omega
                have ec : cutV (x0 :: xr) (some 1) none = xr := by rw [cut_drop1]; rfl
                rw [ec]
                have s0 : Same H (upd H p (.tup xr)) := same_upd np
                refine ⟨p, rfl, ⟨_, SqT.of upd_same⟩, for_tup (xs := xr) (fun i σ H1 => ∃ (dp tot : Int) (y5 y6 : Option V), σ = [some (.ref a), some (.int md), some (.int ms), some (.int dp), some (.int tot), y5, y6] ∧
                  Same (upd H p (.tup xr)) H1 ∧ measL (meas m) (ds.drop i) ms dp tot = measL (meas m) ds ms 0 0) ?_ ?_ ?_ ?_⟩
                · exact ⟨0, 0, none, none, rfl, Same.refl _, rfl⟩
                · rintro i σ H1 hi ⟨dp, tot, y5, y6, rfl, sm, e⟩
                  exact SqT.of (sm _ _ upd_same)
                · rintro i x σ H1 hx ⟨dp, tot, y5, y6, rfl, sm, e⟩
                  obtain ⟨d', hd', hD'⟩ := dpAll_get h2 hx
                  have hDs : Dp K H1 x d' := dp_same (s0.trans sm) d' x hD'
                  rw [drop_cons_get hd'] at e
                  refine ⟨_, rfl, _, rfl, _, _, rfl, rfl, _, rfl, _, rfl, _, _, rfl, rfl, x, d', md - 1, ms - tot, rfl, hDs, gd_le (gp d' (List.mem_of_getElem? hd')) (by decide), by omega, by omega, fun en H2 s2 => ?_, fun dp' sz es H2 p2 s2 hp2 => ?_⟩
                  · refine ⟨_, rfl, rfl, _, rfl, iteT ?_⟩
                    refine q1 ?_ H2 (s0.trans (sm.trans s2))
                    rw [em'] at en
                    rw [← e]
                    simp only [measL, en]
                  · refine ⟨_, rfl, rfl, _, rfl, iteF ?_⟩
                    refine ⟨_, rfl, _, rfl, p2, _, _, _, rfl, rfl, SqT.of hp2, rfl, _, _, rfl, ?_⟩
                    refine ⟨_, rfl, _, rfl, p2, _, _, _, rfl, rfl, SqT.of hp2, rfl, _, _, rfl, rfl, ?_⟩
                    refine ⟨_, _, _, _, rfl, sm.trans s2, ?_⟩
                    rw [← e, em'] at *
                    simp only [measL, es]
                · rintro σ H1 ⟨dp, tot, y5, y6, rfl, sm, e⟩
                  refine ⟨_, rfl, _, _, rfl, rfl, _, rfl, (by show 2 ≤ sizeLine; decide), fun p3 np3 => ?_⟩
                  refine q2 (dp + 1) tot ?_ _ p3 (s0.trans (sm.trans (same_upd np3))) upd_same
                  rw [← e, List.drop_eq_nil_of_le (by omega)]
                  rfl
        | _ => cases hc
theorem meas_zero {f : Addr} {fd : FuncData} {k : Nat} : FnOk P w K mg base CX0 k f fd ["value", "max_depth", "max_size"] (spMeas K 0) := by
  have no : ∀ vs H Q E, ¬ spMeas K 0 vs H Q E := fun vs H Q E h => by
    obtain ⟨v, d, md, ms, _, _, _, m0, m1, _⟩ := h
    omega
  exact ⟨fun vs H Q E h => absurd h (no vs H Q E), fun A outer s H args us vs Q E _ _ _ _ h => absurd h (no vs H Q E)⟩
end
end Fv


namespace Fv
open PySem PySem.Spec PyProof.Rows L2
-- top 33  slots: 0:_law_found 1:_law_due 2:_law_key 3:_law_one 4:_law_mother
abbrev s_law_same : Stmt := topS 33
abbrev N_law_same : List Str := ["_law_found", "_law_due", "_law_key", "_law_one", "_law_mother"]
theorem sc_law_same : FnScope N_law_same ["_law_found", "_law_due"] (defScope s_law_same) := ⟨rfl, rfl, rfl, by decide +kernel, rfl, by decide +kernel, by decide +kernel⟩



theorem walk_zipT {K : PySem.W.Frag} {a b : Addr} {xs ys : List V} {n : Nat} (hn : n = min xs.length ys.length) : Walk (RZ.ItzT K a b) n (fun H => SqT K H a xs ∧ SqT K H b ys) (YPair (fun i => xs[i]?) (fun i => ys[i]?)) := by
  subst hn
  refine ⟨fun i _ hi q => ?_, fun _ q => ⟨xs, ys, q.1, q.2, by omega⟩, fun i H v H' _ q y => ?_⟩
  · have h1 : i < xs.length := by omega
    have h2 : i < ys.length := by omega
    exact ⟨xs, ys, xs[i], ys[i], q.1, q.2, by simp [h1], by simp [h2]⟩
  · obtain ⟨T, x, z, h1, h2, h3, h4, h5⟩ := y
    exact ⟨T, x, z, h1, h2, h3, h4 xs q.1, h5 ys q.2⟩
def spSame (K : PySem.W.Frag) (n : Nat) : Sp := fun vs H Q _ => ∃ (v v' : V) (d : PyData) (m : Nat), vs = [v, v'] ∧ Dp K H v d ∧ Dp K H v' d ∧ m < n ∧ gd m d = true ∧ ∀ H', Same H H' → Q (.bl true) H'
theorem in_ints (ns : List Int) : inV (.int 0) (ns.map V.int) = decide ((0 : Int) ∈ ns) := by
  unfold inV
  induction ns with
  | nil => rfl
  | cons n ns ih =>
    rw [List.map_cons, List.any_cons, ih]
    show ((n == 0) || decide ((0 : Int) ∈ ns)) = decide ((0 : Int) ∈ n :: ns)
    by_cases e : n = 0
    · subst e; simp
    · have e1 : (n == 0) = false := beq_eq_false_iff_ne.mpr e
      rw [e1, Bool.false_or]
      simp [List.mem_cons, show ¬ (0 : Int) = n from fun z => e z.symm]
theorem flat_ints (ns : List Int) : (ns.map V.int).all flatV = true := by
  rw [List.all_map]
  exact List.all_eq_true.mpr fun _ _ => rfl
section
variable {P : Program} {w : World} {K : PySem.W.Frag} {mg : Str → Option Value} {base : Heap}
end
end Fv


namespace FvO
open PySem PySem.Spec PyProof.Rows L2 Fv FvW FvX
theorem BAt.ext {K : PySem.W.Frag} {C : Addr} {H H' : Hp} {c : Addr} {L : BL} {n : Nat} {b : Nat → Nat → Bool} {lo hi : Nat → Nat → Nat} (h : BAt K C H c L n b lo hi) (e : LamX.ExtN H H') : BAt K C H' c L n b lo hi :=
  ⟨h.ob.imp fun dx e1 => e _ _ e1 (fun ps z => by cases z), e _ _ h.ln (fun ps z => by cases z), e _ _ h.ab (fun ps z => by cases z), e _ _ h.be (fun ps z => by cases z), dp_ext e _ _ h.lo, dp_ext e _ _ h.hi⟩
/-- what stays through the law -/
structure Wk (K : PySem.W.Frag) (C : Addr) (a Ls : Addr) (ns : List Int) (r c lo up : Addr) (L : BL) (ms : List Nat) (Pt : Addr) (H : Hp) : Prop where
  src : Src H a Ls ns
  rw_ : hide [a] H r = some (.lst ((rowsOf ms).map V.str))
  bd : BAt K C (hide [a] H) c L ms.length (leI ms) (lowI ms) (upI ms)
  lo : Dp K (hide [a] H) (.ref lo) (tabD ms.length (lowI ms))
  up : Dp K (hide [a] H) (.ref up) (tabD ms.length (upI ms))
  tb : LamX.Tabs (TT0 Pt) H
section
variable {K : PySem.W.Frag} {C a Ls r c lo up Pt : Addr} {ns : List Int} {L : BL} {ms : List Nat} {H H' : Hp}
theorem Wk.smx (h : Wk K C a Ls ns r c lo up L ms Pt H) (s : SmX [a] H H') (hs : Src H' a Ls ns) : Wk K C a Ls ns r c lo up L ms Pt H' :=
  ⟨hs, s.hid _ _ h.rw_, h.bd.same s.hid, dp_same s.hid _ _ h.lo, dp_same s.hid _ _ h.up, tabs_smx h.tb s h.src.lst⟩
theorem Wk.same (h : Wk K C a Ls ns r c lo up L ms Pt H) (s : Same H H') : Wk K C a Ls ns r c lo up L ms Pt H' := h.smx (SmX.of_same s) (h.src.same s)
theorem Wk.ext (h : Wk K C a Ls ns r c lo up L ms Pt H) (e : LamX.ExtN H H') (t : LamX.Tabs (TT0 Pt) H') : Wk K C a Ls ns r c lo up L ms Pt H' :=
  ⟨h.src.ext e, ext_hide e _ _ h.rw_ (fun ps z => by cases z), h.bd.ext (ext_hide e), dp_ext (ext_hide e) _ _ h.lo, dp_ext (ext_hide e) _ _ h.up, t⟩
theorem Wk.b (h : Wk K C a Ls ns r c lo up L ms Pt H) : BAt K C H c L ms.length (leI ms) (lowI ms) (upI ms) := h.bd.same hide_same
theorem Wk.ix (h : Wk K C a Ls ns r c lo up L ms Pt H) {x y : Nat} (hx : x < ms.length) (hy : y < ms.length) : ∃ xs ys b, SqL K H lo xs ∧ atI xs ((x : Nat) : Int) = some (.ref b) ∧ SqL K H b ys ∧ atI ys ((y : Nat) : Int) = some (.int (lowI ms x y : Nat)) := by
  obtain ⟨xs, b, h1, _, h2, h3⟩ := tab_ix' (dp_same hide_same _ _ h.lo) hx
  obtain ⟨ys, h4, h5⟩ := row_ixO h3 hy
  exact ⟨xs, ys, b, h1, h2, h4, h5⟩
theorem Wk.iu (h : Wk K C a Ls ns r c lo up L ms Pt H) {x y : Nat} (hx : x < ms.length) (hy : y < ms.length) : ∃ xs ys b, SqL K H up xs ∧ atI xs ((x : Nat) : Int) = some (.ref b) ∧ SqL K H b ys ∧ atI ys ((y : Nat) : Int) = some (.int (upI ms x y : Nat)) := by
  obtain ⟨xs, b, h1, _, h2, h3⟩ := tab_ix' (dp_same hide_same _ _ h.up) hx
  obtain ⟨ys, h4, h5⟩ := row_ixO h3 hy
  exact ⟨xs, ys, b, h1, h2, h4, h5⟩
end

theorem Brd.lo_uniq {n : Nat} {b : Nat → Nat → Bool} {lo hi : Nat → Nat → Nat} {bt tp : Nat} (B : Brd n b lo hi bt tp) {u v : Nat} (hu : u < n) (hv : v < n) (e : ∀ z, z < n → b z u = b z v) : u = v :=
  B.an u v hu hv (by rw [← e u hu]; exact B.rf u hu) (by rw [e v hv]; exact B.rf v hv)
theorem Brd.hi_uniq {n : Nat} {b : Nat → Nat → Bool} {lo hi : Nat → Nat → Nat} {bt tp : Nat} (B : Brd n b lo hi bt tp) {u v : Nat} (hu : u < n) (hv : v < n) (e : ∀ z, z < n → b u z = b v z) : u = v :=
  B.an u v hu hv (by rw [e v hv]; exact B.rf v hv) (by rw [← e u hu]; exact B.rf u hu)
theorem Brd.lo_top {n : Nat} {b : Nat → Nat → Bool} {lo hi : Nat → Nat → Nat} {bt tp : Nat} (B : Brd n b lo hi bt tp) {x : Nat} (hx : x < n) : lo tp x = x := by
  have h := B.lo tp x B.tp.1 hx
  exact B.lo_uniq h.1 hx fun z hz => by rw [h.2 z hz, B.tp.2 z hz, Bool.true_and]
theorem Brd.hi_bot {n : Nat} {b : Nat → Nat → Bool} {lo hi : Nat → Nat → Nat} {bt tp : Nat} (B : Brd n b lo hi bt tp) {x : Nat} (hx : x < n) : hi bt x = x := by
  have h := B.hi bt x B.bt.1 hx
  exact B.hi_uniq h.1 hx fun z hz => by rw [h.2 z hz, B.bt.2 z hz, Bool.true_and]
theorem bad1_nats {n : Nat} {xs : List Nat} (h : ∀ x ∈ xs, x < n) : bad1 n (xs.map fun x => ((x : Nat) : Int)) = none := by
  unfold bad1
  rw [List.find?_eq_none]
  intro i hi
  obtain ⟨x, hx, rfl⟩ := List.mem_map.mp hi
  have := h x hx
  unfold plOk
  simp; omega
theorem nat_big {x : Nat} (h : x < 60) : ((x : Nat) : Int).natAbs < 2 ^ 200 := by
  rw [Int.natAbs_natCast]
  exact Nat.lt_of_lt_of_le h (by decide)
theorem plOk_of {n x : Nat} (h : x < n) : plOk n ((x : Nat) : Int) = true := by
  unfold plOk
  rw [Bool.and_eq_true, decide_eq_true_iff, decide_eq_true_iff]
  omega
theorem bad1_head {n : Nat} {i : Int} {r : List Int} (h : plOk n i = false) : bad1 n (i :: r) = some i := by
  unfold bad1
  rw [List.find?_cons, h]
  rfl
theorem bad1_next {n : Nat} {x : Nat} {r : List Int} (h : x < n) : bad1 n (((x : Nat) : Int) :: r) = bad1 n r := by
  unfold bad1
  rw [List.find?_cons, plOk_of h]
  rfl
theorem cast_inj {xs ys : List Nat} (h : (xs.map fun x => ((x : Nat) : Int)) = ys.map fun x => ((x : Nat) : Int)) : xs = ys := by
  induction xs generalizing ys with
  | nil => cases ys with
    | nil => rfl
    | cons => cases h
  | cons x xs ih => cases ys with
    | nil => cases h
    | cons y ys =>
      rw [List.map_cons, List.map_cons] at h
      injection h with h1 h2
      rw [ih h2, Int.ofNat.inj h1]
/-- these promises as they stand, not unfolded -/
@[irreducible] def spFoldI (K : PySem.W.Frag) (C CP : Addr) (up : Bool) : Sp := spFold K C CP up
theorem spFoldI_eq {K : PySem.W.Frag} {C CP : Addr} {up : Bool} : spFoldI K C CP up = spFold K C CP up := by unfold spFoldI; rfl
@[irreducible] def spBelI (K : PySem.W.Frag) (C CP : Addr) : Sp := spBel K C CP
theorem spBelI_eq {K : PySem.W.Frag} {C CP : Addr} : spBelI K C CP = spBel K C CP := by unfold spBelI; rfl
@[irreducible] def spSameI (K : PySem.W.Frag) (n : Nat) : Sp := spSame K n
theorem spSameI_eq {K : PySem.W.Frag} {n : Nat} : spSameI K n = spSame K n := by unfold spSameI; rfl
theorem same_l {K : PySem.W.Frag} {H : Hp} {p q : Addr} {vs vs' : List V} {ds : List PyData} {Q : VK} {E : XK} (h1 : H p = some (.lst vs)) (h2 : H q = some (.lst vs')) (d1 : DpAll K H vs ds) (d2 : DpAll K H vs' ds) (g : ∀ d ∈ ds, gd 2 d = true) (l : ds.length ≤ 1000) (k : ∀ H', Same H H' → Q (.bl true) H') : spSameI K 25 [.ref p, .ref q] H Q E := by
  rw [spSameI_eq]
  exact ⟨.ref p, .ref q, .list ds, 3, rfl, .lst (SqL.of h1) d1, .lst (SqL.of h2) d2, by decide, gd_lst (n := 2) g l, k⟩
section
variable {K : PySem.W.Frag} {C CP a Ls r c lo up Pt : Addr} {ns : List Int} {L : BL} {ms : List Nat} {H : Hp} {bt tp : Nat} {Q : VK} {E : XK}
theorem Wk.fold {u : Bool} {vs : List V} {xs : List Nat} {val : Nat} (W : Wk K C a Ls ns r c lo up L ms Pt H) (B : Brd ms.length (leI ms) (lowI ms) (upI ms) bt tp) (e1 : L.bt = bt) (e2 : L.tp = tp) (hv : vs = .ref c :: xs.map fun x => V.int ((x : Nat) : Int)) (hl : xs.length ≤ 100) (hx : ∀ x ∈ xs, x < ms.length)
    (hval : xs.foldl (if u then upI ms else lowI ms) (if u then bt else tp) = val) (q : ∀ H', Same H H' → Q (.int (val : Nat)) H') : spFoldI K C CP u vs H Q E := by
  rw [spFoldI_eq]
  have n60 := B.n60
  refine ⟨c, xs.map fun x => ((x : Nat) : Int), L, ms.length, leI ms, lowI ms, upI ms, bt, tp, by rw [hv, List.map_map]; rfl, W.b, B, e1, e2, by rw [List.length_map]; exact hl, fun i hi => ?_, fun ys hy _ => ?_, fun e he => ?_⟩
  · obtain ⟨x, h, rfl⟩ := List.mem_map.mp hi
    exact nat_big (Nat.lt_of_lt_of_le (hx x h) n60)
  · rw [← cast_inj hy, hval]
    exact q
  · rw [bad1_nats hx] at he; cases he
theorem Wk.low {vs : List V} {xs : List Nat} {val : Nat} (W : Wk K C a Ls ns r c lo up L ms Pt H) (B : Brd ms.length (leI ms) (lowI ms) (upI ms) bt tp) (e1 : L.bt = bt) (e2 : L.tp = tp) (hv : vs = .ref c :: xs.map fun x => V.int ((x : Nat) : Int)) (hl : xs.length ≤ 100) (hx : ∀ x ∈ xs, x < ms.length)
    (hval : xs.foldl (lowI ms) tp = val) (q : ∀ H', Same H H' → Q (.int (val : Nat)) H') : spFoldI K C CP false vs H Q E := W.fold B e1 e2 hv hl hx hval q
theorem Wk.upp {vs : List V} {xs : List Nat} {val : Nat} (W : Wk K C a Ls ns r c lo up L ms Pt H) (B : Brd ms.length (leI ms) (lowI ms) (upI ms) bt tp) (e1 : L.bt = bt) (e2 : L.tp = tp) (hv : vs = .ref c :: xs.map fun x => V.int ((x : Nat) : Int)) (hl : xs.length ≤ 100) (hx : ∀ x ∈ xs, x < ms.length)
    (hval : xs.foldl (upI ms) bt = val) (q : ∀ H', Same H H' → Q (.int (val : Nat)) H') : spFoldI K C CP true vs H Q E := W.fold B e1 e2 hv hl hx hval q
/-- a place that is none -/
theorem Wk.foldBad {u : Bool} {vs : List V} {is : List Int} {e : Int} (W : Wk K C a Ls ns r c lo up L ms Pt H) (B : Brd ms.length (leI ms) (lowI ms) (upI ms) bt tp) (e1 : L.bt = bt) (e2 : L.tp = tp) (hv : vs = .ref c :: is.map V.int) (hl : is.length ≤ 100) (hb : ∀ i ∈ is, i.natAbs < 2 ^ 200)
    (he : bad1 ms.length is = some e) (q : errF CP "InvalidPlace" "place" (.int e) H E) : spFoldI K C CP u vs H Q E := by
  rw [spFoldI_eq]
  refine ⟨c, is, L, ms.length, leI ms, lowI ms, upI ms, bt, tp, hv, W.b, B, e1, e2, hl, hb, fun ys hy hl => ?_, fun e' h => ?_⟩
  · rw [hy, bad1_nats hl] at he; cases he
  · rw [he] at h; cases h; exact q
theorem Wk.bel {vs : List V} {x y : Nat} (W : Wk K C a Ls ns r c lo up L ms Pt H) (n60 : ms.length ≤ 60) (hv : vs = [.ref c, .int (x : Nat), .int (y : Nat)]) (hx : x < ms.length) (hy : y < ms.length) (q : ∀ H', Same H H' → Q (.bl (leI ms x y)) H') : spBelI K C CP vs H Q E := by
  rw [spBelI_eq]
  refine ⟨c, x, y, L, ms.length, leI ms, lowI ms, upI ms, hv, W.b, n60, nat_big (by omega), nat_big (by omega), fun x' y' h1 h2 _ _ => ?_, fun e he => ?_⟩
  · have h1 : x = x' := Int.ofNat.inj h1
    have h2 : y = y' := Int.ofNat.inj h2
    subst h1 h2
    exact q
  · have := bad1_nats (n := ms.length) (xs := [x, y]) (by simp [hx, hy])
    rw [show ([(x : Int), (y : Int)] : List Int) = [x, y].map fun x => ((x : Nat) : Int) from rfl, this] at he
    cases he
theorem Wk.belBad {vs : List V} {i j e : Int} (W : Wk K C a Ls ns r c lo up L ms Pt H) (n60 : ms.length ≤ 60) (hv : vs = [.ref c, .int i, .int j]) (hi : i.natAbs < 2 ^ 200) (hj : j.natAbs < 2 ^ 200) (he : bad1 ms.length [i, j] = some e) (q : errF CP "InvalidPlace" "place" (.int e) H E) : spBelI K C CP vs H Q E := by
  rw [spBelI_eq]
  refine ⟨c, i, j, L, ms.length, leI ms, lowI ms, upI ms, hv, W.b, n60, hi, hj, fun x y h1 h2 hx hy => ?_, fun e' h => ?_⟩
  · subst h1 h2
    have := bad1_nats (n := ms.length) (xs := [x, y]) (by simp [hx, hy])
    rw [show ([(x : Int), (y : Int)] : List Int) = [x, y].map fun x => ((x : Nat) : Int) from rfl, this] at he
    cases he
  · rw [he] at h; cases h; exact q
end
theorem below_k {K : PySem.W.Frag} {f : Addr} {fd : FuncData} (F : Fun K "is_below" "Board.is_below" s_is_below__of__Board f fd) : ∃ g, KBn K fd ["self", "one", "other"] 1 ["one", "other"] g (fun xs zs => xs ++ zs) := by
  obtain ⟨oc, od, kV, doc, pm, an, cdv, ct, osl, rfl, lk, hcd⟩ := F.ex
  refine ⟨fun us ws => us ++ ws, ⟨fun s us ws X h1 h2 => BindsTo.of_eq ?_, fun r1 r2 => ?_⟩⟩
  · match us, ws, h1, h2 with
    | [a], [b, c], _, _ => rfl
  · induction r1 with
    | nil => exact r2
    | cons a r ih => exact .cons a ih
end FvO


set_option maxHeartbeats 2000000
namespace FvD
open PySem PySem.Spec PyProof.Rows L2
/-! ### a dict whose keys are data: letters and nested tuples side by side -/
/-- a key, the value that stands for it, what is stored -/
abbrev KE3 := NestedKey × Value × Value
def entD (w : World) (x : KE3) : DictEntry := ⟨x.1.hash w, x.2.1, x.2.2⟩
/-- how a search ends -/
structure Ans (xs : List KE3) (k : NestedKey) (Q : Option Nat → Shared → Prop) (s : Shared) : Prop where
  no : (∀ x ∈ xs, x.1 ≠ k) → Q none s
  yes : ∀ j x, xs[j]? = some x → x.1 = k → Q (some j) s
section
variable {prog : Program} {w : World} {A : Around} {E : Value → Shared → Prop} {s : Shared} {es : Array DictEntry} {xs : List KE3} {k : NestedKey} {u : Value}
theorem ent_at (he : es.toList = xs.map (entD w)) (j : Nat) : es[j]? = (xs[j]?).map (entD w) := by
  rw [← Array.getElem?_toList, he, List.getElem?_map]
theorem ent_size (he : es.toList = xs.map (entD w)) : es.size = xs.length := by
  rw [← Array.length_toList, he, List.length_map]
theorem key_once (hn : (xs.map (·.1)).Nodup) {i j : Nat} {x y : KE3} (hi : xs[i]? = some x) (hj : xs[j]? = some y) (e : x.1 = y.1) : i = j := by
  have a : (xs.map (·.1))[i]? = some x.1 := by rw [List.getElem?_map, hi]; rfl
  have b : (xs.map (·.1))[j]? = some x.1 := by rw [List.getElem?_map, hj, e]; rfl
  exact (List.getElem?_inj (List.getElem?_eq_some_iff.mp a).1 hn).mp (a.trans b.symm)
/-- the places with this hash -/
def plc (w : World) (es : Array DictEntry) (k : NestedKey) : List Nat := placesWithHash es.size (fun i => es[i]?.map (·.hash)) (k.hash w)
theorem plc_mem {j : Nat} : j ∈ plc w es k ↔ j < es.size ∧ ((es[j]?.map (·.hash)) == some (k.hash w)) = true := by
  unfold plc placesWithHash
  rw [List.mem_filter, List.mem_range]
theorem plc_nodup : (plc w es k).Nodup := by
  unfold plc placesWithHash
  exact List.Pairwise.filter _ List.nodup_range
/-- a key that is there stands at one of these places -/
theorem plc_has (he : es.toList = xs.map (entD w)) {j : Nat} {x : KE3} (hj : xs[j]? = some x) (e : x.1 = k) : j ∈ plc w es k := by
  refine plc_mem.mpr ⟨?_, ?_⟩
  · rw [ent_size he]; exact (List.getElem?_eq_some_iff.mp hj).1
  · rw [ent_at he j, hj, ← e]; simp [entD]
theorem none_there (he : es.toList = xs.map (entD w)) (h : ∀ j ∈ plc w es k, ∀ x, xs[j]? = some x → x.1 ≠ k) : ∀ x ∈ xs, x.1 ≠ k := fun x hx e => by
  obtain ⟨j, hj⟩ := List.mem_iff_getElem?.mp hx
  exact h j (plc_has he hj e) x hj e
end
section
variable {prog : Program} {w : World} {A : Around} {E : Value → Shared → Prop} {s : Shared} {d : Addr} {o : Obj} {es : Array DictEntry} {ep : Nat} {xs : List KE3} {k : NestedKey} {u : Value} {Q : Option Nat → Shared → Prop}
/-- the walk by value -/
theorem walk_plain (hu : A.units + 8 < cLine) (hk : NestedIs s.heap k u) (hkd : k.depth ≤ 8) (ho : s.heap.get? d = some o) (hd : o.data = .dict es ep) (he : es.toList = xs.map (entD w))
    (his : ∀ x ∈ xs, NestedIs s.heap x.1 x.2.1 ∧ x.1.depth ≤ 8) (q : Ans xs k Q s) : wpAny (model prog w) A (dictWalkPlain d u (k.hash w) es (plc w es k)) Q E s := by
  unfold dictWalkPlain
  refine wpAny_bind ?_
  refine wpAny_forIn_list _ (fun rest b s' => s' = s ∧ b = (none, ()) ∧ ∃ done, done ++ rest = plc w es k ∧ ∀ j ∈ done, ∀ x, xs[j]? = some x → x.1 ≠ k) _ ?_ ?_ _ _ ⟨rfl, rfl, [], rfl, fun _ h => nomatch h⟩
  · rintro j rest b s' ⟨rfl, rfl, done, hr, hno⟩
    have hm : j ∈ plc w es k := by rw [← hr]; exact List.mem_append_right _ List.mem_cons_self
    obtain ⟨hj, hp⟩ := plc_mem.mp hm
    obtain ⟨x, hx⟩ : ∃ x, xs[j]? = some x := ⟨xs[j]'(by rw [← ent_size he]; exact hj), List.getElem?_eq_getElem _⟩
    have ex : es[j]? = some (entD w x) := by rw [ent_at he j, hx]; rfl
    rw [ex] at hp ⊢
    dsimp only
    have hh : ((entD w x).hash == k.hash w) = true := by simpa using hp
    rw [if_pos hh]
    obtain ⟨n1, n2⟩ := his x (List.mem_of_getElem? hx)
    refine wpAny_bind (wpAny_dictEpoch ho hd (wpAny_bind (eqAt_key x.1 k A s' _ _ n1 hk (by omega) _ _ _ _ (wpAny_bind (wpAny_dictEpoch ho hd ?_)))))
    show wpAny _ _ (if (ep != ep) = true then _ else _) _ E _
    rw [if_neg (by simp), ← NestedKey.decide_eq]
    by_cases e : x.1 = k
    · rw [decide_eq_true e]
      first | rw [if_pos rfl] | skip
      exact wpAny_bind (wpAny_rule (wpAny_pure (wpAny_pure (q.yes j x hx e))))
    · rw [decide_eq_false e]
      first | rw [if_neg Bool.false_ne_true] | skip
      have nx : ∃ done', done' ++ rest = plc w es k ∧ ∀ i ∈ done', ∀ y, xs[i]? = some y → y.1 ≠ k := ⟨done ++ [j], by rw [← hr, List.append_assoc]; rfl, fun i hi y hy => by
        rcases List.mem_append.mp hi with z | z
        · exact hno i z y hy
        · rw [List.mem_singleton.mp z, hx] at hy
          cases hy
          exact e⟩
      first
        | exact wpAny_bind (wpAny_rule (wpAny_pure ⟨rfl, rfl, nx⟩))
        | exact wpAny_bind (wpAny_pure (wpAny_bind (wpAny_rule (wpAny_pure ⟨rfl, rfl, nx⟩))))
  · rintro b s' ⟨rfl, rfl, done, hr, hno⟩
    rw [List.append_nil] at hr
    exact wpAny_pure (q.no (none_there he fun j hj => hno j (by rw [hr]; exact hj)))
end

section
variable {prog : Program} {w : World} {A : Around} {E : Value → Shared → Prop} {s : Shared} {d : Addr} {o : Obj} {es : Array DictEntry} {ep : Nat} {xs : List KE3} {k : NestedKey} {u : Value} {Q : Option Nat → Shared → Prop}
/-- all keys are texts -/
theorem find_texts {x : Str} {t : Tok} (hu : A.units + 8 < cLine) (ho : s.heap.get? d = some o) (hd : o.data = .dict es ep) (he : es.toList = xs.map (entD w)) (hn : (xs.map (·.1)).Nodup)
    (his : ∀ y ∈ xs, NestedIs s.heap y.1 y.2.1 ∧ y.1.depth ≤ 8) (hall : (es.all fun e => isExactStrKey e.key) = true) (q : Ans xs (.text x) Q s) : wpAny (model prog w) A (foundByValue d (.str x t) es x) Q E s := by
  have isx : ∀ (j : Nat) (hj : j < es.size) (y : KE3), xs[j]? = some y → (es[j].key.isStr x = true ↔ y.1 = .text x) := fun j hj y hy => by
    have ex : es[j]? = some (entD w y) := by rw [ent_at he j, hy]; rfl
    have e2 : es[j] = entD w y := by
      rw [Array.getElem?_eq_getElem hj] at ex
      exact Option.some.inj ex
    have hs : isExactStrKey es[j].key = true := by
      rw [Array.all_eq_true] at hall
      exact hall j hj
    rw [e2] at hs ⊢
    obtain ⟨n1, _⟩ := his y (List.mem_of_getElem? hy)
    show y.2.1.isStr x = true ↔ _
    change isExactStrKey y.2.1 = true at hs
    cases hv : y.2.1 with
    | str z t' =>
      rw [hv] at n1
      have e3 : y.1 = .text z := NestedIs.inj _ _ _ n1 (.text z t')
      rw [e3]
      constructor
      · intro h
        have h' : z = x := by simpa [Value.isStr] using h
        rw [h']
      · intro h
        injection h with h
        rw [h]
        simp [Value.isStr]
    | _ => rw [hv] at hs; cases hs
  unfold foundByValue
  cases hf : es.findIdx? (fun e => e.key.isStr x) with
  | none =>
    refine wpAny_pure (q.no fun y hy e => ?_)
    obtain ⟨j, hj⟩ := List.mem_iff_getElem?.mp hy
    have hlt : j < es.size := by rw [ent_size he]; exact (List.getElem?_eq_some_iff.mp hj).1
    have z := Array.findIdx?_eq_none_iff.mp hf es[j] (Array.getElem_mem hlt)
    rw [(isx j hlt y hj).mpr e] at z
    cases z
  | some i =>
    obtain ⟨hlt, hi, _⟩ := Array.findIdx?_eq_some_iff_getElem.mp hf
    obtain ⟨y, hy⟩ : ∃ y, xs[i]? = some y := ⟨xs[i]'(by rw [← ent_size he]; exact hlt), List.getElem?_eq_getElem _⟩
    have e := (isx i hlt y hy).mp hi
    have ex : es[i]? = some (entD w y) := by rw [ent_at he i, hy]; rfl
    have n1 := (his y (List.mem_of_getElem? hy)).1
    simp only [ex]
    refine wpAny_bind (wpAny_dictEpoch ho hd (wpAny_bind (eqAt_key y.1 (.text x) A s _ _ n1 (.text x t) (by simp only [NestedKey.depth]; omega) _ _ _ _ (wpAny_bind (wpAny_dictEpoch ho hd ?_)))))
    show wpAny _ _ (if (ep != ep) = true then _ else _) _ E _
    rw [if_neg (by simp), ← NestedKey.decide_eq, decide_eq_true e]
    exact wpAny_bind (wpAny_rule (wpAny_pure (q.yes i y hy e)))
theorem may_tell {stored : List Value} {Q : Bool → Shared → Prop} (hk : NestedIs s.heap k u) (hkd : k.depth ≤ 8) (hst : ∀ v ∈ stored, ∃ k' : NestedKey, NestedIs s.heap k' v ∧ k'.depth ≤ 8) (h : Q false s) :
    wpAny (model prog w) A (tableMayTell u stored) Q E s := by
  unfold tableMayTell
  by_cases he : stored.isEmpty = true
  · rw [if_pos he]
    exact wpAny_pure h
  · rw [if_neg he]
    refine wpAny_bind (quiet_key k u 8 s hk hkd A E _ ?_)
    simp only [Bool.not_true, Bool.false_eq_true, if_false]
    refine wpAny_bind (wpAny_forIn_list _ (fun rest r s' => r = (none, ()) ∧ s' = s ∧ ∀ v ∈ rest, ∃ k' : NestedKey, NestedIs s.heap k' v ∧ k'.depth ≤ 8) _ ?_ ?_ _ _ ⟨rfl, rfl, hst⟩)
    · rintro x rest r s' ⟨rfl, rfl, hr⟩
      obtain ⟨k', n1, n2⟩ := hr x List.mem_cons_self
      refine wpAny_bind (quiet_key k' x 8 s' n1 n2 A E _ ?_)
      simp only [Bool.not_true, Bool.false_eq_true, if_false]
      exact wpAny_pure ⟨rfl, rfl, fun v hv => hr v (List.mem_cons_of_mem _ hv)⟩
    · rintro r s' ⟨rfl, rfl, _⟩
      exact wpAny_pure h
/-- the search -/
theorem nd_find (hu : A.units + 8 < cLine) (hk : NestedIs s.heap k u) (hkd : k.depth ≤ 8) (ho : s.heap.get? d = some o) (hd : o.data = .dict es ep) (he : es.toList = xs.map (entD w)) (hn : (xs.map (·.1)).Nodup)
    (his : ∀ x ∈ xs, NestedIs s.heap x.1 x.2.1 ∧ x.1.depth ≤ 8) (q : Ans xs k Q s) : wpAny (model prog w) A (dictFind d u (k.hash w)) Q E s := by
  have hst : ∀ v ∈ (plc w es k).filterMap (fun i => es[i]?.map (·.key)), ∃ k' : NestedKey, NestedIs s.heap k' v ∧ k'.depth ≤ 8 := fun v hv => by
    obtain ⟨i, _, hi⟩ := List.mem_filterMap.mp hv
    rw [ent_at he i] at hi
    cases hx : xs[i]? with
    | none => rw [hx] at hi; cases hi
    | some x =>
      rw [hx] at hi
      have e : x.2.1 = v := Option.some.inj hi
      rw [← e]
      exact ⟨x.1, his x (List.mem_of_getElem? hx)⟩
  have stale : ∀ a, u = .ref a → ¬ (es.any fun e => e.key == u && e.hash != k.hash w) = true := fun a ea h => by
    rw [← Array.any_toList, List.any_eq_true] at h
    obtain ⟨e, hin, hc⟩ := h
    rw [he] at hin
    obtain ⟨x, hx, rfl⟩ := List.mem_map.mp hin
    rw [Bool.and_eq_true] at hc
    obtain ⟨c1, c2⟩ := hc
    have e1 : x.2.1 = u := by simpa [entD] using c1
    have n1 := (his x hx).1
    rw [e1] at n1
    have e2 : x.1 = k := NestedIs.inj _ _ _ n1 hk
    rw [show (entD w x).hash = x.1.hash w from rfl, e2, bne_self_eq_false] at c2
    cases c2
  unfold dictFind
  try with_reducible refine wpAny_holding ?_
  refine wpAny_bind (wpAny_dictEntries ho hd ?_)
  dsimp only
  have fold : placesWithHash es.size (fun i => es[i]?.map (·.hash)) (k.hash w) = plc w es k := rfl
  rw [fold]
  have plain : ∀ {m : Sem (Option Nat)}, m = dictWalkPlain d u (k.hash w) es (plc w es k) → wpAny (model prog w) A m Q E s := fun {m} em => by
    rw [em]
    exact walk_plain hu hk hkd ho hd he his q
  split
  · rename_i x t
    have ek : k = .text x := NestedIs.inj _ _ _ hk (.text x t)
    by_cases hall : (es.all fun e => isExactStrKey e.key) = true
    · rw [if_pos hall]
      subst ek
      exact find_texts hu ho hd he hn his hall q
    · rw [if_neg hall]
      by_cases c : (((Value.str x t) :: (plc w es k).filterMap fun i => es[i]?.map (·.key)).all carriedByValue) = true
      · rw [if_pos c]; exact plain rfl
      · rw [if_neg c]
        dsimp only
        by_cases c2 : (((plc w es k).filterMap fun i => es[i]?.map (·.key)) == [Value.str x t]) = true <;> (first | rw [if_pos c2] | rw [if_neg c2]) <;> (first | refine wpAny_bind (wpAny_pure ?_) | refine wpAny_bind (may_tell hk hkd hst ?_)) <;> (
        rw [if_neg (by simp)]
        refine wpAny_bind ?_
        refine wpAny_forIn_list _ (fun rest b s' => s' = s ∧ ∃ hit done, b = (none, hit) ∧ done ++ rest = plc w es k ∧ ((hit = none ∧ ∀ j ∈ done, ∀ x, xs[j]? = some x → x.1 ≠ k) ∨ ∃ j x, hit = some j ∧ j ∈ done ∧ xs[j]? = some x ∧ x.1 = k)) _ ?_ ?_ _ _ ⟨rfl, none, [], rfl, rfl, .inl ⟨rfl, fun _ h => nomatch h⟩⟩
        · rintro j rest b s' ⟨rfl, hit, done, rfl, hr, hH⟩
          have hm : j ∈ plc w es k := by rw [← hr]; exact List.mem_append_right _ List.mem_cons_self
          obtain ⟨hj, hp⟩ := plc_mem.mp hm
          obtain ⟨x, hx⟩ : ∃ x, xs[j]? = some x := ⟨xs[j]'(by rw [← ent_size he]; exact hj), List.getElem?_eq_getElem _⟩
          have ex : es[j]? = some (entD w x) := by rw [ent_at he j, hx]; rfl
          rw [ex] at hp ⊢
          dsimp only
          have hh : ((entD w x).hash == k.hash w) = true := by simpa using hp
          rw [if_pos hh]
          obtain ⟨n1, n2⟩ := his x (List.mem_of_getElem? hx)
          have more : done ++ [j] ++ rest = plc w es k := by rw [← hr, List.append_assoc]; rfl
          refine wpAny_bind (wpAny_dictEpoch ho hd (wpAny_bind (eqAt_key x.1 k A s' _ _ n1 hk (by omega) _ _ _ _ (wpAny_bind (wpAny_dictEpoch ho hd ?_)))))
          show wpAny _ _ (if (ep != ep) = true then _ else _) _ E _
          rw [if_neg (by simp), ← NestedKey.decide_eq]
          by_cases e : x.1 = k
          · rw [decide_eq_true e]
            first | rw [if_pos rfl] | skip
            rcases hH with ⟨rfl, _⟩ | ⟨i, y, _, hi, hy, ey⟩
            · simp only [Option.isSome_none, Bool.false_eq_true, if_false]
              first | refine wpAny_bind (wpAny_pure ?_) | skip
              refine wpAny_bind (wpAny_rule ?_)
              split
              · exact wpAny_pure (wpAny_pure (q.yes j x hx e))
              · exact wpAny_pure ⟨rfl, some j, done ++ [j], rfl, more, .inr ⟨j, x, rfl, List.mem_append_right _ (List.mem_singleton.mpr rfl), hx, e⟩⟩
            · exfalso
              have ij : i = j := key_once hn hy hx (ey.trans e.symm)
              have nd : (done ++ j :: rest).Nodup := by rw [hr]; exact plc_nodup
              rw [List.nodup_append] at nd
              exact nd.2.2 i hi j List.mem_cons_self ij
          · rw [decide_eq_false e]
            simp only [Bool.false_eq_true, if_false]
            refine wpAny_bind (wpAny_rule ?_)
            have nx : (hit = none ∧ ∀ i ∈ done ++ [j], ∀ y, xs[i]? = some y → y.1 ≠ k) ∨ ∃ i y, hit = some i ∧ i ∈ done ++ [j] ∧ xs[i]? = some y ∧ y.1 = k := by
              rcases hH with ⟨h0, hno⟩ | ⟨i, y, h0, hi, hy⟩
              · refine .inl ⟨h0, fun i hi y hy => ?_⟩
                rcases List.mem_append.mp hi with z | z
                · exact hno i z y hy
                · rw [List.mem_singleton.mp z, hx] at hy
                  cases hy
                  exact e
              · exact .inr ⟨i, y, h0, List.mem_append_left _ hi, hy⟩
            first | rw [if_neg (by simp)] | skip
            first
              | exact wpAny_pure ⟨rfl, hit, done ++ [j], rfl, more, nx⟩
              | exact wpAny_bind (wpAny_pure (wpAny_pure ⟨rfl, hit, done ++ [j], rfl, more, nx⟩))
        · rintro b s' ⟨rfl, hit, done, rfl, hr, hH⟩
          rw [List.append_nil] at hr
          rcases hH with ⟨rfl, hno⟩ | ⟨j, x, rfl, _, hx, e⟩
          · exact wpAny_pure (q.no (none_there he fun j hj => hno j (by rw [hr]; exact hj)))
          · exact wpAny_pure (q.yes j x hx e))
  · by_cases c : ((u :: (plc w es k).filterMap fun i => es[i]?.map (·.key)).all carriedByValue) = true
    · rw [if_pos c]; exact plain rfl
    · rw [if_neg c]
      split
      · rename_i a _
        rw [if_neg (stale a rfl)]
        by_cases c2 : (((plc w es k).filterMap fun i => es[i]?.map (·.key)) == [Value.ref a]) = true <;> (first | rw [if_pos c2] | rw [if_neg c2]) <;> (first | refine wpAny_bind (wpAny_pure ?_) | refine wpAny_bind (may_tell hk hkd hst ?_)) <;> (
        rw [if_neg (by simp)]
        refine wpAny_bind ?_
        refine wpAny_forIn_list _ (fun rest b s' => s' = s ∧ ∃ hit done, b = (none, hit) ∧ done ++ rest = plc w es k ∧ ((hit = none ∧ ∀ j ∈ done, ∀ x, xs[j]? = some x → x.1 ≠ k) ∨ ∃ j x, hit = some j ∧ j ∈ done ∧ xs[j]? = some x ∧ x.1 = k)) _ ?_ ?_ _ _ ⟨rfl, none, [], rfl, rfl, .inl ⟨rfl, fun _ h => nomatch h⟩⟩
        · rintro j rest b s' ⟨rfl, hit, done, rfl, hr, hH⟩
          have hm : j ∈ plc w es k := by rw [← hr]; exact List.mem_append_right _ List.mem_cons_self
          obtain ⟨hj, hp⟩ := plc_mem.mp hm
          obtain ⟨x, hx⟩ : ∃ x, xs[j]? = some x := ⟨xs[j]'(by rw [← ent_size he]; exact hj), List.getElem?_eq_getElem _⟩
          have ex : es[j]? = some (entD w x) := by rw [ent_at he j, hx]; rfl
          rw [ex] at hp ⊢
          dsimp only
          have hh : ((entD w x).hash == k.hash w) = true := by simpa using hp
          rw [if_pos hh]
          obtain ⟨n1, n2⟩ := his x (List.mem_of_getElem? hx)
          have more : done ++ [j] ++ rest = plc w es k := by rw [← hr, List.append_assoc]; rfl
          refine wpAny_bind (wpAny_dictEpoch ho hd (wpAny_bind (eqAt_key x.1 k A s' _ _ n1 hk (by omega) _ _ _ _ (wpAny_bind (wpAny_dictEpoch ho hd ?_)))))
          show wpAny _ _ (if (ep != ep) = true then _ else _) _ E _
          rw [if_neg (by simp), ← NestedKey.decide_eq]
          by_cases e : x.1 = k
          · rw [decide_eq_true e]
            first | rw [if_pos rfl] | skip
            rcases hH with ⟨rfl, _⟩ | ⟨i, y, _, hi, hy, ey⟩
            · simp only [Option.isSome_none, Bool.false_eq_true, if_false]
              first | refine wpAny_bind (wpAny_pure ?_) | skip
              refine wpAny_bind (wpAny_rule ?_)
              split
              · exact wpAny_pure (wpAny_pure (q.yes j x hx e))
              · exact wpAny_pure ⟨rfl, some j, done ++ [j], rfl, more, .inr ⟨j, x, rfl, List.mem_append_right _ (List.mem_singleton.mpr rfl), hx, e⟩⟩
            · exfalso
              have ij : i = j := key_once hn hy hx (ey.trans e.symm)
              have nd : (done ++ j :: rest).Nodup := by rw [hr]; exact plc_nodup
              rw [List.nodup_append] at nd
              exact nd.2.2 i hi j List.mem_cons_self ij
          · rw [decide_eq_false e]
            simp only [Bool.false_eq_true, if_false]
            refine wpAny_bind (wpAny_rule ?_)
            have nx : (hit = none ∧ ∀ i ∈ done ++ [j], ∀ y, xs[i]? = some y → y.1 ≠ k) ∨ ∃ i y, hit = some i ∧ i ∈ done ++ [j] ∧ xs[i]? = some y ∧ y.1 = k := by
              rcases hH with ⟨h0, hno⟩ | ⟨i, y, h0, hi, hy⟩
              · refine .inl ⟨h0, fun i hi y hy => ?_⟩
                rcases List.mem_append.mp hi with z | z
                · exact hno i z y hy
                · rw [List.mem_singleton.mp z, hx] at hy
                  cases hy
                  exact e
              · exact .inr ⟨i, y, h0, List.mem_append_left _ hi, hy⟩
            first | rw [if_neg (by simp)] | skip
            first
              | exact wpAny_pure ⟨rfl, hit, done ++ [j], rfl, more, nx⟩
              | exact wpAny_bind (wpAny_pure (wpAny_pure ⟨rfl, hit, done ++ [j], rfl, more, nx⟩))
        · rintro b s' ⟨rfl, hit, done, rfl, hr, hH⟩
          rw [List.append_nil] at hr
          rcases hH with ⟨rfl, hno⟩ | ⟨j, x, rfl, _, hx, e⟩
          · exact wpAny_pure (q.no (none_there he fun j hj => hno j (by rw [hr]; exact hj)))
          · exact wpAny_pure (q.yes j x hx e))
      · skip
        by_cases c2 : (((plc w es k).filterMap fun i => es[i]?.map (·.key)) == [u]) = true <;> (first | rw [if_pos c2] | rw [if_neg c2]) <;> (first | refine wpAny_bind (wpAny_pure ?_) | refine wpAny_bind (may_tell hk hkd hst ?_)) <;> (
        rw [if_neg (by simp)]
        refine wpAny_bind ?_
        refine wpAny_forIn_list _ (fun rest b s' => s' = s ∧ ∃ hit done, b = (none, hit) ∧ done ++ rest = plc w es k ∧ ((hit = none ∧ ∀ j ∈ done, ∀ x, xs[j]? = some x → x.1 ≠ k) ∨ ∃ j x, hit = some j ∧ j ∈ done ∧ xs[j]? = some x ∧ x.1 = k)) _ ?_ ?_ _ _ ⟨rfl, none, [], rfl, rfl, .inl ⟨rfl, fun _ h => nomatch h⟩⟩
        · rintro j rest b s' ⟨rfl, hit, done, rfl, hr, hH⟩
          have hm : j ∈ plc w es k := by rw [← hr]; exact List.mem_append_right _ List.mem_cons_self
          obtain ⟨hj, hp⟩ := plc_mem.mp hm
          obtain ⟨x, hx⟩ : ∃ x, xs[j]? = some x := ⟨xs[j]'(by rw [← ent_size he]; exact hj), List.getElem?_eq_getElem _⟩
          have ex : es[j]? = some (entD w x) := by rw [ent_at he j, hx]; rfl
          rw [ex] at hp ⊢
          dsimp only
          have hh : ((entD w x).hash == k.hash w) = true := by simpa using hp
          rw [if_pos hh]
          obtain ⟨n1, n2⟩ := his x (List.mem_of_getElem? hx)
          have more : done ++ [j] ++ rest = plc w es k := by rw [← hr, List.append_assoc]; rfl
          refine wpAny_bind (wpAny_dictEpoch ho hd (wpAny_bind (eqAt_key x.1 k A s' _ _ n1 hk (by omega) _ _ _ _ (wpAny_bind (wpAny_dictEpoch ho hd ?_)))))
          show wpAny _ _ (if (ep != ep) = true then _ else _) _ E _
          rw [if_neg (by simp), ← NestedKey.decide_eq]
          by_cases e : x.1 = k
          · rw [decide_eq_true e]
            first | rw [if_pos rfl] | skip
            rcases hH with ⟨rfl, _⟩ | ⟨i, y, _, hi, hy, ey⟩
            · simp only [Option.isSome_none, Bool.false_eq_true, if_false]
              first | refine wpAny_bind (wpAny_pure ?_) | skip
              refine wpAny_bind (wpAny_rule ?_)
              split
              · exact wpAny_pure (wpAny_pure (q.yes j x hx e))
              · exact wpAny_pure ⟨rfl, some j, done ++ [j], rfl, more, .inr ⟨j, x, rfl, List.mem_append_right _ (List.mem_singleton.mpr rfl), hx, e⟩⟩
            · exfalso
              have ij : i = j := key_once hn hy hx (ey.trans e.symm)
              have nd : (done ++ j :: rest).Nodup := by rw [hr]; exact plc_nodup
              rw [List.nodup_append] at nd
              exact nd.2.2 i hi j List.mem_cons_self ij
          · rw [decide_eq_false e]
            simp only [Bool.false_eq_true, if_false]
            refine wpAny_bind (wpAny_rule ?_)
            have nx : (hit = none ∧ ∀ i ∈ done ++ [j], ∀ y, xs[i]? = some y → y.1 ≠ k) ∨ ∃ i y, hit = some i ∧ i ∈ done ++ [j] ∧ xs[i]? = some y ∧ y.1 = k := by
              rcases hH with ⟨h0, hno⟩ | ⟨i, y, h0, hi, hy⟩
              · refine .inl ⟨h0, fun i hi y hy => ?_⟩
                rcases List.mem_append.mp hi with z | z
                · exact hno i z y hy
                · rw [List.mem_singleton.mp z, hx] at hy
                  cases hy
                  exact e
              · exact .inr ⟨i, y, h0, List.mem_append_left _ hi, hy⟩
            first | rw [if_neg (by simp)] | skip
            first
              | exact wpAny_pure ⟨rfl, hit, done ++ [j], rfl, more, nx⟩
              | exact wpAny_bind (wpAny_pure (wpAny_pure ⟨rfl, hit, done ++ [j], rfl, more, nx⟩))
        · rintro b s' ⟨rfl, hit, done, rfl, hr, hH⟩
          rw [List.append_nil] at hr
          rcases hH with ⟨rfl, hno⟩ | ⟨j, x, rfl, _, hx, e⟩
          · exact wpAny_pure (q.no (none_there he fun j hj => hno j (by rw [hr]; exact hj)))
          · exact wpAny_pure (q.yes j x hx e))
end
end FvD


set_option maxHeartbeats 2000000
namespace FvD
open PySem PySem.Spec PyProof.Rows L2
/-! ### storing and reading, by the entries -/
def storedN (xs : List KE3) (k : NestedKey) (u v : Value) : List KE3 :=
  if (xs.any fun x => decide (x.1 = k)) = true then xs.map (fun x => if x.1 = k then (x.1, x.2.1, v) else x) else xs ++ [(k, u, v)]
theorem any_key {xs : List KE3} {k : NestedKey} : (xs.any fun x => decide (x.1 = k)) = true ↔ ∃ x ∈ xs, x.1 = k := by
  simp [List.any_eq_true]
theorem modify_key (w : World) (k : NestedKey) (v : Value) : ∀ (xs : List KE3) (j : Nat) (x : KE3), (xs.map (·.1)).Nodup → xs[j]? = some x → x.1 = k →
    (xs.map (entD w)).modify j (fun e => { e with val := v }) = (xs.map (fun x => if x.1 = k then (x.1, x.2.1, v) else x)).map (entD w)
  | [], j, x, _, hj, _ => by simp at hj
  | y :: xs, 0, x, hn, hj, e => by
    simp only [List.getElem?_cons_zero, Option.some.injEq] at hj
    subst hj
    rw [List.map_cons, List.nodup_cons] at hn
    have rest : xs.map (fun x => if x.1 = k then (x.1, x.2.1, v) else x) = xs := by
      exact (List.map_congr_left fun x hx => by
        rw [if_neg]
        · rfl
        · intro z
          exact hn.1 (List.mem_map.mpr ⟨x, hx, z.trans e.symm⟩)).trans (List.map_id xs)
    rw [List.map_cons, List.map_cons, List.map_cons, rest, if_pos e]
    rfl
  | y :: xs, j + 1, x, hn, hj, e => by
    simp only [List.getElem?_cons_succ] at hj
    rw [List.map_cons, List.nodup_cons] at hn
    have ne : ¬ y.1 = k := fun z => hn.1 (List.mem_map.mpr ⟨x, List.mem_of_getElem? hj, e.trans z.symm⟩)
    rw [List.map_cons, List.map_cons, List.map_cons, if_neg ne]
    show entD w y :: (xs.map (entD w)).modify j _ = _
    rw [modify_key w k v xs j x hn.2 hj e]
/-- the dict at d holds xs -/
def NdAt (w : World) (h : Heap) (d : Addr) (xs : List KE3) : Prop := ∃ o es ep, h.get? d = some o ∧ o.ExactDict ∧ o.data = .dict es ep ∧ es.toList = xs.map (entD w)
theorem NdAt.ty {w : World} {s : Shared} {d : Addr} {xs : List KE3} (h : NdAt w s.heap d xs) : s.TypeIs (.ref d) "dict" := let ⟨o, _, _, ho, hc, _⟩ := h; ⟨o, ho, hc.1⟩
section
variable {prog : Program} {w : World} {A : Around} {E : Value → Shared → Prop} {s : Shared} {d : Addr} {xs : List KE3} {k : NestedKey} {u : Value}
def valN (xs : List KE3) (k : NestedKey) : Option Value := (xs.find? fun x => decide (x.1 = k)).map (·.2.2)
theorem valN_none (h : ∀ x ∈ xs, x.1 ≠ k) : valN xs k = none := by
  have : (xs.find? fun x => decide (x.1 = k)) = none := by
    rw [List.find?_eq_none]
    intro x hx e
    exact h x hx (of_decide_eq_true e)
  unfold valN
  rw [this]
  rfl
theorem valN_some (hn : (xs.map (·.1)).Nodup) {j : Nat} {x : KE3} (hj : xs[j]? = some x) (e : x.1 = k) : valN xs k = some x.2.2 := by
  unfold valN
  cases hf : xs.find? fun x => decide (x.1 = k) with
  | none => exact absurd e (by simpa using List.find?_eq_none.mp hf x (List.mem_of_getElem? hj))
  | some y =>
    have ey : y.1 = k := by
      have z := List.find?_some hf
      exact of_decide_eq_true z
    obtain ⟨i, hi⟩ := List.mem_iff_getElem?.mp (List.mem_of_find?_eq_some hf)
    have ij := key_once hn hi hj (ey.trans e.symm)
    rw [ij, hj] at hi
    cases hi
    rfl
theorem nd_get {Q : Option Value → Shared → Prop} (hu : A.units + 8 < cLine) (hk : NestedIs s.heap k u) (hkd : k.depth ≤ 8) (hm : NdAt w s.heap d xs) (hn : (xs.map (·.1)).Nodup)
    (his : ∀ x ∈ xs, NestedIs s.heap x.1 x.2.1 ∧ x.1.depth ≤ 8) (q : Q (valN xs k) { s with toks := s.toks + k.draws }) : wpAny (model prog w) A (dictGet d u) Q E s := by
  obtain ⟨o, es, ep, ho, hc, hd, he⟩ := hm
  unfold dictGet
  try with_reducible refine wpAny_holding ?_
  refine wpAny_bind (pyHash_key k u A s _ hk (by omega) (wpAny_bind (nd_find (s := { s with toks := s.toks + k.draws }) hu hk hkd ho hd he hn his ⟨fun h => ?_, fun j x hj e => ?_⟩)))
  · rw [valN_none h] at q
    exact wpAny_pure q
  · rw [valN_some hn hj e] at q
    refine wpAny_bind (wpAny_dictEntries (s := { s with toks := s.toks + k.draws }) ho hd ?_)
    rw [ent_at he j, hj]
    exact wpAny_pure q
theorem nd_set {v : Value} {Q : Unit → Shared → Prop} (hu : A.units + 8 < cLine) (hk : NestedIs s.heap k u) (hkd : k.depth ≤ 8) (hm : NdAt w s.heap d xs) (hn : (xs.map (·.1)).Nodup)
    (his : ∀ x ∈ xs, NestedIs s.heap x.1 x.2.1 ∧ x.1.depth ≤ 8) (hsz : xs.length ≤ sizeLine) (q : ∀ h', NdAt w h' d (storedN xs k u v) → Heap.SameBut d s.heap h' → Q () { s with heap := h', toks := s.toks + k.draws }) : wpAny (model prog w) A (dictSet d u v) Q E s := by
  obtain ⟨o, es, ep, ho, hc, hd, he⟩ := hm
  unfold dictSet
  try with_reducible refine wpAny_holding ?_
  refine wpAny_bind (pyHash_key k u A s _ hk (by omega) ?_)
  unfold dictSetHashed
  try with_reducible refine wpAny_holding ?_
  refine wpAny_bind (nd_find (s := { s with toks := s.toks + k.draws }) hu hk hkd ho hd he hn his ⟨fun h => ?_, fun j x hj e => ?_⟩)
  · have no : ¬ (xs.any fun x => decide (x.1 = k)) = true := fun z => by
      obtain ⟨x, hx, e⟩ := any_key.mp z
      exact h x hx e
    refine wpAny_bind (wpAny_rule (wpAny_updateDictKeys (hz := by have e := ent_size he; omega) (s := { s with toks := s.toks + k.draws }) ho hd (q _ ⟨_, _, ep + 1, Heap.get?_update_self _ ho (Obj.isFreed_of_dict (Obj.data_mapDictKeys hd _)),
      hc.mapDictKeys _, Obj.data_mapDictKeys hd _, ?_⟩ (Heap.SameBut.update ..))))
    unfold storedN
    rw [if_neg no]
    simp [he, entD]
  · have yes : (xs.any fun x => decide (x.1 = k)) = true := any_key.mpr ⟨x, List.mem_of_getElem? hj, e⟩
    refine wpAny_bind (wpAny_rule (wpAny_bind (wpAny_updateDict (s := { s with toks := s.toks + k.draws }) ho hd (wpAny_point (q _ ⟨_, _, ep, Heap.get?_update_self _ ho (Obj.isFreed_of_dict (Obj.data_mapDict hd _)),
      hc.mapDict _, Obj.data_mapDict hd _, ?_⟩ (Heap.SameBut.update ..))))))
    unfold storedN
    rw [if_pos yes]
    have z := modify_key w k v xs j x hn hj e
    rw [← he] at z
    obtain ⟨l⟩ := es
    simpa using z
theorem set_item {v : Value} {Q : Unit → Shared → Prop} (hu : A.units + 9 < cLine) (hk : NestedIs s.heap k u) (hkd : k.depth ≤ 8) (hm : NdAt w s.heap d xs) (hn : (xs.map (·.1)).Nodup)
    (his : ∀ x ∈ xs, NestedIs s.heap x.1 x.2.1 ∧ x.1.depth ≤ 8) (hsz : xs.length ≤ sizeLine) (q : ∀ h', NdAt w h' d (storedN xs k u v) → Heap.SameBut d s.heap h' → Q () { s with heap := h', toks := s.toks + k.draws }) :
    wpAny (model prog w) A (setItem (.ref d) u v) Q E s := by
  unfold setItem
  try with_reducible refine wpAny_holding ?_
  refine wpAny_bind (wpAny_sequenceKey hm.ty (by decide) ?_)
  refine wpAny_bind (wpAny_callSpecial?_slot (name := Str.ofString "__setitem__") hm.ty slot_dict_setitem (wpAny_call_entry slot_dict_setitem hm.ty entry_dict_setitem ?_ (args_dict_setitem _ _ _)))
  show wpAny _ _ (Builtin.Dict.notOrdered "__setitem__" ⟨[.ref d, u, v], []⟩ >>= _) _ _ s
  refine wpAny_bind (wpAny_notOrdered_dict hm.ty ?_)
  show wpAny _ _ (dictSet d u v >>= _) _ _ s
  exact wpAny_bind (nd_set (A := A.in1) (by show A.units + 1 + 8 < _; omega) hk hkd hm hn his hsz fun h' m' s' => wpAny_pure ⟨.none, rfl, wpAny_pure (q h' m' s')⟩)
theorem get_item {x : Value} {Q : Value → Shared → Prop} (hu : A.units + 9 < cLine) (hk : NestedIs s.heap k u) (hkd : k.depth ≤ 8) (hm : NdAt w s.heap d xs) (hn : (xs.map (·.1)).Nodup)
    (his : ∀ x ∈ xs, NestedIs s.heap x.1 x.2.1 ∧ x.1.depth ≤ 8) (hx : valN xs k = some x) (q : Q x { s with toks := s.toks + k.draws }) : wpAny (model prog w) A (getItem (.ref d) u) Q E s := by
  unfold getItem
  try with_reducible refine wpAny_holding ?_
  refine wpAny_bind (wpAny_sequenceKey hm.ty (by decide) ?_)
  refine wpAny_bind (wpAny_callSpecial?_slot (name := Str.ofString "__getitem__") hm.ty slot_dict_getitem (wpAny_call_entry slot_dict_getitem hm.ty entry_dict_getitem ?_ (args_dict_getitem _ _)))
  show wpAny _ _ (dictGet d u >>= _) _ _ s
  refine wpAny_bind (nd_get (A := A.in1) (by show A.units + 1 + 8 < _; omega) hk hkd hm hn his ?_)
  rw [hx]
  exact wpAny_pure ⟨x, rfl, wpAny_pure q⟩
end
end FvD


set_option maxHeartbeats 2000000
namespace FvD
open PySem PySem.Spec PyProof.Rows L2 Fv
/-! ### data as keys -/
mutual
def nk : PyData → NestedKey
  | .str x => .text x
  | .tuple ds => .tup (nks ds)
  | .int i => .num i
  | .bool b => .num (if b = true then 1 else 0)
  | _ => .none
def nks : List PyData → List NestedKey
  | [] => []
  | d :: ds => nk d :: nks ds
end
mutual
/-- texts, and tuples of such, nested at most n deep -/
def kd : Nat → PyData → Bool
  | _, .str _ => true
  | n + 1, .tuple ds => kdAll n ds
  | _, _ => false
def kdAll : Nat → List PyData → Bool
  | _, [] => true
  | n, d :: ds => kd n d && kdAll n ds
end
theorem kd_str {n : Nat} {x : Str} : kd n (.str x) = true := by cases n <;> rfl
theorem kdAll_iff {n : Nat} : ∀ {ds : List PyData}, kdAll n ds = true ↔ ∀ d ∈ ds, kd n d = true
  | [] => by simp [kdAll]
  | d :: ds => by simp [kdAll, kdAll_iff (n := n) (ds := ds)]
mutual
theorem kd_depth : ∀ (n : Nat) (d : PyData), kd n d = true → (nk d).depth ≤ n
  | n, .str x, _ => by simp [nk, NestedKey.depth]
  | n + 1, .tuple ds, h => by
    have q := kdAll_depth n ds (by simpa [kd] using h)
    simp only [nk, NestedKey.depth]
    omega
  | 0, .tuple _, h => by simp [kd] at h
  | n, .none, h => by cases n <;> simp [kd] at h
  | n, .bool _, h => by cases n <;> simp [kd] at h
  | n, .int _, h => by cases n <;> simp [kd] at h
  | n, .list _, h => by cases n <;> simp [kd] at h
  | n, .dict _, h => by cases n <;> simp [kd] at h
theorem kdAll_depth : ∀ (n : Nat) (ds : List PyData), kdAll n ds = true → NestedKey.depthAll (nks ds) ≤ n
  | n, [], _ => by simp [nks, NestedKey.depthAll]
  | n, d :: ds, h => by
    simp only [kdAll, Bool.and_eq_true] at h
    have a := kd_depth n d h.1
    have b := kdAll_depth n ds h.2
    simp only [nks, NestedKey.depthAll]
    omega
end
mutual
theorem nk_inj : ∀ (n m : Nat) (d e : PyData), kd n d = true → kd m e = true → nk d = nk e → d = e
  | n, m, .str x, .str y, _, _, h => by simp only [nk] at h; injection h with h; rw [h]
  | n + 1, m + 1, .tuple ds, .tuple es, hd, he, h => by
    simp only [nk] at h
    injection h with h
    rw [nks_inj n m ds es (by simpa [kd] using hd) (by simpa [kd] using he) h]
  | n, m, .str x, .tuple es, _, _, h => by simp only [nk] at h; cases h
  | n, m, .tuple es, .str x, _, _, h => by simp only [nk] at h; cases h
  | 0, m, .tuple es, e, hd, _, h => by simp [kd] at hd
  | n, 0, d, .tuple es, _, he, h => by simp [kd] at he
  | n, m, .none, e, hd, _, _ => by cases n <;> simp [kd] at hd
  | n, m, .bool _, e, hd, _, _ => by cases n <;> simp [kd] at hd
  | n, m, .int _, e, hd, _, _ => by cases n <;> simp [kd] at hd
  | n, m, .list _, e, hd, _, _ => by cases n <;> simp [kd] at hd
  | n, m, .dict _, e, hd, _, _ => by cases n <;> simp [kd] at hd
  | n, m, d, .none, _, he, _ => by cases m <;> simp [kd] at he
  | n, m, d, .bool _, _, he, _ => by cases m <;> simp [kd] at he
  | n, m, d, .int _, _, he, _ => by cases m <;> simp [kd] at he
  | n, m, d, .list _, _, he, _ => by cases m <;> simp [kd] at he
  | n, m, d, .dict _, _, he, _ => by cases m <;> simp [kd] at he
theorem nks_inj : ∀ (n m : Nat) (ds es : List PyData), kdAll n ds = true → kdAll m es = true → nks ds = nks es → ds = es
  | n, m, [], [], _, _, _ => rfl
  | n, m, d :: ds, e :: es, hd, he, h => by
    simp only [kdAll, Bool.and_eq_true] at hd he
    simp only [nks] at h
    injection h with h1 h2
    rw [nk_inj n m d e hd.1 he.1 h1, nks_inj n m ds es hd.2 he.2 h2]
  | n, m, [], e :: es, _, _, h => by simp only [nks] at h; cases h
  | n, m, d :: ds, [], _, _, h => by simp only [nks] at h; cases h
end
section
variable {X : Cx} {pins : List (Addr × Obj)} {σ : L2.St} {H : Hp} {s : Shared}
mutual
theorem dp_key (I : Inv X pins σ H s) : ∀ (n : Nat) (d : PyData) (v : V) (u : Value), kd n d = true → Dp X.K H v d → RelV v u → NestedIs s.heap (nk d) u
  | n, .str x, v, u, _, h, r => by
    cases h
    obtain ⟨t, rfl⟩ := r
    exact .text x t
  | n + 1, .tuple ds, v, u, hk, h, r => by
    cases h with
    | tup hs ha =>
      cases r
      obtain ⟨its, rv, ⟨o, ho, hc, m, hd⟩, hz⟩ := I.tuple hs
      exact .tup ho hc hd (by simpa using dpAll_key I n ds _ its (by simpa [kd] using hk) ha rv)
  | 0, .tuple _, _, _, hk, _, _ => by simp [kd] at hk
  | n, .none, _, _, hk, _, _ => by cases n <;> simp [kd] at hk
  | n, .bool _, _, _, hk, _, _ => by cases n <;> simp [kd] at hk
  | n, .int _, _, _, hk, _, _ => by cases n <;> simp [kd] at hk
  | n, .list _, _, _, hk, _, _ => by cases n <;> simp [kd] at hk
  | n, .dict _, _, _, hk, _, _ => by cases n <;> simp [kd] at hk
theorem dpAll_key (I : Inv X pins σ H s) : ∀ (n : Nat) (ds : List PyData) (vs : List V) (us : List Value), kdAll n ds = true → DpAll X.K H vs ds → Vals vs us → NestedAll s.heap (nks ds) us
  | n, [], vs, us, _, h, r => by cases h; cases r; exact .nil
  | n, d :: ds, vs, us, hk, h, r => by
    simp only [kdAll, Bool.and_eq_true] at hk
    cases h with
    | cons h1 h2 =>
      cases r with
      | cons r1 r2 => exact .cons (dp_key I n d _ _ hk.1 h1 r1) (dpAll_key I n ds _ _ hk.2 h2 r2)
end
end
/-! ### the dict, tracked -/
abbrev NKV := PyData × V × V
def RelN (p : NKV) (q : KE3) : Prop := nk p.1 = q.1 ∧ RelV p.2.1 q.2.1 ∧ RelV p.2.2 q.2.2
/-- a dict at a whose keys are data -/
def NdO (w : World) (a : Addr) (kvs : List NKV) : HO := .ext fun h => kvs.length ≤ sizeLine ∧ (a == sysModules) = false ∧ (kvs.map fun p => nk p.1).Nodup ∧ ∃ xs, Paired RelN kvs xs ∧ NdAt w h a xs
theorem ndO_ok {P : Program} {w : World} {H : Hp} {h : Heap} {a : Addr} {kvs : List NKV} {xs : List KE3} (z : kvs.length ≤ sizeLine) (hs : (a == sysModules) = false) (hn : (kvs.map fun p => nk p.1).Nodup) (r : Paired RelN kvs xs) (hd : NdAt w h a xs) : ObjOk P w H h a (NdO w a kvs) := by
  refine ⟨⟨z, hs, hn, xs, r, hd⟩, let ⟨o, _, _, ho, _⟩ := hd; ⟨o, ho⟩, fun h1 h2 ⟨a1, a2, a3, xs, a4, o, es, ep, ho, q⟩ k => ⟨a1, a2, a3, xs, a4, o, es, ep, k o ho, q⟩⟩
/-- all keys are there -/
def KyOk (K : PySem.W.Frag) (H : Hp) (kvs : List NKV) : Prop := ∀ p ∈ kvs, kd 8 p.1 = true ∧ Dp K H p.2.1 p.1
theorem relN_keys : ∀ {kvs : List NKV} {xs : List KE3}, Paired RelN kvs xs → (kvs.map fun p => nk p.1) = xs.map (·.1)
  | _, _, .nil => rfl
  | _, _, .cons h t => by rw [List.map_cons, List.map_cons, h.1, relN_keys t]
def putN (kvs : List NKV) (d : PyData) (y v : V) : List NKV :=
  if (kvs.any fun p => decide (nk p.1 = nk d)) = true then kvs.map (fun p => if nk p.1 = nk d then (p.1, p.2.1, v) else p) else kvs ++ [(d, y, v)]
theorem relN_any {k : NestedKey} : ∀ {kvs : List NKV} {xs : List KE3}, Paired RelN kvs xs → (kvs.any fun p => decide (nk p.1 = k)) = xs.any fun x => decide (x.1 = k)
  | _, _, .nil => rfl
  | _, _, .cons h t => by rw [List.any_cons, List.any_cons, h.1, relN_any t]
theorem relN_map {k : NestedKey} {v : V} {u : Value} (rv : RelV v u) : ∀ {kvs : List NKV} {xs : List KE3}, Paired RelN kvs xs → Paired RelN (kvs.map (fun p => if nk p.1 = k then (p.1, p.2.1, v) else p)) (xs.map (fun x => if x.1 = k then (x.1, x.2.1, u) else x))
  | _, _, .nil => .nil
  | _, _, .cons (a := p) (b := q) h t => by
    rw [List.map_cons, List.map_cons]
    refine .cons ?_ (relN_map rv t)
    by_cases e : nk p.1 = k
    · rw [if_pos e, if_pos (h.1 ▸ e)]
      exact ⟨h.1, h.2.1, rv⟩
    · rw [if_neg e, if_neg (h.1 ▸ e)]
      exact h
theorem relN_app {p : NKV} {q : KE3} (hp : RelN p q) : ∀ {kvs : List NKV} {xs : List KE3}, Paired RelN kvs xs → Paired RelN (kvs ++ [p]) (xs ++ [q])
  | _, _, .nil => .cons hp .nil
  | _, _, .cons h t => .cons h (relN_app hp t)
theorem relN_put {kvs : List NKV} {xs : List KE3} {d : PyData} {y v : V} {u r : Value} (h : Paired RelN kvs xs) (ry : RelV y u) (rv : RelV v r) : Paired RelN (putN kvs d y v) (storedN xs (nk d) u r) := by
  unfold putN storedN
  rw [relN_any h]
  by_cases c : (xs.any fun x => decide (x.1 = nk d)) = true
  · rw [if_pos c, if_pos c]; exact relN_map rv h
  · rw [if_neg c, if_neg c]; exact relN_app ⟨rfl, ry, rv⟩ h
theorem putN_keys (kvs : List NKV) (d : PyData) (y v : V) (h : (kvs.map fun p => nk p.1).Nodup) : ((putN kvs d y v).map fun p => nk p.1).Nodup := by
  unfold putN
  by_cases c : (kvs.any fun p => decide (nk p.1 = nk d)) = true
  · rw [if_pos c, List.map_map]
    have e : ((fun p : NKV => nk p.1) ∘ fun p => if nk p.1 = nk d then (p.1, p.2.1, v) else p) = fun p => nk p.1 := by
      funext p
      show nk (if nk p.1 = nk d then (p.1, p.2.1, v) else p).1 = nk p.1
      split <;> rfl
    rw [e]; exact h
  · rw [if_neg c, List.map_append, List.nodup_append]
    refine ⟨h, by simp, fun a ha b hb e => ?_⟩
    obtain ⟨p, hp, rfl⟩ := List.mem_map.mp ha
    have eb : b = nk d := by simpa using hb
    exact c (List.any_eq_true.mpr ⟨p, hp, decide_eq_true (e.trans eb)⟩)
theorem putN_len (kvs : List NKV) (d : PyData) (y v : V) : (putN kvs d y v).length ≤ kvs.length + 1 := by
  unfold putN
  split
  · rw [List.length_map]; omega
  · rw [List.length_append]; simp
section
variable {X : Cx} {pins : List (Addr × Obj)} {σ : L2.St} {H : Hp} {s : Shared} {A : Around} {E : Value → Shared → Prop}
theorem relN_is (I : Inv X pins σ H s) : ∀ {kvs : List NKV} {xs : List KE3}, Paired RelN kvs xs → KyOk X.K H kvs → ∀ x ∈ xs, NestedIs s.heap x.1 x.2.1 ∧ x.1.depth ≤ 8
  | _, _, .nil, _, x, hx => nomatch hx
  | _, _, .cons (a := p) h t, hk, x, hx => by
    rcases List.mem_cons.mp hx with e | hx
    · subst e
      obtain ⟨k1, k2⟩ := hk p List.mem_cons_self
      rw [← h.1]
      exact ⟨dp_key I 8 _ _ _ k1 k2 h.2.1, kd_depth 8 _ k1⟩
    · exact relN_is I t (fun q hq => hk q (List.mem_cons_of_mem _ hq)) x hx
/-- d[y] = v, with the state that it leaves -/
theorem d_setN {a : Addr} {kvs : List NKV} {d : PyData} {y v : V} {u r : Value} {Q : Unit → Shared → Prop} (hu : A.units + 9 < cLine) (I : Inv X pins σ H s) (ha : H a = some (NdO X.w a kvs)) (hk : KyOk X.K H kvs) (hd : kd 8 d = true) (hy : Dp X.K H y d) (ry : RelV y u) (rv : RelV v r) (hl : kvs.length < sizeLine)
    (q : ∀ h' t', Inv X pins σ (upd H a (NdO X.w a (putN kvs d y v))) { s with heap := h', toks := t' } → Q () { s with heap := h', toks := t' }) : wpAny (model X.prog X.w) A (setItem (.ref a) u r) Q E s := by
  obtain ⟨⟨z, hs, hn, xs, pr, hm⟩, _, _⟩ := I.hok a _ ha
  refine set_item hu (dp_key I 8 d y u hd hy ry) (kd_depth 8 d hd) hm (by rw [← relN_keys pr]; exact hn) (relN_is I pr hk) (by rw [← Paired.length pr]; exact z) fun h' m' sb => q h' _ ?_
  have hz := putN_len kvs d y v
  exact d_write I (by rw [ha]; exact True.intro) sb (let ⟨o, _, _, ho, _⟩ := m'; ⟨o, ho⟩) (ndO_ok (by omega) hs (putN_keys kvs d y v hn) (relN_put pr ry rv) m')
/-- {} -/
def tDNewN (w : World) : TE := fun _ H Q => ∀ a, H a = none → Q (.ref a) (upd H a (NdO w a []))
theorem pe_dnewN {pos : Pos} : PE X (.Dict [] [] pos) (tDNewN X.w) := by
  refine ⟨fun pins s σ H Q I h => ?_⟩
  have hb : (s.heap.objs.size == sysModules) = false := beq_eq_false_iff_ne.mpr (Nat.ne_of_gt I.big)
  refine wpAny_Dict_empty ⟨.ref s.heap.objs.size, _, I.laid (a := s.heap.objs.size) (o := NdO X.w s.heap.objs.size []) (t' := s.toks) (fun _ _ q => Heap.get?_push_of_some _ q) (Nat.le_refl _) ?_, rfl, h _ (I.hok.fresh (Nat.le_refl _))⟩
  exact ndO_ok (Nat.zero_le _) hb List.nodup_nil .nil ⟨_, #[], 0, Heap.get?_push_size _ rfl, ⟨rfl, rfl, rfl⟩, rfl, rfl⟩
/-- d[y] = v -/
def sNPut (K : PySem.W.Frag) (w : World) (td ty tv : TE) : TS := fun D σ H => tv σ H fun v H1 => td σ H1 fun x H2 => ty σ H2 fun y H3 => ∃ a kvs d, x = .ref a ∧ H3 a = some (NdO w a kvs) ∧ KyOk K H3 kvs ∧ kd 8 d = true ∧ Dp K H3 y d ∧ kvs.length < sizeLine ∧ D.nx σ (upd H3 a (NdO w a (putN kvs d y v)))
theorem ps_dputN {o i value : Expr} {td ty tv : TE} {pos pos' : Pos} (hu : X.A.units + 9 < cLine) (ho : PE X o td) (hi : PE X i ty) (hv : PE X value tv) (hs : swapsWith value (some (.Subscript o i pos')) pos.line X.env = pure false) : PS X (.Assign [.Subscript o i pos'] value pos) (sNPut X.K X.w td ty tv) := by
  refine ⟨fun pins s σ H D I h => ?_⟩
  refine wpAny_Assign_Subscript (thn (hv.run pins s σ H _ I h) fun r s1 ⟨v, H1, I1, rv, q1⟩ => thn (ho.run pins s1 σ H1 _ I1 q1) fun u s2 ⟨x, H2, I2, rx, q2⟩ => thn (hi.run pins s2 σ H2 _ I2 q2) fun iv s3 ⟨y, H3, I3, ry, a, kvs, d, ex, g1, g2, g3, g4, g5, q3⟩ => ?_) hs
  subst ex
  obtain rfl : u = Value.ref a := rx
  exact d_setN hu I3 g1 g2 g3 g4 ry rv g5 fun h' t' I4 => ⟨σ, _, I4, q3⟩
/-- list(d): its keys -/
theorem call_listN (hc : X.calm = true) : CallR X (.type "list") (fun xs H Q => ∃ (a : Addr) (kvs : List NKV), xs = [.ref a] ∧ H a = some (NdO X.w a kvs) ∧ ∀ p, H p = none → Q (.ref p) (upd H p (.lst (kvs.map fun kv => kv.2.1)))) := by
  intro pins s σ H xs us Q I r h
  obtain ⟨a, kvs, rfl, ha, q⟩ := h
  obtain ⟨u, rfl, rx⟩ := r.one
  cases rx
  obtain ⟨⟨z, hs, hn, ks, pr, o, es, ep, ho, hx, hdt, he⟩, _, _⟩ := I.hok a _ ha
  have l1 : es.size = ks.length := ent_size he
  have l2 : kvs.length = ks.length := Paired.length pr
  refine PySem.W.kdl_call (kdl_raw hs hx hdt) (I.ok.hd hc) ho (by omega) fun h' tk acc c' kp e it => ?_
  have ea : acc.toList = ks.map fun x => x.2.1 := by
    have hl : acc.toList.length = ks.length := by rw [Array.length_toList, it.1]; exact l1
    apply List.ext_getElem?
    intro j
    rw [List.getElem?_map]
    cases hj : acc.toList[j]? with
    | none => rw [List.getElem?_eq_none (by have := List.getElem?_eq_none_iff.mp hj; omega)]; rfl
    | some v =>
      obtain ⟨en, hen, hv⟩ := it.2 j v (by rw [← Array.getElem?_toList]; exact hj)
      have qe := ent_at (w := X.w) he j
      rw [hen] at qe
      cases hb : ks[j]? with
      | none => rw [hb] at qe; exact nomatch qe
      | some b =>
        rw [hb] at qe
        have e2 : en = entD X.w b := Option.some.inj qe
        rw [hv, e2]
        rfl
  have vals : ∀ {kvs : List NKV} {ks : List KE3}, Paired RelN kvs ks → Vals (kvs.map fun kv => kv.2.1) (ks.map fun x => x.2.1) := fun {kvs ks} pr => by
    induction pr with
    | nil => exact .nil
    | cons h _ ih => exact .cons h.2.1 ih
  refine ⟨.ref s.heap.objs.size, _, I.laid (t' := tk) (o := .lst (kvs.map fun kv => kv.2.1)) kp (Nat.le_refl _) ?_, rfl, q _ (I.hok.fresh (Nat.le_refl _))⟩
  exact ⟨by rw [List.length_map]; exact z, acc.toList, c', by rw [ea]; exact vals pr, by rw [Array.toArray_toList]; exact e⟩
end
end FvD


namespace Fv
open PySem PySem.Spec PyProof.Rows L2 FvX TL
/-! ### the text of a term -/
def opS : PyData → Str
  | .str s => s
  | _ => ""
mutual
def txt : PyData → Str
  | .str s => s
  | .tuple (o :: ds) => Txt.join (" " ++ opS o ++ " ") (ptxAll ds)
  | _ => ""
def ptxAll : List PyData → List Str
  | [] => []
  | d :: ds => (if isLd d = true then txt d else "(" ++ txt d ++ ")") :: ptxAll ds
end
def ptx (d : PyData) : Str := if isLd d = true then txt d else "(" ++ txt d ++ ")"
theorem ptxAll_map : ∀ ds : List PyData, ptxAll ds = ds.map ptx
  | [] => by simp [ptxAll]
  | d :: ds => by rw [List.map_cons, ← ptxAll_map ds]; simp only [ptxAll, ptx]
theorem txt_str (s : Str) : txt (.str s) = s := by simp only [txt]
theorem txt_tup (o : Str) (ds : List PyData) : txt (.tuple (.str o :: ds)) = Txt.join (" " ++ o ++ " ") (ds.map ptx) := by
  simp only [txt, ptxAll_map, opS]
theorem isOp_inv {o : PyData} (h : isOp o = true) : o = .str "&" ∨ o = .str "|" := by
  unfold isOp at h
  simp only [List.any_cons, List.any_nil, Bool.or_false, Bool.or_eq_true] at h
  cases o with
  | str x =>
    rcases h with h | h <;> simp [PyData.eqv] at h
    · exact .inl (by rw [h])
    · exact .inr (by rw [h])
  | _ => rcases h with h | h <;> simp [PyData.eqv] at h
theorem lmeas_inv {n : Nat} {d : PyData} (h : 1 ≤ lmeas (n + 1) d) : (∃ x, d = .str x ∧ isL x = true) ∨
    (∃ o ds, d = .tuple (.str o :: ds) ∧ isLd d = false ∧ (o = "&" ∨ o = "|") ∧ 2 ≤ ds.length ∧ (∀ x ∈ ds, 1 ≤ lmeas n x) ∧ lmeas (n + 1) d = (ds.map (lmeas n)).sum) := by
  by_cases a : isLd d = true
  · left
    cases d with
    | str x => exact ⟨x, rfl, a⟩
    | _ => cases a
  · right
    have e : lmeas (n + 1) d = if isCd d = true then (if (0 : Int) ∈ (parts d).map (lmeas n) then 0 else ((parts d).map (lmeas n)).sum) else 0 := by
      show (if isLd d = true then (1 : Int) else _) = _
      rw [if_neg a]
    rw [e] at h
    by_cases b : isCd d = true
    · rw [if_pos b] at h
      by_cases c : (0 : Int) ∈ (parts d).map (lmeas n)
      · rw [if_pos c] at h; omega
      · cases d with
        | tuple ds =>
          cases ds with
          | nil => cases b
          | cons o ds =>
            have b' : (decide (2 ≤ ds.length) && isOp o) = true := b
            rw [Bool.and_eq_true, decide_eq_true_eq] at b'
            have all1 : ∀ x ∈ ds, 1 ≤ lmeas n x := fun x hx => by
              have z := lmeas_nonneg n x
              rcases Int.lt_or_eq_of_le z with z | z
              · omega
              · exact absurd (List.mem_map.mpr ⟨x, hx, z.symm⟩) c
            have e' : lmeas (n + 1) (.tuple (o :: ds)) = (ds.map (lmeas n)).sum := by
              rw [e, if_pos b, if_neg c]; rfl
            rcases isOp_inv b'.2 with ho | ho <;> subst ho
            · exact ⟨_, ds, rfl, rfl, .inl rfl, b'.1, all1, e'⟩
            · exact ⟨_, ds, rfl, rfl, .inr rfl, b'.1, all1, e'⟩
        | _ => cases b
    · rw [if_neg b] at h; omega
theorem isL_len {x : Str} (h : isL x = true) : x.length = 1 := by
  unfold isL at h
  rw [Bool.and_eq_true, decide_eq_true_eq] at h
  have := h.1
  injection this with e
  omega
theorem len_app (x y : Str) : (x ++ y).length = x.length + y.length := by
  rw [len_tl, tl_append, List.length_append, ← len_tl, ← len_tl]
theorem joinL_len (S : List Nat) : ∀ (p : List Nat) (ps : List (List Nat)), (joinL S (p :: ps)).length = p.length + (ps.map (·.length)).sum + S.length * ps.length
  | p, [] => by simp [joinL]
  | p, q :: ps => by
    have e : joinL S (p :: q :: ps) = p ++ (S ++ joinL S (q :: ps)) := rfl
    rw [e, List.length_append, List.length_append, joinL_len S q ps, List.map_cons, List.sum_cons, List.length_cons, Nat.mul_add]
    omega
theorem sum_le {α : Type} {f g : α → Int} : ∀ {l : List α}, (∀ x ∈ l, f x ≤ g x) → (l.map f).sum ≤ (l.map g).sum
  | [], _ => by simp
  | x :: l, h => by
    rw [List.map_cons, List.map_cons, List.sum_cons, List.sum_cons]
    have := h x (List.mem_cons_self ..)
    have := sum_le (l := l) fun y hy => h y (List.mem_cons_of_mem _ hy)
    omega
theorem sum_lin {α : Type} {f : α → Int} : ∀ {l : List α}, (l.map fun x => 8 * f x - 5).sum = 8 * (l.map f).sum - 5 * l.length
  | [] => by simp
  | x :: l => by
    rw [List.map_cons, List.map_cons, List.sum_cons, List.sum_cons, sum_lin (l := l), List.length_cons]
    omega
theorem sum_cast {α : Type} {f : α → Nat} : ∀ {l : List α}, (((l.map f).sum : Nat) : Int) = (l.map fun x => ((f x : Nat) : Int)).sum
  | [] => by simp
  | x :: l => by
    rw [List.map_cons, List.map_cons, List.sum_cons, List.sum_cons, ← sum_cast (l := l)]
    omega
theorem sep_len {o : Str} (h : o = "&" ∨ o = "|") : ((" " : Str) ++ o ++ " ").length = 3 := by
  rcases h with h | h <;> subst h <;> decide +kernel
theorem par_len (x : Str) : (("(" : Str) ++ x ++ ")").length = x.length + 2 := by
  rw [len_app, len_app]
  have e1 : ("(" : Str).length = 1 := by decide +kernel
  have e2 : (")" : Str).length = 1 := by decide +kernel
  omega
theorem txt_len : ∀ (n : Nat) (d : PyData), 1 ≤ lmeas n d → ((txt d).length : Int) + 7 ≤ 8 * lmeas n d
  | 0, d, h => by simp only [lmeas] at h; omega
  | n + 1, d, h => by
    rcases lmeas_inv h with ⟨x, rfl, hx⟩ | ⟨o, ds, rfl, _, ho, h2, all1, e⟩
    · rw [txt_str, isL_len hx]
      omega
    · rw [txt_tup, join_eq, len_tl, tl_join, e]
      have hp : (((((ds.map ptx).map tl).map (·.length)).sum : Nat) : Int) ≤ 8 * (ds.map (lmeas n)).sum - 5 * ds.length := by
        rw [← sum_lin, List.map_map, List.map_map, sum_cast]
        refine sum_le fun x hx => ?_
        have := txt_len n x (all1 x hx)
        show (((tl (ptx x)).length : Nat) : Int) ≤ _
        rw [← len_tl]
        unfold ptx
        split
        · omega
        · rw [par_len]; omega
      cases ds with
      | nil => simp at h2
      | cons x r =>
        rw [List.map_cons, List.map_cons] at hp ⊢
        rw [joinL_len, ← len_tl (" " ++ o ++ " "), sep_len ho, List.length_map, List.length_map]
        rw [List.map_cons, List.sum_cons] at hp
        rw [List.length_cons] at h2 hp
        omega
theorem ptx_len {n : Nat} {d : PyData} (h : 1 ≤ lmeas n d) : ((ptx d).length : Int) + 5 ≤ 8 * lmeas n d := by
  have := txt_len n d h
  unfold ptx
  split
  · omega
  · rw [par_len]; omega
def spText (K : PySem.W.Frag) (n : Nat) : Sp := fun vs H Q _ => ∃ (v : V) (d : PyData) (m : Nat), vs = [v] ∧ Dp K H v d ∧ gd 20 d = true ∧ m < n ∧ 1 ≤ lmeas m d ∧ lmeas m d ≤ 1000 ∧ ∀ H', Same H H' → Q (.str (txt d)) H'
def spPart (K : PySem.W.Frag) (n : Nat) : Sp := fun vs H Q _ => ∃ (v : V) (d : PyData) (m : Nat), vs = [v] ∧ Dp K H v d ∧ gd 20 d = true ∧ m < n ∧ 1 ≤ lmeas m d ∧ lmeas m d ≤ 1000 ∧ ∀ H', Same H H' → Q (.str (ptx d)) H'
end Fv


namespace FvG
open PySem PySem.Spec PyProof.Rows L2 Fv FvD
/-! ### a term and all below it, from the left -/
mutual
def pre : PyData → List PyData
  | .tuple l => .tuple l :: preT l
  | .none => [.none]
  | .bool b => [.bool b]
  | .int i => [.int i]
  | .str x => [.str x]
  | .list l => [.list l]
  | .dict l => [.dict l]
def preT : List PyData → List PyData
  | [] => []
  | o :: ds => if isCd (.tuple (o :: ds)) = true then preL ds else []
def preL : List PyData → List PyData
  | [] => []
  | d :: ds => pre d ++ preL ds
end
theorem preL_eq : ∀ ds : List PyData, preL ds = ds.flatMap pre
  | [] => by simp [preL]
  | d :: ds => by simp [preL, preL_eq ds]
theorem pre_eq (d : PyData) : pre d = d :: (if isCd d = true then (parts d).flatMap pre else []) := by
  cases d with
  | tuple l =>
    cases l with
    | nil => simp [pre, preT, isCd]
    | cons o ds =>
      simp only [pre, preT, parts]
      rw [preL_eq]
  | _ => simp [pre, isCd]
theorem pre_ne (d : PyData) : pre d ≠ [] := by rw [pre_eq]; exact fun h => nomatch h
theorem flat_len : ∀ ds : List PyData, ds.length ≤ (ds.flatMap pre).length
  | [] => by simp
  | d :: ds => by
    have := flat_len ds
    rw [List.flatMap_cons, List.length_append, List.length_cons, pre_eq, List.length_cons]
    omega
theorem flat_nil {ds : List PyData} (h : ds.flatMap pre = []) : ds = [] := by
  have := flat_len ds
  rw [h] at this
  cases ds with
  | nil => rfl
  | cons _ _ => simp at this
/-! ### data of tuples and texts stay while the tuples stay -/
structure Stay (H H' : Hp) : Prop where
  tup : ∀ b xs, H b = some (.tup xs) → H' b = some (.tup xs)
  frz : ∀ b o u, H b = some (.frz o u) → H' b = some (.frz o u)
theorem Stay.refl (H : Hp) : Stay H H := ⟨fun _ _ e => e, fun _ _ _ e => e⟩
theorem Stay.trans {H H1 H2 : Hp} (a : Stay H H1) (b : Stay H1 H2) : Stay H H2 := ⟨fun c xs e => b.tup c xs (a.tup c xs e), fun c o u e => b.frz c o u (a.frz c o u e)⟩
theorem Stay.same {H H1 : Hp} (s : Same H H1) : Stay H H1 := ⟨fun b xs e => s b _ e, fun b o u e => s b _ e⟩
/-- at a something is written that is no tuple and not locked -/
theorem Stay.put {H : Hp} {a : Addr} {o : HO} (h : (∀ xs, H a ≠ some (.tup xs)) ∧ ∀ u v, H a ≠ some (.frz u v)) : Stay H (upd H a o) := by
  refine ⟨fun b xs e => ?_, fun b u v e => ?_⟩
  · rw [upd_ne (fun z => h.1 xs (by rw [← z]; exact e))]; exact e
  · rw [upd_ne (fun z => h.2 u v (by rw [← z]; exact e))]; exact e
theorem stay_lst {H : Hp} {a : Addr} {xs ys : List V} (h : H a = some (.lst xs)) : Stay H (upd H a (.lst ys)) := Stay.put ⟨fun zs e => (by rw [h] at e; cases e), fun u v e => (by rw [h] at e; cases e)⟩
theorem stay_new {H : Hp} {a : Addr} {o : HO} (h : H a = none) : Stay H (upd H a o) := .same (same_upd h)
mutual
theorem kdp_stay {K : PySem.W.Frag} {H H' : Hp} (s : Stay H H') : ∀ (n : Nat) (d : PyData) (v : V), kd n d = true → Dp K H v d → Dp K H' v d
  | n, .str x, v, _, h => by cases h; exact .str x
  | n + 1, .tuple ds, v, hk, h => by
    cases h with
    | tup hs ha =>
      refine .tup ?_ (kdpAll_stay s n ds _ (by simpa [kd] using hk) ha)
      rcases hs with (h | ⟨o, h⟩) | h
      · exact .inl (.inl (s.tup _ _ h))
      · exact .inl (.inr ⟨o, s.frz _ _ _ h⟩)
      · exact .inr h
  | 0, .tuple _, _, hk, _ => by simp [kd] at hk
  | n, .none, _, hk, _ => by cases n <;> simp [kd] at hk
  | n, .bool _, _, hk, _ => by cases n <;> simp [kd] at hk
  | n, .int _, _, hk, _ => by cases n <;> simp [kd] at hk
  | n, .list _, _, hk, _ => by cases n <;> simp [kd] at hk
  | n, .dict _, _, hk, _ => by cases n <;> simp [kd] at hk
theorem kdpAll_stay {K : PySem.W.Frag} {H H' : Hp} (s : Stay H H') : ∀ (n : Nat) (ds : List PyData) (vs : List V), kdAll n ds = true → DpAll K H vs ds → DpAll K H' vs ds
  | n, [], vs, _, h => by cases h; exact .nil
  | n, d :: ds, vs, hk, h => by
    simp only [kdAll, Bool.and_eq_true] at hk
    cases h with
    | cons h1 h2 => exact .cons (kdp_stay s n d _ hk.1 h1) (kdpAll_stay s n ds _ hk.2 h2)
end
theorem kd_up : ∀ (n : Nat) (d : PyData), kd n d = true → kd (n + 1) d = true := by
  have both : ∀ (n : Nat), (∀ d, kd n d = true → kd (n + 1) d = true) := by
    intro n
    induction n with
    | zero =>
      intro d h
      cases d with
      | str x => exact kd_str
      | _ => simp [kd] at h
    | succ n ih =>
      intro d h
      cases d with
      | str x => exact kd_str
      | tuple ds =>
        have h' : kdAll n ds = true := by simpa [kd] using h
        show kdAll (n + 1) ds = true
        exact kdAll_iff.mpr fun d hd => ih d (kdAll_iff.mp h' d hd)
      | _ => simp [kd] at h
  exact both
theorem kd_le {n m : Nat} {d : PyData} (h : kd n d = true) (hm : n ≤ m) : kd m d = true := by
  induction hm with
  | refl => exact h
  | step _ ih => exact kd_up _ _ ih
/-! ### what can stand on the stack -/
/-- a long term -/
structure Tk (d : PyData) : Prop where
  one : 1 ≤ lmeas 9 d
  top : lmeas 9 d ≤ 600
  gd : gd 20 d = true
theorem kd_meas : ∀ (n : Nat) (d : PyData), 1 ≤ lmeas (n + 1) d → kd n d = true
  | 0, d, h => by
    rcases lmeas_inv h with ⟨x, rfl, hx⟩ | ⟨o, ds, rfl, _, ho, h2, all1, e⟩
    · exact kd_str
    · exfalso
      match ds, h2, all1 with
      | d :: _, _, all1 =>
        have := all1 d List.mem_cons_self
        simp [lmeas] at this
  | n + 1, d, h => by
    rcases lmeas_inv h with ⟨x, rfl, hx⟩ | ⟨o, ds, rfl, _, ho, h2, all1, e⟩
    · exact kd_str
    · show kdAll n (.str o :: ds) = true
      refine kdAll_iff.mpr fun y hy => ?_
      rcases List.mem_cons.mp hy with z | z
      · rw [z]; exact kd_str
      · exact kd_meas n y (all1 y z)
theorem Tk.kd {d : PyData} (h : Tk d) : kd 8 d = true := kd_meas 8 d h.one
theorem Tk.inv {d : PyData} (h : Tk d) : (∃ x, d = .str x ∧ isL x = true) ∨ ∃ o ds, d = .tuple (.str o :: ds) ∧ isCd d = true ∧ 2 ≤ ds.length ∧ (∀ x ∈ ds, Tk x) ∧ lmeas 9 d = (ds.map (lmeas 9)).sum := by
  rcases lmeas_inv (n := 8) h.one with ⟨x, rfl, hx⟩ | ⟨o, ds, rfl, _, ho, h2, all1, e⟩
  · exact .inl ⟨x, rfl, hx⟩
  · have up : ∀ x ∈ ds, lmeas 9 x = lmeas 8 x := fun x hx => lmeas_up 8 x (all1 x hx)
    have sm : (ds.map (lmeas 9)).sum = (ds.map (lmeas 8)).sum := by rw [List.map_congr_left up]
    refine .inr ⟨o, ds, rfl, ?_, h2, fun x hx => ⟨?_, ?_, ?_⟩, by rw [sm]; exact e⟩
    · have op : isOp (.str o) = true := by
        rcases ho with z | z
        · rw [z]; exact isOp_str.1
        · rw [z]; exact isOp_str.2
      simp [isCd, h2, op]
    · rw [up x hx]; exact all1 x hx
    · rw [up x hx]
      have z : lmeas 8 x ≤ (ds.map (lmeas 8)).sum := by
        have nn : ∀ l : List PyData, 0 ≤ (l.map (lmeas 8)).sum := fun l => sum_nonneg fun u hu => by
          obtain ⟨d', _, rfl⟩ := List.mem_map.mp hu
          exact lmeas_nonneg 8 d'
        have le : ∀ l : List PyData, x ∈ l → lmeas 8 x ≤ (l.map (lmeas 8)).sum := by
          intro l
          induction l with
          | nil => intro h; cases h
          | cons y r ih =>
            intro hm
            rw [List.map_cons, List.sum_cons]
            have n1 := nn r
            have n2 := lmeas_nonneg 8 y
            rcases List.mem_cons.mp hm with e | e
            · rw [e]; omega
            · have := ih e; omega
        exact le ds hx
      have t9 := h.top
      have e9 : lmeas 9 (.tuple (.str o :: ds)) = (ds.map (lmeas 8)).sum := e
      rw [e9] at t9
      omega
    · exact gd_up 19 x ((gd_parts (n := 19) h.gd).2 x hx)
theorem str_isCd (x : Str) : isCd (.str x) = false := rfl
theorem sum9_nonneg (l : List PyData) : 0 ≤ (l.map (lmeas 9)).sum := sum_nonneg fun u hu => by
  obtain ⟨d', _, rfl⟩ := List.mem_map.mp hu
  exact lmeas_nonneg 9 d'
/-- how many there are -/
theorem pre_len : ∀ (n : Nat) (d : PyData), 1 ≤ lmeas n d → Tk d → ((pre d).length : Int) + 1 ≤ 2 * lmeas 9 d
  | 0, d, h, _ => by simp only [lmeas] at h; omega
  | n + 1, d, h, t => by
    rcases t.inv with ⟨x, rfl, hx⟩ | ⟨o, ds, rfl, hc, h2, all, e⟩
    · have := t.one
      rw [pre_eq, str_isCd]
      simp
      omega
    · rw [pre_eq, if_pos hc, e]
      rcases lmeas_inv h with ⟨x, hx, _⟩ | ⟨o', ds', hd, _, _, _, all1, _⟩
      · cases hx
      · cases hd
        have sub : ∀ l : List PyData, (∀ x ∈ l, x ∈ ds) → ((l.flatMap pre).length : Int) + l.length ≤ 2 * (l.map (lmeas 9)).sum := by
          intro l
          induction l with
          | nil => intro _; simp
          | cons y r ih =>
            intro hm
            have hy := hm y List.mem_cons_self
            have a := pre_len n y (all1 y hy) (all y hy)
            have b := ih fun x hx => hm x (List.mem_cons_of_mem _ hx)
            rw [List.flatMap_cons, List.length_append, List.length_cons, List.map_cons, List.sum_cons]
            omega
        have := sub ds fun _ h => h
        show (((PyData.tuple (.str o :: ds)) :: (ds.flatMap pre)).length : Int) + 1 ≤ _
        rw [List.length_cons]
        omega
theorem pre_small {d : PyData} (t : Tk d) : (pre d).length ≤ 1200 := by
  have := pre_len 9 d t.one t
  have := t.top
  omega
end FvG


set_option maxHeartbeats 2000000
namespace FvG
open PySem PySem.Spec PyProof.Rows L2
/-! ### t[:0:-1] of a tuple: its items but the first one, from the last one down -/
theorem fm_congr {α β : Type} {f g : α → Option β} : ∀ {l : List α}, (∀ a ∈ l, f a = g a) → l.filterMap f = l.filterMap g
  | [], _ => rfl
  | a :: l, h => by
    rw [List.filterMap_cons, List.filterMap_cons, h a List.mem_cons_self, fm_congr (l := l) fun b hb => h b (List.mem_cons_of_mem _ hb)]
theorem back_pick (x : Value) (r : List Value) : ((List.range r.length).filterMap fun (k : Nat) => ((x :: r).toArray)[(((r.length : Nat) : Int) + (k : Int) * (-1)).toNat]?) = r.reverse := by
  have step : ∀ k ∈ List.range r.length, ((x :: r).toArray)[(((r.length : Nat) : Int) + (k : Int) * (-1)).toNat]? = r.reverse.toArray[k]? := fun k hk => by
    have hk' := List.mem_range.mp hk
    have e : (((r.length : Nat) : Int) + (k : Int) * (-1)).toNat = (r.length - 1 - k) + 1 := by omega
    rw [e, ← Array.getElem?_toList, ← Array.getElem?_toList]
    show r[r.length - 1 - k]? = r.reverse[k]?
    rw [List.getElem?_reverse hk']
  rw [fm_congr step]
  have := PySem.W.krv_all r.reverse.toArray
  rw [List.size_toArray, List.length_reverse] at this
  exact this
section
variable {prog : Program} {w : World} {A : Around} {E : Value → Shared → Prop} {s : Shared}
theorem applied_back {sl : Addr} {vl vu vs : Value} {n : Nat} {Q : Int × Int × Nat → Shared → Prop} (hs : s.heap.IsSliceOf sl vl vu vs) (pl : IsPart vl none) (pu : IsPart vu (some 0)) (ps : IsPart vs (some (-1)))
    (h : Q ((n : Int), -1, n) s) : wpAny (model prog w) A (Builtin.Slice.sliceApplied (.ref sl) (pure ((n + 1 : Nat) : Int))) Q E s := by
  obtain ⟨os, hos, hcs, hds⟩ := id hs
  unfold Builtin.Slice.sliceApplied Builtin.Slice.sliceFields
  refine wpAny_bind (wpAny_bind (wpAny_field hos hds (x := vl) rfl (wpAny_bind (wpAny_field hos hds (x := vu) rfl (wpAny_bind (wpAny_field hos hds (x := vs) rfl (wpAny_pure ?_)))))))
  refine wpAny_bind (HT.slicePart_ ps ?_)
  show wpAny _ _ (if ((-1 : Int) == 0) = true then _ else _) _ _ s
  rw [if_neg (by decide)]
  refine wpAny_bind (HT.slicePart_ pl (wpAny_bind (HT.slicePart_ pu (wpAny_bind (wpAny_pure ?_)))))
  have e1 : Builtin.Slice.sliceAdjust none (some 0) (-1) ((n + 1 : Nat) : Int) = ((n : Int), 0) := by
    unfold Builtin.Slice.sliceAdjust
    simp only [show ((-1 : Int) < 0) = True from by simp, if_true]
    refine Prod.ext ?_ ?_
    · show ((n + 1 : Nat) : Int) - 1 = (n : Int)
      omega
    · simp
      try omega
  have e2 : Builtin.Slice.slicePlaces (n : Int) 0 (-1) = n := by
    unfold Builtin.Slice.slicePlaces
    rw [if_neg (by decide)]
    by_cases hn : (n : Int) > 0
    · rw [if_pos hn]
      simp
      try omega
    · rw [if_neg hn]
      omega
  show wpAny _ _ (match Builtin.Slice.sliceAdjust none (some 0) (-1) ((n + 1 : Nat) : Int) with | (lo, hi) => pure (lo, (-1 : Int), Builtin.Slice.slicePlaces lo hi (-1))) _ _ s
  rw [e1]
  show wpAny _ _ (pure ((n : Int), (-1 : Int), Builtin.Slice.slicePlaces (n : Int) 0 (-1))) _ _ s
  rw [e2]
  exact wpAny_pure h
theorem item_back {t sl : Addr} {x : Value} {r : List Value} {vl vu vs : Value} {Q : Value → Shared → Prop} (ht : IsTup s.heap t (x :: r).toArray) (hs : s.heap.IsSliceOf sl vl vu vs) (pl : IsPart vl none) (pu : IsPart vu (some 0)) (ps : IsPart vs (some (-1)))
    (hz : r.length ≤ sizeLine) (h : Q (.ref s.heap.objs.size) { s with heap := s.heap.push { cls := .type "tuple", data := .seq r.reverse.toArray } }) : wpAny (model prog w) A (getItem (.ref t) (.ref sl)) Q E s := by
  obtain ⟨os, hos, hcs, hds⟩ := id hs
  have hTs : s.TypeIs (.ref sl) "slice" := ⟨os, hos, hcs⟩
  have fits : sizeOk (.seq r.reverse.toArray) := by
    show r.reverse.toArray.size ≤ sizeLine
    rw [List.size_toArray, List.length_reverse]
    exact hz
  unfold getItem
  try with_reducible refine wpAny_holding ?_
  first | refine wpAny_bind (wpAny_pure ?_) | skip
  refine wpAny_bind (wpAny_sequenceKey ht.typeIs (by decide) ?_)
  refine wpAny_bind (wpAny_callSpecial?_slot (name := Str.ofString "__getitem__") ht.typeIs PyProof.Rows.slot_tuple_getitem (wpAny_call_entry PyProof.Rows.slot_tuple_getitem ht.typeIs entry_tuple_getitem ?_ (args_tuple_getitem _ _)))
  show wpAny _ _ (Builtin.Tuple.tupleItemsOf (.ref t) >>= _) _ _ s
  refine wpAny_bind (PyProof.Rows.tupleItemsOf_ ht ?_)
  refine wpAny_bind (wpAny_typeOf hTs ?_)
  rw [if_pos (by decide)]
  have en : (x :: r).toArray.size = r.length + 1 := by rw [List.size_toArray, List.length_cons]
  rw [en]
  refine wpAny_bind (applied_back (n := r.length) hs pl pu ps ?_)
  show wpAny _ _ (if (((r.length : Nat) : Int) == 0 && (-1 : Int) == 1 && r.length == r.length + 1) = true then _ else _) _ _ s
  rw [if_neg (by rw [show ((-1 : Int) == 1) = false from by decide, Bool.and_false, Bool.false_and]; exact Bool.false_ne_true), back_pick]
  first
    | exact wpAny_bind (m := Builtin.Tuple.tupleExact _) (wpAny_newObj_type (wpAny_pure ⟨_, rfl, wpAny_pure h⟩) fits)
    | exact wpAny_bind (m := Builtin.Tuple.tupleExact _) (wpAny_newObj_type (wpAny_bind (wpAny_pure (wpAny_pure ⟨_, rfl, wpAny_pure h⟩))) fits)
    | exact wpAny_bind (wpAny_bind (m := Builtin.Tuple.tupleExact _) (wpAny_newObj_type (wpAny_pure (wpAny_pure ⟨_, rfl, wpAny_pure h⟩)) fits))
    | exact wpAny_bind (wpAny_bind (m := Builtin.Tuple.tupleExact _) (wpAny_newObj_type (wpAny_pure ⟨_, rfl, wpAny_pure h⟩) fits))
end
section
variable {X : Cx}
def tBackT (K : PySem.W.Frag) (te : TE) : TE := fun σ H Q => te σ H fun x H1 => ∃ a y ys, x = .ref a ∧ SqT K H1 a (y :: ys) ∧ ∀ p, H1 p = none → Q (.ref p) (upd H1 p (.tup ys.reverse))
theorem pe_backT {e : Expr} {te : TE} {k j : Nat} {p0 p1 p2 p3 pos : Pos} (he : PE X e te) : PE X (.Subscript e (.Slice none (some (.Constant (.int 0) j p0)) (some (.UnaryOp .USub (.Constant (.int 1) k p1) p2)) p3) pos) (tBackT X.K te) := by
  refine ⟨fun pins s σ H Q I h => ?_⟩
  refine Subscript_ (thn (he.run pins s σ H _ I h) fun v s1 ⟨x, H1, I1, r1, q1⟩ => ?_)
  obtain ⟨a, y, ys, ex, hx, q⟩ := q1
  subst ex
  cases r1
  have hst : PO X (some (.UnaryOp .USub (.Constant (.int 1) k p1) p2)) (tPart (tUn (rU fun i => .int (-i)) (tC (.int 1)))) := po_some (pe_un un_neg pe_int)
  have hup : PO X (some (.Constant (.int 0) j p0)) (tPart (tC (.int 0))) := po_some pe_int
  refine wpAny_Slice (thn (po_none.run pins s1 σ H1 (fun o H2 => o = none ∧ H2 = H1) I1 ⟨rfl, rfl⟩) fun vl s2 ⟨l, H2, I2, pl, el, e2⟩ => ?_)
  subst el e2
  refine thn (hup.run pins s2 σ H2 (fun o H3 => o = some 0 ∧ H3 = H2) I2 ⟨0, rfl, rfl, rfl⟩) fun vu s3 ⟨u, H3, I3, pu, eu, e3⟩ => ?_
  subst eu e3
  refine thn (hst.run pins s3 σ H3 (fun o H4 => o = some (-1) ∧ H4 = H3) I3 ⟨1, rfl, -1, rfl, rfl, rfl⟩) fun vs s4 ⟨o, H4, I4, ps, eo, e4⟩ => ?_
  subst eo e4
  have I5 : Inv X pins σ H4 { s4 with heap := s4.heap.push { cls := .type "slice", data := .fields #[vl, vu, vs] } } := I4.kept (t' := s4.toks) fun b ob q => Heap.get?_push_of_some _ q
  obtain ⟨its, r, ht, hz⟩ := I5.tuple hx
  cases r with
  | @cons _ u0 _ us r0 rs =>
    have hlen := rs.length
    have hz' : us.length ≤ sizeLine := by
      rw [List.length_cons] at hz
      omega
    show wpAny (model X.prog X.w) X.A (subscriptTail e (.Slice none (some (.Constant (.int 0) j p0)) (some (.UnaryOp .USub (.Constant (.int 1) k p1) p2)) p3) (.ref a) (.ref s4.heap.objs.size)) (EP X pins σ Q) X.xe { s4 with heap := s4.heap.push { cls := .type "slice", data := .fields #[vl, vu, vs] } }
    refine tail_any (ops := [.ref a, .ref s4.heap.objs.size]) ht.typeIs (PyProof.Rows.slot_tuple_getitem.lookup) ?_ (by with_unfolding_all rfl)
    refine item_back ht (Heap.IsSliceOf.new _ vl vu vs) pl pu ps hz' ?_
    refine ⟨.ref _, _, I5.laid (t' := s4.toks) (o := .tup ys.reverse) (fun b ob q => Heap.get?_push_of_some _ q) (Nat.le_refl _) ?_, rfl, q _ (I5.hok.fresh (Nat.le_refl _))⟩
    exact ⟨by rw [List.length_reverse, hlen]; exact hz', _, L2.Vals.reverse rs, IsTup.new _ _⟩
/-- l.extend(t) of a tuple -/
def rExtendT (K : PySem.W.Frag) : V → List V → Hp → VK → Prop := fun x vs H Q => ∃ l b xs zs, x = .ref l ∧ vs = [.ref b] ∧ H l = some (.lst xs) ∧ SqT K H b zs ∧ xs.length + zs.length ≤ sizeLine ∧ Q .non (upd H l (.lst (xs ++ zs)))
theorem ext_meets (l : Addr) (items : Array Value) (n : Nat) (b : Addr) (items2 : Array Value) (n2 : Nat) (dd : Option Addr) (sl : Array (Option Value)) (hs0 : ¬(!items.isEmpty && Builtin.List.listTooLong (items.size + items2.size)) = true) (hs1 : items.size ≤ sizeLine) (hs2 : items.size + items2.size ≤ sizeLine + 1) :
    Meets (Builtin.«list.extend» ⟨[.ref l, .ref b], []⟩) (fun _ R s => s.heap.get? l = some { cls := .type "list", dict := none, data := .seq items n, slots := #[] } ∧ s.heap.get? b = some { cls := .type "tuple", dict := dd, data := .seq items2 n2, slots := sl } ∧ R (.ok (.ret Value.none)) { s with heap := s.heap.update l (Obj.mapSeq fun x => x ++ items2), toks := s.toks }) :=
  .of_wp fun prog w A R s h => by
    obtain ⟨hp, g, d, tk, os⟩ := s
    obtain ⟨hl, hb, h⟩ := h
    have f1 := AutoSeq1.idx_int
    have f2 := AutoSeq1.sub_tuple_tuple
    have f3 := AutoSeq1.sub_list_list
    have f4 := AutoSeq1.sub_tuple_list
    have f5 := AutoSeq1.sub_list_tuple
    have hz' : (items ++ items2).size ≤ sizeLine + 1 := by rw [Array.size_append]; exact hs2
    wp_walk using (wpAny_updateSeq hl rfl (hz := hs1) (_hz' := hz')), AutoSeq1.wpAny_loadPart' hl, AutoSeq1.wpAny_loadPart' hb
    exact ⟨_, rfl, h⟩
theorem mt_extendT : MtM X "list.extend" (rExtendT X.K) := by
  intro pins s σ H x vs v us Q I rx rv h
  obtain ⟨l, b, xs, zs, rfl, rfl, hH, hB, hz, q⟩ := h
  cases rx
  obtain ⟨u, rfl, ru⟩ := rv.one
  cases ru
  obtain ⟨z, its, n, r, hl, e⟩ := I.lstM hH
  obtain ⟨its2, r2, ⟨⟨c2, dd, data, sl⟩, e2, hc2, n2, hd2⟩, hz2⟩ := I.tuple hB
  simp only at hc2 hd2
  subst hc2 hd2
  have hl2 := r2.length
  have hsz : its.toArray.size + its2.toArray.size ≤ sizeLine := by rw [List.size_toArray, List.size_toArray]; omega
  have hlong : ¬ (!its.toArray.isEmpty && Builtin.List.listTooLong (its.toArray.size + its2.toArray.size)) = true := by
    rw [notLongL hsz, Bool.and_false]
    exact Bool.false_ne_true
  refine call_meets F.slot_list_extend ⟨_, e, rfl⟩ F.entry_list_extend (F.args_list_extend_2 _ _) (ext_meets l its.toArray n b its2.toArray n2 dd sl hlong (by rw [List.size_toArray]; omega) (by omega)) ⟨e, e2, ?_⟩
  refine ⟨.non, _, I.lset (its' := its ++ its2) hH e (by simp) (r.append r2) ?_, rfl, q⟩
  rw [List.length_append]
  omega
end
end FvG


set_option maxHeartbeats 2000000
namespace FvG
open PySem PySem.Spec PyProof.Rows L2 GenW Fv
/-! ### a heap's lower part -/
theorem lower_part (h : Heap) (n : Nat) (hn : n ≤ h.objs.size) : ∃ G : Heap, G.objs.size = n ∧ (∀ b, b < n → G.get? b = h.get? b) ∧ ∀ b, n ≤ b → G.get? b = none := by
  refine ⟨{ h with objs := h.objs.extract 0 n }, ?_, fun b hb => ?_, fun b hb => ?_⟩
  · show (h.objs.extract 0 n).size = n
    rw [Array.size_extract]
    omega
  · have e : (h.objs.extract 0 n)[b]? = h.objs[b]? := by
      rw [Array.getElem?_extract]
      rw [if_pos (by omega), Nat.zero_add]
    unfold Heap.get?
    simp only [e]
  · have e : (h.objs.extract 0 n)[b]? = none := by
      rw [Array.getElem?_extract, if_neg (by omega)]
    unfold Heap.get?
    simp only [e]
/-- s0 is s below L -/
structure Low (L : Addr) (s0 s : Shared) : Prop where
  size : s0.heap.objs.size = L
  same : ∀ b o, s0.heap.get? b = some o → s.heap.get? b = some o
  back : ∀ b o, b < L → s.heap.get? b = some o → s0.heap.get? b = some o
  os : s0.os = s.os
theorem Low.refl (s : Shared) : Low s.heap.objs.size s s := ⟨rfl, fun _ _ e => e, fun _ _ _ e => e, rfl⟩
theorem low_of (s : Shared) {L : Addr} (h : L ≤ s.heap.objs.size) : ∃ s0, Low L s0 s := by
  obtain ⟨G, g1, g2, g3⟩ := lower_part s.heap L h
  refine ⟨{ s with heap := G }, g1, fun b o e => ?_, fun b o hb e => ?_, rfl⟩
  · by_cases hb : b < L
    · rw [← g2 b hb]; exact e
    · have z : G.get? b = some o := e
      rw [g3 b (Nat.le_of_not_lt hb)] at z
      cases z
  · show G.get? b = some o
    rw [g2 b hb]; exact e
/-- the addresses from L on -/
def high (L : Addr) (s : Shared) : List Addr := List.range' L (s.heap.objs.size - L)
theorem range_iff (L n b : Nat) : (L ≤ b ∧ b < L + (n - L)) ↔ (L ≤ b ∧ b < n) := by omega
theorem high_mem {L : Addr} {s : Shared} {b : Addr} : b ∈ high L s ↔ L ≤ b ∧ b < s.heap.objs.size := by
  unfold high
  rw [List.mem_range'_1]
  exact range_iff L s.heap.objs.size b
/-- what a run of the generator's, begun at s with H, has left for those who wait for it -/
structure Moved (P : Program) (w : World) (outer : List Env) (L : Addr) (W : List Addr) (H H1 : Hp) (s s1 : Shared) : Prop where
  os : s1.os = s.os
  bare : AllBare s1.gens
  un : Un (frs outer) (high L s) H H1 s.heap s1.heap
  hok : HOk P w H1 s1.heap
  sm : SmX W H H1
/-! ### the generator's frame, awake -/
/-- the context of a generator's code that was woken at s0; nothing leaves it -/
def wx (P : Program) (w : World) (K : PySem.W.Frag) (mg : Str → Option Value) (base : Heap) (N : List Str) (qual : Str) (scope : Scope) (f : Addr) (cd : Value) (A : Around) (outer : List Env) (L : Addr) (pn : List (Addr × Obj)) (s0 : Shared) (H0 : Hp) : Cx where
  prog := P
  w := w
  K := K
  mg := mg
  base := base
  A := A.deeper (envOfC qual scope L f cd)
  N := N
  s_0 := s0
  H_0 := H0
  env := envOfC qual scope L f cd
  outer := outer
  stack := envOfC qual scope L f cd :: outer
  ex := []
  fn := fun _ => true
  calm := true
  pn := pn
  xe := fun _ _ => False
section
variable {P : Program} {w : World} {K : PySem.W.Frag} {mg : Str → Option Value} {base : Heap} {N : List Str} {qual : Str} {scope : Scope} {f : Addr} {cd : Value} {A A' : Around} {outer : List Env} {L : Addr} {pn : List (Addr × Obj)} {s0 s s1 : Shared} {H H1 : Hp} {σ : L2.St} {W : List Addr}
/-- no name of the def is a cell -/
def NoCell (scope : Scope) : Prop := cellsFrom 0 scope.names [] = [] ∧ ∀ n, cellsFrom n scope.names [] = []
/-- what the sleeper's frame holds -/
structure Holds (N : List Str) (qual : Str) (scope : Scope) (f : Addr) (cd : Value) (L : Addr) (σ : L2.St) (h : Heap) : Prop where
  ns : ∃ m, h.Ns L m ∧ ∀ (i : Nat) (x : Str) (v : V), N[i]? = some x → σ[i]? = some (some v) → Vis scope x → ∃ u, RelV v u ∧ Look (envOfC qual scope L f cd) h m x u
  len : σ.length = N.length
theorem Holds.keep {h h' : Heap} {o : Obj} (nc : NoCell scope) (x : Holds N qual scope f cd L σ h) (e : h.get? L = some o) (e' : h'.get? L = some o) : Holds N qual scope f cd L σ h' := by
  obtain ⟨m, ⟨o', es, ep, ho, hr⟩, hl⟩ := x.ns
  rw [e] at ho
  cases ho
  refine ⟨⟨m, ⟨o, es, ep, e', hr⟩, fun i y v h1 h2 h3 => ?_⟩, x.len⟩
  obtain ⟨u, ru, lk⟩ := hl i y v h1 h2 h3
  refine ⟨u, ru, ?_⟩
  rcases lk with lk | ⟨_, c, hc, _⟩
  · exact .inl lk
  · exfalso
    have z : (cellsFrom (L + 1) scope.names []).lookup y = some c := hc
    rw [nc.2] at z
    cases z
theorem wake_inv (nc : NoCell scope) (hk : scope.kind = .function) (nf : ∀ y ∈ scope.names, y.2 ≠ .free ∧ y.2 ≠ .cell) (e0 : Env0 P w K mg base A' outer s H) (hfr : A.frames = some outer) (hh : A.handled = none) (lo : Low L s0 s) (hbl : base.objs.size ≤ L) (hol : ∀ b ∈ frs outer, b < L)
    (hN : Holds N qual scope f cd L σ s.heap) (hL : H L = none) (hpn : ∀ p ∈ pn, s.heap.get? p.1 = some p.2 ∧ H p.1 = none ∧ p.1 ≠ L ∧ p.1 ∉ frs outer ∧ ∀ v, p.2.data ≠ .cell v) :
    Inv (wx P w K mg base N qual scope f cd A outer L pn s0 H) [] σ H s := by
  have nocell : ∀ {y c}, (envOfC qual scope L f cd).cells.lookup y = some c → False := fun {y c} z => by
    have z : (cellsFrom (L + 1) scope.names []).lookup y = some c := z
    rw [nc.2] at z
    cases z
  have blt : ∀ b o, base.get? b = some o → b < L := fun b o e => Nat.lt_of_lt_of_le (Heap.lt_size e) hbl
  have funs : s0.heap.FunFrames base outer := by
    have all : ∀ l : List Env, (∀ b ∈ frs l, b < L) → s.heap.FunFrames base l → s0.heap.FunFrames base l := by
      intro l
      induction l with
      | nil => intro _ _; trivial
      | cons e r ih =>
        intro hl hx
        obtain ⟨h1, ⟨L', o, hf, hn, ho, hd⟩, hr⟩ := hx
        have mem : L' ∈ frs (e :: r) := by
          unfold frs
          rw [List.filterMap_cons, hf]
          exact List.mem_cons_self
        refine ⟨h1, ⟨L', o, hf, hn, lo.back _ _ (hl _ mem) ho, hd⟩, ih (fun b hb => hl b ?_) hr⟩
        unfold frs
        rw [List.filterMap_cons, hf]
        exact List.mem_cons_of_mem _ hb
    exact all outer hol e0.funs
  refine ⟨⟨e0.mod, hk, rfl, rfl, Nat.le_of_eq lo.size, fun _ _ _ z _ => (nocell z).elim, fun y hy => ?_, fun _ _ _ z => (nocell z).elim, fun _ => hh, Around.frames_deeper hfr, .inr ⟨rfl, rfl⟩, fun b z => absurd z (show b ∉ ([] : List Addr) by simp), fun b o e => ?_, by rw [show (wx P w K mg base N qual scope f cd A outer L pn s0 H).s_0 = s0 from rfl, lo.size]; exact hbl,
    fun b _ _ => show b ∉ ([] : List Addr) by simp, fun b z => absurd z (show b ∉ ([] : List Addr) by simp), funs, e0.frf⟩, lo.os.symm, e0.bare, ⟨fun b o e _ _ _ => lo.same b o e, fun b o e _ _ _ => ⟨o.slots, lo.same b o e⟩, fun _ _ _ n _ => n, fun b o e _ => ⟨o, lo.same b o e⟩, fun _ _ e => e, fun _ _ _ e => e, fun b ps e => ⟨#[], by rw [Array.append_empty]; exact e⟩⟩,
    hN.ns, fun _ _ z => (nocell z).elim, hL, fun _ _ z => (nocell z).elim, fun p hp => ?_, e0.hok, hN.len⟩
  · have hy : scope.names.lookup y = some .cell ∨ scope.names.lookup y = some .free := hy
    rcases hy with hy | hy
    · exact absurd rfl (nf _ (PySem.mem_of_lookup hy)).2
    · exact absurd rfl (nf _ (PySem.mem_of_lookup hy)).1
  · obtain ⟨q1, q2⟩ := e0.bs b o e
    exact ⟨lo.back _ _ (blt b o e) q1, q2⟩
  · rw [List.append_nil] at hp
    exact hpn p hp
/-- the run's trace, for those who wait -/
theorem moved_of (lo : Low L s0 s) (I : Inv (wx P w K mg base N qual scope f cd A outer L pn s0 H) [] σ H1 s1) (sm : SmX W H H1) : Moved P w outer L W H H1 s s1 := by
  have small : ∀ b o, b ∉ high L s → s.heap.get? b = some o → s0.heap.get? b = some o := fun b o hb e => by
    refine lo.back b o ?_ e
    have := Heap.lt_size e
    rcases Nat.lt_or_ge b L with z | z
    · exact z
    · exact absurd (high_mem.mpr ⟨z, this⟩) hb
  have no : ∀ b, b ∉ (wx P w K mg base N qual scope f cd A outer L pn s0 H).ex := fun b => show b ∉ ([] : List Addr) by simp
  refine ⟨I.os.trans lo.os, I.bare, ⟨fun b o e n hb hx => I.base.keep b o (small b o hx e) n hb (no b), fun b o e n hb hx => I.base.slot b o (small b o hx e) n hb (no b), fun b o e n hx => I.base.free b o (small b o hx e) n (no b), fun b o e hx => I.base.there b o (small b o hx e) (no b), I.base.tups, I.base.frzs, I.base.tbls⟩, I.hok, sm⟩
theorem holds_of (I : Inv (wx P w K mg base N qual scope f cd A outer L pn s0 H) [] σ H1 s1) : Holds N qual scope f cd L σ s1.heap := ⟨I.loc, I.len⟩
end
/-! ### a name stored, the state told -/
section
variable {X : Cx} {pins : List (Addr × Obj)} {σ : L2.St} {H : Hp} {s : Shared}
theorem store_loc {M : Model} {A : Around} {E : Value → Shared → Prop} {i : Nat} {x : Str} {v : V} {u : Value} {Q : Unit → Shared → Prop} (I : Inv X pins σ H s) (hN : X.N.Nodup) (hi : X.N[i]? = some x) (hk : X.env.scope.names.lookup x = some .local) (r : RelV v u)
    (h : ∀ h' t', Inv X pins (σ.set i (some v)) H { s with heap := h', toks := t' } → Q () { s with heap := h', toks := t' }) : wpAny M A (storeName X.env x u) Q E s := by
  obtain ⟨m, hn, hl⟩ := id I.loc
  have nk : (X.env.scope.kind == .class || (X.env.scope.kind == .module && X.env.locals != X.env.globals)) = false := by rw [I.ok.kind]; rfl
  have il : i < σ.length := by rw [I.len]; exact (List.getElem?_eq_some_iff.mp hi).1
  refine wpAny_storeName_local hk hn (fun h' hn' hs => h h' _ ?_) nk
  have low : ∀ {b o}, X.s_0.heap.get? b = some o → b ≠ X.env.locals := fun {b o} e => Nat.ne_of_lt (Nat.lt_of_lt_of_le (Heap.lt_size e) I.ok.above)
  have keep : ∀ {b o}, b ≠ X.env.locals → s.heap.get? b = some o → h'.get? b = some o := fun {b o} ne e => (hs.2 b ne).trans e
  have trk : ∀ {b o}, H b = some o → b ≠ X.env.locals := fun {b o} e z => by rw [z, I.free] at e; cases e
  refine ⟨I.ok, I.os, I.bare, ⟨fun b o e n hb hx => keep (low e) (I.base.keep b o e n hb hx), fun b o e n hb hx => ?_, I.base.free, fun b o e hx => ?_, I.base.tups, I.base.frzs, I.base.tbls⟩, ⟨_, hn', fun j y v' e1 e2 e3 => ?_⟩, fun y c e => ?_, I.free, I.freeC, fun p hp => ?_, fun b o e => ?_, by rw [List.length_set]; exact I.len⟩
  · obtain ⟨sl, q⟩ := I.base.slot b o e n hb hx
    exact ⟨sl, keep (low e) q⟩
  · obtain ⟨o', q⟩ := I.base.there b o e hx
    exact ⟨o', keep (low e) q⟩
  · by_cases hj : j = i
    · subst hj
      rw [hi] at e1
      cases e1
      rw [List.getElem?_set_self il] at e2
      cases e2
      exact ⟨u, r, .inl ⟨hk, by simp⟩⟩
    · rw [List.getElem?_set_ne (Ne.symm hj)] at e2
      obtain ⟨u', r', q⟩ := hl j y v' e1 e2 e3
      refine ⟨u', r', ?_⟩
      rcases q with ⟨k, e⟩ | ⟨k, c, e, z⟩
      · have ne : y ≠ x := fun e => hj (nodup_ix hN e1 (e ▸ hi))
        exact .inl ⟨k, by simp [ne, e]⟩
      · exact .inr ⟨k, c, e, z.sameBut hs (I.cne y c e)⟩
  · obtain ⟨v', z⟩ := I.cell y c e
    exact ⟨v', z.sameBut hs (I.cne y c e)⟩
  · obtain ⟨e, n, ne, nf, d⟩ := I.pin p hp
    exact ⟨keep ne e, n, ne, nf, d⟩
  · refine (I.hok b o e).stay (fun c q hc z => keep ?_ z) (fun _ z => z) fun _ _ z => z
    rcases hc with y | y
    · rw [y]; exact trk e
    · exact trk y
end
end FvG


set_option maxHeartbeats 2000000
namespace FvG
open PySem PySem.Spec PyProof.Rows L2 GenW Fv
/-! ### a generator that was just made -/
/-- the generator's own object -/
structure GObj (go : Obj) (g : Nat) : Prop where
  cls : go.cls = .type "generator"
  dat : ∃ nm qn, go.data = .fields #[.int g 0, nm, qn]
  slo : go.slots = #[]
theorem GObj.is {go : Obj} {g : Nat} {h : Heap} {a : Addr} (x : GObj go g) (e : h.get? a = some go) : h.IsGen a g := let ⟨nm, qn, hd⟩ := x.dat; ⟨go, nm, qn, e, x.cls, hd, x.slo⟩
theorem GObj.nocell {go : Obj} {g : Nat} (x : GObj go g) : ∀ v, go.data ≠ .cell v := fun v e => by
  obtain ⟨nm, qn, hd⟩ := x.dat
  rw [hd] at e
  cases e
/-- s' is s with a generator at a, number g, that has not begun; its frame lies where s ended -/
structure Born (P : Program) (w : World) (K : PySem.W.Frag) (mg : Str → Option Value) (base : Heap) (N : List Str) (qual : Str) (scope : Scope) (f : Addr) (cd : Value) (body : List Stmt) (outer : List Env) (H : Hp) (vs : List V) (s : Shared) (a : Addr) (g : Nat) (go : Obj) (s' : Shared) : Prop where
  obj : GObj go g
  at_ : s'.heap.get? a = some go
  above : s.heap.objs.size < a
  gen : s'.gens[g]? = some (.fresh (.func body (envOfC qual scope s.heap.objs.size f cd)))
  os : s'.os = s.os
  bare : AllBare s'.gens
  lim : s'.heap.NoLimit
  keep : ∀ b o, s.heap.get? b = some o → s'.heap.get? b = some o
  begin_ : ∀ (Aw : Around) (E : XK) (s2 : Shared), Aw.frames = some outer → Aw.handled = none → (∀ b o, s'.heap.get? b = some o → s2.heap.get? b = some o) → s2.os = s.os → AllBare s2.gens → Inv (gcxOf P w K mg base N qual scope f cd Aw outer s H E [(a, go)]) [] (start N vs) H s2
section
variable {P : Program} {w : World} {K : PySem.W.Frag} {mg : Str → Option Value} {base : Heap} {f : Addr} {name qual : Str} {params : Arguments} {body : List Stmt} {scope : Scope} {dV kV doc pm cdv ct oc : Value} {an od : Option Addr} {osl : Array (Option Value)} {N ps : List Str}
  {A : Around} {outer : List Env} {s : Shared} {H : Hp} {args : Args} {us : List Value} {vs : List V}
theorem born_of (lk : K.lookup f = some ⟨oc, od, .func (PySem.W.fnOf name qual params body scope dV kV doc pm an cdv ct), osl⟩) (hcd : PySem.W.codeIn K cdv qual = true) (S : GScope N ps scope) (hl : vs.length = ps.length) (dp : A.depth < recursionLimit) (hh : A.handled = none)
    (e0 : Env0 P w K mg base A outer s H) (hb : BindsTo s (PySem.W.fnOf name qual params body scope dV kV doc pm an cdv ct) args (ps.zip us)) (rv : Vals vs us) :
    codeAny (model P w) A (.call (.ref f) args) (fun r s' => ∃ a g go, r = .ok (.ret (.ref a)) ∧ Born P w K mg base N qual scope f cdv body outer H vs s a g go s') s := by
  have kin : K.In s.heap := e0.mod.kin.keeps fun b o e => (e0.bs b o e).1
  have nolim : s.heap.NoLimit := e0.mod.nolimit.keeps fun b o e => (e0.bs b o e).1
  have kinds : ∀ y ∈ ps.zip us, scope.names.lookup y.1 = some .local ∨ (scope.names.lookup y.1 = some .cell ∧ ((cellsFrom (s.heap.objs.size + 1) scope.names []).lookup y.1).isSome = true) := fun y hy => by
    rcases S.par y.1 (List.of_mem_zip (a := y.1) (b := y.2) hy).1 with z | z
    · exact .inl z
    · exact .inr ⟨z, PySem.W.cellsFrom_some _ _ _ (.inl z)⟩
  refine codeAny_call_generator dp (kin _ _ lk) rfl S.co S.gen rfl (PySem.W.codeRec_of kin hcd) (hb _ _ _ _ ?_)
  refine wpAny_newFunctionEnv_cells S.kind kinds fun env he s1 x => ?_
  subst he
  have lim1 : s1.heap.NoLimit := nolim.keeps x.toInCall.keep
  refine ⟨lim1, ?_⟩
  obtain ⟨h1, tk, es1, _⟩ := x.done
  have gs1 : s1.gens = s.gens := by rw [es1]
  have os1 : s1.os = s.os := by rw [es1]
  have lt1 : s.heap.objs.size < s1.heap.objs.size := x.toInCall.ns.lt
  have k1 : ∀ b o, s.heap.get? b = some o → s1.heap.get? b = some o := x.toInCall.keep
  refine ⟨s1.heap.objs.size, s1.gens.size, _, rfl, ⟨rfl, ⟨_, _, rfl⟩, rfl⟩, Heap.get?_push_size _ rfl, lt1, Array.getElem?_push_size .., os1, AllBare.push (by rw [gs1]; exact e0.bare) rfl, lim1.keeps fun b o e => Heap.get?_push_of_some _ e, fun b o e => Heap.get?_push_of_some _ (k1 b o e), fun Aw E s2 hfr hd k2 o2 b2 => ?_⟩
  have e1 : Env0 P w K mg base Aw outer s H := ⟨hfr, e0.mod, e0.bs, e0.bsz, e0.funs, e0.frf, e0.hok, e0.bare⟩
  have I1 : Inv (gcxOf P w K mg base N qual scope f cdv Aw outer s H E []) [] (start N vs) H s1 := inv_startG S hd e1 hl rv x
  have kp : ∀ b o, s1.heap.get? b = some o → s2.heap.get? b = some o := fun b o e => k2 b o (Heap.get?_push_of_some _ e)
  have I2 : Inv (gcxOf P w K mg base N qual scope f cdv Aw outer s H E []) [] (start N vs) H s2 := I1.call' (ch := []) (o2.trans os1.symm) (Un.kept kp) (I1.hok.kept kp) b2 fun b z => absurd z (by simp)
  refine Inv.pinnedG I2 fun p hp => ?_
  rw [List.append_nil] at hp
  rw [List.mem_singleton.mp hp]
  refine ⟨k2 _ _ (Heap.get?_push_size _ rfl), I1.hok.fresh (Nat.le_refl _), Nat.ne_of_gt lt1, I1.nofs (Nat.le_refl _), fun v q => ?_⟩
  cases q
end
end FvG


namespace Fv
open PySem PySem.Spec PyProof.Rows L2 FvX TL
/-! ### reading, as the program reads: a mirror over code points -/
/-- k signs from at on -/
def sub (T : List Nat) (at' k : Nat) : Str := ⟨((T.drop at').take k).toArray⟩
theorem tl_sub (T : List Nat) (a k : Nat) : tl (sub T a k) = (T.drop a).take k := rfl
theorem cut_sub (z : Str) (a k : Nat) : cutS z (some (a : Int)) (some ((a : Int) + (k : Nat))) = sub (tl z) a k := by
  refine ext_tl ?_
  have e : ((a : Int) + (k : Nat)) = ((a + k : Nat) : Int) := by omega
  rw [tl_sub, e]
  show ((z.cps.toList.drop (HT.sIx z.length 0 (some (a : Int)))).take (HT.sIx z.length z.length (some ((a + k : Nat) : Int)) - HT.sIx z.length 0 (some (a : Int)))) = _
  rw [HT.sIx_nat, HT.sIx_nat]
  have hl : z.length = (tl z).length := len_tl z
  have hl2 : z.length = z.cps.toList.length := len_tl z
  by_cases h : a ≤ z.length
  · rw [Nat.min_eq_left h]
    by_cases h2 : a + k ≤ z.length
    · rw [Nat.min_eq_left h2, Nat.add_sub_cancel_left]
    · rw [Nat.min_eq_right (by omega), List.take_of_length_le (by rw [List.length_drop]; omega), List.take_of_length_le (by rw [List.length_drop]; omega)]
  · rw [Nat.min_eq_right (by omega : z.length ≤ a), List.drop_of_length_le (by omega), List.drop_of_length_le (by omega), List.take_nil, List.take_nil]
theorem sub_len (T : List Nat) (a k : Nat) : (sub T a k).length ≤ k := by
  rw [len_tl, tl_sub, List.length_take]; omega
theorem sub_in {T : List Nat} {a k n : Nat} (h : (sub T a k).length = n) (hn : 0 < n) : a + n ≤ T.length := by
  rw [len_tl, tl_sub, List.length_take, List.length_drop] at h
  omega
def rdL (P : Nat → Option (PyData × Nat)) (T : List Nat) (sg : Str) : Nat → Nat → List PyData → Option (List PyData × Nat)
  | 0, _, _ => none
  | f + 1, a, acc => if sub T a 3 = sg then (match P (a + 3) with
    | none => none
    | some (d, e) => rdL P T sg f e (acc ++ [d])) else some (acc, a)
def sgn (s : Str) : Str := if s = " & " then "&" else "|"
def isSg (s : Str) : Prop := s = " & " ∨ s = " | "
instance (s : Str) : Decidable (isSg s) := inferInstanceAs (Decidable (_ ∨ _))
def rdT (P : Nat → Option (PyData × Nat)) (T : List Nat) (a : Nat) : Option (PyData × Nat) := match P a with
  | none => none
  | some (d, e) => if isSg (sub T e 3) then (match rdL P T (sub T e 3) (T.length + 1 - e) e [d] with
      | none => none
      | some (ds, e') => some (.tuple (.str (sgn (sub T e 3)) :: ds), e')) else if isLd d = true then some (d, e) else none
def rdP (T : List Nat) : Nat → Nat → Option (PyData × Nat)
  | 0 => fun a => if isL (sub T a 1) = true then some (.str (sub T a 1), a + 1) else none
  | n + 1 => fun a => if isL (sub T a 1) = true then some (.str (sub T a 1), a + 1) else if sub T a 1 = "(" then (match rdT (rdP T n) T (a + 1) with
      | none => none
      | some (d, e) => if isLd d = true ∨ sub T e 1 ≠ ")" then none else some (d, e + 1)) else none
theorem isL_one {x : Str} (h : isL x = true) : x ∈ (["a", "b", "c", "d", "e", "f", "g", "h"] : List Str) := by
  have hl := isL_len h
  rw [len_tl] at hl
  obtain ⟨c, ec⟩ : ∃ c, tl x = [c] := by
    match tl x, hl with
    | [c], _ => exact ⟨c, rfl⟩
  have ex : x = ⟨#[c]⟩ := ext_tl (by rw [ec])
  subst ex
  unfold isL at h
  rw [Bool.and_eq_true] at h
  have h2 := h.2
  rw [PySem.StrLaws.found_one, decide_eq_true_eq] at h2
  have e : ("abcdefgh" : Str).cps.toList = [97, 98, 99, 100, 101, 102, 103, 104] := by decide +kernel
  rw [e] at h2
  have all : ∀ c ∈ ([97, 98, 99, 100, 101, 102, 103, 104] : List Nat), (⟨#[c]⟩ : Str) ∈ (["a", "b", "c", "d", "e", "f", "g", "h"] : List Str) := by decide +kernel
  exact all c h2
theorem isL_gd {x : Str} (h : isL x = true) (n : Nat) : gd n (.str x) = true := gd_le (isL_lett (isL_one h)).2 (Nat.zero_le _)
theorem sg_len {s : Str} (h : isSg s) : s.length = 3 := by rcases h with h | h <;> rw [h] <;> decide +kernel
/-- what a reading of parts promises -/
def PFine (T : List Nat) (n : Nat) (P : Nat → Option (PyData × Nat)) : Prop := ∀ a d e, P a = some (d, e) → a < e ∧ e ≤ T.length ∧ gd n d = true
theorem rdL_fine {T : List Nat} {n : Nat} {P : Nat → Option (PyData × Nat)} (hP : PFine T n P) {sg : Str} (hs : sg.length = 3) : ∀ (f a : Nat) (acc ds : List PyData) (e : Nat), rdL P T sg f a acc = some (ds, e) →
    (∀ d ∈ acc, gd n d = true) → 4 * acc.length ≤ a + 3 → a ≤ T.length → (∀ d ∈ ds, gd n d = true) ∧ 4 * ds.length ≤ e + 3 ∧ a ≤ e ∧ e ≤ T.length
  | 0, a, acc, ds, e, h, _, _, _ => by cases h
  | f + 1, a, acc, ds, e, h, hg, hl, ha => by
    unfold rdL at h
    by_cases c : sub T a 3 = sg
    · rw [if_pos c] at h
      cases hp : P (a + 3) with
      | none => rw [hp] at h; cases h
      | some r =>
        obtain ⟨d, e1⟩ := r
        rw [hp] at h
        obtain ⟨h1, h2, h3⟩ := hP _ _ _ hp
        have z := rdL_fine hP hs f e1 (acc ++ [d]) ds e h (fun x hx => by
          rcases List.mem_append.mp hx with q | q
          · exact hg x q
          · rw [List.mem_singleton.mp q]; exact h3) (by rw [List.length_append, List.length_singleton]; omega) h2
        exact ⟨z.1, z.2.1, by omega, z.2.2.2⟩
    · rw [if_neg c] at h
      cases h
      exact ⟨hg, hl, Nat.le_refl _, ha⟩
theorem rdT_fine {T : List Nat} {n : Nat} {P : Nat → Option (PyData × Nat)} (hT : T.length ≤ 2900) (hP : PFine T n P) : PFine T (n + 1) (rdT P T) := by
  intro a d e h
  unfold rdT at h
  cases hp : P a with
  | none => rw [hp] at h; cases h
  | some r =>
    obtain ⟨d1, e1⟩ := r
    rw [hp] at h
    obtain ⟨h1, h2, h3⟩ := hP _ _ _ hp
    dsimp only at h
    by_cases c : isSg (sub T e1 3)
    · rw [if_pos c] at h
      cases hr : rdL P T (sub T e1 3) (T.length + 1 - e1) e1 [d1] with
      | none => rw [hr] at h; cases h
      | some r =>
        obtain ⟨ds, e2⟩ := r
        rw [hr] at h
        cases h
        obtain ⟨z1, z2, z3, z4⟩ := rdL_fine hP (sg_len c) _ _ _ _ _ hr (fun x hx => by rw [List.mem_singleton.mp hx]; exact h3) (by rw [List.length_singleton]; omega) h2
        refine ⟨by omega, z4, gd_tup (fun x hx => ?_) (by rw [List.length_cons]; omega)⟩
        rcases List.mem_cons.mp hx with q | q
        · rw [q]
          refine gd_le (n := 0) ?_ (Nat.zero_le _)
          unfold sgn
          split <;> decide +kernel
        · exact z1 x q
    · rw [if_neg c] at h
      by_cases c2 : isLd d1 = true
      · rw [if_pos c2] at h
        cases h
        exact ⟨h1, h2, gd_up _ _ h3⟩
      · rw [if_neg c2] at h; cases h
theorem rdP_fine {T : List Nat} (hT : T.length ≤ 2900) : ∀ n : Nat, PFine T n (rdP T n)
  | 0 => fun a d e h => by
    unfold rdP at h
    by_cases c : isL (sub T a 1) = true
    · rw [if_pos c] at h
      cases h
      exact ⟨by omega, sub_in (isL_len c) (by decide), isL_gd c _⟩
    · rw [if_neg c] at h; cases h
  | n + 1 => fun a d e h => by
    unfold rdP at h
    by_cases c : isL (sub T a 1) = true
    · rw [if_pos c] at h
      cases h
      exact ⟨by omega, sub_in (isL_len c) (by decide), isL_gd c _⟩
    · rw [if_neg c] at h
      by_cases c2 : sub T a 1 = "("
      · rw [if_pos c2] at h
        cases hr : rdT (rdP T n) T (a + 1) with
        | none => rw [hr] at h; cases h
        | some r =>
          obtain ⟨d1, e1⟩ := r
          rw [hr] at h
          dsimp only at h
          obtain ⟨h1, h2, h3⟩ := rdT_fine hT (rdP_fine hT n) _ _ _ hr
          by_cases c3 : isLd d1 = true ∨ sub T e1 1 ≠ ")"
          · rw [if_pos c3] at h; cases h
          · rw [if_neg c3] at h
            cases h
            have c4 : sub T e1 1 = ")" := Classical.not_not.mp fun z => c3 (.inr z)
            exact ⟨by omega, sub_in (by rw [c4]; decide +kernel) (by decide), h3⟩
      · rw [if_neg c2] at h; cases h
theorem sub_ok {x : Str} (h : PyData.strOk x = true) (a k : Nat) : PyData.strOk (sub (tl x) a k) = true := by
  unfold PyData.strOk at h ⊢
  rw [← Array.all_toList, List.all_eq_true] at h ⊢
  intro c hc
  exact h c (List.mem_of_mem_drop (List.mem_of_mem_take hc))
theorem sub_gd {x : Str} (h : PyData.strOk x = true) (a k : Nat) (hk : k ≤ 3) (n : Nat) : gd n (.str (sub (tl x) a k)) = true := by
  refine gd_le (n := 0) ?_ (Nat.zero_le _)
  have := sub_len (tl x) a k
  show (PyData.strOk (sub (tl x) a k) && decide ((sub (tl x) a k).length ≤ 100000)) = true
  rw [sub_ok h, decide_eq_true (by omega)]
  rfl
theorem cut1 (z : Str) (a : Nat) : cutS z (some (a : Int)) (some ((a : Int) + 1)) = sub (tl z) a 1 := cut_sub z a 1
theorem cut3 (z : Str) (a : Nat) : cutS z (some (a : Int)) (some ((a : Int) + 3)) = sub (tl z) a 3 := cut_sub z a 3
theorem sub_one {T : List Nat} {a : Nat} (h : (sub T a 1).length = 1) : ∃ c, T[a]? = some c ∧ sub T a 1 = ⟨#[c]⟩ := by
  have hl := sub_in h (by decide)
  refine ⟨T[a], List.getElem?_eq_getElem (by omega), ext_tl ?_⟩
  rw [tl_sub, List.drop_eq_getElem_cons (by omega)]
  rfl
def outR (K : PySem.W.Frag) (CT : Addr) (M : List Addr) (r : Option (PyData × Nat)) (H : Hp) (Q : VK) (E : XK) : Prop :=
  (∀ d e, r = some (d, e) → ∀ (H' : Hp) (p : Addr) (v : V), Same H H' → H' p = some (.tup [v, .int (e : Nat)]) → Dp K (hide M H') v d → Q (.ref p) H') ∧ (r = none → errAt CT "InvalidText" H E)
def spRdP (K : PySem.W.Frag) (CT : Addr) (n : Nat) : Sp := fun vs H Q E => ∃ (x : Str) (a m : Nat) (M : List Addr), vs = [.str x, .int (a : Nat), .int (m : Nat)] ∧ x.length ≤ 2900 ∧ PyData.strOk x = true ∧ m < n ∧ Trk M H ∧ outR K CT M (rdP (tl x) m a) H Q E
def spRdT (K : PySem.W.Frag) (CT : Addr) (n : Nat) : Sp := fun vs H Q E => ∃ (x : Str) (a m : Nat) (M : List Addr), vs = [.str x, .int (a : Nat), .int (m : Nat)] ∧ x.length ≤ 2900 ∧ PyData.strOk x = true ∧ m < n ∧ Trk M H ∧ outR K CT M (rdT (rdP (tl x) m) (tl x) a) H Q E
theorem vs3 {x : Str} {i j : Int} {a m : Nat} (h : i = (a : Nat)) (g : j = (m : Nat)) : [V.str x, V.int i, V.int j] = [.str x, .int (a : Nat), .int (m : Nat)] := by rw [h, g]
end Fv


namespace Fv
open PySem PySem.Spec PyProof.Rows L2
end Fv


namespace Fv
open PySem PySem.Spec PyProof.Rows L2
-- top 29  slots: 0:_law_script
abbrev s_law_source : Stmt := topS 29
abbrev N_law_source : List Str := ["_law_script"]
theorem sc_law_source : FnScope N_law_source ["_law_script"] (defScope s_law_source) := ⟨rfl, rfl, rfl, by decide +kernel, rfl, by decide +kernel, by decide +kernel⟩

-- top 31  slots: 0:_law_source_here 1:_law_row
abbrev s_law_pick : Stmt := topS 31
abbrev N_law_pick : List Str := ["_law_source_here", "_law_row"]
theorem sc_law_pick : FnScope N_law_pick ["_law_source_here", "_law_row"] (defScope s_law_pick) := ⟨rfl, rfl, rfl, by decide +kernel, rfl, by decide +kernel, by decide +kernel⟩

-- top 32  slots: 0:_law_source_here 1:_law_row 2:_law_found 3:_law_one
abbrev s_law_mixed : Stmt := topS 32
abbrev N_law_mixed : List Str := ["_law_source_here", "_law_row", "_law_found", "_law_one"]
theorem sc_law_mixed : FnScope N_law_mixed ["_law_source_here", "_law_row"] (defScope s_law_mixed) := ⟨rfl, rfl, rfl, by decide +kernel, rfl, by decide +kernel, by decide +kernel⟩

-- top 37  slots: 0:_law_source_here 1:_law_most 2:_law_every
abbrev s_law_signs : Stmt := topS 37
abbrev N_law_signs : List Str := ["_law_source_here", "_law_most", "_law_every"]
theorem sc_law_signs : FnScope N_law_signs ["_law_source_here", "_law_most"] (defScope s_law_signs) := ⟨rfl, rfl, rfl, by decide +kernel, rfl, by decide +kernel, by decide +kernel⟩

section
variable {P : Program} {w : World} {K : PySem.W.Frag} {mg : Str → Option Value} {base : Heap}
theorem ok_source {f : Addr} {fd : FuncData} {k : Nat} (F : Fun K "_law_source" "_law_source" s_law_source f fd) (m_list : mg "list" = none) :
    FnOk P w K mg base CX0 (k + 1) f fd ["_law_script"] (spSource K) := by
  refine F.ok sc_law_source (fun vs H Q E h => ?_) (fun cdv A outer s H vs Q E hr h => ?_)
  · obtain ⟨a, ns, rfl, _⟩ := h
    rfl
  · obtain ⟨a, ns, rfl, hS, hl, q⟩ := h
    refine ⟨_, (pss_one (ps_ret (pe_lst (pa_cons (pe_callTy call_list_of (by rfl) m_list (by decide +kernel) (pa_cons (pe_slice sl_list (pv 0) po_none (po_some pe_int)) pa_nil)) (pa_cons pe_int (pa_cons pe_int (pa_cons pe_int (pa_cons pe_int pa_nil)))))))), ?_⟩
    refine ⟨_, rfl, _, rfl, a, _, rfl, hS, fun c nc => ?_⟩
    have e1 : cutV (ns.map V.int) none (some 63) = ns.map V.int := by
      rw [cut_take _ (by decide)]
      exact List.take_of_length_le (by rw [List.length_map]; exact hl)
    refine ⟨c, _, rfl, .inl (SqL.of upd_same), fun L nL => ?_⟩
    refine ⟨(by show 5 ≤ sizeLine; decide), fun p np => ?_⟩
    have s1 := same_upd (o := .lst (cutV (ns.map V.int) none (some 63))) nc
    have s2 := same_upd (o := .lst (cutV (ns.map V.int) none (some 63))) nL
    have s3 := same_upd (o := .lst [.ref L, .int 0, .int 0, .int 3818, .int 0]) np
    refine q _ p L (s1.trans (s2.trans s3)) (s1.free (s2.free np)) (s1.free nL) ⟨0, 0, 3818, 0, upd_same, ?_, by decide, by decide, by decide⟩
    refine s3 _ _ ?_
    rw [upd_same, e1]
theorem ok_pick {f : Addr} {fd : FuncData} {k : Nat} (F : Fun K "_law_pick" "_law_pick" s_law_pick f fd) (m_len : mg "len" = none)
    (C_law_take : Own P w K mg base k "_law_take" ["_law_source_here", "_law_many"] spTake) :
    FnOk P w K mg base CX0 (k + 1) f fd ["_law_source_here", "_law_row"] spPick := by
  refine F.ok sc_law_pick (fun vs H Q E h => ?_) (fun cdv A outer s H vs Q E hr h => ?_)
  · obtain ⟨a, L, r, ns, xs, rfl, _⟩ := h
    rfl
  · obtain ⟨a, L, r, ns, xs, rfl, hs, ra, hr', hp, hl, q⟩ := h
    refine ⟨_, (pss_one (ps_ret (pe_ix ix_list (pv 1) (pe_own C_law_take (hr.mono (by omega)) (by rfl) (pa_cons (pv 0) (pa_cons (pe_callB call_len_seq (by rfl) m_len (by decide +kernel) (pa_cons (pv 1) pa_nil)) pa_nil))) (fun _ _ => rfl)))), ?_⟩
    refine ⟨_, rfl, _, rfl, _, rfl, r, _, rfl, .inl (SqL.of hr'), a, L, ns, _, rfl, hs, by omega, by omega, fun H' d d0 d1 hs' off => ?_⟩
    obtain ⟨v, hv, mv⟩ := atI_mem d0 d1
    exact ⟨r, _, _, _, rfl, rfl, SqL.of ((off r ra).trans hr'), hv, q H' v mv hs' off⟩
theorem ok_mixed {f : Addr} {fd : FuncData} {k : Nat} (F : Fun K "_law_mixed" "_law_mixed" s_law_mixed f fd) (m_len : mg "len" = none)
    (C_law_take : Own P w K mg base k "_law_take" ["_law_source_here", "_law_many"] spTake) :
    FnOk P w K mg base CX0 (k + 1) f fd ["_law_source_here", "_law_row"] spMixed := by
  refine F.ok sc_law_mixed (fun vs H Q E h => ?_) (fun cdv A outer s H vs Q E hr h => ?_)
  · obtain ⟨a, L, r, ns, xs, rfl, _⟩ := h
    rfl
  · obtain ⟨a, L, r, ns, xs, rfl, hs, ra, hR, hl, q⟩ := h
    refine ⟨_, (pss_cons (ps_set (i := 2) sc_law_mixed.nd rfl (by first | exact .inl rfl | exact .inr rfl) (pe_lst pa_nil))
      (pss_cons (ps_for PassesOwn.never rfl (pi_list (pv 1)) (pg_name (i := 3) sc_law_mixed.nd rfl (by first | exact .inl rfl | exact .inr rfl))
        (pss_one (ps_expr (pe_bm PySem.F.plainAttrs_list PySem.F.slot_list_insert PySem.F.type_list_insert mt_insert (pv 2) (pa_cons (pe_own C_law_take (hr.mono (by omega)) (by rfl) (pa_cons (pv 0) (pa_cons (pe_op op_add (pe_callB call_len_seq (by rfl) m_len (by decide +kernel) (pa_cons (pv 2) pa_nil)) pe_int) pa_nil))) (pa_cons (pv 3) pa_nil))))))
      (pss_one (ps_ret (pv 2))))), ?_⟩
    refine ⟨Nat.zero_le _, fun p np => ?_⟩
    have ap : a ≠ p := by
      obtain ⟨_, _, _, _, e, _⟩ := hs
      exact ne_of_none e np
    have rp : r ≠ p := ne_of_none hR np
    refine ⟨_, rfl, r, rfl, ⟨_, SqL.of (by rw [upd_ne rp]; exact hR)⟩, for_list (xs := xs) (fun i σ H1 => ∃ (y : Option V) (ys : List V), σ = [some (.ref a), some (.ref r), some (.ref p), y] ∧ ys.Perm (xs.take i) ∧ H1 p = some (.lst ys) ∧ Src H1 a L ns ∧ (∀ b, b ≠ a → b ≠ p → H1 b = H b)) ?_ ?_ ?_ ?_⟩
    · exact ⟨none, [], rfl, .nil, upd_same, hs.off np fun c hc => upd_ne hc, fun b _ hb => upd_ne hb⟩
    · rintro i σ H1 hi ⟨y, ys, rfl, pm, hp, hs1, off⟩
      exact SqL.of ((off r ra rp).trans hR)
    · rintro i x σ H1 hx ⟨y, ys, rfl, pm, hp, hs1, off⟩
      obtain ⟨hi, hxi⟩ := List.getElem?_eq_some_iff.mp hx
      have ly : ys.length = i := by
        rw [pm.length_eq, List.length_take]
        omega
      refine ⟨_, rfl, .inl ⟨rfl, _, SqL.of hp⟩, _, rfl, _, rfl, p, _, rfl, .inl (SqL.of hp), _, _, rfl, rfl, a, L, ns, _, rfl, hs1, by omega, by omega, fun H' d d0 d1 hs' off' => ?_⟩
      have hp' : H' p = some (.lst ys) := (off' p ap.symm).trans hp
      refine ⟨_, rfl, p, _, _, _, rfl, rfl, hp', small1000 (by omega), d0, by omega, ?_⟩
      refine ⟨_, _, rfl, ?_, upd_same, ?_, fun b ba bp => ?_⟩
      · rw [List.take_add_one, hx]
        refine List.Perm.trans ?_ (List.Perm.append_right _ pm)
        show (ys.take d.toNat ++ [x] ++ ys.drop d.toNat).Perm (ys ++ [x])
        refine List.Perm.trans (?_ : List.Perm _ (ys.take d.toNat ++ (ys.drop d.toNat ++ [x]))) ?_
        · rw [List.append_assoc]
          exact List.Perm.append_left _ List.perm_append_comm
        · rw [← List.append_assoc, List.take_append_drop]
      · obtain ⟨i', p', st, c, h1, h2, h3⟩ := hs'
        have Lp : L ≠ p := fun e => by
          obtain ⟨_, _, _, _, _, e2, _⟩ := hs
          rw [e, np] at e2
          cases e2
        exact ⟨i', p', st, c, by rw [upd_ne ap]; exact h1, by rw [upd_ne Lp]; exact h2, h3⟩
      · rw [upd_ne bp, off' b ba]
        exact off b ba bp
    · rintro σ H1 ⟨y, ys, rfl, pm, hp, hs1, off⟩
      rw [List.take_length] at pm
      exact ⟨_, rfl, q H1 p ys pm np hp hs1 off⟩
theorem ok_signs {f : Addr} {fd : FuncData} {k : Nat} (F : Fun K "_law_signs" "_law_signs" s_law_signs f fd) (m_list : mg "list" = none)
    (C_law_take : Own P w K mg base k "_law_take" ["_law_source_here", "_law_many"] spTake)
    (C_law_mixed : Own P w K mg base k "_law_mixed" ["_law_source_here", "_law_row"] spMixed) :
    FnOk P w K mg base CX0 (k + 1) f fd ["_law_source_here", "_law_most"] spSigns := by
  refine F.ok sc_law_signs (fun vs H Q E h => ?_) (fun cdv A outer s H vs Q E hr h => ?_)
  · obtain ⟨a, L, ns, n, rfl, _⟩ := h
    rfl
  · obtain ⟨a, L, ns, n, rfl, hs, n1, n8, q⟩ := h
    refine ⟨_, (pss_cons (ps_set (i := 2) sc_law_signs.nd rfl (by first | exact .inl rfl | exact .inr rfl) (pe_own C_law_mixed (hr.mono (by omega)) (by rfl) (pa_cons (pv 0) (pa_cons (pe_callTy (call_listStr hr.hd) (by rfl) m_list (by decide +kernel) (pa_cons pe_str pa_nil)) pa_nil))))
      (pss_one (ps_ret (pe_slice sl_list (pv 2) po_none (po_some (pe_op op_add pe_int (pe_own C_law_take (hr.mono (by omega)) (by rfl) (pa_cons (pv 0) (pa_cons (pv 1) pa_nil))))))))), ?_⟩
    refine ⟨_, rfl, _, rfl, by decide +kernel, fun r nr => ?_⟩
    have ar : a ≠ r := by
      obtain ⟨_, _, _, _, e, _⟩ := hs
      exact ne_of_none e nr
    refine ⟨a, L, r, ns, _, rfl, hs.off nr fun c hc => upd_ne hc, ar.symm, upd_same, by decide +kernel, fun H1 p ys pm np hp hs1 off1 => ?_⟩
    have s1 := same_upd (o := .lst (signs "abcdefgh")) nr
    have ap : a ≠ p := by
      obtain ⟨_, _, _, _, e, _⟩ := hs
      exact ne_of_none e (s1.free np)
    refine ⟨_, rfl, _, rfl, _, rfl, a, L, ns, n, rfl, hs1, n1, by omega, fun H2 d d0 d1 hs2 off2 => ?_⟩
    have hp2 : H2 p = some (.lst ys) := (off2 p ap.symm).trans hp
    refine ⟨_, _, rfl, rfl, _, rfl, p, ys, rfl, SqL.of hp2, fun z nz => ?_⟩
    have ly : ys.length = 8 := by
      rw [pm.length_eq]
      decide +kernel
    have ez : cutV ys none (some (1 + d)) = ys.take (1 + d).toNat := cut_take ys (by omega)
    have zn : H z = none := by
      have ap1 : H1 z = none := by
        by_cases e : z = a
        · rw [e] at nz
          obtain ⟨_, _, _, _, e', _⟩ := hs2
          rw [e'] at nz
          cases nz
        · rw [← off2 z e]; exact nz
      have ap2 : (upd H r (.lst (signs "abcdefgh"))) z = none := by
        by_cases e : z = a
        · rw [e] at ap1
          obtain ⟨_, _, _, _, e', _⟩ := hs1
          rw [e'] at ap1
          cases ap1
        · by_cases e2 : z = p
          · rw [e2] at ap1
            rw [hp] at ap1
            cases ap1
          · rw [← off1 z e e2]; exact ap1
      exact s1.free ap2
    refine q _ z _ ?_ ?_ ?_ ?_ zn upd_same (hs2.off nz fun c hc => upd_ne hc) ?_
    · rw [ez, List.length_take]; omega
    · rw [ez, List.length_take]; omega
    · intro y hy
      rw [ez] at hy
      exact pm.mem_iff.mp (List.mem_of_mem_take hy)
    · rw [ez]
      refine List.Sublist.nodup (List.take_sublist _ _) ?_
      exact pm.nodup_iff.mpr (by decide +kernel)
    · intro b o hb e
      have ba : b ≠ a := fun z => hb (by rw [z]; exact List.mem_singleton.mpr rfl)
      have bz : b ≠ z := ne_of_none e zn
      rw [upd_ne bz, off2 b ba, off1 b ba (ne_of_none e (s1.free np))]
      exact s1 b o e
end
end Fv


namespace Fv
open PySem PySem.Spec PyProof.Rows L2
-- top 35  slots: 0:_law_source_here 1:_law_signs_here 2:_law_deep 3:_law_room 4:_law_many 5:_law_operator 6:_law_k
abbrev s_law_term : Stmt := topS 35
abbrev N_law_term : List Str := ["_law_source_here", "_law_signs_here", "_law_deep", "_law_room", "_law_many", "_law_operator", "_law_k"]
theorem sc_law_term : FnScope N_law_term ["_law_source_here", "_law_signs_here", "_law_deep", "_law_room"] (defScope s_law_term) := ⟨rfl, rfl, rfl, by decide +kernel, rfl, by decide +kernel, by decide +kernel⟩

-- top 36  slots: 0:_law_source_here 1:_law_signs_here
abbrev s_law_any_term : Stmt := topS 36
abbrev N_law_any_term : List Str := ["_law_source_here", "_law_signs_here"]
theorem sc_law_any_term : FnScope N_law_any_term ["_law_source_here"] (defScope s_law_any_term) := ⟨rfl, rfl, rfl, by decide +kernel, rfl, by decide +kernel, by decide +kernel⟩

section
variable {P : Program} {w : World} {K : PySem.W.Frag} {mg : Str → Option Value} {base : Heap}
theorem term_zero {f : Addr} {fd : FuncData} {k : Nat} : FnOk P w K mg base CX0 k f fd ["_law_source_here", "_law_signs_here", "_law_deep", "_law_room"] (spTerm K 0) := by
  have no : ∀ vs H Q E, ¬ spTerm K 0 vs H Q E := fun vs H Q E h => by
    obtain ⟨a, L, sg, r, ns, deep, m, ys, M, _, _, _, _, _, _, _, _, _, _, _, _, _, d1, d2, _⟩ := h
    omega
  exact ⟨fun vs H Q E h => absurd h (no vs H Q E), fun A outer s H args us vs Q E _ _ _ _ h => absurd h (no vs H Q E)⟩
theorem ok_term {f : Addr} {fd : FuncData} {k n : Nat} (F : Fun K "_law_term" "_law_term" s_law_term f fd) (m_tuple : mg "tuple" = none) (m_range : mg "range" = none) (hk : 2 ≤ k)
    (C_law_take : Own P w K mg base 1 "_law_take" ["_law_source_here", "_law_many"] spTake)
    (C_law_pick : Own P w K mg base 2 "_law_pick" ["_law_source_here", "_law_row"] spPick)
    (C_law_term : Own P w K mg base k "_law_term" ["_law_source_here", "_law_signs_here", "_law_deep", "_law_room"] (spTerm K n)) :
    FnOk P w K mg base CX0 (k + 1) f fd ["_law_source_here", "_law_signs_here", "_law_deep", "_law_room"] (spTerm K (n + 1)) := by
  refine F.ok sc_law_term (fun vs H Q E h => ?_) (fun cdv A outer s H vs Q E hr h => ?_)
  · obtain ⟨a, L, sg, r, ns, deep, m, ys, M, rfl, _⟩ := h
    rfl
  · obtain ⟨a, L, sg, r, ns, deep, m, ys, M, rfl, hs, hsg, y0, y8, hy, hR, sga, sgr, ra, rL, m0, m1, d1, d2, aM, rM, tM, q⟩ := h
    refine ⟨_, (pss_cons (ps_set (i := 4) sc_law_term.nd rfl (by first | exact .inl rfl | exact .inr rfl) (pe_op op_add pe_int (pe_op op_fdiv (pe_own C_law_take (hr.mono (by omega)) (by rfl) (pa_cons (pv 0) (pa_cons pe_int pa_nil))) pe_int)))
      (pss_cons (ps_if (PW.pt (pw_or (pt_cmpR op_lt (pv 2) pe_int (nomark _)) (pw_or (pt_cmpR op_lt (pe_ix ix_list (pv 3) pe_int (fun _ _ => rfl)) (pe_op op_sub (pv 4) pe_int) (nomark _)) (pw_or1 (pt_cmpR op_eq (pe_own C_law_take (hr.mono (by omega)) (by rfl) (pa_cons (pv 0) (pa_cons pe_int pa_nil))) pe_int (nomark _))))))
        (pss_one (ps_ret (pe_own C_law_pick (hr.mono (by omega)) (by rfl) (pa_cons (pv 0) (pa_cons (pv 1) pa_nil)))))
        pss_nil)
      (pss_cons (ps_asg (pe_op op_add (pe_op op_sub (pe_ix ix_list (pv 3) pe_int (fun _ _ => rfl)) (pv 4)) pe_int) (pg_sub (pv 3) pe_int set_list))
      (pss_cons (ps_set (i := 5) sc_law_term.nd rfl (by first | exact .inl rfl | exact .inr rfl) (pe_own C_law_pick (hr.mono (by omega)) (by rfl) (pa_cons (pv 0) (pa_cons (pe_lst (pa_cons pe_str (pa_cons pe_str pa_nil))) pa_nil))))
      (pss_one (ps_ret (pe_callTy call_tuple_of (by rfl) m_tuple (by decide +kernel) (pa_cons (pe_op op_cat (pe_lst (pa_cons (pv 5) pa_nil)) (pe_lc (own := [("_law_k", 6)]) (g := gName 6) (by rfl) sc_law_term.nd (pi_range1 (by rfl) m_range (pa_cons (pv 4) pa_nil)) (blkOk_by (own := [("_law_k", 6)]) (N := N_law_term) (sc := defScope s_law_term) (by decide +kernel)) (fun _ _ _ _ _ => pg_name (i := 6) sc_law_term.nd rfl (Or.inl rfl)) (fun _ _ _ _ _ => pts_nil) (fun _ _ _ _ _ => (pe_own C_law_term (hr.mono (by omega)) (by rfl) (pa_cons (pv 0) (pa_cons (pv 1) (pa_cons (pe_op op_sub (pv 2) pe_int) (pa_cons (pv 3) pa_nil)))))))) pa_nil)))))))), ?_⟩
    have fin : ∀ Hx, Src Hx a L ns → (∀ b, b ≠ a → Hx b = H b) → spPick [.ref a, .ref sg] Hx Q E0 := fun Hx hsx offx => by
      refine ⟨a, L, sg, ns, ys, rfl, hsx, sga, (offx sg sga).trans hsg, y0, by omega, fun H' v mv hs' off' => ?_⟩
      obtain ⟨x, rfl, hx⟩ := lett_data (hy v mv)
      obtain ⟨l1, l2⟩ := isL_lett hx
      refine q H' _ (.str x) m (.str x) ?_ m0 (Int.le_refl _) (gd_le l2 (Nat.zero_le _)) hs' (((off' r ra).trans (offx r ra)).trans hR) fun b o hb e => ?_
      · obtain ⟨j, ej⟩ : ∃ j, deep.toNat = j + 1 := ⟨deep.toNat - 1, by omega⟩
        rw [ej]
        show (if isL x = true then (1 : Int) else _) = _
        rw [if_pos l1]
        omega
      · have ba : b ≠ a := fun z => hb (by rw [z]; exact List.mem_cons_self ..)
        rw [off' b ba, offx b ba]
        exact e
    refine ⟨_, rfl, a, L, ns, 5, rfl, hs, by decide, by decide, fun H1 t t0 t1 hs1 off1 => ⟨_, _, rfl, rfl, ⟨by decide, by decide⟩, _, _, rfl, rfl, ?_⟩⟩
    have hR1 : H1 r = some (.lst [.int m]) := (off1 r ra).trans hR
    refine ⟨_, rfl, _, _, rfl, rfl, _, rfl, ?_⟩
    refine ite2 (fun c => iteT ⟨_, rfl, _, rfl, fin H1 hs1 off1⟩) (fun c => ?_)
    have cd : ¬ deep < 2 := of_decide_eq_false (Bool.eq_false_iff.mpr c)
    refine ⟨_, rfl, r, _, _, _, rfl, rfl, SqL.of hR1, rfl, _, rfl, _, _, rfl, rfl, _, _, rfl, rfl, _, rfl, ?_⟩
    refine ite2 (fun c => iteT ⟨_, rfl, _, rfl, fin H1 hs1 off1⟩) (fun c => ?_)
    have cm : ¬ m < 2 + t / 2 - 1 := of_decide_eq_false (Bool.eq_false_iff.mpr c)
    refine ⟨_, rfl, a, L, ns, 4, rfl, hs1, by decide, by decide, fun H2 t2 _ _ hs2 off2 => ⟨rfl, _, rfl, ?_⟩⟩
    have off12 : ∀ b, b ≠ a → H2 b = H b := fun b hb => (off2 b hb).trans (off1 b hb)
    refine ite2 (fun c => ⟨_, rfl, _, rfl, fin H2 hs2 off12⟩) (fun _ => ?_)
    have hR2 : H2 r = some (.lst [.int m]) := (off12 r ra).trans hR
    -- room[0] = room[0] - many + 1
    refine ⟨_, rfl, r, _, _, _, rfl, rfl, SqL.of hR2, rfl, _, rfl, _, _, rfl, rfl, _, _, rfl, rfl, _, rfl, r, _, _, _, rfl, rfl, hR2, rfl, ?_⟩
    have hs3 : Src (upd H2 r (.lst [.int (m - (2 + t / 2) + 1)])) a L ns := hs2.put ra rL
    have tM2 : Trk M (upd H2 r (.lst [.int (m - (2 + t / 2) + 1)])) := fun b hb => by
      by_cases br : b = r
      · rw [br]; exact ⟨_, upd_same⟩
      · rw [upd_ne br]
        by_cases ba : b = a
        · rw [ba]
          obtain ⟨_, _, _, _, e, _⟩ := hs2
          exact ⟨_, e⟩
        · rw [off12 b ba]; exact tM b hb
    -- operator
    refine ⟨_, rfl, (by show 2 ≤ sizeLine; decide), fun l nl => ?_⟩
    have sl := same_upd (o := .lst [.str "&", .str "|"]) nl
    have la : l ≠ a := (hs3.ne nl).symm
    refine ⟨a, L, l, ns, _, rfl, hs3.same sl, la, upd_same, by decide, by decide, fun H4 op mop hs4 off4 => ?_⟩
    obtain ⟨os, rfl, ho, go⟩ : ∃ os : Str, op = .str os ∧ isOp (.str os) = true ∧ gd 0 (.str os) = true := by
      rcases List.mem_cons.mp mop with e | e
      · exact ⟨_, e, isOp_str.1, by decide +kernel⟩
      · exact ⟨_, List.mem_singleton.mp e, isOp_str.2, by decide +kernel⟩
    -- what stands at H4
    have rl : r ≠ l := ne_of_none (H := upd H2 r (.lst [.int (m - (2 + t / 2) + 1)])) upd_same nl
    have hR4 : H4 r = some (.lst [.int (m - (2 + t / 2) + 1)]) := (off4 r ra).trans ((upd_ne rl).trans upd_same)
    have sm4 : SmX [a, r] H H4 := fun b o hb e => by
      have ba : b ≠ a := fun z => hb (by rw [z]; exact List.mem_cons_self ..)
      have br : b ≠ r := fun z => hb (by rw [z]; exact List.mem_cons_of_mem _ (List.mem_singleton.mpr rfl))
      rw [off4 b ba]
      exact sl b o ((upd_ne br).trans ((off12 b ba).trans e))
    have tM4 : Trk M H4 := fun b hb => by
      by_cases ba : b = a
      · rw [ba]
        obtain ⟨_, _, _, _, e, _⟩ := hs4
        exact ⟨_, e⟩
      · rw [off4 b ba]; exact (tM2.same sl) b hb
    have hsg4 : H4 sg = some (.lst ys) := sm4 _ _ (fun z => by
      rcases List.mem_cons.mp z with z | z
      · exact sga z
      · exact sgr (List.mem_singleton.mp z)) hsg
    -- [operator] + [..]
    refine ⟨_, rfl, (by show 1 ≤ sizeLine; decide), fun o1 no1 => ?_⟩
    have so := same_upd (o := .lst [.str os]) no1
    refine ⟨_, rfl, (2 + t / 2), rfl, by omega, by omega, fun D nD => ?_⟩
    have tMo : Trk M (upd H4 o1 (.lst [.str os])) := tM4.same so
    have DM : D ∉ M := tMo.ne nD
    have Da : D ≠ a := fun e => DM (e ▸ aM)
    have Dr : D ≠ r := fun e => DM (e ▸ rM)
    have sD := same_upd (o := .lst []) nD
    refine lc_range (lo := 0) (n := (2 + t / 2).toNat) (fun i Hi => ∃ (mi : Int) (acc : List V) (ds : List PyData), Src Hi a L ns ∧ Hi r = some (.lst [.int mi]) ∧ Hi D = some (.lst acc) ∧ acc.length = i ∧ DpAll K (hide (D :: M) Hi) acc ds ∧
      (∀ d ∈ ds, 1 ≤ lmeas (deep.toNat - 1) d ∧ gd (deep.toNat - 1) d = true) ∧ (ds.map (lmeas (deep.toNat - 1))).sum = (m - (2 + t / 2) + 1) - mi + i ∧ 0 ≤ mi ∧ mi ≤ m - (2 + t / 2) + 1 ∧ SmX [a, r] (upd H4 o1 (.lst [.str os])) Hi) ?_ ?_ ?_
    · refine ⟨_, [], [], (hs4.same so).same sD, sD _ _ (so _ _ hR4), upd_same, rfl, .nil, (fun d h => nomatch h), ?_, by omega, Int.le_refl _, .of_same sD⟩
      simp
    · rintro i Hi hi ⟨mi, acc, ds, hsi, hri, hDi, li, hda, hds, hsum, mi0, mi1, smi⟩
      refine ⟨rfl, ?_⟩
      dsimp only [tYes]
      rw [if_pos rfl]
      have tMi : Trk M Hi := tMo.smx smi fun b hb => by
        rcases List.mem_cons.mp hb with z | z
        · rw [z]
          obtain ⟨_, _, _, _, e, _⟩ := hsi
          exact ⟨_, e⟩
        · rw [List.mem_singleton.mp z]; exact ⟨_, hri⟩
      have hsgi : Hi sg = some (.lst ys) := smi _ _ (fun z => by
        rcases List.mem_cons.mp z with z | z
        · exact sga z
        · exact sgr (List.mem_singleton.mp z)) (so _ _ hsg4)
      refine ⟨_, rfl, _, rfl, _, rfl, _, _, rfl, rfl, _, rfl, a, L, sg, r, ns, deep - 1, mi, ys, D :: M, rfl, hsi, hsgi, y0, y8, hy, hri, sga, sgr, ra, rL, mi0, by omega, by omega, by omega, List.mem_cons_of_mem _ aM, List.mem_cons_of_mem _ rM, fun b hb => ?_, fun H5 v d m5 hd5 hl5 m50 m51 hg5 hs5 hr5 sm5 => ?_⟩
      · rcases List.mem_cons.mp hb with z | z
        · rw [z]; exact ⟨_, hDi⟩
        · exact tMi b z
      · have hD5 : H5 D = some (.lst acc) := sm5 _ _ (fun z => by
          rcases List.mem_cons.mp z with z | z
          · exact Da z
          · exact Dr (List.mem_singleton.mp z)) hDi
        have ed : (deep - 1).toNat = deep.toNat - 1 := by omega
        rw [ed] at hl5 hg5
        have hid : Same (hide (D :: M) Hi) (hide (D :: M) (upd H5 D (.lst (acc ++ [v])))) := (SmX.put (sm5.sub (M' := D :: M) fun b hb => by
          rcases List.mem_cons.mp hb with z | z
          · rw [z]; exact .inl (List.mem_cons_of_mem _ aM)
          · rw [List.mem_singleton.mp z]; exact .inl (List.mem_cons_of_mem _ rM)) (List.mem_cons_self ..)).hid
        have hid5 : Same (hide (D :: M) H5) (hide (D :: M) (upd H5 D (.lst (acc ++ [v])))) := (SmX.put (SmX.refl _ _) (List.mem_cons_self ..)).hid
        have Lr : r ≠ L := rL
        refine ⟨acc, hD5, ?_, m5, acc ++ [v], ds ++ [d], ?_, ?_, upd_same, ?_, ?_, ?_, ?_, m50, by omega, ?_⟩
        · exact small1000 (by omega)
        · refine hs5.put Da fun e => ?_
          obtain ⟨_, _, _, _, _, e2, _⟩ := hs
          have eL : (upd H4 o1 (.lst [.str os])) L = none := e ▸ nD
          obtain ⟨_, _, _, _, _, e3, _⟩ := hs4.same so
          rw [eL] at e3
          cases e3
        · rw [upd_ne Dr.symm]; exact hr5
        · rw [List.length_append, li]; rfl
        · exact dpAll_app (dpAll_same hid _ _ hda) (.cons (dp_same hid5 _ _ hd5) .nil)
        · intro d' hd'
          rcases List.mem_append.mp hd' with z | z
          · exact hds d' z
          · rw [List.mem_singleton.mp z]
            exact ⟨by omega, hg5⟩
        · rw [List.map_append, List.sum_append, hsum]
          simp only [List.map_cons, List.map_nil, List.sum_cons, List.sum_nil]
          omega
        · intro b o hb e
          rw [upd_ne (ne_of_none e nD)]
          exact sm5 b o hb (smi b o hb e)
    · rintro Hi ⟨mi, acc, ds, hsi, hri, hDi, li, hda, hds, hsum, mi0, mi1, smi⟩
      have o1a : o1 ≠ a := fun e => by
        obtain ⟨_, _, _, _, e', _⟩ := hs4
        rw [e, e'] at no1
        cases no1
      have o1r : o1 ≠ r := fun e => by
        rw [e, hR4] at no1
        cases no1
      have ho1 : Hi o1 = some (.lst [.str os]) := smi _ _ (fun z => by
        rcases List.mem_cons.mp z with z | z
        · exact o1a z
        · exact o1r (List.mem_singleton.mp z)) upd_same
      have tMi : Trk M Hi := tMo.smx smi fun b hb => by
        rcases List.mem_cons.mp hb with z | z
        · rw [z]
          obtain ⟨_, _, _, _, e, _⟩ := hsi
          exact ⟨_, e⟩
        · rw [List.mem_singleton.mp z]; exact ⟨_, hri⟩
      refine ⟨o1, D, _, _, rfl, rfl, ho1, hDi, ?_, fun cc ncc => ?_⟩
      · rw [li]
        exact le1000 (by show 1 + _ ≤ 1000; omega)
      have sc := same_upd (o := .lst ([.str os] ++ acc)) ncc
      refine ⟨cc, _, rfl, .inl ⟨SqL.of upd_same, fun p np => ?_⟩⟩
      have sp := same_upd (o := .tup ([.str os] ++ acc)) np
      have tMc : Trk M (upd Hi cc (.lst ([.str os] ++ acc))) := tMi.same sc
      have lds := dpAll_len hda
      obtain ⟨j, ej⟩ : ∃ j, deep.toNat = j + 1 := ⟨deep.toNat - 1, by omega⟩
      have ej1 : deep.toNat - 1 = j := by omega
      rw [ej1] at hds hsum
      have hidA : Same (hide (D :: M) Hi) (hide M (upd (upd Hi cc (.lst ([.str os] ++ acc))) p (.tup ([.str os] ++ acc)))) :=
        (hide_sub fun b hb => List.mem_cons_of_mem _ hb).trans (SmX.of_same (sc.trans sp)).hid
      refine q _ (.ref p) (.tuple (.str os :: ds)) mi (.tup (SqT.of (hid_at tMc np)) (.cons (.str os) (dpAll_same hidA _ _ hda))) ?_ mi0 (by omega) ?_ ((hsi.same sc).same sp) (sp _ _ (sc _ _ hri)) (sm4.trans ((SmX.of_same so).trans (smi.trans (.of_same (sc.trans sp)))))
      · rw [ej]
        refine lmeas_tup ho (by omega) (fun d hd => (hds d hd).1) ?_
        rw [hsum]
        omega
      · rw [ej]
        refine gd_tup (fun d hd => ?_) (by rw [List.length_cons]; omega)
        rcases List.mem_cons.mp hd with z | z
        · rw [z]; exact gd_le go (Nat.zero_le _)
        · exact (hds d z).2
end
end Fv


namespace Fv
open PySem PySem.Spec PyProof.Rows L2


theorem pos22 : (0 : Int) < 2 := by decide
section
variable {P : Program} {w : World} {K : PySem.W.Frag} {mg : Str → Option Value} {base : Heap}
theorem ok_any_term {f : Addr} {fd : FuncData} {k : Nat} (F : Fun K "_law_any_term" "_law_any_term" s_law_any_term f fd) (hk : 3 ≤ k)
    (C_law_take : Own P w K mg base 1 "_law_take" ["_law_source_here", "_law_many"] spTake)
    (C_law_pick : Own P w K mg base 2 "_law_pick" ["_law_source_here", "_law_row"] spPick)
    (C_law_signs : Own P w K mg base 3 "_law_signs" ["_law_source_here", "_law_most"] spSigns)
    (C_law_term : Own P w K mg base k "_law_term" ["_law_source_here", "_law_signs_here", "_law_deep", "_law_room"] (spTerm K 5)) :
    FnOk P w K mg base CX0 (k + 1) f fd ["_law_source_here"] (spAnyTerm K) := by
  refine F.ok sc_law_any_term (fun vs H Q E h => ?_) (fun cdv A outer s H vs Q E hr h => ?_)
  · obtain ⟨a, L, ns, M, rfl, _⟩ := h
    rfl
  · obtain ⟨a, L, ns, M, rfl, hs, aM, tM, q⟩ := h
    refine ⟨_, (pss_cons (ps_set (i := 1) sc_law_any_term.nd rfl (by first | exact .inl rfl | exact .inr rfl) (pe_own C_law_signs (hr.mono (by omega)) (by rfl) (pa_cons (pv 0) (pa_cons pe_int pa_nil))))
      (pss_one (ps_ret (pe_own C_law_term (hr.mono (by omega)) (by rfl) (pa_cons (pv 0) (pa_cons (pv 1) (pa_cons (pe_op op_add pe_int (pe_own C_law_take (hr.mono (by omega)) (by rfl) (pa_cons (pv 0) (pa_cons pe_int pa_nil)))) (pa_cons (pe_lst (pa_cons (pe_own C_law_pick (hr.mono (by omega)) (by rfl) (pa_cons (pv 0) (pa_cons (pe_lst (pa_cons pe_int (pa_cons pe_int (pa_cons pe_int pa_nil)))) pa_nil))) pa_nil)) pa_nil)))))))), ?_⟩
    refine ⟨_, rfl, a, L, ns, 8, rfl, hs, by decide, by decide, fun H1 sg ys y0 y8 hy _ nsg hsg hs1 sm1 => ?_⟩
    have sga : sg ≠ a := (hs.ne nsg).symm
    refine ⟨_, rfl, _, rfl, _, rfl, a, L, ns, 5, rfl, hs1, by decide, by decide, fun H2 t t0 t1 hs2 off2 => ⟨_, _, rfl, rfl, ?_⟩⟩
    refine ⟨_, rfl, (by show 3 ≤ sizeLine; decide), fun l nl => ?_⟩
    have sl := same_upd (o := .lst [.int 2, .int 7, .int 23]) nl
    refine ⟨a, L, l, ns, _, rfl, hs2.same sl, (hs2.ne nl).symm, upd_same, by decide, by decide, fun H3 v mv hs3 off3 => ?_⟩
    obtain ⟨m, rfl, m0, m23⟩ : ∃ m : Int, v = .int m ∧ 0 ≤ m ∧ m ≤ 23 := by
      simp only [List.mem_cons, List.not_mem_nil, or_false] at mv
      rcases mv with e | e | e
      · exact ⟨2, e, by decide, by decide⟩
      · exact ⟨7, e, by decide, by decide⟩
      · exact ⟨23, e, by decide, by decide⟩
    refine ⟨(by show 1 ≤ sizeLine; decide), fun r nr => ?_⟩
    have sr := same_upd (o := .lst [.int m]) nr
    have smA : SmX [a] H H3 := sm1.trans ((SmX.at off2 (List.mem_singleton.mpr rfl)).trans ((SmX.of_same sl).trans (SmX.at off3 (List.mem_singleton.mpr rfl))))
    have tM3 : Trk M H3 := tM.smx smA hs3.trk
    have hsg3 : H3 sg = some (.lst ys) := (off3 sg sga).trans (sl _ _ ((off2 sg sga).trans hsg))
    have rL : r ≠ L := fun e => by
      obtain ⟨_, _, _, _, _, e2, _⟩ := hs3
      rw [← e, nr] at e2
      cases e2
    have rn : H r = none := by
      by_cases e : r = a
      · exact absurd e (hs3.ne nr).symm
      · cases eh : H r with
        | none => rfl
        | some o =>
          have := smA r o (fun z => e (List.mem_singleton.mp z)) eh
          rw [nr] at this
          cases this
    refine ⟨a, L, sg, r, ns, 1 + t, m, ys, r :: M, rfl, hs3.same sr, sr _ _ hsg3, y0, by omega, hy, upd_same, sga, ne_of_none hsg3 nr, (hs3.ne nr).symm, rL, m0, by omega, by omega, by omega, List.mem_cons_of_mem _ aM, List.mem_cons_self .., fun b hb => ?_, fun H5 v5 d m5 hd hl m50 m51 hg hs5 hr5 sm5 => ?_⟩
    · rcases List.mem_cons.mp hb with z | z
      · rw [z]; exact ⟨_, upd_same⟩
      · exact (tM3.same sr) b z
    · refine q H5 v5 d (1 + t).toNat (dp_same (hide_sub fun b hb => List.mem_cons_of_mem _ hb) d v5 hd) (by omega) (by omega) (by omega) (by omega) hg hs5 ?_
      intro b o hb e
      have br : b ≠ r := ne_of_none e rn
      refine sm5 b o (fun z => ?_) (sr _ _ (smA b o hb e))
      rcases List.mem_cons.mp z with z | z
      · exact hb (by rw [z]; exact List.mem_singleton.mpr rfl)
      · exact br (List.mem_singleton.mp z)
end
end Fv


namespace Fv
open PySem PySem.Spec PyProof.Rows L2
theorem all_nil {P : V → Prop} : ∀ y ∈ ([] : List V), P y := fun y h => nomatch h
theorem all_cons {P : V → Prop} {x : V} {xs : List V} (h : P x) (t : ∀ y ∈ xs, P y) : ∀ y ∈ x :: xs, P y := fun y hy => by
  rcases List.mem_cons.mp hy with e | e
  · rw [e]; exact h
  · exact t y e
theorem all_app {P : V → Prop} {xs ys : List V} (h : ∀ y ∈ xs, P y) (t : ∀ y ∈ ys, P y) : ∀ y ∈ xs ++ ys, P y := fun y hy => by
  rcases List.mem_append.mp hy with e | e
  · exact h y e
  · exact t y e
section
variable {P : Program} {w : World} {K : PySem.W.Frag} {mg : Str → Option Value} {base : Heap}
end
end Fv


namespace Fv
open PySem PySem.Spec PyProof.Rows L2
section
variable {P : Program} {w : World} {K : PySem.W.Frag} {mg : Str → Option Value} {base : Heap}
theorem measure_zero {f : Addr} {fd : FuncData} {k : Nat} : FnOk P w K mg base CX0 k f fd ["_law_word", "_law_deep"] (spMeasure K 0) := by
  have no : ∀ vs H Q E, ¬ spMeasure K 0 vs H Q E := fun vs H Q E h => by
    obtain ⟨v, d, md, _, _, _, m0, m1, _⟩ := h
    omega
  exact ⟨fun vs H Q E h => absurd h (no vs H Q E), fun A outer s H args us vs Q E _ _ _ _ h => absurd h (no vs H Q E)⟩
theorem same_zero {f : Addr} {fd : FuncData} {k : Nat} : FnOk P w K mg base CX0 k f fd ["_law_found", "_law_due"] (spSame K 0) := by
  have no : ∀ vs H Q E, ¬ spSame K 0 vs H Q E := fun vs H Q E h => by
    obtain ⟨v, v', d, m, _, _, _, m1, _⟩ := h
    omega
  exact ⟨fun vs H Q E h => absurd h (no vs H Q E), fun A outer s H args us vs Q E _ _ _ _ h => absurd h (no vs H Q E)⟩
theorem ok_same {f : Addr} {fd : FuncData} {k n : Nat} (F : Fun K "_law_same" "_law_same" s_law_same f fd) (m_isinstance : mg "isinstance" = none) (m_bool : mg "bool" = none) (m_int : mg "int" = none) (m_str : mg "str" = none) (m_dict : mg "dict" = none)
    (m_list : mg "list" = none) (m_tuple : mg "tuple" = none) (m_len : mg "len" = none) (m_all : mg "all" = none) (m_zip : mg "zip" = none)
    (C_law_same : Own P w K mg base k "_law_same" ["_law_found", "_law_due"] (spSame K n)) :
    FnOk P w K mg base CX0 (k + 1) f fd ["_law_found", "_law_due"] (spSame K (n + 1)) := by
  refine F.ok sc_law_same (fun vs H Q E h => ?_) (fun cdv A outer s H vs Q E hr h => ?_)
  · obtain ⟨v, v', d, m, rfl, _⟩ := h
    rfl
  · obtain ⟨v, v', d, m, rfl, hd, hd', hm, hg, q⟩ := h
    refine ⟨_, (pss_cons (ps_if (PW.pt (pw_or (pt_cmpR op_isN (pv 1) pe_non (nomark _)) (pw_or1 (pt_cmpR op_isN (pv 0) pe_non (nomark _)))))
        (pss_one (ps_ret (pe_and (pe_cmpR op_isN (pv 1) pe_non (nomark _)) (pe_one (pe_cmpR op_isN (pv 0) pe_non (nomark _))))))
        pss_nil)
      (pss_cons (ps_if (PW.pt (pw_or (pt_val (pe_isD (T := "bool") (by rfl) m_isinstance (by rfl) m_bool (pv 1))) (pw_or1 (pt_val (pe_isD (T := "bool") (by rfl) m_isinstance (by rfl) m_bool (pv 0))))))
        (pss_one (ps_ret (pe_and (pe_isD (T := "bool") (by rfl) m_isinstance (by rfl) m_bool (pv 1)) (pe_and (pe_isD (T := "bool") (by rfl) m_isinstance (by rfl) m_bool (pv 0)) (pe_one (pe_cmpR op_eq (pv 0) (pv 1) (nomark _)))))))
        pss_nil)
      (pss_cons (ps_if (PW.pt (pw_or (pt_val (pe_isD (T := "int") (by rfl) m_isinstance (by rfl) m_int (pv 1))) (pw_or1 (pt_val (pe_isD (T := "str") (by rfl) m_isinstance (by rfl) m_str (pv 1))))))
        (pss_one (ps_ret (pe_and (pe_cmpR op_eq (pe_isD (T := "int") (by rfl) m_isinstance (by rfl) m_int (pv 0)) (pe_isD (T := "int") (by rfl) m_isinstance (by rfl) m_int (pv 1)) (nomark _)) (pe_one (pe_cmpR op_eq (pv 0) (pv 1) (nomark _))))))
        pss_nil)
      (pss_cons (ps_if (pt_val (pe_isD (T := "dict") (by rfl) m_isinstance (by rfl) m_dict (pv 1)))
        pss_never
        pss_nil)
      (pss_cons (ps_if (PW.pt (pw_or (pt_cmpR op_ne (pe_isD (T := "list") (by rfl) m_isinstance (by rfl) m_list (pv 0)) (pe_isD (T := "list") (by rfl) m_isinstance (by rfl) m_list (pv 1)) (nomark _)) (pw_or1 (pt_cmpR op_ne (pe_isD (T := "tuple") (by rfl) m_isinstance (by rfl) m_tuple (pv 0)) (pe_isD (T := "tuple") (by rfl) m_isinstance (by rfl) m_tuple (pv 1)) (nomark _)))))
        (pss_one (ps_ret pe_bl))
        pss_nil)
      (pss_one (ps_ret (pe_and (pe_cmpR op_eq (pe_callB call_len_seq (by rfl) m_len (by decide +kernel) (pa_cons (pv 0) pa_nil)) (pe_callB call_len_seq (by rfl) m_len (by decide +kernel) (pa_cons (pv 1) pa_nil)) (nomark _)) (pe_one (pe_callB (cr_all rfl) (by rfl) m_all (by decide +kernel) (pa_cons (pe_lc (own := [("_law_one", 3), ("_law_mother", 4)]) (g := gTup K 2 (gCons (gName 3) (gCons (gName 4) gNil))) (by rfl) sc_law_same.nd (RZ.pi_zipA (by rfl) m_zip (pa_cons (pv 0) (pa_cons (pv 1) pa_nil))) (blkOk_by (own := [("_law_one", 3), ("_law_mother", 4)]) (N := N_law_same) (sc := defScope s_law_same) (by decide +kernel)) (fun _ _ _ _ _ => (pg_tup rfl (pgs_cons (pg_name (i := 3) sc_law_same.nd rfl (Or.inl rfl) (hf := Or.inr rfl)) (pgs_cons (pg_name (i := 4) sc_law_same.nd rfl (Or.inl rfl) (hf := Or.inr rfl)) pgs_nil)))) (fun _ _ _ _ _ => pts_nil) (fun _ _ _ _ _ => (pe_own C_law_same (hr.mono (by omega)) (by rfl) (pa_cons (pv 3) (pa_cons (pv 4) pa_nil))))) pa_nil))))))))))), ?_⟩
    have q0 := q H (Same.refl H)
    cases d with
    | none =>
      cases hd
      cases hd'
      exact ⟨_, rfl, rfl, _, rfl, iteT (iteT ⟨_, rfl, rfl, _, rfl, iteT ⟨_, rfl, rfl, q0⟩⟩)⟩
    | bool b =>
      refine ⟨_, rfl, rfl, _, rfl, ?_⟩
      cases hd
      cases hd'
      refine iteF ⟨_, rfl, rfl, _, rfl, iteF ?_⟩
      refine ⟨_, rfl, _, _, _, rfl, by decide, .bl b, _, rfl, iteT (iteT ⟨_, rfl, _, _, _, rfl, by decide, .bl b, _, rfl, iteT ⟨_, rfl, _, _, _, rfl, by decide, .bl b, _, rfl, iteT ⟨_, rfl, _, rfl, rfl, ?_⟩⟩⟩)⟩
      rw [decide_eq_true rfl]
      exact q0
    | int i =>
      refine ⟨_, rfl, rfl, _, rfl, ?_⟩
      cases hd
      cases hd'
      refine iteF ⟨_, rfl, rfl, _, rfl, iteF ?_⟩
      refine ⟨_, rfl, _, _, _, rfl, by decide, .int i, _, rfl, iteF ⟨_, rfl, _, _, _, rfl, by decide, .int i, _, rfl, iteF ?_⟩⟩
      refine ⟨_, rfl, _, _, _, rfl, by decide, .int i, _, rfl, iteT (iteT ⟨_, rfl, _, _, _, rfl, by decide, .int i, _, rfl, _, _, _, rfl, by decide, .int i, rfl, _, rfl, iteT ⟨_, rfl, _, rfl, rfl, ?_⟩⟩)⟩
      rw [decide_eq_true rfl]
      exact q0
    | str x =>
      refine ⟨_, rfl, rfl, _, rfl, ?_⟩
      cases hd
      cases hd'
      refine iteF ⟨_, rfl, rfl, _, rfl, iteF ?_⟩
      refine ⟨_, rfl, _, _, _, rfl, by decide, .str x, _, rfl, iteF ⟨_, rfl, _, _, _, rfl, by decide, .str x, _, rfl, iteF ?_⟩⟩
      refine ⟨_, rfl, _, _, _, rfl, by decide, .str x, _, rfl, iteF ⟨_, rfl, _, _, _, rfl, by decide, .str x, _, rfl, iteT ⟨_, rfl, _, _, _, rfl, by decide, .str x, _, rfl, _, _, _, rfl, by decide, .str x, rfl, _, rfl, iteT ⟨_, rfl, _, rfl, rfl, ?_⟩⟩⟩⟩
      rw [decide_eq_true rfl]
      exact q0
    | dict kvs => cases hd
    | list ds =>
      obtain ⟨a, xs, hs, ha, rfl⟩ : ∃ a xs, SqL K H a xs ∧ DpAll K H xs ds ∧ v = .ref a := by
        cases hd with | lst hs ha => exact ⟨_, _, hs, ha, rfl⟩
      obtain ⟨b, ys, hs', ha', rfl⟩ : ∃ b ys, SqL K H b ys ∧ DpAll K H ys ds ∧ v' = .ref b := by
        cases hd' with | lst hs ha => exact ⟨_, _, hs, ha, rfl⟩
      have D1 : Dp K H (.ref a) (.list ds) := .lst hs ha
      have D2 : Dp K H (.ref b) (.list ds) := .lst hs' ha'
      cases m with
      | zero => cases hg
      | succ m =>
      obtain ⟨lds, gds⟩ := gd_list hg
      have lx := dpAll_len ha
      have ly := dpAll_len ha'
      refine ⟨_, rfl, rfl, _, rfl, iteF ⟨_, rfl, rfl, _, rfl, iteF ?_⟩⟩
      refine ⟨_, rfl, _, _, _, rfl, by decide, D2, _, rfl, iteF ⟨_, rfl, _, _, _, rfl, by decide, D1, _, rfl, iteF ?_⟩⟩
      refine ⟨_, rfl, _, _, _, rfl, by decide, D2, _, rfl, iteF ⟨_, rfl, _, _, _, rfl, by decide, D2, _, rfl, iteF ?_⟩⟩
      refine ⟨_, rfl, _, _, _, rfl, by decide, D2, _, rfl, iteF ?_⟩
      refine ⟨_, rfl, _, _, _, rfl, by decide, D1, _, rfl, _, _, _, rfl, by decide, D2, rfl, _, rfl, iteF ⟨_, rfl, _, _, _, rfl, by decide, D1, _, rfl, _, _, _, rfl, by decide, D2, rfl, _, rfl, iteF ?_⟩⟩
      refine ⟨_, rfl, a, xs, rfl, .inl hs, _, rfl, b, ys, rfl, .inl hs', rfl, _, rfl, ?_⟩
      rw [lx, ly, decide_eq_true rfl]
      refine iteT ⟨_, rfl, _, rfl, a, b, xs, ys, rfl, .inl ⟨hs, hs', fun D nD => ?_⟩⟩
      refine lc_it (walk_zip (xs := xs) (ys := ys) (n := ds.length) (by omega)) (fun i H1 => Same H H1 ∧ H1 D = some (.lst ((List.replicate i true).map V.bl))) ⟨same_upd nD, upd_same⟩ (fun i H1 _ p => ⟨p.1.seq hs, p.1.seq hs'⟩) ?_ ?_
      · rintro i x H1 H2 hi ⟨sm, e⟩ ⟨T, x1, y1, rfl, nT, rfl, e1, e2⟩
        have sT : Same H1 (upd H1 T (.tup [x1, y1])) := same_upd nT
        obtain ⟨d1, g1, h1⟩ := dpAll_get ha e1
        obtain ⟨d2, g2, h2⟩ := dpAll_get ha' e2
        have ed : d2 = d1 := Option.some.inj (g2.symm.trans g1)
        subst ed
        refine ⟨T, [x1, y1], rfl, .inl (.inl upd_same), rfl, x1, [y1], rfl, y1, [], rfl, rfl, rfl, ?_⟩
        dsimp only [tYes]
        rw [if_pos rfl]
        refine ⟨_, rfl, _, rfl, x1, y1, d2, m, rfl, dp_same (sm.trans sT) _ _ h1, dp_same (sm.trans sT) _ _ h2, by omega, gds _ (List.mem_of_getElem? g1), fun H3 s3 => ?_⟩
        have e3 : H3 D = some (.lst ((List.replicate i true).map V.bl)) := s3 _ _ (sT _ _ e)
        refine ⟨_, e3, ?_, fun b' o' eb => ?_, ?_⟩
        · rw [List.length_map, List.length_replicate]
          exact small1000 (by omega)
        · rw [upd_ne (ne_of_none eb nD)]
          exact s3 _ _ (sT _ _ (sm _ _ eb))
        · rw [upd_same, List.replicate_succ']
          simp
      · rintro H1 ⟨sm, e⟩
        refine ⟨D, _, rfl, SqL.of e, ?_⟩
        rw [show (List.replicate ds.length true).all id = true by simp]
        exact q H1 sm
    | tuple ds =>
      obtain ⟨a, xs, hs, ha, rfl⟩ : ∃ a xs, SqT K H a xs ∧ DpAll K H xs ds ∧ v = .ref a := by
        cases hd with | tup hs ha => exact ⟨_, _, hs, ha, rfl⟩
      obtain ⟨b, ys, hs', ha', rfl⟩ : ∃ b ys, SqT K H b ys ∧ DpAll K H ys ds ∧ v' = .ref b := by
        cases hd' with | tup hs ha => exact ⟨_, _, hs, ha, rfl⟩
      have D1 : Dp K H (.ref a) (.tuple ds) := .tup hs ha
      have D2 : Dp K H (.ref b) (.tuple ds) := .tup hs' ha'
      cases m with
      | zero => cases hg
      | succ m =>
      obtain ⟨lds, gds⟩ := gd_tuple hg
      have lx := dpAll_len ha
      have ly := dpAll_len ha'
      refine ⟨_, rfl, rfl, _, rfl, iteF ⟨_, rfl, rfl, _, rfl, iteF ?_⟩⟩
      refine ⟨_, rfl, _, _, _, rfl, by decide, D2, _, rfl, iteF ⟨_, rfl, _, _, _, rfl, by decide, D1, _, rfl, iteF ?_⟩⟩
      refine ⟨_, rfl, _, _, _, rfl, by decide, D2, _, rfl, iteF ⟨_, rfl, _, _, _, rfl, by decide, D2, _, rfl, iteF ?_⟩⟩
      refine ⟨_, rfl, _, _, _, rfl, by decide, D2, _, rfl, iteF ?_⟩
      refine ⟨_, rfl, _, _, _, rfl, by decide, D1, _, rfl, _, _, _, rfl, by decide, D2, rfl, _, rfl, iteF ⟨_, rfl, _, _, _, rfl, by decide, D1, _, rfl, _, _, _, rfl, by decide, D2, rfl, _, rfl, iteF ?_⟩⟩
      refine ⟨_, rfl, a, xs, rfl, .inr hs, _, rfl, b, ys, rfl, .inr hs', rfl, _, rfl, ?_⟩
      rw [lx, ly, decide_eq_true rfl]
      refine iteT ⟨_, rfl, _, rfl, a, b, xs, ys, rfl, .inr ⟨hs, hs', fun D nD => ?_⟩⟩
      refine lc_it (walk_zipT (xs := xs) (ys := ys) (n := ds.length) (by omega)) (fun i H1 => Same H H1 ∧ H1 D = some (.lst ((List.replicate i true).map V.bl))) ⟨same_upd nD, upd_same⟩ (fun i H1 _ p => ⟨same_seqT p.1 hs, same_seqT p.1 hs'⟩) ?_ ?_
      · rintro i x H1 H2 hi ⟨sm, e⟩ ⟨T, x1, y1, rfl, nT, rfl, e1, e2⟩
        have sT : Same H1 (upd H1 T (.tup [x1, y1])) := same_upd nT
        obtain ⟨d1, g1, h1⟩ := dpAll_get ha e1
        obtain ⟨d2, g2, h2⟩ := dpAll_get ha' e2
        have ed : d2 = d1 := Option.some.inj (g2.symm.trans g1)
        subst ed
        refine ⟨T, [x1, y1], rfl, .inl (.inl upd_same), rfl, x1, [y1], rfl, y1, [], rfl, rfl, rfl, ?_⟩
        dsimp only [tYes]
        rw [if_pos rfl]
        refine ⟨_, rfl, _, rfl, x1, y1, d2, m, rfl, dp_same (sm.trans sT) _ _ h1, dp_same (sm.trans sT) _ _ h2, by omega, gds _ (List.mem_of_getElem? g1), fun H3 s3 => ?_⟩
        have e3 : H3 D = some (.lst ((List.replicate i true).map V.bl)) := s3 _ _ (sT _ _ e)
        refine ⟨_, e3, ?_, fun b' o' eb => ?_, ?_⟩
        · rw [List.length_map, List.length_replicate]
          exact small1000 (by omega)
        · rw [upd_ne (ne_of_none eb nD)]
          exact s3 _ _ (sT _ _ (sm _ _ eb))
        · rw [upd_same, List.replicate_succ']
          simp
      · rintro H1 ⟨sm, e⟩
        refine ⟨D, _, rfl, SqL.of e, ?_⟩
        rw [show (List.replicate ds.length true).all id = true by simp]
        exact q H1 sm
end
end Fv


namespace Fv
open PySem PySem.Spec PyProof.Rows L2 FvX TL



theorem one_len : (" " : Str).length = 1 := by decide +kernel
theorem op_len {o : Str} (h : o = "&" ∨ o = "|") : o.length = 1 := by rcases h with h | h <;> subst h <;> decide +kernel
theorem small_len {x : Str} {n : Nat} (h : x.length ≤ n) (hn : n ≤ 100000) : x.length ≤ sizeLine := Nat.le_trans h (Nat.le_trans hn (by decide))
theorem emp_app (x : Str) : Str.empty ++ x = x := ext_tl (by rw [tl_append]; rfl)
theorem sum_ptx {m : Nat} {ds : List PyData} (all1 : ∀ x ∈ ds, 1 ≤ lmeas m x) (h : (ds.map (lmeas m)).sum ≤ 1000) : ((ds.map ptx).map (·.length)).sum ≤ 8000 := by
  have hp : ((((ds.map ptx).map (·.length)).sum : Nat) : Int) ≤ 8 * (ds.map (lmeas m)).sum - 5 * ds.length := by
    rw [← sum_lin, List.map_map, sum_cast]
    refine sum_le fun x hx => ?_
    have := ptx_len (all1 x hx)
    show (((ptx x).length : Nat) : Int) ≤ _
    omega
  omega
theorem part_le {m : Nat} {ds : List PyData} {x : PyData} (hx : x ∈ ds) (h : (ds.map (lmeas m)).sum ≤ 1000) : lmeas m x ≤ 1000 := by
  have := mem_le_sum (l := ds.map (lmeas m)) (x := lmeas m x) (fun y hy => by
    obtain ⟨d', _, rfl⟩ := List.mem_map.mp hy
    exact lmeas_nonneg m d') (List.mem_map.mpr ⟨x, hx, rfl⟩)
  omega
section
variable {P : Program} {w : World} {K : PySem.W.Frag} {mg : Str → Option Value} {base : Heap}
theorem text_zero {f : Addr} {fd : FuncData} {k : Nat} {ps : List Str} : FnOk P w K mg base CX0 k f fd ps (spText K 0) := by
  have no : ∀ vs H Q E, ¬ spText K 0 vs H Q E := fun vs H Q E h => by
    obtain ⟨v, d, m, _, _, _, m1, _⟩ := h
    omega
  exact ⟨fun vs H Q E h => absurd h (no vs H Q E), fun A outer s H args us vs Q E _ _ _ _ h => absurd h (no vs H Q E)⟩
theorem part_zero {f : Addr} {fd : FuncData} {k : Nat} {ps : List Str} : FnOk P w K mg base CX0 k f fd ps (spPart K 0) := by
  have no : ∀ vs H Q E, ¬ spPart K 0 vs H Q E := fun vs H Q E h => by
    obtain ⟨v, d, m, _, _, _, m1, _⟩ := h
    omega
  exact ⟨fun vs H Q E h => absurd h (no vs H Q E), fun A outer s H args us vs Q E _ _ _ _ h => absurd h (no vs H Q E)⟩
theorem isLd_str {m : Nat} {x : Str} (h : 1 ≤ lmeas m (.str x)) : isL x = true := by
  cases m with
  | zero => simp only [lmeas] at h; omega
  | succ m =>
    rcases lmeas_inv h with ⟨y, e, hy⟩ | ⟨o, ds, e, _⟩
    · cases e; exact hy
    · cases e
end
end Fv


namespace Fv
open PySem PySem.Spec PyProof.Rows L2 FvX TL

section
variable {P : Program} {w : World} {K : PySem.W.Frag} {mg : Str → Option Value} {base : Heap} {CT fI oS : Addr} {qual msg : Str} {q : ErrPos} {j1 j2 : Nat}
theorem fit900 {x : Str} (h : x.length ≤ 2900) : x.length ≤ sizeLine := Nat.le_trans h (by decide)
theorem rdT_zero {f : Addr} {fd : FuncData} {k : Nat} {ps : List Str} : FnOk P w K mg base (L2.CX P w) k f fd ps (spRdT K CT 0) := by
  have no : ∀ vs H Q E, ¬ spRdT K CT 0 vs H Q E := fun vs H Q E h => by
    obtain ⟨x, a, m, M, _, _, _, h, _⟩ := h
    omega
  exact ⟨fun vs H Q E h => absurd h (no vs H Q E), fun A outer s H args us vs Q E _ _ _ _ h => absurd h (no vs H Q E)⟩
end
end Fv


namespace Fv
open PySem PySem.Spec PyProof.Rows L2 FvX TL

def WR (K : PySem.W.Frag) (x : Str) (m : Nat) (v : V) (sg : Str) (L : Addr) (M : List Addr) (H : Hp) (R : Option (List PyData × Nat)) : Nat → L2.St → Hp → Prop := fun f σ H1 => ∃ (a : Nat) (acc : List PyData) (vs : List V) (y6 : Option V),
  σ = [some (.str x), some (.int (a : Nat)), some (.int (m : Nat)), some v, some (.str sg), some (.ref L), y6] ∧ H1 L = some (.lst vs) ∧ DpAll K (hide (L :: M) H1) vs acc ∧ 4 * acc.length ≤ a + 3 ∧ a ≤ x.length ∧ x.length + 1 - a ≤ f ∧
  rdL (rdP (tl x) m) (tl x) sg f a acc = R ∧ Same H H1
theorem in_sg (s : Str) : (!([PyData.str " & ", .str " | "] : List PyData).any fun z => PyData.eqv z (.str s)) = !decide (isSg s) := by
  congr 1
  simp only [List.any_cons, List.any_nil, Bool.or_false, PyData.eqv]
  rw [Bool.eq_iff_iff, decide_eq_true_eq, Bool.or_eq_true, beq_iff_eq, beq_iff_eq]
  exact ⟨fun h => h.imp Eq.symm Eq.symm, fun h => h.imp Eq.symm Eq.symm⟩
theorem sg_at {s : Str} (h : isSg s) : ∃ c, (tl s)[1]? = some c ∧ (⟨#[c]⟩ : Str) = sgn s := by
  rcases h with h | h <;> subst h
  · exact ⟨38, by decide +kernel, by decide +kernel⟩
  · exact ⟨124, by decide +kernel, by decide +kernel⟩
section
variable {P : Program} {w : World} {K : PySem.W.Frag} {mg : Str → Option Value} {base : Heap} {CT fI oS : Addr} {qual msg : Str} {q : ErrPos} {j1 j2 : Nat}
end
end Fv


namespace Fv
open PySem PySem.Spec PyProof.Rows L2 FvX TL

-- top 18  slots: 0:value 1:found
abbrev s_measured_long : Stmt := topS 18
abbrev N_measured_long : List Str := ["value", "found"]
theorem sc_measured_long : FnScope N_measured_long ["value"] (defScope s_measured_long) := ⟨rfl, rfl, rfl, by decide +kernel, rfl, by decide +kernel, by decide +kernel⟩


/-- what parse_term makes of a text -/
def prs (x : Str) : Option PyData := match rdT (rdP (tl x) 5) (tl x) 0 with
  | none => none
  | some (d, e) => if e < x.length ∨ tmB d = false then none else some d
def spParse (K : PySem.W.Frag) (CT : Addr) : Sp := fun vs H Q E => ∃ (x : Str) (M : List Addr), vs = [.str x] ∧ x.length ≤ 2900 ∧ PyData.strOk x = true ∧ Trk M H ∧
  (∀ d, prs x = some d → ∀ (H' : Hp) (v : V), Same H H' → Dp K (hide M H') v d → Q v H') ∧ (prs x = none → errAt CT "InvalidText" H E)
def spLong (K : PySem.W.Frag) (CT : Addr) : Sp := fun vs H Q E => ∃ (v : V) (d : PyData), vs = [v] ∧ Dp K H v d ∧ gd 20 d = true ∧
  (∀ dp sz, meas 9 d 600 = some (dp, sz) → ∀ (H' : Hp) (p : Addr), Same H H' → H' p = some (.tup [.int dp, .int sz]) → Q (.ref p) H') ∧ (meas 9 d 600 = none → errAt CT "InvalidTerm" H E)
def spFormat (K : PySem.W.Frag) (CT : Addr) : Sp := fun vs H Q E => ∃ (v : V) (d : PyData), vs = [v] ∧ Dp K H v d ∧ gd 20 d = true ∧
  ((meas 9 d 600).isSome = true → ∀ H', Same H H' → Q (.str (txt d)) H') ∧ (meas 9 d 600 = none → errAt CT "InvalidTerm" H E)
section
variable {P : Program} {w : World} {K : PySem.W.Frag} {mg : Str → Option Value} {base : Heap} {CT fI oS : Addr} {qual msg : Str} {q : ErrPos} {j1 j2 : Nat}
theorem ok_measured_long {f : Addr} {fd : FuncData} {k : Nat} (F : Fun K "measured_long" "measured_long" s_measured_long f fd) {t9 t6 : Tok} (g_LONG_DEPTH : mg "LONG_DEPTH" = some (.int 9 t9)) (g_LONG_SIZE : mg "LONG_SIZE" = some (.int 600 t6)) (hk : 1 ≤ k) (T_IT : ErrC P.main.file K CT fI qual q msg "InvalidTerm" j1 j2) (hline : LineOk q msg j1) (htop : (P.main.scope.names.lookup ("super" : Str)).isSome = false) (m_super : mg "super" = none) (g_IT : mg "InvalidTerm" = some (.ref CT))
    (C_measured : Own P w K mg base k "measured" ["value", "max_depth", "max_size"] (spMeas K 20)) :
    FnOk P w K mg base (L2.CX P w) (k + 1) f fd ["value"] (spLong K CT) := by
  refine F.okX sc_measured_long (fun vs H Q E h => ?_) (fun cdv A outer s H vs Q E hr h => ?_)
  · obtain ⟨v, d, rfl, _⟩ := h
    rfl
  · obtain ⟨v, d, rfl, hd, hg, o1, o2⟩ := h
    refine ⟨_, (pss_cons (ps_set (i := 1) sc_measured_long.nd rfl (by first | exact .inl rfl | exact .inr rfl) (pe_own C_measured (hr.mono (by omega)) (by rfl) (pa_cons (pv 0) (pa_cons (pe_glob (v := .int 9) (by rfl) g_LONG_DEPTH (⟨_, rfl⟩)) (pa_cons (pe_glob (v := .int 600) (by rfl) g_LONG_SIZE (⟨_, rfl⟩)) pa_nil)))))
      (pss_cons (ps_if (pt_cmpR op_isN (pv 1) pe_non (nomark _))
        (pss_one (ps_raise rfl (takes_of rfl rfl rfl rfl) (pmk_err0 (k := 0) T_IT hline htop m_super (hr.mono (by omega)) (by rfl) g_IT)))
        pss_nil)
      (pss_one (ps_ret (pv 1))))), ?_⟩
    refine ⟨_, rfl, v, d, 9, 600, rfl, hd, hg, by decide, by decide, fun e H' s' => ?_, fun dp sz e H' p s' hp => ?_⟩
    · refine ⟨_, rfl, rfl, _, rfl, iteT fun dd nd => ?_⟩
      exact o2 e _ dd (s'.trans (same_upd nd)) upd_same
    · exact ⟨_, rfl, rfl, _, rfl, iteF ⟨_, rfl, o1 dp sz e H' p s' hp⟩⟩
end
end Fv


set_option maxHeartbeats 2000000
namespace Fv
open PySem PySem.Spec PyProof.Rows L2 GenW FvX FvD FvG
-- top 20  slots: 0:term 1:waiting 2:found
abbrev s_walk : Stmt := topS 20
abbrev N_walk : List Str := ["term", "waiting", "found"]
theorem sc_walk : GScope N_walk ["term"] (defScope s_walk) := ⟨rfl, rfl, rfl, by decide +kernel, rfl, by decide +kernel, by decide +kernel⟩

abbrev wNone : Stmt := .Pass ⟨0, 0, 0, 0⟩
abbrev w1 : Stmt := (defBody s_walk).getD 0 wNone
abbrev w2 : Stmt := (defBody s_walk).getD 1 wNone
abbrev w3 : Stmt := (defBody s_walk).getD 2 wNone
def whTest : Stmt → Expr
  | .While t _ _ _ => t
  | _ => .Constant .none 0 ⟨0, 0, 0, 0⟩
def whBody : Stmt → List Stmt
  | .While _ b _ _ => b
  | _ => []
abbrev wT : Expr := whTest w3
abbrev wB : List Stmt := whBody w3
theorem walk_body : ∃ p, defBody s_walk = [w1, w2, .While wT wB [] p] := ⟨_, rfl⟩
abbrev b1 : Stmt := wB.getD 0 wNone
abbrev b2 : Stmt := wB.getD 1 wNone
abbrev b3 : Stmt := wB.getD 2 wNone
theorem wB_eq : wB = [b1, b2, b3] := rfl
def yldE : Stmt → Expr
  | .Expr (.Yield (some e) _) _ => e
  | _ => .Constant .none 0 ⟨0, 0, 0, 0⟩
theorem b2_eq : ∃ p q, b2 = .Expr (.Yield (some (yldE b2)) p) q := ⟨_, _, rfl⟩
theorem walk_nc : NoCell (defScope s_walk) := by
  have h : ∀ n, cellsFrom n (defScope s_walk).names [] = [] := fun n => rfl
  exact ⟨h 0, h⟩
theorem walk_nf : ∀ y ∈ (defScope s_walk).names, y.2 ≠ .free ∧ y.2 ≠ .cell := by decide +kernel
section
variable {P : Program} {w : World} {K : PySem.W.Frag} {mg : Str → Option Value} {base : Heap} {f : Addr} {cd : Value} {A : Around} {outer : List Env} {L : Addr} {a : Addr} {go : Obj} {k : Nat}
  {Cn : Addr → Nat → Hp → Shared → Prop} {Dn : Addr → Nat → V → Hp → Shared → Prop} {Zn : Addr → Hp → Shared → Prop} {Er : Value → Shared → Prop} {items : List PyData}
abbrev wxW (P : Program) (w : World) (K : PySem.W.Frag) (mg : Str → Option Value) (base : Heap) (f : Addr) (cd : Value) (A : Around) (outer : List Env) (L a : Addr) (go : Obj) (s0 : Shared) (H0 : Hp) : Cx :=
  wx P w K mg base N_walk "walk" (defScope s_walk) f cd A outer L [(a, go)] s0 H0
abbrev wE (f : Addr) (cd : Value) (L : Addr) : Env := envOfC "walk" (defScope s_walk) L f cd
/-- the end of a run -/
def RP (Zn : Addr → Hp → Shared → Prop) (Er : Value → Shared → Prop) : GenEnd := fun _ _ r s1 => ((r = .ok (.ret .none) ∨ r = .ok .next) ∧ ∃ W H1, Zn W H1 s1) ∨ ∃ e, r = .error e ∧ Er e s1
/-- what the sleeper wants to find again -/
structure Asleep (L a : Addr) (go : Obj) (W : Addr) (vs : List V) (oL : Obj) (H : Hp) (s : Shared) : Prop where
  lst : H W = some (.lst vs)
  frm : s.heap.get? L = some oL
  frn : H L = none
  gen : s.heap.get? a = some go
  gnn : H a = none
/-- an item is handed out -/
def YP (Cn : Addr → Nat → Hp → Shared → Prop) (Dn : Addr → Nat → V → Hp → Shared → Prop) (L a : Addr) (go : Obj) (m : Nat) : Protocol := fun n _ v s1 kap => ∃ W i x vs oL H1, n + i = m ∧ RelV x v ∧ Dn W i x H1 s1 ∧ Asleep L a go W vs oL H1 s1 ∧ (∀ c, oL.data ≠ .cell c) ∧
  ∀ s' H', Cn W (i + 1) H' s' → Stay H1 H' → Asleep L a go W vs oL H' s' → kap (.send .none) s'
/-- where the loop's code stands -/
abbrev wCode (f : Addr) (cd : Value) (L : Addr) : Code := .whileLoop wT wB [] (wE f cd L)
theorem over_w {kk : Result → Sem PySem.Fin} {g : Bool} {l kp : List Value} {p : Pos} : A.over (wCode f cd L) [.ret kk none g l (.func (defBody s_walk) (wE f cd L)) p kp] = A.deeper (wE f cd L) :=
  (over_loop rfl rfl).trans over_func
/-- the state at the loop's head: i items are out -/
structure AtHead (P : Program) (w : World) (K : PySem.W.Frag) (mg : Str → Option Value) (base : Heap) (f : Addr) (cd : Value) (A : Around) (outer : List Env) (L a : Addr) (go : Obj) (items : List PyData) (i : Nat) (W : Addr) (s0 : Shared) (Hr H : Hp) (s : Shared) : Prop where
  st : ∃ t fx vs dvs, Inv (wxW P w K mg base f cd A outer L a go s0 Hr) [] [some t, some (.ref W), fx] H s ∧ H W = some (.lst vs) ∧ DpAll K H vs dvs ∧ (∀ d ∈ dvs, Tk d) ∧ dvs.reverse.flatMap pre = items.drop i
  sm : SmX [W] Hr H
theorem dpAll_snoc {H : Hp} : ∀ {vs : List V} {ds : List PyData} {d : PyData}, DpAll K H vs (ds ++ [d]) → ∃ us x, vs = us ++ [x] ∧ DpAll K H us ds ∧ Dp K H x d
  | _, [], d, h => by
    cases h with
    | cons h1 h2 => cases h2; exact ⟨[], _, rfl, .nil, h1⟩
  | _, e :: ds, d, h => by
    cases h with
    | cons h1 h2 =>
      obtain ⟨us, x, rfl, q1, q2⟩ := dpAll_snoc h2
      exact ⟨_ :: us, x, rfl, .cons h1 q1, q2⟩
theorem dpAll_rev {H : Hp} : ∀ {vs : List V} {ds : List PyData}, DpAll K H vs ds → DpAll K H vs.reverse ds.reverse
  | _, _, .nil => .nil
  | _, _, .cons h t => by
    rw [List.reverse_cons, List.reverse_cons]
    exact dpAll_app (dpAll_rev t) (.cons h .nil)
theorem tkAll_stay {H H' : Hp} (s : Stay H H') : ∀ {vs : List V} {ds : List PyData}, (∀ d ∈ ds, Tk d) → DpAll K H vs ds → DpAll K H' vs ds
  | _, _, _, .nil => .nil
  | _, _, h, .cons h1 t => .cons (kdp_stay s 8 _ _ (h _ List.mem_cons_self).kd h1) (tkAll_stay s (fun d hd => h d (List.mem_cons_of_mem _ hd)) t)
theorem walk_head (hc : Own P w K mg base k "is_compound" ["value"] (spIsCompound K)) (hr : Room k (A.deeper (wE f cd L))) (hfr : A.frames = some outer) (hh : A.handled = none) (hbl : base.objs.size ≤ L) (hol : ∀ b ∈ frs outer, b < L) (haL : a ≠ L) (hao : a ∉ frs outer) (hgo : ∀ v, go.data ≠ .cell v)
    (hC : ∀ W i H s, Cn W i H s → Env0 P w K mg base A outer s H ∧ L ≤ s.heap.objs.size)
    (hD : ∀ W i H s H1 s1 x d, Cn W i H s → Moved P w outer L [W] H H1 s s1 → items[i]? = some d → Tk d → Dp K H1 x d → Dn W i x H1 s1)
    (hZ : ∀ W H s H1 s1, Cn W items.length H s → Moved P w outer L [W] H H1 s s1 → Zn W H1 s1) (hlen : items.length ≤ 1200)
    {kk : Result → Sem PySem.Fin} {p : Pos} (hkk : kk (.ok .next) = .pure (.done (.ret .none))) :
    ∀ (n i : Nat) (W : Addr) (s0 sr s₀ s : Shared) (Hr H : Hp), n + i = items.length + 1 → i ≤ items.length → Cn W i Hr sr → Low L s0 sr → AtHead P w K mg base f cd A outer L a go items i W s0 Hr H s →
      Seg (model P w) A (RP Zn Er) (YP Cn Dn L a go items.length) n s₀ (wCode f cd L) ((model P w).den (wCode f cd L)) [.ret kk none false [] (.func (defBody s_walk) (wE f cd L)) p []] s := by
  have nd : N_walk.Nodup := sc_walk.nd
  intro n
  induction n with
  | zero =>
    intro i W s0 sr s₀ s Hr H hn hi _ _ _
    omega
  | succ n ih =>
    intro i W s0 sr s₀ s Hr H hn hi0 hCn lo ⟨⟨t, fx, vs, dvs, I, hW, hv, ht, hf⟩, sm⟩
    by_cases ne : dvs = []
    · subst ne
      have hi : i = items.length := by
        have z : items.drop i = [] := hf.symm
        have := List.drop_eq_nil_iff.mp z
        omega
      subst hi
      cases hv
      have pt : PT (wxW P w K mg base f cd A outer L a go s0 Hr) wT _ := pt_truth (pv 1) (fun _ => rfl)
      refine seg_whileLoop ?_
      rw [over_w]
      refine wpAny_mono (pt.run [] s _ H (fun b H' => b = false ∧ H' = H) I ⟨_, rfl, false, .inl ⟨[], SqL.of hW, rfl⟩, rfl, rfl⟩) (fun b s' hb => ?_) fun _ _ hx => hx.elim
      obtain ⟨H2, I2, rfl, rfl⟩ := hb
      rw [if_neg Bool.false_ne_true]
      refine seg_execs_nil (seg_leaf (.ok .next) ?_)
      rw [hkk]
      exact seg_end (.ok (.ret .none)) (.inl ⟨.inl rfl, W, H2, hZ W Hr sr H2 s' hCn (moved_of lo I2 sm)⟩)
    obtain ⟨dvs', dx, rfl⟩ : ∃ l d, dvs = l ++ [d] := ⟨dvs.dropLast, dvs.getLast ne, (List.dropLast_concat_getLast ne).symm⟩
    obtain ⟨us, x, rfl, hus, hx⟩ := dpAll_snoc hv
    have tx : Tk dx := ht dx (List.mem_append_right _ (List.mem_singleton.mpr rfl))
    have tus : ∀ d ∈ dvs', Tk d := fun d hd => ht d (List.mem_append_left _ hd)
    have hflat : items.drop i = pre dx ++ dvs'.reverse.flatMap pre := by
      rw [← hf, List.reverse_append, List.reverse_singleton, List.singleton_append, List.flatMap_cons]
    have hil : i < items.length := by
      have z := congrArg List.length hflat
      rw [List.length_append, List.length_drop, pre_eq, List.length_cons] at z
      omega
    have hit : items[i]? = some dx := by
      have z : (items.drop i)[0]? = some dx := by rw [hflat, pre_eq]; rfl
      rw [List.getElem?_drop, Nat.add_zero] at z
      exact z
    have hrest : items.drop (i + 1) = (if isCd dx = true then (parts dx).flatMap pre else []) ++ dvs'.reverse.flatMap pre := by
      have z : items.drop (i + 1) = (items.drop i).drop 1 := by rw [List.drop_drop]
      rw [z, hflat, pre_eq]
      rfl
    have pt : PT (wxW P w K mg base f cd A outer L a go s0 Hr) wT _ := pt_truth (pv 1) (fun _ => rfl)
    have p1 : PS (wxW P w K mg base f cd A outer L a go s0 Hr) b1 _ := ps_set (i := 2) nd rfl (.inl rfl) (pe_bm0 PySem.F.plainAttrs_list PySem.F.slot_list_pop PySem.F.type_list_pop mt_pop (pv 1))
    have p2 : PE (wxW P w K mg base f cd A outer L a go s0 Hr) (yldE b2) _ := pv 2
    refine seg_whileLoop ?_
    rw [over_w]
    refine wpAny_mono (pt.run [] s _ H (fun b H' => b = true ∧ H' = H) I ⟨_, rfl, true, .inl ⟨us ++ [x], SqL.of hW, by simp⟩, rfl, rfl⟩) (fun b s' hb => ?_) fun _ _ hx => hx.elim
    obtain ⟨H2, I2, rfl, rfl⟩ := hb
    rw [if_pos rfl]
    refine seg_execs_cons (st := b1) (rest := [b2, b3]) (seg_wrap ?_)
    rw [over_w]
    have last : (us ++ [x])[(us ++ [x]).length - 1]? = some x := by simp
    refine wpAny_mono (p1.run [] s' _ H2 { nx := fun σ H' => σ = [some t, some (.ref W), some x] ∧ H' = upd H2 W (.lst us), rt := fun _ _ => False } I2 ⟨_, rfl, .inl ⟨rfl, _, SqL.of hW⟩, W, us ++ [x], x, rfl, rfl, hW, last, rfl, by rw [List.dropLast_concat]⟩) (fun fl s3 h3 => ?_) fun _ _ hx => hx.elim
    cases fl with
    | brk => obtain ⟨_, _, _, q⟩ := h3; exact q.elim
    | cont => obtain ⟨_, _, _, q⟩ := h3; exact q.elim
    | ret u => obtain ⟨_, _, _, _, _, q⟩ := h3; exact q.elim
    | next =>
      obtain ⟨σ3, H3, I3, rfl, rfl⟩ := h3
      have stay3 : Stay H2 (upd H2 W (.lst us)) := stay_lst hW
      have sm3 : SmX [W] Hr (upd H2 W (.lst us)) := sm.put (List.mem_singleton.mpr rfl)
      have hx3 : Dp K (upd H2 W (.lst us)) x dx := kdp_stay stay3 8 dx x tx.kd hx
      have hus3 : DpAll K (upd H2 W (.lst us)) us dvs' := tkAll_stay stay3 tus hus
      refine seg_execs_cons (st := b2) (rest := [b3]) ?_
      refine seg_Expr_Yield (e := yldE b2) rfl rfl rfl ?_
      rw [over_w]
      refine wpAny_mono (p2.run [] s3 _ _ (fun y H' => y = x ∧ H' = upd H2 W (.lst us)) I3 ⟨_, rfl, rfl, rfl⟩) (fun v s4 h4 => ?_) fun _ _ hx => hx.elim
      obtain ⟨y, H4, I4, rv, rfl, rfl⟩ := h4
      intro kap hkap
      have mv := moved_of lo I4 sm3
      obtain ⟨m, ⟨oL, es, ep, hoL, hdL, hrL⟩, _⟩ := id I4.loc
      have gen4 := I4.pin (a, go) (List.mem_append_left _ (List.mem_singleton.mpr rfl))
      refine ⟨W, i, y, us, oL, _, by omega, rv, hD W i Hr sr _ s4 y dx hCn mv hit tx hx3, ⟨upd_same, hoL, I4.free, gen4.1, gen4.2.1⟩, fun c q => (by rw [hdL] at q; cases q), fun s5 H5 hC5 stay5 as5 => hkap .none s5 ?_⟩
      -- awake again
      obtain ⟨e05, hL5⟩ := hC W (i + 1) H5 s5 hC5
      obtain ⟨s05, lo5⟩ := low_of s5 hL5
      have I5 : Inv (wxW P w K mg base f cd A outer L a go s05 H5) [] [some t, some (.ref W), some y] H5 s5 := by
        refine wake_inv walk_nc sc_walk.kind walk_nf e05 hfr hh lo5 hbl hol ((holds_of I4).keep walk_nc hoL as5.frm) as5.frn fun q hq => ?_
        rw [List.mem_singleton.mp hq]
        exact ⟨as5.gen, as5.gnn, haL, hao, hgo⟩
      have hy5 : Dp K H5 y dx := kdp_stay stay5 8 dx y tx.kd hx3
      have hus5 : DpAll K H5 us dvs' := tkAll_stay stay5 tus hus3
      have p3 : PS (wxW P w K mg base f cd A outer L a go s05 H5) b3 _ := ps_if (pt_val (pe_own hc hr (by rfl) (pa_cons (pv 2) pa_nil))) (pss_one (ps_expr (pe_bm PySem.F.plainAttrs_list PySem.F.slot_list_extend PySem.F.type_list_extend mt_extendT (pv 1) (pa_cons (pe_backT (pv 2)) pa_nil)))) pss_nil
      show Seg _ _ _ _ n s5 _ _ _ s5
      refine seg_execs_cons (st := b3) (rest := []) (seg_wrap ?_)
      rw [over_w]
      have go3 : ∀ (H6 : Hp) (s6 : Shared), AtHead P w K mg base f cd A outer L a go items (i + 1) W s05 H5 H6 s6 → Seg (model P w) A (RP Zn Er) (YP Cn Dn L a go items.length) n s5 (wCode f cd L) (.pure (.again (wCode f cd L))) [.ret kk none false [] (.func (defBody s_walk) (wE f cd L)) p []] s6 := fun H6 s6 hA =>
        seg_again rfl (ih (i + 1) W s05 s5 s5 s6 H5 H6 (by omega) hil hC5 lo5 hA)
      have hlen5 : (dvs'.reverse.flatMap pre).length ≤ 1200 := by
        have z := congrArg List.length hrest
        rw [List.length_append, List.length_drop] at z
        omega
      have hul : us.length ≤ 1200 := by
        have z := FvG.flat_len dvs'.reverse
        rw [List.length_reverse] at z
        have := dpAll_len hus5
        omega
      refine wpAny_mono (p3.run [] s5 _ H5 { nx := fun σ H' => σ = [some t, some (.ref W), some y] ∧ SmX [W] H5 H' ∧ ∃ vs' dvs2, H' W = some (.lst vs') ∧ DpAll K H' vs' dvs2 ∧ (∀ d ∈ dvs2, Tk d) ∧ dvs2.reverse.flatMap pre = items.drop (i + 1), rt := fun _ _ => False } I5 ?_) (fun fl s6 h6 => ?_) fun _ _ hx => hx.elim
      · refine ⟨_, rfl, y, dx, rfl, hy5, tx.gd, _, rfl, ?_⟩
        refine ite2 (fun c => ?_) (fun c => ?_)
        · have c' : isCd dx = true := c
          rcases tx.inv with ⟨z, rfl, _⟩ | ⟨o, ds, rfl, _, h2, tds, esum⟩
          · cases c'
          cases hy5 with
          | @tup ay xs _ hs ha =>
            cases ha with
            | @cons v0 vr _ _ h0 hr' =>
              refine ⟨_, rfl, .inl ⟨rfl, _, SqL.of as5.lst⟩, _, rfl, ay, v0, vr, rfl, hs, fun p2 np => ?_⟩
              have lv : vr.length = ds.length := dpAll_len hr'
              have hdl : ds.length ≤ 1200 := by
                have z1 := FvG.flat_len ds
                have z := congrArg List.length hrest
                rw [if_pos c, List.length_append, List.length_drop] at z
                have z2 : ((parts (.tuple (.str o :: ds))).flatMap pre).length = (ds.flatMap pre).length := rfl
                omega
              have Wp : W ≠ p2 := ne_of_none as5.lst np
              have sz : us.length + vr.reverse.length ≤ sizeLine := by
                rw [List.length_reverse, lv]
                exact Nat.le_trans (by omega : us.length + ds.length ≤ 2400) (by rw [sizeLine_eq]; decide)
              refine ⟨W, p2, us, vr.reverse, rfl, rfl, by rw [upd_ne Wp]; exact as5.lst, SqT.of upd_same, sz, rfl, ?_, ?_⟩
              · exact ((SmX.new np).put (List.mem_singleton.mpr rfl))
              · have st1 : Stay H5 (upd H5 p2 (.tup vr.reverse)) := stay_new np
                have st2 : Stay (upd H5 p2 (.tup vr.reverse)) (upd (upd H5 p2 (.tup vr.reverse)) W (.lst (us ++ vr.reverse))) := stay_lst (by rw [upd_ne Wp]; exact as5.lst)
                have st := st1.trans st2
                refine ⟨us ++ vr.reverse, dvs' ++ ds.reverse, upd_same, dpAll_app (tkAll_stay st tus hus5) (tkAll_stay st (fun d hd => tds d (List.mem_reverse.mp hd)) (dpAll_rev hr')), fun d hd => ?_, ?_⟩
                · rcases List.mem_append.mp hd with z | z
                  · exact tus d z
                  · exact tds d (List.mem_reverse.mp z)
                · rw [hrest, if_pos c, List.reverse_append, List.reverse_reverse, List.flatMap_append]
                  rfl
        · have c' : isCd dx = false := Bool.eq_false_iff.mpr c
          refine ⟨rfl, SmX.refl _ _, us, dvs', as5.lst, hus5, tus, ?_⟩
          rw [hrest, c']
          rfl
      · cases fl with
        | brk => obtain ⟨_, _, _, q⟩ := h6; exact q.elim
        | cont => obtain ⟨_, _, _, q⟩ := h6; exact q.elim
        | ret u => obtain ⟨_, _, _, _, _, q⟩ := h6; exact q.elim
        | next =>
          obtain ⟨σ6, H6, I6, rfl, sm6, vs', dvs2, q1, q2, q3, q4⟩ := h6
          exact go3 H6 s6 ⟨⟨t, some y, vs', dvs2, I6, q1, q2, q3, q4⟩, sm6⟩
/-- the whole of it, from its first turn on -/
theorem walk_seg {s s' s2 : Shared} {H : Hp} {v0 : V} {d0 : PyData} {g : Nat} {E : XK} {CT : Addr} (C_ml : OwnR P w K mg base k "measured_long" (spLong K CT)) (hc : Own P w K mg base k "is_compound" ["value"] (spIsCompound K)) (hr : Room k (A.deeper (wE f cd s.heap.objs.size))) (hfr : A.frames = some outer) (hh : A.handled = none)
    (e0 : Env0 P w K mg base A outer s H) (B : Born P w K mg base N_walk "walk" (defScope s_walk) f cd (defBody s_walk) outer H [v0] s a g go s') (k2 : ∀ b o, s'.heap.get? b = some o → s2.heap.get? b = some o) (o2 : s2.os = s.os) (bare2 : AllBare s2.gens)
    (hd : Dp K H v0 d0) (hg : gd 20 d0 = true) (hbad : meas 9 d0 600 = none → errAt CT "InvalidTerm" H E)
    (hC : ∀ W i H s1, Cn W i H s1 → Env0 P w K mg base A outer s1 H ∧ s.heap.objs.size ≤ s1.heap.objs.size)
    (hD : ∀ W i H s0 H1 s1 x d, Cn W i H s0 → Moved P w outer s.heap.objs.size [W] H H1 s0 s1 → (pre d0)[i]? = some d → Tk d → Dp K H1 x d → Dn W i x H1 s1)
    (hZ : ∀ W H s0 H1 s1, Cn W (pre d0).length H s0 → Moved P w outer s.heap.objs.size [W] H H1 s0 s1 → Zn W H1 s1)
    (h0 : (meas 9 d0 600).isSome = true → ∀ W, H W = none → Cn W 0 H s) :
    Seg (model P w) A (RP Zn fun e s1 => L2.CX P w outer H s E e s1 ∧ s1.heap.IsGen a g) (YP Cn Dn s.heap.objs.size a go (pre d0).length) ((pre d0).length + 1) s2 (.func (defBody s_walk) (wE f cd s.heap.objs.size)) ((model P w).den (.func (defBody s_walk) (wE f cd s.heap.objs.size))) [] s2 := by
  have nd : N_walk.Nodup := sc_walk.nd
  have I0 := B.begin_ A E s2 hfr hh k2 o2 bare2
  have pass : Passes (L2.CX P w) (gcxOf P w K mg base N_walk "walk" (defScope s_walk) f cd A outer s H E [(a, go)]) E := passes_call takes_gcx fun _ _ _ _ h => h
  have p1 : PS (gcxOf P w K mg base N_walk "walk" (defScope s_walk) f cd A outer s H E [(a, go)]) w1 _ := ps_expr (pe_ownR C_ml hr (by rfl) pass (pa_cons (pv 0) pa_nil))
  have p2 : PS (gcxOf P w K mg base N_walk "walk" (defScope s_walk) f cd A outer s H E [(a, go)]) w2 _ := ps_set (i := 1) nd rfl (.inl rfl) (pe_lst (pa_cons (pv 0) pa_nil))
  have exc : ∀ {n : Nat} {t0 : Shared} {e : Value} {s1 : Shared}, (gcxOf P w K mg base N_walk "walk" (defScope s_walk) f cd A outer s H E [(a, go)]).xe e s1 → Seg (model P w) A (RP Zn fun e s1 => L2.CX P w outer H s E e s1 ∧ s1.heap.IsGen a g) (YP Cn Dn s.heap.objs.size a go (pre d0).length) n t0 (.func (defBody s_walk) (wE f cd s.heap.objs.size)) ((leaving (wE f cd s.heap.objs.size) e).wrap (fun _ => .raise e) .raise id id) [] s1 := fun {n t0 e s1} hx => by
    refine seg_wrap ?_
    rw [over_func]
    refine wpAny_mono (show wpAny (model P w) (A.deeper (wE f cd s.heap.objs.size)) (leaving (wE f cd s.heap.objs.size) e) (fun _ s2 => L2.CX P w outer H s E e s2 ∧ ∀ p ∈ [(a, go)], s2.heap.get? p.1 = some p.2) (fun _ _ => False) s1 from hx) (fun _ s3 q => ?_) fun _ _ q => q.elim
    exact seg_end (.error e) (.inr ⟨e, rfl, q.1, B.obj.is (q.2 (a, go) (List.mem_singleton.mpr rfl))⟩)
  refine seg_func ?_
  refine seg_execs_cons (st := w1) (rest := [w2, w3]) (seg_wrap ?_)
  rw [over_func]
  refine wpAny_mono (p1.run [] s2 _ H { nx := fun σ H' => σ = [some v0, none, none] ∧ Same H H' ∧ (meas 9 d0 600).isSome = true, rt := fun _ _ => False } I0 ⟨_, rfl, v0, d0, rfl, hd, hg, fun dp sz e H' p s' _ => ⟨rfl, s', by rw [e]; rfl⟩, hbad⟩) (fun fl s3 h3 => ?_) fun _ _ hx => exc hx
  cases fl with
  | brk => obtain ⟨_, _, _, q⟩ := h3; exact q.elim
  | cont => obtain ⟨_, _, _, q⟩ := h3; exact q.elim
  | ret u => obtain ⟨_, _, _, _, _, q⟩ := h3; exact q.elim
  | next =>
  obtain ⟨σ3, H3, I3, rfl, sm3, hm⟩ := h3
  have ms := meas_some 9 d0 600
  rw [hm] at ms
  have ms' := Bool.and_eq_true_iff.mp ms.symm
  have tk : Tk d0 := ⟨of_decide_eq_true ms'.1, of_decide_eq_true ms'.2, hg⟩
  refine seg_execs_cons (st := w2) (rest := [w3]) (seg_wrap ?_)
  rw [over_func]
  refine wpAny_mono (p2.run [] s3 _ H3 { nx := fun σ H' => ∃ W, H3 W = none ∧ σ = [some v0, some (.ref W), none] ∧ H' = upd H3 W (.lst [v0]), rt := fun _ _ => False } I3 ⟨_, rfl, by show 1 ≤ sizeLine; decide, fun W nW => ⟨W, nW, rfl, rfl⟩⟩) (fun fl s4 h4 => ?_) fun _ _ hx => exc hx
  cases fl with
  | brk => obtain ⟨_, _, _, q⟩ := h4; exact q.elim
  | cont => obtain ⟨_, _, _, q⟩ := h4; exact q.elim
  | ret u => obtain ⟨_, _, _, _, _, q⟩ := h4; exact q.elim
  | next =>
  obtain ⟨σ4, H4, I4, W, nW, rfl, rfl⟩ := h4
  have nW0 : H W = none := by
    cases e : H W with
    | none => rfl
    | some o => rw [sm3 W o e] at nW; cases nW
  have ns := same_upd (o := .lst [v0]) nW
  have I5 : Inv (wxW P w K mg base f cd A outer s.heap.objs.size a go s H) [] [some v0, some (.ref W), none] (upd H3 W (.lst [v0])) s4 :=
    ⟨⟨I4.ok.mod, I4.ok.kind, I4.ok.glob, I4.ok.blt, I4.ok.above, I4.ok.inj, I4.ok.has, I4.ok.cab, I4.ok.hd, I4.ok.frames, I4.ok.stk, I4.ok.exf, I4.ok.bs, I4.ok.bsz, I4.ok.noex, I4.ok.exfs, I4.ok.funs, I4.ok.frf⟩, I4.os, I4.bare, I4.base, I4.loc, I4.cell, I4.free, I4.freeC, I4.pin, I4.hok, I4.len⟩
  have hv4 : Dp K (upd H3 W (.lst [v0])) v0 d0 := dp_same ns d0 v0 (dp_same sm3 d0 v0 hd)
  have pinA := I4.pin (a, go) (List.mem_append_left _ (List.mem_singleton.mpr rfl))
  have hol : ∀ b ∈ frs outer, b < s.heap.objs.size := fun b hb => by
    obtain ⟨_, o, ho, _⟩ := e0.funs.mem hb
    exact Heap.lt_size ho
  refine seg_execs_cons (st := w3) (rest := []) (seg_While (test := wT) (body := wB) (orelse := []) fun p => ?_)
  exact walk_head hc hr hfr hh e0.bsz hol (Nat.ne_of_gt B.above) pinA.2.2.2.1 B.obj.nocell hC hD hZ (pre_small tk) rfl ((pre d0).length + 1) 0 W s s s2 s4 H _ rfl (Nat.zero_le _) (h0 hm W nW0) (Low.refl s)
    ⟨⟨v0, none, [v0], [d0], I5, upd_same, .cons hv4 .nil, fun d hd => by rw [List.mem_singleton.mp hd]; exact tk, by simp⟩, (SmX.of_same sm3).put (List.mem_singleton.mpr rfl)⟩
end
end Fv


set_option maxHeartbeats 2000000
namespace Fv
open PySem PySem.Spec PyProof.Rows L2 GenW FvX FvD FvG
/-! ### each one once, by the first occurrence -/
def addD (acc : List PyData) (d : PyData) : List PyData := if (acc.any fun e => decide (nk e = nk d)) = true then acc else acc ++ [d]
def onceD (l : List PyData) : List PyData := l.foldl addD []
theorem once_take {items : List PyData} {i : Nat} {d : PyData} (h : items[i]? = some d) : onceD (items.take (i + 1)) = addD (onceD (items.take i)) d := by
  unfold onceD
  rw [List.take_add_one, h, List.foldl_append]
  rfl
theorem put_keys (kvs : List NKV) (d : PyData) (y v : V) : (putN kvs d y v).map (·.1) = addD (kvs.map (·.1)) d := by
  unfold putN addD
  have e : (kvs.map (·.1)).any (fun e => decide (nk e = nk d)) = kvs.any fun p => decide (nk p.1 = nk d) := by
    rw [List.any_map]
    rfl
  rw [e]
  by_cases c : (kvs.any fun p => decide (nk p.1 = nk d)) = true
  · rw [if_pos c, if_pos c, List.map_map]
    refine List.map_congr_left fun p _ => ?_
    show (if nk p.1 = nk d then (p.1, p.2.1, v) else p).1 = p.1
    split <;> rfl
  · rw [if_neg c, if_neg c, List.map_append]
    rfl
theorem put_ok {K : PySem.W.Frag} {H : Hp} {kvs : List NKV} {d : PyData} {y v : V} (h : KyOk K H kvs) (hd : kd 8 d = true) (hy : Dp K H y d) : KyOk K H (putN kvs d y v) := fun p hp => by
  unfold putN at hp
  split at hp
  · obtain ⟨q, hq, rfl⟩ := List.mem_map.mp hp
    by_cases c : nk q.1 = nk d
    · rw [if_pos c]; exact h q hq
    · rw [if_neg c]; exact h q hq
  · rcases List.mem_append.mp hp with z | z
    · exact h p z
    · rw [List.mem_singleton.mp z]; exact ⟨hd, hy⟩
theorem ky_stay {K : PySem.W.Frag} {H H' : Hp} {kvs : List NKV} (s : Stay H H') (h : KyOk K H kvs) : KyOk K H' kvs := fun p hp => ⟨(h p hp).1, kdp_stay s 8 _ _ (h p hp).1 (h p hp).2⟩
theorem once_len (l : List PyData) : (onceD l).length ≤ l.length := by
  have gen : ∀ (l acc : List PyData), (l.foldl addD acc).length ≤ acc.length + l.length := by
    intro l
    induction l with
    | nil => intro acc; simp
    | cons d r ih =>
      intro acc
      rw [List.foldl_cons, List.length_cons]
      have a := ih (addD acc d)
      have b : (addD acc d).length ≤ acc.length + 1 := by
        unfold addD
        split
        · omega
        · simp
      omega
  have := gen l []
  unfold onceD
  simpa using this
/-! ### names, the state told -/
section
variable {X : Cx} {pins : List (Addr × Obj)} {σ : L2.St} {H : Hp} {s : Shared}
theorem ev_name {E : Value → Shared → Prop} {i : Nat} {x : Str} {v : V} {pos : Pos} {Q : Value → Shared → Prop} (I : Inv X pins σ H s) (hN : X.N[i]? = some x) (hk : X.env.scope.names.lookup x = some .local) (e : σ[i]? = some (some v)) (h : ∀ u, RelV v u → Q u s) (hd : (x == ("__debug__" : Str)) = false := by decide) :
    wpAny (model X.prog X.w) X.A (eval (.Name x pos) X.env) Q E s := by
  obtain ⟨m, hn, hl⟩ := I.loc
  obtain ⟨u, r, l⟩ := hl i x v hN e (.inl hk)
  rcases l with ⟨hk', hm⟩ | ⟨hk', _⟩
  · exact wpAny_Name (wpAny_loadName_local I.ok.kind hk' hn hm (h u r)) hd
  · have z : X.env.scope.names.lookup x = some .cell ∨ X.env.scope.names.lookup x = some .free := hk'
    rw [hk] at z
    rcases z with z | z <;> cases z
theorem inv_gens {s' : Shared} (I : Inv X pins σ H s) (hh : s'.heap = s.heap) (ho : s'.os = s.os) (hb : AllBare s'.gens) : Inv X pins σ H s' := by
  have k : ∀ b o, s.heap.get? b = some o → s'.heap.get? b = some o := fun b o e => by rw [hh]; exact e
  exact I.call' (ch := []) ho (Un.kept k) (I.hok.kept k) hb fun b z => absurd z (by simp)
theorem cx_kin {E : XK} {e : Value} {s' : Shared} (I : Inv X pins σ H s) (c : L2.CX X.prog X.w X.stack H s E e s') : X.K.In s'.heap := by
  obtain ⟨a, B, H', cls, d, _, fl, _, ub, _⟩ := c
  refine I.ok.mod.kin.keeps fun b o eb => ?_
  obtain ⟨e1, e2⟩ := I.bs b o eb
  refine fl.1 b o (ub.keep b o e1 e2 fun hm => ?_)
  rcases List.mem_cons.mp (I.stkSub b hm) with z | z
  · have a1 := Heap.lt_size eb
    rw [z] at a1
    exact absurd (Nat.lt_of_lt_of_le a1 (Nat.le_trans I.ok.bsz I.ok.above)) (Nat.lt_irrefl _)
  · exact I.ok.nofr eb z
end
/-! ### for x in walk(e): d[x] = True -/
structure LoopI (K : PySem.W.Frag) (w : World) (da : Addr) (H1 : Hp) (items : List PyData) (W : Addr) (i : Nat) (H : Hp) : Prop where
  ne : W ≠ da
  new : H1 W = none
  sm : SmX [da, W] H1 H
  stay : Stay H1 H
  dic : ∃ kvs, H da = some (NdO w da kvs) ∧ KyOk K H kvs ∧ kvs.map (·.1) = onceD (items.take i)
theorem LoopI.moved {K : PySem.W.Frag} {w : World} {da : Addr} {H1 : Hp} {items : List PyData} {W : Addr} {i : Nat} {H H2 : Hp} {P : Program} {outer : List Env} {L : Addr} {s s2 : Shared} (l : LoopI K w da H1 items W i H) (m : Moved P w outer L [W] H H2 s s2) : LoopI K w da H1 items W i H2 := by
  have st : Stay H H2 := ⟨m.un.tups, m.un.frzs⟩
  obtain ⟨kvs, q1, q2, q3⟩ := l.dic
  refine ⟨l.ne, l.new, l.sm.trans (m.sm.sub fun b hb => .inl (List.mem_cons_of_mem _ hb)), l.stay.trans st, kvs, m.sm da _ (fun z => l.ne (List.mem_singleton.mp z).symm) q1, ky_stay st q2, q3⟩
def tForW (K : PySem.W.Frag) (w : World) (CT : Addr) (E : XK) (i1 i2 : Nat) (ta : TA) : TS := fun D σ H => ta σ H fun vs H1 => ∃ v0 d0 da, vs = [v0] ∧ Dp K H1 v0 d0 ∧ gd 20 d0 = true ∧ σ[i1]? = some (some (.ref da)) ∧ H1 da = some (NdO w da []) ∧ (meas 9 d0 600 = none → errAt CT "InvalidTerm" H1 E) ∧
  ((meas 9 d0 600).isSome = true → ∀ (H' : Hp) (x : V) (kvs : List NKV) (W : Addr), H1 W = none → W ≠ da → SmX [da, W] H1 H' → Stay H1 H' → H' da = some (NdO w da kvs) → KyOk K H' kvs → kvs.map (·.1) = onceD (pre d0) → D.nx (σ.set i2 (some x)) H')
section
variable {X : Cx} {k : Nat} {fw CT : Addr} {fd : FuncData} {E : XK} {xf xp : Str} {i1 i2 j : Nat} {e : Expr} {ta : TA} {p1 p2 p3 p4 p5 p6 p7 pos : Pos}
theorem ps_forW (F : Fun X.K "walk" "walk" s_walk fw fd) (hmg : X.mg "walk" = some (.ref fw)) (hg : Gl X "walk") (C_ml : OwnR X.prog X.w X.K X.mg X.base k "measured_long" (spLong X.K CT)) (C_ic : Own X.prog X.w X.K X.mg X.base k "is_compound" ["value"] (spIsCompound X.K))
    (hr : Room (k + 3) X.A) (hp : PassesOwn (model X.prog X.w) X.A X.env X.xe) (hx : Passes (L2.CX X.prog X.w) X E) (hns : NoStop X.K E) (nd : X.N.Nodup) (hN1 : X.N[i1]? = some xf) (hN2 : X.N[i2]? = some xp) (hk1 : X.env.scope.names.lookup xf = some .local) (hk2 : X.env.scope.names.lookup xp = some .local) (h12 : i1 ≠ i2)
    (ha : PA X [e] ta) (hst : starEach [e] X.env = (false, eval e X.env) :: starEach [] X.env := by rfl) (hd1 : (xf == ("__debug__" : Str)) = false := by decide) (hd2 : (xp == ("__debug__" : Str)) = false := by decide) (hsw : swapsWith (.Constant (.bool true) j p6) (some (.Subscript (.Name xf p3) (.Name xp p4) p5)) p7.line X.env = pure false := by rfl) :
    PS X (.For (.Name xp p1) (.Call (.Name "walk" p2) [e] [] pos) [.Assign [.Subscript (.Name xf p3) (.Name xp p4) p5] (.Constant (.bool true) j p6) p7] [] pos') (tForW X.K X.w CT E i1 i2 ta) := by
  refine ⟨fun pins s σ H D I h => ?_⟩
  obtain ⟨oc, od, kV, doc, pm, an, cdv, ct, osl, rfl, lk, hcd⟩ := F.ex
  refine wpAny_For ?_ (fun _ => rfl)
  refine wpAny_Call_Name_kw (ld_glob I hg hmg ?_)
  refine PySem.W.callWith_K (h₀ := X.base) I.ok.mod.kin F.kp (thn (ha.run pos pins s σ H _ I h) fun us s1 z => ?_) hst rfl
  obtain ⟨vs, H1, I1, r, v0, d0, da, rfl, hd, hgd, hs1, hda, hbad, hgood⟩ := z
  refine ⟨I1.kIn, ?_⟩
  have hl : us.length = 1 := by rw [← r.length]; rfl
  have bnd : BindsTo s1 (PySem.W.fnOf "walk" "walk" (defArgs s_walk) (defBody s_walk) (defScope s_walk) .none kV doc pm an cdv ct) ⟨us, []⟩ ((["term"] : List Str).zip us) := by
    match us, hl with
    | [u], _ => exact .of_eq rfl
  refine wpAny_call (codeAny_mono (born_of (vs := [v0]) lk hcd sc_walk rfl hr.depth hr.hd I1.env0 bnd r) fun r2 s2 hq => ?_)
  obtain ⟨a, g, go, rfl, B⟩ := hq
  show wpAny _ _ (pyIter (.ref a)) _ _ s2
  refine wpAny_pyIter_gen (B.obj.is B.at_) ?_
  -- those who wait, and what they see
  have below : ∀ p ∈ X.pn ++ pins, p.1 < s1.heap.objs.size := fun p hp => Heap.lt_size (I1.pin p hp).1
  have lowL : X.env.locals < s1.heap.objs.size := I1.lt
  have hiOk : ∀ (t : Shared) (b : Addr), b ∈ high s1.heap.objs.size t → (b ∈ X.ex ∨ X.s_0.heap.objs.size ≤ b) ∧ b ≠ X.env.locals ∧ (∀ x c, X.env.cells.lookup x = some c → c ≠ b) ∧ ∀ p ∈ X.pn ++ pins, p.1 ≠ b := fun t b hb => by
    have lb := (high_mem.mp hb).1
    refine ⟨.inr (Nat.le_trans I1.sz lb), Nat.ne_of_gt (Nat.lt_of_lt_of_le lowL lb), fun x c hc z => ?_, fun p hp z => ?_⟩
    · obtain ⟨v, o, ho, _⟩ := I1.cell x c hc
      have := Heap.lt_size ho
      rw [z] at this
      exact absurd (Nat.lt_of_lt_of_le this lb) (Nat.lt_irrefl _)
    · have := below p hp
      rw [z] at this
      exact absurd (Nat.lt_of_lt_of_le this lb) (Nat.lt_irrefl _)
  have slots : ∀ x, (σ.set i2 (some x))[i1]? = some (some (.ref da)) := fun x => by rw [List.getElem?_set_ne (Ne.symm h12)]; exact hs1
  let Cn : Addr → Nat → Hp → Shared → Prop := fun W i H' t => ∃ σ', Inv X pins σ' H' t ∧ ((i = 0 ∧ σ' = σ) ∨ ∃ x, σ' = σ.set i2 (some x)) ∧ s1.heap.objs.size ≤ t.heap.objs.size ∧ LoopI X.K X.w da H1 (pre d0) W i H' ∧ (meas 9 d0 600).isSome = true
  let Dn : Addr → Nat → V → Hp → Shared → Prop := fun W i x H' t => ∃ σ', Inv X pins σ' H' t ∧ ((i = 0 ∧ σ' = σ) ∨ ∃ x, σ' = σ.set i2 (some x)) ∧ LoopI X.K X.w da H1 (pre d0) W i H' ∧ (∃ d, (pre d0)[i]? = some d ∧ Tk d ∧ Dp X.K H' x d) ∧ (meas 9 d0 600).isSome = true
  let Zn : Addr → Hp → Shared → Prop := fun W H' t => ∃ x, Inv X pins (σ.set i2 (some x)) H' t ∧ LoopI X.K X.w da H1 (pre d0) W (pre d0).length H' ∧ (meas 9 d0 600).isSome = true
  have small : (meas 9 d0 600).isSome = true → (pre d0).length ≤ 1200 := fun hm => by
    have ms := meas_some 9 d0 600
    rw [hm] at ms
    have ms' := Bool.and_eq_true_iff.mp ms.symm
    exact pre_small ⟨of_decide_eq_true ms'.1, of_decide_eq_true ms'.2, hgd⟩
  have pos0 : 0 < (pre d0).length := by rw [pre_eq]; exact Nat.succ_pos _
  have afterM : ∀ {W : Addr} {H' H2 : Hp} {t t2 : Shared} {σ' : L2.St}, Inv X pins σ' H' t → Moved X.prog X.w X.stack s1.heap.objs.size [W] H' H2 t t2 → Inv X pins σ' H2 t2 := fun {W H' H2 t t2 σ'} It m =>
    It.call' (ch := high s1.heap.objs.size t) m.os m.un m.hok m.bare fun b hb => hiOk t b hb
  have hfr : X.A.in1.frames = some X.stack := I1.ok.frames
  have hC : ∀ W i H' t, Cn W i H' t → Env0 X.prog X.w X.K X.mg X.base X.A.in1 X.stack t H' ∧ s1.heap.objs.size ≤ t.heap.objs.size := fun W i H' t ⟨σ', It, _, hL, _⟩ =>
    ⟨⟨hfr, It.env0.mod, It.env0.bs, It.env0.bsz, It.env0.funs, It.env0.frf, It.env0.hok, It.env0.bare⟩, hL⟩
  have e01 : Env0 X.prog X.w X.K X.mg X.base X.A.in1 X.stack s1 H1 := ⟨hfr, I1.env0.mod, I1.env0.bs, I1.env0.bsz, I1.env0.funs, I1.env0.frf, I1.env0.hok, I1.env0.bare⟩
  have hD : ∀ W i H' t H2 t2 x d, Cn W i H' t → Moved X.prog X.w X.stack s1.heap.objs.size [W] H' H2 t t2 → (pre d0)[i]? = some d → Tk d → Dp X.K H2 x d → Dn W i x H2 t2 := fun W i H' t H2 t2 x d ⟨σ', It, sl, hL, lp, hm⟩ m hi tk hdp =>
    ⟨σ', afterM It m, sl, lp.moved m, ⟨d, hi, tk, hdp⟩, hm⟩
  have hZ : ∀ W H' t H2 t2, Cn W (pre d0).length H' t → Moved X.prog X.w X.stack s1.heap.objs.size [W] H' H2 t t2 → Zn W H2 t2 := fun W H' t H2 t2 ⟨σ', It, sl, hL, lp, hm⟩ m => by
    rcases sl with ⟨z, _⟩ | ⟨x, rfl⟩
    · omega
    · exact ⟨x, afterM It m, lp.moved m, hm⟩
  have h0 : (meas 9 d0 600).isSome = true → ∀ W, H1 W = none → Cn W 0 H1 s1 := fun hm W nW =>
    ⟨σ, I1, .inl ⟨rfl, rfl⟩, Nat.le_refl _, ⟨(fun z => by rw [z, hda] at nW; cases nW), nW, SmX.refl _ _, Stay.refl _, [], hda, (fun p hp => nomatch hp), rfl⟩, hm⟩
  have seg := fun (t2 : Shared) (k2 : ∀ b o, s2.heap.get? b = some o → t2.heap.get? b = some o) (o2 : t2.os = s1.os) (b2 : AllBare t2.gens) =>
    walk_seg (A := X.A.in1) (Cn := Cn) (Dn := Dn) (Zn := Zn) (E := E) C_ml C_ic (((hr.mono (by omega : k + 2 ≤ k + 3)).in1).deeper _) hfr hr.hd e01 B k2 o2 b2 hd hgd hbad hC hD hZ h0
  refine codeAny_forLoop_any (fun n t => t.heap.NoLimit ∧ t.heap.get? a = some go ∧ ∃ gs, t.gens[g]? = some gs ∧ gs.Goes (model X.prog X.w) X.A.in1 (RP Zn fun e t1 => L2.CX X.prog X.w X.stack H1 s1 E e t1 ∧ t1.heap.IsGen a g) (YP Cn Dn s1.heap.objs.size a go (pre d0).length) n (.send .none) (t.setGen g .running)) ?_ ((pre d0).length + 1)
    ⟨B.lim, B.at_, _, B.gen, rfl, seg (s2.setGen g .running) (fun b o e => e) B.os (allBare_setGen B.bare rfl)⟩
  rintro n t ⟨lim, hat, gs, hgs, hgo⟩
  have hgl : g < t.gens.size := (Array.getElem?_eq_some_iff.mp hgs).1
  refine wpAny_passesOwn hp (wpAny_gsz (n := g + 1) hgl (next_genG (A := X.A) (F := fun _ _ t1 => ∃ W H', Zn W H' t1) (Er := fun e t1 => L2.CX X.prog X.w X.stack H1 s1 E e t1 ∧ t1.heap.IsGen a g) hr.hd lim hr.depth (B.obj.is hat) hgs hgo (fun v t1 gs' hbare hv => ?_) (fun t1 hz h' hk => ?_) fun ee t1 he => ?_))
  · intro hsz
    obtain ⟨W, i, x, vs, oL, H5, hni, rv, ⟨σ5, I5, sl5, lp5, ⟨d, hdi, tk, hdp⟩, hm⟩, as5, ncell, wake⟩ := hv
    have hsz1 : g < t1.gens.size := by
      have z : g + 1 ≤ (t1.setGen g gs').gens.size := hsz
      rw [setGen_size] at z
      omega
    obtain ⟨nm, qn, hdat⟩ := B.obj.dat
    refine go_of (o := go) (s := t1.setGen g gs') as5.gen B.obj.cls hdat (by decide) ?_
    have I6 : Inv X pins σ5 H5 (t1.setGen g gs') := inv_gens I5 rfl rfl (allBare_setGen I5.bare hbare)
    have nfs : ∀ b, s1.heap.objs.size ≤ b → b ∉ X.fs := fun b hb hm => by
      obtain ⟨_, o, ho, _⟩ := I1.ok.funs.mem hm
      have z := Heap.lt_size ho
      exact absurd (Nat.lt_of_lt_of_le z (Nat.le_trans I1.sz hb)) (Nat.lt_irrefl _)
    have I7 : Inv X (pins ++ [(s1.heap.objs.size, oL), (a, go)]) σ5 H5 (t1.setGen g gs') := I6.pins_of fun p hp => by
      rcases List.mem_append.mp hp with z | z
      · exact I6.pin p (List.mem_append_right _ z)
      · rcases List.mem_cons.mp z with z | z
        · rw [z]
          exact ⟨as5.frm, as5.frn, Nat.ne_of_gt lowL, nfs _ (Nat.le_refl _), ncell⟩
        · rw [List.mem_singleton.mp z]
          exact ⟨as5.gen, as5.gnn, Nat.ne_of_gt (Nat.lt_trans lowL B.above), nfs _ (Nat.le_of_lt B.above), B.obj.nocell⟩
    have hlσ : σ5.length = σ.length := by
      rcases sl5 with ⟨_, rfl⟩ | ⟨y, rfl⟩
      · rfl
      · exact List.length_set ..
    have set5 : σ5.set i2 (some x) = σ.set i2 (some x) := by
      rcases sl5 with ⟨_, rfl⟩ | ⟨y, rfl⟩
      · rfl
      · exact List.set_set ..
    have hi2 : i2 < σ.length := by rw [I1.len]; exact (List.getElem?_eq_some_iff.mp hN2).1
    refine wpAny_assign_Name (store_loc I7 nd hN2 hk2 rv fun h8 t8 I8 => ?_)
    rw [set5] at I8
    obtain ⟨kvs, q1, q2, q3⟩ := lp5.dic
    have kl : kvs.length < sizeLine := by
      have z1 := congrArg List.length q3
      rw [List.length_map] at z1
      have z2 := once_len ((pre d0).take i)
      have z3 : ((pre d0).take i).length ≤ (pre d0).length := by rw [List.length_take]; omega
      have z4 := small hm
      exact Nat.lt_of_le_of_lt (by omega : kvs.length ≤ 1200) (by rw [sizeLine_eq]; decide)
    refine wpAny_execs_cons (wpAny_Assign_Subscript (Constant_bool (ev_name I8 hN1 hk1 (slots x) (fun u1 r1 => ev_name I8 hN2 hk2 (by rw [List.getElem?_set_self hi2]) (fun u2 r2 => ?_) hd2) hd1)) hsw)
    obtain rfl : u1 = Value.ref da := r1
    refine d_setN (v := .bl true) (r := .bool true) (by have := hr.un; omega) I8 q1 q2 tk.kd hdp r2 rfl kl fun h9 t9 I9 => ?_
    refine wpAny_execs_nil ?_
    -- the sleeper finds all as it was
    have stay9 : Stay H5 (upd H5 da (NdO X.w da (putN kvs d x (.bl true)))) := Stay.put ⟨fun xs z => (by rw [q1] at z; cases z), fun u v z => (by rw [q1] at z; cases z)⟩
    have pL := I9.pin (s1.heap.objs.size, oL) (List.mem_append_right _ (List.mem_append_right _ List.mem_cons_self))
    have pA := I9.pin (a, go) (List.mem_append_right _ (List.mem_append_right _ (List.mem_cons_of_mem _ (List.mem_singleton.mpr rfl))))
    have I10 : Inv X pins (σ.set i2 (some x)) (upd H5 da (NdO X.w da (putN kvs d x (.bl true)))) _ := I9.pins_of fun p hp => I9.pin p (List.mem_append_right _ (List.mem_append_left _ hp))
    have lp9 : LoopI X.K X.w da H1 (pre d0) W (i + 1) (upd H5 da (NdO X.w da (putN kvs d x (.bl true)))) := by
      refine ⟨lp5.ne, lp5.new, lp5.sm.put List.mem_cons_self, lp5.stay.trans stay9, _, upd_same, ky_stay stay9 (put_ok q2 tk.kd hdp), ?_⟩
      rw [put_keys, q3, once_take hdi]
    have as9 : Asleep s1.heap.objs.size a go W vs oL (upd H5 da (NdO X.w da (putN kvs d x (.bl true)))) ({ t1.setGen g gs' with heap := h9, toks := t9 } : Shared) := ⟨by rw [upd_ne lp5.ne]; exact as5.lst, pL.1, pL.2.1, pA.1, pA.2.1⟩
    have aw := wake (({ t1.setGen g gs' with heap := h9, toks := t9 } : Shared).setGen g .running) _ ⟨_, inv_gens I10 rfl rfl (allBare_setGen I10.bare rfl), .inr ⟨x, rfl⟩, Nat.le_of_lt (Heap.lt_size pL.1), lp9, hm⟩ stay9 ⟨as9.lst, as9.frm, as9.frn, as9.gen, as9.gnn⟩
    cases n with
    | zero => exact aw.elim
    | succ m => exact ⟨m, Nat.lt_succ_self m, I10.nolimit, pA.1, gs', setGen_at hsz1, aw⟩
  · intro hsz
    obtain ⟨W, H2, x, I2, lp, hm⟩ := hz
    obtain ⟨kvs, q1, q2, q3⟩ := lp.dic
    rw [List.take_length] at q3
    have I3 : Inv X pins (σ.set i2 (some x)) H2 (t1.setGen g .finished) := inv_gens I2 rfl rfl (allBare_setGen I2.bare rfl)
    have I4 := I3.kept (t' := t1.toks) hk
    exact wpAny_execs_nil ⟨_, H2, I4, hgood hm H2 x kvs W lp.new lp.ne lp.sm lp.stay q1 q2 q3⟩
  · obtain ⟨hc, hi⟩ := he
    refine ⟨hi, notStop_of hns (cx_kin I1 hc) hc, fun _ => hx pins σ H1 s1 ee _ I1 ?_⟩
    obtain ⟨a', B', H', cls, d, z1, fl, z2, ub, z3, z4, z5, z6⟩ := hc
    exact ⟨a', B', H', cls, d, z1, fl, z2, ub, z3, z4, allBare_setGen z5 rfl, z6⟩
end
end Fv


namespace Fv
open PySem PySem.Spec PyProof.Rows L2 FvX TL




/-! ### turned terms, terms with letters replaced -/
def opT (o : Str) : Str := if o = "&" then "|" else "&"
def tnd : Nat → PyData → PyData
  | 0, d => d
  | m + 1, .tuple (.str o :: ds) => .tuple (.str (opT o) :: ds.map (tnd m))
  | _ + 1, d => d
def swp (f : Str → Option PyData) : Nat → PyData → PyData
  | 0, d => d
  | _ + 1, .str x => (f x).getD (.str x)
  | m + 1, .tuple (.str o :: ds) => .tuple (.str o :: ds.map (swp f m))
  | _ + 1, d => d
/-- the table at kvs: f -/
def tabOf (K : PySem.W.Frag) (H : Hp) (kvs : List (Key × V)) (f : Str → Option PyData) : Prop := ∀ x, (f x = none ∧ valV kvs (.inr x) = none) ∨ ∃ e u, f x = some e ∧ valV kvs (.inr x) = some u ∧ Dp K H u e
theorem tabOf.same {K : PySem.W.Frag} {H H' : Hp} {kvs : List (Key × V)} {f : Str → Option PyData} (h : tabOf K H kvs f) (s : Same H H') : tabOf K H' kvs f := fun x => by
  rcases h x with z | ⟨e, u, h1, h2, h3⟩
  · exact .inl z
  · exact .inr ⟨e, u, h1, h2, dp_same s _ _ h3⟩
def spTnd (K : PySem.W.Frag) (n : Nat) : Sp := fun vs H Q _ => ∃ (v : V) (d : PyData) (m : Nat) (M : List Addr), vs = [v] ∧ Dp K H v d ∧ gd 20 d = true ∧ m < n ∧ 1 ≤ lmeas m d ∧ Trk M H ∧
  ∀ H' v', Same H H' → Dp K (hide M H') v' (tnd m d) → Q v' H'
def spSwp (K : PySem.W.Frag) (n : Nat) : Sp := fun vs H Q _ => ∃ (v : V) (c : Addr) (d : PyData) (m : Nat) (M : List Addr) (kvs : List (Key × V)) (f : Str → Option PyData), vs = [v, .ref c] ∧ Dp K H v d ∧ gd 20 d = true ∧ m < n ∧ 1 ≤ lmeas m d ∧ Trk M H ∧
  H c = some (.dK kvs) ∧ tabOf K (hide M H) kvs f ∧ ∀ H' v', Same H H' → Dp K (hide M H') v' (swp f m d) → Q v' H'
theorem hid_more {M : List Addr} {H H1 : Hp} {D : Addr} (nD : H D = none) (s : Same H H1) : Same (hide M H) (hide (D :: M) H1) := fun b o e => by
  obtain ⟨nb, e⟩ := hide_some e
  have bD : b ≠ D := ne_of_none e nD
  rw [hide_ne (fun z => by
    rcases List.mem_cons.mp z with z | z
    · exact bD z
    · exact nb z)]
  exact s _ _ e
theorem hid_less {M : List Addr} {H H1 : Hp} {D : Addr} (s : Same H H1) : Same (hide (D :: M) H) (hide M H1) := (hide_sub fun b hb => List.mem_cons_of_mem _ hb).trans (SmX.of_same s).hid
theorem trk_cons {M : List Addr} {H H1 : Hp} {D : Addr} {o : HO} (t : Trk M H) (s : Same H H1) (e : H1 D = some o) : Trk (D :: M) H1 := fun b hb => by
  rcases List.mem_cons.mp hb with z | z
  · rw [z]; exact ⟨_, e⟩
  · exact t.same s b z
theorem amp_dec (o : Str) : decide (V.str o = V.str "&") = decide (o = "&") := by
  rw [Bool.eq_iff_iff, decide_eq_true_eq, decide_eq_true_eq]
  exact ⟨V.str.inj, congrArg V.str⟩
theorem ifC {b : Bool} {x y : Str} {σ : L2.St} {H : Hp} {Q : VK} (h : Q (.str (if b = true then x else y)) H) : if b = true then tC (.str x) σ H Q else tC (.str y) σ H Q := by
  cases b <;> exact h
theorem opT_eq (o : Str) : (if decide (o = "&") = true then ("|" : Str) else "&") = opT o := by
  unfold opT
  by_cases e : o = "&"
  · rw [if_pos e, if_pos (decide_eq_true e)]
  · rw [if_neg e, if_neg (fun z => e (of_decide_eq_true z))]
section
variable {P : Program} {w : World} {K : PySem.W.Frag} {mg : Str → Option Value} {base : Heap}
theorem tnd_zero {f : Addr} {fd : FuncData} {k : Nat} {ps : List Str} : FnOk P w K mg base CX0 k f fd ps (spTnd K 0) := by
  have no : ∀ vs H Q E, ¬ spTnd K 0 vs H Q E := fun vs H Q E h => by
    obtain ⟨v, d, m, M, _, _, _, h, _⟩ := h
    omega
  exact ⟨fun vs H Q E h => absurd h (no vs H Q E), fun A outer s H args us vs Q E _ _ _ _ h => absurd h (no vs H Q E)⟩
theorem swp_zero {f : Addr} {fd : FuncData} {k : Nat} {ps : List Str} : FnOk P w K mg base CX0 k f fd ps (spSwp K 0) := by
  have no : ∀ vs H Q E, ¬ spSwp K 0 vs H Q E := fun vs H Q E h => by
    obtain ⟨v, c, d, m, M, kvs, f, _, _, _, h, _⟩ := h
    omega
  exact ⟨fun vs H Q E h => absurd h (no vs H Q E), fun A outer s H args us vs Q E _ _ _ _ h => absurd h (no vs H Q E)⟩
end
end Fv


namespace Fv
open PySem PySem.Spec PyProof.Rows L2 GenW FvX FvD FvG
-- top 21  slots: 0:term 1:found 2:part
abbrev s_subterms : Stmt := topS 21
abbrev N_subterms : List Str := ["term", "found", "part"]
theorem sc_subterms : FnScope N_subterms ["term"] (defScope s_subterms) := ⟨rfl, rfl, rfl, by decide +kernel, rfl, by decide +kernel, by decide +kernel⟩

-- top 19  slots: 0:term 1:parts 2:letter
abbrev s_letters : Stmt := topS 19
abbrev N_letters : List Str := ["term", "parts", "letter"]
theorem sc_letters : FnScope N_letters ["term"] (defScope s_letters) := ⟨rfl, rfl, rfl, by decide +kernel, rfl, by decide +kernel, by decide +kernel⟩




/-- a def that asks for a long term first: what it gives, or the error -/
def spLg (K : PySem.W.Frag) (CT : Addr) (good : V → PyData → Hp → VK → Prop) : Sp := fun vs H Q E => ∃ (v : V) (d : PyData), vs = [v] ∧ Dp K H v d ∧ gd 20 d = true ∧ ((meas 9 d 600).isSome = true → good v d H Q) ∧ (meas 9 d 600 = none → errAt CT "InvalidTerm" H E)
/-- a new list of the subterms -/
def gSubt (K : PySem.W.Frag) : V → PyData → Hp → VK → Prop := fun _ d H Q => ∀ (H' : Hp) (p : Addr) (vs : List V), Same H H' → H p = none → H' p = some (.lst vs) → DpAll K H' vs (onceD (pre d)) → Q (.ref p) H'
theorem tk_of {d : PyData} (hm : (meas 9 d 600).isSome = true) (hg : gd 20 d = true) : Tk d := by
  have ms := meas_some 9 d 600
  rw [hm] at ms
  have ms' := Bool.and_eq_true_iff.mp ms.symm
  exact ⟨of_decide_eq_true ms'.1, of_decide_eq_true ms'.2, hg⟩
theorem ky_all {K : PySem.W.Frag} {H : Hp} : ∀ {kvs : List NKV}, KyOk K H kvs → DpAll K H (kvs.map fun p => p.2.1) (kvs.map (·.1))
  | [], _ => .nil
  | p :: r, h => .cons (h p List.mem_cons_self).2 (ky_all fun q hq => h q (List.mem_cons_of_mem _ hq))
section
variable {P : Program} {w : World} {K : PySem.W.Frag} {mg : Str → Option Value} {base : Heap} {CT : Addr}
theorem ok_subterms {f fw : Addr} {fd fdw : FuncData} {k : Nat} (F : Fun K "subterms" "subterms" s_subterms f fd) (Fw : Fun K "walk" "walk" s_walk fw fdw) (g_walk : mg "walk" = some (.ref fw)) (m_list : mg "list" = none) (hstop : PySem.W.subIn K (.ref CT) (.type "StopIteration") = some false)
    (C_ml : OwnR P w K mg base k "measured_long" (spLong K CT)) (C_ic : Own P w K mg base k "is_compound" ["value"] (spIsCompound K)) :
    FnOk P w K mg base (L2.CX P w) (k + 4) f fd ["term"] (spLg K CT (gSubt K)) := by
  refine F.okX sc_subterms (fun vs H Q E h => ?_) (fun cdv A outer s H vs Q E hr h => ?_)
  · obtain ⟨v, d, rfl, _⟩ := h
    rfl
  · obtain ⟨v, d, rfl, hd, hg, good, bad⟩ := h
    refine ⟨_, (pss_cons (ps_set (i := 1) sc_subterms.nd rfl (.inl rfl) pe_dnewN)
      (pss_cons (ps_forW (E := fun cls d H' => cls = .ref CT ∧ E cls d H') (i1 := 1) (i2 := 2) Fw g_walk (by rfl) C_ml C_ic hr (passes_of rfl) (passes_call (takes_of rfl rfl rfl rfl) (fun _ _ _ _ h => h.2)) (fun cls d H' h => by rw [h.1]; exact hstop) sc_subterms.nd rfl rfl rfl rfl (by decide) (pa_cons (pv 0) pa_nil))
      (pss_one (ps_ret (pe_callTy (call_listN rfl) (by rfl) m_list (by decide +kernel) (pa_cons (pv 1) pa_nil)))))), ?_⟩
    intro da nda
    have s0 := same_upd (o := NdO w da []) nda
    refine ⟨_, rfl, v, d, da, rfl, dp_same s0 d v hd, hg, rfl, upd_same, fun e H' dd s' e' => ⟨rfl, bad e H' dd (s0.trans s') e'⟩, fun hm H' x kvs W nW nWd sm st hda hky hkeys => ?_⟩
    have nW' : upd H da (NdO w da []) W = none := nW
    have smH : Same H H' := fun b o e => sm b o (fun z => by
      rcases List.mem_cons.mp z with z | z
      · rw [z, nda] at e; cases e
      · have e' := s0 b o e
        rw [List.mem_singleton.mp z, nW'] at e'
        cases e') (s0 b o e)
    refine ⟨_, rfl, da, kvs, rfl, hda, fun p np => ?_⟩
    have s2 := same_upd (o := .lst (kvs.map fun kv => kv.2.1)) np
    have npH : H p = none := by
      cases e : H p with
      | none => rfl
      | some o => rw [smH p o e] at np; cases np
    refine good hm _ p _ (smH.trans s2) npH upd_same ?_
    rw [← hkeys]
    exact dpAll_same s2 _ _ (ky_all hky)
/-! ### depth, size -/
def gInt (g : PyData → Int) : V → PyData → Hp → VK → Prop := fun _ d H Q => ∀ H', Same H H' → Q (.int (g d)) H'
/-- the program's depth -/
def dpt (d : PyData) : Int := ((meas 9 d 600).getD (0, 0)).1
/-! ### turned, the error told -/
end
end Fv


namespace Fv
open PySem PySem.Spec PyProof.Rows L2 FvD FvG
/-! ### what stands in a walk -/
theorem pre_tk : ∀ (n : Nat) (d : PyData), 1 ≤ lmeas n d → Tk d → ∀ e ∈ pre d, Tk e
  | 0, d, h, _ => by simp only [lmeas] at h; omega
  | n + 1, d, h, t => by
    intro e he
    rw [pre_eq] at he
    rcases List.mem_cons.mp he with z | z
    · rw [z]; exact t
    · rcases t.inv with ⟨x, rfl, _⟩ | ⟨o, ds, rfl, hc, _, all, _⟩
      · rw [str_isCd] at z; cases z
      · rw [if_pos hc] at z
        obtain ⟨y, hy, hz⟩ := List.mem_flatMap.mp z
        have hy' : y ∈ ds := hy
        rcases lmeas_inv h with ⟨x, hx, _⟩ | ⟨o', ds', hd, _, _, _, all1, _⟩
        · cases hx
        · cases hd
          exact pre_tk n y (all1 y hy') (all y hy') e hz
theorem Tk.pre {d : PyData} (t : Tk d) : ∀ e ∈ pre d, Tk e := pre_tk 9 d t.one t
theorem once_sub : ∀ (l : List PyData), ∀ e ∈ onceD l, e ∈ l := by
  have gen : ∀ (l acc : List PyData), ∀ e ∈ l.foldl addD acc, e ∈ acc ∨ e ∈ l := by
    intro l
    induction l with
    | nil => intro acc e he; exact .inl he
    | cons d r ih =>
      intro acc e he
      rcases ih (addD acc d) e he with z | z
      · unfold addD at z
        split at z
        · exact .inl z
        · rcases List.mem_append.mp z with z | z
          · exact .inl z
          · rw [List.mem_singleton.mp z]; exact .inr List.mem_cons_self
      · exact .inr (List.mem_cons_of_mem _ z)
  intro l e he
  rcases gen l [] e he with z | z
  · cases z
  · exact z
theorem shaped_tk {d : PyData} (t : Tk d) : SeqAt.shaped d = true := gd_shaped t.gd (by decide)
theorem shaped_list {l : List PyData} (h : ∀ d ∈ l, gd 20 d = true) : SeqAt.shaped (.list l) = true := by
  have q := gdAll_lay 20 l (gdAll_iff.mpr h)
  show ((PyData.list l).canLay0 && decide ((PyData.list l).depth ≤ 64)) = true
  rw [Bool.and_eq_true]
  refine ⟨by simpa [PyData.canLay0] using q.1, decide_eq_true ?_⟩
  simp only [PyData.depth]
  omega
/-! ### == of keys -/
mutual
theorem eqv_iff : ∀ (n m : Nat) (z d : PyData), kd n z = true → kd m d = true → (PyData.eqv z d = true ↔ nk z = nk d)
  | n, m, .str x, .str y, _, _ => by
    simp only [nk, PyData.eqv]
    rw [beq_iff_eq]
    exact ⟨fun h => by rw [h], fun h => by injection h⟩
  | n + 1, m + 1, .tuple ds, .tuple es, hd, he => by
    simp only [nk, PyData.eqv]
    rw [eqvs_iff n m ds es (by simpa [kd] using hd) (by simpa [kd] using he)]
    exact ⟨fun h => by rw [h], fun h => by injection h⟩
  | n, m, .str x, .tuple es, _, _ => by
    simp only [nk, PyData.eqv]
    exact ⟨(fun h => nomatch h), (fun h => by cases h)⟩
  | n, m, .tuple es, .str x, _, _ => by
    simp only [nk, PyData.eqv]
    exact ⟨(fun h => nomatch h), (fun h => by cases h)⟩
  | 0, m, .tuple es, e, hd, _ => by simp [kd] at hd
  | n, 0, d, .tuple es, _, he => by simp [kd] at he
  | n, m, .none, e, hd, _ => by cases n <;> simp [kd] at hd
  | n, m, .bool _, e, hd, _ => by cases n <;> simp [kd] at hd
  | n, m, .int _, e, hd, _ => by cases n <;> simp [kd] at hd
  | n, m, .list _, e, hd, _ => by cases n <;> simp [kd] at hd
  | n, m, .dict _, e, hd, _ => by cases n <;> simp [kd] at hd
  | n, m, d, .none, _, he => by cases m <;> simp [kd] at he
  | n, m, d, .bool _, _, he => by cases m <;> simp [kd] at he
  | n, m, d, .int _, _, he => by cases m <;> simp [kd] at he
  | n, m, d, .list _, _, he => by cases m <;> simp [kd] at he
  | n, m, d, .dict _, _, he => by cases m <;> simp [kd] at he
theorem eqvs_iff : ∀ (n m : Nat) (ds es : List PyData), kdAll n ds = true → kdAll m es = true → (PyData.eqvAll ds es = true ↔ nks ds = nks es)
  | n, m, [], [], _, _ => by simp [PyData.eqvAll, nks]
  | n, m, d :: ds, e :: es, hd, he => by
    simp only [kdAll, Bool.and_eq_true] at hd he
    simp only [PyData.eqvAll, nks, Bool.and_eq_true]
    rw [eqv_iff n m d e hd.1 he.1, eqvs_iff n m ds es hd.2 he.2]
    exact ⟨fun h => by rw [h.1, h.2], fun h => by injection h with h1 h2; exact ⟨h1, h2⟩⟩
  | n, m, [], e :: es, _, _ => by simp [PyData.eqvAll, nks]
  | n, m, d :: ds, [], _, _ => by simp [PyData.eqvAll, nks]
end
theorem eqv_nk {n m : Nat} {z d : PyData} (hz : kd n z = true) (hd : kd m d = true) : PyData.eqv z d = decide (nk z = nk d) := by
  rw [Bool.eq_iff_iff, decide_eq_true_eq]
  exact eqv_iff n m z d hz hd
theorem any_eqv {l : List PyData} {d : PyData} (hl : ∀ z ∈ l, kd 8 z = true) (hd : kd 8 d = true) : (l.any fun z => PyData.eqv z d) = l.any fun e => decide (nk e = nk d) := by
  rw [Bool.eq_iff_iff, List.any_eq_true, List.any_eq_true]
  exact ⟨fun ⟨z, hz, e⟩ => ⟨z, hz, by rw [← eqv_nk (hl z hz) hd]; exact e⟩, fun ⟨z, hz, e⟩ => ⟨z, hz, by rw [eqv_nk (hl z hz) hd]; exact e⟩⟩
/-- a key is among those once told exactly if it is told -/
theorem once_any (l : List PyData) (k : NestedKey) : ((onceD l).any fun e => decide (nk e = k)) = l.any fun e => decide (nk e = k) := by
  have gen : ∀ (l acc : List PyData), ((l.foldl addD acc).any fun e => decide (nk e = k)) = (acc.any (fun e => decide (nk e = k)) || l.any fun e => decide (nk e = k)) := by
    intro l
    induction l with
    | nil => intro acc; simp
    | cons d r ih =>
      intro acc
      rw [List.foldl_cons, ih, List.any_cons, ← Bool.or_assoc]
      congr 1
      unfold addD
      by_cases c : (acc.any fun e => decide (nk e = nk d)) = true
      · rw [if_pos c]
        by_cases e : nk d = k
        · rw [e] at c
          rw [c]; rfl
        · rw [decide_eq_false e, Bool.or_false]
      · rw [if_neg c, List.any_append]
        simp
  have := gen l []
  simpa [onceD] using this
/-! ### depths -/
def maxI (l : List Int) : Int := l.foldl (fun a b => if b > a then b else a) 0
def ldp : Nat → PyData → Int
  | 0, _ => 0
  | n + 1, d => 1 + maxI ((if isCd d = true then parts d else []).map (ldp n))
theorem fold_max (l : List Int) : ∀ a : Int, a ≤ l.foldl (fun a b => if b > a then b else a) a ∧ (∀ y ∈ l, y ≤ l.foldl (fun a b => if b > a then b else a) a) ∧ (l.foldl (fun a b => if b > a then b else a) a = a ∨ l.foldl (fun a b => if b > a then b else a) a ∈ l) := by
  induction l with
  | nil => intro a; exact ⟨Int.le_refl _, (fun y hy => nomatch hy), .inl rfl⟩
  | cons x r ih =>
    intro a
    rw [List.foldl_cons]
    obtain ⟨h1, h2, h3⟩ := ih (if x > a then x else a)
    refine ⟨?_, fun y hy => ?_, ?_⟩
    · have z : a ≤ (if x > a then x else a) := by split <;> omega
      omega
    · rcases List.mem_cons.mp hy with z | z
      · have w : x ≤ (if x > a then x else a) := by split <;> omega
        rw [z]
        omega
      · exact h2 y z
    · rcases h3 with z | z
      · rw [z]
        split
        · exact .inr List.mem_cons_self
        · exact .inl rfl
      · exact .inr (List.mem_cons_of_mem _ z)
theorem max_is {l : List Int} {m : Int} (hm : m ∈ (0 : Int) :: l) (h : ∀ y ∈ (0 : Int) :: l, y ≤ m) : m = maxI l := by
  obtain ⟨h1, h2, h3⟩ := fold_max l 0
  unfold maxI
  have a : l.foldl (fun a b => if b > a then b else a) 0 ≤ m := by
    rcases h3 with z | z
    · rw [z]; exact h 0 List.mem_cons_self
    · exact h _ (List.mem_cons_of_mem _ z)
  have b : m ≤ l.foldl (fun a b => if b > a then b else a) 0 := by
    rcases List.mem_cons.mp hm with z | z
    · rw [z]; exact h1
    · exact h2 m z
  omega
theorem measL_dp {f : PyData → Int → Option (Int × Int)} {g : PyData → Int} (hf : ∀ d ms dp sz, f d ms = some (dp, sz) → dp = g d) : ∀ (ds : List PyData) (ms dp tot a b : Int), measL f ds ms dp tot = some (a, b) → a = 1 + (ds.map g).foldl (fun a b => if b > a then b else a) dp
  | [], ms, dp, tot, a, b, h => by
    simp only [measL, Option.some.injEq, Prod.mk.injEq] at h
    simp
    omega
  | d :: ds, ms, dp, tot, a, b, h => by
    simp only [measL] at h
    cases hd : f d (ms - tot) with
    | none => rw [hd] at h; cases h
    | some p =>
      obtain ⟨x, y⟩ := p
      rw [hd] at h
      dsimp only at h
      have e := hf d _ x y hd
      have q := measL_dp hf ds ms _ _ a b h
      rw [List.map_cons, List.foldl_cons, ← e]
      exact q
theorem meas_dp : ∀ (n : Nat) (d : PyData) (ms dp sz : Int), meas n d ms = some (dp, sz) → dp = ldp n d
  | 0, d, ms, dp, sz, h => by simp [meas] at h
  | n + 1, d, ms, dp, sz, h => by
    unfold meas at h
    unfold ldp
    by_cases h1 : ms < 1
    · rw [if_pos h1] at h; cases h
    · rw [if_neg h1] at h
      by_cases h2 : isLd d = true
      · rw [if_pos h2] at h
        cases h
        have hc : isCd d = false := by
          cases d with
          | str x => rfl
          | _ => simp [isLd] at h2
        rw [hc]
        rfl
      · rw [if_neg h2] at h
        by_cases h3 : isCd d = true
        · rw [if_pos h3] at h
          rw [if_pos h3]
          exact measL_dp (fun d ms dp sz e => meas_dp n d ms dp sz e) _ _ _ _ _ _ h
        · rw [if_neg h3] at h; cases h
end Fv


set_option maxHeartbeats 4000000
namespace FvB
open PySem PySem.Spec PyProof.Rows L2
/-! ### sets of texts: set(list of texts), sorted(set) -/
def keyS (e : Int × Value) : Str := match e.2 with | .str x _ => x | _ => Str.empty
def GoodS (P : Program) (w : World) (e : Int × Value) : Prop := ∃ x tk, e.2 = Value.str x tk ∧ e.1 = (PySem.strKind P w).hash x
/-- the set of texts at a: S its members, at most m of them; it can be walked -/
structure SetT (P : Program) (w : World) (h : Heap) (a : Addr) (S : Str → Bool) (m : Nat) : Prop where
  ex : ∃ o es ep t, h.get? a = some o ∧ o.ExactSet ∧ o.data = .set es ep t ∧ (∀ e ∈ es.toList, GoodS P w e) ∧ (es.toList.map keyS).Nodup ∧ (∀ k, S k = true ↔ k ∈ es.toList.map keyS) ∧ es.size < scanBound ∧ t.fits es.size = true ∧ es.size ≤ m ∧ Ris t.place.toList ∧
    (w.params.followText "set-order" = true ∨ t.led = true)
section
variable {P : Program} {w : World} {A : Around} {E : Value → Shared → Prop} {s : Shared} {a : Addr} {S : Str → Bool} {m : Nat} {h h' : Heap}
theorem SetT.at (R : SetT P w h a S m) (k : ∀ o, h.get? a = some o → h'.get? a = some o) : SetT P w h' a S m := by
  obtain ⟨o, es, ep, t, ho, r⟩ := R.ex
  exact ⟨o, es, ep, t, k o ho, r⟩
theorem goodS_elems {l : List (Int × Value)} (g : ∀ e ∈ l, GoodS P w e) : ElemsOf (PySem.strKind P w) l := fun e he => by
  obtain ⟨x, tk, h1, h2⟩ := g e he
  exact ⟨⟨x, by rw [h1]; exact strKind_is P w x tk, h2⟩, by rw [h1]; rfl⟩
theorem goodS_is {e : Int × Value} (g : GoodS P w e) (k : Str) : (PySem.strKind P w).is k e.2 = true ↔ keyS e = k := by
  obtain ⟨x, tk, h1, _⟩ := g
  have e1 : keyS e = x := by unfold keyS; rw [h1]
  rw [e1]
  constructor
  · intro z
    rw [h1] at z
    exact ((PySem.strKind P w).inj _ _ _ z (strKind_is P w x tk)).symm
  · intro z
    rw [h1, ← z]
    exact strKind_is P w x tk
theorem goodS_mem {l : List (Int × Value)} (g : ∀ e ∈ l, GoodS P w e) (k : Str) : k ∈ l.map keyS ↔ ∃ e ∈ l, (PySem.strKind P w).is k e.2 = true := by
  rw [List.mem_map]
  exact ⟨fun ⟨e, he, z⟩ => ⟨e, he, (goodS_is (g e he) k).mpr z⟩, fun ⟨e, he, z⟩ => ⟨e, he, (goodS_is (g e he) k).mp z⟩⟩
/-- what is stored at the end of an add -/
theorem addT_tail {gv : Bool → Sem Unit} (hg : ∀ (b : Bool) (s₁ : Shared) (Q' : Unit → Shared → Prop), Q' () s₁ → wpAny (model P w) A (gv b) Q' E s₁) {o : Obj} {es : Array (Int × Value)} {ep : Nat} {t : SetTable} (ho : s.heap.get? a = some o) (hex : o.ExactSet) (hd : o.data = .set es ep t)
    {es1 : Array (Int × Value)} {t2 : SetTable} {S' : Str → Bool} (g1 : ∀ e ∈ es1.toList, GoodS P w e) (nd1 : (es1.toList.map keyS).Nodup) (m1 : ∀ k, S' k = true ↔ k ∈ es1.toList.map keyS) (hb1 : es1.size < scanBound) (hm1 : es1.size ≤ m) (hf2 : t2.fits es1.size = true) (hr : Ris t2.place.toList)
    (hl : w.params.followText "set-order" = true ∨ t2.led = true) {wasDummy : Bool} {R : Option Bool → Shared → Prop} (hR : ∀ h', Heap.SameBut a s.heap h' → SetT P w h' a S' m → R (some true) { s with heap := h' }) {tr : Sem (Option Bool)}
    (et : tr = (storeSet a es1 t2 >>= fun _ => if (!wasDummy && t2.tooFull) = true then (gv (relayAll t2 es1 (SetTable.grown es1.size)).2.2 >>= fun _ => storeSet a (relayAll t2 es1 (SetTable.grown es1.size)).1 (relayAll t2 es1 (SetTable.grown es1.size)).2.1 >>= fun _ => pure (some true)) else pure (some true))) :
    wpAny (model P w) A tr R E s := by
  subst et
  refine wpAny_bind (wpAny_storeSet_of ho hd ?_ (fits_of_scanBound hb1))
  have at1 := store_at (es' := es1) (t' := t2) ho hd
  have sb := Heap.SameBut.update s.heap a (Obj.putSet es1 t2)
  by_cases c : (!wasDummy && t2.tooFull) = true
  · rw [if_pos c]
    have pm := relayAll_perm t2 es1 (SetTable.grown es1.size)
    have f3 := relayAll_fits t2 es1 (SetTable.grown es1.size)
    have r3 := relayAll_ris t2 es1 (SetTable.grown es1.size)
    have l3 := relayAll_led t2 es1 (SetTable.grown es1.size)
    generalize relayAll t2 es1 (SetTable.grown es1.size) = Z at pm f3 r3 l3 ⊢
    obtain ⟨es2, t3, gave⟩ := Z
    dsimp only at pm f3 r3 l3 ⊢
    have sz : es2.size = es1.size := by rw [← Array.length_toList, pm.length_eq, Array.length_toList]
    have hb2 : es2.size < scanBound := by rw [sz]; exact hb1
    refine wpAny_bind (hg _ _ _ (wpAny_bind (wpAny_storeSet_of at1 rfl ?_ (fits_of_scanBound hb2))))
    have at2 := store_at (es' := es2) (t' := t3) at1 rfl
    refine wpAny_pure (hR _ (sb.trans (Heap.SameBut.update _ a _)) ⟨_, es2, _, t3, at2, hex, rfl, fun e he => g1 e (pm.mem_iff.mp he), (pm.map keyS).nodup_iff.mpr nd1, fun k => (m1 k).trans (pm.map keyS).mem_iff.symm, hb2, f3, by rw [sz]; exact hm1, r3, hl.imp id fun z => by rw [l3]; exact z⟩)
  · rw [if_neg c]
    exact wpAny_pure (hR _ sb ⟨_, es1, _, t2, at1, hex, rfl, g1, nd1, m1, hb1, hf2, hm1, hr, hl⟩)
theorem addT {x : Str} {tk : Tok} {Q : Bool → Shared → Prop} (R : SetT P w s.heap a S m) (room : m + 1 < scanBound) (hQ : ∀ h' b, Heap.SameBut a s.heap h' → SetT P w h' a (fun j => S j || decide (j = x)) (m + 1) → Q b { s with heap := h' }) :
    wpAny (model P w) A (setAddHashed a (.str x tk) ((PySem.strKind P w).hash x)) Q E s := by
  obtain ⟨o, es, ep, t, ho, hex, hd, g, nd, hm, hb, hf, hn, hr, hl⟩ := R.ex
  have hk : (PySem.strKind P w).is x (.str x tk) = true := strKind_is P w x tk
  have sc : (Value.str x tk).scannable = true := rfl
  have el : ElemsOf (PySem.strKind P w) es.toList := goodS_elems g
  unfold setAddHashed
  unfold setAddHashedIn
  refine wpAny_holding (wpAny_bind (wpAny_setState_of ho hd hf ?_))
  dsimp only
  rw [byScan_of sc hb el]
  simp only [↓reduceIte]
  unfold setAddByScan
  refine wpAny_bind (wpAny_bind (wpAny_rule (wpAny_bind (wpAny_setScan_of hk ho hd hf el ?_))))
  cases fi : List.findIdx? (fun e => (PySem.strKind P w).is x e.2) es.toList with
  | some j =>
    dsimp only
    obtain ⟨hj, pj, _⟩ := List.findIdx?_eq_some_iff_getElem.mp fi
    have Sx : S x = true := (hm x).2 ((goodS_mem g x).2 ⟨es.toList[j], List.getElem_mem hj, pj⟩)
    refine wpAny_pure (wpAny_pure (hQ s.heap _ (Heap.SameBut.refl a s.heap) ⟨o, es, ep, t, ho, hex, hd, g, nd, fun i => ?_, hb, hf, by omega, hr, hl⟩))
    rw [Bool.or_eq_true, decide_eq_true_eq, ← hm i]
    exact ⟨fun z => z.elim id (fun e => e ▸ Sx), .inl⟩
  | none =>
    dsimp only
    have nx : x ∉ es.toList.map keyS := fun z => by
      obtain ⟨e, he, q⟩ := (goodS_mem (P := P) (w := w) g x).1 z
      have c := List.findIdx?_eq_none_iff.mp fi e he
      rw [q] at c
      cases c
    have say : ∀ (b : Bool) {s₁ : Shared} {Q' : Unit → Shared → Prop}, Q' () s₁ → wpAny (model P w) A (match b with | true => rule "set.scan.the-table-gave-way" | false => pure ()) Q' E s₁ :=
      fun b s₁ Q' q => by cases b <;> first | exact wpAny_pure q | exact wpAny_rule q
    have pm := layNew_perm t es ((PySem.strKind P w).hash x) (.str x tk)
    have f1 := layNew_fits t es ((PySem.strKind P w).hash x) (.str x tk)
    have r1 := layNew_ris t es ((PySem.strKind P w).hash x) (.str x tk) hr
    have l1 := layNew_led t es ((PySem.strKind P w).hash x) (.str x tk)
    generalize layNew t es ((PySem.strKind P w).hash x) (.str x tk) = Z at pm f1 r1 l1 ⊢
    obtain ⟨es1, t1, wasDummy, gave⟩ := Z
    dsimp only at pm f1 r1 l1 ⊢
    rw [Array.toList_push] at pm
    have pc : es1.toList.Perm (((PySem.strKind P w).hash x, Value.str x tk) :: es.toList) := pm.trans (List.perm_append_singleton _ _)
    have pk : (es1.toList.map keyS).Perm (x :: es.toList.map keyS) := pc.map keyS
    have g1 : ∀ e ∈ es1.toList, GoodS P w e := fun e he => by
      rcases List.mem_cons.mp (pc.mem_iff.mp he) with z | z
      · rw [z]; exact ⟨x, tk, rfl, rfl⟩
      · exact g e z
    have nd1 : (es1.toList.map keyS).Nodup := pk.nodup_iff.mpr (List.nodup_cons.mpr ⟨nx, nd⟩)
    have m1 : ∀ i, (S i || decide (i = x)) = true ↔ i ∈ es1.toList.map keyS := fun i => by
      rw [Bool.or_eq_true, decide_eq_true_eq, hm i, pk.mem_iff, List.mem_cons]
      exact Or.comm
    have sz : es1.size = es.size + 1 := by rw [← Array.length_toList, pc.length_eq, List.length_cons, Array.length_toList]
    have hb1 : es1.size < scanBound := by omega
    have led1 : w.params.followText "set-order" = true ∨ t1.led = true := hl.imp id fun z => by rw [l1]; exact z
    refine wpAny_bind (say _ ?_)
    split
    · refine wpAny_bind ?_
      rw [hashByValue_scannable 8 sc]
      refine wpAny_pure ?_
      refine addT_tail (m := m + 1) (fun b s₁ Q' q => ?_) ho hex hd g1 nd1 m1 hb1 (by omega) ?_ ?_ ?_ (fun h' sb r => ?_) rfl
      · cases b <;> first | exact wpAny_pure q | exact wpAny_rule q
      · first | (split <;> first | exact f1 | exact SetTable.fits_plain_off f1) | exact f1
      · first | (split <;> exact r1) | exact r1
      · first | (split <;> exact led1) | exact led1
      · dsimp only; exact wpAny_pure (hQ h' _ sb r)
    · refine wpAny_bind (wpAny_pure ?_)
      simp only [↓reduceIte]
      refine addT_tail (m := m + 1) (fun b s₁ Q' q => ?_) ho hex hd g1 nd1 m1 hb1 (by omega) f1 r1 led1 (fun h' sb r => ?_) rfl
      · cases b <;> first | exact wpAny_pure q | exact wpAny_rule q
      · dsimp only; exact wpAny_pure (hQ h' _ sb r)
end
end FvB


set_option maxHeartbeats 8000000
namespace FvB
open PySem PySem.Spec PyProof.Rows L2
/-! ### set(list of texts) -/
/-- members: what was there among the first i -/
def memT (xs : List Str) : Str → Bool := fun k => decide (k ∈ xs)
section
variable {P : Program} {w : World} {A : Around} {R : Result → Shared → Prop} {I : Addr} {fp wr : List Addr} {G : Array GenState → Array GenState → Prop} {n : Nat} {Pv : Nat → Value → Prop} {St : Nat → Shared → Prop}
theorem SetT.congr {h : Heap} {a : Addr} {S S' : Str → Bool} {m : Nat} (x : SetT P w h a S m) (e : ∀ k, S' k = S k) : SetT P w h a S' m := by
  obtain ⟨o, es, ep, t, h1, h2, h3, h4, h5, h6, r⟩ := x.ex
  exact ⟨o, es, ep, t, h1, h2, h3, h4, h5, fun k => by rw [e k]; exact h6 k, r⟩
theorem memT_snoc (xs : List Str) (i : Nat) (x : Str) (h : xs[i]? = some x) (k : Str) : memT (xs.take (i + 1)) k = (memT (xs.take i) k || decide (k = x)) := by
  unfold memT
  rw [List.take_add_one, h]
  by_cases a : k ∈ xs.take i
  · simp [a]
  · by_cases b : k = x
    · simp [b]
    · simp [a, b]
theorem fill (W : WalksS P w A.in1 I fp wr G n Pv St) (T : Addr) (hT : T ∉ fp) (xs : List Str) (hx : xs.length = n) (hn : n + 1 < scanBound) (hval : ∀ i v, Pv i v → ∃ t, v = .str (xs.getD i Str.empty) t) :
    ∀ (k i : Nat) (s : Shared), n - i = k → i ≤ n → St i s → SetT P w s.heap T (memT (xs.take i)) i → (∀ s', Moved (T :: wr) G s s' → SetT P w s'.heap T (memT (xs.take n)) n → R (.ok (.ret .none)) s') →
      codeAny (model P w) A (.builtin "set.update.loop" ⟨[.ref T, .ref I], []⟩) R s := by
  have hTw : T ∉ wr := fun h => hT (W.sub _ h)
  have more : ∀ b ∈ wr, b ∈ T :: wr := fun b hb => List.mem_cons_of_mem _ hb
  intro k
  induction k with
  | zero =>
    intro i s hk hi hst hS hR
    obtain rfl : i = n := by omega
    refine codeAny_builtin PyProof.Rows.F.entry_set_update_loop ?_
    rw [Around.under_plainId PyProof.Rows.F.plain_set_update_loop _]
    show wpAny _ A.in1 (pyNext (.ref I) >>= _) _ _ s
    refine wpAny_bind (W.done s _ _ hst fun s' hm => ?_)
    show wpAny _ A.in1 (ret Value.none) _ _ s'
    exact wpAny_pure (hR s' (hm.mono more) (hS.at fun o e => hm.heap T o hTw e))
  | succ k ih =>
    intro i s hk hi hst hS hR
    have il : i < n := by omega
    refine codeAny_builtin PyProof.Rows.F.entry_set_update_loop ?_
    rw [Around.under_plainId PyProof.Rows.F.plain_set_update_loop _]
    show wpAny _ A.in1 (pyNext (.ref I) >>= _) _ _ s
    refine wpAny_bind (W.item i s _ _ il hst fun v s' hP hst' hm => ?_)
    obtain ⟨t, rfl⟩ := hval i v hP
    have hg : xs[i]? = some (xs.getD i Str.empty) := by
      rw [List.getD_eq_getElem?_getD, List.getElem?_eq_getElem (by omega)]
      rfl
    have hS' : SetT P w s'.heap T (memT (xs.take i)) i := hS.at fun o e => hm.heap T o hTw e
    show wpAny _ A.in1 (holding [Value.str (xs.getD i Str.empty) t] (setAdd T (.str (xs.getD i Str.empty) t)) >>= _) _ _ s'
    refine wpAny_bind (wpAny_holding ?_)
    unfold setAdd
    refine wpAny_holding (wpAny_bind ((PySem.strKind P w).pyHash (k := xs.getD i Str.empty) (strKind_is _ _ _ _) ?_))
    refine addT (s := { s' with toks := s'.toks + 1 }) hS' (by omega) fun h' b sb S2 => ?_
    have S3 : SetT P w h' T (memT (xs.take (i + 1))) (i + 1) := S2.congr fun k' => memT_snoc xs i _ hg k'
    have keep : ∀ b o, b ≠ T → s'.heap.get? b = some o → h'.get? b = some o := fun b o hb e => (sb.2 b hb).trans e
    refine wpAny_pure ⟨plainId_quiet PyProof.Rows.F.plain_set_update_loop _, ih (i + 1) _ (by omega) il (W.frame _ s' _ _ hst' (Nat.le_succ _) fun b hb o e => keep b o (fun z => hT (z ▸ hb)) e) S3 fun s'' hm'' S'' => ?_⟩
    exact hR s'' (Moved.trans W.gtrans ((hm.mono more).then_heap (Nat.le_succ _) fun b o hb e => keep b o (fun z => hb (z ▸ List.mem_cons_self)) e) hm'') S''
end
/-- an empty set's object -/
abbrev emptyT (w : World) : Obj := { cls := .type "set", dict := none, data := .set #[] 0 (.fresh 0 0 (!w.params.followText "set-order")) }
theorem freshT {P : Program} {w : World} {h : Heap} {a : Addr} (e : h.get? a = some (emptyT w)) : SetT P w h a (memT []) 0 := by
  refine ⟨_, #[], 0, _, e, ⟨rfl, rfl, rfl⟩, rfl, fun e he => by simp at he, by simp, fun k => by simp [memT], by decide, by rfl, Nat.le_refl _, List.Pairwise.nil, ?_⟩
  show _ ∨ (!w.params.followText "set-order") = true
  cases w.params.followText "set-order" with
  | true => exact .inl rfl
  | false => exact .inr rfl
section
variable {P : Program} {w : World} {A : Around} {E : Value → Shared → Prop} {s : Shared}
theorem newT (x : Value) {Q₁ : Value → Shared → Prop} (h : Q₁ (.ref s.heap.objs.size) { s with heap := s.heap.push (emptyT w) }) :
    codeAny (model P w) A (.call (.builtin "set.__new__") ⟨[.type "set", x], []⟩) (wants Q₁ E) s := by
  refine codeAny_of_tree ?_
  show wpAny _ A.in1 (do checkBuiltinCall "set.__new__" ⟨[.type "set", x], []⟩; again (.builtin "set.__new__" ⟨[.type "set", x], []⟩)) _ _ s
  refine wpAny_bind (wpAny_of_eq (PySem.F.newCall_set_1 x) (wpAny_pure ⟨plainId_quiet PySem.F.plain_set_new _, codeAny_builtin PySem.F.entry_set_new ?_⟩))
  rw [Around.under_plainId PySem.F.plain_set_new _]
  unfold Builtin.«set.__new__»
  unfold Builtin.Frozenset.newClass
  have sub := sub_set_self
  obtain ⟨hp, g, d, tk, os⟩ := s
  dsimp only
  wp_walk
  refine wpAny_askSetting (wpAny_pure ?_)
  dsimp only
  simp only [newObj]
  exact wpAny_bind (wpAny_alloc (wpAny_pure (wpAny_pure h)))
theorem set_of_list {l : Addr} {items : Array Value} {xs : List Str} {Q : Value → Shared → Prop} (hh : A.handled = none) (hl : s.heap.IsList l items) (hi : PyProof.Rows.StrsAre items.toList xs) (hn : xs.length + 1 < scanBound)
    (h : ∀ (h' : Heap) (tk : Nat), SetT P w h' s.heap.objs.size (memT xs) xs.length → (∀ b o, s.heap.get? b = some o → h'.get? b = some o) → Q (.ref s.heap.objs.size) { s with heap := h', toks := tk }) :
    wpAny (model P w) A (call (.type "set") [.ref l]) Q E s := by
  obtain ⟨c, tl, mro⟩ := PySem.F.called_set.mro
  have made := PySem.F.called_set.made
  have sub := PySem.F.called_set.sub
  refine wpAny_call (codeAny_of_tree ?_)
  show wpAny _ _ (callAny (.type "set") _) _ _ _
  refine wpAny_pure ⟨Code.quiet_builtin _ (by decide +kernel), codeAny_builtin PySem.F.entry_type_call ?_⟩
  rw [Around.under_plain (weight_type_call_type "set" [.ref l] []) rfl]
  have n1 := PySem.F.called_set.notType
  have n2 := PySem.F.called_set.canCreate
  have n3 := PySem.F.typeCall_set_1 (.ref l)
  repeat (any_goals (first | assumption | wp_step))
  refine codeAny_mono (newT (.ref l) (E := E) (Q₁ := fun obj s₁ => obj = .ref s.heap.objs.size ∧ s₁ = { s with heap := s.heap.push (emptyT w) }) ⟨rfl, rfl⟩) fun r s₁ hr => ?_
  cases r with
  | error e => exact hr
  | ok fl =>
    cases fl with
    | ret obj =>
      obtain ⟨rfl, rfl⟩ := hr
      have at0 : (s.heap.push (emptyT w)).get? s.heap.objs.size = some (emptyT w) := Heap.get?_push_size _ rfl
      have ty : Shared.TypeIs { s with heap := s.heap.push (emptyT w) } (.ref s.heap.objs.size) "set" := ⟨_, at0, rfl⟩
      have i1 := PySem.F.called_set.init.lookup
      have i2 := PySem.F.called_set.init.bind (.ref s.heap.objs.size)
      repeat (any_goals (first | assumption | wp_step))
      refine codeAny_mono (codeAny_call_builtin (R := wants (fun r s₂ => r = .none ∧ ∃ h' tk, s₂ = { s with heap := h', toks := tk } ∧ SetT P w h' s.heap.objs.size (memT xs) xs.length ∧ (∀ b o, s.heap.get? b = some o → h'.get? b = some o)) E) PySem.F.called_set.init.plain PySem.F.entry_set_init (check_set_init_1 ty ?_)) fun r₂ s₂ hr₂ => ?_
      · obtain ⟨⟨oc, od, odt, osl⟩, ol, cl, nl, dl⟩ := hl
        simp only at cl dl
        subst cl
        subst dl
        have ol' : (s.heap.push (emptyT w)).get? l = some { cls := .type "list", dict := od, data := .seq items nl, slots := osl } := Heap.get?_push_of_some _ ol
        have a1 := PySem.F.sub_list_set
        have a2 := PySem.F.sub_list_frozenset
        have a3 : (Value.type "list" == Value.type "dict") = false := by decide
        have isl : (s.heap.push (emptyT w)).IsList l items := ⟨_, ol', rfl, nl, rfl⟩
        unfold Builtin.«set.__init__»
        unfold noKeywords
        unfold Builtin.Frozenset.updateFrom
        generalize hPI : pyIter = PI
        wp_walk
        subst hPI
        refine wpAny_pyIter_list isl ?_
        refine wpAny_bind (wpAny_runValue ?_)
        have ls : l < s.heap.objs.size := Heap.lt_size ol
        have hd3 : A.in1.in1.in1.handled = none := by simp [hh]
        have szp : (s.heap.push (emptyT w)).objs.size = s.heap.objs.size + 1 := Heap.size_push ..
        have nI : l ≠ (s.heap.push (emptyT w)).objs.size := by rw [szp]; exact Nat.ne_of_lt (Nat.lt_succ_of_lt ls)
        have nT : s.heap.objs.size ∉ [(s.heap.push (emptyT w)).objs.size, l] := by
          rw [szp]
          intro z
          rcases List.mem_cons.mp z with z | z
          · exact absurd z (Nat.ne_of_lt (Nat.lt_succ_self _))
          · exact absurd (List.mem_singleton.mp z) (Nat.ne_of_gt ls)
        have sz : xs.length = items.size := by rw [← StrsAre.len_eq hi, Array.length_toList]
        have vals : ∀ (i : Nat) (v : Value), items[i]? = some v → ∃ t, v = .str (xs.getD i Str.empty) t := fun i v hv => SS.strs_at hi i v (by rw [Array.getElem?_toList]; exact hv)
        refine fill ((Walks.list hd3 _ l nI items).toS) s.heap.objs.size nT xs sz (by rw [← sz]; exact hn) vals (items.size - 0) 0 _ (by omega) (Nat.zero_le _) ⟨⟨_, Heap.get?_push_size _ rfl, rfl, rfl⟩, (isl.push _)⟩ ?begin ?fin
        case begin => exact freshT (Heap.get?_push_of_some _ at0)
        case fin =>
          intro s' mv S'
          obtain ⟨h', g', d', tk', os'⟩ := s'
          obtain rfl : g' = s.gens := mv.gens
          obtain rfl : d' = s.drawn := mv.drawn
          obtain rfl : os' = s.os := mv.os
          show wpAny _ _ _ _ _ _
          refine wpAny_pure ?_
          show wpAny _ _ (ret Value.none) _ _ _
          refine wpAny_pure ⟨rfl, h', tk', rfl, by rw [← sz, List.take_length] at S'; exact S', fun b o e => ?_⟩
          have bl := Heap.lt_size e
          refine mv.heap b o (fun z => ?_) (Heap.get?_push_of_some _ (Heap.get?_push_of_some _ e))
          rcases List.mem_cons.mp z with z | z
          · exact absurd z (Nat.ne_of_lt bl)
          · have z' := List.mem_singleton.mp z
            rw [szp] at z'
            exact absurd z' (Nat.ne_of_lt (Nat.lt_succ_of_lt bl))
      · cases r₂ with
        | error e => exact hr₂
        | ok fl₂ =>
          cases fl₂ with
          | ret r =>
            obtain ⟨rfl, h', tk, rfl, hS', hk'⟩ := hr₂
            repeat (any_goals (first | assumption | wp_step))
            exact h _ _ hS' hk'
          | _ => exact hr₂.elim
    | _ => exact hr.elim
end
end FvB


set_option maxHeartbeats 4000000
namespace FvB
open PySem PySem.Spec PyProof.Rows L2
/-- a set of texts at a, tracked -/
def SetTO (P : Program) (w : World) (a : Addr) (S : Str → Bool) (m : Nat) : HO := .ext fun h => SetT P w h a S m
theorem setTO_ok {P : Program} {w : World} {H : Hp} {h : Heap} {a : Addr} {S : Str → Bool} {m : Nat} (x : SetT P w h a S m) : ObjOk P w H h a (SetTO P w a S m) :=
  ⟨x, let ⟨o, _, _, _, ho, _⟩ := x.ex; ⟨o, ho⟩, fun _ _ y k => y.at k⟩
section
variable {X : Cx}
theorem cr_setT (hc : X.calm = true) : CallR X (.type "set") (fun xs H Q => ∃ (l : Addr) (zs : List Str), xs = [.ref l] ∧ SqL X.K H l (zs.map V.str) ∧ zs.length ≤ 3000 ∧ ∀ p, H p = none → Q (.ref p) (upd H p (SetTO X.prog X.w p (memT zs) zs.length))) := by
  intro pins s σ H xs us Q I r h
  obtain ⟨l, zs, rfl, hl, hz, q⟩ := h
  obtain ⟨u, rfl, rx⟩ := r.one
  cases rx
  obtain ⟨its, rv, ht, _⟩ := I.list hl
  refine set_of_list (xs := zs) (I.ok.hd hc) ht.isList (by simpa using rv.strs) (by unfold scanBound; omega) fun h' tk S' k => ?_
  exact ⟨.ref s.heap.objs.size, _, I.laid (t' := tk) (o := SetTO X.prog X.w s.heap.objs.size (memT zs) zs.length) k (Nat.le_refl _) (setTO_ok S'), rfl, q _ (I.hok.fresh (Nat.le_refl _))⟩
theorem strs_of : ∀ (l : List Value), (∀ v ∈ l, ∃ x tk, v = Value.str x tk) → ∃ xs, StrsAre l xs ∧ xs = l.map (fun v => keyS (0, v))
  | [], _ => ⟨[], .nil, rfl⟩
  | v :: l, h => by
    obtain ⟨x, tk, rfl⟩ := h v List.mem_cons_self
    obtain ⟨xs, a, b⟩ := strs_of l fun u hu => h u (List.mem_cons_of_mem _ hu)
    exact ⟨x :: xs, .cons x tk a, by rw [List.map_cons, ← b]; rfl⟩
theorem cr_sortedSetT (hc : X.calm = true) : CallR X (.builtin "sorted") (fun vs H Q => ∃ (a : Addr) (S : Str → Bool) (m : Nat), vs = [.ref a] ∧ H a = some (SetTO X.prog X.w a S m) ∧ (∀ U : List Str, U.Nodup → (∀ k ∈ U, S k = true) → U.length < 64) ∧
    ∀ (ys : List Str) (p : Addr), sortedS ys = true → ys.Nodup → (∀ k, k ∈ ys ↔ S k = true) → H p = none → Q (.ref p) (upd H p (.lst (ys.map V.str)))) := by
  intro pins s σ H vs us Q I r h
  obtain ⟨a, S, m, rfl, ha, few, q⟩ := h
  obtain ⟨u, rfl, rx⟩ := r.one
  cases rx
  obtain ⟨R, _, _⟩ := I.hok a _ ha
  obtain ⟨o, es, ep, t, ho, hex, hd, g, nd, hm, hb, hf, hn, hr, hl⟩ := SetT.ex R
  refine Calls.call_function_entry kind_sorted plain_sorted entry_sorted (args_sorted1 _) ?_
  unfold Builtin.«sorted»
  refine wpAny_bind (m := checkCount "sorted" 1 1 _) (wpAny_pure ?_)
  refine wpAny_bind (collect_set (A := X.A.in1) (I.ok.hd hc) ⟨o, ho, hex.1, hd⟩ hf hb hr hl fun s1 out k1 hz g1 o1 pm => ?_)
  obtain ⟨xs, sx, ex⟩ := strs_of out fun v hv => by
    obtain ⟨e, he, z⟩ := List.mem_map.mp (pm.mem_iff.mp hv)
    obtain ⟨x, tk, h1, _⟩ := g e he
    exact ⟨x, tk, by rw [← z]; exact h1⟩
  have pk : xs.Perm (es.toList.map keyS) := by
    rw [ex]
    have z := pm.map fun v => keyS (0, v)
    rw [List.map_map] at z
    exact z
  have nx : xs.Nodup := pk.nodup_iff.mpr nd
  have mx : ∀ k, k ∈ xs ↔ S k = true := fun k => by rw [pk.mem_iff, hm k]
  have h64 : xs.length < 64 := few xs nx fun k hk => (mx k).mp hk
  have lo : out.length = xs.length := StrsAre.len_eq sx
  have I1 : Inv X pins σ H s1 := by
    obtain ⟨h1, gs, dr, tk, os⟩ := s1
    obtain rfl : gs = s.gens := g1
    obtain rfl : os = s.os := o1
    exact I.call (h' := h1) (g' := s.gens) (t' := tk) (d' := dr) (ch := []) (Un.kept k1) (I.hok.kept k1) I.bare fun _ z => nomatch z
  refine wpAny_bind (wpAny_newList ?_ (by rw [lo, sizeLine_eq]; omega))
  have hoL : (s1.heap.push (seqObj "list" out.toArray 0)).get? s1.heap.objs.size = some (seqObj "list" out.toArray 0) := Heap.get?_push_size _ rfl
  refine wpAny_bind (wpAny_holding (wpAny_call_entry slot_list_sort ⟨_, hoL, rfl⟩ entry_list_sort (list_sort_treeK strKind_oneLt (s := { s1 with heap := s1.heap.push (seqObj "list" out.toArray 0) }) hoL sx.keysOf (fun v₁ v₂ rest e => keyKind_strs (by rw [← e]; exact sx)) (by rw [lo]; exact h64) fun st' hp hs => ⟨_, rfl, ?_⟩) (args_list_sort _)))
  obtain ⟨ys, y1, y2, y3⟩ := sorted_out_str sx hp hs
  obtain ⟨ep', he'⟩ := sortedHeap_at (vs := out) (out := (arrOf st').map (·.2)) hoL
  have hlen : (ys.map V.str).length ≤ sizeLine := by
    rw [List.length_map, y2.length_eq]
    exact Nat.le_trans (Nat.le_of_lt h64) (by decide)
  refine wpAny_pure ⟨_, rfl, .ref s1.heap.objs.size, upd H s1.heap.objs.size (.lst (ys.map V.str)), I1.laid (t' := s1.toks) (fun b v e => ?_) (Nat.le_refl _) (show ObjOk X.prog X.w _ _ _ (.lst (ys.map V.str)) from ⟨hlen, ((arrOf st').map (·.2)).toList, ep', vals_of_strs y1, by rw [Array.toArray_toList]; exact he'⟩), rfl,
    q ys _ y3 (y2.nodup_iff.mpr nx) (fun k => by rw [y2.mem_iff, mx k]) (I1.hok.fresh (Nat.le_refl _))⟩
  have bl := Heap.lt_size e
  rw [sortedHeap_old (Nat.ne_of_lt bl) (by rw [size_push']; exact Nat.lt_succ_of_lt bl)]
  exact Heap.get?_push_of_some _ e
end
end FvB


namespace Fv
open PySem PySem.Spec PyProof.Rows L2 FvD FvG FvB
/-! ### the letters -/
def abc : List Str := ["a", "b", "c", "d", "e", "f", "g", "h"]
/-- the letters of a term, ascending -/
def lts (d : PyData) : List Str := abc.filter fun x => (pre d).any fun e => decide (nk e = .text x)
theorem nk_text {n : Nat} {e : PyData} {x : Str} (hk : kd n e = true) (h : nk e = .text x) : e = .str x := nk_inj n n e (.str x) hk kd_str (by rw [h]; rfl)
theorem lt_trans_abc : (abc.Pairwise fun a b => ltCps a.cps.toList b.cps.toList = true) ∧ abc.Nodup := by decide +kernel
theorem rising_all : ∀ (ls : List Str), ls.Pairwise (fun a b => ltCps a.cps.toList b.cps.toList = true ∧ ltCps b.cps.toList a.cps.toList = false) → ∀ (ys : List Str), sortedS ys = true → ys.Nodup → (∀ y ∈ ys, y ∈ ls) → ys = ls.filter fun x => decide (x ∈ ys)
  | [], _, ys, _, _, h => by
    cases ys with
    | nil => rfl
    | cons y r => exact absurd (h y List.mem_cons_self) (by simp)
  | a :: ls, hp, ys, hs, hn, h => by
    rw [List.pairwise_cons] at hp
    have tail : ∀ (p : Str) (r : List Str), risingS p r = true → sortedS r = true := fun p r z => by
      cases r with
      | nil => rfl
      | cons q r' =>
        simp only [risingS, Bool.and_eq_true] at z
        exact z.2
    by_cases ha : a ∈ ys
    · -- a is the first one
      have first : ∀ (r : List Str) (p : Str), risingS p r = true → (∀ y ∈ p :: r, y ∈ a :: ls) → a ∈ p :: r → (p :: r).Nodup → p = a := by
        intro r
        induction r with
        | nil =>
          intro p _ _ m _
          exact (List.mem_singleton.mp m).symm
        | cons q r ih =>
          intro p hr hm m nd
          rcases List.mem_cons.mp m with z | z
          · exact z.symm
          · simp only [risingS, Bool.and_eq_true] at hr
            have eq := ih q hr.2 (fun y hy => hm y (List.mem_cons_of_mem _ hy)) z (List.nodup_cons.mp nd).2
            rcases List.mem_cons.mp (hm p List.mem_cons_self) with w | w
            · exact w
            · have lt := (hp.1 p w).1
              rw [eq] at hr
              rw [lt] at hr
              cases hr.1
      cases ys with
      | nil => cases ha
      | cons y r =>
        have ey := first r y hs h ha hn
        subst ey
        have nr := List.nodup_cons.mp hn
        have rest : ∀ z ∈ r, z ∈ ls := fun z hz => by
          rcases List.mem_cons.mp (h z (List.mem_cons_of_mem _ hz)) with e | e
          · rw [e] at hz; exact absurd hz nr.1
          · exact e
        have q := rising_all ls hp.2 r (tail y r hs) nr.2 rest
        rw [List.filter_cons, if_pos (by simp)]
        congr 1
        rw [q]
        refine (List.filter_congr fun z hz => ?_).symm
        have ne : z ≠ y := fun e => by
          have := (hp.1 z hz)
          rw [e] at this
          rw [this.1] at this
          cases this.2
        rw [← q]
        simp [ne]
    · have rest : ∀ z ∈ ys, z ∈ ls := fun z hz => by
        rcases List.mem_cons.mp (h z hz) with e | e
        · rw [e] at hz; exact absurd hz ha
        · exact e
      rw [List.filter_cons, if_neg (by simpa using ha)]
      exact rising_all ls hp.2 ys hs hn rest
theorem abc_pair : abc.Pairwise (fun a b => ltCps a.cps.toList b.cps.toList = true ∧ ltCps b.cps.toList a.cps.toList = false) := by decide +kernel
theorem sorted_abc {ys : List Str} (hs : sortedS ys = true) (hn : ys.Nodup) (h : ∀ y ∈ ys, y ∈ abc) : ys = abc.filter fun x => decide (x ∈ ys) := rising_all abc abc_pair ys hs hn h
end Fv


namespace Fv
open PySem PySem.Spec PyProof.Rows L2

def spLeaves (K : PySem.W.Frag) (n : Nat) : Sp := fun vs H Q _ => ∃ (v : V) (d : PyData) (m : Nat), vs = [v] ∧ Dp K H v d ∧ gd 20 d = true ∧ m < n ∧ 1 ≤ lmeas m d ∧ ∀ H', Same H H' → Q (.int (lmeas m d)) H'
section
variable {P : Program} {w : World} {K : PySem.W.Frag} {mg : Str → Option Value} {base : Heap}
theorem leaves_zero {f : Addr} {fd : FuncData} {k : Nat} {ps : List Str} : FnOk P w K mg base CX0 k f fd ps (spLeaves K 0) := by
  have no : ∀ vs H Q E, ¬ spLeaves K 0 vs H Q E := fun vs H Q E h => by
    obtain ⟨v, d, m, _, _, _, m1, _⟩ := h
    omega
  exact ⟨fun vs H Q E h => absurd h (no vs H Q E), fun A outer s H args us vs Q E _ _ _ _ h => absurd h (no vs H Q E)⟩
end
end Fv


namespace Fv
open PySem PySem.Spec PyProof.Rows L2 GenW FvX FvD FvG





theorem op_inDK {X : Cx} {K : PySem.W.Frag} (hK : X.K = K) (hu : X.A.units + 65 < cLine) : OpR X (compareOp .In) (rInD K) := by
  subst hK
  exact op_inD hu
/-- a new list of data -/
def newL (K : PySem.W.Frag) (ds : List PyData) (H : Hp) (Q : VK) : Prop := ∀ (H' : Hp) (p : Addr) (vs : List V), Same H H' → H p = none → H' p = some (.lst vs) → DpAll K H' vs ds → Q (.ref p) H'
/-- a new list of letters -/
def newLt (xs : List Str) (H : Hp) (Q : VK) : Prop := ∀ (H' : Hp) (p : Addr), Same H H' → H p = none → H' p = some (.lst (xs.map V.str)) → Q (.ref p) H'
theorem none_back {H H1 : Hp} {p : Addr} (s : Same H H1) (h : H1 p = none) : H p = none := by
  cases e : H p with
  | none => rfl
  | some o => rw [s p o e] at h; cases h
theorem take_filter {α : Type} (l : List α) (p : α → Bool) (i : Nat) (x : α) (h : l[i]? = some x) : (l.take (i + 1)).filter p = (l.take i).filter p ++ (if p x = true then [x] else []) := by
  rw [List.take_add_one, h, List.filter_append]
  congr 1
  show [x].filter p = _
  rw [List.filter_cons, List.filter_nil]
theorem abc_cps : (tl8 : List Nat) → tl8 = [97, 98, 99, 100, 101, 102, 103, 104] → abc = tl8.map fun c => (⟨#[c]⟩ : Str) := by
  intro tl8 e
  subst e
  decide +kernel
theorem abc_at (i : Nat) (c : Nat) (h : ("abcdefgh" : Str).cps[i]? = some c) : abc[i]? = some ⟨#[c]⟩ := by
  have e : ("abcdefgh" : Str).cps = #[97, 98, 99, 100, 101, 102, 103, 104] := by decide +kernel
  rw [e] at h
  rw [abc_cps _ rfl, List.getElem?_map]
  have h' : ([97, 98, 99, 100, 101, 102, 103, 104] : List Nat)[i]? = some c := by simpa using h
  rw [h']
  rfl
theorem abc_shaped : ∀ x ∈ abc, SeqAt.shaped (.str x) = true := by decide +kernel
section
variable {P : Program} {w : World} {K : PySem.W.Frag} {mg : Str → Option Value} {base : Heap} {CT : Addr}
theorem ok_letters {f : Addr} {fd : FuncData} {k : Nat} {t8 : Tok} (F : Fun K "letters" "letters" s_letters f fd) (g_LETTERS : mg "LETTERS" = some (.str "abcdefgh" t8)) (C_subterms : OwnR P w K mg base k "subterms" (spLg K CT (gSubt K))) :
    FnOk P w K mg base (L2.CX P w) (k + 1) f fd ["term"] (spLg K CT fun _ d H Q => newLt (lts d) H Q) := by
  refine F.okX sc_letters (fun vs H Q E h => ?_) (fun cdv A outer s H vs Q E hr h => ?_)
  · obtain ⟨v, d, rfl, _⟩ := h
    rfl
  · obtain ⟨v, d, rfl, hd, hg, good, bad⟩ := h
    refine ⟨_, (pss_cons (ps_set (i := 1) sc_letters.nd rfl (by first | exact .inl rfl | exact .inr rfl) (pe_ownR C_subterms (hr.mono (by omega)) (by rfl) passX (pa_cons (pv 0) pa_nil)))
      (pss_one (ps_ret (pe_lc (own := [("letter", 2)]) (g := gName 2) (by rfl) sc_letters.nd (pi_str (pe_glob (v := .str "abcdefgh") (by rfl) g_LETTERS (⟨_, rfl⟩))) (blkOk_by (own := [("letter", 2)]) (N := N_letters) (sc := defScope s_letters) (by decide +kernel)) (fun _ _ _ _ _ => pg_name (i := 2) sc_letters.nd rfl (Or.inl rfl)) (fun _ _ _ _ _ => pts_one (pt_cmpR (op_inDK (K := K) rfl (hu65 hr)) (pv 2) (pv 1) (by rfl))) (fun _ _ _ _ _ => (pv 2)))))), ?_⟩
    refine ⟨_, rfl, v, d, rfl, hd, hg, fun hm H1 p vs s1 np hp hv => ?_, bad⟩
    have t := tk_of hm hg
    have subs : ∀ e ∈ onceD (pre d), Tk e := fun e he => Tk.pre t e (once_sub _ e he)
    refine ⟨_, rfl, fun D nD => lc_it (walk_str (z := "abcdefgh")) (fun i H2 => Same H1 H2 ∧ H2 D = some (.lst (((abc.take i).filter fun x => (pre d).any fun e => decide (nk e = .text x)).map V.str))) ?_ ?_ ?_ ?_⟩
    · exact ⟨same_upd nD, by rw [upd_same]; rfl⟩
    · exact fun _ _ _ _ => trivial
    · rintro i y H2 H3 hi ⟨sm, e⟩ ⟨rfl, c, hc, rfl⟩
      have hx := abc_at i c hc
      refine ⟨rfl, _, rfl, _, rfl, .str ⟨#[c]⟩, onceD (pre d), .str _, .lst (SqL.of (sm _ _ hp)) (dpAll_same sm _ _ hv), ?_, shaped_list fun z hz => (subs z hz).gd, _, rfl, ?_⟩
      · exact abc_shaped _ (List.mem_of_getElem? hx)
      · show if ((onceD (pre d)).any fun z => PyData.eqv z (.str ⟨#[c]⟩)) = true then _ else _
        rw [any_eqv (fun z hz => (subs z hz).kd) kd_str, show nk (.str ⟨#[c]⟩) = NestedKey.text ⟨#[c]⟩ from rfl, once_any]
        have st := take_filter abc (fun x => (pre d).any fun e => decide (nk e = .text x)) i _ hx
        refine ite2 (fun q => ?_) (fun q => ?_)
        · refine ⟨_, rfl, _, e, ?_, fun b o eb => ?_, ?_⟩
          · rw [List.length_map]
            exact Nat.lt_of_le_of_lt (Nat.le_trans (List.length_filter_le _ _) (List.length_take_le' _ _)) (show abc.length < sizeLine by rw [sizeLine_eq]; decide)
          · rw [upd_ne (ne_of_none eb nD)]
            exact sm b o eb
          · rw [upd_same, st, if_pos q, List.map_append]
            rfl
        · refine ⟨sm, ?_⟩
          rw [e, st, if_neg q, List.append_nil]
    · rintro H2 ⟨sm, e⟩
      have npD : H D = none := none_back s1 nD
      refine good hm H2 D (s1.trans sm) npD ?_
      rw [e]
      rfl
/-! ### the law's own -/
def spParts (K : PySem.W.Frag) : Sp := fun vs H Q _ => ∃ (v : V) (d : PyData), vs = [v] ∧ Dp K H v d ∧ Tk d ∧ newL K (if isCd d = true then parts d else []) H Q
def spDeep (K : PySem.W.Frag) (n : Nat) : Sp := fun vs H Q _ => ∃ (v : V) (d : PyData) (m : Nat), vs = [v] ∧ Dp K H v d ∧ Tk d ∧ m < n ∧ 1 ≤ lmeas m d ∧ ∀ H', Same H H' → Q (.int (ldp m d)) H'
theorem deep_zero {f : Addr} {fd : FuncData} {k : Nat} {ps : List Str} : FnOk P w K mg base CX0 k f fd ps (spDeep K 0) := by
  have no : ∀ vs H Q E, ¬ spDeep K 0 vs H Q E := fun vs H Q E h => by
    obtain ⟨v, d, m, _, _, _, m1, _⟩ := h
    omega
  exact ⟨fun vs H Q E h => absurd h (no vs H Q E), fun A outer s H args us vs Q E _ _ _ _ h => absurd h (no vs H Q E)⟩
theorem tk_parts {m : Nat} {d : PyData} (t : Tk d) (h : 1 ≤ lmeas (m + 1) d) : ∀ x ∈ (if isCd d = true then parts d else []), Tk x ∧ 1 ≤ lmeas m x := by
  intro x hx
  rcases t.inv with ⟨z, rfl, _⟩ | ⟨o, ds, rfl, hc, _, tds, _⟩
  · rw [str_isCd] at hx; cases hx
  · rw [if_pos hc] at hx
    have hx' : x ∈ ds := hx
    rcases lmeas_inv h with ⟨y, hy, _⟩ | ⟨o', ds', hd, _, _, _, all1, _⟩
    · cases hy
    · cases hd
      exact ⟨tds x hx', all1 x hx'⟩
theorem parts_len {d : PyData} (t : Tk d) : (if isCd d = true then parts d else []).length ≤ 1200 := by
  have z := pre_small t
  rw [pre_eq, List.length_cons] at z
  have y := FvG.flat_len (if isCd d = true then parts d else [])
  by_cases c : isCd d = true
  · rw [if_pos c] at z y ⊢; omega
  · rw [if_neg c]; simp
/-! ### the law's walk, each one once, its letters -/
def spLWalk (K : PySem.W.Frag) (n : Nat) : Sp := fun vs H Q _ => ∃ (v : V) (d : PyData) (m : Nat), vs = [v] ∧ Dp K H v d ∧ Tk d ∧ m < n ∧ 1 ≤ lmeas m d ∧ newL K (pre d) H Q
theorem lwalk_zero {f : Addr} {fd : FuncData} {k : Nat} {ps : List Str} : FnOk P w K mg base CX0 k f fd ps (spLWalk K 0) := by
  have no : ∀ vs H Q E, ¬ spLWalk K 0 vs H Q E := fun vs H Q E h => by
    obtain ⟨v, d, m, _, _, _, m1, _⟩ := h
    omega
  exact ⟨fun vs H Q E h => absurd h (no vs H Q E), fun A outer s H args us vs Q E _ _ _ _ h => absurd h (no vs H Q E)⟩
theorem flat_take_len (l : List PyData) (i : Nat) : ((l.take i).flatMap pre).length ≤ (l.flatMap pre).length := by
  have e : l.flatMap pre = (l.take i).flatMap pre ++ (l.drop i).flatMap pre := by rw [← List.flatMap_append, List.take_append_drop]
  rw [e, List.length_append]
  omega
end
end Fv


namespace Fv
open PySem PySem.Spec PyProof.Rows L2 FvX
/-! ### dicts from texts to truth values -/
def kvB (ps : List (Str × Bool)) : List (Key × V) := ps.map fun p => (Sum.inr p.1, V.bl p.2)
def csB (ps : List (Str × Bool)) (x : Str) : Option Bool := (ps.find? fun p => decide (p.1 = x)).map (·.2)
theorem putK_new {kvs : List (Key × V)} {k : Key} {v : V} (h : ∀ kv ∈ kvs, kv.1 ≠ k) : putK kvs k v = kvs ++ [(k, v)] := by
  unfold putK
  rw [if_neg]
  intro z
  rw [List.any_eq_true] at z
  obtain ⟨kv, hk, e⟩ := z
  exact h kv hk (of_decide_eq_true e)
theorem merge_app : ∀ (more kvs : List (Key × V)), ((kvs ++ more).map (·.1)).Nodup → mergeK kvs more = kvs ++ more
  | [], kvs, _ => by rw [List.append_nil]; rfl
  | kv :: more, kvs, h => by
    have e : mergeK kvs (kv :: more) = mergeK (putK kvs kv.1 kv.2) more := rfl
    have h' : (((kvs ++ [kv]) ++ more).map (·.1)).Nodup := by rw [List.append_assoc]; exact h
    rw [e, putK_new, merge_app more (kvs ++ [kv]) h', List.append_assoc]
    · rfl
    · intro p hp z
      rw [List.map_append, List.map_cons] at h
      have := (List.nodup_append.mp h).2.2 p.1 (List.mem_map.mpr ⟨p, hp, rfl⟩) kv.1 (List.mem_cons_self ..)
      exact this z
theorem kvB_nodup {ps : List (Str × Bool)} (h : (ps.map (·.1)).Nodup) : ((kvB ps).map (·.1)).Nodup := by
  unfold kvB
  rw [List.map_map]
  have e : ps.map ((fun x : Key × V => x.1) ∘ fun p : Str × Bool => (Sum.inr p.1, V.bl p.2)) = (ps.map (·.1)).map (fun x => (Sum.inr x : Key)) := by
    rw [List.map_map]; rfl
  rw [e]
  exact List.Pairwise.map _ (fun a b hab z => hab (Sum.inr.inj z)) h
theorem merge_kvB {ps : List (Str × Bool)} (h : (ps.map (·.1)).Nodup) : mergeK [] (kvB ps) = kvB ps := by
  rw [merge_app _ _ (by rw [List.nil_append]; exact kvB_nodup h), List.nil_append]
theorem val_kvB : ∀ (ps : List (Str × Bool)) (x : Str), valV (kvB ps) (Sum.inr x) = (csB ps x).map V.bl
  | [], x => rfl
  | p :: ps, x => by
    have ih := val_kvB ps x
    unfold valV csB kvB at ih ⊢
    rw [List.map_cons, List.find?_cons, List.find?_cons]
    by_cases e : p.1 = x
    · rw [show decide ((Sum.inr p.1 : Key) = Sum.inr x) = true from decide_eq_true (congrArg _ e), decide_eq_true e]
      rfl
    · rw [show decide ((Sum.inr p.1 : Key) = Sum.inr x) = false from decide_eq_false (fun z => e (Sum.inr.inj z)), decide_eq_false e]
      exact ih
theorem cs_mem : ∀ {ps : List (Str × Bool)}, (ps.map (·.1)).Nodup → ∀ p ∈ ps, csB ps p.1 = some p.2
  | q :: ps, h, p, hp => by
    rw [List.map_cons, List.nodup_cons] at h
    unfold csB
    rw [List.find?_cons]
    rcases List.mem_cons.mp hp with e | e
    · subst e
      rw [decide_eq_true rfl]
      rfl
    · rw [decide_eq_false (fun z : q.1 = p.1 => h.1 (by rw [z]; exact List.mem_map.mpr ⟨p, e, rfl⟩))]
      exact cs_mem h.2 p e
theorem kvB_all {ps : List (Str × Bool)} (h : (ps.map (·.1)).Nodup) : ∀ p ∈ kvB ps, valV (kvB ps) p.1 = some p.2 ∧ flatB p.2 = true := fun p hp => by
  obtain ⟨q, hq, rfl⟩ := List.mem_map.mp hp
  exact ⟨by rw [val_kvB, cs_mem h q hq]; rfl, rfl⟩
/-! ### pairs that stay -/
theorem paired_smx {M : List Addr} {H H' : Hp} (s : SmX M H H') (hM : ∀ b ∈ M, ∃ xs, H b = some (.lst xs)) : ∀ {ps : List Addr} {kvs : List (Key × V)}, Paired (fun p kv => H p = some (.tup [kV kv.1, kv.2])) ps kvs → Paired (fun p kv => H' p = some (.tup [kV kv.1, kv.2])) ps kvs
  | _, _, .nil => .nil
  | _, _, .cons h t => .cons (s _ _ (fun hb => by
      obtain ⟨xs, e⟩ := hM _ hb
      rw [h] at e
      cases e) h) (paired_smx s hM t)
theorem paired_sqT {K : PySem.W.Frag} {H : Hp} : ∀ {ps : List Addr} {kvs : List (Key × V)}, Paired (fun p kv => H p = some (.tup [kV kv.1, kv.2])) ps kvs → Paired (fun p kv => SqT K H p [kV kv.1, kv.2]) ps kvs
  | _, _, .nil => .nil
  | _, _, .cons h t => .cons (SqT.of h) (paired_sqT t)
theorem paired_len {α β : Type} {F : α → β → Prop} : ∀ {ps : List α} {kvs : List β}, Paired F ps kvs → ps.length = kvs.length
  | _, _, .nil => rfl
  | _, _, .cons _ t => by rw [List.length_cons, List.length_cons, paired_len t]
/-! ### rows of texts -/
theorem lett_strs0 : ∀ {ys : List V}, (∀ y ∈ ys, lett y) → ∃ ss : List Str, ys = ss.map V.str ∧ ∀ x ∈ ss, x ∈ (["a", "b", "c", "d", "e", "f", "g", "h"] : List Str)
  | [], _ => ⟨[], rfl, fun x hx => nomatch hx⟩
  | y :: ys, h => by
    obtain ⟨x, rfl, hx⟩ := lett_data (h y (List.mem_cons_self ..))
    obtain ⟨ss, e, hs⟩ := lett_strs0 fun z hz => h z (List.mem_cons_of_mem _ hz)
    refine ⟨x :: ss, by rw [e]; rfl, fun z hz => ?_⟩
    rcases List.mem_cons.mp hz with q | q
    · rw [q]; exact hx
    · exact hs z q
theorem lett_strs {ys : List V} (h : ∀ y ∈ ys, lett y) (nd : ys.Nodup) : ∃ ss : List Str, ys = ss.map V.str ∧ ss.Nodup ∧ ∀ x ∈ ss, x ∈ (["a", "b", "c", "d", "e", "f", "g", "h"] : List Str) := by
  obtain ⟨ss, e, hs⟩ := lett_strs0 h
  refine ⟨ss, e, ?_, hs⟩
  rw [e] at nd
  exact List.Pairwise.of_map V.str (fun a b hab z => hab (congrArg V.str z)) nd
theorem inV_strs (x : Str) : ∀ ss : List Str, inV (.str x) (ss.map V.str) = decide (x ∈ ss)
  | [] => rfl
  | s :: ss => by
    have ih := inV_strs x ss
    unfold inV at ih ⊢
    rw [List.map_cons, List.any_cons, ih]
    show ((s == x) || decide (x ∈ ss)) = decide (x ∈ s :: ss)
    by_cases e : s = x
    · subst e; simp
    · have e1 : (s == x) = false := beq_eq_false_iff_ne.mpr e
      rw [e1, Bool.false_or]
      simp [List.mem_cons, show ¬ x = s from fun z => e z.symm]
theorem flat_strs (ss : List Str) : (ss.map V.str).all flatV = true := by
  rw [List.all_map]
  exact List.all_eq_true.mpr fun _ _ => rfl
end Fv


namespace Fv
open PySem PySem.Spec PyProof.Rows L2 FvX FvW TL

-- top 45  slots: 0:_law_tables_here 1:_law_lows 2:_law_ups 3:_law_every 4:_law_x 5:_law_y 6:_law_z 7:_law_whole
abbrev s_law_spreads : Stmt := topS 45
abbrev N_law_spreads : List Str := ["_law_tables_here", "_law_lows", "_law_ups", "_law_every", "_law_x", "_law_y", "_law_z", "_law_whole"]
theorem sc_law_spreads : FnScope N_law_spreads ["_law_tables_here"] (defScope s_law_spreads) := ⟨rfl, rfl, rfl, by decide +kernel, rfl, by decide +kernel, by decide +kernel⟩

-- top 46  slots: 0:_law_source_here 1:_law_signs_here 2:_law_rows_here 3:_law_sign
abbrev s_law_placed : Stmt := topS 46
abbrev N_law_placed : List Str := ["_law_source_here", "_law_signs_here", "_law_rows_here", "_law_sign"]
theorem sc_law_placed : FnScope N_law_placed ["_law_source_here", "_law_signs_here", "_law_rows_here"] (defScope s_law_placed) := ⟨rfl, rfl, rfl, by decide +kernel, rfl, by decide +kernel, by decide +kernel⟩


theorem call_lenK {X : Cx} {K : PySem.W.Frag} (hK : X.K = K) : CallR X (.builtin "len") (fun xs H Q => ∃ p ys, xs = [.ref p] ∧ (SqL K H p ys ∨ SqT K H p ys) ∧ Q (.int (ys.length : Nat)) H) := by
  subst hK
  exact call_len_seq
/-! ### values -/
def isBr : PyData → Bool
  | .str s => decide (s = "|")
  | _ => false
def opI' (ms : List Nat) (b : Bool) : Nat → Nat → Nat := if b = true then upI ms else lowI ms
def vl (ms : List Nat) (pl : Str → Nat) : Nat → PyData → Nat
  | 0, _ => 0
  | _ + 1, .str x => pl x
  | n + 1, .tuple (o :: d :: ds) => (ds.map (vl ms pl n)).foldl (opI' ms (isBr o)) (vl ms pl n d)
  | _ + 1, _ => 0
/-- a letter of a term -/
def ltIn : Nat → PyData → Str → Prop
  | 0, _, _ => False
  | _ + 1, .str y, x => x = y
  | n + 1, .tuple (_ :: ds), x => ∃ d ∈ ds, ltIn n d x
  | _ + 1, _, _ => False
def plOf (kvs : List (Key × V)) (pl : Str → Nat) (N m : Nat) (d : PyData) : Prop := ∀ x, ltIn m d x → valV kvs (Sum.inr x) = some (.int (pl x : Nat)) ∧ pl x < N
theorem op_lt {ms : List Nat} (F : Fam ms) (b : Bool) {x y : Nat} (hx : x < ms.length) (hy : y < ms.length) : opI' ms b x y < ms.length := by
  unfold opI'
  cases b
  · exact (low_spec F hx hy).1
  · exact (up_spec F hx hy).1
theorem fold_lt {ms : List Nat} (F : Fam ms) (b : Bool) : ∀ (l : List Nat) (x : Nat), x < ms.length → (∀ y ∈ l, y < ms.length) → l.foldl (opI' ms b) x < ms.length
  | [], x, hx, _ => hx
  | y :: l, x, hx, h => fold_lt F b l _ (op_lt F b hx (h y List.mem_cons_self)) fun z hz => h z (List.mem_cons_of_mem _ hz)
theorem vl_lt {ms : List Nat} (F : Fam ms) {pl : Str → Nat} : ∀ (m : Nat) (d : PyData), 1 ≤ lmeas m d → (∀ x, ltIn m d x → pl x < ms.length) → vl ms pl m d < ms.length
  | 0, d, h, _ => by simp only [lmeas] at h; omega
  | m + 1, d, h, hp => by
    rcases lmeas_inv h with ⟨x, rfl, hx⟩ | ⟨o, ds, rfl, nl, ho, h2, all1, e⟩
    · exact hp x rfl
    · match ds, h2, all1, hp with
      | d0 :: ds, h2, all1, hp =>
        refine fold_lt F _ _ _ (vl_lt F m d0 (all1 d0 List.mem_cons_self) fun x hx => hp x ⟨d0, List.mem_cons_self, hx⟩) fun y hy => ?_
        obtain ⟨d', hd', rfl⟩ := List.mem_map.mp hy
        exact vl_lt F m d' (all1 d' (List.mem_cons_of_mem _ hd')) fun x hx => hp x ⟨d', List.mem_cons_of_mem _ hd', hx⟩
theorem br_dec (o : Str) : decide (V.str o = V.str "|") = isBr (.str o) := by
  show _ = decide (o = "|")
  rw [Bool.eq_iff_iff, decide_eq_true_eq, decide_eq_true_eq]
  exact ⟨V.str.inj, congrArg V.str⟩
theorem dpAll_getD {K : PySem.W.Frag} {H : Hp} : ∀ {vs : List V} {ds : List PyData} {i : Nat} {d : PyData}, DpAll K H vs ds → ds[i]? = some d → ∃ v, vs[i]? = some v ∧ Dp K H v d
  | _, _, _, _, .nil, e => by simp at e
  | _, _, 0, _, .cons h _, e => by simp at e; subst e; exact ⟨_, rfl, h⟩
  | _ :: vs, _ :: ds, i + 1, _, .cons _ h, e => by
    have e' : ds[i]? = some _ := e
    obtain ⟨v, hv, hD⟩ := dpAll_getD (vs := vs) (ds := ds) h e'
    exact ⟨v, hv, hD⟩
/-- the tables of a board -/
theorem tabs_inv {K : PySem.W.Frag} {H : Hp} {v : V} {ms : List Nat} (h : Dp K H v (tabsD ms)) : ∃ T lo up, v = .ref T ∧ SqT K H T [.ref lo, .ref up] ∧ Dp K H (.ref lo) (tabD ms.length (lowI ms)) ∧ Dp K H (.ref up) (tabD ms.length (upI ms)) := by
  cases h with
  | tup hs ha => cases ha with
    | cons h1 ha => cases ha with
      | cons h2 ha =>
        cases ha
        cases h1 with
        | lst a b => cases h2 with
          | lst c d => exact ⟨_, _, _, rfl, hs, .lst a b, .lst c d⟩
theorem tab_ix {K : PySem.W.Frag} {H : Hp} {ta : Addr} {n x : Nat} {g : Nat → Nat → Nat} (h : Dp K H (.ref ta) (tabD n g)) (hx : x < n) : ∃ xs b, SqL K H ta xs ∧ xs.length = n ∧ atI xs ((x : Nat) : Int) = some (.ref b) ∧ Dp K H (.ref b) (rowD n (g x)) := by
  cases h with
  | lst hs ha =>
    have hd : ((List.range n).map fun x => rowD n (g x))[x]? = some (rowD n (g x)) := by rw [List.getElem?_map, List.getElem?_range hx]; rfl
    obtain ⟨v, hv, hD⟩ := dpAll_getD ha hd
    have hl := dpAll_len ha
    rw [List.length_map, List.length_range] at hl
    have hD' := hD
    cases hD with
    | lst a b => exact ⟨_, _, hs, hl, atI_nat hv, hD'⟩
theorem row_ix' {K : PySem.W.Frag} {H : Hp} {b : Addr} {n y : Nat} {g : Nat → Nat} (h : Dp K H (.ref b) (rowD n g)) (hy : y < n) : ∃ ys, SqL K H b ys ∧ atI ys ((y : Nat) : Int) = some (.int (g y : Nat)) := by
  cases h with
  | lst hs ha =>
    have hd : ((List.range n).map fun y => PyData.int (g y : Nat))[y]? = some (.int (g y : Nat)) := by rw [List.getElem?_map, List.getElem?_range hy]; rfl
    obtain ⟨v, hv, hD⟩ := dpAll_getD ha hd
    cases hD
    exact ⟨_, hs, atI_nat hv⟩
theorem Src.lst0 {H : Hp} {a L : Addr} {ns : List Int} (h : Src H a L ns) : ∀ b ∈ [a], ∃ xs, H b = some (.lst xs) := fun b hb => by
  obtain ⟨_, _, _, _, e, _⟩ := h
  rw [List.mem_singleton.mp hb]
  exact ⟨_, e⟩
theorem cut_drop2 (xs : List V) : cutV xs (some 2) none = xs.drop 2 := by
  unfold cutV
  rw [show HT.sIx xs.length 0 (some 2) = min 2 xs.length from HT.sIx_nat xs.length 0 2, HT.sIx_none]
  match xs with
  | [] => rfl
  | [a] => rfl
  | a :: b :: r =>
    rw [show min 2 (a :: b :: r).length = 2 by simp only [List.length_cons]; omega]
    exact List.take_of_length_le (by simp)
def kvI (ps : List (Str × Nat)) : List (Key × V) := ps.map fun p => (Sum.inr p.1, V.int (p.2 : Nat))
def spVal (K : PySem.W.Frag) (n : Nat) : Sp := fun vs H Q _ => ∃ (vt v : V) (c : Addr) (d : PyData) (m : Nat) (kvs : List (Key × V)) (pl : Str → Nat) (ms : List Nat), vs = [vt, v, .ref c] ∧ Dp K H vt (tabsD ms) ∧ Fam ms ∧ Dp K H v d ∧ m < n ∧ 1 ≤ lmeas m d ∧ H c = some (.dK kvs) ∧ plOf kvs pl ms.length m d ∧
  ∀ H', Same H H' → Q (.int (vl ms pl m d : Nat)) H'
def spSpr (K : PySem.W.Frag) : Sp := fun vs H Q _ => ∃ (vt : V) (ms : List Nat), vs = [vt] ∧ Dp K H vt (tabsD ms) ∧ Fam ms ∧ ∀ (H' : Hp) (b : Bool), Same H H' → (b = true ↔ Spr ms) → Q (.bl b) H'
def spKeeps (K : PySem.W.Frag) : Sp := fun vs H Q _ => ∃ (r c : Addr) (vt v1 v2 : V) (d1 d2 : PyData) (kvs : List (Key × V)) (pl : Str → Nat) (ms : List Nat), vs = [.ref r, vt, v1, v2, .ref c] ∧ SqL K H r ((rowsOf ms).map V.str) ∧ Dp K H vt (tabsD ms) ∧ Fam ms ∧ Dp K H v1 d1 ∧ Dp K H v2 d2 ∧ 1 ≤ lmeas 5 d1 ∧ 1 ≤ lmeas 5 d2 ∧ H c = some (.dK kvs) ∧ plOf kvs pl ms.length 5 d1 ∧ plOf kvs pl ms.length 5 d2 ∧
  ∀ H', Same H H' → Q (.bl (leI ms (vl ms pl 5 d1) (vl ms pl 5 d2))) H'
def spPlaced (K : PySem.W.Frag) : Sp := fun vs H Q _ => ∃ (a L sg r : Addr) (ns : List Int) (ss : List Str) (xs : List V), vs = [.ref a, .ref sg, .ref r] ∧ Src H a L ns ∧ H sg = some (.lst (ss.map V.str)) ∧ sg ≠ a ∧ ss.Nodup ∧ ss.length ≤ 8 ∧ H r = some (.lst xs) ∧ r ≠ a ∧ 1 ≤ xs.length ∧ xs.length ≤ 60 ∧
  ∀ (H' : Hp) (c : Addr) (ps : List (Str × Nat)), ps.map (·.1) = ss → (∀ p ∈ ps, p.2 < xs.length) → H c = none → H' c = some (.dK (kvI ps)) → Src H' a L ns → SmX [a] H H' → Q (.ref c) H'
theorem kvI_nodup {ps : List (Str × Nat)} (h : (ps.map (·.1)).Nodup) : ((kvI ps).map (·.1)).Nodup := by
  unfold kvI
  rw [List.map_map]
  have e : ps.map ((fun x : Key × V => x.1) ∘ fun p : Str × Nat => (Sum.inr p.1, V.int (p.2 : Nat))) = (ps.map (·.1)).map (fun x => (Sum.inr x : Key)) := by
    rw [List.map_map]; rfl
  rw [e]
  exact List.Pairwise.map _ (fun a b hab z => hab (Sum.inr.inj z)) h
theorem merge_kvI {ps : List (Str × Nat)} (h : (ps.map (·.1)).Nodup) : mergeK [] (kvI ps) = kvI ps := by
  rw [merge_app _ _ (by rw [List.nil_append]; exact kvI_nodup h), List.nil_append]
def plI (ps : List (Str × Nat)) (x : Str) : Nat := ((ps.find? fun p => decide (p.1 = x)).map (·.2)).getD 0
theorem val_kvI : ∀ (ps : List (Str × Nat)) (x : Str), x ∈ ps.map (·.1) → valV (kvI ps) (Sum.inr x) = some (.int (plI ps x : Nat)) ∧ ∃ p ∈ ps, plI ps x = p.2
  | [], x, h => by cases h
  | p :: ps, x, h => by
    by_cases e : p.1 = x
    · refine ⟨?_, p, List.mem_cons_self, ?_⟩
      · unfold valV kvI plI
        rw [List.map_cons, List.find?_cons, List.find?_cons, show decide ((Sum.inr p.1 : Key) = Sum.inr x) = true from decide_eq_true (congrArg _ e), decide_eq_true e]
        rfl
      · unfold plI
        rw [List.find?_cons, decide_eq_true e]
        rfl
    · have h' : x ∈ ps.map (·.1) := by
        rcases List.mem_cons.mp h with z | z
        · exact absurd z.symm e
        · exact z
      obtain ⟨a, q, hq, b⟩ := val_kvI ps x h'
      have e2 : plI (p :: ps) x = plI ps x := by
        unfold plI
        rw [List.find?_cons, decide_eq_false e]
      refine ⟨?_, q, List.mem_cons_of_mem _ hq, by rw [e2]; exact b⟩
      rw [e2, ← a]
      unfold valV kvI
      rw [List.map_cons, List.find?_cons, show decide ((Sum.inr p.1 : Key) = Sum.inr x) = false from decide_eq_false (fun z => e (Sum.inr.inj z))]
theorem bl_int {lo up : Addr} (b : Bool) : atI ([.ref lo, .ref up] : List V) (if b = true then (1 : Int) else 0) = some (.ref (if b = true then up else lo)) := by
  cases b
  · exact at0
  · exact atI_nat (j := 1) rfl
section
variable {P : Program} {w : World} {K : PySem.W.Frag} {mg : Str → Option Value} {base : Heap}
theorem val_zero {f : Addr} {fd : FuncData} {k : Nat} {ps : List Str} : FnOk P w K mg base CX0 k f fd ps (spVal K 0) := by
  have no : ∀ vs H Q E, ¬ spVal K 0 vs H Q E := fun vs H Q E h => by
    obtain ⟨_, _, _, _, _, _, _, _, _, _, _, _, h, _⟩ := h
    omega
  exact ⟨fun vs H Q E h => absurd h (no vs H Q E), fun A outer s H args us vs Q E _ _ _ _ h => absurd h (no vs H Q E)⟩
theorem ok_spreads {f : Addr} {fd : FuncData} {k : Nat} (F : Fun K "_law_spreads" "_law_spreads" s_law_spreads f fd) (m_len : mg "len" = none) (m_list : mg "list" = none) (m_range : mg "range" = none) :
    FnOk P w K mg base CX0 (k + 1) f fd ["_law_tables_here"] (spSpr K) := by
  refine F.ok sc_law_spreads (fun vs H Q E h => ?_) (fun cdv A outer s H vs Q E hr h => ?_)
  · obtain ⟨vt, ms, rfl, _⟩ := h
    rfl
  · obtain ⟨vt, ms, rfl, ht, Fm, good⟩ := h
    have l16 := Fm.ln
    refine ⟨_, (pss_cons (ps_asg (pv 0) (pg_tup rfl (pgs_cons (pg_name (i := 1) sc_law_spreads.nd rfl (by first | exact .inl rfl | exact .inr rfl)) (pgs_cons (pg_name (i := 2) sc_law_spreads.nd rfl (by first | exact .inl rfl | exact .inr rfl)) pgs_nil))))
      (pss_cons (ps_set (i := 3) sc_law_spreads.nd rfl (by first | exact .inl rfl | exact .inr rfl) (pe_listRg rfl (by rfl) m_list (prg_1 (by rfl) m_range (pe_callB call_len_seq (by rfl) m_len (by decide +kernel) (pa_cons (pv 1) pa_nil)))))
      (pss_cons (ps_for PassesOwn.never rfl (pi_list (pv 3)) (pg_name (i := 4) sc_law_spreads.nd rfl (by first | exact .inl rfl | exact .inr rfl))
        (pss_one (ps_for PassesOwn.never rfl (pi_list (pv 3)) (pg_name (i := 5) sc_law_spreads.nd rfl (by first | exact .inl rfl | exact .inr rfl))
          (pss_one (ps_for PassesOwn.never rfl (pi_list (pv 3)) (pg_name (i := 6) sc_law_spreads.nd rfl (by first | exact .inl rfl | exact .inr rfl))
            (pss_cons (ps_set (i := 7) sc_law_spreads.nd rfl (by first | exact .inl rfl | exact .inr rfl) (pe_ix ix_list (pe_ix ix_list (pv 2) (pe_ix ix_list (pe_ix ix_list (pv 1) (pv 4) (fun _ _ => rfl)) (pv 5) (fun _ _ => rfl)) (fun _ _ => rfl)) (pe_ix ix_list (pe_ix ix_list (pv 1) (pv 4) (fun _ _ => rfl)) (pv 6) (fun _ _ => rfl)) (fun _ _ => rfl)))
            (pss_one (ps_if (pt_cmpR op_ne (pe_ix ix_list (pe_ix ix_list (pv 1) (pv 4) (fun _ _ => rfl)) (pe_ix ix_list (pe_ix ix_list (pv 2) (pv 5) (fun _ _ => rfl)) (pv 6) (fun _ _ => rfl)) (fun _ _ => rfl)) (pv 7) (nomark _))
              (pss_one (ps_ret pe_bl))
              pss_nil))))))))
      (pss_one (ps_ret pe_bl))))), ?_⟩
    obtain ⟨T, lo, up, rfl, hsT, hlo, hup⟩ := tabs_inv ht
    refine ⟨_, rfl, T, _, rfl, hsT, rfl, _, _, rfl, _, _, rfl, rfl, ?_⟩
    obtain ⟨xs, hxs, lxs⟩ : ∃ xs, SqL K H lo xs ∧ xs.length = ms.length := by
      cases hlo with
      | lst hs ha =>
        have hl := dpAll_len ha
        rw [List.length_map, List.length_range] at hl
        exact ⟨_, hs, hl⟩
    refine ⟨_, rfl, lo, _, rfl, .inl hxs, _, rfl, (by rw [lxs]; exact RgOk.of_le (by decide) (by omega) (by decide) (by omega)), fun ev nev => ?_⟩
    rw [lxs, rgV_nats]
    have s1 := same_upd (o := .lst (natsV (List.range ms.length))) nev
    have hev1 : upd H ev (.lst (natsV (List.range ms.length))) ev = some (.lst (natsV (List.range ms.length))) := upd_same
    generalize upd H ev (.lst (natsV (List.range ms.length))) = H1 at s1 hev1
    have rg : ∀ {i : Nat} {v : V}, (natsV (List.range ms.length))[i]? = some v → i < ms.length ∧ v = .int (i : Nat) := fun {i v} h => by
      obtain ⟨a, ha, e⟩ := nats_get h
      have hi := (List.getElem?_eq_some_iff.mp ha).1
      rw [List.length_range] at hi
      rw [List.getElem?_range hi] at ha
      rw [Option.some.inj ha]
      exact ⟨by rw [← Option.some.inj ha]; exact hi, e⟩
    have ln : (natsV (List.range ms.length)).length = ms.length := by rw [nats_len, List.length_range]
    have hlo1 := dp_same s1 _ _ hlo
    have hup1 := dp_same s1 _ _ hup
    refine ⟨_, rfl, ev, rfl, ⟨_, SqL.of hev1⟩, for_list (xs := natsV (List.range ms.length)) (fun i σ H2 => H2 = H1 ∧ (∃ y4 y5 y6 y7 : Option V, σ = [some (.ref T), some (.ref lo), some (.ref up), some (.ref ev), y4, y5, y6, y7]) ∧ ∀ x, x < i → ∀ y, y < ms.length → ∀ z, z < ms.length → lowI ms x (upI ms y z) = upI ms (lowI ms x y) (lowI ms x z)) ?_ ?_ ?_ ?_⟩
    · exact ⟨rfl, ⟨none, none, none, none, rfl⟩, fun x hx => absurd hx (Nat.not_lt_zero _)⟩
    · rintro i σ H2 _ ⟨rfl, _⟩
      exact SqL.of hev1
    · rintro i v σ H2 hv ⟨rfl, ⟨y4, y5, y6, y7, rfl⟩, don⟩
      obtain ⟨hi, rfl⟩ := rg hv
      refine ⟨_, rfl, ev, rfl, ⟨_, SqL.of hev1⟩, for_list (xs := natsV (List.range ms.length)) (fun j σ H3 => H3 = H2 ∧ (∃ y5 y6 y7 : Option V, σ = [some (.ref T), some (.ref lo), some (.ref up), some (.ref ev), some (.int (i : Nat)), y5, y6, y7]) ∧ ∀ y, y < j → ∀ z, z < ms.length → lowI ms i (upI ms y z) = upI ms (lowI ms i y) (lowI ms i z)) ?_ ?_ ?_ ?_⟩
      · exact ⟨rfl, ⟨_, _, _, rfl⟩, fun x hx => absurd hx (Nat.not_lt_zero _)⟩
      · rintro j σ H3 _ ⟨rfl, _⟩
        exact SqL.of hev1
      · rintro j v σ H3 hv ⟨rfl, ⟨y5, y6, y7, rfl⟩, donj⟩
        obtain ⟨hj, rfl⟩ := rg hv
        refine ⟨_, rfl, ev, rfl, ⟨_, SqL.of hev1⟩, for_list (xs := natsV (List.range ms.length)) (fun l σ H4 => H4 = H3 ∧ (∃ y6 y7 : Option V, σ = [some (.ref T), some (.ref lo), some (.ref up), some (.ref ev), some (.int (i : Nat)), some (.int (j : Nat)), y6, y7]) ∧ ∀ z, z < l → lowI ms i (upI ms j z) = upI ms (lowI ms i j) (lowI ms i z)) ?_ ?_ ?_ ?_⟩
        · exact ⟨rfl, ⟨_, _, rfl⟩, fun x hx => absurd hx (Nat.not_lt_zero _)⟩
        · rintro l σ H4 _ ⟨rfl, _⟩
          exact SqL.of hev1
        · rintro l v σ H4 hv ⟨rfl, ⟨y6, y7, rfl⟩, donl⟩
          obtain ⟨hl, rfl⟩ := rg hv
          have a1 := (low_spec Fm hi hj).1
          have a2 := (low_spec Fm hi hl).1
          have a3 := (up_spec Fm hj hl).1
          obtain ⟨_, b1, t1, _, t2, t3⟩ := tab_ix hlo1 hi
          obtain ⟨_, t4, t5⟩ := row_ix' t3 hj
          obtain ⟨_, t6, t7⟩ := row_ix' t3 hl
          obtain ⟨_, b2, u1, _, u2, u3⟩ := tab_ix hup1 a1
          obtain ⟨_, u4, u5⟩ := row_ix' u3 a2
          obtain ⟨_, b3, w1, _, w2, w3⟩ := tab_ix hup1 hj
          obtain ⟨_, w4, w5⟩ := row_ix' w3 hl
          obtain ⟨_, z1, z2⟩ := row_ix' t3 a3
          refine ⟨_, rfl, _, rfl, _, rfl, lo, _, _, _, rfl, rfl, t1, t2, _, rfl, b1, _, _, _, rfl, rfl, t4, t5, up, _, _, _, rfl, rfl, u1, u2, _, rfl, _, rfl, lo, _, _, _, rfl, rfl, t1, t2, _, rfl, b1, _, _, _, rfl, rfl, t6, t7, b2, _, _, _, rfl, rfl, u4, u5, ?_⟩
          refine ⟨_, rfl, _, rfl, lo, _, _, _, rfl, rfl, t1, t2, _, rfl, _, rfl, up, _, _, _, rfl, rfl, w1, w2, _, rfl, b3, _, _, _, rfl, rfl, w4, w5, b1, _, _, _, rfl, rfl, z1, z2, _, rfl, rfl, _, rfl, ?_⟩
          by_cases c : lowI ms i (upI ms j l) = upI ms (lowI ms i j) (lowI ms i l)
          · rw [decide_eq_true (show V.int ((lowI ms i (upI ms j l) : Nat) : Int) = V.int ((upI ms (lowI ms i j) (lowI ms i l) : Nat) : Int) by rw [c])]
            refine iteF ⟨rfl, ⟨_, _, rfl⟩, fun z hz => ?_⟩
            rcases Nat.lt_or_ge z l with q | q
            · exact donl z q
            · rw [show z = l by omega]; exact c
          · rw [decide_eq_false (show ¬ V.int ((lowI ms i (upI ms j l) : Nat) : Int) = V.int ((upI ms (lowI ms i j) (lowI ms i l) : Nat) : Int) from fun z => c (by have := V.int.inj z; omega))]
            exact iteT (good _ false s1 ⟨fun z => (nomatch z), fun S => absurd (S i hi j hj l hl) c⟩)
        · rintro σ H4 ⟨rfl, ⟨y6, y7, rfl⟩, donl⟩
          rw [ln] at donl
          refine ⟨rfl, ⟨_, _, _, rfl⟩, fun y hy => ?_⟩
          rcases Nat.lt_or_ge y j with q | q
          · exact donj y q
          · rw [show y = j by omega]; exact donl
      · rintro σ H3 ⟨rfl, ⟨y5, y6, y7, rfl⟩, donj⟩
        rw [ln] at donj
        refine ⟨rfl, ⟨_, _, _, _, rfl⟩, fun x hx => ?_⟩
        rcases Nat.lt_or_ge x i with q | q
        · exact don x q
        · rw [show x = i by omega]; exact donj
    · rintro σ H2 ⟨rfl, ⟨y4, y5, y6, y7, rfl⟩, don⟩
      rw [ln] at don
      exact good _ true s1 ⟨fun _ => don, fun _ => rfl⟩
theorem ok_placed {f : Addr} {fd : FuncData} {k : Nat} (F : Fun K "_law_placed" "_law_placed" s_law_placed f fd) (m_len : mg "len" = none) (m_dict : mg "dict" = none)
    (C_law_take : Own P w K mg base k "_law_take" ["_law_source_here", "_law_many"] spTake) :
    FnOk P w K mg base CX0 (k + 1) f fd ["_law_source_here", "_law_signs_here", "_law_rows_here"] (spPlaced K) := by
  refine F.ok sc_law_placed (fun vs H Q E h => ?_) (fun cdv A outer s H vs Q E hr h => ?_)
  · obtain ⟨a, L, sg, r, ns, ss, xs, rfl, _⟩ := h
    rfl
  · obtain ⟨a, L, sg, r, ns, ss, xs, rfl, hs, hsg, sga, nds, l8, hR, ra, x1, x60, good⟩ := h
    refine ⟨_, (pss_one (ps_ret (pe_callTy (call_dictP rfl) (by rfl) m_dict (by decide +kernel) (pa_cons (pe_lc (own := [("_law_sign", 3)]) (g := gName 3) (by rfl) sc_law_placed.nd (pi_list (pv 1)) (blkOk_by (own := [("_law_sign", 3)]) (N := N_law_placed) (sc := defScope s_law_placed) (by decide +kernel)) (fun _ _ _ _ _ => pg_name (i := 3) sc_law_placed.nd rfl (Or.inl rfl)) (fun _ _ _ _ _ => pts_nil) (fun _ _ _ _ _ => (pe_tup (pa_cons (pv 3) (pa_cons (pe_own C_law_take (hr.mono (by omega)) (by rfl) (pa_cons (pv 0) (pa_cons (pe_callB (call_lenK (K := K) rfl) (by rfl) m_len (by decide +kernel) (pa_cons (pv 2) pa_nil)) pa_nil))) pa_nil))))) pa_nil)))), ?_⟩
    have ma : ∀ {a : Addr}, a ∈ [a] := List.mem_singleton.mpr rfl
    have sgA : sg ∉ [a] := fun z => sga (List.mem_singleton.mp z)
    have rA : r ∉ [a] := fun z => ra (List.mem_singleton.mp z)
    refine ⟨_, rfl, sg, rfl, ⟨_, SqL.of hsg⟩, fun D nD => lc_list (xs := ss.map V.str) (fun j Hj => Src Hj a L ns ∧ SmX [a] H Hj ∧ ∃ (ps : List Addr) (bs : List (Str × Nat)), Hj D = some (.lst (ps.map V.ref)) ∧ bs.map (·.1) = ss.take j ∧ (∀ p ∈ bs, p.2 < xs.length) ∧ Paired (fun p kv => Hj p = some (.tup [kV kv.1, kv.2])) ps (kvI bs)) ?_ ?_ ?_ ?_⟩
    · exact ⟨hs.new nD, SmX.new nD, [], [], upd_same, rfl, fun p hp => (nomatch hp), .nil⟩
    · rintro j Hj _ ⟨hsj, smj, _⟩
      exact SqL.of (smj _ _ sgA hsg)
    · rintro j y Hj hy ⟨hsj, smj, ps, bs, hD, eb, hlt, pr⟩
      obtain ⟨x, hx, rfl⟩ : ∃ x, ss[j]? = some x ∧ V.str x = y := by
        rw [List.getElem?_map] at hy
        cases hv : ss[j]? with
        | none => rw [hv] at hy; cases hy
        | some x => rw [hv] at hy; exact ⟨x, rfl, Option.some.inj hy⟩
      have aD : a ≠ D := hs.ne nD
      have LD : D ≠ L := hs.neL' nD
      refine ⟨rfl, yes_it ⟨_, rfl, _, rfl, _, rfl, r, _, rfl, .inl (SqL.of (smj _ _ rA hR)), a, L, ns, _, rfl, hsj, by omega, by omega, fun H5 t t0 t2 hs5 off5 => ⟨(by show 2 ≤ sizeLine; decide), fun T nT => ?_⟩⟩⟩
      obtain ⟨tn, rfl⟩ : ∃ tn : Nat, t = (tn : Nat) := ⟨t.toNat, by omega⟩
      have sm5 : SmX [a] Hj H5 := SmX.at off5 ma
      have hD5 : H5 D = some (.lst (ps.map V.ref)) := (off5 D aD.symm).trans hD
      have s6 := same_upd (o := .tup [.str x, .int (tn : Nat)]) nT
      have hD6 := s6 _ _ hD5
      have lps : ps.length ≤ 8 := by
        have e1 : ps.length = (kvI bs).length := paired_len pr
        have e2 : (kvI bs).length = bs.length := List.length_map ..
        have e3 : bs.length = (ss.take j).length := by rw [← eb, List.length_map]
        rw [List.length_take] at e3
        omega
      have pr5 := paired_smx sm5 hsj.lst0 pr
      have pr6 := paired_smx (M := []) (SmX.of_same s6) (fun b hb => nomatch hb) pr5
      have smP : ∀ xs, SmX [D] (upd H5 T (.tup [.str x, .int (tn : Nat)])) (upd (upd H5 T (.tup [.str x, .int (tn : Nat)])) D (.lst xs)) := fun xs => SmX.put (SmX.refl _ _) (List.mem_singleton.mpr rfl)
      have TD : T ≠ D := fun z => by rw [z, hD5] at nT; cases nT
      refine ⟨_, hD6, by rw [List.length_map]; exact small1000 (by omega), (hs5.same s6).put aD.symm LD, ?_, ps ++ [T], bs ++ [(x, tn)], ?_, ?_, ?_, ?_⟩
      · intro b o nb e
        rw [upd_ne (ne_of_none e nD)]
        exact s6 _ _ (sm5 _ _ nb (smj _ _ nb e))
      · rw [upd_same, List.map_append]; rfl
      · rw [List.map_append, eb, List.take_add_one, hx]; rfl
      · intro p hp
        rcases List.mem_append.mp hp with z | z
        · exact hlt p z
        · rw [List.mem_singleton.mp z]
          show tn < xs.length
          omega
      · have e : kvI (bs ++ [(x, tn)]) = kvI bs ++ [(Sum.inr x, V.int (tn : Nat))] := List.map_append ..
        rw [e]
        refine (paired_smx (smP _) (fun b hb => by rw [List.mem_singleton.mp hb]; exact ⟨_, hD6⟩) pr6).snoc ?_
        rw [upd_ne TD, upd_same]
        rfl
    · rintro H5 ⟨hs5, sm5, ps, bs, hD, eb, hlt, pr⟩
      rw [List.length_map, List.take_length] at eb
      have ndb : (bs.map (·.1)).Nodup := by rw [eb]; exact nds
      refine ⟨D, ps, kvI bs, rfl, SqL.of hD, paired_sqT pr, fun cn ncn => ?_⟩
      rw [merge_kvI ndb]
      exact good _ cn bs eb hlt (smx_none' sm5 hs5 ncn) upd_same (hs5.new ncn) (sm5.trans (SmX.new ncn))
end
end Fv


namespace FvO
open PySem PySem.Spec PyProof.Rows L2 Fv FvW FvX
-- top 27  slots: 0:self 1:terms 2:reading 3:used 4:term 5:letter 6:row
abbrev s_check_reading__of__Board : Stmt := inClass (topS 27) 13
abbrev N_check_reading__of__Board : List Str := ["self", "terms", "reading", "used", "term", "letter", "row"]
theorem sc_check_reading__of__Board : FnScope N_check_reading__of__Board ["self", "terms", "reading"] (defScope s_check_reading__of__Board) := ⟨rfl, rfl, rfl, by decide +kernel, rfl, by decide +kernel, by decide +kernel⟩

-- top 27  slots: 0:self 1:term 2:reading 3:places 4:part
abbrev s_place_of__of__Board : Stmt := inClass (topS 27) 14
abbrev N_place_of__of__Board : List Str := ["self", "term", "reading", "places", "part"]
theorem sc_place_of__of__Board : FnScope N_place_of__of__Board ["self", "term", "reading"] (defScope s_place_of__of__Board) := ⟨rfl, rfl, rfl, by decide +kernel, rfl, by decide +kernel, by decide +kernel⟩

-- top 27  slots: 0:self 1:term 2:reading
abbrev s_value__of__Board : Stmt := inClass (topS 27) 15
abbrev N_value__of__Board : List Str := ["self", "term", "reading"]
theorem sc_value__of__Board : FnScope N_value__of__Board ["self", "term", "reading"] (defScope s_value__of__Board) := ⟨rfl, rfl, rfl, by decide +kernel, rfl, by decide +kernel, by decide +kernel⟩


def tOwnR (sp : Sp) (E : XK) (t : TA) : TE := fun σ H Q => t σ H fun vs H1 => sp vs H1 Q E
theorem pe_ownRt {X : Cx} {k : Nat} {x : Str} {sp : Sp} {E : XK} {e : Expr} {es : List Expr} {t : TA} {p pos : Pos} (C : OwnR X.prog X.w X.K X.mg X.base k x sp) (hr : Room k X.A) (hg : Gl X x) (hx : Passes (L2.CX X.prog X.w) X E) (ha : PA X (e :: es) t) (hdb : (x == ("__debug__" : Str)) = false := by decide)
    (he : starEach (e :: es) X.env = (false, eval e X.env) :: starEach es X.env := by rfl) (hpl : (backTo pos (starEach es X.env)).any (·.1) = false := by rfl) : PE X (.Call (.Name x p) (e :: es) [] pos) (tOwnR sp E t) := pe_ownR C hr hg hx ha hdb he hpl
/-! ### readings -/
def rdB (n : Nat) : Option Int → Bool
  | some i => plOk n i
  | none => false
/-- the letter is used in one of the terms -/
def usB (ds : List PyData) (x : Str) : Bool := ds.any fun d => decide (x ∈ lts d)
/-- the first letter that has no place -/
def lackL (n : Nat) (rd : Str → Option Int) (ds : List PyData) : Option Str := abc.find? fun x => usB ds x && !rdB n (rd x)
def RdK (kvs : List (Key × V)) (rd : Str → Option Int) : Prop := ∀ x ∈ abc, valV kvs (Sum.inr x) = (rd x).map V.int
def isT (d : PyData) : Bool := (meas 9 d 600).isSome
def spChkR (K : PySem.W.Frag) (C CR : Addr) : Sp := fun vs H Q E => ∃ (c r rd : Addr) (xs : List V) (ds : List PyData) (kvs : List (Key × V)) (f : Str → Option Int) (L : BL) (n : Nat) (b : Nat → Nat → Bool) (lo hi : Nat → Nat → Nat), vs = [.ref c, .ref r, .ref rd] ∧ BAt K C H c L n b lo hi ∧ n ≤ 60 ∧ SqL K H r xs ∧ DpAll K H xs ds ∧ (∀ d ∈ ds, gd 20 d = true) ∧ ds.all isT = true ∧ ds.length ≤ 4 ∧ H rd = some (.dK kvs) ∧ RdK kvs f ∧
  (lackL n f ds = none → ∀ H', Same H H' → Q .non H') ∧ ∀ x, lackL n f ds = some x → errF CR "InvalidReading" "letter" (.str x) H E
theorem dpAll_txs {K : PySem.W.Frag} {H : Hp} : ∀ ys : List Str, DpAll K H (ys.map V.str) (ys.map PyData.str)
  | [] => .nil
  | y :: ys => .cons (.str y) (dpAll_txs ys)
theorem any_txt {ys : List Str} {x : Str} : ((ys.map PyData.str).any fun z => PyData.eqv z (.str x)) = decide (x ∈ ys) := by
  rw [any_eqv (fun z hz => by obtain ⟨y, _, rfl⟩ := List.mem_map.mp hz; exact FvD.kd_str) FvD.kd_str, Bool.eq_iff_iff, List.any_eq_true, decide_eq_true_iff]
  constructor
  · rintro ⟨e, he, h⟩
    obtain ⟨y, hy, rfl⟩ := List.mem_map.mp he
    have h : NestedKey.text y = NestedKey.text x := of_decide_eq_true h
    injection h with e
    subst e
    exact hy
  · exact fun h => ⟨.str x, List.mem_map.mpr ⟨x, h, rfl⟩, decide_eq_true rfl⟩
theorem abc_msg : ∀ x ∈ abc, (reprText x).length ≤ 100000 := by decide +kernel
theorem abc_gd : ∀ x ∈ abc, gd 20 (.str x) = true := by decide +kernel
section
variable {P : Program} {w : World} {K : PySem.W.Frag} {mg : Str → Option Value} {base : Heap} {C CT CR fR : Addr}
theorem ok_chkR {f : Addr} {fd : FuncData} {k : Nat} {qual : Str} {q : ErrPos1} {me : Expr} {j2 : Nat} {t8 : Tok} (F : Fun K "check_reading" "Board.check_reading" s_check_reading__of__Board f fd) (hk : 1 ≤ k)
    (T_IR : ErrC1 P.main.file K CR fR qual q me "InvalidReading" "letter" j2) (hline : LineOk1 q me) (hargs : ArgsOk me) (hme : ∀ u, MsgV u → MsgOk me "letter" u) (htop : (P.main.scope.names.lookup ("super" : Str)).isSome = false) (m_super : mg "super" = none) (g_IR : mg "InvalidReading" = some (.ref CR)) (m_any : mg "any" = none) (g_LETTERS : mg "LETTERS" = some (.str "abcdefgh" t8))
    (M_has_place : C8.Met P w K mg base 1 C "has_place" (spHas K C) []) (C_letters : OwnR P w K mg base k "letters" (spLg K CT fun _ d H Q => newLt (lts d) H Q)) :
    FnOk P w K mg base (L2.CX P w) (k + 1) f fd ["self", "terms", "reading"] (spChkR K C CR) := by
  refine F.okX sc_check_reading__of__Board (fun vs H Q E h => ?_) (fun cdv A outer s H vs Q E hr h => ?_)
  · obtain ⟨c, r, rd, xs, ds, kvs, f, L, n, b, lo, hi, rfl, _⟩ := h
    rfl
  · obtain ⟨c, r, rd, xs, ds, kvs, f, L, n, b, lo, hi, rfl, hB, n60, hr0, hA, hg, hT, hl, hrd, hf, good, badR⟩ := h
    refine ⟨_, (pss_cons (ps_setLc (i := 3) (own := [("term", 4)]) (g := gName 4) (by rfl) sc_check_reading__of__Board.nd rfl rfl (sw_true rfl rfl rfl (by decide +kernel)) (pi_list (pv 1)) (blkOk_by (own := [("term", 4)]) (N := N_check_reading__of__Board) (sc := defScope s_check_reading__of__Board) (by decide +kernel)) (fun _ _ _ _ _ => pg_name (i := 4) sc_check_reading__of__Board.nd rfl (Or.inl rfl)) (fun _ _ _ _ _ => pts_nil) (fun _ _ _ _ _ => (pe_ownRt C_letters (hr.mono (by omega)) (by rfl) passE0 (pa_cons (pv 4) pa_nil))))
      (pss_one (ps_for (passes_of rfl) rfl (pi_str (pe_glob (v := .str "abcdefgh") (by rfl) g_LETTERS (⟨_, rfl⟩))) (pg_name (i := 5) sc_check_reading__of__Board.nd rfl (by first | exact .inl rfl | exact .inr rfl))
        (pss_one (ps_if (PW.pt (pw_and (pt_val (pe_callB (cr_any rfl) (by rfl) m_any (by decide +kernel) (pa_cons (pe_lc (own := [("row", 6)]) (g := gName 6) (by rfl) sc_check_reading__of__Board.nd (pi_list (pv 3)) (blkOk_by (own := [("row", 6)]) (N := N_check_reading__of__Board) (sc := defScope s_check_reading__of__Board) (by decide +kernel)) (fun _ _ _ _ _ => pg_name (i := 6) sc_check_reading__of__Board.nd rfl (Or.inl rfl)) (fun _ _ _ _ _ => pts_nil) (fun _ _ _ _ _ => (pe_cmpR (op_inLK (K := K) rfl (hu65 hr)) (pv 5) (pv 6) (by rfl)))) pa_nil))) (pw_and1 (pt_not (pt_val (C8.pe_mt M_has_place hr (by omega) (pv 0) (pa_cons (pe_dget1 (hu_of hr) (pv 2) (pv 5) ⟨rfl, rfl, rfl, rfl⟩) pa_nil)))))))
          (pss_one (ps_raise rfl (takes_of rfl rfl rfl rfl) (pmk_err1 (k := 0) (by decide +kernel) T_IR hline hargs hme htop m_super (hr.mono (by omega)) (by rfl) g_IR (pa_cons (pv 5) pa_nil))))
          pss_nil))))), ?_⟩
    obtain ⟨dx, ob⟩ := hB.ob
    have lA := dpAll_len hA
    refine ⟨_, rfl, r, rfl, ⟨_, hr0⟩, fun D nD => lc_list (xs := xs) (fun j H' => Same H H' ∧ ∃ as : List Addr, H' D = some (.lst (as.map V.ref)) ∧ as.length = j ∧ ∀ (i : Nat) (p : Addr) (d : PyData), as[i]? = some p → ds[i]? = some d → p ≠ D ∧ H' p = some (.lst ((lts d).map V.str))) ?_ ?_ ?_ ?_⟩
    · exact ⟨same_upd nD, [], upd_same, rfl, fun i p d h => by cases h⟩
    · rintro j H' _ ⟨sm, _⟩
      exact sm.seq hr0
    · rintro j x H' hx ⟨sm, as, hD, la, lk⟩
      obtain ⟨d, hd, hDx⟩ := dpAll_get hA hx
      have md := List.mem_of_getElem? hd
      have lj := (List.getElem?_eq_some_iff.mp hd).1
      refine ⟨rfl, yes_it ⟨_, rfl, x, d, rfl, dp_same sm _ _ hDx, hg d md, fun hm H1 p s1 np hp => ?_, fun hm => ?_⟩⟩
      · have pD : p ≠ D := fun z => by rw [z, hD] at np; cases np
        refine ⟨_, s1 _ _ hD, small1000 (by rw [List.length_map]; omega), fun c o e => ?_, as ++ [p], ?_, ?_, ?_⟩
        · rw [upd_ne (ne_of_none e nD)]; exact s1 _ _ (sm _ _ e)
        · rw [upd_same, List.map_append]; rfl
        · rw [List.length_append, la]; rfl
        · intro i p' d' h1 h2
          by_cases c : i < j
          · rw [List.getElem?_append_left (by omega)] at h1
            obtain ⟨a1, a2⟩ := lk i p' d' h1 h2
            exact ⟨a1, by rw [upd_ne a1]; exact s1 _ _ a2⟩
          · have ij : i = j := by
              have := (List.getElem?_eq_some_iff.mp h1).1
              rw [List.length_append, la, List.length_singleton] at this
              omega
            subst ij
            rw [List.getElem?_append_right (by omega), la, Nat.sub_self] at h1
            have e1 : p = p' := Option.some.inj h1
            rw [hd] at h2
            have e2 : d = d' := Option.some.inj h2
            subst e1 e2
            exact ⟨pD, by rw [upd_ne pD]; exact hp⟩
      · have := List.all_eq_true.mp hT d md
        unfold isT at this
        rw [hm] at this
        cases this
    rintro H1 ⟨s1, as, hD, la, lk⟩
    have hD1 : H1 D = some (.lst (as.map V.ref)) := hD
    refine ⟨_, rfl, for_it (walk_str (z := "abcdefgh")) (fun i σ H2 => ∃ y5 : Option V, σ = [some (.ref c), some (.ref r), some (.ref rd), some (.ref D), none, y5, none] ∧ Same H1 H2 ∧ ((abc.take i).find? fun x => usB ds x && !rdB n (f x)) = none) ?_ ?_ ?_ ?_⟩
    · exact ⟨_, rfl, Same.refl _, rfl⟩
    · exact fun _ _ _ _ _ => trivial
    · rintro i y σ H2 H3 hil ⟨y5, rfl, sm, nb⟩ ⟨rfl, c0, hc, rfl⟩
      have hx := abc_at i c0 hc
      generalize (⟨#[c0]⟩ : Str) = x at hx ⊢
      have s2 := s1.trans sm
      have lx := dpAll_len hA
      refine ⟨_, rfl, D, rfl, ⟨_, SqL.of (sm _ _ hD1)⟩, fun D2 nD2 => lc_bools (xs := as.map V.ref) (bs := ds.map fun d => decide (x ∈ lts d)) (SqL.of (sm _ _ hD1)) nD2 (by rw [List.length_map, List.length_map]; omega) (by rw [List.length_map]; omega) (fun i2 v b2 H' hv hb sm3 N M qN => ?_) (fun H4 s4 hD2 => ?_)⟩
      · rw [List.getElem?_map] at hv hb
        obtain ⟨p, hp, rfl⟩ := Option.map_eq_some_iff.mp hv
        obtain ⟨d, hd, rfl⟩ := Option.map_eq_some_iff.mp hb
        obtain ⟨_, e⟩ := lk _ p d hp hd
        refine ⟨rfl, yes_it ⟨_, rfl, _, rfl, .str x, (lts d).map PyData.str, .str x, .lst (SqL.of ((sm.trans sm3) _ _ e)) (dpAll_txs _), ?_, ?_, ?_⟩⟩
        · exact gd_shaped (abc_gd x (List.mem_of_getElem? hx)) (by decide)
        · refine shaped_list fun z hz => ?_
          obtain ⟨y, hy, rfl⟩ := List.mem_map.mp hz
          exact abc_gd y (List.mem_filter.mp hy).1
        · rw [any_txt]
          exact qN _ (Same.refl _)
      · refine ⟨D2, _, rfl, SqL.of hD2, _, rfl, ?_⟩
        have ev : ((ds.map fun d => decide (x ∈ lts d)).any id) = usB ds x := by rw [List.any_map]; rfl
        rw [ev]
        have tk : abc.take (i + 1) = abc.take i ++ [x] := by rw [List.take_add_one, hx]; rfl
        have s14 := sm.trans s4
        have s4' := s1.trans s14
        have mx := List.mem_of_getElem? hx
        cases hu : usB ds x with
        | false =>
          refine iteF (iteF ⟨_, rfl, s14, ?_⟩)
          rw [tk, List.find?_append, nb]
          simp [hu]
        | true =>
          have hrd4 := s4' _ _ hrd
          have hv := hf x mx
          refine iteT ⟨_, rfl, c, dx, _, rfl, s4' _ _ ob, rfl, _, rfl, rd, rfl, .inl ⟨_, .inl hrd4⟩, _, rfl, (f x).map V.int, .inl ⟨kvs, Sum.inr x, .inl hrd4, rfl, hv.symm⟩, ?_⟩
          have fin : rdB n (f x) = false → lackL n f ds = some x := fun h => by
            have h1 : (abc.take (i + 1)).find? (fun x => usB ds x && !rdB n (f x)) = some x := by
              rw [tk, List.find?_append, nb]
              simp [hu, h]
            unfold lackL
            rw [← List.take_append_drop (i + 1) abc, List.find?_append, h1]
            rfl
          cases hfx : f x with
          | none =>
            refine ⟨c, .non, .none, L, n, b, lo, hi, rfl, hB.same s4', n60, .non, _, rfl, ?_⟩
            refine iteT ⟨_, rfl, _, rfl, .inl ⟨x, rfl, abc_msg x mx⟩, fun dd nd => ?_⟩
            exact badR x (fin (by rw [hfx]; rfl)) _ dd (s4'.trans (same_upd nd)) upd_same
          | some i0 =>
            refine ⟨c, .int i0, .int i0, L, n, b, lo, hi, rfl, hB.same s4', n60, .int i0, _, rfl, ?_⟩
            show if (!plOk n i0) = true then _ else _
            cases hp : plOk n i0 with
            | true =>
              refine iteF ⟨_, rfl, s14, ?_⟩
              rw [tk, List.find?_append, nb]
              simp [hfx, rdB, hp]
            | false =>
              refine iteT ⟨_, rfl, _, rfl, .inl ⟨x, rfl, abc_msg x mx⟩, fun dd nd => ?_⟩
              exact badR x (fin (by rw [hfx]; exact hp)) _ dd (s4'.trans (same_upd nd)) upd_same
    · rintro σ H2 ⟨y5, rfl, sm, nb⟩
      exact good nb H2 (s1.trans sm)
end
/-! ### a method called with a list of arguments -/
structure MetS (P : Program) (w : World) (K : PySem.W.Frag) (mg : Str → Option Value) (base : Heap) (k : Nat) (C : Addr) (m : Str) (sp : Sp) : Prop where
  ex : ∃ g : Addr, Cls K C ∧ BMeth K C m g ∧ FnR P w K mg base (L2.CX P w) k g sp
def tMethSL (K : PySem.W.Frag) (C : Addr) (m : Str) (sp : Sp) (E : XK) (ta te : TE) : TE := fun σ H Q => ta σ H fun x H1 => ∃ a dx fs, x = .ref a ∧ H1 a = some (.ins C dx fs) ∧ fs.lookup m = none ∧
  ∀ g q, H1 q = none → te σ (upd H1 q (.met g a)) fun y H2 => ∃ b vs, y = .ref b ∧ (SqT K H2 b vs ∨ SqL K H2 b vs) ∧ H2 q = some (.met g a) ∧ sp (.ref a :: vs) H2 Q E
theorem pe_methSL {X : Cx} {k : Nat} {C : Addr} {m : Str} {sp : Sp} {E : XK} {o e : Expr} {ta te : TE} {p apos pos : Pos} (M : MetS X.prog X.w X.K X.mg X.base k C m sp) (hr : Room k X.A) (hx : Passes (L2.CX X.prog X.w) X E) (he : PE X o ta) (ha : PE X e te) (hbase : attributeBase o m X.env (eval o X.env) = eval o X.env := by rfl) : PE X (.Call (.Attribute o m apos) [.Starred e p] [] pos) (tMethSL X.K C m sp E ta te) := by
  obtain ⟨g, c, b, F⟩ := M.ex
  refine ⟨fun pins s σ H Q I h => ?_⟩
  refine starcall_of hbase (thn (he.run pins s σ H _ I h) fun u s1 ⟨x, H1, I1, rx, a, dx, fs, ex, ea, l, q⟩ => ?_)
  subst ex
  obtain rfl : u = Value.ref a := rx
  refine getbound_ok I1 ea c b l fun q1 s2 hq1 I2 => ?_
  refine PySem.W.ks_call (P := PySem.W.MethP X.K q1 g (.ref a)) rfl (PySem.W.keeps_M b.fi) (PySem.W.ks_lone ?_)
  refine thn (ha.run pins s2 σ _ _ I2 (q g q1 hq1)) fun v s3 ⟨y, H2, I3, ry, t, vs, ey, ht, hm, hsp⟩ => ?_
  subst ey
  obtain rfl : v = Value.ref t := ry
  refine StX.star_any I3 ht fun us s4 I4 rv => ⟨met_P I4 hm, ?_⟩
  exact wpAny_call (PySem.W.method_call (met_P I4 hm).1 (run_fnR (us := Value.ref a :: us) (vs := V.ref a :: vs) F hr hx I4 (.cons rfl rv) hsp))
/-! ### the value of a term -/
def vlG (lo hi : Nat → Nat → Nat) (pl : Str → Nat) : Nat → PyData → Nat
  | 0, _ => 0
  | _ + 1, .str x => pl x
  | n + 1, .tuple (o :: d :: ds) => (ds.map (vlG lo hi pl n)).foldl (if isBr o = true then hi else lo) (vlG lo hi pl n d)
  | _ + 1, _ => 0
theorem foldB_lt {n : Nat} {b : Nat → Nat → Bool} {lo hi : Nat → Nat → Nat} {bt tp : Nat} (B : Brd n b lo hi bt tp) (u : Bool) : ∀ (l : List Nat) (x : Nat), x < n → (∀ y ∈ l, y < n) → l.foldl (if u = true then hi else lo) x < n
  | [], x, hx, _ => hx
  | y :: l, x, hx, h => by
    have hy := h y List.mem_cons_self
    refine foldB_lt B u l _ ?_ fun z hz => h z (List.mem_cons_of_mem _ hz)
    cases u
    · exact (B.lo x y hx hy).1
    · exact (B.hi x y hx hy).1
theorem vlG_lt {n : Nat} {b : Nat → Nat → Bool} {lo hi : Nat → Nat → Nat} {bt tp : Nat} (B : Brd n b lo hi bt tp) {pl : Str → Nat} : ∀ (m : Nat) (d : PyData), 1 ≤ lmeas m d → (∀ x, ltIn m d x → pl x < n) → vlG lo hi pl m d < n
  | 0, d, h, _ => by simp only [lmeas] at h; omega
  | m + 1, d, h, hp => by
    rcases lmeas_inv h with ⟨x, rfl, hx⟩ | ⟨o, ds, rfl, nl, ho, h2, all1, e⟩
    · exact hp x rfl
    · match ds, h2, all1, hp with
      | d0 :: ds, h2, all1, hp =>
        refine foldB_lt B _ _ _ (vlG_lt B m d0 (all1 d0 List.mem_cons_self) fun x hx => hp x ⟨d0, List.mem_cons_self, hx⟩) fun y hy => ?_
        obtain ⟨d', hd', rfl⟩ := List.mem_map.mp hy
        exact vlG_lt B m d' (all1 d' (List.mem_cons_of_mem _ hd')) fun x hx => hp x ⟨d', List.mem_cons_of_mem _ hd', hx⟩
theorem vlG_ms (ms : List Nat) (pl : Str → Nat) : ∀ (m : Nat) (d : PyData), vlG (lowI ms) (upI ms) pl m d = vl ms pl m d
  | 0, _ => rfl
  | _ + 1, .str _ => rfl
  | m + 1, .tuple (o :: d :: ds) => by
    show (ds.map (vlG (lowI ms) (upI ms) pl m)).foldl (if isBr o = true then upI ms else lowI ms) (vlG (lowI ms) (upI ms) pl m d) = (ds.map (vl ms pl m)).foldl (opI' ms (isBr o)) (vl ms pl m d)
    rw [vlG_ms ms pl m d, List.map_congr_left fun d' _ => vlG_ms ms pl m d']
    rfl
  | _ + 1, .tuple [_] => rfl
  | _ + 1, .tuple [] => rfl
  | _ + 1, .none => rfl
  | _ + 1, .bool _ => rfl
  | _ + 1, .int _ => rfl
  | _ + 1, .list _ => rfl
  | _ + 1, .dict _ => rfl
theorem len_sum {f : PyData → Int} : ∀ {ds : List PyData}, (∀ x ∈ ds, 1 ≤ f x) → (ds.length : Int) ≤ (ds.map f).sum
  | [], _ => by simp
  | d :: ds, h => by
    rw [List.map_cons, List.sum_cons, List.length_cons]
    have h1 := h d List.mem_cons_self
    have h2 := len_sum fun x hx => h x (List.mem_cons_of_mem _ hx)
    omega
theorem mem_sum {f : PyData → Int} : ∀ {ds : List PyData}, (∀ x ∈ ds, 1 ≤ f x) → ∀ d ∈ ds, f d ≤ (ds.map f).sum
  | d :: ds, h, e, he => by
    rw [List.map_cons, List.sum_cons]
    have h1 := h d List.mem_cons_self
    have h2 := len_sum fun x hx => h x (List.mem_cons_of_mem _ hx)
    rcases List.mem_cons.mp he with rfl | he
    · omega
    · have := mem_sum (fun x hx => h x (List.mem_cons_of_mem _ hx)) e he
      omega
def spPlc (K : PySem.W.Frag) (C : Addr) (k : Nat) : Sp := fun vs H Q _ => ∃ (c rd : Addr) (v : V) (d : PyData) (m : Nat) (kvs : List (Key × V)) (pl : Str → Nat) (L : BL) (n : Nat) (b : Nat → Nat → Bool) (lo hi : Nat → Nat → Nat) (bt tp : Nat), vs = [.ref c, v, .ref rd] ∧ BAt K C H c L n b lo hi ∧ Brd n b lo hi bt tp ∧ L.bt = bt ∧ L.tp = tp ∧ Dp K H v d ∧ gd 20 d = true ∧ m < k ∧ 1 ≤ lmeas m d ∧ lmeas m d ≤ 100 ∧ H rd = some (.dK kvs) ∧ plOf kvs pl n m d ∧
  ∀ H', Same H H' → Q (.int (vlG lo hi pl m d : Nat)) H'
theorem plc_zero {P : Program} {w : World} {K : PySem.W.Frag} {mg : Str → Option Value} {base : Heap} {C : Addr} {f : Addr} {fd : FuncData} {k : Nat} {ps : List Str} : FnOk P w K mg base CX0 k f fd ps (spPlc K C 0) := by
  have no : ∀ vs H Q E, ¬ spPlc K C 0 vs H Q E := fun vs H Q E h => by
    obtain ⟨_, _, _, _, _, _, _, _, _, _, _, _, _, _, _, _, _, _, _, _, _, h, _⟩ := h
    omega
  exact ⟨fun vs H Q E h => absurd h (no vs H Q E), fun A outer s H args us vs Q E _ _ _ _ h => absurd h (no vs H Q E)⟩
section
variable {P : Program} {w : World} {K : PySem.W.Frag} {mg : Str → Option Value} {base : Heap} {C CP : Addr}
theorem ok_plc {f : Addr} {fd : FuncData} {k n : Nat} (F : Fun K "place_of" "Board.place_of" s_place_of__of__Board f fd) (hk : 5 ≤ k)
    (C_is_letter : Own P w K mg base 1 "is_letter" ["value"] (spIsLetter K)) (M_place_of : C8.Met P w K mg base k C "place_of" (spPlc K C n) [])
    (S_low : MetS P w K mg base 5 C "low" (spFold K C CP false)) (S_up : MetS P w K mg base 5 C "up" (spFold K C CP true)) :
    FnOk P w K mg base CX0 (k + 1) f fd ["self", "term", "reading"] (spPlc K C (n + 1)) := by
  refine F.ok sc_place_of__of__Board (fun vs H Q E h => ?_) (fun cdv A outer s H vs Q E hr h => ?_)
  · obtain ⟨c, rd, v, d, m, kvs, pl, L, N, b, lo, hi, bt, tp, rfl, _⟩ := h
    rfl
  · obtain ⟨c, rd, v, d, m, kvs, pl, L, N, b, lo, hi, bt, tp, rfl, hB, B, e1, e2, hd, hg, hm, l1, l100, hrd, hpl, good⟩ := h
    refine ⟨_, (pss_cons (ps_if (pt_val (pe_own C_is_letter (hr.mono (by omega)) (by rfl) (pa_cons (pv 1) pa_nil)))
        (pss_one (ps_ret (pe_dget (hu_of hr) (pv 2) (pv 1) (fun _ _ => rfl))))
        pss_nil)
      (pss_cons (ps_setLc (i := 3) (own := [("part", 4)]) (g := gName 4) (by rfl) sc_place_of__of__Board.nd rfl rfl (sw_true rfl rfl rfl (by decide +kernel)) (pi_tup (pe_slice sl_tup (pv 1) (po_some pe_int) po_none)) (blkOk_by (own := [("part", 4)]) (N := N_place_of__of__Board) (sc := defScope s_place_of__of__Board) (by decide +kernel)) (fun _ _ _ _ _ => pg_name (i := 4) sc_place_of__of__Board.nd rfl (Or.inl rfl)) (fun _ _ _ _ _ => pts_nil) (fun _ _ _ _ _ => (C8.pe_mt M_place_of hr (by omega) (pv 0) (pa_cons (pv 4) (pa_cons (pv 2) pa_nil)))))
      (pss_one (ps_ret (pe_ifExp (pt_cmpR op_eq (pe_ix ix_tup (pv 1) pe_int (fun _ _ => rfl)) pe_str (nomark _)) (pe_methSL S_low (hr.mono (by omega)) passE0 (pv 0) (pv 3)) (pe_methSL S_up (hr.mono (by omega)) passE0 (pv 0) (pv 3))))))), ?_⟩
    cases m with
    | zero => simp only [lmeas] at l1; omega
    | succ m =>
    refine ⟨_, rfl, v, d, rfl, hd, hg, _, rfl, ?_⟩
    rcases lmeas_inv l1 with ⟨x, rfl, hx⟩ | ⟨o, ds, rfl, nl, ho, h2, all1, e⟩
    · cases hd
      rw [show isLd (.str x) = true from hx]
      refine iteT ⟨_, rfl, _, rfl, rd, .int (pl x : Nat), rfl, ?_, good H (Same.refl H)⟩
      have z := DGet.k (k := Sum.inr x) hrd
      rw [(hpl x rfl).1] at z
      exact z
    · rw [nl]
      refine iteF ?_
      have ls := len_sum all1
      have bnd : ds.length ≤ 100 := by omega
      have vlt : ∀ d' ∈ ds, vlG lo hi pl m d' < N := fun d' hd' => vlG_lt B m d' (all1 d' hd') fun x hx => (hpl x ⟨d', hd', hx⟩).2
      have gds := (gd_parts hg).2
      cases hd with
      | @tup a xs _ hs ha =>
      cases ha with
      | @cons x0 xr _ _ h1 hA =>
      cases h1
      have lx := dpAll_len hA
      obtain ⟨dx, ob⟩ := hB.ob
      refine ⟨_, rfl, 1, rfl, a, _, rfl, hs, ?_, fun p np => ?_⟩
      · rw [show HT.sIx (V.str o :: xr).length 0 (some 1) = min 1 (V.str o :: xr).length from HT.sIx_nat _ 0 1, List.length_cons]
        omega
      have ex : cutV (V.str o :: xr) (some 1) none = xr := by rw [cut_drop1]; rfl
      rw [ex]
      have sp := same_upd (o := .tup xr) np
      have hp : upd H p (.tup xr) p = some (.tup xr) := upd_same
      generalize upd H p (.tup xr) = H2 at sp hp
      refine ⟨p, rfl, ⟨_, SqT.of hp⟩, fun D nD => lc_tup (xs := xr) (fun i H1 => Same H2 H1 ∧ H1 D = some (.lst ((((ds.take i).map (vlG lo hi pl m)).map fun x => ((x : Nat) : Int)).map V.int))) ?_ ?_ ?_ ?_⟩
      · exact ⟨same_upd nD, upd_same⟩
      · rintro i H1 _ ⟨sm, _⟩
        exact SqT.of (sm _ _ hp)
      · rintro i x H1 hx ⟨sm, hD⟩
        obtain ⟨d', hd', hD'⟩ := dpAll_get hA hx
        have md : d' ∈ ds := List.mem_of_getElem? hd'
        have s1 := sp.trans sm
        have le : lmeas m d' ≤ 100 := by
          have := mem_sum all1 d' md
          omega
        refine ⟨rfl, yes_it ⟨_, rfl, c, dx, _, rfl, s1 _ _ ob, rfl, _, rfl, _, rfl, c, rd, x, d', m, kvs, pl, L, N, b, lo, hi, bt, tp, rfl, hB.same s1, B, e1, e2, dp_same s1 _ _ hD', gd_le (gds d' md) (by decide), by omega, all1 d' md, le, s1 _ _ hrd, fun z hz => hpl z ⟨d', md, hz⟩, fun H3 s3 => ?_⟩⟩
        refine ⟨_, s3 _ _ hD, small1000 (by rw [List.length_map, List.length_map, List.length_map, List.length_take]; omega), fun c2 o2 e2 => ?_, ?_⟩
        · rw [upd_ne (ne_of_none e2 nD)]; exact s3 _ _ (sm _ _ e2)
        · rw [upd_same, List.take_add_one, hd', List.map_append, List.map_append, List.map_append]; rfl
      rintro H1 ⟨sm, hD⟩
      rw [lx, List.take_length] at hD
      have s1 := sp.trans sm
      match ds, h2, hD, vlt, good, bnd with
      | d0 :: ds', h2, hD, vlt, good, bnd =>
        have v0 := vlt d0 List.mem_cons_self
        have foldq : ∀ (u : Bool) (Q' : VK) (E' : XK) (g q : Addr), H1 q = none → (∀ H', Same H H' → Q' (.int ((((d0 :: ds').map (vlG lo hi pl m)).foldl (if u then hi else lo) (if u then bt else tp) : Nat) : Int)) H') → spFold K C CP u (.ref c :: (((d0 :: ds').map (vlG lo hi pl m)).map fun x => ((x : Nat) : Int)).map V.int) (upd H1 q (.met g c)) Q' E' := fun u Q' E' g q nq gq => by
          have s2 := s1.trans (same_upd (o := .met g c) nq)
          refine ⟨c, ((d0 :: ds').map (vlG lo hi pl m)).map fun x => ((x : Nat) : Int), L, N, b, lo, hi, bt, tp, rfl, hB.same s2, B, e1, e2, by rw [List.length_map, List.length_map]; exact bnd, fun i hi => ?_, fun ys hy _ H' s' => ?_, fun e he => ?_⟩
          · obtain ⟨y, hy, rfl⟩ := List.mem_map.mp hi
            obtain ⟨d', hd', rfl⟩ := List.mem_map.mp hy
            exact nat_big (Nat.lt_of_lt_of_le (vlt d' hd') B.n60)
          · rw [← cast_inj hy]
            exact gq H' (s2.trans s')
          · rw [bad1_nats fun y hy => by obtain ⟨d', hd', rfl⟩ := List.mem_map.mp hy; exact vlt d' hd'] at he
            cases he
        refine ⟨_, rfl, a, _, _, _, rfl, rfl, same_seqT s1 hs, at0, rfl, _, rfl, ?_⟩
        rcases ho with rfl | rfl
        · refine iteT ⟨_, rfl, c, dx, _, rfl, s1 _ _ ob, rfl, fun g q nq => ⟨_, rfl, D, _, rfl, .inr (SqL.of (same_upd nq _ _ hD)), upd_same, foldq false _ _ g q nq fun H' s' => ?_⟩⟩
          have z := good H' s'
          rw [show vlG lo hi pl (m + 1) (.tuple (.str "&" :: d0 :: ds')) = ((d0 :: ds').map (vlG lo hi pl m)).foldl lo tp from by
            show (ds'.map (vlG lo hi pl m)).foldl lo (vlG lo hi pl m d0) = (ds'.map (vlG lo hi pl m)).foldl lo (lo tp (vlG lo hi pl m d0))
            rw [B.lo_top v0]] at z
          exact z
        · refine iteF ⟨_, rfl, c, dx, _, rfl, s1 _ _ ob, rfl, fun g q nq => ⟨_, rfl, D, _, rfl, .inr (SqL.of (same_upd nq _ _ hD)), upd_same, foldq true _ _ g q nq fun H' s' => ?_⟩⟩
          have z := good H' s'
          rw [show vlG lo hi pl (m + 1) (.tuple (.str "|" :: d0 :: ds')) = ((d0 :: ds').map (vlG lo hi pl m)).foldl hi bt from by
            show (ds'.map (vlG lo hi pl m)).foldl hi (vlG lo hi pl m d0) = (ds'.map (vlG lo hi pl m)).foldl hi (hi bt (vlG lo hi pl m d0))
            rw [B.hi_bot v0]] at z
          exact z
theorem lt_lts : ∀ (n : Nat) (d : PyData) (x : Str), 1 ≤ lmeas n d → ltIn n d x → isL x = true ∧ PyData.str x ∈ FvG.pre d
  | 0, d, x, h, _ => by simp only [lmeas] at h; omega
  | n + 1, d, x, h, hx => by
    rcases lmeas_inv h with ⟨c, rfl, hc⟩ | ⟨o, ds, rfl, nl, ho, h2, all1, e⟩
    · have e : x = c := hx
      subst e
      exact ⟨hc, List.mem_singleton.mpr rfl⟩
    · obtain ⟨d', hd', hx'⟩ := hx
      obtain ⟨h1, h2'⟩ := lt_lts n d' x (all1 d' hd') hx'
      refine ⟨h1, ?_⟩
      by_cases hc : isCd (.tuple (.str o :: ds)) = true
      · rw [FvG.pre_eq, if_pos hc]
        exact List.mem_cons_of_mem _ (List.mem_flatMap.mpr ⟨d', hd', h2'⟩)
      · simp only [lmeas] at h
        rw [if_neg (by rw [nl]; exact Bool.false_ne_true), if_neg hc] at h
        omega
theorem lt_mem {n : Nat} {d : PyData} {x : Str} (h : 1 ≤ lmeas n d) (hx : ltIn n d x) : x ∈ abc ∧ x ∈ lts d := by
  obtain ⟨h1, h2⟩ := lt_lts n d x h hx
  have ha : x ∈ abc := isL_one h1
  refine ⟨ha, List.mem_filter.mpr ⟨ha, List.any_eq_true.mpr ⟨.str x, h2, decide_eq_true rfl⟩⟩⟩
/-- the places that a reading gives -/
def plR (f : Str → Option Int) (x : Str) : Nat := ((f x).getD 0).toNat
theorem plR_of {kvs : List (Key × V)} {f : Str → Option Int} {n m : Nat} {ds : List PyData} {d : PyData} (hf : RdK kvs f) (h : lackL n f ds = none) (hd : d ∈ ds) (h1 : 1 ≤ lmeas m d) : plOf kvs (plR f) n m d := fun x hx => by
  obtain ⟨ha, hl⟩ := lt_mem h1 hx
  have z := List.find?_eq_none.mp h x ha
  have hu : usB ds x = true := List.any_eq_true.mpr ⟨d, hd, decide_eq_true hl⟩
  have hr : rdB n (f x) = true := by
    cases e : rdB n (f x) with
    | true => rfl
    | false => exact absurd (by rw [hu, e]; rfl) z
  have hv := hf x ha
  cases hfx : f x with
  | none => rw [hfx] at hr; cases hr
  | some i =>
    rw [hfx] at hr hv
    have hr : plOk n i = true := hr
    unfold plOk at hr
    rw [Bool.and_eq_true, decide_eq_true_iff, decide_eq_true_iff] at hr
    have e : plR f x = i.toNat := by unfold plR; rw [hfx]; rfl
    rw [e]
    refine ⟨?_, by omega⟩
    rw [hv, Int.toNat_of_nonneg hr.1]
    rfl
/-- a right reading's value -/
def spValB (K : PySem.W.Frag) (C CR : Addr) : Sp := fun vs H Q E => ∃ (c rd : Addr) (v : V) (d : PyData) (m : Nat) (kvs : List (Key × V)) (f : Str → Option Int) (L : BL) (n : Nat) (b : Nat → Nat → Bool) (lo hi : Nat → Nat → Nat) (bt tp : Nat), vs = [.ref c, v, .ref rd] ∧ BAt K C H c L n b lo hi ∧ Brd n b lo hi bt tp ∧ L.bt = bt ∧ L.tp = tp ∧ Dp K H v d ∧ gd 20 d = true ∧ isT d = true ∧ m < 10 ∧ 1 ≤ lmeas m d ∧ lmeas m d ≤ 100 ∧ H rd = some (.dK kvs) ∧ RdK kvs f ∧
  (lackL n f [d] = none → ∀ H', Same H H' → Q (.int (vlG lo hi (plR f) m d : Nat)) H') ∧ ∀ x, lackL n f [d] = some x → errF CR "InvalidReading" "letter" (.str x) H E
def spKeepB (K : PySem.W.Frag) (C CR : Addr) : Sp := fun vs H Q E => ∃ (c rd : Addr) (v1 v2 : V) (d1 d2 : PyData) (m : Nat) (kvs : List (Key × V)) (f : Str → Option Int) (L : BL) (n : Nat) (b : Nat → Nat → Bool) (lo hi : Nat → Nat → Nat) (bt tp : Nat), vs = [.ref c, v1, v2, .ref rd] ∧ BAt K C H c L n b lo hi ∧ Brd n b lo hi bt tp ∧ L.bt = bt ∧ L.tp = tp ∧ Dp K H v1 d1 ∧ Dp K H v2 d2 ∧ gd 20 d1 = true ∧ gd 20 d2 = true ∧ isT d1 = true ∧ isT d2 = true ∧ m < 10 ∧ 1 ≤ lmeas m d1 ∧ lmeas m d1 ≤ 100 ∧ 1 ≤ lmeas m d2 ∧ lmeas m d2 ≤ 100 ∧ H rd = some (.dK kvs) ∧ RdK kvs f ∧
  (lackL n f [d1, d2] = none → ∀ H', Same H H' → Q (.bl (b (vlG lo hi (plR f) m d1) (vlG lo hi (plR f) m d2))) H') ∧ ∀ x, lackL n f [d1, d2] = some x → errF CR "InvalidReading" "letter" (.str x) H E
theorem ok_valueB {CR : Addr} {f : Addr} {fd : FuncData} {k : Nat} (F : Fun K "value" "Board.value" s_value__of__Board f fd)
    (M_check_reading : MetR P w K mg base k C "check_reading" (spChkR K C CR)) (M_place_of : C8.Met P w K mg base k C "place_of" (spPlc K C 10) []) :
    FnOk P w K mg base (L2.CX P w) (k + 1) f fd ["self", "term", "reading"] (spValB K C CR) := by
  refine F.okX sc_value__of__Board (fun vs H Q E h => ?_) (fun cdv A outer s H vs Q E hr h => ?_)
  · obtain ⟨c, rd, v, d, m, kvs, f, L, N, b, lo, hi, bt, tp, rfl, _⟩ := h
    rfl
  · obtain ⟨c, rd, v, d, m, kvs, f, L, N, b, lo, hi, bt, tp, rfl, hB, B, e1, e2, hd, hg, hT, hm, l1, l100, hrd, hf, good, bad⟩ := h
    refine ⟨_, (pss_cons (ps_expr (pe_mtR M_check_reading (hr.mono (by omega)) passX (pv 0) (pa_cons (pe_lst (pa_cons (pv 1) pa_nil)) (pa_cons (pv 2) pa_nil))))
      (pss_one (ps_ret (C8.pe_mt M_place_of hr (by omega) (pv 0) (pa_cons (pv 1) (pa_cons (pv 2) pa_nil)))))), ?_⟩
    obtain ⟨dx, ob⟩ := hB.ob
    refine ⟨_, rfl, c, dx, _, rfl, ob, rfl, _, rfl, (by show 1 ≤ sizeLine; decide), fun t nt => ?_⟩
    have st := same_upd (o := .lst [v]) nt
    refine ⟨_, rfl, c, t, rd, [v], [d], kvs, f, L, N, b, lo, hi, rfl, hB.same st, B.n60, SqL.of upd_same, .cons (dp_same st _ _ hd) .nil, (fun e he => by rw [List.mem_singleton.mp he]; exact hg), (by rw [List.all_cons, hT]; rfl), (by show 1 ≤ 4; decide), st _ _ hrd, hf, fun hn H1 s1 => ?_, fun x hx => (bad x hx).mono st⟩
    have s01 := st.trans s1
    exact ⟨_, rfl, c, dx, _, rfl, s01 _ _ ob, rfl, _, rfl, _, rfl, c, rd, v, d, m, kvs, plR f, L, N, b, lo, hi, bt, tp, rfl, hB.same s01, B, e1, e2, dp_same s01 _ _ hd, hg, hm, l1, l100, s01 _ _ hrd, plR_of hf hn (List.mem_singleton.mpr rfl) l1, fun H2 s2 => good hn H2 (s01.trans s2)⟩
end
end FvO


/-! boards turned over spread likewise; chains, cubes, fans; values of turned terms -/
namespace FvO
open PySem PySem.Spec PyProof.Rows L2 Fv FvW FvX FvD FvG TL
section
variable {n : Nat} {b : Nat → Nat → Bool} {lo hi : Nat → Nat → Nat} {bt tp : Nat}
theorem Brd.latB (B : Brd n b lo hi bt tp) : Lat n b lo hi bt := ⟨B.rf, B.an, B.tr, B.lo, B.hi, B.bt⟩
theorem spr_dual (B : Brd n b lo hi bt tp) (S : SprB n lo hi) : SprB n hi lo := fun x hx y hy z hz => by
  have L := B.latB
  have D := B.dual.latB
  have h1 := (B.hi x y hx hy).1
  have h2 := (B.hi x z hx hz).1
  have l1 := (B.lo y z hy hz).1
  have l2 := (B.lo x z hx hz).1
  -- x below both
  have e1 : lo (hi x y) (hi x z) = hi (lo (hi x y) x) (lo (hi x y) z) := S _ h1 _ hx _ hz
  have e2 : lo (hi x y) x = x := L.an _ _ (B.lo _ _ h1 hx).1 hx (L.lo_l h1 hx).2 (L.lo_in h1 hx hx (L.hi_u hx hy).1 (L.rf x hx))
  have e3 : lo (hi x y) z = hi (lo z x) (lo z y) := by
    have c : lo (hi x y) z = lo z (hi x y) := L.an _ _ (B.lo _ _ h1 hz).1 (B.lo _ _ hz h1).1 (L.lo_in hz h1 (B.lo _ _ h1 hz).1 (L.lo_l h1 hz).2 (L.lo_l h1 hz).1) (L.lo_in h1 hz (B.lo _ _ hz h1).1 (L.lo_l hz h1).2 (L.lo_l hz h1).1)
    rw [c]; exact S _ hz _ hx _ hy
  rw [e1, e2, e3]
  have m1 := (B.lo z x hz hx).1
  have m2 := (B.lo z y hz hy).1
  have m3 := (B.hi _ _ m1 m2).1
  refine L.an _ _ (B.hi _ _ hx l1).1 (B.hi _ _ hx m3).1 (L.hi_in hx l1 (B.hi _ _ hx m3).1 (L.hi_u hx m3).1 ?_) (L.hi_in hx m3 (B.hi _ _ hx l1).1 (L.hi_u hx l1).1 (L.hi_in m1 m2 (B.hi _ _ hx l1).1 ?_ ?_))
  · have k1 : b (lo y z) (lo z y) = true := L.lo_in hz hy l1 (L.lo_l hy hz).2 (L.lo_l hy hz).1
    exact L.tr _ _ _ l1 m2 (B.hi _ _ hx m3).1 k1 (L.tr _ _ _ m2 m3 (B.hi _ _ hx m3).1 (L.hi_u m1 m2).2 (L.hi_u hx m3).2)
  · exact L.tr _ _ _ m1 hx (B.hi _ _ hx l1).1 (L.lo_l hz hx).2 (L.hi_u hx l1).1
  · have k1 : b (lo z y) (lo y z) = true := L.lo_in hy hz m2 (L.lo_l hz hy).2 (L.lo_l hz hy).1
    exact L.tr _ _ _ m2 l1 (B.hi _ _ hx l1).1 k1 (L.hi_u hx l1).2
theorem spr_dual_iff (B : Brd n b lo hi bt tp) : SprB n hi lo ↔ SprB n lo hi := ⟨fun S => spr_dual B.dual S, fun S => spr_dual B S⟩
end
theorem chain_spr (n : Nat) : SprB n min max := fun x _ y _ z _ => by omega
theorem cube_spr (n : Nat) : SprB n (· &&& ·) (· ||| ·) := fun x _ y _ z _ => Nat.and_or_distrib_left x y z
theorem fan_spr : ∀ m, m < 7 → 1 ≤ m → (decide (m + 2 < 5) = true ↔ SprB (m + 2) (fanL (m + 2)) (fanH (m + 2))) := by
  unfold SprB
  decide +kernel
section
variable {K : PySem.W.Frag} {C CP c : Addr} {L : BL} {n : Nat} {b : Nat → Nat → Bool} {lo hi : Nat → Nat → Nat} {bt tp : Nat} {H : Hp} {Q : VK} {E : XK}
theorem fold_use {u : Bool} {vs : List V} {xs : List Nat} {val : Nat} (hB : BAt K C H c L n b lo hi) (B : Brd n b lo hi bt tp) (e1 : L.bt = bt) (e2 : L.tp = tp) (hv : vs = .ref c :: xs.map fun x => V.int ((x : Nat) : Int)) (hl : xs.length ≤ 100) (hx : ∀ x ∈ xs, x < n)
    (hval : xs.foldl (if u then hi else lo) (if u then bt else tp) = val) (q : ∀ H', Same H H' → Q (.int (val : Nat)) H') : spFoldI K C CP u vs H Q E := by
  rw [spFoldI_eq]
  have n60 := B.n60
  refine ⟨c, xs.map fun x => ((x : Nat) : Int), L, n, b, lo, hi, bt, tp, by rw [hv, List.map_map]; rfl, hB, B, e1, e2, by rw [List.length_map]; exact hl, fun i hi => ?_, fun ys hy _ => ?_, fun e he => ?_⟩
  · obtain ⟨x, h, rfl⟩ := List.mem_map.mp hi
    exact nat_big (Nat.lt_of_lt_of_le (hx x h) n60)
  · rw [← cast_inj hy, hval]
    exact q
  · rw [bad1_nats hx] at he; cases he
theorem bel_use {vs : List V} {x y : Nat} (hB : BAt K C H c L n b lo hi) (n60 : n ≤ 60) (hv : vs = [.ref c, .int (x : Nat), .int (y : Nat)]) (hx : x < n) (hy : y < n) (q : ∀ H', Same H H' → Q (.bl (b x y)) H') : spBelI K C CP vs H Q E := by
  rw [spBelI_eq]
  refine ⟨c, x, y, L, n, b, lo, hi, hv, hB, n60, nat_big (by omega), nat_big (by omega), fun x' y' h1 h2 _ _ => ?_, fun e he => ?_⟩
  · have h1 : x = x' := Int.ofNat.inj h1
    have h2 : y = y' := Int.ofNat.inj h2
    subst h1 h2
    exact q
  · have := bad1_nats (n := n) (xs := [x, y]) (by simp [hx, hy])
    rw [show ([(x : Int), (y : Int)] : List Int) = [x, y].map fun x => ((x : Nat) : Int) from rfl, this] at he
    cases he
end
theorem vlG_tnd {lo hi : Nat → Nat → Nat} {pl : Str → Nat} : ∀ (m : Nat) (d : PyData), 1 ≤ lmeas m d → vlG lo hi pl m (tnd m d) = vlG hi lo pl m d
  | 0, d, h => by simp only [lmeas] at h; omega
  | m + 1, d, h => by
    rcases lmeas_inv h with ⟨x, rfl, hl⟩ | ⟨o, ds, rfl, nl, ho, h2, all1, e⟩
    · rfl
    · match ds, h2, all1 with
      | d0 :: ds, h2, all1 =>
        have e1 : vlG lo hi pl (m + 1) (tnd (m + 1) (.tuple (.str o :: d0 :: ds))) = ((ds.map (tnd m)).map (vlG lo hi pl m)).foldl (if isBr (.str (opT o)) = true then hi else lo) (vlG lo hi pl m (tnd m d0)) := rfl
        have e2 : vlG hi lo pl (m + 1) (.tuple (.str o :: d0 :: ds)) = (ds.map (vlG hi lo pl m)).foldl (if isBr (.str o) = true then lo else hi) (vlG hi lo pl m d0) := rfl
        have e3 : (if isBr (.str (opT o)) = true then hi else lo) = (if isBr (.str o) = true then lo else hi) := by
          rcases ho with z | z <;> rw [z] <;> rfl
        have e4 : ds.map (vlG lo hi pl m ∘ tnd m) = ds.map (vlG hi lo pl m) := List.map_congr_left fun d' hd' => vlG_tnd m d' (all1 d' (List.mem_cons_of_mem _ hd'))
        rw [e1, e2, e3, List.map_map, vlG_tnd m d0 (all1 d0 List.mem_cons_self), e4]
theorem value_useG {K : PySem.W.Frag} {C CR c rd : Addr} {L : BL} {n : Nat} {b : Nat → Nat → Bool} {lo hi : Nat → Nat → Nat} {bt tp : Nat} {H : Hp} {v : V} {d : PyData} {ps : List (Str × Nat)} {Q : VK} {E : XK} (hB : BAt K C H c L n b lo hi) (B : Brd n b lo hi bt tp) (e1 : L.bt = bt) (e2 : L.tp = tp)
    (h1 : Dp K H v d) (t : Tk d) (lm : lmeas 9 d ≤ 100) (hk : ps.map (·.1) = abc) (hlt : ∀ p ∈ ps, p.2 < n) (hrd : H rd = some (.dK (kvI ps))) (good : ∀ H', Same H H' → Q (.int (vlG lo hi (plI ps) 9 d : Nat)) H') : spValB K C CR [.ref c, v, .ref rd] H Q E := by
  have vk : ∀ x ∈ abc, valV (kvI ps) (Sum.inr x) = some (.int (plI ps x : Nat)) ∧ plI ps x < n := fun x hx => by
    obtain ⟨a1, p, hp, a2⟩ := val_kvI ps x (by rw [hk]; exact hx)
    exact ⟨a1, by rw [a2]; exact hlt p hp⟩
  have hn : lackL n (fun x => some ((plI ps x : Nat) : Int)) [d] = none := by
    unfold lackL
    rw [List.find?_eq_none]
    intro x hx z
    rw [Bool.and_eq_true] at z
    have := plOk_of (vk x hx).2
    have z2 := z.2
    rw [show rdB n (some ((plI ps x : Nat) : Int)) = plOk n ((plI ps x : Nat) : Int) from rfl, this] at z2
    exact absurd z2 Bool.false_ne_true
  have ep : plR (fun x => some ((plI ps x : Nat) : Int)) = plI ps := by
    funext x
    unfold plR
    exact Int.toNat_natCast _
  have iT : isT d = true := by
    unfold isT
    rw [meas_some, decide_eq_true t.one, decide_eq_true t.top]
    rfl
  refine ⟨c, rd, v, d, 9, kvI ps, fun x => some ((plI ps x : Nat) : Int), L, n, b, lo, hi, bt, tp, rfl, hB, B, e1, e2, h1, t.gd, iT, by decide, t.one, lm, hrd, fun x hx => (vk x hx).1, fun _ H' s' => ?_, fun x e => by rw [hn] at e; cases e⟩
  rw [ep]
  exact good H' s'
theorem opT_opO {o : Str} (ho : o = "&" ∨ o = "|") : opT o = "&" ∨ opT o = "|" := by
  unfold opT
  split
  · exact .inr rfl
  · exact .inl rfl
theorem isOp_ofO {o : Str} (ho : o = "&" ∨ o = "|") : isOp (.str o) = true := by rcases ho with ho | ho <;> subst ho <;> decide +kernel
theorem lmeas_tndO : ∀ (n : Nat) (d : PyData), 1 ≤ lmeas n d → lmeas n (tnd n d) = lmeas n d
  | 0, d, h => by simp only [lmeas] at h; omega
  | n + 1, d, h => by
    rcases lmeas_inv h with ⟨x, rfl, hx⟩ | ⟨o, ds, rfl, _, ho, h2, all1, e⟩
    · rfl
    · rw [e]
      show lmeas (n + 1) (.tuple (.str (opT o) :: ds.map (tnd n))) = _
      refine lmeas_tup (isOp_ofO (opT_opO ho)) (by rw [List.length_map]; exact h2) (fun y hy => ?_) ?_
      · obtain ⟨d', hd', rfl⟩ := List.mem_map.mp hy
        rw [lmeas_tndO n d' (all1 d' hd')]
        exact all1 d' hd'
      · rw [List.map_map]
        exact congrArg List.sum (List.map_congr_left fun x hx => lmeas_tndO n x (all1 x hx))
theorem gd_tndO : ∀ (n m : Nat) (d : PyData), gd m d = true → 1 ≤ lmeas n d → gd m (tnd n d) = true
  | 0, _, d, _, h => by simp only [lmeas] at h; omega
  | n + 1, m, d, hg, h => by
    rcases lmeas_inv h with ⟨x, rfl, hx⟩ | ⟨o, ds, rfl, _, ho, h2, all1, e⟩
    · exact hg
    · cases m with
      | zero => simp [gd] at hg
      | succ m =>
        obtain ⟨hl, all⟩ := gd_tuple hg
        show gd (m + 1) (.tuple (.str (opT o) :: ds.map (tnd n))) = true
        refine gd_tup (fun y hy => ?_) (by simpa using hl)
        rcases List.mem_cons.mp hy with z | z
        · rw [z]
          refine gd_le (n := 0) ?_ (Nat.zero_le _)
          rcases ho with ho | ho <;> subst ho <;> decide +kernel
        · obtain ⟨d', hd', rfl⟩ := List.mem_map.mp z
          exact gd_tndO n m d' (all d' (List.mem_cons_of_mem _ hd')) (all1 d' hd')
theorem tk_tndO {d : PyData} (t : Tk d) : Tk (tnd 9 d) := ⟨by rw [lmeas_tndO 9 d t.one]; exact t.one, by rw [lmeas_tndO 9 d t.one]; exact t.top, gd_tndO 9 20 d t.gd t.one⟩
end FvO


namespace FvO
open PySem PySem.Spec PyProof.Rows L2 Fv FvW FvX FvD FvG TL
/-! The product of two boards: its order, its greatest below, its least above, when it spreads, what a term stands for. -/
def prB (m : Nat) (b1 b2 : Nat → Nat → Bool) : Nat → Nat → Bool := fun u v => b1 (u / m) (v / m) && b2 (u % m) (v % m)
def prL (m : Nat) (l1 l2 : Nat → Nat → Nat) : Nat → Nat → Nat := fun u v => l1 (u / m) (v / m) * m + l2 (u % m) (v % m)
theorem pr_div {m a c : Nat} (h : c < m) : (a * m + c) / m = a := by
  rw [Nat.add_comm, Nat.add_mul_div_right _ _ (Nat.lt_of_le_of_lt (Nat.zero_le _) h), Nat.div_eq_of_lt h, Nat.zero_add]
theorem pr_mod {m a c : Nat} (h : c < m) : (a * m + c) % m = c := by
  rw [Nat.add_comm, Nat.add_mul_mod_self_right, Nat.mod_eq_of_lt h]
theorem pr_lt {n m a c : Nat} (ha : a < n) (hc : c < m) : a * m + c < n * m := by
  have h1 : (a + 1) * m ≤ n * m := Nat.mul_le_mul_right m ha
  rw [Nat.add_mul, Nat.one_mul] at h1
  omega
theorem pr_q {n m u : Nat} (h : u < n * m) : u / m < n := Nat.div_lt_of_lt_mul (by rw [Nat.mul_comm]; exact h)
theorem pr_eq {m u v : Nat} (h1 : u / m = v / m) (h2 : u % m = v % m) : u = v := by
  rw [← Nat.div_add_mod u m, ← Nat.div_add_mod v m, h1, h2]
theorem pr_split {m u : Nat} : u / m * m + u % m = u := by rw [Nat.mul_comm]; exact Nat.div_add_mod u m
section
variable {n m bt1 tp1 bt2 tp2 : Nat} {b1 b2 : Nat → Nat → Bool} {l1 h1 l2 h2 : Nat → Nat → Nat}
theorem pr_brd (A : Brd n b1 l1 h1 bt1 tp1) (B : Brd m b2 l2 h2 bt2 tp2) (le : n * m ≤ 60) : Brd (n * m) (prB m b1 b2) (prL m l1 l2) (prL m h1 h2) (bt1 * m + bt2) (tp1 * m + tp2) := by
  have m0 : 0 < m := B.n1
  have r : ∀ u : Nat, u % m < m := fun u => Nat.mod_lt u m0
  have q : ∀ {u : Nat}, u < n * m → u / m < n := fun h => pr_q h
  refine ⟨Nat.mul_pos A.n1 m0, le, fun x hx => ?_, fun x y hx hy h h' => ?_, fun x y z hx hy hz h h' => ?_, fun x y hx hy => ?_, fun x y hx hy => ?_, ?_, ?_⟩
  · unfold prB; rw [A.rf _ (q hx), B.rf _ (r x)]; rfl
  · have a := Bool.and_eq_true_iff.mp h
    have a' := Bool.and_eq_true_iff.mp h'
    exact pr_eq (A.an _ _ (q hx) (q hy) a.1 a'.1) (B.an _ _ (r x) (r y) a.2 a'.2)
  · have a := Bool.and_eq_true_iff.mp h
    have a' := Bool.and_eq_true_iff.mp h'
    exact Bool.and_eq_true_iff.mpr ⟨A.tr _ _ _ (q hx) (q hy) (q hz) a.1 a'.1, B.tr _ _ _ (r x) (r y) (r z) a.2 a'.2⟩
  · obtain ⟨p1, p2⟩ := A.lo _ _ (q hx) (q hy)
    obtain ⟨s1, s2⟩ := B.lo _ _ (r x) (r y)
    refine ⟨pr_lt p1 s1, fun z hz => ?_⟩
    unfold prB prL
    rw [pr_div s1, pr_mod s1, p2 _ (q hz), s2 _ (r z)]
    cases b1 (z / m) (x / m) <;> cases b1 (z / m) (y / m) <;> cases b2 (z % m) (x % m) <;> cases b2 (z % m) (y % m) <;> rfl
  · obtain ⟨p1, p2⟩ := A.hi _ _ (q hx) (q hy)
    obtain ⟨s1, s2⟩ := B.hi _ _ (r x) (r y)
    refine ⟨pr_lt p1 s1, fun z hz => ?_⟩
    unfold prB prL
    rw [pr_div s1, pr_mod s1, p2 _ (q hz), s2 _ (r z)]
    cases b1 (x / m) (z / m) <;> cases b1 (y / m) (z / m) <;> cases b2 (x % m) (z % m) <;> cases b2 (y % m) (z % m) <;> rfl
  · refine ⟨pr_lt A.bt.1 B.bt.1, fun z hz => ?_⟩
    unfold prB
    rw [pr_div B.bt.1, pr_mod B.bt.1, A.bt.2 _ (q hz), B.bt.2 _ (r z)]
    rfl
  · refine ⟨pr_lt A.tp.1 B.tp.1, fun z hz => ?_⟩
    unfold prB
    rw [pr_div B.tp.1, pr_mod B.tp.1, A.tp.2 _ (q hz), B.tp.2 _ (r z)]
    rfl
/-- a product spreads when both its parts do -/
theorem pr_spr (A : Brd n b1 l1 h1 bt1 tp1) (B : Brd m b2 l2 h2 bt2 tp2) : SprB (n * m) (prL m l1 l2) (prL m h1 h2) ↔ SprB n l1 h1 ∧ SprB m l2 h2 := by
  have m0 : 0 < m := B.n1
  have r : ∀ u : Nat, u % m < m := fun u => Nat.mod_lt u m0
  have q : ∀ {u : Nat}, u < n * m → u / m < n := fun h => pr_q h
  have L : ∀ {x y : Nat}, x < n * m → y < n * m → prL m l1 l2 x y / m = l1 (x / m) (y / m) ∧ prL m l1 l2 x y % m = l2 (x % m) (y % m) := fun {x y} hx hy => by
    have s : l2 (x % m) (y % m) < m := (B.lo _ _ (r x) (r y)).1
    exact ⟨pr_div s, pr_mod s⟩
  have Hh : ∀ {x y : Nat}, x < n * m → y < n * m → prL m h1 h2 x y / m = h1 (x / m) (y / m) ∧ prL m h1 h2 x y % m = h2 (x % m) (y % m) := fun {x y} hx hy => by
    have s : h2 (x % m) (y % m) < m := (B.hi _ _ (r x) (r y)).1
    exact ⟨pr_div s, pr_mod s⟩
  have lL : ∀ {x y : Nat}, x < n * m → y < n * m → prL m l1 l2 x y < n * m := fun {x y} hx hy => pr_lt (A.lo _ _ (q hx) (q hy)).1 (B.lo _ _ (r x) (r y)).1
  have lH : ∀ {x y : Nat}, x < n * m → y < n * m → prL m h1 h2 x y < n * m := fun {x y} hx hy => pr_lt (A.hi _ _ (q hx) (q hy)).1 (B.hi _ _ (r x) (r y)).1
  constructor
  · intro S
    refine ⟨fun x hx y hy z hz => ?_, fun x hx y hy z hz => ?_⟩
    · have k : ∀ {a : Nat}, a < n → a * m + bt2 < n * m := fun h => pr_lt h B.bt.1
      have e := congrArg (· / m) (S _ (k hx) _ (k hy) _ (k hz))
      rw [(L (k hx) (lH (k hy) (k hz))).1, (Hh (k hy) (k hz)).1, (Hh (lL (k hx) (k hy)) (lL (k hx) (k hz))).1, (L (k hx) (k hy)).1, (L (k hx) (k hz)).1, pr_div B.bt.1, pr_div B.bt.1, pr_div B.bt.1] at e
      exact e
    · have k : ∀ {a : Nat}, a < m → bt1 * m + a < n * m := fun h => pr_lt A.bt.1 h
      have e := congrArg (· % m) (S _ (k hx) _ (k hy) _ (k hz))
      rw [(L (k hx) (lH (k hy) (k hz))).2, (Hh (k hy) (k hz)).2, (Hh (lL (k hx) (k hy)) (lL (k hx) (k hz))).2, (L (k hx) (k hy)).2, (L (k hx) (k hz)).2, pr_mod hx, pr_mod hy, pr_mod hz] at e
      exact e
  · rintro ⟨S1, S2⟩ x hx y hy z hz
    refine pr_eq (m := m) ?_ ?_
    · rw [(L hx (lH hy hz)).1, (Hh hy hz).1, (Hh (lL hx hy) (lL hx hz)).1, (L hx hy).1, (L hx hz).1]
      exact S1 _ (q hx) _ (q hy) _ (q hz)
    · rw [(L hx (lH hy hz)).2, (Hh hy hz).2, (Hh (lL hx hy) (lL hx hz)).2, (L hx hy).2, (L hx hz).2]
      exact S2 _ (r x) _ (r y) _ (r z)
theorem pr_fold (A : Brd n b1 l1 h1 bt1 tp1) (B : Brd m b2 l2 h2 bt2 tp2) (u : Bool) : ∀ (xs : List Nat) (a c : Nat), a < n → c < m → (∀ x ∈ xs, x < n * m) →
    xs.foldl (if u = true then prL m h1 h2 else prL m l1 l2) (a * m + c) = (xs.map (· / m)).foldl (if u = true then h1 else l1) a * m + (xs.map (· % m)).foldl (if u = true then h2 else l2) c
  | [], a, c, _, _, _ => rfl
  | x :: xs, a, c, ha, hc, hx => by
    have m0 : 0 < m := B.n1
    have qx : x / m < n := pr_q (hx x List.mem_cons_self)
    have rx : x % m < m := Nat.mod_lt x m0
    have hx' : ∀ y ∈ xs, y < n * m := fun y hy => hx y (List.mem_cons_of_mem _ hy)
    cases u
    · have e : (if false = true then prL m h1 h2 else prL m l1 l2) (a * m + c) x = l1 a (x / m) * m + l2 c (x % m) := by
        show prL m l1 l2 (a * m + c) x = _
        unfold prL
        rw [pr_div hc, pr_mod hc]
      rw [List.foldl_cons, e, pr_fold A B false xs _ _ (A.lo _ _ ha qx).1 (B.lo _ _ hc rx).1 hx']
      rfl
    · have e : (if true = true then prL m h1 h2 else prL m l1 l2) (a * m + c) x = h1 a (x / m) * m + h2 c (x % m) := by
        show prL m h1 h2 (a * m + c) x = _
        unfold prL
        rw [pr_div hc, pr_mod hc]
      rw [List.foldl_cons, e, pr_fold A B true xs _ _ (A.hi _ _ ha qx).1 (B.hi _ _ hc rx).1 hx']
      rfl
/-- what a term stands for on a product, by its parts -/
theorem vlG_pr (A : Brd n b1 l1 h1 bt1 tp1) (B : Brd m b2 l2 h2 bt2 tp2) {pl : Str → Nat} (hp : ∀ x, isL x = true → pl x < n * m) : ∀ (k : Nat) (d : PyData), 1 ≤ lmeas k d →
    vlG (prL m l1 l2) (prL m h1 h2) pl k d = vlG l1 h1 (fun x => pl x / m) k d * m + vlG l2 h2 (fun x => pl x % m) k d
    ∧ vlG l1 h1 (fun x => pl x / m) k d < n ∧ vlG l2 h2 (fun x => pl x % m) k d < m
  | 0, d, h => by simp only [lmeas] at h; omega
  | k + 1, d, h => by
    have m0 : 0 < m := B.n1
    rcases lmeas_inv h with ⟨x, rfl, hl⟩ | ⟨o, ds, rfl, nl, ho, h2', all1, e⟩
    · exact ⟨pr_split.symm, pr_q (hp x hl), Nat.mod_lt _ m0⟩
    · match ds, h2', all1 with
      | d0 :: ds, h2', all1 =>
        have i0 := vlG_pr A B hp k d0 (all1 d0 List.mem_cons_self)
        have ii := fun d' (hd' : d' ∈ ds) => vlG_pr A B hp k d' (all1 d' (List.mem_cons_of_mem _ hd'))
        have e1 : vlG (prL m l1 l2) (prL m h1 h2) pl (k + 1) (.tuple (.str o :: d0 :: ds)) = (ds.map (vlG (prL m l1 l2) (prL m h1 h2) pl k)).foldl (if isBr (.str o) = true then prL m h1 h2 else prL m l1 l2) (vlG (prL m l1 l2) (prL m h1 h2) pl k d0) := rfl
        have e2 : vlG l1 h1 (fun x => pl x / m) (k + 1) (.tuple (.str o :: d0 :: ds)) = (ds.map (vlG l1 h1 (fun x => pl x / m) k)).foldl (if isBr (.str o) = true then h1 else l1) (vlG l1 h1 (fun x => pl x / m) k d0) := rfl
        have e3 : vlG l2 h2 (fun x => pl x % m) (k + 1) (.tuple (.str o :: d0 :: ds)) = (ds.map (vlG l2 h2 (fun x => pl x % m) k)).foldl (if isBr (.str o) = true then h2 else l2) (vlG l2 h2 (fun x => pl x % m) k d0) := rfl
        have lt : ∀ y ∈ ds.map (vlG (prL m l1 l2) (prL m h1 h2) pl k), y < n * m := fun y hy => by
          obtain ⟨d', hd', rfl⟩ := List.mem_map.mp hy
          rw [(ii d' hd').1]
          exact pr_lt (ii d' hd').2.1 (ii d' hd').2.2
        have f1 : (ds.map (vlG (prL m l1 l2) (prL m h1 h2) pl k)).map (· / m) = ds.map (vlG l1 h1 (fun x => pl x / m) k) := by
          rw [List.map_map]
          refine List.map_congr_left fun d' hd' => ?_
          show vlG (prL m l1 l2) (prL m h1 h2) pl k d' / m = _
          rw [(ii d' hd').1, pr_div (ii d' hd').2.2]
        have f2 : (ds.map (vlG (prL m l1 l2) (prL m h1 h2) pl k)).map (· % m) = ds.map (vlG l2 h2 (fun x => pl x % m) k) := by
          rw [List.map_map]
          refine List.map_congr_left fun d' hd' => ?_
          show vlG (prL m l1 l2) (prL m h1 h2) pl k d' % m = _
          rw [(ii d' hd').1, pr_mod (ii d' hd').2.2]
        refine ⟨?_, ?_, ?_⟩
        · rw [e1, e2, e3, i0.1, pr_fold A B _ _ _ _ i0.2.1 i0.2.2 lt, f1, f2]
        · rw [e2]
          exact foldB_lt A _ _ _ i0.2.1 fun y hy => by
            obtain ⟨d', hd', rfl⟩ := List.mem_map.mp hy
            exact (ii d' hd').2.1
        · rw [e3]
          exact foldB_lt B _ _ _ i0.2.2 fun y hy => by
            obtain ⟨d', hd', rfl⟩ := List.mem_map.mp hy
            exact (ii d' hd').2.2
end
end FvO


namespace FvO
open PySem PySem.Spec PyProof.Rows L2 Fv FvW FvX FvD FvG TL
/-! The rows of a product, as its program makes them. -/
theorem join_flat : ∀ ls : List (List Nat), Txt.join "" (ls.map mk) = mk ls.flatten := fun ls => by
  refine ext_tl ?_
  rw [join_eq, tl_join, List.map_map]
  have e : ∀ ls : List (List Nat), joinL (tl "") (ls.map (tl ∘ mk)) = ls.flatten := fun ls => by
    induction ls with
    | nil => rfl
    | cons c l ih =>
      cases l with
      | nil => exact (List.append_nil c).symm
      | cons c2 l =>
        show c ++ (tl "" ++ joinL (tl "") ((c2 :: l).map (tl ∘ mk))) = _
        rw [ih]
        rfl
  exact e ls
theorem flat_pr {α : Type} (n m : Nat) (g : Nat → Nat → α) (hm : 0 < m) : ((List.range n).map fun x => (List.range m).map fun y => g x y).flatten = (List.range (n * m)).map fun v => g (v / m) (v % m) := by
  induction n with
  | zero => rw [Nat.zero_mul]; rfl
  | succ n ih =>
    rw [List.range_succ, List.map_append, List.flatten_append, ih, Nat.succ_mul, List.range_add, List.map_append, List.map_map]
    congr 1
    show ((List.range m).map fun y => g n y) ++ [] = _
    rw [List.append_nil]
    refine List.map_congr_left fun y hy => ?_
    have hy := List.mem_range.mp hy
    show g n y = g ((n * m + y) / m) ((n * m + y) % m)
    rw [pr_div hy, pr_mod hy]
theorem blank_row (m : Nat) : mulS "0" m = rowF m fun _ => false := by
  rw [rep_mk 48 "0" rfl]
  unfold rowF
  congr 1
  refine List.ext_getElem (by simp) fun i h1 h2 => ?_
  rw [List.getElem_map, List.getElem_replicate]
  rfl
/-- one row of a product: its part for each digit, put together -/
theorem row_pr (n m : Nat) (f g : Nat → Bool) (hm : 0 < m) : Txt.join "" ((List.range n).map fun x => if f x = true then rowF m g else mulS "0" m) = rowF (n * m) fun v => f (v / m) && g (v % m) := by
  have e : ((List.range n).map fun x => if f x = true then rowF m g else mulS "0" m) = ((List.range n).map fun x => (List.range m).map fun y => chB (f x && g y)).map mk := by
    rw [List.map_map]
    refine List.map_congr_left fun x _ => ?_
    show _ = rowF m fun y => f x && g y
    cases f x with
    | true => rfl
    | false => exact blank_row m
  rw [e, join_flat, flat_pr n m _ hm]
  rfl
theorem pr_range (n m : Nat) (hm : 0 < m) (f : Nat → Nat → Str) : ((List.range n).map fun i => (List.range m).map fun j => f i j).flatten = (List.range (n * m)).map fun u => f (u / m) (u % m) := flat_pr n m f hm
end FvO


namespace FvO
open PySem PySem.Spec PyProof.Rows L2 Fv FvW FvX TL
open FvK (pe_fldK)
open ClX (CRead CVal pe_cval)
-- top 27  slots: 0:self 1:other 2:blank 3:rows 4:line 5:inner 6:digit
abbrev s_product__of__Board : Stmt := inClass (topS 27) 19
abbrev N_product__of__Board : List Str := ["self", "other", "blank", "rows", "line", "inner", "digit"]
theorem sc_product__of__Board : FnScope N_product__of__Board ["self", "other"] (defScope s_product__of__Board) := ⟨rfl, rfl, rfl, by decide +kernel, rfl, by decide +kernel, by decide +kernel⟩

def spProd (K : PySem.W.Frag) (C CT : Addr) : Sp := fun vs H Q E => ∃ (M : List Addr) (c c2 : Addr) (La Lb : BL) (n m : Nat) (b1 b2 : Nat → Nat → Bool) (l1 h1 l2 h2 : Nat → Nat → Nat) (bt1 tp1 bt2 tp2 : Nat), vs = [.ref c, .ref c2] ∧ Trk M H ∧
  BAt K C H c La n b1 l1 h1 ∧ Brd n b1 l1 h1 bt1 tp1 ∧ BAt K C H c2 Lb m b2 l2 h2 ∧ Brd m b2 l2 h2 bt2 tp2 ∧
  (n * m ≤ 60 → newB K C M (n * m) (prB m b1 b2) (prL m l1 l2) (prL m h1 h2) (bt1 * m + bt2) (tp1 * m + tp2) H Q) ∧ (60 < n * m → errF CT "TooManyPlaces" "limit" (.int 60) H E)
theorem sum_rep (m : Nat) : ∀ k : Nat, (List.replicate k m).sum = k * m
  | 0 => by rw [Nat.zero_mul]; rfl
  | k + 1 => by rw [List.replicate_succ, List.sum_cons, sum_rep m k, Nat.succ_mul, Nat.add_comm]
section
variable {P : Program} {w : World} {K : PySem.W.Frag} {mg : Str → Option Value} {base : Heap} {C : Addr}
theorem ok_prod {CT fT : Addr} {qual : Str} {q : ErrPos1} {me : Expr} {j2 : Nat} {f : Addr} {fd : FuncData} {k : Nat} (F : Fun K "product" "Board.product" s_product__of__Board f fd) (T : TxB K C) (TM : TxM K C) (g_Board : mg "Board" = some (.ref C)) (m_len : mg "len" = none) (hk : 5 ≤ k)
    (T_TP : ErrC1 P.main.file K CT fT qual q me "TooManyPlaces" "limit" j2) (hline : LineOk1 q me) (hargs : ArgsOk me) (hme : ∀ u, MsgV u → MsgOk me "limit" u) (htop : (P.main.scope.names.lookup ("super" : Str)).isSome = false) (m_super : mg "super" = none) (g_TP : mg "TooManyPlaces" = some (.ref CT))
    (Mk_Board : C8.Mak P w K mg base 4 "Board" C (spBIn K C) []) :
    FnOk P w K mg base (L2.CX P w) (k + 1) f fd ["self", "other"] (spProd K C CT) := by
  refine F.okX sc_product__of__Board (fun vs H Q E h => ?_) (fun cdv A outer s H vs Q E hr h => ?_)
  · obtain ⟨M, c, c2, La, Lb, n, m, b1, b2, l1, h1, l2, h2, bt1, tp1, bt2, tp2, rfl, _⟩ := h
    rfl
  · obtain ⟨M, c, c2, La, Lb, n, m, b1, b2, l1, h1, l2, h2, bt1, tp1, bt2, tp2, rfl, tM, hA, BA, hB, BB, good, bad⟩ := h
    refine ⟨_, (pss_cons (ps_if (pt_cmpR op_gt (pe_op op_mul (pe_callB call_len_seq (by rfl) m_len (by decide +kernel) (pa_cons (pe_fldK (K := K) rfl (pv 0) rfl) pa_nil)) (pe_callB call_len_seq (by rfl) m_len (by decide +kernel) (pa_cons (pe_fldK (K := K) rfl (pv 1) rfl) pa_nil))) (pe_cval (pe_glob (v := .ref C) (by rfl) g_Board rfl)) (nomark _))
        (pss_one (ps_raise rfl (takes_of rfl rfl rfl rfl) (pmk_err1 (k := 0) (by decide +kernel) T_TP hline hargs hme htop m_super (hr.mono (by omega)) (by rfl) g_TP (pa_cons (pe_cval (pe_glob (v := .ref C) (by rfl) g_Board rfl)) pa_nil))))
        pss_nil)
      (pss_cons (ps_set (i := 2) sc_product__of__Board.nd rfl (by first | exact .inl rfl | exact .inr rfl) (pe_op op_mulG pe_str (pe_callB call_len_seq (by rfl) m_len (by decide +kernel) (pa_cons (pe_fldK (K := K) rfl (pv 1) rfl) pa_nil))))
      (pss_cons (ps_set (i := 3) sc_product__of__Board.nd rfl (by first | exact .inl rfl | exact .inr rfl) (pe_lst pa_nil))
      (pss_cons (ps_for (passes_of rfl) rfl (pi_list (pe_fldK (K := K) rfl (pv 0) rfl)) (pg_name (i := 4) sc_product__of__Board.nd rfl (by first | exact .inl rfl | exact .inr rfl))
        (pss_one (ps_for (passes_of rfl) rfl (pi_list (pe_fldK (K := K) rfl (pv 1) rfl)) (pg_name (i := 5) sc_product__of__Board.nd rfl (by first | exact .inl rfl | exact .inr rfl))
          (pss_one (ps_expr (pe_bm PySem.F.plainAttrs_list PySem.F.slot_list_append PySem.F.type_list_append mt_append (pv 3) (pa_cons (pe_joinK (K := K) rfl pe_str (pe_lc (own := [("digit", 6)]) (g := gName 6) (by rfl) sc_product__of__Board.nd (pi_str (pv 4)) (blkOk_by (own := [("digit", 6)]) (N := N_product__of__Board) (sc := defScope s_product__of__Board) (by decide +kernel)) (fun _ _ _ _ _ => pg_name (i := 6) sc_product__of__Board.nd rfl (Or.inl rfl)) (fun _ _ _ _ _ => pts_nil) (fun _ _ _ _ _ => (pe_ifExp (pt_cmpR op_eq (pv 6) pe_str (nomark _)) (pv 5) (pv 2))))) pa_nil)))))))
      (pss_one (ps_ret (C8.pe_mk Mk_Board hr (by omega) (by rfl) (pa_cons (pv 3) pa_nil)))))))), ?_⟩
    obtain ⟨mc, u, cr, cv⟩ := TM.ex
    obtain ⟨d1, o1⟩ := hA.ob
    obtain ⟨d2, o2⟩ := hB.ob
    refine ⟨_, rfl, _, C, d1, _, _, rfl, o1, T.cl, T.n1, rfl, La.ln, _, rfl, .inl (SqL.of hA.ln), ?_⟩
    refine ⟨_, rfl, _, C, d2, _, _, rfl, o2, T.cl, T.n1, rfl, Lb.ln, _, rfl, .inl (SqL.of hB.ln), _, _, rfl, rfl, ?_, ?_⟩
    · have := BA.n60
      rw [rows_lenF, rows_lenF]
      exact .inl ⟨by omega, by omega⟩
    dsimp only
    rw [rows_lenF, rows_lenF]
    refine ⟨C, mc, .int 60, u, rfl, cr, cv, _, _, rfl, rfl, _, rfl, ?_⟩
    by_cases big : 60 < n * m
    · rw [decide_eq_true (by omega)]
      exact iteT ⟨C, mc, .int 60, u, rfl, cr, cv, _, rfl, .inr ⟨60, rfl, by decide⟩, fun dd nd => bad big _ dd (same_upd nd) upd_same⟩
    rw [decide_eq_false (by omega)]
    have good := good (by omega)
    have m60 := BB.n60
    refine iteF ⟨_, rfl, _, C, d2, _, _, rfl, o2, T.cl, T.n1, rfl, Lb.ln, _, rfl, .inl (SqL.of hB.ln), "0", m, rfl, congrArg (fun z : Nat => V.int (z : Nat)) (rows_lenF _ _), by omega, by decide, by decide, ?_⟩
    refine ⟨(by show 0 ≤ sizeLine; decide), fun p np => ?_⟩
    have sp := same_upd (o := .lst []) np
    have hp : upd H p (.lst []) p = some (.lst []) := upd_same
    have pM : p ∉ M := tM.ne np
    generalize upd H p (.lst []) = H1 at sp hp
    have lA := sp _ _ hA.ln
    have lB := sp _ _ hB.ln
    have o2H := o2
    have o1 := sp _ _ o1
    have o2 := sp _ _ o2
    have lnp : La.ln ≠ p := ne_of_none hA.ln np
    have lbp : Lb.ln ≠ p := ne_of_none hB.ln np
    let rw1 : Nat → Nat → Str := fun a e => rowF (n * m) (prB m b1 b2 (a * m + e))
    refine ⟨_, rfl, _, C, d1, _, _, rfl, o1, T.cl, T.n1, rfl, La.ln, rfl, ⟨_, SqL.of lA⟩, for_list (xs := (rowsF n b1).map V.str) (fun i σ H' => ∃ y4 y5 : Option V, σ = [some (.ref c), some (.ref c2), some (.str (mulS "0" m)), some (.ref p), y4, y5, none] ∧ SmX [p] H1 H' ∧ H' p = some (.lst ((((List.range i).map fun a => (List.range m).map fun e => rw1 a e).flatten).map V.str))) ?_ ?_ ?_ ?_⟩
    · exact ⟨_, _, rfl, SmX.of_same (Same.refl _), hp⟩
    · rintro i σ H' _ ⟨y4, y5, rfl, sm, hp'⟩
      exact SqL.of (sm _ _ (fun z => lnp (List.mem_singleton.mp z)) lA)
    · rintro i x σ H' hx ⟨y4, y5, rfl, sm, hp'⟩
      obtain ⟨il, rfl⟩ := rows_get hx
      have o2' := sm _ _ (fun z => ne_of_none (o2H) np (List.mem_singleton.mp z)) o2
      have lB' := sm _ _ (fun z => lbp (List.mem_singleton.mp z)) lB
      refine ⟨_, rfl, _, C, d2, _, _, rfl, o2', T.cl, T.n1, rfl, Lb.ln, rfl, ⟨_, SqL.of lB'⟩, for_list (xs := (rowsF m b2).map V.str) (fun e σ H2 => ∃ y5 : Option V, σ = [some (.ref c), some (.ref c2), some (.str (mulS "0" m)), some (.ref p), some (.str (rowF n (b1 i))), y5, none] ∧ SmX [p] H1 H2 ∧ H2 p = some (.lst (((((List.range i).map fun a => (List.range m).map fun e => rw1 a e).flatten) ++ (List.range e).map fun e => rw1 i e).map V.str))) ?_ ?_ ?_ ?_⟩
      · exact ⟨_, rfl, sm, by rw [hp']; simp⟩
      · rintro e σ H2 _ ⟨y5, rfl, sm2, hp2⟩
        exact SqL.of (sm2 _ _ (fun z => lbp (List.mem_singleton.mp z)) lB)
      · rintro e x2 σ H2 hx2 ⟨y5, rfl, sm2, hp2⟩
        obtain ⟨el, rfl⟩ := rows_get hx2
        refine ⟨_, rfl, .inl ⟨rfl, _, SqL.of hp2⟩, ⟨_, rfl⟩, _, rfl, _, rfl, fun D nD => lc_it (walk_str (z := rowF n (b1 i))) (fun x H3 => Same H2 H3 ∧ H3 D = some (.lst (((List.range x).map fun x => if b1 i x = true then rowF m (b2 e) else mulS "0" m).map V.str))) ?_ ?_ ?_ ?_⟩
        · exact ⟨same_upd nD, upd_same⟩
        · exact fun _ _ _ _ => trivial
        · rintro x y H4 H3 hi ⟨sm3, hD⟩ ⟨rfl, c0, hc, rfl⟩
          obtain ⟨xl, rfl⟩ : x < n ∧ c0 = chB (b1 i x) := by
            rw [← Array.getElem?_toList, rowF_cps, List.getElem?_map] at hc
            obtain ⟨z, hz, rfl⟩ := Option.map_eq_some_iff.mp hc
            rw [List.getElem?_eq_some_iff] at hz
            obtain ⟨hz, e⟩ := hz
            rw [List.length_range] at hz
            rw [List.getElem_range] at e
            exact ⟨hz, by rw [e]⟩
          have fin : ∀ (y : Str), y = (if b1 i x = true then rowF m (b2 e) else mulS "0" m) → ∃ acc, H3 D = some (.lst acc) ∧ acc.length < sizeLine ∧ (Same H2 (upd H3 D (.lst (acc ++ [V.str y]))) ∧ upd H3 D (.lst (acc ++ [V.str y])) D = some (.lst (((List.range (x + 1)).map fun x => if b1 i x = true then rowF m (b2 e) else mulS "0" m).map V.str))) := fun y hy => by
            refine ⟨_, hD, small1000 (by rw [List.length_map, List.length_map, List.length_range]; have := BA.n60; omega), fun c o e => ?_, ?_⟩
            · rw [upd_ne (ne_of_none e nD)]; exact sm3 _ _ e
            · rw [upd_same, List.range_succ, List.map_append, List.map_append, hy]; rfl
          have ed : decide (V.str (⟨#[chB (b1 i x)]⟩ : Str) = V.str "1") = b1 i x := one_dec _
          refine ⟨rfl, yes_it ⟨_, rfl, rfl, _, rfl, ?_⟩⟩
          dsimp only
          rw [ed]
          cases hb : b1 i x with
          | true => exact iteT ⟨_, rfl, fin _ (by rw [if_pos hb])⟩
          | false => exact iteF ⟨_, rfl, fin _ (by rw [hb]; rfl)⟩
        · rintro H3 ⟨sm3, hD⟩
          have hsz : (rowF n (b1 i)).cps.size = n := rowF_len n _
          rw [hsz] at hD
          have ll : ((List.range n).map fun x => if b1 i x = true then rowF m (b2 e) else mulS "0" m).map (·.length) = List.replicate n m := by
            rw [List.map_map]
            refine List.ext_getElem (by simp) fun x z1 z2 => ?_
            rw [List.getElem_map, List.getElem_replicate]
            show (if b1 i _ = true then rowF m (b2 e) else mulS "0" m).length = m
            split
            · exact rowF_len _ _
            · rw [blank_row]; exact rowF_len _ _
          have lt := pr_lt il el
          refine ⟨"", D, _, rfl, rfl, .inl (SqL.of hD), ?_, p, _, _, rfl, rfl, sm3 _ _ hp2, small1000 ?_, _, rfl, fun b o nb z => ?_, ?_⟩
          · rw [ll, sum_rep]
            show n * m + _ * 0 ≤ 16777216
            omega
          · rw [List.length_map, List.length_append, flat_pr i m _ BB.n1, List.length_map, List.length_range, List.length_map, List.length_range]
            omega
          · rw [upd_ne (fun y => nb (List.mem_singleton.mpr y))]
            exact sm3 _ _ (sm2 _ _ nb z)
          · rw [upd_same, row_pr n m (b1 i) (b2 e) BB.n1, List.range_succ, List.map_append (f := fun e => rw1 i e), ← List.append_assoc, List.map_append (f := V.str)]
            have er : (rowF (n * m) fun v => b1 i (v / m) && b2 e (v % m)) = rw1 i e := by
              show _ = rowF (n * m) fun v => b1 ((i * m + e) / m) (v / m) && b2 ((i * m + e) % m) (v % m)
              rw [pr_div el, pr_mod el]
            rw [er]
            simp only [List.map_append]
            rfl
      · rintro σ H2 ⟨y5, rfl, sm2, hp2⟩
        refine ⟨_, _, rfl, sm2, ?_⟩
        have e1 : ((List.range (i + 1)).map fun a => (List.range m).map fun e => rw1 a e).flatten = ((List.range i).map fun a => (List.range m).map fun e => rw1 a e).flatten ++ (List.range m).map fun e => rw1 i e := by
          rw [List.range_succ, List.map_append, List.flatten_append]
          simp
        rw [hp2, rows_lenF, e1]
    · rintro σ H' ⟨y4, y5, rfl, sm, hp'⟩
      rw [rows_lenF, pr_range n m BB.n1] at hp'
      have er : ((List.range (n * m)).map fun u => rw1 (u / m) (u % m)) = rowsF (n * m) (prB m b1 b2) := by
        unfold rowsF
        refine List.map_congr_left fun u _ => ?_
        show rowF (n * m) (prB m b1 b2 (u / m * m + u % m)) = _
        rw [pr_split]
      rw [er] at hp'
      refine ⟨_, rfl, fun x d3 nx nd nxd => ?_⟩
      have s0 : Same H H' := fun b o e => sm b o (fun z => ne_of_none e np (List.mem_singleton.mp z)) (sp b o e)
      have tM1 := tM.same s0
      have xM : x ∉ M := tM1.ne nx
      have px : p ≠ x := ne_of_none hp' nx
      have sA := same_upd (o := .own x) nd
      have nx' : upd H' d3 (.own x) x = none := by rw [upd_ne (Ne.symm nxd)]; exact nx
      have sB := sA.trans (same_upd (o := .ins C d3 []) nx')
      have hpB := sB _ _ hp'
      have hxB : upd (upd H' d3 (.own x)) x (.ins C d3 []) x = some (.ins C d3 []) := upd_same
      generalize upd (upd H' d3 (.own x)) x (.ins C d3 []) = HB at sB hpB hxB
      refine ⟨M, x, p, d3, n * m, _, _, _, _, _, rfl, tM1.same sB, xM, hxB, SqL.of (by rw [hide_ne (fun z => (List.mem_cons.mp z).elim px pM)]; exact hpB), pr_brd BA BB (by omega), fun H2 Lc smx hB2 e1 e2 => ?_⟩
      exact ⟨rfl, good H2 x Lc (s0.trans fun b o e => smx b o (fun z => ne_of_none e nx (List.mem_singleton.mp z)) (sB b o e)) (none_backO s0 nx) hB2 e1 e2⟩
end
end FvO


/-! name = {k: v for ..} on one line, the name a local -/
namespace Fv
open PySem PySem.Spec PyProof.Rows L2
theorem ps_setDc {X : Cx} {i : Nat} {y : Str} {py : Pos} {kx vx tg iter : Expr} {ifs : List Expr} {scope : Scope} {own : List (Str × Nat)} {pos spos : Pos} {wi : TI} {g : TG} {tt : TT} {tk tv : TE} (hc : X.calm = true) (hN : X.N.Nodup) (hy : X.N[i]? = some y) (hyl : X.env.scope.names.lookup y = some .local)
    (hsw : swapsWith (.DictComp kx vx [⟨tg, iter, ifs, 0⟩] scope pos) (some (.Name y py)) spos.line X.env = pure true) (hi : PI X tg iter wi) (ok : BlkOk X.N X.env.scope scope own)
    (hg : ∀ (s : Shared) (H : Hp) (C : Addr) (cl : List (Str × Addr)) (fp : List Addr), PG (X.blk s H scope (compEnvC scope cl C X.env) fp) tg g) (ht : ∀ (s : Shared) (H : Hp) (C : Addr) (cl : List (Str × Addr)) (fp : List Addr), PTs (X.blk s H scope (compEnvC scope cl C X.env) fp) ifs tt)
    (hk : ∀ (s : Shared) (H : Hp) (C : Addr) (cl : List (Str × Addr)) (fp : List Addr), PE (X.blk s H scope (compEnvC scope cl C X.env) fp) kx tk)
    (he : ∀ (s : Shared) (H : Hp) (C : Addr) (cl : List (Str × Addr)) (fp : List Addr), PE (X.blk s H scope (compEnvC scope cl C X.env) fp) vx tv) (hs : ∀ x, foldedSetIterable iter X.env x = pure x := by intro _; rfl) :
    PS X (.Assign [.Name y py] (.DictComp kx vx [⟨tg, iter, ifs, 0⟩] scope pos) spos) (tAsg (tDc wi g tt tk tv (own.map (·.2))) (gName i)) := by
  refine ⟨fun pins s σ H D I h => ?_⟩
  rw [exec_Assign_Name_used _ _ _ _ hsw]
  refine wpAny_bind (wpAny_standAt (wpAny_bind ?_))
  show wpAny _ X.A (do let _ ← comprehension (.DictComp kx vx [⟨tg, iter, ifs, 0⟩] scope pos) scope X.env (firstIterPos [⟨tg, iter, ifs, 0⟩] pos) newDict false (eval iter X.env) (some (assign (.Name y py) X.env))) _ _ s
  have h : tDc wi g tt tk tv (own.map (·.2)) σ H (fun x H1 => gName i x σ H1 D.nx) := h
  refine wpAny_bind (thn (dc_core (Qf := fun _ s' => SP X pins D .next s') hc hN I hi ok hg ht hk he hs h fun L C s' m H' I' q hn f => ?_) fun _ s' hq => wpAny_pure (wpAny_pure hq))
  show wpAny _ _ (assign (.Name y py) X.env (.ref L)) _ _ _
  refine wpAny_assign_Name (store_ok2 (v := V.ref L) I' hN hy (.inl hyl) rfl (fun s2 I2 ⟨a, sb, ha⟩ => ?_) (.inr hyl))
  obtain ⟨f0, f1, f2, f3, f4, f5⟩ := f
  have haC : C ≠ a := by
    rcases ha with z | z
    · rw [z]; exact f1
    · exact fun e => f4 y a z e.symm
  refine ⟨m, hn.sameBut sb haC, fun h3 sb3 => ?_⟩
  exact ⟨_, H', I2.turned (t' := s2.toks) (fun b o hb e => (sb3.2 b hb).trans e) f0 f1 f3 f4 f5, q⟩
theorem sw_trueD {kx vx : Expr} {gs : List Comprehension} {scope : Scope} {pos py : Pos} {y : Str} {l : Nat} {env : Env} (hk : env.scope.kind = .function) (hy : env.scope.names.lookup y = some .local) (hl : (py.line == pos.line) = true)
    (ha : (scope.names.any fun (n, k) => n == y && (k == .local || k == .cell)) = false) : swapsWith (.DictComp kx vx gs scope pos) (some (.Name y py)) l env = pure true := by
  have ky : env.kindOf y = some .local := hy
  have hb : env.blockKind = .function := by unfold Env.blockKind; rw [hk]; rfl
  unfold swapsWith
  simp only [hb, ky, ha, Expr.pos, hl]
  rfl
end Fv


/-! Board.spreads -/
namespace FvO
open PySem PySem.Spec PyProof.Rows L2 Fv FvW FvX TL
open FvK (pe_fldK)
-- top 27  slots: 0:self 1:masks 2:mask 3:whole 4:at
abbrev s_spreads__of__Board : Stmt := inClass (topS 27) 17
abbrev N_spreads__of__Board : List Str := ["self", "masks", "mask", "whole", "at"]
theorem sc_spreads__of__Board : FnScope N_spreads__of__Board ["self"] (defScope s_spreads__of__Board) := ⟨rfl, rfl, rfl, by decide +kernel, rfl, by decide +kernel, by decide +kernel⟩

theorem dc_list {K : PySem.W.Frag} {a : Addr} {xs : List V} {g : TG} {tt : TT} {tk tv : TE} {vs : List Nat} {σ : L2.St} {H1 : Hp} {D : Addr} {Qd : Hp → Prop} (Pv : Nat → Hp → Prop) (h0 : Pv 0 (upd H1 D (.dK []))) (hl : ∀ i H, i ≤ xs.length → Pv i H → SqL K H a xs)
    (hs : ∀ i x H, xs[i]? = some x → Pv i H → g x (wipe σ vs) H fun σ2 H2 => wipe σ2 vs = wipe σ vs ∧ tt σ2 H2 fun b H3 =>
      if b = true then tk σ2 H3 fun y H4 => tv σ2 H4 fun z H5 => ∃ kvs k, y = kV k ∧ H5 D = some (.dK kvs) ∧ kvs.length < sizeLine ∧ Pv (i + 1) (upd H5 D (.dK (putK kvs k z))) else Pv (i + 1) H3) (hd : ∀ H, Pv xs.length H → Qd H) :
    ∃ W : Nat → Nat → Hp → Prop, (∃ m, W 0 m (upd H1 D (.dK []))) ∧ ∀ i m H, W i m H →
      ((Itl K a).stop i H ∧ Qd H) ∨ ((Itl K a).go i H ∧ ∃ Nx : Hp → Prop, (∀ H', Nx H' → ∃ m', m' < m ∧ W (i + 1) m' H') ∧ ∀ x H', (Itl K a).yld i H x H' → g x (wipe σ vs) H' fun σ2 H2 => wipe σ2 vs = wipe σ vs ∧ tt σ2 H2 fun b H3 =>
        if b = true then tk σ2 H3 fun y H4 => tv σ2 H4 fun z H5 => ∃ kvs k, y = kV k ∧ H5 D = some (.dK kvs) ∧ kvs.length < sizeLine ∧ Nx (upd H5 D (.dK (putK kvs k z))) else Nx H3) := by
  refine ⟨fun i m H => m = xs.length - i ∧ i ≤ xs.length ∧ Pv i H, ⟨xs.length, by simp, Nat.zero_le _, h0⟩, ?_⟩
  rintro i m H ⟨rfl, hi, p⟩
  have q := hl i H hi p
  by_cases hlt : i < xs.length
  · refine .inr ⟨⟨xs, xs[i], q, by simp [hlt]⟩, Pv (i + 1), fun H' p' => ⟨xs.length - (i + 1), by omega, rfl, hlt, p'⟩, fun x H' y => ?_⟩
    obtain ⟨e, y⟩ := y
    subst e
    exact hs i x _ (y xs q) p
  · have e : i = xs.length := by omega
    subst e
    exact .inl ⟨⟨xs, q, Nat.le_refl _⟩, hd H p⟩
theorem mask_split {f g : Nat → Bool} : ∀ {n : Nat}, (∀ y, y < n → g y = true → f y = true) → maskF n f = maskF n g + maskF n fun y => f y && !g y
  | 0, _ => rfl
  | n + 1, h => by
    have ih := mask_split (n := n) fun y hy => h y (by omega)
    have e := h n (by omega)
    unfold maskF
    rw [ih]
    generalize 2 ^ n = N
    cases a : g n with
    | true =>
      simp only [e a, a, Bool.not_true, Bool.and_false, if_true, Bool.false_eq_true, if_false]
      omega
    | false =>
      cases c : f n with
      | true => simp only [a, c, Bool.not_false, Bool.and_true, if_true, Bool.false_eq_true, if_false]; omega
      | false => simp only [a, c, Bool.not_false, Bool.and_true, Bool.false_eq_true, if_false]; omega
theorem bitOr_nat (a b : Nat) : Builtin.bitOr ((a : Nat) : Int) ((b : Nat) : Int) = ((a ||| b : Nat) : Int) := by
  have n1 : ∀ x : Nat, Builtin.bitNot (Builtin.bitNot ((x : Nat) : Int)) = ((x : Nat) : Int) := fun x => by unfold Builtin.bitNot; omega
  have n2 : ∀ x : Nat, ¬ (0 : Int) ≤ Builtin.bitNot ((x : Nat) : Int) := fun x => by unfold Builtin.bitNot; omega
  unfold Builtin.bitOr
  rw [show Builtin.bitAnd (Builtin.bitNot ((a : Nat) : Int)) (Builtin.bitNot ((b : Nat) : Int)) = Builtin.bitNot (((a ||| b : Nat) : Int)) from by
    unfold Builtin.bitAnd
    rw [decide_eq_false (n2 a), decide_eq_false (n2 b)]
    show Builtin.bitNot _ = _
    rw [n1, n1, Int.toNat_natCast, Int.toNat_natCast]]
  exact n1 _
theorem bitXor_sub {n : Nat} {f g : Nat → Bool} (h : ∀ y, y < n → g y = true → f y = true) : Builtin.bitXor ((maskF n f : Nat) : Int) ((maskF n g : Nat) : Int) = ((maskF n fun y => f y && !g y : Nat) : Int) := by
  have e1 : maskF n f &&& maskF n g = maskF n g := by
    rw [mask_and]
    refine mask_congr fun y hy => ?_
    cases c : g y with
    | true => rw [h y hy c]; rfl
    | false => rw [Bool.and_false]
  have e2 : maskF n f ||| maskF n g = maskF n f := by
    apply Nat.eq_of_testBit_eq
    intro y
    rw [Nat.testBit_or, maskF_bit, maskF_bit]
    by_cases c : y < n
    · rw [decide_eq_true c, Bool.true_and, Bool.true_and]
      cases d : g y with
      | true => rw [h y c d]; rfl
      | false => rw [Bool.or_false]
    · rw [decide_eq_false c]; rfl
  unfold Builtin.bitXor
  rw [bitAnd_nat, e1]
  rw [bitOr_nat, e2]
  have := mask_split h
  omega
theorem Brd.lat {n : Nat} {b : Nat → Nat → Bool} {lo hi : Nat → Nat → Nat} {bt tp : Nat} (B : Brd n b lo hi bt tp) : Lat n b lo hi bt := ⟨B.rf, B.an, B.tr, B.lo, B.hi, B.bt⟩
def spSprB (K : PySem.W.Frag) (C : Addr) : Sp := fun vs H Q _ => ∃ (c : Addr) (L : BL) (n : Nat) (b : Nat → Nat → Bool) (lo hi : Nat → Nat → Nat) (bt tp : Nat), vs = [.ref c] ∧ BAt K C H c L n b lo hi ∧ Brd n b lo hi bt tp ∧ L.tp = tp ∧ ∀ (H' : Hp) (r : Bool), Same H H' → (r = true ↔ SprB n lo hi) → Q (.bl r) H'
section
variable {P : Program} {w : World} {K : PySem.W.Frag} {mg : Str → Option Value} {base : Heap} {C : Addr}
theorem ok_spreadsB {f : Addr} {fd : FuncData} {k : Nat} (F : Fun K "spreads" "Board.spreads" s_spreads__of__Board f fd) (T : TxB K C) (m_len : mg "len" = none) (m_range : mg "range" = none) :
    FnOk P w K mg base CX0 (k + 1) f fd ["self"] (spSprB K C) := by
  refine F.ok sc_spreads__of__Board (fun vs H Q E h => ?_) (fun cdv A outer s H vs Q E hr h => ?_)
  · obtain ⟨c, L, n, b, lo, hi, bt, tp, rfl, _⟩ := h
    rfl
  · obtain ⟨c, L, n, b, lo, hi, bt, tp, rfl, hB, B, etp, good⟩ := h
    refine ⟨_, (pss_cons (ps_setDc (i := 1) (own := [("mask", 2)]) (g := gName 2) (by rfl) sc_spreads__of__Board.nd rfl rfl (sw_trueD rfl rfl rfl (by decide +kernel)) (pi_list (pe_fldK (K := K) rfl (pv 0) rfl)) (blkOk_by (own := [("mask", 2)]) (N := N_spreads__of__Board) (sc := defScope s_spreads__of__Board) (by decide +kernel)) (fun _ _ _ _ _ => pg_name (i := 2) sc_spreads__of__Board.nd rfl (Or.inl rfl)) (fun _ _ _ _ _ => pts_nil) (fun _ _ _ _ _ => (pv 2)) (fun _ _ _ _ _ => pe_bl))
      (pss_cons (ps_set (i := 3) sc_spreads__of__Board.nd rfl (by first | exact .inl rfl | exact .inr rfl) (pe_ix ix_list (pe_fldK (K := K) rfl (pv 0) rfl) (pe_fldK (K := K) rfl (pv 0) rfl) (fun _ _ => rfl)))
      (pss_cons (ps_for PassesOwn.never rfl (pi_range1 (by rfl) m_range (pa_cons (pe_callB call_len_seq (by rfl) m_len (by decide +kernel) (pa_cons (pe_fldK (K := K) rfl (pv 0) rfl) pa_nil)) pa_nil)) (pg_name (i := 4) sc_spreads__of__Board.nd rfl (by first | exact .inl rfl | exact .inr rfl))
        (pss_one (ps_if (PW.pt (pw_and (pt_cmp (pc_din (hu_of hr) (pe_op op_xor (pe_ix ix_list (pe_fldK (K := K) rfl (pv 0) rfl) (pv 4) (fun _ _ => rfl)) (pe_op op_shl pe_int (pv 4))) (pv 1))) (pw_and1 (pt_cmp (pc_dnotin (hu_of hr) (pe_op op_xor (pv 3) (pe_ix ix_list (pe_fldK (K := K) rfl (pv 0) rfl) (pv 4) (fun _ _ => rfl))) (pv 1))))))
          (pss_one (ps_ret pe_bl))
          pss_nil)))
      (pss_one (ps_ret pe_bl))))), ?_⟩
    obtain ⟨dx, ob⟩ := hB.ob
    have n60 := B.n60
    have lbe : (natsV ((List.range n).map fun x => maskF n fun y => b y x)).length = n := by rw [nats_len, List.length_map, List.length_range]
    have getB : ∀ x, x < n → (natsV ((List.range n).map fun x => maskF n fun y => b y x))[x]? = some (.int (maskF n (fun y => b y x) : Nat)) := fun x hx => by
      unfold natsV
      rw [List.getElem?_map, List.getElem?_map, List.getElem?_range hx]
      rfl
    have getA : ∀ x, x < n → (natsV ((List.range n).map fun x => maskF n (b x)))[x]? = some (.int (maskF n (b x) : Nat)) := fun x hx => by
      unfold natsV
      rw [List.getElem?_map, List.getElem?_map, List.getElem?_range hx]
      rfl
    -- the masks of all places
    refine ⟨_, rfl, c, C, dx, _, _, rfl, ob, T.cl, T.n3, rfl, L.be, rfl, ⟨_, SqL.of hB.be⟩, fun D nD => dc_list (xs := natsV ((List.range n).map fun x => maskF n fun y => b y x)) (fun m H' => Same H H' ∧ ∃ kvs, H' D = some (.dK kvs) ∧ kvs.length ≤ m ∧ ∀ i : Int, (valV kvs (Sum.inl i)).isSome = true ↔ ∃ x, x < m ∧ i = (maskF n (fun y => b y x) : Nat)) ?_ ?_ ?_ ?_⟩
    · exact ⟨same_upd nD, [], upd_same, Nat.le_refl _, fun i => Iff.intro (fun h => absurd h Bool.false_ne_true) (fun h => by
        obtain ⟨x, h, _⟩ := h
        exact absurd h (Nat.not_lt_zero _))⟩
    · rintro m H' _ ⟨sm, _⟩
      exact SqL.of (sm _ _ hB.be)
    · rintro m x H' hx ⟨sm, kvs, hD, lk, hv⟩
      have mn : m < n := by have := (List.getElem?_eq_some_iff.mp hx).1; omega
      rw [getB m mn] at hx
      cases hx
      refine ⟨rfl, yes_it ⟨_, rfl, kvs, Sum.inl ((maskF n (fun y => b y m) : Nat) : Int), rfl, hD, small1000 (by omega), fun c o e => ?_, _, upd_same, Nat.le_trans (FvK.putK_lenK _ _ _) (by omega), fun i => ?_⟩⟩
      · rw [upd_ne (ne_of_none e nD)]; exact sm _ _ e
      · rw [valV_put]
        by_cases e : i = (maskF n (fun y => b y m) : Nat)
        · subst e
          rw [if_pos rfl]
          exact ⟨fun _ => ⟨m, Nat.lt_succ_self m, rfl⟩, fun _ => rfl⟩
        · rw [if_neg (fun z => e (Sum.inl.inj z)), hv]
          constructor
          · rintro ⟨x, h, e'⟩
            exact ⟨x, Nat.lt_succ_of_lt h, e'⟩
          · rintro ⟨x, h, e'⟩
            rcases Nat.lt_or_ge x m with z | z
            · exact ⟨x, z, e'⟩
            · exact absurd (by rw [e', show x = m by omega]) e
    rintro H1 ⟨s1, kvs, hD, _, hv⟩
    rw [lbe] at hv
    have ob1 := s1 _ _ ob
    have be1 := s1 _ _ hB.be
    have ab1 := s1 _ _ hB.ab
    have tpn := B.tp.1
    subst etp
    -- the mask of all
    refine ⟨_, rfl, c, C, dx, _, _, rfl, ob1, T.cl, T.n3, rfl, _, rfl, c, C, dx, _, _, rfl, ob1, T.cl, T.n7, rfl, L.be, _, _, _, rfl, rfl, SqL.of be1, atI_nat (getB L.tp tpn), ?_⟩
    refine ⟨_, rfl, c, C, dx, _, _, rfl, ob1, T.cl, T.n3, rfl, L.be, _, rfl, .inl (SqL.of be1), _, rfl, by omega, by omega, for_range (lo := 0) (n := (((natsV ((List.range n).map fun x => maskF n fun y => b y x)).length : Nat) : Int).toNat) (fun m σ H' => ∃ y4 : Option V, σ = [some (.ref c), some (.ref D), none, some (.int (maskF n (fun y => b y L.tp) : Nat)), y4] ∧ Same H1 H' ∧ ∀ p, p < m → (∃ s, SimB n b p s) → ∃ t, PriB n b p t) ?_ ?_ ?_⟩
    · exact ⟨none, rfl, Same.refl _, fun p hp => absurd hp (Nat.not_lt_zero _)⟩
    · rintro m σ H' hm ⟨y4, rfl, sm, hi⟩
      rw [Int.toNat_natCast, lbe] at hm
      have ej : (0 : Int) + (m : Nat) = ((m : Nat) : Int) := by omega
      rw [ej]
      have hDm := sm _ _ hD
      have obm := sm _ _ ob1
      have k1 : Builtin.bitXor ((maskF n (fun y => b y m) : Nat) : Int) ((1 : Int) * 2 ^ ((m : Nat) : Int).toNat) = ((maskF n (fun y => b y m && !decide (y = m)) : Nat) : Int) := by
        rw [show (1 : Int) * 2 ^ ((m : Nat) : Int).toNat = ((maskF n (fun y => decide (y = m)) : Nat) : Int) from by rw [mask_one hm, Int.toNat_natCast, Int.one_mul, Int.natCast_pow]; rfl]
        exact bitXor_sub fun y _ e => by rw [of_decide_eq_true e]; exact B.rf m hm
      have k2 : Builtin.bitXor ((maskF n (fun y => b y L.tp) : Nat) : Int) ((maskF n (b m) : Nat) : Int) = ((maskF n (fun y => b y L.tp && !b m y) : Nat) : Int) := bitXor_sub fun y hy _ => B.tp.2 y hy
      have m1 : (valV kvs (Sum.inl ((maskF n (fun y => b y m && !decide (y = m)) : Nat) : Int))).isSome = true ↔ ∃ s, SimB n b m s := by
        rw [hv]
        constructor
        · rintro ⟨x, hx, e⟩
          have e' := mask_inj (Int.ofNat.inj e)
          exact ⟨x, hx, fun y hy => by rw [← e' y hy]; by_cases c : y = m <;> simp [c]⟩
        · rintro ⟨s, hs, e⟩
          refine ⟨s, hs, congrArg _ (mask_congr fun y hy => ?_)⟩
          rw [e y hy]
          by_cases c : y = m <;> simp [c]
      have m2 : (valV kvs (Sum.inl ((maskF n (fun y => b y L.tp && !b m y) : Nat) : Int))).isSome = true ↔ ∃ t, PriB n b m t := by
        rw [hv]
        constructor
        · rintro ⟨x, hx, e⟩
          have e' := mask_inj (Int.ofNat.inj e)
          exact ⟨x, hx, fun y hy => by rw [← e' y hy, B.tp.2 y hy, Bool.true_and]⟩
        · rintro ⟨s, hs, e⟩
          refine ⟨s, hs, congrArg _ (mask_congr fun y hy => ?_)⟩
          rw [e y hy, B.tp.2 y hy, Bool.true_and]
      have ext : ((∃ s, SimB n b m s) → ∃ t, PriB n b m t) → ∀ p, p < m + 1 → (∃ s, SimB n b p s) → ∃ t, PriB n b p t := fun h p hp => by
        rcases Nat.lt_or_ge p m with z | z
        · exact hi p z
        · rw [show p = m by omega]; exact h
      refine ⟨_, rfl, c, C, dx, _, _, rfl, obm, T.cl, T.n3, rfl, _, rfl, L.be, _, _, _, rfl, rfl, SqL.of (sm _ _ be1), atI_nat (getB m hm), _, rfl, _, _, rfl, rfl, ⟨by omega, by omega, by decide⟩, _, _, rfl, rfl, ?_⟩
      dsimp only
      rw [k1]
      refine ⟨_, rfl, D, _, rfl, DGet.k (k := Sum.inl _) hDm, _, rfl, ?_⟩
      cases c1 : (valV kvs (Sum.inl ((maskF n (fun y => b y m && !decide (y = m)) : Nat) : Int))).isSome with
      | false => exact iteF (iteF ⟨_, rfl, sm, ext fun h => by rw [m1.mpr h] at c1; cases c1⟩)
      | true =>
        refine iteT ⟨_, rfl, _, rfl, c, C, dx, _, _, rfl, obm, T.cl, T.n2, rfl, _, rfl, L.ab, _, _, _, rfl, rfl, SqL.of (sm _ _ ab1), atI_nat (getA m hm), _, _, rfl, rfl, ?_⟩
        dsimp only
        rw [k2]
        refine ⟨_, rfl, D, _, rfl, DGet.k (k := Sum.inl _) hDm, _, rfl, ?_⟩
        cases c2 : (valV kvs (Sum.inl ((maskF n (fun y => b y L.tp && !b m y) : Nat) : Int))).isSome with
        | true => exact iteF ⟨_, rfl, sm, ext fun _ => m2.mp c2⟩
        | false =>
          refine iteT (good _ _ (s1.trans sm) (Iff.intro (fun z => absurd z Bool.false_ne_true) fun z => ?_))
          have := m2.mpr ((spr_iff B.lat).mp z m hm (m1.mp c1))
          rw [c2] at this
          cases this
    · rintro σ H' ⟨y4, rfl, sm, hi⟩
      rw [Int.toNat_natCast, lbe] at hi
      exact good _ _ (s1.trans sm) ⟨fun _ => (spr_iff B.lat).mpr hi, fun _ => rfl⟩
end
end FvO


namespace FvO
open PySem PySem.Spec PyProof.Rows L2 Fv FvX ClX
/-- C.m is a static method: its record at p, its def at g -/
structure SMet (K : PySem.W.Frag) (C : Addr) (mc : Value) (m : Str) (p g : Addr) : Prop where
  at_ : PySem.W.findCls K (.ref C) mc m = some (.get (.builtin "staticmethod.__get__") (.ref p) .none (.ref C))
  rc : ∃ rest, PySem.W.recIn K p "staticmethod" = some (.ref g :: rest)
  kp : PySem.W.keepIn K (.ref g) = true
section
variable {X : Cx} {pins : List (Addr × Obj)} {σ : L2.St} {H : Hp} {s : Shared} {C p g : Addr} {mc : Value} {m : Str} {A : Around} {E : Value → Shared → Prop}
theorem getsmet_ok {b : Bool} {Q : Value → Shared → Prop} (I : Inv X pins σ H s) (r : CRead X.K C mc) (k : SMet X.K C mc m p g) (h : ∀ s', Inv X pins σ H s' → Q (.ref g) s') : wpAny (model X.prog X.w) A (getAttr (.ref C) m b) Q E s := by
  obtain ⟨rest, hp⟩ := k.rc
  refine PySem.W.cls_bind I.kIn r.rd k.at_ ?_
  refine wpAny_call (PySem.W.sm_get (s := { s with toks := s.toks + 1 }) I.kIn hp (PySem.W.handed_on rfl ?_))
  exact h _ (I.tok _)
theorem getmethsm_ok {pl : Sem Bool} {Q : Value × List Value → Shared → Prop} (I : Inv X pins σ H s) (r : CRead X.K C mc) (k : SMet X.K C mc m p g) (h : ∀ s', Inv X pins σ H s' → Q (.ref g, []) s') : wpAny (model X.prog X.w) A (getMethod (.ref C) m pl) Q E s :=
  PySem.W.method_cls I.kIn r.ga (getsmet_ok I r k h)
end
def tSMeth (C : Addr) (sp : Sp) (E : XK) (ta : TE) (t : TA) : TE := fun σ H Q => ta σ H fun x H1 => x = .ref C ∧ t σ H1 fun vs H2 => sp vs H2 Q E
structure MetSt (P : Program) (w : World) (K : PySem.W.Frag) (mg : Str → Option Value) (base : Heap) (k : Nat) (C : Addr) (m : Str) (sp : Sp) : Prop where
  ex : ∃ (mc : Value) (p g : Addr), CRead K C mc ∧ SMet K C mc m p g ∧ FnR P w K mg base (L2.CX P w) k g sp
theorem pe_smeth {X : Cx} {k : Nat} {C : Addr} {m : Str} {sp : Sp} {E : XK} {o e : Expr} {es : List Expr} {ta : TE} {t : TA} {apos pos : Pos} {pl : Sem Bool} (M : MetSt X.prog X.w X.K X.mg X.base k C m sp) (hr : Room k X.A) (hx : Passes (L2.CX X.prog X.w) X E) (he : PE X o ta) (ha : PA X (e :: es) t)
    (hst : starEach (e :: es) X.env = (false, eval e X.env) :: starEach es X.env := by rfl) (hpl : (backTo pos (starEach es X.env)).any (·.1) = false := by rfl)
    (ht : eval (.Call (.Attribute o m apos) (e :: es) [] pos) X.env = (do
      let ov ← eval o X.env
      standAt apos.atName
      let (f, first) ← holding [ov] (getMethod ov m pl)
      callWith pos f first (backTo pos (starEach (e :: es) X.env)) (backToKw pos (keywordEach [] X.env))) := by rfl) :
    PE X (.Call (.Attribute o m apos) (e :: es) [] pos) (tSMeth C sp E ta t) := by
  obtain ⟨mc, p, g, r, c, F⟩ := M.ex
  refine ⟨fun pins s σ H Q I h => ?_⟩
  refine PySem.W.methodCall_KW (pl := pl) (thn (he.run pins s σ H _ I h) fun u s1 ⟨x, H1, I1, rx, ex, q⟩ => ?_) ht
  subst ex
  obtain rfl : u = Value.ref C := rx
  refine getmethsm_ok I1 r c fun s2 I2 => ?_
  refine PySem.W.callWith_K (h₀ := X.base) I2.ok.mod.kin c.kp (thn (ha.run pos pins s2 σ H1 _ I2 q) fun us s3 ⟨vs, H2, I3, rv, q2⟩ => ⟨I3.kIn, ?_⟩) hst hpl
  exact wpAny_call (run_fnR (us := us) (vs := vs) F hr hx I3 rv q2)
end FvO


/-! class methods called on their class (also by keywords); len, repr, == of an own class -/
namespace FvO
open PySem PySem.Spec PyProof.Rows L2 Fv FvX ClX
structure MetC (P : Program) (w : World) (K : PySem.W.Frag) (mg : Str → Option Value) (base : Heap) (k : Nat) (C : Addr) (m : Str) (sp : Sp) : Prop where
  ex : ∃ (mc : Value) (p g : Addr), CRead K C mc ∧ CMet K C mc m p g ∧ FnR P w K mg base (L2.CX P w) k g sp
structure MetCK (P : Program) (w : World) (K : PySem.W.Frag) (mg : Str → Option Value) (base : Heap) (k : Nat) (C : Addr) (m : Str) (ps ks : List Str) (gV : List V → List V → List V) (sp : Sp) : Prop where
  ex : ∃ (mc : Value) (p g : Addr) (fd : FuncData) (gg : List Value → List Value → List Value), CRead K C mc ∧ CMet K C mc m p g ∧ KBn K fd ps 1 ks gg gV ∧ FnOk P w K mg base (L2.CX P w) k g fd ps sp
def tCMethK (C : Addr) (n : Nat) (gV : List V → List V → List V) (sp : Sp) (E : XK) (ta : TE) (tk : TA) : TE := fun σ H Q => ta σ H fun x H1 => x = .ref C ∧ tk σ H1 fun zs H2 => zs.length = n ∧ sp (gV [.ref C] zs) H2 Q E
/-- what never raises may stand where something may raise -/
theorem fnR_up {P : Program} {w : World} {K : PySem.W.Frag} {mg : Str → Option Value} {base : Heap} {k : Nat} {f : Addr} {sp : Sp} (F : FnR P w K mg base CX0 k f sp) : FnR P w K mg base (L2.CX P w) k f sp :=
  fun A outer s H us vs Q E hr e0 r h => codeAny_mono (F A outer s H us vs Q E hr e0 r h) fun r s' hq => by
    cases r with
    | error e => exact False.elim hq
    | ok fl => cases fl <;> exact hq
section
variable {X : Cx} {k : Nat} {C : Addr} {m : Str} {sp : Sp} {E : XK} {o e : Expr} {es : List Expr} {ta : TE} {t tk : TA} {apos pos : Pos} {pl : Sem Bool} {ps ks : List Str} {gV : List V → List V → List V} {kws : List Keyword}
theorem pe_cm (M : MetC X.prog X.w X.K X.mg X.base k C m sp) (hr : Room k X.A) (hx : Passes (L2.CX X.prog X.w) X E) (he : PE X o ta) (ha : PA X (e :: es) t)
    (hst : starEach (e :: es) X.env = (false, eval e X.env) :: starEach es X.env := by rfl) (hpl : (backTo pos (starEach es X.env)).any (·.1) = false := by rfl)
    (ht : eval (.Call (.Attribute o m apos) (e :: es) [] pos) X.env = (do
      let ov ← eval o X.env
      standAt apos.atName
      let (f, first) ← holding [ov] (getMethod ov m pl)
      callWith pos f first (backTo pos (starEach (e :: es) X.env)) (backToKw pos (keywordEach [] X.env))) := by rfl) :
    PE X (.Call (.Attribute o m apos) (e :: es) [] pos) (tCMeth C sp E ta t) := by
  obtain ⟨mc, p, g, r, c, F⟩ := M.ex
  exact pe_cmeth (pl := pl) he r c F hr hx ha hst hpl ht
theorem pe_cmK (M : MetCK X.prog X.w X.K X.mg X.base k C m ps ks gV sp) (hr : Room k X.A) (hx : Passes (L2.CX X.prog X.w) X E) (he : PE X o ta) (hkw : PK X kws tk)
    (hall : (backToKw pos (keywordEach kws X.env)).all (·.1.isSome) = true := by rfl) (hks : (backToKw pos (keywordEach kws X.env)).filterMap (·.1) = ks := by rfl)
    (hpl : ((backTo pos (starEach [] X.env)).any (·.1) || (backToKw pos (keywordEach kws X.env)).any (·.1.isNone)) = false := by rfl)
    (ht : eval (.Call (.Attribute o m apos) [] kws pos) X.env = (do
      let ov ← eval o X.env
      standAt apos.atName
      let (f, first) ← holding [ov] (getMethod ov m pl)
      callWith pos f first (backTo pos (starEach [] X.env)) (backToKw pos (keywordEach kws X.env))) := by rfl) :
    PE X (.Call (.Attribute o m apos) [] kws pos) (tCMethK C ks.length gV sp E ta tk) := by
  obtain ⟨mc, p, g, fd, gg, r, c, hb, F⟩ := M.ex
  refine ⟨fun pins s σ H Q I h => ?_⟩
  refine PySem.W.methodCall_KW (pl := pl) (thn (he.run pins s σ H _ I h) fun u s1 ⟨x, H1, I1, rx, ex, q⟩ => ?_) ht
  subst ex
  obtain rfl : u = Value.ref C := rx
  refine getmethcm_ok I1 r c fun s2 I2 => ?_
  refine PySem.W.callWith_of (P := PySem.W.MethP X.K s1.heap.objs.size g (.ref C)) hpl (PySem.W.keeps_M c.fi) (PyProof.Rows.evalArgs_kw2_nil hall (thn (hkw.run pos _ s2 σ H1 _ I2 q) fun ws s3 ⟨zs, H2, I3, rz, l2, q2⟩ => ⟨⟨pin_at I3, I3.kIn⟩, ?_⟩))
  rw [hks]
  have r2 := hb.rel (us := [.ref C]) (vs := [.ref C]) (.cons rfl .nil) rz
  have z : wpAny (model X.prog X.w) X.A (call (.ref s1.heap.objs.size) ([] ++ []) (ks.zip ws)) (EP X ((s1.heap.objs.size, PySem.W.methodObj (.ref g) (.ref C)) :: pins) σ Q) X.xe s3 := by
    refine wpAny_call (PySem.W.method_call (pin_at I3) (codeAny_mono (F.run X.A X.stack s3 H2 ⟨[.ref C], ks.zip ws⟩ (gg [.ref C] ws) (gV [.ref C] zs) Q E hr I3.env0 (hb.to s3 [.ref C] ws I3.kIn rfl (rz.length.symm.trans l2)) r2 q2) fun r s' hq => ?_))
    cases r with
    | error e => exact hx _ σ H2 s3 e s' I3 hq
    | ok fl =>
      cases fl with
      | ret u => exact I3.after hq
      | next => exact False.elim hq
      | brk => exact False.elim hq
      | cont => exact False.elim hq
  exact thn z fun _ _ y => unpinE y
/-- the callee runs at a place below -/
theorem run_fnA {pins : List (Addr × Obj)} {σ : L2.St} {H : Hp} {s : Shared} {A1 : Around} {f : Addr} {Q : VK} {us : List Value} {vs : List V} (sb : Sub X k A1) (F : FnR X.prog X.w X.K X.mg X.base (L2.CX X.prog X.w) k f sp) (hx : Passes (L2.CX X.prog X.w) X E) (I : Inv X pins σ H s) (r : Vals vs us) (h : sp vs H Q E) :
    codeAny (model X.prog X.w) A1 (.call (.ref f) ⟨us, []⟩) (fun r s' => match r with | .ok (.ret v) => EP X pins σ Q v s' | .ok _ => False | .error e => X.xe e s') s := by
  have e0 : Env0 X.prog X.w X.K X.mg X.base A1 X.stack s H := by
    have e := I.env0
    exact ⟨by rw [sb.fr]; exact e.frames, e.mod, e.bs, e.bsz, e.funs, e.frf, e.hok, e.bare⟩
  refine codeAny_mono (F A1 X.stack s H us vs Q E sb.room e0 r h) fun r s' hq => ?_
  cases r with
  | error e => exact hx pins σ H s e s' I hq
  | ok fl =>
    cases fl with
    | ret u => exact I.after hq
    | next => exact False.elim hq
    | brk => exact False.elim hq
    | cont => exact False.elim hq
def rLenOwn (C : Addr) (sp : Sp) (E : XK) : List V → Hp → VK → Prop := fun xs H Q => ∃ a dx fs, xs = [.ref a] ∧ H a = some (.ins C dx fs) ∧ sp [.ref a] H (fun v H' => ∃ n : Nat, v = .int (n : Nat) ∧ n < 2 ^ 63 ∧ Q (.int (n : Nat)) H') E
theorem call_lenOwn (M : MetR X.prog X.w X.K X.mg X.base k C "__len__" sp) (hr : Room (k + 1) X.A) (hx : Passes (L2.CX X.prog X.w) X E) : CallR X (.builtin "len") (rLenOwn C sp E) := by
  obtain ⟨f, c, hm, F⟩ := M.ex
  intro pins s σ H xs us Q I r h
  obtain ⟨a, dx, fs, rfl, ha, q⟩ := h
  obtain ⟨u, rfl, rx⟩ := vals1 r
  obtain rfl : u = Value.ref a := rx
  obtain ⟨mA, J, _⟩ := ins_get I.hok ha
  obtain ⟨od, J, _⟩ := J.look
  obtain ⟨m, hF⟩ := I.fr
  refine PySem.W.len_K hF I.ok.mod.kin J hm.at_ hm.fn (wpAny_call (codeAny_mono (run_fnA (k := k) ⟨hr.in1, rfl⟩ F hx I (us := [.ref a]) (vs := [.ref a]) (.cons rfl .nil) q) fun r s' hq => ?_))
  cases r with
  | error e => exact hq
  | ok fl =>
    cases fl with
    | next => exact False.elim hq
    | brk => exact False.elim hq
    | cont => exact False.elim hq
    | ret u =>
      obtain ⟨v, H', I', rv, n, ev, hn, q'⟩ := hq
      subst ev
      obtain ⟨t, rfl⟩ := rv
      exact ⟨⟨by omega, by omega⟩, .int (n : Nat), H', I'.tok _, ⟨_, rfl⟩, q'⟩
def rReprOwn (C : Addr) (sp : Sp) (E : XK) : List V → Hp → VK → Prop := fun xs H Q => ∃ a dx fs, xs = [.ref a] ∧ H a = some (.ins C dx fs) ∧ sp [.ref a] H (fun v H' => (∃ t, v = .str t) ∧ Q v H') E
theorem call_reprOwn (M : MetR X.prog X.w X.K X.mg X.base k C "__repr__" sp) (hr : Room (k + 1) X.A) (hx : Passes (L2.CX X.prog X.w) X E) : CallR X (.builtin "repr") (rReprOwn C sp E) := by
  obtain ⟨f, c, hm, F⟩ := M.ex
  intro pins s σ H xs us Q I r h
  obtain ⟨a, dx, fs, rfl, ha, q⟩ := h
  obtain ⟨u, rfl, rx⟩ := vals1 r
  obtain rfl : u = Value.ref a := rx
  obtain ⟨mA, J, _⟩ := ins_get I.hok ha
  obtain ⟨od, J, _⟩ := J.look
  obtain ⟨m, hF⟩ := I.fr
  refine PySem.W.repr_K hr.in1.units0 hF I.ok.mod.kin J hm.at_ hm.fn (wpAny_call (codeAny_mono (run_fnA (k := k) ⟨hr.in1, rfl⟩ F hx I (us := [.ref a]) (vs := [.ref a]) (.cons rfl .nil) q) fun r s' hq => ?_))
  cases r with
  | error e => exact hq
  | ok fl =>
    cases fl with
    | next => exact False.elim hq
    | brk => exact False.elim hq
    | cont => exact False.elim hq
    | ret u =>
      obtain ⟨v, H', I', rv, ⟨t, ev⟩, q'⟩ := hq
      subst ev
      obtain ⟨t2, rfl⟩ := rv
      exact ⟨.str t, H', I', ⟨_, rfl⟩, q'⟩
theorem type_list {M : Model} {h : Heap} {y : Addr} {o : Obj} (ho : h.get? y = some o) (hc : o.cls = .type "list") : PySem.W.Looks M h (typeOf (.ref y)) (.type "list") :=
  (PySem.W.Looks.ld ho).andThen (by rw [hc]; exact .now)
/-- what stands to the right of an own == -/
def RightOf (C : Addr) (H : Hp) (y : V) : Prop := ∃ b, y = .ref b ∧ ((∃ dy gs, H b = some (.ins C dy gs)) ∨ ∃ ys, H b = some (.lst ys))
def rEqOwn (C : Addr) (sp : Sp) (E : XK) : R2 := fun x y H Q => ∃ a dx fs, x = .ref a ∧ H a = some (.ins C dx fs) ∧ RightOf C H y ∧ sp [x, y] H (fun v H' => (∃ b, v = .bl b) ∧ Q v H') E
theorem op_eqOwn (M : MetR X.prog X.w X.K X.mg X.base k C "__eq__" sp) (hn : PySem.W.notFirst X.K C (.type "list") = true) (hr : Room k X.A) (hx : Passes (L2.CX X.prog X.w) X E) : OpR X (compareOp .Eq) (rEqOwn C sp E) := by
  obtain ⟨f, c, hm, F⟩ := M.ex
  intro pins s σ H x y u v Q I rx ry h
  obtain ⟨a, dx, fs, rfl, ha, ⟨b, rfl, hb⟩, q⟩ := h
  obtain rfl : u = Value.ref a := rx
  obtain rfl : v = Value.ref b := ry
  obtain ⟨mA, J, _⟩ := ins_get I.hok ha
  obtain ⟨od, J, _⟩ := J.look
  obtain ⟨m, hF⟩ := I.fr
  show wpAny (model X.prog X.w) X.A (richCompare .Eq (.ref a) (.ref b)) (EP X pins σ Q) X.xe s
  have body : wpAny (model X.prog X.w) X.A (call (.ref f) [.ref a, .ref b]) (PySem.W.CmpBack (EP X pins σ Q)) X.xe s := by
    refine wpAny_call (codeAny_mono (run_fnA (k := k) ⟨hr, rfl⟩ F hx I (us := [.ref a, .ref b]) (vs := [.ref a, .ref b]) (.cons rfl (.cons rfl .nil)) q) fun r s' hq => ?_)
    cases r with
    | error e => exact hq
    | ok fl =>
      cases fl with
      | next => exact False.elim hq
      | brk => exact False.elim hq
      | cont => exact False.elim hq
      | ret u =>
        obtain ⟨v, H', I', rv, ⟨t, ev⟩, q'⟩ := hq
        subst ev
        cases rv
        exact ⟨.bl t, H', I', rfl, q'⟩
  rcases hb with ⟨dy, gs, hb⟩ | ⟨ys, hb⟩
  · obtain ⟨mB, J', _⟩ := ins_get I.hok hb
    obtain ⟨od', J', _⟩ := J'.look
    exact PySem.W.cmp_K (op := .Eq) (tb := .ref C) hr.units0 hF I.ok.mod.kin J J'.type (by simp [PySem.W.notFirst]) hm.at_ hm.fn body
  · obtain ⟨z, its, n, r, e⟩ := I.hok b _ hb
    exact PySem.W.cmp_K (op := .Eq) (tb := .type "list") hr.units0 hF I.ok.mod.kin J (type_list e rfl) hn hm.at_ hm.fn body
end
end FvO


/-! Board: len, repr, == -/
namespace FvO
open PySem PySem.Spec PyProof.Rows L2 Fv FvW FvX TL
open FvK (pe_fldK)
-- top 27  slots: 0:self 1:other
abbrev s_eq__of__Board : Stmt := inClass (topS 27) 21
abbrev N_eq__of__Board : List Str := ["self", "other"]
theorem sc_eq__of__Board : FnScope N_eq__of__Board ["self", "other"] (defScope s_eq__of__Board) := ⟨rfl, rfl, rfl, by decide +kernel, rfl, by decide +kernel, by decide +kernel⟩

-- top 27  slots: 0:self
abbrev s_len__of__Board : Stmt := inClass (topS 27) 22
abbrev N_len__of__Board : List Str := ["self"]
theorem sc_len__of__Board : FnScope N_len__of__Board ["self"] (defScope s_len__of__Board) := ⟨rfl, rfl, rfl, by decide +kernel, rfl, by decide +kernel, by decide +kernel⟩

-- top 27  slots: 0:self
abbrev s_repr__of__Board : Stmt := inClass (topS 27) 23
abbrev N_repr__of__Board : List Str := ["self"]
theorem sc_repr__of__Board : FnScope N_repr__of__Board ["self"] (defScope s_repr__of__Board) := ⟨rfl, rfl, rfl, by decide +kernel, rfl, by decide +kernel, by decide +kernel⟩

theorem op_eqDq {X : Cx} {K : PySem.W.Frag} (hK : X.K = K) (hu : X.A.units + 64 < cLine) : OpR X (compareOp .Eq) (rEqD K) := by
  subst hK
  exact op_eqD hu
theorem op_neDq {X : Cx} {K : PySem.W.Frag} (hK : X.K = K) (hu : X.A.units + 64 < cLine) : OpR X (compareOp .NotEq) (rNeD K) := by
  subst hK
  exact op_neD hu
def textsD (l : List Str) : PyData := .list (l.map PyData.str)
theorem texts_dpAll {K : PySem.W.Frag} {H : Hp} : ∀ (l : List Str), DpAll K H (l.map V.str) (l.map PyData.str)
  | [] => .nil
  | _ :: r => .cons (.str _) (texts_dpAll r)
theorem rowF_ok (n : Nat) (b : Nat → Bool) : PyData.strOk (rowF n b) = true := by
  show (rowF n b).cps.all _ = true
  rw [← Array.all_toList, rowF_cps, List.all_map, List.all_eq_true]
  intro y _
  show decide (chB (b y) < 0x110000) = true
  unfold chB
  cases b y <;> decide
theorem rows_gd {n : Nat} (b : Nat → Nat → Bool) (h : n ≤ 60) : gd 1 (textsD (rowsF n b)) = true := gd_lst (n := 0) (fun d hd => by
  obtain ⟨x, hx, rfl⟩ := List.mem_map.mp hd
  obtain ⟨i, _, rfl⟩ := List.mem_map.mp hx
  show (PyData.strOk _ && decide (_ ≤ 100000)) = true
  rw [rowF_ok, rowF_len, decide_eq_true (by omega)]
  rfl) (by unfold rowsF; rw [List.length_map, List.length_map, List.length_range]; omega)
theorem eqv_self {n : Nat} {d : PyData} (h : gd n d = true) (hn : n ≤ 64) : PyData.eqv d d = true := SeqAt.eqv_refl d (SeqAt.canLay_of_shaped (gd_shaped h hn))
theorem lines_dp {K : PySem.W.Frag} {H : Hp} {p : Addr} {l : List Str} (h : H p = some (.lst (l.map V.str))) : Dp K H (.ref p) (textsD l) := .lst (SqL.of h) (texts_dpAll l)
/-- isinstance(x, C) of an instance of C or of a list -/
def rIsB (K : PySem.W.Frag) (C : Addr) : List V → Hp → VK → Prop := fun xs H Q => ∃ y, xs = [.ref y, .ref C] ∧ ((∃ dx gs, H y = some (.ins C dx gs) ∧ Q (.bl true) H) ∨ ∃ ys, H y = some (.lst ys) ∧ Q (.bl false) H)
theorem call_isB {X : Cx} {K : PySem.W.Frag} {C : Addr} (hK : X.K = K) (c : C8.InsC K C) (i2 : PySem.W.kitOne K (.type "list") (.ref C) = some false) : CallR X (.builtin "isinstance") (rIsB K C) := by
  subst hK
  intro pins s σ H xs us Q I r h
  obtain ⟨y, rfl, ⟨dx, gs, e, q⟩ | ⟨ys, e, q⟩⟩ := h
  · exact C8.call_isC c pins s σ H _ us Q I r ⟨y, dx, gs, rfl, e, q⟩
  · exact call_isi pins s σ H _ us Q I r ⟨.ref y, .ref C, .type "list", .ref C, false, rfl, .own C, .base (.lst e), i2, q⟩
def spLenB (K : PySem.W.Frag) (C : Addr) : Sp := fun vs H Q _ => ∃ (c : Addr) (L : BL) (n : Nat) (b : Nat → Nat → Bool) (lo hi : Nat → Nat → Nat), vs = [.ref c] ∧ BAt K C H c L n b lo hi ∧ Q (.int (n : Nat)) H
def reprB (n : Nat) : Str := ("Board(" : Str) ++ toString ((n : Nat) : Int) ++ (" places)" : Str)
def spReprB (K : PySem.W.Frag) (C : Addr) : Sp := fun vs H Q _ => ∃ (c : Addr) (L : BL) (n : Nat) (b : Nat → Nat → Bool) (lo hi : Nat → Nat → Nat), vs = [.ref c] ∧ BAt K C H c L n b lo hi ∧ n ≤ 60 ∧ Q (.str (reprB n)) H
def spEqB (K : PySem.W.Frag) (C : Addr) : Sp := fun vs H Q _ => ∃ (c : Addr) (L : BL) (n : Nat) (b : Nat → Nat → Bool) (lo hi : Nat → Nat → Nat) (y : Addr), vs = [.ref c, .ref y] ∧ BAt K C H c L n b lo hi ∧
  ((∃ (L2 : BL) (n2 : Nat) (b2 : Nat → Nat → Bool) (lo2 hi2 : Nat → Nat → Nat), BAt K C H y L2 n2 b2 lo2 hi2 ∧ rowsF n2 b2 = rowsF n b ∧ (n ≤ 60 ∧ n2 ≤ 60) ∧ Q (.bl true) H) ∨ (∃ xs, H y = some (.lst xs) ∧ Q (.bl false) H))
section
variable {P : Program} {w : World} {K : PySem.W.Frag} {mg : Str → Option Value} {base : Heap} {C : Addr}
theorem ok_lenB {f : Addr} {fd : FuncData} {k : Nat} (F : Fun K "__len__" "Board.__len__" s_len__of__Board f fd) (T : TxB K C) (m_len : mg "len" = none) :
    FnOk P w K mg base CX0 (k + 1) f fd ["self"] (spLenB K C) := by
  refine F.ok sc_len__of__Board (fun vs H Q E h => ?_) (fun cdv A outer s H vs Q E hr h => ?_)
  · obtain ⟨c, L, n, b, lo, hi, rfl, _⟩ := h
    rfl
  · obtain ⟨c, L, n, b, lo, hi, rfl, hB, good⟩ := h
    refine ⟨_, (pss_one (ps_ret (pe_callB call_len_seq (by rfl) m_len (by decide +kernel) (pa_cons (pe_fldK (K := K) rfl (pv 0) rfl) pa_nil)))), ?_⟩
    obtain ⟨dx, ob⟩ := hB.ob
    refine ⟨_, rfl, c, C, dx, _, _, rfl, ob, T.cl, T.n1, rfl, L.ln, _, rfl, .inl (SqL.of hB.ln), ?_⟩
    rw [rows_lenF]
    exact good
theorem ok_reprB {f : Addr} {fd : FuncData} {k : Nat} (F : Fun K "__repr__" "Board.__repr__" s_repr__of__Board f fd) (T : TxB K C) (m_len : mg "len" = none) :
    FnOk P w K mg base CX0 (k + 1) f fd ["self"] (spReprB K C) := by
  refine F.ok sc_repr__of__Board (fun vs H Q E h => ?_) (fun cdv A outer s H vs Q E hr h => ?_)
  · obtain ⟨c, L, n, b, lo, hi, rfl, _⟩ := h
    rfl
  · obtain ⟨c, L, n, b, lo, hi, rfl, hB, n60, good⟩ := h
    refine ⟨_, (pss_one (ps_ret (pe_joined (.cons pe_str (.cons (pe_fmt (pe_callB call_len_seq (by rfl) m_len (by decide +kernel) (pa_cons (pe_fldK (K := K) rfl (pv 0) rfl) pa_nil))) (.cons pe_str .nil)))))), ?_⟩
    obtain ⟨dx, ob⟩ := hB.ob
    have key : ∀ n : Nat, n ≤ 60 → (Str.empty ++ ("Board(" : Str)).length ≤ sizeLine ∧ ((((n : Nat) : Int)).natAbs.log2 < 1920) ∧ (Str.empty ++ ("Board(" : Str) ++ toString ((n : Nat) : Int)).length ≤ sizeLine ∧ (Str.empty ++ ("Board(" : Str) ++ toString ((n : Nat) : Int) ++ (" places)" : Str)).length ≤ sizeLine ∧ Str.empty ++ ("Board(" : Str) ++ toString ((n : Nat) : Int) ++ (" places)" : Str) = reprB n := by decide +kernel
    obtain ⟨k1, k2, k3, k4, k5⟩ := key n n60
    refine ⟨_, rfl, k1, _, rfl, c, C, dx, _, _, rfl, ob, T.cl, T.n1, rfl, L.ln, _, rfl, .inl (SqL.of hB.ln), ?_⟩
    rw [rows_lenF]
    refine .inr ⟨_, rfl, k2, _, rfl, k3, _, rfl, k4, ?_⟩
    show Q (.str (_ ++ _)) H
    rw [k5]
    exact good
theorem ok_eqB {f : Addr} {fd : FuncData} {k : Nat} (F : Fun K "__eq__" "Board.__eq__" s_eq__of__Board f fd) (T : TxB K C) (g_Board : mg "Board" = some (.ref C)) (m_isinstance : mg "isinstance" = none)
    (ic : C8.InsC K C) (i2 : PySem.W.kitOne K (.type "list") (.ref C) = some false) :
    FnOk P w K mg base CX0 (k + 1) f fd ["self", "other"] (spEqB K C) := by
  refine F.ok sc_eq__of__Board (fun vs H Q E h => ?_) (fun cdv A outer s H vs Q E hr h => ?_)
  · obtain ⟨c, L, n, b, lo, hi, y, rfl, _⟩ := h
    rfl
  · obtain ⟨c, L, n, b, lo, hi, y, rfl, hB, alt⟩ := h
    refine ⟨_, (pss_one (ps_ret (pe_and (pe_callB (call_isB (K := K) rfl ic i2) (by rfl) m_isinstance (by decide +kernel) (pa_cons (pv 1) (pa_cons (pe_glob (v := .ref C) (by rfl) g_Board rfl) pa_nil))) (pe_one (pe_cmpR (op_eqDq (K := K) rfl hr.units) (pe_fldK (K := K) rfl (pv 0) rfl) (pe_fldK (K := K) rfl (pv 1) rfl) (nomark _)))))), ?_⟩
    obtain ⟨dx, ob⟩ := hB.ob
    rcases alt with ⟨L2, n2, b2, lo2, hi2, hB2, e, n60, good⟩ | ⟨xs, hy, good⟩
    · obtain ⟨dx2, ob2⟩ := hB2.ob
      refine ⟨_, rfl, y, rfl, .inl ⟨_, _, ob2, true, rfl, iteT ?_⟩⟩
      refine ⟨_, rfl, c, C, dx, _, _, rfl, ob, T.cl, T.n1, rfl, _, rfl, y, C, dx2, _, _, rfl, ob2, T.cl, T.n1, rfl, textsD (rowsF n b), textsD (rowsF n2 b2), lines_dp hB.ln, lines_dp hB2.ln, ?_, ?_, ?_⟩
      · exact gd_shaped (rows_gd b n60.1) (by decide)
      · exact gd_shaped (rows_gd b2 n60.2) (by decide)
      · rw [e, eqv_self (rows_gd b n60.1) (by decide)]
        exact good
    · exact ⟨_, rfl, y, rfl, .inr ⟨xs, hy, false, rfl, iteF good⟩⟩
end
end FvO


/-! x != y of two instances of a class that has an own __eq__ alone -/
namespace FvO
open PySem PySem.Spec PyProof.Rows L2 Fv FvX ClX
section
variable {prog : Program} {w : World} {A : Around} {E : Value → Shared → Prop} {s : Shared} {K : PySem.W.Frag} {x C f : Addr} {b : Value}
theorem ifBound_B {M : Model} {self : Value} {name : Str} {id : String} {args : List Value} {Q : Option Value → Shared → Prop} (sp : PySem.W.Looks M s.heap (specialOf self name) (some (.builtin id))) (hb : bindSpecial (.builtin id) self = pure (.builtin id, [self]))
    (h : wpAny M A (call (.builtin id) (self :: args)) (fun v => Q (some v)) E s) : wpAny M A (callSpecialIfBound? self name args) Q E s := by
  simp only [callSpecialIfBound?, bindSpecialIfBound?]
  refine wpAny_holding (wpAny_bind (wpAny_bind (sp.here ?_)))
  simp only [hb]
  refine wpAny_bind (wpAny_askSetting (wpAny_ite ?_))
  have fin : wpAny M A (call (.builtin id) ([self] ++ args) >>= fun v => pure (some v)) Q E s := wpAny_bind (wpAny_mono h (fun v s' h' => wpAny_pure h') fun _ _ h' => h')
  split
  · exact wpAny_bind (wpAny_pure (wpAny_pure fin))
  · exact wpAny_tryCatch (wpAny_bind (wpAny_pure (wpAny_pure fin)))
theorem objNe_run {ox : Obj} {od : Option Obj} {Q : Fin → Shared → Prop} (X : K.In s.heap) (I : PySem.W.InstAt s.heap x ox C od) (hs : PySem.W.findIn K (.ref C) "__eq__" = some (some (.ref f))) (hf : PySem.W.isFn K (.ref f) = true) (hu : A.units < cLine)
    (h : wpAny (model prog w) A (call (.ref f) [.ref x, b]) (fun v s' => ∃ r, v = .bool r ∧ Q (.done (.ret (.bool (!r)))) s') E s) : wpAny (model prog w) A (Builtin.«object.__ne__» ⟨[.ref x, b], []⟩) Q E s := by
  unfold Builtin.«object.__ne__»
  repeat (first
    | with_reducible refine wpAny_cRoomFor hu ?_
    | (refine wpAny_bind (m := callSpecialIfBound? (.ref x) (Str.ofString "__eq__") [b])
        (PySem.W.ifBound_K X I hs hf (wpAny_mono h (fun r s' hr => by
          obtain ⟨b, rfl, hq⟩ := hr
          repeat (first | exact hq | exact wpAny_pure hq | exact wpAny_truthy_bool hq | (refine wpAny_bind (m := truthy (.bool _)) (wpAny_truthy_bool ?_)) | wp_step)) fun _ _ e => e)))
    | wp_step)
theorem ne_K {h₀ : Heap} {L : Addr} {m : Str → Option Value} {ox : Obj} {od : Option Obj} {Q : Value → Shared → Prop} (hu : A.units + 1 < cLine) (F : Fr h₀ L s.heap m) (X₀ : K.In h₀) (I : PySem.W.InstAt s.heap x ox C od) (hb : PySem.W.Looks (model prog w) s.heap (typeOf b) (.ref C))
    (hn : PySem.W.findIn K (.ref C) "__ne__" = some (some (.builtin "object.__ne__"))) (hm : PySem.W.mroIn K C (.type "object") = some true) (hs : PySem.W.findIn K (.ref C) "__eq__" = some (some (.ref f))) (hf : PySem.W.isFn K (.ref f) = true)
    (h : wpAny (model prog w) A.in1 (call (.ref f) [.ref x, b]) (fun v s' => ∃ r, v = .bool r ∧ Q (.bool (!r)) s') E s) : wpAny (model prog w) A (richCompare .NotEq (.ref x) b) Q E s := by
  have X := X₀.keeps F.keep
  have sp : PySem.W.Looks (model prog w) s.heap (specialOf (.ref x) "__ne__") (some (.builtin "object.__ne__")) := I.type.andThen (PySem.W.looks_findIn X hn)
  have inst : PySem.W.Looks (model prog w) s.heap (isInstance (.ref x) (.type "object")) true := I.type.andThen (PySem.W.looks_mroIn X hm)
  have one : wpAny (model prog w) A (tryCompare (.ref x) "__ne__" b) (fun r s' => ∃ v, r = some v ∧ Q v s') E s := by
    unfold tryCompare
    refine wpAny_bind (ifBound_B sp (PySem.F.cmp_object.ne.bind _) (wpAny_call (codeAny_call_builtin PySem.F.cmp_object.ne.plain PySem.F.cmpEntry_ne (PySem.W.check_slot PySem.F.cmpKind_ne PySem.F.cmpSplit_ne inst (PySem.F.cmpArgs_ne _ _)
      (objNe_run (A := A.in1) X I hs hf hu (wpAny_mono h (fun v s' hv => ?_) fun _ _ e => e))))))
    obtain ⟨r, rfl, hq⟩ := hv
    first | exact ⟨r, rfl, wpAny_pure ⟨_, rfl, hq⟩⟩ | exact ⟨r, rfl, ⟨_, rfl, hq⟩⟩
  unfold richCompare
  simp only [oneThing_ref]
  refine wpAny_holding (wpAny_bind (wpAny_cRoomFor (Nat.lt_of_succ_lt hu) ?_))
  refine wpAny_bind (I.type.here (wpAny_bind (hb.here ?_)))
  rw [show (Value.ref C != Value.ref C) = false from by simp]
  simp only [Bool.false_eq_true, if_false]
  refine wpAny_bind (wpAny_pure ?_)
  simp only [Bool.false_eq_true, if_false]
  refine wpAny_bind (wpAny_mono one (fun r s' z => ?_) fun _ _ e => e)
  obtain ⟨v, rfl, hq⟩ := z
  exact wpAny_pure hq
end
section
variable {X : Cx} {k : Nat} {C : Addr} {sp : Sp} {E : XK}
def rNeOwn (C : Addr) (sp : Sp) (E : XK) : R2 := fun x y H Q => ∃ a dx fs b dy gs, x = .ref a ∧ H a = some (.ins C dx fs) ∧ y = .ref b ∧ H b = some (.ins C dy gs) ∧ sp [x, y] H (fun v H' => ∃ r, v = .bl r ∧ Q (.bl (!r)) H') E
theorem op_neOwn (M : MetR X.prog X.w X.K X.mg X.base k C "__eq__" sp) (hn : PySem.W.findIn X.K (.ref C) "__ne__" = some (some (.builtin "object.__ne__"))) (hm : PySem.W.mroIn X.K C (.type "object") = some true) (hr : Room (k + 2) X.A) (hx : Passes (L2.CX X.prog X.w) X E) : OpR X (compareOp .NotEq) (rNeOwn C sp E) := by
  obtain ⟨f, c, hme, F⟩ := M.ex
  intro pins s σ H x y u v Q I rx ry h
  obtain ⟨a, dx, fs, b, dy, gs, rfl, ha, rfl, hb, q⟩ := h
  obtain rfl : u = Value.ref a := rx
  obtain rfl : v = Value.ref b := ry
  obtain ⟨mA, J, _⟩ := ins_get I.hok ha
  obtain ⟨od, J, _⟩ := J.look
  obtain ⟨mB, J', _⟩ := ins_get I.hok hb
  obtain ⟨od', J', _⟩ := J'.look
  obtain ⟨m, hF⟩ := I.fr
  show wpAny (model X.prog X.w) X.A (richCompare .NotEq (.ref a) (.ref b)) (EP X pins σ Q) X.xe s
  refine ne_K ?_ hF I.ok.mod.kin J J'.type hn hm hme.at_ hme.fn ?_
  · exact hr.in1.units0
  refine wpAny_call (codeAny_mono (run_fnA (k := k) ⟨hr.in1.mono (Nat.le_succ k), rfl⟩ F hx I (us := [.ref a, .ref b]) (vs := [.ref a, .ref b]) (.cons rfl (.cons rfl .nil)) q) fun r s' hq => ?_)
  cases r with
  | error e => exact hq
  | ok fl =>
    cases fl with
    | next => exact False.elim hq
    | brk => exact False.elim hq
    | cont => exact False.elim hq
    | ret u =>
      obtain ⟨v, H', I', rv, t, ev, q'⟩ := hq
      subst ev
      cases rv
      exact ⟨t, rfl, .bl (!t), H', I', rfl, q'⟩
end
end FvO


namespace Fv
open PySem PySem.Spec PyProof.Rows L2 FvX
-- top 34  slots: 0:_law_ask 1:_law_told 2:_law_word 3:e
abbrev s_law_call : Stmt := topS 34
abbrev N_law_call : List Str := ["_law_ask", "_law_told", "_law_word", "e"]
theorem sc_law_call : FnScope N_law_call ["_law_ask"] (defScope s_law_call) := ⟨rfl, rfl, rfl, by decide +kernel, rfl, by decide +kernel, by decide +kernel⟩

section
variable {X : Cx} {gf CF : Addr} {cdg : Value} {q : Str}
/-- _law_call: what the lambda gives, or the error's code -/
theorem call_gives (hF : X.mg "FaultError" = some (.ref CF)) : GivesS X N_law_call "_law_call" (defScope s_law_call) gf cdg (defBody s_law_call) "_law_ask" q (TCall X.K CF) := by
  intro lf lc s H Q tl act hc h
  refine ⟨_, pss_cons (ps_set (i := 1) sc_law_call.nd rfl (.inl rfl) pe_non) (pss_cons (ps_set (i := 2) sc_law_call.nd rfl (.inl rfl) pe_str)
    (pss_cons (ps_try_first (X := (cxOf C8.CX0 X.prog X.w X.K X.mg X.base N_law_call "_law_call" (defScope s_law_call) gf cdg X.A X.stack s H C8.E0).nox) (i := 3) (c := .ref CF)
      (tb := fun W D σ H => ∃ E : XK, (∀ cls d H', E cls d H' → W cls d σ H') ∧ σ[0]? = some (some (.ref lf)) ∧ H lc = some (LamX.CodeO lc q) ∧ tl E H (fun v H' => D.nx (σ.set 1 (some v)) H'))
      rfl rfl sc_law_call.nd rfl rfl ⟨rfl, by decide, .inl hF⟩ (fun W pn xe tk _ => ?_)
      (fun a oe cls d pn hz hf => pss_one (ps_set (i := 2) sc_law_call.nd rfl (.inl rfl) (pe_errf (i := 3) hz hf (pv 3)))))
    (pss_one (ps_ret (pe_tup (pa_cons (pv 1) (pa_cons (pv 2) pa_nil))))))), ?_⟩
  · refine ⟨fun pins s' σ H' D I hh => ?_⟩
    obtain ⟨E, hW, h1, h2, h3⟩ := hh
    exact (pss_one (ps_set (i := 1) sc_law_call.nd rfl (.inl rfl) (act W pn xe E _ _ tk))).run pins s' σ H' D I ⟨h1, h2, hW, h3⟩
  · refine ⟨fun cls d H' => ∃ (C dd : Addr) (fs : List (Str × V)) (v : V), cls = .ref C ∧ PySem.W.exmOne X.K cls (.ref CF) = some true ∧ XfC X.K C ∧ PySem.W.findIn X.K (.ref C) "code" = some none ∧ d = some dd ∧ H' dd = some (.xd fs) ∧ fs.lookup ("code" : Str) = some v ∧
      ∀ p, H' p = none → Q (.ref p) (upd H' p (.tup [.non, v])), fun cls d H' z => ?_, rfl, hc, h _ _ (fun v H' z => ?_) (fun C dd H' fs v h2 h3 h4 h6 h7 h8 => ⟨C, dd, fs, v, rfl, h2, h3, h4, rfl, h6, h7, h8⟩)⟩
    · obtain ⟨C, dd, fs, v, h1, h2, h3, h4, h5, h6, h7, h8⟩ := z
      refine ⟨h2, fun a na => ⟨rfl, C, dd, fs, v, h1, h3, h4, h5, h6, h7, ?_⟩⟩
      exact ⟨_, rfl, _, rfl, (by show 2 ≤ sizeLine; decide), h8⟩
    · exact ⟨_, rfl, _, rfl, (by show 2 ≤ sizeLine; decide), z⟩
end
end Fv


/-! xs != []; one operation with several readings; dicts made of pairs -/
namespace Fv
open PySem PySem.Spec PyProof.Rows L2
def rNeNil : R2 := fun x y H Q => ∃ l b xs, x = .ref l ∧ y = .ref b ∧ H l = some (.lst xs) ∧ H b = some (.lst []) ∧ Q (.bl (decide (xs ≠ []))) H
theorem op_neNil {X : Cx} (hu : X.A.units + 64 < cLine) : OpR X (compareOp .NotEq) rNeNil := by
  intro pins s σ H x y v u Q I rx ry h
  obtain ⟨l, b, xs, rfl, rfl, hl, hb, q⟩ := h
  by_cases e : xs = []
  · subst e
    exact op_neD hu pins s σ H _ _ v u Q I rx ry ⟨.list [], .list [], .lst (SqL.of hl) .nil, .lst (SqL.of hb) .nil, by decide +kernel, by decide +kernel, q⟩
  · obtain rfl : v = Value.ref l := rx
    obtain rfl : u = Value.ref b := ry
    obtain ⟨z, its, k, r, eo⟩ := I.hok l _ hl
    obtain ⟨z2, its2, k2, r2, eo2⟩ := I.hok b _ hb
    have l1 := r.length
    have l2 := r2.length
    have nz : xs.length ≠ 0 := fun z => e (List.length_eq_zero_iff.mp z)
    rw [decide_eq_true e] at q
    show wpAny (model X.prog X.w) X.A (richCompare .NotEq (.ref l) (.ref b)) (EP X pins σ Q) X.xe s
    exact SeqAt.RcNeAt.lists_lengths (items := its.toArray) (items2 := its2.toArray) ⟨_, eo, rfl, _, rfl⟩ ⟨_, eo2, rfl, _, rfl⟩ (by
      rw [bne_iff_ne, List.size_toArray, List.size_toArray, ← l1, ← l2]
      exact nz) (by omega) X.prog X.w X.xe _ ⟨.bl true, H, I, rfl, q⟩
theorem op_or2 {X : Cx} {f : Value → Value → Sem Value} {r1 r2 : R2} (h1 : OpR X f r1) (h2 : OpR X f r2) : OpR X f (fun x y H Q => r1 x y H Q ∨ r2 x y H Q) := fun pins s σ H x y v u Q I rx ry h =>
  h.elim (h1 pins s σ H x y v u Q I rx ry) (h2 pins s σ H x y v u Q I rx ry)
/-- a list of pairs under way -/
structure DPr (H : Hp) (D : Addr) (ps : List Addr) (kvs : List (Key × V)) : Prop where
  ls : H D = some (.lst (ps.map V.ref))
  pr : Paired (fun p kv => H p = some (.tup [kV kv.1, kv.2])) ps kvs
theorem DPr.nil {H : Hp} {D : Addr} : DPr (upd H D (.lst [])) D [] [] := ⟨upd_same, .nil⟩
theorem DPr.smx {M : List Addr} {H H1 : Hp} {D : Addr} {ps : List Addr} {kvs : List (Key × V)} (h : DPr H D ps kvs) (s : SmX M H H1) (hM : ∀ b ∈ M, ∃ xs, H b = some (.lst xs)) (nD : D ∉ M) : DPr H1 D ps kvs := ⟨s _ _ nD h.ls, paired_smx s hM h.pr⟩
theorem DPr.same {H H1 : Hp} {D : Addr} {ps : List Addr} {kvs : List (Key × V)} (h : DPr H D ps kvs) (s : Same H H1) : DPr H1 D ps kvs := h.smx (M := []) (SmX.of_same s) (fun _ z => nomatch z) (fun z => nomatch z)
theorem DPr.snoc {H : Hp} {D T : Addr} {ps : List Addr} {kvs : List (Key × V)} {k : Key} {v : V} (h : DPr H D ps kvs) (nT : H T = none) :
    DPr (upd (upd H T (.tup [kV k, v])) D (.lst (ps.map V.ref ++ [.ref T]))) D (ps ++ [T]) (kvs ++ [(k, v)]) := by
  have h1 := h.same (same_upd (o := .tup [kV k, v]) nT)
  have TD : T ≠ D := fun z => by rw [z, h.ls] at nT; cases nT
  refine ⟨by rw [upd_same, List.map_append]; rfl, (paired_smx (M := [D]) (SmX.put (SmX.refl _ _) (List.mem_singleton.mpr rfl)) (fun b hb => by rw [List.mem_singleton.mp hb]; exact ⟨_, h1.ls⟩) h1.pr).snoc ?_⟩
  rw [upd_ne TD, upd_same]
theorem DPr.len {H : Hp} {D : Addr} {ps : List Addr} {kvs : List (Key × V)} (h : DPr H D ps kvs) : ps.length = kvs.length := paired_len h.pr
end Fv


namespace FvO
open PySem PySem.Spec PyProof.Rows L2 Fv FvW FvX FvD FvG TL
open ClX (CRead CVal pe_cval)
-- top 47  slots: 0:_law_script 1:_law_source_here 2:_law_first 3:_law_last 4:_law_one 5:_law_two 6:_law_both 7:_law_many 8:_law_turn 9:_law_x 10:_law_y 11:_law_due 12:_law_word 13:_law_places 14:_law_left 15:_law_sign 16:_law_right 17:_law_tables_here 18:_law_asks
abbrev s_law : Stmt := topS 47
abbrev N_law : List Str := ["_law_script", "_law_source_here", "_law_first", "_law_last", "_law_one", "_law_two", "_law_both", "_law_many", "_law_turn", "_law_x", "_law_y", "_law_due", "_law_word", "_law_places", "_law_left", "_law_sign", "_law_right", "_law_tables_here", "_law_asks"]
theorem sc_law : FnScope N_law ["_law_script"] (defScope s_law) := ⟨rfl, rfl, rfl, by decide +kernel, rfl, by decide +kernel, by decide +kernel⟩

theorem okI_pos {a z i : Int} (h : a ≤ i ∧ i ≤ z) : okI a z i = some i.toNat := if_pos h
theorem BAt.ext2 {K : PySem.W.Frag} {C : Addr} {H H' : Hp} {c : Addr} {L : BL} {n : Nat} {b : Nat → Nat → Bool} {lo hi : Nat → Nat → Nat} (h : BAt K C H c L n b lo hi) (e : LamX.ExtN H H') : BAt K C H' c L n b lo hi :=
  ⟨h.ob.imp fun dx e1 => e _ _ e1 (fun ps z => by cases z), e _ _ h.ln (fun ps z => by cases z), e _ _ h.ab (fun ps z => by cases z), e _ _ h.be (fun ps z => by cases z), dp_ext e _ _ h.lo, dp_ext e _ _ h.hi⟩
/-- what the law holds -/
structure W27 (K : PySem.W.Frag) (C : Addr) (a Ls : Addr) (ns : List Int) (r1 r2 x y : Addr) (L1 L2 : BL) (m1 m2 : List Nat) (Pt : Addr) (H : Hp) : Prop where
  src : Src H a Ls ns
  tab : LamX.Tabs (TT0 Pt) H
  rw1 : hide [a] H r1 = some (.lst ((rowsOf m1).map V.str))
  rw2 : hide [a] H r2 = some (.lst ((rowsOf m2).map V.str))
  b1 : BAt K C (hide [a] H) x L1 m1.length (leI m1) (lowI m1) (upI m1)
  b2 : BAt K C (hide [a] H) y L2 m2.length (leI m2) (lowI m2) (upI m2)
section
variable {P : Program} {w : World} {K : PySem.W.Frag} {mg : Str → Option Value} {base : Heap} {C CB CF CP CT CRd : Addr}
theorem W27.smx {a Ls r1 r2 x y Pt : Addr} {ns : List Int} {L1 L2 : BL} {m1 m2 : List Nat} {H H' : Hp} (h : W27 K C a Ls ns r1 r2 x y L1 L2 m1 m2 Pt H) (s : SmX [a] H H') (hs : Src H' a Ls ns) : W27 K C a Ls ns r1 r2 x y L1 L2 m1 m2 Pt H' :=
  ⟨hs, tabs_smx h.tab s h.src.lst, s.hid _ _ h.rw1, s.hid _ _ h.rw2, h.b1.same s.hid, h.b2.same s.hid⟩
theorem W27.same {a Ls r1 r2 x y Pt : Addr} {ns : List Int} {L1 L2 : BL} {m1 m2 : List Nat} {H H' : Hp} (h : W27 K C a Ls ns r1 r2 x y L1 L2 m1 m2 Pt H) (s : Same H H') : W27 K C a Ls ns r1 r2 x y L1 L2 m1 m2 Pt H' := h.smx (SmX.of_same s) (h.src.same s)
theorem W27.ext {a Ls r1 r2 x y Pt : Addr} {ns : List Int} {L1 L2 : BL} {m1 m2 : List Nat} {H H' : Hp} (h : W27 K C a Ls ns r1 r2 x y L1 L2 m1 m2 Pt H) (e : LamX.ExtN H H') (t : LamX.Tabs (TT0 Pt) H') : W27 K C a Ls ns r1 r2 x y L1 L2 m1 m2 Pt H' :=
  ⟨h.src.ext e, t, ext_hide e _ _ h.rw1 (fun ps z => by cases z), ext_hide e _ _ h.rw2 (fun ps z => by cases z), h.b1.ext2 (ext_hide e), h.b2.ext2 (ext_hide e)⟩
theorem plI_map (g : Nat → Nat) (g0 : g 0 = 0) : ∀ (ps : List (Str × Nat)) (x : Str), plI (ps.map fun p => (p.1, g p.2)) x = g (plI ps x)
  | [], x => g0.symm
  | p :: ps, x => by
    have ih := plI_map g g0 ps x
    unfold plI at ih ⊢
    rw [List.map_cons, List.find?_cons, List.find?_cons]
    by_cases e : p.1 = x
    · rw [decide_eq_true e]; rfl
    · rw [decide_eq_false e]; exact ih
theorem plI_mem : ∀ {ps : List (Str × Nat)}, (ps.map (·.1)).Nodup → ∀ {p : Str × Nat}, p ∈ ps → plI ps p.1 = p.2
  | [], _, _, h => nomatch h
  | q :: ps, nd, p, h => by
    rw [List.map_cons, List.nodup_cons] at nd
    unfold plI
    rw [List.find?_cons]
    rcases List.mem_cons.mp h with e | e
    · rw [e, decide_eq_true rfl]; rfl
    · have ne : q.1 ≠ p.1 := fun z => nd.1 (z ▸ List.mem_map_of_mem e)
      rw [decide_eq_false ne]
      exact plI_mem nd.2 e
theorem kvI_merge {ps : List (Str × Nat)} (h : (ps.map (·.1)).Nodup) : mergeK [] (kvI ps) = kvI ps := by
  rw [merge_app _ _ (by rw [List.nil_append]; exact kvI_nodup h), List.nil_append]
def gI (g : Nat → Nat) (ps : List (Str × Nat)) : List (Str × Nat) := ps.map fun p => (p.1, g p.2)
theorem gI_keys (g : Nat → Nat) (ps : List (Str × Nat)) : (gI g ps).map (·.1) = ps.map (·.1) := by unfold gI; rw [List.map_map]; rfl
theorem gI_step {g : Nat → Nat} {ps : List (Str × Nat)} {m : Nat} {z : Str × Nat} (hz : ps[m]? = some z) : kvI (gI g (ps.take (m + 1))) = kvI (gI g (ps.take m)) ++ [(Sum.inr z.1, .int (g z.2 : Nat))] := by
  unfold kvI gI
  rw [List.take_add_one, hz, List.map_append, List.map_append]; rfl
theorem kvI_at {ps : List (Str × Nat)} {m : Nat} {kk : Key} {vv : V} (h : (kvI ps)[m]? = some (kk, vv)) : ∃ z, ps[m]? = some z ∧ kk = Sum.inr z.1 ∧ vv = .int (z.2 : Nat) := by
  unfold kvI at h
  rw [List.getElem?_map] at h
  cases ep : ps[m]? with
  | none => rw [ep] at h; cases h
  | some z => rw [ep] at h; cases h; exact ⟨z, rfl, rfl, rfl⟩
set_option maxHeartbeats 6400000 in
theorem ok_law {f c Pt gcall : Addr} {oc oc2 : Value} {od an od2 an2 : Option Addr} {osl osl2 : Array (Option Value)} {kW doc pm ct kW2 doc2 pm2 cdv2 ct2 : Value} {k : Nat} (hk : 39 ≤ k)
    (lk : K.lookup f = some ⟨oc, od, .func (PySem.W.fnOf "law" "law" (defArgs s_law) (defBody s_law) (defScope s_law) .none kW doc pm an (.ref c) ct), osl⟩) (hcd : PySem.W.codeIn K (.ref c) "law" = true) (TB : LamX.TabB base mg c Pt)
    (m_range : mg "range" = none) (m_len : mg "len" = none) (m_list : mg "list" = none) (m_int : mg "int" = none) (m_dict : mg "dict" = none)
    (l_call : K.lookup gcall = some ⟨oc2, od2, .func (PySem.W.fnOf "_law_call" "_law_call" (defArgs s_law_call) (defBody s_law_call) (defScope s_law_call) .none kW2 doc2 pm2 an2 cdv2 ct2), osl2⟩) (c_call : PySem.W.codeIn K cdv2 "_law_call" = true) (k_call : PySem.W.keepIn K (.ref gcall) = true) (g_call : mg "_law_call" = some (.ref gcall))
    (b_call : Binds K (PySem.W.fnOf "_law_call" "_law_call" (defArgs s_law_call) (defBody s_law_call) (defScope s_law_call) .none kW2 doc2 pm2 an2 cdv2 ct2) ["_law_ask"] []) (g_FE : mg "FaultError" = some (.ref CF))
    (exm : PySem.W.exmOne K (.ref CT) (.ref CF) = some true) (xf : XfC K CT) (fnd : PySem.W.findIn K (.ref CT) "code" = some none)
    (g_Board : mg "Board" = some (.ref C))
    (C_law_source : Own P w K mg base 1 "_law_source" ["_law_script"] (spSource K)) (C_law_take : Own P w K mg base 1 "_law_take" ["_law_source_here", "_law_many"] spTake)
    (C_law_same : Own P w K mg base 25 "_law_same" ["_law_found", "_law_due"] (spSame K 25)) (C_law_any_term : Own P w K mg base 8 "_law_any_term" ["_law_source_here"] (spAnyTerm K))
    (C_law_some_rows : Own P w K mg base 5 "_law_some_rows" ["_law_source_here"] spSomeRows) (C_law_tables : Own P w K mg base 3 "_law_tables" ["_law_rows_here"] (spTables K))
    (C_law_spreads : Own P w K mg base 3 "_law_spreads" ["_law_tables_here"] (spSpr K)) (C_law_placed : Own P w K mg base 2 "_law_placed" ["_law_source_here", "_law_signs_here", "_law_rows_here"] (spPlaced K))
    (Mk_Board : C8.Mak P w K mg base 4 "Board" C (spBIn K C) [])
    (M_spreads : C8.Met P w K mg base 1 C "spreads" (spSprB K C) []) (M_rows : C8.Met P w K mg base 1 C "rows" (spRowsB K C) [])
    (M_is_below : MetR P w K mg base 5 C "is_below" (spBel K C CP)) (M_value : MetR P w K mg base 35 C "value" (spValB K C CRd))
    (M_product : MetR P w K mg base 6 C "product" (spProd K C CT)) (K_product : MetKR P w K mg base 6 C "product" ["self", "other"] ["other"] (fun xs zs => xs ++ zs) (spProd K C CT))
    (M_chain : MetC P w K mg base 7 C "chain" (spChain K C CB)) (M_len : MetR P w K mg base 1 C "__len__" (spLenB K C)) :
    FnOk P w K mg base CX0 (k + 1) f (PySem.W.fnOf "law" "law" (defArgs s_law) (defBody s_law) (defScope s_law) .none kW doc pm an (.ref c) ct) ["_law_script"] (spLawT K Pt) := by
  refine okC lk hcd sc_law (fun vs H Q E h => ?_) (fun A outer s H vs Q E hr h => ?_)
  · obtain ⟨a, ns, rfl, _⟩ := h
    rfl
  · obtain ⟨sc, ns, rfl, hS, h63, hPt, q⟩ := h
    rw [← spBelI_eq] at M_is_below
    refine ⟨_, (pss_cons (ps_set (i := 1) sc_law.nd rfl (by first | exact .inl rfl | exact .inr rfl) (pe_own C_law_source (hr.mono (by omega)) (by rfl) (pa_cons (pv 0) pa_nil)))
      (pss_cons (ps_par (i := 2) (j := 3) (by rfl) sc_law.nd rfl rfl (by decide) rfl rfl (pa_cons (pe_own C_law_some_rows (hr.mono (by omega)) (by rfl) (pa_cons (pv 1) pa_nil)) (pa_cons (pe_own C_law_some_rows (hr.mono (by omega)) (by rfl) (pa_cons (pv 1) pa_nil)) pa_nil)) (by rfl))
      (pss_cons (ps_asg (pe_tup (pa_cons (C8.pe_mk Mk_Board hr (by omega) (by rfl) (pa_cons (pv 2) pa_nil)) (pa_cons (C8.pe_mk Mk_Board hr (by omega) (by rfl) (pa_cons (pv 3) pa_nil)) pa_nil))) (pg_tup rfl (pgs_cons (pg_name (i := 4) sc_law.nd rfl (.inr rfl)) (pgs_cons (pg_name (i := 5) sc_law.nd rfl (.inr rfl)) pgs_nil))))
      (pss_cons (ps_if (pt_cmpR op_gt (pe_op op_mul (pe_callB call_len_seq (by rfl) m_len (by decide +kernel) (pa_cons (pv 2) pa_nil)) (pe_callB call_len_seq (by rfl) m_len (by decide +kernel) (pa_cons (pv 3) pa_nil))) pe_int (nomark _))
        (pss_one (ps_ret (pe_cmpR (op_eqDq (K := K) rfl hr.units) (pe_lamS (T := TT0 Pt) (TT := TCall K CF) (Ng := N_law_call) (k := 36) (by rfl) g_call k_call l_call c_call b_call sc_law_call rfl (.inl rfl) (call_gives g_FE) TB rfl (List.mem_singleton.mpr rfl) (fun p hp _ => by rw [List.mem_singleton.mp hp]; rfl) (hr.mono (by omega)) (LamX.lamS_by (sc := defScope s_law) (by decide +kernel)) rfl (fun _ _ _ _ _ => rfl) (fun A outer s H E lf lc hr2 => pe_mtR M_product (hr2.mono (by omega)) (passes_call (takes_of rfl rfl rfl rfl) (fun _ _ _ _ h => h)) (pv 4) (pa_cons (pv 5) pa_nil))) (pe_tup (pa_cons pe_non (pa_cons pe_str pa_nil))) (nomark _))))
        pss_nil)
      (pss_cons (ps_set (i := 6) sc_law.nd rfl (by first | exact .inl rfl | exact .inr rfl) (pe_mtK K_product (hr.mono (by omega)) passE0 (pv 4) (pk_cons (pv 5) pk_nil)))
      (pss_cons (ps_set (i := 7) sc_law.nd rfl (by first | exact .inl rfl | exact .inr rfl) (pe_callB call_len_seq (by rfl) m_len (by decide +kernel) (pa_cons (pv 3) pa_nil)))
      (pss_cons (ps_if (PW.pt (pw_or (pt_cmpR op_ne (pe_callB (call_lenOwn M_len (hr.mono (by omega)) passE0) (by rfl) m_len (by decide +kernel) (pa_cons (pv 6) pa_nil)) (pe_op op_mul (pe_callB call_len_seq (by rfl) m_len (by decide +kernel) (pa_cons (pv 2) pa_nil)) (pv 7)) (nomark _)) (pw_or1 (pt_cmpR (op_neDq (K := K) rfl hr.units) (pe_lst (pa_cons (C8.pe_mt0 M_rows hr (by omega) (pv 4)) (pa_cons (C8.pe_mt0 M_rows hr (by omega) (pv 5)) pa_nil))) (pe_lst (pa_cons (pv 2) (pa_cons (pv 3) pa_nil))) (nomark _)))))
        (pss_one (ps_ret pe_bl))
        pss_nil)
      (pss_cons (ps_for PassesOwn.never rfl (pi_range1 (by rfl) m_range (pa_cons pe_int pa_nil)) (pg_name (i := 8) sc_law.nd rfl (by first | exact .inl rfl | exact .inr rfl))
        (pss_cons (ps_par (i := 9) (j := 10) (by rfl) sc_law.nd rfl rfl (by decide) rfl rfl (pa_cons (pe_own C_law_take (hr.mono (by omega)) (by rfl) (pa_cons (pv 1) (pa_cons (pe_callB (call_lenOwn M_len (hr.mono (by omega)) passE0) (by rfl) m_len (by decide +kernel) (pa_cons (pv 6) pa_nil)) pa_nil))) (pa_cons (pe_own C_law_take (hr.mono (by omega)) (by rfl) (pa_cons (pv 1) (pa_cons (pe_callB (call_lenOwn M_len (hr.mono (by omega)) passE0) (by rfl) m_len (by decide +kernel) (pa_cons (pv 6) pa_nil)) pa_nil))) pa_nil)) (by rfl))
        (C8.pss_cut (ps_set (i := 11) sc_law.nd rfl (by first | exact .inl rfl | exact .inr rfl) (pe_and (pe_cmpR op_eq (pe_ix ix_str (pe_ix ix_list (pv 2) (pe_op op_fdiv (pv 9) (pv 7)) (fun _ _ => rfl)) (pe_op op_fdiv (pv 10) (pv 7)) (fun _ _ => rfl)) pe_str (nomark _)) (pe_one (pe_cmpR op_eq (pe_ix ix_str (pe_ix ix_list (pv 3) (pe_op op_mod (pe_callTy call_int1 (by rfl) m_int (by decide +kernel) (pa_cons (pv 9) pa_nil)) (pv 7)) (fun _ _ => rfl)) (pe_op op_mod (pe_callTy call_int1 (by rfl) m_int (by decide +kernel) (pa_cons (pv 10) pa_nil)) (pv 7)) (fun _ _ => rfl)) pe_str (nomark _)))))
        (pss_cons (ps_if (pt_not (pt_val (pe_own C_law_same (hr.mono (by omega)) (by rfl) (pa_cons (pe_mtR M_is_below (hr.mono (by omega)) passE0 (pv 6) (pa_cons (pv 9) (pa_cons (pv 10) pa_nil))) (pa_cons (pv 11) pa_nil)))))
          (pss_one (ps_ret pe_bl))
          pss_nil)
        (pss_cons (ps_set (i := 12) sc_law.nd rfl (by first | exact .inl rfl | exact .inr rfl) (pe_own C_law_any_term (hr.mono (by omega)) (by rfl) (pa_cons (pv 1) pa_nil)))
        (pss_cons (ps_set (i := 13) sc_law.nd rfl (by first | exact .inl rfl | exact .inr rfl) (pe_own C_law_placed (hr.mono (by omega)) (by rfl) (pa_cons (pv 1) (pa_cons (pe_callTy (call_listStr hr.hd) (by rfl) m_list (by decide +kernel) (pa_cons pe_str pa_nil)) (pa_cons (C8.pe_mt0 M_rows hr (by omega) (pv 6)) pa_nil)))))
        (pss_cons (ps_set (i := 14) sc_law.nd rfl (by first | exact .inl rfl | exact .inr rfl) (pe_lock (pe_callTy (call_dictP rfl) (by rfl) m_dict (by decide +kernel) (pa_cons (pe_lc (own := [("_law_sign", 15)]) (g := gName 15) (by rfl) sc_law.nd (pi_keys (pv 13)) (blkOk_by (own := [("_law_sign", 15)]) (N := N_law) (sc := defScope s_law) (by decide +kernel)) (fun _ _ _ _ _ => pg_name (i := 15) sc_law.nd rfl (Or.inl rfl)) (fun _ _ _ _ _ => pts_nil) (fun _ _ _ _ _ => (pe_tup (pa_cons (pv 15) (pa_cons (pe_op op_fdiv (pe_dget (hu_of hr) (pv 13) (pv 15) (fun _ _ => rfl)) (pv 7)) pa_nil))))) pa_nil))))
        (pss_cons (ps_set (i := 16) sc_law.nd rfl (by first | exact .inl rfl | exact .inr rfl) (pe_lock (pe_callTy (call_dictP rfl) (by rfl) m_dict (by decide +kernel) (pa_cons (pe_lc (own := [("_law_sign", 15)]) (g := gName 15) (by rfl) sc_law.nd (pi_keys (pv 13)) (blkOk_by (own := [("_law_sign", 15)]) (N := N_law) (sc := defScope s_law) (by decide +kernel)) (fun _ _ _ _ _ => pg_name (i := 15) sc_law.nd rfl (Or.inl rfl)) (fun _ _ _ _ _ => pts_nil) (fun _ _ _ _ _ => (pe_tup (pa_cons (pv 15) (pa_cons (pe_op op_mod (pe_callTy call_int1 (by rfl) m_int (by decide +kernel) (pa_cons (pe_dget (hu_of hr) (pv 13) (pv 15) (fun _ _ => rfl)) pa_nil)) (pv 7)) pa_nil))))) pa_nil))))
        (pss_one (ps_if (pt_cmpR op_ne (pe_mtR M_value (hr.mono (by omega)) passE0 (pv 6) (pa_cons (pv 12) (pa_cons (pv 13) pa_nil))) (pe_op op_add (pe_op op_mul (pe_mtR M_value (hr.mono (by omega)) passE0 (pv 4) (pa_cons (pv 12) (pa_cons (pv 14) pa_nil))) (pv 7)) (pe_mtR M_value (hr.mono (by omega)) passE0 (pv 5) (pa_cons (pv 12) (pa_cons (pv 16) pa_nil)))) (nomark _))
          (pss_one (ps_ret pe_bl))
          pss_nil))))))))))
      (pss_cons (ps_set (i := 17) sc_law.nd rfl (by first | exact .inl rfl | exact .inr rfl) (pe_lst (pa_cons (pe_own C_law_tables (hr.mono (by omega)) (by rfl) (pa_cons (pv 2) pa_nil)) (pa_cons (pe_own C_law_tables (hr.mono (by omega)) (by rfl) (pa_cons (pv 3) pa_nil)) pa_nil))))
      (C8.pss_cut (ps_if (PW.pt (pw_and (pt_cmpR op_lt (pe_callB (call_lenOwn M_len (hr.mono (by omega)) passE0) (by rfl) m_len (by decide +kernel) (pa_cons (pv 6) pa_nil)) pe_int (nomark _)) (pw_and1 (pt_cmpR op_ne (C8.pe_mt0 M_spreads hr (by omega) (pv 6)) (pe_and (pe_own C_law_spreads (hr.mono (by omega)) (by rfl) (pa_cons (pe_ix ix_list (pv 17) pe_int (fun _ _ => rfl)) pa_nil)) (pe_one (pe_own C_law_spreads (hr.mono (by omega)) (by rfl) (pa_cons (pe_ix ix_list (pv 17) pe_int (fun _ _ => rfl)) pa_nil)))) (nomark _)))))
        (pss_one (ps_ret pe_bl))
        pss_nil)
      (pss_cons (ps_set (i := 18) sc_law.nd rfl (by first | exact .inl rfl | exact .inr rfl) (pe_lst (pa_cons (pe_ix ix_tup (pe_lamS (T := TT0 Pt) (TT := TCall K CF) (Ng := N_law_call) (k := 36) (by rfl) g_call k_call l_call c_call b_call sc_law_call rfl (.inl rfl) (call_gives g_FE) TB rfl (List.mem_singleton.mpr rfl) (fun p hp _ => by rw [List.mem_singleton.mp hp]; rfl) (hr.mono (by omega)) (LamX.lamS_by (sc := defScope s_law) (by decide +kernel)) rfl (fun _ _ _ _ _ => rfl) (fun A outer s H E lf lc hr2 => pe_mtR M_product (hr2.mono (by omega)) (passes_call (takes_of rfl rfl rfl rfl) (fun _ _ _ _ h => h)) (pe_cm M_chain (hr2.mono (by omega)) (passes_call (takes_of rfl rfl rfl rfl) (fun _ _ _ _ h => h)) (pe_glob (v := .ref C) (by rfl) g_Board rfl) (pa_cons pe_int pa_nil)) (pa_cons (pe_cm M_chain (hr2.mono (by omega)) (passes_call (takes_of rfl rfl rfl rfl) (fun _ _ _ _ h => h)) (pe_glob (v := .ref C) (by rfl) g_Board rfl) (pa_cons pe_int pa_nil)) pa_nil))) pe_int (fun _ _ => rfl)) (pa_cons (pe_callB (call_lenOwn M_len (hr.mono (by omega)) passE0) (by rfl) m_len (by decide +kernel) (pa_cons (pe_mtR M_product (hr.mono (by omega)) passE0 (pe_cm M_chain (hr.mono (by omega)) passE0 (pe_glob (v := .ref C) (by rfl) g_Board rfl) (pa_cons pe_int pa_nil)) (pa_cons (pe_cm M_chain (hr.mono (by omega)) passE0 (pe_glob (v := .ref C) (by rfl) g_Board rfl) (pa_cons pe_int pa_nil)) pa_nil)) pa_nil)) pa_nil))))
      (pss_one (ps_ret (pe_cmpR (op_eqDq (K := K) rfl hr.units) (pv 18) (pe_lst (pa_cons pe_str (pa_cons pe_int pa_nil))) (nomark _))))))))))))))), ?_⟩
    have tab0 : LamX.Tabs (TT0 Pt) H := fun p hp => by
      rw [List.mem_singleton.mp hp]
      exact LamX.TabS.nil hPt
    have ma : ∀ {b : Addr}, b ∈ [b] := List.mem_singleton.mpr rfl
    refine ⟨_, rfl, sc, ns, rfl, hS, h63, fun H0 a Ls s0 na nL hs0 => ?_⟩
    refine ⟨_, rfl, a, Ls, ns, rfl, hs0, fun H1 r1 m1 Fm1 nr1 hr1 hs1 sm1 => ⟨_, rfl, a, Ls, ns, rfl, hs1, fun H2 r2 m2 Fm2 nr2 hr2 hs2 sm2 => ⟨_, _, rfl, ?_⟩⟩⟩
    have l16a := Fm1.ln
    have l16b := Fm2.ln
    obtain ⟨bt1, tp1, B1⟩ := fam_brd Fm1
    obtain ⟨bt2, tp2, B2⟩ := fam_brd Fm2
    have r1a : r1 ≠ a := (hs0.ne nr1).symm
    have r2a : r2 ≠ a := (hs1.ne nr2).symm
    have hr1 := sm2 _ _ (fun z => r1a (List.mem_singleton.mp z)) hr1
    have r1a' : r1 ∉ [a] := fun z => r1a (List.mem_singleton.mp z)
    have r2a' : r2 ∉ [a] := fun z => r2a (List.mem_singleton.mp z)
    have tab2 : LamX.Tabs (TT0 Pt) H2 := tabs_smx (tabs_smx (tabs_same tab0 s0) sm1 hs0.lst) sm2 hs1.lst
    -- the first board
    refine ⟨_, rfl, fun x dx nx ndx nxd => ?_⟩
    have xa : x ≠ a := (hs2.ne nx).symm
    have sA := same_upd (o := .own x) ndx
    have nx' : upd H2 dx (.own x) x = none := by rw [upd_ne (Ne.symm nxd)]; exact nx
    have sB := sA.trans (same_upd (o := .ins C dx []) nx')
    have hrB := sB _ _ hr1
    have hsB := hs2.same sB
    have r1x : r1 ≠ x := ne_of_none hr1 nx
    have hxB : upd (upd H2 dx (.own x)) x (.ins C dx []) x = some (.ins C dx []) := upd_same
    generalize upd (upd H2 dx (.own x)) x (.ins C dx []) = HB at hrB hsB hxB sB
    refine ⟨[a], x, r1, dx, m1.length, leI m1, lowI m1, upI m1, bt1, tp1, rfl, hsB.trk, (fun z => xa (List.mem_singleton.mp z)), hxB, ?_, B1, fun H3 L1 smx hB1 eb1 et1 => ?_⟩
    · rw [← rows_eq]
      refine SqL.of ?_
      rw [hide_ne (by simp [r1x, r1a])]
      exact hrB
    have s23 : Same H2 H3 := fun b o e => smx b o (fun z => ne_of_none e nx (List.mem_singleton.mp z)) (sB b o e)
    have hr1 := s23 _ _ hr1
    have hr2 := s23 _ _ hr2
    have hs3 := hs2.same s23
    have tab3 := tabs_same tab2 s23
    clear smx sB hrB hsB hxB sA nx'
    -- the second
    refine ⟨rfl, _, rfl, fun y dy ny ndy nyd => ?_⟩
    have ya : y ≠ a := (hs3.ne ny).symm
    have sA := same_upd (o := .own y) ndy
    have ny' : upd H3 dy (.own y) y = none := by rw [upd_ne (Ne.symm nyd)]; exact ny
    have sB := sA.trans (same_upd (o := .ins C dy []) ny')
    have hrB := sB _ _ hr2
    have hsB := hs3.same sB
    have r2y : r2 ≠ y := ne_of_none hr2 ny
    have hyB : upd (upd H3 dy (.own y)) y (.ins C dy []) y = some (.ins C dy []) := upd_same
    generalize upd (upd H3 dy (.own y)) y (.ins C dy []) = HB at hrB hsB hyB sB
    refine ⟨[a], y, r2, dy, m2.length, leI m2, lowI m2, upI m2, bt2, tp2, rfl, hsB.trk, (fun z => ya (List.mem_singleton.mp z)), hyB, ?_, B2, fun H4 L2 smx hB2 eb2 et2 => ?_⟩
    · rw [← rows_eq]
      refine SqL.of ?_
      rw [hide_ne (by simp [r2y, r2a])]
      exact hrB
    have s34 : Same H3 H4 := fun b o e => smx b o (fun z => ne_of_none e ny (List.mem_singleton.mp z)) (sB b o e)
    have W4 : W27 K C a Ls ns r1 r2 x y L1 L2 m1 m2 Pt H4 := ⟨hs3.same s34, tabs_same tab3 s34, by rw [hide_ne r1a']; exact s34 _ _ hr1, by rw [hide_ne r2a']; exact s34 _ _ hr2, hB1.same (SmX.of_same (M := [a]) s34).hid, hB2⟩
    clear smx sB hrB hsB hyB sA ny'
    refine ⟨rfl, (by show 2 ≤ sizeLine; decide), fun t nt => ?_⟩
    have W5 := W4.same (same_upd (o := .tup [.ref x, .ref y]) nt)
    have ht : upd H4 t (.tup [.ref x, .ref y]) t = some (.tup [.ref x, .ref y]) := upd_same
    generalize upd H4 t (.tup [.ref x, .ref y]) = H5 at W5 ht
    clear W4
    have n1 := B1.n1
    have n2 := B2.n1
    refine ⟨t, _, rfl, SqT.of ht, rfl, _, _, rfl, _, _, rfl, rfl, ?_⟩
    have hr1 := hide_same _ _ W5.rw1
    have hr2 := hide_same _ _ W5.rw2
    refine ⟨_, rfl, r1, _, rfl, .inl (SqL.of hr1), _, rfl, r2, _, rfl, .inl (SqL.of hr2), ?_⟩
    rw [rows_len, rows_len]
    refine ⟨_, _, rfl, rfl, .inl ⟨by omega, by omega⟩, ?_⟩
    dsimp only
    refine ⟨_, _, rfl, rfl, _, rfl, ?_⟩
    obtain ⟨dx5, ox5⟩ := (W5.b1.same hide_same).ob
    obtain ⟨dy5, oy5⟩ := (W5.b2.same hide_same).ob
    by_cases big : 60 < m1.length * m2.length
    · rw [decide_eq_true (by omega)]
      refine iteT ⟨W5.tab, fun G1 eN T1 R E hR hE => ?_⟩
      have W6 := W5.ext eN T1
      obtain ⟨dx6, ox6⟩ := (W6.b1.same hide_same).ob
      refine ⟨_, rfl, x, dx6, _, rfl, ox6, rfl, _, rfl, [a], x, y, L1, L2, _, _, _, _, _, _, _, _, _, _, _, _, rfl, W6.src.trk, W6.b1.same hide_same, B1, W6.b2.same hide_same, B2, fun le => absurd big (by omega), fun _ H7 dd s7 hdd => hE CT dd H7 _ _ exm xf fnd hdd rfl fun p np => ?_⟩
      refine ⟨(by show 2 ≤ sizeLine; decide), fun p2 np2 => ?_⟩
      have s8 := same_upd (o := .tup [.non, .str "TooManyPlaces"]) np2
      have bdD : ∀ {H : Hp} {p : Addr}, H p = some (.tup [.non, .str "TooManyPlaces"]) → Dp K H (.ref p) (.tuple [.none, .str "TooManyPlaces"]) := fun e => .tup (SqT.of e) (.cons .non (.cons (.str _) .nil))
      refine ⟨_, _, bdD (s8 _ _ upd_same), bdD upd_same, by decide +kernel, by decide +kernel, ?_⟩
      rw [show PyData.eqv (.tuple [.none, .str "TooManyPlaces"]) (.tuple [.none, .str "TooManyPlaces"]) = true from by decide +kernel]
      exact q _
    rw [decide_eq_false (by omega)]
    refine iteF ?_
    -- the product
    refine ⟨_, rfl, x, dx5, _, rfl, ox5, rfl, _, rfl, rfl, [a], x, y, L1, L2, _, _, _, _, _, _, _, _, _, _, _, _, rfl, W5.src.trk, W5.b1.same hide_same, B1, W5.b2.same hide_same, B2, fun le H6 z Lz s6 nz hBz ebz etz => ?_, fun h => absurd h big⟩
    have BZ := pr_brd B1 B2 (by omega)
    have W6 := W5.same s6
    obtain ⟨dz6, oz6⟩ := (hBz.same hide_same).ob
    have hr2 := hide_same _ _ W6.rw2
    refine ⟨_, rfl, r2, _, rfl, .inl (SqL.of hr2), ?_⟩
    rw [rows_len]
    have hr1 := hide_same _ _ W6.rw1
    have le60 := BZ.n60
    have one : 1 ≤ m1.length * m2.length := Nat.mul_pos n1 n2
    refine ⟨_, rfl, z, dz6, _, rfl, oz6, z, Lz, _, _, _, _, rfl, hBz.same hide_same, m1.length * m2.length, rfl, by omega, _, rfl, r1, _, rfl, .inl (SqL.of hr1), _, rfl, ?_⟩
    rw [rows_len]
    refine ⟨_, _, rfl, rfl, .inl ⟨by omega, by omega⟩, ?_⟩
    dsimp only
    refine ⟨rfl, _, rfl, ?_⟩
    have neF : ∀ x : V, (!decide (x = x)) = false := fun x => by rw [decide_eq_true rfl]; rfl
    rw [show ((m1.length * m2.length : Nat) : Int) = (m1.length : Int) * (m2.length : Int) from Int.natCast_mul _ _, neF]
    refine iteF ?_
    obtain ⟨dx6, ox6⟩ := (W6.b1.same hide_same).ob
    obtain ⟨dy6, oy6⟩ := (W6.b2.same hide_same).ob
    refine ⟨_, rfl, x, dx6, _, rfl, ox6, rfl, x, L1, _, _, _, _, rfl, W6.b1.same hide_same, fun H7 p7 s7 np7 hp7 => ?_⟩
    refine ⟨_, rfl, y, dy6, _, rfl, s7 _ _ oy6, rfl, y, L2, _, _, _, _, rfl, (W6.b2.same hide_same).same s7, fun H8 p8 s8 np8 hp8 => ⟨(by show 2 ≤ sizeLine; decide), fun q1 nq1 => ⟨_, rfl, _, rfl, (by show 2 ≤ sizeLine; decide), fun q2 nq2 => ?_⟩⟩⟩
    have t1 := same_upd (o := .lst [V.ref p7, V.ref p8]) nq1
    have t2 := same_upd (o := .lst [V.ref r1, V.ref r2]) nq2
    have g1 := rows_gd (n := m1.length) (leI m1) (by omega)
    have g2 := rows_gd (n := m2.length) (leI m2) (by omega)
    have hr1' : H6 r1 = some (.lst ((rowsF m1.length (leI m1)).map V.str)) := by rw [← rows_eq]; exact hr1
    have hr2' : H6 r2 = some (.lst ((rowsF m2.length (leI m2)).map V.str)) := by rw [← rows_eq]; exact hr2
    have s68 := s7.trans (s8.trans (t1.trans t2))
    have g12 : gd 2 (.list [textsD (rowsF m1.length (leI m1)), textsD (rowsF m2.length (leI m2))]) = true := gd_lst (n := 1) (fun d hd => by
      simp only [List.mem_cons, List.not_mem_nil, or_false] at hd
      rcases hd with e | e <;> rw [e] <;> assumption) (by show 2 ≤ 1000; decide)
    refine ⟨.list [textsD (rowsF m1.length (leI m1)), textsD (rowsF m2.length (leI m2))], .list [textsD (rowsF m1.length (leI m1)), textsD (rowsF m2.length (leI m2))], .lst (SqL.of (t2 _ _ upd_same)) (.cons (lines_dp ((s8.trans (t1.trans t2)) _ _ hp7)) (.cons (lines_dp ((t1.trans t2) _ _ hp8)) .nil)), .lst (SqL.of upd_same) (.cons (lines_dp (s68 _ _ hr1')) (.cons (lines_dp (s68 _ _ hr2')) .nil)), gd_shaped g12 (by decide), gd_shaped g12 (by decide), _, rfl, ?_⟩
    rw [eqv_self g12 (by decide)]
    refine iteF ?_
    have W7 := W6.same s68
    have hz7 := hBz.same (SmX.of_same (M := [a]) s68).hid
    clear W5 W6 t1 t2 g1 g2 g12
    generalize upd (upd H8 q1 (.lst [V.ref p7, V.ref p8])) q2 (.lst [V.ref r1, V.ref r2]) = H9 at W7 hz7
    refine ⟨6, rfl, by decide, by decide, for_range (lo := 0) (n := (6 : Int).toNat) (fun i σ Hi => ∃ y8 y9 y10 y11 y12 y13 y14 y15 y16 y17 y18 : Option V, σ = [some (.ref sc), some (.ref a), some (.ref r1), some (.ref r2), some (.ref x), some (.ref y), some (.ref z), some (.int (m2.length : Nat)), y8, y9, y10, y11, y12, y13, y14, y15, y16, y17, y18] ∧
      W27 K C a Ls ns r1 r2 x y L1 L2 m1 m2 Pt Hi ∧ BAt K C (hide [a] Hi) z Lz (m1.length * m2.length) (prB m2.length (leI m1) (leI m2)) (prL m2.length (lowI m1) (lowI m2)) (prL m2.length (upI m1) (upI m2))) ?_ ?_ ?_⟩
    · exact ⟨_, _, _, _, _, _, _, _, _, _, _, rfl, W7, hz7⟩
    · rintro i σ Hi hi ⟨y8, y9, y10, y11, y12, y13, y14, y15, y16, y17, y18, rfl, W, hz⟩
      clear W7 hz7
      obtain ⟨dz, oz⟩ := (hz.same hide_same).ob
      refine ⟨_, rfl, _, rfl, z, dz, _, rfl, oz, z, Lz, _, _, _, _, rfl, hz.same hide_same, m1.length * m2.length, rfl, by omega, a, Ls, ns, m1.length * m2.length, rfl, W.src, by omega, by omega, fun H10 u u0 u1 hs10 off10 => ?_⟩
      obtain ⟨u, rfl⟩ : ∃ x : Nat, u = (x : Nat) := ⟨u.toNat, by omega⟩
      have W10 := W.smx (SmX.at off10 ma) hs10
      have hz10 := hz.same (SmX.at (M := [a]) off10 ma).hid
      obtain ⟨dz10, oz10⟩ := (hz10.same hide_same).ob
      refine ⟨_, rfl, _, rfl, z, dz10, _, rfl, oz10, z, Lz, _, _, _, _, rfl, hz10.same hide_same, m1.length * m2.length, rfl, by omega, a, Ls, ns, m1.length * m2.length, rfl, W10.src, by omega, by omega, fun H11 v v0 v1 hs11 off11 => ?_⟩
      obtain ⟨v, rfl⟩ : ∃ x : Nat, v = (x : Nat) := ⟨v.toNat, by omega⟩
      have W11 := W10.smx (SmX.at off11 ma) hs11
      have hz11 := hz10.same (SmX.at (M := [a]) off11 ma).hid
      clear W W10 hz hz10 oz10 oz
      refine ⟨_, _, rfl, ?_⟩
      have hu : u < m1.length * m2.length := by omega
      have hv : v < m1.length * m2.length := by omega
      have qu := pr_q hu
      have qv := pr_q hv
      have ru : u % m2.length < m2.length := Nat.mod_lt _ n2
      have rv : v % m2.length < m2.length := Nat.mod_lt _ n2
      have hr1 := hide_same _ _ W11.rw1
      have hr2 := hide_same _ _ W11.rw2
      obtain ⟨a1, a2, a3⟩ := row_ix qu qv l16a
      obtain ⟨c1, c2, c3⟩ := row_ix ru rv l16b
      have du : ((u : Nat) : Int) / ((m2.length : Nat) : Int) = ((u / m2.length : Nat) : Int) := (Int.natCast_ediv _ _).symm
      have dv : ((v : Nat) : Int) / ((m2.length : Nat) : Int) = ((v / m2.length : Nat) : Int) := (Int.natCast_ediv _ _).symm
      have mu : ((u : Nat) : Int) % ((m2.length : Nat) : Int) = ((u % m2.length : Nat) : Int) := (Int.natCast_emod _ _).symm
      have mv : ((v : Nat) : Int) % ((m2.length : Nat) : Int) = ((v % m2.length : Nat) : Int) := (Int.natCast_emod _ _).symm
      refine ⟨fun σ' H' => σ' = [some (.ref sc), some (.ref a), some (.ref r1), some (.ref r2), some (.ref x), some (.ref y), some (.ref z), some (.int (m2.length : Nat)), some (.int (0 + (i : Nat))), some (.int (u : Nat)), some (.int (v : Nat)), some (.bl (prB m2.length (leI m1) (leI m2) u v)), y12, y13, y14, y15, y16, y17, y18] ∧ H' = H11, ?_, ?_⟩
      · refine ⟨_, rfl, _, rfl, _, rfl, _, _, rfl, rfl, ⟨by omega, by omega⟩, ?_⟩
        dsimp only
        rw [du]
        refine ⟨r1, _, _, _, rfl, rfl, SqL.of hr1, a1, _, rfl, _, rfl, _, _, rfl, rfl, ⟨by omega, by omega⟩, ?_⟩
        dsimp only
        rw [dv]
        refine ⟨_, _, _, rfl, rfl, a2, a3, rfl, ?_⟩
        rw [one_dec]
        refine ⟨_, rfl, ?_⟩
        cases e1 : leI m1 (u / m2.length) (v / m2.length) with
        | false => exact iteF ⟨by unfold prB; rw [e1]; rfl, rfl⟩
        | true =>
          refine iteT ⟨_, rfl, _, rfl, .inl ⟨_, rfl, _, rfl, _, _, rfl, rfl, by omega, ?_⟩⟩
          dsimp only
          rw [mu]
          refine ⟨r2, _, _, _, rfl, rfl, SqL.of hr2, c1, _, rfl, .inl ⟨_, rfl, _, rfl, _, _, rfl, rfl, by omega, ?_⟩⟩
          dsimp only
          rw [mv]
          refine ⟨_, _, _, rfl, rfl, c2, c3, rfl, ?_⟩
          rw [one_dec]
          exact ⟨by unfold prB; rw [e1]; rfl, rfl⟩
      rintro _ _ ⟨rfl, rfl⟩
      -- whether the one is below the other
      obtain ⟨dz, oz⟩ := (hz11.same hide_same).ob
      refine ⟨_, rfl, z, dz, _, rfl, oz, rfl, _, rfl, _, rfl, bel_use (hz11.same hide_same) le60 rfl hu hv fun H12 s12 => ⟨_, rfl, _, _, .bool (prB m2.length (leI m1) (leI m2) u v), 0, rfl, .bl _, .bl _, by decide, rfl, fun H13 s13 => ⟨_, rfl, iteF ?_⟩⟩⟩
      have W13 := W11.same (s12.trans s13)
      have hz13 := hz11.same (SmX.of_same (M := [a]) (s12.trans s13)).hid
      clear W11 hz11 oz hr1 hr2
      -- a term and a reading
      refine ⟨_, rfl, a, Ls, ns, [a], rfl, W13.src, ma, W13.src.trk, fun H14 wv d nn hd n1' n5 d1 d24 hg hs14 sm14 => ?_⟩
      have W14 := W13.smx sm14 hs14
      have hz14 := hz13.same sm14.hid
      clear W13 hz13
      refine ⟨_, rfl, "abcdefgh", rfl, by decide +kernel, fun sg nsg => ?_⟩
      have esg : Fv.signs "abcdefgh" = abc.map V.str := by decide +kernel
      rw [esg]
      have ts := same_upd (o := .lst (abc.map V.str)) nsg
      have sga : sg ≠ a := (W14.src.ne nsg).symm
      have W15 := W14.same ts
      have hz15 := hz14.same (SmX.of_same (M := [a]) ts).hid
      have hd15 : Dp K (hide [a] (upd H14 sg (.lst (abc.map V.str)))) wv d := dp_same (SmX.of_same (M := [a]) ts).hid _ _ hd
      have hsg : upd H14 sg (.lst (abc.map V.str)) sg = some (.lst (abc.map V.str)) := upd_same
      generalize upd H14 sg (.lst (abc.map V.str)) = H15 at W15 hz15 hd15 hsg
      clear W14 hd hz14
      obtain ⟨dz, oz⟩ := (hz15.same hide_same).ob
      refine ⟨_, rfl, z, dz, _, rfl, oz, rfl, z, Lz, _, _, _, _, rfl, hz15.same hide_same, fun H16 p16 s16 np16 hp16 => ?_⟩
      have W16 := W15.same s16
      have hz16 := hz15.same (SmX.of_same (M := [a]) s16).hid
      have hd16 := dp_same (SmX.of_same (M := [a]) s16).hid _ _ hd15
      have pa16 : p16 ≠ a := (W15.src.ne np16).symm
      refine ⟨a, Ls, sg, p16, ns, abc, _, rfl, W16.src, s16 _ _ hsg, sga, by decide +kernel, by decide, hp16, pa16, (by rw [rows_lenF]; exact one), (by rw [rows_lenF]; exact le60), fun H17 rd ps ek hlt nrd hrd hs17 sm17 => ?_⟩
      rw [rows_lenF] at hlt
      have W17 := W16.smx sm17 hs17
      have hz17 := hz16.same sm17.hid
      have hd17 := dp_same sm17.hid _ _ hd16
      clear W15 W16 hz15 hz16 hd15 hd16 hsg oz hp16
      have ndp : (ps.map (·.1)).Nodup := by rw [ek]; decide +kernel
      have lps : ps.length = 8 := by
        have := congrArg List.length ek
        rw [List.length_map] at this
        exact this
      -- lf
      refine ⟨rd, .dK (kvI ps), hrd, trivial, fun od => ?_⟩
      have hL : upd H17 rd (.frz od (.dK (kvI ps))) rd = some (.frz od (.dK (kvI ps))) := upd_same
      have back : ∀ H3, Same (upd H17 rd (.frz od (.dK (kvI ps)))) H3 → Same H17 (upd H3 rd (.dK (kvI ps))) := fun H3 s3 c o e => by
        by_cases z : c = rd
        · rw [z, upd_same, ← hrd, ← z]; exact e
        · rw [upd_ne z]
          exact s3 _ _ (by rw [upd_ne z]; exact e)
      generalize upd H17 rd (.frz od (.dK (kvI ps))) = HL at hL back
      refine ⟨_, rfl, rd, od, rfl, .inl ⟨kvI ps, hL, fun D2 nD2 => lc_it walk_keys (fun m H' => Same HL H' ∧ ∃ qs, DPr H' D2 qs (kvI (gI (· / m2.length) (ps.take m)))) ⟨same_upd nD2, [], DPr.nil⟩ (fun _ _ _ p => p.1 _ _ hL) ?_ ?_⟩⟩
      · rintro m X H3 H4 hi' ⟨sm, qs, hD⟩ ⟨rfl, kk, vv, hk', rfl⟩
        obtain ⟨zz, hz', rfl, rfl⟩ := kvI_at hk'
        have hv : valV (kvI ps) (Sum.inr zz.1) = some (.int (zz.2 : Nat)) := by
          rw [(val_kvI ps zz.1 (List.mem_map_of_mem (List.mem_of_getElem? hz'))).1, plI_mem ndp (List.mem_of_getElem? hz')]
        refine ⟨rfl, yes_it ⟨_, rfl, _, rfl, _, rfl, rd, .int (zz.2 : Nat), rfl, .inl ⟨kvI ps, Sum.inr zz.1, .inr ⟨od, sm _ _ hL⟩, rfl, hv.symm⟩, _, rfl, _, _, rfl, rfl, ⟨by omega, by omega⟩, (by show 2 ≤ sizeLine; decide), fun T nT => ?_⟩⟩
        have lq := hD.len
        have lk : (kvI (gI (· / m2.length) (ps.take m))).length ≤ 8 := by unfold kvI gI; rw [List.length_map, List.length_map, List.length_take]; omega
        refine ⟨_, (same_upd nT) _ _ hD.ls, small1000 (by rw [List.length_map]; omega), fun c o e => ?_, qs ++ [T], ?_⟩
        · rw [upd_ne (ne_of_none e nD2)]
          exact (same_upd nT) _ _ (sm _ _ e)
        · rw [gI_step hz']
          exact hD.snoc (k := Sum.inr zz.1) nT
      rintro H15 ⟨s15, qs, hD⟩
      have ek' : (kvI ps).length = ps.length := by unfold kvI; rw [List.length_map]
      rw [ek', List.take_length] at hD
      refine ⟨D2, qs, kvI (gI (· / m2.length) ps), rfl, SqL.of hD.ls, paired_sqT hD.pr, fun lf nout => ?_⟩
      rw [kvI_merge (by rw [gI_keys]; exact ndp)]
      have s16 := s15.trans (same_upd (o := .dK (kvI (gI (· / m2.length) ps))) nout)
      have flc : rd ≠ lf := fun z => by rw [← z, s15 _ _ hL] at nout; cases nout
      refine ⟨s16 _ _ hL, ?_⟩
      have sG := back _ s16
      have gf : upd (upd H15 lf (.dK (kvI (gI (· / m2.length) ps)))) rd (.dK (kvI ps)) rd = some (.dK (kvI ps)) := upd_same
      have gc : upd (upd H15 lf (.dK (kvI (gI (· / m2.length) ps)))) rd (.dK (kvI ps)) lf = some (.dK (kvI (gI (· / m2.length) ps))) := by rw [upd_ne flc.symm, upd_same]
      generalize upd (upd H15 lf (.dK (kvI (gI (· / m2.length) ps)))) rd (.dK (kvI ps)) = G1 at sG gf gc
      have s171 := sG
      have hlf := gc
      clear back sG gc hL s16 hD s15 nout flc
      -- rt
      refine ⟨rd, .dK (kvI ps), gf, trivial, fun od => ?_⟩
      have hL : upd G1 rd (.frz od (.dK (kvI ps))) rd = some (.frz od (.dK (kvI ps))) := upd_same
      have back : ∀ H3, Same (upd G1 rd (.frz od (.dK (kvI ps)))) H3 → Same G1 (upd H3 rd (.dK (kvI ps))) := fun H3 s3 c o e => by
        by_cases z : c = rd
        · rw [z, upd_same, ← gf, ← z]; exact e
        · rw [upd_ne z]
          exact s3 _ _ (by rw [upd_ne z]; exact e)
      generalize upd G1 rd (.frz od (.dK (kvI ps))) = HL at hL back
      refine ⟨_, rfl, rd, od, rfl, .inl ⟨kvI ps, hL, fun D2 nD2 => lc_it walk_keys (fun m H' => Same HL H' ∧ ∃ qs, DPr H' D2 qs (kvI (gI (· % m2.length) (ps.take m)))) ⟨same_upd nD2, [], DPr.nil⟩ (fun _ _ _ p => p.1 _ _ hL) ?_ ?_⟩⟩
      · rintro m X H3 H4 hi' ⟨sm, qs, hD⟩ ⟨rfl, kk, vv, hk', rfl⟩
        obtain ⟨zz, hz', rfl, rfl⟩ := kvI_at hk'
        have hv : valV (kvI ps) (Sum.inr zz.1) = some (.int (zz.2 : Nat)) := by
          rw [(val_kvI ps zz.1 (List.mem_map_of_mem (List.mem_of_getElem? hz'))).1, plI_mem ndp (List.mem_of_getElem? hz')]
        refine ⟨rfl, yes_it ⟨_, rfl, _, rfl, _, rfl, rd, .int (zz.2 : Nat), rfl, .inl ⟨kvI ps, Sum.inr zz.1, .inr ⟨od, sm _ _ hL⟩, rfl, hv.symm⟩, .inl ⟨_, rfl, _, rfl, _, _, rfl, rfl, by omega, (by show 2 ≤ sizeLine; decide), fun T nT => ?_⟩⟩⟩
        have lq := hD.len
        have lk : (kvI (gI (· % m2.length) (ps.take m))).length ≤ 8 := by unfold kvI gI; rw [List.length_map, List.length_map, List.length_take]; omega
        refine ⟨_, (same_upd nT) _ _ hD.ls, small1000 (by rw [List.length_map]; omega), fun c o e => ?_, qs ++ [T], ?_⟩
        · rw [upd_ne (ne_of_none e nD2)]
          exact (same_upd nT) _ _ (sm _ _ e)
        · rw [gI_step hz']
          exact hD.snoc (k := Sum.inr zz.1) nT
      rintro H15 ⟨s15, qs, hD⟩
      have ek' : (kvI ps).length = ps.length := by unfold kvI; rw [List.length_map]
      rw [ek', List.take_length] at hD
      refine ⟨D2, qs, kvI (gI (· % m2.length) ps), rfl, SqL.of hD.ls, paired_sqT hD.pr, fun rt nout => ?_⟩
      rw [kvI_merge (by rw [gI_keys]; exact ndp)]
      have s16 := s15.trans (same_upd (o := .dK (kvI (gI (· % m2.length) ps))) nout)
      have flc : rd ≠ rt := fun z => by rw [← z, s15 _ _ hL] at nout; cases nout
      refine ⟨s16 _ _ hL, ?_⟩
      have sG := back _ s16
      have gf : upd (upd H15 rt (.dK (kvI (gI (· % m2.length) ps)))) rd (.dK (kvI ps)) rd = some (.dK (kvI ps)) := upd_same
      have gc : upd (upd H15 rt (.dK (kvI (gI (· % m2.length) ps)))) rd (.dK (kvI ps)) rt = some (.dK (kvI (gI (· % m2.length) ps))) := by rw [upd_ne flc.symm, upd_same]
      generalize upd (upd H15 rt (.dK (kvI (gI (· % m2.length) ps)))) rd (.dK (kvI ps)) = G2 at sG gf gc
      have hrt := gc
      have hlf := sG _ _ hlf
      have s172 := s171.trans sG
      have W18 := W17.same s172
      have hz18 := hz17.same (SmX.of_same (M := [a]) s172).hid
      have hd18 := dp_same (SmX.of_same (M := [a]) s172).hid _ _ hd17
      clear W17 hz17 hd17 hL back hD s15 s16 nout flc gc s171
      have up9 : ∀ m, nn ≤ m → lmeas m d = lmeas nn d := fun m hm => by
        induction hm with
        | refl => rfl
        | step _ ih => rw [lmeas_up _ _ (by rw [ih]; exact d1), ih]
      have e9 := up9 9 (by omega)
      have tk : Tk d := ⟨by rw [e9]; exact d1, by omega, gd_le hg (by omega)⟩
      obtain ⟨dz, oz⟩ := (hz18.same hide_same).ob
      have hdx := dp_same (hide_same (M := [a])) _ _ hd18
      refine ⟨_, rfl, z, dz, _, rfl, oz, rfl, _, rfl, _, rfl, ?_⟩
      dsimp only [tNil]
      refine value_useG (hz18.same hide_same) BZ ebz etz hdx tk (by omega) ek hlt gf fun H19 s19 => ?_
      have W19 := W18.same s19
      have hz19 := hz18.same (SmX.of_same (M := [a]) s19).hid
      have hdx := dp_same s19 _ _ hdx
      obtain ⟨dx, ox⟩ := (W19.b1.same hide_same).ob
      have hkl : ∀ g, (gI g ps).map (·.1) = abc := fun g => by rw [gI_keys]; exact ek
      refine ⟨_, rfl, x, dx, _, rfl, ox, rfl, _, rfl, _, rfl, ?_⟩
      dsimp only [tNil]
      refine value_useG (W19.b1.same hide_same) B1 eb1 et1 hdx tk (by omega) (hkl _) (fun p hp => ?_) (s19 _ _ hlf) fun H20 s20 => ?_
      · unfold gI at hp
        obtain ⟨p', hp', rfl⟩ := List.mem_map.mp hp
        exact pr_q (hlt p' hp')
      refine ⟨_, rfl, _, _, rfl, rfl, .inr ⟨by omega, by omega⟩, ?_⟩
      dsimp only
      have W20 := W19.same s20
      have hz20 := hz19.same (SmX.of_same (M := [a]) s20).hid
      have hdx := dp_same s20 _ _ hdx
      obtain ⟨dy, oy⟩ := (W20.b2.same hide_same).ob
      refine ⟨_, rfl, y, dy, _, rfl, oy, rfl, _, rfl, _, rfl, ?_⟩
      dsimp only [tNil]
      refine value_useG (W20.b2.same hide_same) B2 eb2 et2 hdx tk (by omega) (hkl _) (fun p hp => ?_) (s20 _ _ (s19 _ _ hrt)) fun H21 s21 => ?_
      · unfold gI at hp
        obtain ⟨p', hp', rfl⟩ := List.mem_map.mp hp
        exact Nat.mod_lt _ n2
      refine ⟨_, _, rfl, rfl, rfl, _, rfl, ?_⟩
      have ev := (vlG_pr B1 B2 (pl := plI ps) (fun c hc => by
        have := val_kvI ps c (by rw [ek]; exact isL_one hc)
        obtain ⟨_, p, hp, e⟩ := this
        rw [e]; exact hlt p hp) 9 d tk.one).1
      have p1 : (plI (gI (· / m2.length) ps)) = fun c => plI ps c / m2.length := funext fun c => plI_map (· / m2.length) (Nat.zero_div _) ps c
      have p2 : (plI (gI (· % m2.length) ps)) = fun c => plI ps c % m2.length := funext fun c => plI_map (· % m2.length) (Nat.zero_mod _) ps c
      rw [p1, p2, ev, Int.natCast_add, Int.natCast_mul, neF]
      have W21 := W20.same s21
      have hz21 := hz20.same (SmX.of_same (M := [a]) s21).hid
      exact iteF ⟨_, _, _, _, _, _, _, _, _, _, _, rfl, W21, hz21⟩
    · rintro σ H22 ⟨y8, y9, y10, y11, y12, y13, y14, y15, y16, y17, y18, rfl, W, hz⟩
      clear W7 hz7
      have hr1 := hide_same _ _ W.rw1
      -- the tables of the law
      refine ⟨_, rfl, r1, m1, rfl, SqL.of hr1, Fm1, fun H23 p1 s23 np1 hp1 => ?_⟩
      have W23 := W.same s23
      have hz23 := hz.same (SmX.of_same (M := [a]) s23).hid
      have hp1 := dp_same (nw_hide W.src) _ _ hp1
      have hr2 := hide_same _ _ W23.rw2
      refine ⟨_, rfl, r2, m2, rfl, SqL.of hr2, Fm2, fun H24 p2 s24 np2 hp2 => ⟨(by show 2 ≤ sizeLine; decide), fun q1 nq1 => ?_⟩⟩
      have W24 := W23.same s24
      have hp2 := dp_same hide_same _ _ (dp_same (nw_hide W23.src) _ _ hp2)
      have hp1 := dp_same s24 _ _ (dp_same hide_same _ _ hp1)
      have t1 := same_upd (o := .lst [V.ref p1, V.ref p2]) nq1
      have hq1 : upd H24 q1 (.lst [V.ref p1, V.ref p2]) q1 = some (.lst [V.ref p1, V.ref p2]) := upd_same
      have hp1 := dp_same t1 _ _ hp1
      have hp2 := dp_same t1 _ _ hp2
      have W25 := W24.same t1
      have hz25 := (hz23.same (SmX.of_same (M := [a]) s24).hid).same (SmX.of_same (M := [a]) t1).hid
      generalize upd H24 q1 (.lst [V.ref p1, V.ref p2]) = H25 at hq1 hp1 hp2 W25 hz25
      clear W W23 W24 hz hz23 hr1 hr2
      obtain ⟨dz, oz⟩ := (hz25.same hide_same).ob
      refine ⟨fun σ' H' => W27 K C a Ls ns r1 r2 x y L1 L2 m1 m2 Pt H' ∧ ∃ y8 y9 y10 y11 y12 y13 y14 y15 y16 y17 y18 : Option V, σ' = [some (.ref sc), some (.ref a), some (.ref r1), some (.ref r2), some (.ref x), some (.ref y), some (.ref z), some (.int (m2.length : Nat)), y8, y9, y10, y11, y12, y13, y14, y15, y16, y17, y18], ?_, ?_⟩
      · refine ⟨_, rfl, z, dz, _, rfl, oz, z, Lz, _, _, _, _, rfl, hz25.same hide_same, m1.length * m2.length, rfl, by omega, _, _, rfl, rfl, _, rfl, ?_⟩
        by_cases few : m1.length * m2.length < 20
        · rw [decide_eq_true (by omega)]
          refine iteT ⟨_, rfl, z, dz, _, rfl, oz, rfl, z, Lz, _, _, _, _, _, _, rfl, hz25.same hide_same, BZ, etz, fun H26 b1 s26 h1 => ?_⟩
          refine ⟨_, rfl, q1, _, _, _, rfl, rfl, SqL.of (s26 _ _ hq1), at0, .ref p1, m1, rfl, dp_same s26 _ _ hp1, Fm1, fun H27 b2 s27 h2 => ⟨_, rfl, ?_⟩⟩
          have h2 : b2 = true ↔ SprB m1.length (lowI m1) (upI m1) := h2
          have h1 := h1.trans (pr_spr B1 B2)
          cases b2 with
          | false =>
            refine iteF ⟨rfl, _, rfl, ?_⟩
            have e : b1 = false := Bool.eq_false_iff.mpr fun e => by
              have := h2.mpr (h1.mp e).1
              cases this
            rw [e, neF]
            exact iteF ⟨W25.same (s26.trans s27), _, _, _, _, _, _, _, _, _, _, _, rfl⟩
          | true =>
            refine iteT ⟨_, rfl, q1, _, _, _, rfl, rfl, SqL.of (s27 _ _ (s26 _ _ hq1)), atI_nat (j := 1) rfl, .ref p2, m2, rfl, dp_same (s26.trans s27) _ _ hp2, Fm2, fun H28 b3 s28 h3 => ?_⟩
            have h3 : b3 = true ↔ SprB m2.length (lowI m2) (upI m2) := h3
            have e : b1 = b3 := Bool.eq_iff_iff.mpr (h1.trans ⟨fun z => h3.mpr z.2, fun z => ⟨h2.mp rfl, h3.mp z⟩⟩)
            refine ⟨rfl, _, rfl, ?_⟩
            rw [e, neF]
            exact iteF ⟨W25.same (s26.trans (s27.trans s28)), _, _, _, _, _, _, _, _, _, _, _, rfl⟩
        · rw [decide_eq_false (by omega)]
          exact iteF (iteF ⟨W25, _, _, _, _, _, _, _, _, _, _, _, rfl⟩)
      rintro _ H29 ⟨W29, y8, y9, y10, y11, y12, y13, y14, y15, y16, y17, y18, rfl⟩
      clear W25 hz25 hq1 hp1 hp2 oz
      -- a product that is too large
      refine ⟨W29.tab, fun G1 eN T1 R E hR hE => ?_⟩
      have W30 := W29.ext eN T1
      refine ⟨rfl, [a], _, rfl, W30.src.trk, fun m' hm => ?_, fun e => (by rw [okI_pos ⟨by decide, by decide⟩] at e; cases e)⟩
      rw [okI_pos ⟨by decide, by decide⟩] at hm
      cases hm
      intro H31 x31 L31 s31 nx31 hB31 e311 e312
      have W31 := W30.same s31
      refine ⟨x31, (hB31.same hide_same).ob.choose, _, rfl, (hB31.same hide_same).ob.choose_spec, rfl, rfl, [a], _, rfl, W31.src.trk, fun m' hm => ?_, fun e => (by rw [okI_pos ⟨by decide, by decide⟩] at e; cases e)⟩
      rw [okI_pos ⟨by decide, by decide⟩] at hm
      cases hm
      intro H32 x32 L32 s32 nx32 hB32 e321 e322
      have W32 := W31.same s32
      refine ⟨[a], x31, x32, L31, L32, _, _, _, _, _, _, _, _, _, _, _, _, rfl, W32.src.trk, (hB31.same hide_same).same s32, chain_brd (n := 6) (by decide) (by decide), hB32.same hide_same, chain_brd (n := 11) (by decide) (by decide), fun le => absurd le (by decide), fun _ H33 dd s33 hdd => hE CT dd H33 _ _ exm xf fnd hdd rfl fun p np => ?_⟩
      have W33 := (W32.same s33).same (same_upd (o := .tup [.non, .str "TooManyPlaces"]) np)
      refine ⟨p, _, _, _, rfl, rfl, SqT.of upd_same, atI_nat (j := 1) rfl, ?_⟩
      generalize upd H33 p (.tup [.non, .str "TooManyPlaces"]) = H34 at W33
      clear W29 W30 W31 W32
      -- one that is just small enough
      refine ⟨rfl, [a], _, rfl, W33.src.trk, fun m' hm => ?_, fun e => (by rw [okI_pos ⟨by decide, by decide⟩] at e; cases e)⟩
      rw [okI_pos ⟨by decide, by decide⟩] at hm
      cases hm
      intro H35 x35 L35 s35 nx35 hB35 e351 e352
      have W35 := W33.same s35
      refine ⟨x35, (hB35.same hide_same).ob.choose, _, rfl, (hB35.same hide_same).ob.choose_spec, rfl, rfl, [a], _, rfl, W35.src.trk, fun m' hm => ?_, fun e => (by rw [okI_pos ⟨by decide, by decide⟩] at e; cases e)⟩
      rw [okI_pos ⟨by decide, by decide⟩] at hm
      cases hm
      intro H36 x36 L36 s36 nx36 hB36 e361 e362
      have W36 := W35.same s36
      refine ⟨[a], x35, x36, L35, L36, _, _, _, _, _, _, _, _, _, _, _, _, rfl, W36.src.trk, (hB35.same hide_same).same s36, chain_brd (n := 6) (by decide) (by decide), hB36.same hide_same, chain_brd (n := 10) (by decide) (by decide), fun _ H37 z37 L37 s37 nz37 hB37 e371 e372 => ?_, fun h => absurd h (by decide)⟩
      refine ⟨z37, (hB37.same hide_same).ob.choose, _, rfl, (hB37.same hide_same).ob.choose_spec, z37, L37, _, _, _, _, rfl, hB37.same hide_same, 60, rfl, by decide, (by show 2 ≤ sizeLine; decide), fun q1 nq1 => ?_⟩
      refine ⟨_, rfl, (by show 2 ≤ sizeLine; decide), fun q2 nq2 => ?_⟩
      have t1 := same_upd (o := .lst [.str "TooManyPlaces", .int 60]) nq2
      refine ⟨.list [.str "TooManyPlaces", .int 60], .list [.str "TooManyPlaces", .int 60], .lst (SqL.of (t1 _ _ upd_same)) (.cons (.str _) (.cons (.int _) .nil)), .lst (SqL.of upd_same) (.cons (.str _) (.cons (.int _) .nil)), by decide +kernel, by decide +kernel, ?_⟩
      rw [show PyData.eqv (.list [.str "TooManyPlaces", .int 60]) (.list [.str "TooManyPlaces", .int 60]) = true from by decide +kernel]
      exact q _
end
end FvO


namespace Fv
open PySem PySem.Spec PyProof.Rows L2 FvX
open FvO (s_law s_are_square s_columns_of s_masks_of s_bound_table)
abbrev s_InvalidTerm : Stmt := inClass (topS 3) 0
def q_InvalidTerm : ErrPos := { p0 := ⟨10, 8, 10, 13⟩, p1 := ⟨10, 8, 10, 15⟩, p2 := ⟨10, 8, 10, 24⟩, p3 := ⟨10, 25, 10, 45⟩, p4 := ⟨10, 8, 10, 46⟩, p5 := ⟨10, 8, 10, 46⟩, p6 := ⟨11, 8, 11, 12⟩, p7 := ⟨11, 8, 11, 17⟩, p8 := ⟨11, 20, 11, 33⟩, p9 := ⟨11, 8, 11, 33⟩, pp := ⟨9, 17, 9, 21⟩ }
abbrev s_InvalidBoard : Stmt := inClass (topS 4) 0
def q_InvalidBoard : ErrPos := { p0 := ⟨15, 8, 15, 13⟩, p1 := ⟨15, 8, 15, 15⟩, p2 := ⟨15, 8, 15, 24⟩, p3 := ⟨15, 25, 15, 46⟩, p4 := ⟨15, 8, 15, 47⟩, p5 := ⟨15, 8, 15, 47⟩, p6 := ⟨16, 8, 16, 12⟩, p7 := ⟨16, 8, 16, 17⟩, p8 := ⟨16, 20, 16, 34⟩, p9 := ⟨16, 8, 16, 34⟩, pp := ⟨14, 17, 14, 21⟩ }
abbrev s_InvalidPlace : Stmt := inClass (topS 5) 0
def me_InvalidPlace : Expr := match defBody s_InvalidPlace with
  | .Expr (.Call _ [e] _ _) _ :: _ => e
  | _ => .Constant .none 0 ⟨0, 0, 0, 0⟩
def q_InvalidPlace : ErrPos1 := { p0 := ⟨20, 8, 20, 13⟩, p1 := ⟨20, 8, 20, 15⟩, p2 := ⟨20, 8, 20, 24⟩, p4 := ⟨20, 8, 20, 72⟩, p5 := ⟨20, 8, 20, 72⟩, p6 := ⟨21, 8, 21, 12⟩, p7 := ⟨21, 8, 21, 17⟩, p8 := ⟨21, 20, 21, 34⟩, p9 := ⟨21, 8, 21, 34⟩, p10 := ⟨22, 8, 22, 12⟩, p11 := ⟨22, 8, 22, 18⟩, p12 := ⟨22, 21, 22, 26⟩, p13 := ⟨22, 8, 22, 26⟩, pp := ⟨19, 17, 19, 21⟩, pp2 := ⟨19, 23, 19, 28⟩ }
theorem hme_InvalidPlace : ∀ u, MsgV u → MsgOk me_InvalidPlace "place" u := fun u hu => (msg2 (pre := "this is not a place of the board: ") (by decide +kernel) hu : MsgOk me_InvalidPlace "place" u)
abbrev s_InvalidReading : Stmt := inClass (topS 6) 0
def me_InvalidReading : Expr := match defBody s_InvalidReading with
  | .Expr (.Call _ [e] _ _) _ :: _ => e
  | _ => .Constant .none 0 ⟨0, 0, 0, 0⟩
def q_InvalidReading : ErrPos1 := { p0 := ⟨26, 8, 26, 13⟩, p1 := ⟨26, 8, 26, 15⟩, p2 := ⟨26, 8, 26, 24⟩, p4 := ⟨26, 8, 26, 79⟩, p5 := ⟨26, 8, 26, 79⟩, p6 := ⟨27, 8, 27, 12⟩, p7 := ⟨27, 8, 27, 17⟩, p8 := ⟨27, 20, 27, 36⟩, p9 := ⟨27, 8, 27, 36⟩, p10 := ⟨28, 8, 28, 12⟩, p11 := ⟨28, 8, 28, 19⟩, p12 := ⟨28, 22, 28, 28⟩, p13 := ⟨28, 8, 28, 28⟩, pp := ⟨25, 17, 25, 21⟩, pp2 := ⟨25, 23, 25, 29⟩ }
theorem hme_InvalidReading : ∀ u, MsgV u → MsgOk me_InvalidReading "letter" u := fun u hu => (msg2 (pre := "the reading has no place for the letter ") (by decide +kernel) hu : MsgOk me_InvalidReading "letter" u)
abbrev s_TooManyPlaces : Stmt := inClass (topS 7) 0
def me_TooManyPlaces : Expr := match defBody s_TooManyPlaces with
  | .Expr (.Call _ [e] _ _) _ :: _ => e
  | _ => .Constant .none 0 ⟨0, 0, 0, 0⟩
def q_TooManyPlaces : ErrPos1 := { p0 := ⟨32, 8, 32, 13⟩, p1 := ⟨32, 8, 32, 15⟩, p2 := ⟨32, 8, 32, 24⟩, p4 := ⟨32, 8, 32, 76⟩, p5 := ⟨32, 8, 32, 76⟩, p6 := ⟨33, 8, 33, 12⟩, p7 := ⟨33, 8, 33, 17⟩, p8 := ⟨33, 20, 33, 35⟩, p9 := ⟨33, 8, 33, 35⟩, p10 := ⟨34, 8, 34, 12⟩, p11 := ⟨34, 8, 34, 18⟩, p12 := ⟨34, 21, 34, 26⟩, p13 := ⟨34, 8, 34, 26⟩, pp := ⟨31, 17, 31, 21⟩, pp2 := ⟨31, 23, 31, 28⟩ }
theorem hme_TooManyPlaces : ∀ u, MsgV u → MsgOk me_TooManyPlaces "limit" u := fun u hu => (msg3 (pre := "the board would have more than ") (post := " places") (by decide +kernel) (by decide +kernel) hu : MsgOk me_TooManyPlaces "limit" u)
theorem kw_all {K : PySem.W.Frag} {D : Addr} {kws : List (Str × V)} (h : ∀ q ∈ kws, ∃ u, PySem.W.nsIn K D q.1 = some (some u) ∧ RelV q.2 u) : ∀ q ∈ kws, ∃ u, PySem.W.nsIn K D q.1 = some (some u) ∧ RelV q.2 u := h
set_option maxHeartbeats 8000000 in
theorem all_mk {l : PySem.W.OpenLaw} {w : World} {K : PySem.W.Frag} {h : Heap} {mg : Str → Option Value} {fa : Addr} (X : K.In h) (G : h.Ns mainGlobals mg) (hfa : mg "law" = some (.ref fa))
    {f1 : Addr} {od1 an1 : Option Addr} {sl1 : Array (Option Value)} {oc1 dc1 pm1 cd1 ct1 : Value}
    {kV1 : Value}
    {f2 : Addr} {od2 an2 : Option Addr} {sl2 : Array (Option Value)} {oc2 dc2 pm2 cd2 ct2 : Value}
    {kV2 : Value}
    {f3 : Addr} {od3 an3 : Option Addr} {sl3 : Array (Option Value)} {oc3 dc3 pm3 cd3 ct3 : Value}
    {kV3 : Value}
    {f4 : Addr} {od4 an4 : Option Addr} {sl4 : Array (Option Value)} {oc4 dc4 pm4 cd4 ct4 : Value}
    {kV4 : Value}
    {f5 : Addr} {od5 an5 : Option Addr} {sl5 : Array (Option Value)} {oc5 dc5 pm5 cd5 ct5 : Value}
    {kV5 : Value}
    {f6 : Addr} {od6 an6 : Option Addr} {sl6 : Array (Option Value)} {oc6 dc6 pm6 cd6 ct6 : Value}
    {kV6 : Value}
    {f7 : Addr} {od7 an7 : Option Addr} {sl7 : Array (Option Value)} {oc7 dc7 pm7 cd7 ct7 : Value}
    {kV7 : Value}
    {f8 : Addr} {od8 an8 : Option Addr} {sl8 : Array (Option Value)} {oc8 dc8 pm8 cd8 ct8 : Value}
    {kV8 : Value}
    {f9 : Addr} {od9 an9 : Option Addr} {sl9 : Array (Option Value)} {oc9 dc9 pm9 cd9 ct9 : Value}
    {kV9 : Value}
    {f10 : Addr} {od10 an10 : Option Addr} {sl10 : Array (Option Value)} {oc10 dc10 pm10 cd10 ct10 : Value}
    {kV10 : Value}
    {f11 : Addr} {od11 an11 : Option Addr} {sl11 : Array (Option Value)} {oc11 dc11 pm11 cd11 ct11 : Value}
    {kV11 : Value}
    {f12 : Addr} {od12 an12 : Option Addr} {sl12 : Array (Option Value)} {oc12 dc12 pm12 cd12 ct12 : Value}
    {kV12 : Value}
    {f13 : Addr} {od13 an13 : Option Addr} {sl13 : Array (Option Value)} {oc13 dc13 pm13 cd13 ct13 : Value}
    {kV13 : Value}
    {f14 : Addr} {od14 an14 : Option Addr} {sl14 : Array (Option Value)} {oc14 dc14 pm14 cd14 ct14 : Value}
    {kV14 : Value}
    {f15 : Addr} {od15 an15 : Option Addr} {sl15 : Array (Option Value)} {oc15 dc15 pm15 cd15 ct15 : Value}
    {kV15 : Value}
    {f16 : Addr} {od16 an16 : Option Addr} {sl16 : Array (Option Value)} {oc16 dc16 pm16 cd16 ct16 : Value}
    {kV16 : Value}
    {f17 : Addr} {od17 an17 : Option Addr} {sl17 : Array (Option Value)} {oc17 dc17 pm17 cd17 ct17 : Value}
    {kV17 : Value}
    {f18 : Addr} {od18 an18 : Option Addr} {sl18 : Array (Option Value)} {oc18 dc18 pm18 cd18 ct18 : Value}
    {kV18 : Value}
    {f19 : Addr} {od19 an19 : Option Addr} {sl19 : Array (Option Value)} {oc19 dc19 pm19 cd19 ct19 : Value}
    {kV19 : Value}
    {f20 : Addr} {od20 an20 : Option Addr} {sl20 : Array (Option Value)} {oc20 dc20 pm20 cd20 ct20 : Value}
    {kV20 : Value}
    {f21 : Addr} {od21 an21 : Option Addr} {sl21 : Array (Option Value)} {oc21 dc21 pm21 cd21 ct21 : Value}
    {kV21 : Value}
    {f22 : Addr} {od22 an22 : Option Addr} {sl22 : Array (Option Value)} {oc22 dc22 pm22 cd22 ct22 : Value}
    {kV22 : Value}
    {f23 : Addr} {od23 an23 : Option Addr} {sl23 : Array (Option Value)} {oc23 dc23 pm23 cd23 ct23 : Value}
    {kV23 : Value}
    {f24 : Addr} {od24 an24 : Option Addr} {sl24 : Array (Option Value)} {oc24 dc24 pm24 cd24 ct24 : Value}
    {kV24 : Value}
    {f25 : Addr} {od25 an25 : Option Addr} {sl25 : Array (Option Value)} {oc25 dc25 pm25 cd25 ct25 : Value}
    {kV25 : Value}
    {f26 : Addr} {od26 an26 : Option Addr} {sl26 : Array (Option Value)} {oc26 dc26 pm26 cd26 ct26 : Value}
    {kV26 : Value}
    {f27 : Addr} {od27 an27 : Option Addr} {sl27 : Array (Option Value)} {oc27 dc27 pm27 cd27 ct27 : Value}
    {kV27 : Value}
    {f28 : Addr} {od28 an28 : Option Addr} {sl28 : Array (Option Value)} {oc28 dc28 pm28 cd28 ct28 : Value}
    {kV28 : Value}
    {f29 : Addr} {od29 an29 : Option Addr} {sl29 : Array (Option Value)} {oc29 dc29 pm29 cd29 ct29 : Value}
    {kV29 : Value}
    {f30 : Addr} {od30 an30 : Option Addr} {sl30 : Array (Option Value)} {oc30 dc30 pm30 cd30 ct30 : Value}
    {kV30 : Value}
    {ctLETTERS : Tok}
    {oA1 : Addr} {ob1 : Option Addr} {on1 : Nat} {os1 : Array (Option Value)} {ot1_0 : Tok} {ot1_1 : Tok}
    {ctLONG_DEPTH : Tok}
    {ctLONG_SIZE : Tok}
    {CF : Addr}
    {C_InvalidTerm f_InvalidTerm : Addr} {eoc_InvalidTerm : Value} {eod_InvalidTerm ean_InvalidTerm : Option Addr} {eosl_InvalidTerm : Array (Option Value)} {ekV_InvalidTerm edoc_InvalidTerm epm_InvalidTerm ect_InvalidTerm : Value} {cda_InvalidTerm ecc_InvalidTerm : Addr} {eccl_InvalidTerm ecl_InvalidTerm : Value} {ecdd_InvalidTerm ecld_InvalidTerm : Option Addr} {evs_InvalidTerm : Array Value} {eccs_InvalidTerm ecsl_InvalidTerm : Array (Option Value)} {efile_InvalidTerm : Str} {etf_InvalidTerm : Tok}
    {nm_InvalidTerm eq_InvalidTerm : Str} {eN_InvalidTerm : Addr} {ebs_InvalidTerm ebm_InvalidTerm : List Value} {esn_InvalidTerm : List Str} {esub_InvalidTerm : List Value} {eab_InvalidTerm : Bool} {ecol_InvalidTerm : Option Bool} {edd_InvalidTerm : Option Addr} {ek0_InvalidTerm ek1_InvalidTerm ek2_InvalidTerm ek3_InvalidTerm ek5_InvalidTerm : Option Value}
    {C_InvalidBoard f_InvalidBoard : Addr} {eoc_InvalidBoard : Value} {eod_InvalidBoard ean_InvalidBoard : Option Addr} {eosl_InvalidBoard : Array (Option Value)} {ekV_InvalidBoard edoc_InvalidBoard epm_InvalidBoard ect_InvalidBoard : Value} {cda_InvalidBoard ecc_InvalidBoard : Addr} {eccl_InvalidBoard ecl_InvalidBoard : Value} {ecdd_InvalidBoard ecld_InvalidBoard : Option Addr} {evs_InvalidBoard : Array Value} {eccs_InvalidBoard ecsl_InvalidBoard : Array (Option Value)} {efile_InvalidBoard : Str} {etf_InvalidBoard : Tok}
    {nm_InvalidBoard eq_InvalidBoard : Str} {eN_InvalidBoard : Addr} {ebs_InvalidBoard ebm_InvalidBoard : List Value} {esn_InvalidBoard : List Str} {esub_InvalidBoard : List Value} {eab_InvalidBoard : Bool} {ecol_InvalidBoard : Option Bool} {edd_InvalidBoard : Option Addr} {ek0_InvalidBoard ek1_InvalidBoard ek2_InvalidBoard ek3_InvalidBoard ek5_InvalidBoard : Option Value}
    {C_InvalidPlace f_InvalidPlace : Addr} {eoc_InvalidPlace : Value} {eod_InvalidPlace ean_InvalidPlace : Option Addr} {eosl_InvalidPlace : Array (Option Value)} {ekV_InvalidPlace edoc_InvalidPlace epm_InvalidPlace ect_InvalidPlace : Value} {cda_InvalidPlace ecc_InvalidPlace : Addr} {eccl_InvalidPlace ecl_InvalidPlace : Value} {ecdd_InvalidPlace ecld_InvalidPlace : Option Addr} {evs_InvalidPlace : Array Value} {eccs_InvalidPlace ecsl_InvalidPlace : Array (Option Value)} {efile_InvalidPlace : Str} {etf_InvalidPlace : Tok}
    {nm_InvalidPlace eq_InvalidPlace : Str} {eN_InvalidPlace : Addr} {ebs_InvalidPlace ebm_InvalidPlace : List Value} {esn_InvalidPlace : List Str} {esub_InvalidPlace : List Value} {eab_InvalidPlace : Bool} {ecol_InvalidPlace : Option Bool} {edd_InvalidPlace : Option Addr} {ek0_InvalidPlace ek1_InvalidPlace ek2_InvalidPlace ek3_InvalidPlace ek5_InvalidPlace : Option Value}
    {C_InvalidReading f_InvalidReading : Addr} {eoc_InvalidReading : Value} {eod_InvalidReading ean_InvalidReading : Option Addr} {eosl_InvalidReading : Array (Option Value)} {ekV_InvalidReading edoc_InvalidReading epm_InvalidReading ect_InvalidReading : Value} {cda_InvalidReading ecc_InvalidReading : Addr} {eccl_InvalidReading ecl_InvalidReading : Value} {ecdd_InvalidReading ecld_InvalidReading : Option Addr} {evs_InvalidReading : Array Value} {eccs_InvalidReading ecsl_InvalidReading : Array (Option Value)} {efile_InvalidReading : Str} {etf_InvalidReading : Tok}
    {nm_InvalidReading eq_InvalidReading : Str} {eN_InvalidReading : Addr} {ebs_InvalidReading ebm_InvalidReading : List Value} {esn_InvalidReading : List Str} {esub_InvalidReading : List Value} {eab_InvalidReading : Bool} {ecol_InvalidReading : Option Bool} {edd_InvalidReading : Option Addr} {ek0_InvalidReading ek1_InvalidReading ek2_InvalidReading ek3_InvalidReading ek5_InvalidReading : Option Value}
    {C_TooManyPlaces f_TooManyPlaces : Addr} {eoc_TooManyPlaces : Value} {eod_TooManyPlaces ean_TooManyPlaces : Option Addr} {eosl_TooManyPlaces : Array (Option Value)} {ekV_TooManyPlaces edoc_TooManyPlaces epm_TooManyPlaces ect_TooManyPlaces : Value} {cda_TooManyPlaces ecc_TooManyPlaces : Addr} {eccl_TooManyPlaces ecl_TooManyPlaces : Value} {ecdd_TooManyPlaces ecld_TooManyPlaces : Option Addr} {evs_TooManyPlaces : Array Value} {eccs_TooManyPlaces ecsl_TooManyPlaces : Array (Option Value)} {efile_TooManyPlaces : Str} {etf_TooManyPlaces : Tok}
    {nm_TooManyPlaces eq_TooManyPlaces : Str} {eN_TooManyPlaces : Addr} {ebs_TooManyPlaces ebm_TooManyPlaces : List Value} {esn_TooManyPlaces : List Str} {esub_TooManyPlaces : List Value} {eab_TooManyPlaces : Bool} {ecol_TooManyPlaces : Option Bool} {edd_TooManyPlaces : Option Addr} {ek0_TooManyPlaces ek1_TooManyPlaces ek2_TooManyPlaces ek3_TooManyPlaces ek5_TooManyPlaces : Option Value}
    {C_Board : Addr}
    {f_Board_init : Addr} {od_Board_init an_Board_init : Option Addr} {sl_Board_init : Array (Option Value)} {oc_Board_init kV_Board_init dc_Board_init pm_Board_init cd_Board_init ct_Board_init : Value}
    {f_Board_chain : Addr} {od_Board_chain an_Board_chain : Option Addr} {sl_Board_chain : Array (Option Value)} {oc_Board_chain kV_Board_chain dc_Board_chain pm_Board_chain cd_Board_chain ct_Board_chain : Value}
    {mc_Board : Value}
    {pr_Board_chain : Addr} {re_Board_chain : List Value}
    {f_Board_rows : Addr} {od_Board_rows an_Board_rows : Option Addr} {sl_Board_rows : Array (Option Value)} {oc_Board_rows kV_Board_rows dc_Board_rows pm_Board_rows cd_Board_rows ct_Board_rows : Value}
    {f_Board_has_place : Addr} {od_Board_has_place an_Board_has_place : Option Addr} {sl_Board_has_place : Array (Option Value)} {oc_Board_has_place kV_Board_has_place dc_Board_has_place pm_Board_has_place cd_Board_has_place ct_Board_has_place : Value}
    {f_Board_check_places : Addr} {od_Board_check_places an_Board_check_places : Option Addr} {sl_Board_check_places : Array (Option Value)} {oc_Board_check_places kV_Board_check_places dc_Board_check_places pm_Board_check_places cd_Board_check_places ct_Board_check_places : Value}
    {f_Board_is_below : Addr} {od_Board_is_below an_Board_is_below : Option Addr} {sl_Board_is_below : Array (Option Value)} {oc_Board_is_below kV_Board_is_below dc_Board_is_below pm_Board_is_below cd_Board_is_below ct_Board_is_below : Value}
    {f_Board_low : Addr} {od_Board_low an_Board_low : Option Addr} {sl_Board_low : Array (Option Value)} {oc_Board_low kV_Board_low dc_Board_low pm_Board_low cd_Board_low ct_Board_low : Value}
    {f_Board_up : Addr} {od_Board_up an_Board_up : Option Addr} {sl_Board_up : Array (Option Value)} {oc_Board_up kV_Board_up dc_Board_up pm_Board_up cd_Board_up ct_Board_up : Value}
    {f_Board_check_reading : Addr} {od_Board_check_reading an_Board_check_reading : Option Addr} {sl_Board_check_reading : Array (Option Value)} {oc_Board_check_reading kV_Board_check_reading dc_Board_check_reading pm_Board_check_reading cd_Board_check_reading ct_Board_check_reading : Value}
    {f_Board_place_of : Addr} {od_Board_place_of an_Board_place_of : Option Addr} {sl_Board_place_of : Array (Option Value)} {oc_Board_place_of kV_Board_place_of dc_Board_place_of pm_Board_place_of cd_Board_place_of ct_Board_place_of : Value}
    {f_Board_value : Addr} {od_Board_value an_Board_value : Option Addr} {sl_Board_value : Array (Option Value)} {oc_Board_value kV_Board_value dc_Board_value pm_Board_value cd_Board_value ct_Board_value : Value}
    {f_Board_spreads : Addr} {od_Board_spreads an_Board_spreads : Option Addr} {sl_Board_spreads : Array (Option Value)} {oc_Board_spreads kV_Board_spreads dc_Board_spreads pm_Board_spreads cd_Board_spreads ct_Board_spreads : Value}
    {f_Board_product : Addr} {od_Board_product an_Board_product : Option Addr} {sl_Board_product : Array (Option Value)} {oc_Board_product kV_Board_product dc_Board_product pm_Board_product cd_Board_product ct_Board_product : Value}
    {f_Board_len : Addr} {od_Board_len an_Board_len : Option Addr} {sl_Board_len : Array (Option Value)} {oc_Board_len kV_Board_len dc_Board_len pm_Board_len cd_Board_len ct_Board_len : Value}
    {tk_Board : Tok}
    (a1 : PySem.W.nsIn K mainGlobals "is_letter" = some (some (.ref f1))) (l1 : K.lookup f1 = some ⟨oc1, od1, .func (PySem.W.fnOf "is_letter" "is_letter" (defArgs s_is_letter) (defBody s_is_letter) (defScope s_is_letter) .none kV1 dc1 pm1 an1 cd1 ct1), sl1⟩) (c1 : PySem.W.codeIn K cd1 "is_letter" = true) (k1 : PySem.W.keepIn K (.ref f1) = true)
    (a2 : PySem.W.nsIn K mainGlobals "is_compound" = some (some (.ref f2))) (l2 : K.lookup f2 = some ⟨oc2, od2, .func (PySem.W.fnOf "is_compound" "is_compound" (defArgs s_is_compound) (defBody s_is_compound) (defScope s_is_compound) .none kV2 dc2 pm2 an2 cd2 ct2), sl2⟩) (c2 : PySem.W.codeIn K cd2 "is_compound" = true) (k2 : PySem.W.keepIn K (.ref f2) = true)
    (a3 : PySem.W.nsIn K mainGlobals "measured" = some (some (.ref f3))) (l3 : K.lookup f3 = some ⟨oc3, od3, .func (PySem.W.fnOf "measured" "measured" (defArgs s_measured) (defBody s_measured) (defScope s_measured) .none kV3 dc3 pm3 an3 cd3 ct3), sl3⟩) (c3 : PySem.W.codeIn K cd3 "measured" = true) (k3 : PySem.W.keepIn K (.ref f3) = true)
    (a4 : PySem.W.nsIn K mainGlobals "measured_long" = some (some (.ref f4))) (l4 : K.lookup f4 = some ⟨oc4, od4, .func (PySem.W.fnOf "measured_long" "measured_long" (defArgs s_measured_long) (defBody s_measured_long) (defScope s_measured_long) .none kV4 dc4 pm4 an4 cd4 ct4), sl4⟩) (c4 : PySem.W.codeIn K cd4 "measured_long" = true) (k4 : PySem.W.keepIn K (.ref f4) = true)
    (a5 : PySem.W.nsIn K mainGlobals "letters" = some (some (.ref f5))) (l5 : K.lookup f5 = some ⟨oc5, od5, .func (PySem.W.fnOf "letters" "letters" (defArgs s_letters) (defBody s_letters) (defScope s_letters) .none kV5 dc5 pm5 an5 cd5 ct5), sl5⟩) (c5 : PySem.W.codeIn K cd5 "letters" = true) (k5 : PySem.W.keepIn K (.ref f5) = true)
    (a6 : PySem.W.nsIn K mainGlobals "walk" = some (some (.ref f6))) (l6 : K.lookup f6 = some ⟨oc6, od6, .func (PySem.W.fnOf "walk" "walk" (defArgs s_walk) (defBody s_walk) (defScope s_walk) .none kV6 dc6 pm6 an6 cd6 ct6), sl6⟩) (c6 : PySem.W.codeIn K cd6 "walk" = true) (k6 : PySem.W.keepIn K (.ref f6) = true)
    (a7 : PySem.W.nsIn K mainGlobals "subterms" = some (some (.ref f7))) (l7 : K.lookup f7 = some ⟨oc7, od7, .func (PySem.W.fnOf "subterms" "subterms" (defArgs s_subterms) (defBody s_subterms) (defScope s_subterms) .none kV7 dc7 pm7 an7 cd7 ct7), sl7⟩) (c7 : PySem.W.codeIn K cd7 "subterms" = true) (k7 : PySem.W.keepIn K (.ref f7) = true)
    (a8 : PySem.W.nsIn K mainGlobals "are_square" = some (some (.ref f8))) (l8 : K.lookup f8 = some ⟨oc8, od8, .func (PySem.W.fnOf "are_square" "are_square" (defArgs s_are_square) (defBody s_are_square) (defScope s_are_square) .none kV8 dc8 pm8 an8 cd8 ct8), sl8⟩) (c8 : PySem.W.codeIn K cd8 "are_square" = true) (k8 : PySem.W.keepIn K (.ref f8) = true)
    (a9 : PySem.W.nsIn K mainGlobals "columns_of" = some (some (.ref f9))) (l9 : K.lookup f9 = some ⟨oc9, od9, .func (PySem.W.fnOf "columns_of" "columns_of" (defArgs s_columns_of) (defBody s_columns_of) (defScope s_columns_of) .none kV9 dc9 pm9 an9 cd9 ct9), sl9⟩) (c9 : PySem.W.codeIn K cd9 "columns_of" = true) (k9 : PySem.W.keepIn K (.ref f9) = true)
    (a10 : PySem.W.nsIn K mainGlobals "masks_of" = some (some (.ref f10))) (l10 : K.lookup f10 = some ⟨oc10, od10, .func (PySem.W.fnOf "masks_of" "masks_of" (defArgs s_masks_of) (defBody s_masks_of) (defScope s_masks_of) .none kV10 dc10 pm10 an10 cd10 ct10), sl10⟩) (c10 : PySem.W.codeIn K cd10 "masks_of" = true) (k10 : PySem.W.keepIn K (.ref f10) = true)
    (a11 : PySem.W.nsIn K mainGlobals "bound_table" = some (some (.ref f11))) (l11 : K.lookup f11 = some ⟨oc11, od11, .func (PySem.W.fnOf "bound_table" "bound_table" (defArgs s_bound_table) (defBody s_bound_table) (defScope s_bound_table) .none kV11 dc11 pm11 an11 cd11 ct11), sl11⟩) (c11 : PySem.W.codeIn K cd11 "bound_table" = true) (k11 : PySem.W.keepIn K (.ref f11) = true)
    (a12 : PySem.W.nsIn K mainGlobals "_law_source" = some (some (.ref f12))) (l12 : K.lookup f12 = some ⟨oc12, od12, .func (PySem.W.fnOf "_law_source" "_law_source" (defArgs s_law_source) (defBody s_law_source) (defScope s_law_source) .none kV12 dc12 pm12 an12 cd12 ct12), sl12⟩) (c12 : PySem.W.codeIn K cd12 "_law_source" = true) (k12 : PySem.W.keepIn K (.ref f12) = true)
    (a13 : PySem.W.nsIn K mainGlobals "_law_take" = some (some (.ref f13))) (l13 : K.lookup f13 = some ⟨oc13, od13, .func (PySem.W.fnOf "_law_take" "_law_take" (defArgs s_law_take) (defBody s_law_take) (defScope s_law_take) .none kV13 dc13 pm13 an13 cd13 ct13), sl13⟩) (c13 : PySem.W.codeIn K cd13 "_law_take" = true) (k13 : PySem.W.keepIn K (.ref f13) = true)
    (a14 : PySem.W.nsIn K mainGlobals "_law_pick" = some (some (.ref f14))) (l14 : K.lookup f14 = some ⟨oc14, od14, .func (PySem.W.fnOf "_law_pick" "_law_pick" (defArgs s_law_pick) (defBody s_law_pick) (defScope s_law_pick) .none kV14 dc14 pm14 an14 cd14 ct14), sl14⟩) (c14 : PySem.W.codeIn K cd14 "_law_pick" = true) (k14 : PySem.W.keepIn K (.ref f14) = true)
    (a15 : PySem.W.nsIn K mainGlobals "_law_mixed" = some (some (.ref f15))) (l15 : K.lookup f15 = some ⟨oc15, od15, .func (PySem.W.fnOf "_law_mixed" "_law_mixed" (defArgs s_law_mixed) (defBody s_law_mixed) (defScope s_law_mixed) .none kV15 dc15 pm15 an15 cd15 ct15), sl15⟩) (c15 : PySem.W.codeIn K cd15 "_law_mixed" = true) (k15 : PySem.W.keepIn K (.ref f15) = true)
    (a16 : PySem.W.nsIn K mainGlobals "_law_same" = some (some (.ref f16))) (l16 : K.lookup f16 = some ⟨oc16, od16, .func (PySem.W.fnOf "_law_same" "_law_same" (defArgs s_law_same) (defBody s_law_same) (defScope s_law_same) .none kV16 dc16 pm16 an16 cd16 ct16), sl16⟩) (c16 : PySem.W.codeIn K cd16 "_law_same" = true) (k16 : PySem.W.keepIn K (.ref f16) = true)
    (a17 : PySem.W.nsIn K mainGlobals "_law_call" = some (some (.ref f17))) (l17 : K.lookup f17 = some ⟨oc17, od17, .func (PySem.W.fnOf "_law_call" "_law_call" (defArgs s_law_call) (defBody s_law_call) (defScope s_law_call) .none kV17 dc17 pm17 an17 cd17 ct17), sl17⟩) (c17 : PySem.W.codeIn K cd17 "_law_call" = true) (k17 : PySem.W.keepIn K (.ref f17) = true)
    (a18 : PySem.W.nsIn K mainGlobals "_law_term" = some (some (.ref f18))) (l18 : K.lookup f18 = some ⟨oc18, od18, .func (PySem.W.fnOf "_law_term" "_law_term" (defArgs s_law_term) (defBody s_law_term) (defScope s_law_term) .none kV18 dc18 pm18 an18 cd18 ct18), sl18⟩) (c18 : PySem.W.codeIn K cd18 "_law_term" = true) (k18 : PySem.W.keepIn K (.ref f18) = true)
    (a19 : PySem.W.nsIn K mainGlobals "_law_any_term" = some (some (.ref f19))) (l19 : K.lookup f19 = some ⟨oc19, od19, .func (PySem.W.fnOf "_law_any_term" "_law_any_term" (defArgs s_law_any_term) (defBody s_law_any_term) (defScope s_law_any_term) .none kV19 dc19 pm19 an19 cd19 ct19), sl19⟩) (c19 : PySem.W.codeIn K cd19 "_law_any_term" = true) (k19 : PySem.W.keepIn K (.ref f19) = true)
    (a20 : PySem.W.nsIn K mainGlobals "_law_signs" = some (some (.ref f20))) (l20 : K.lookup f20 = some ⟨oc20, od20, .func (PySem.W.fnOf "_law_signs" "_law_signs" (defArgs s_law_signs) (defBody s_law_signs) (defScope s_law_signs) .none kV20 dc20 pm20 an20 cd20 ct20), sl20⟩) (c20 : PySem.W.codeIn K cd20 "_law_signs" = true) (k20 : PySem.W.keepIn K (.ref f20) = true)
    (a21 : PySem.W.nsIn K mainGlobals "_law_copied" = some (some (.ref f21))) (l21 : K.lookup f21 = some ⟨oc21, od21, .func (PySem.W.fnOf "_law_copied" "_law_copied" (defArgs s_law_copied) (defBody s_law_copied) (defScope s_law_copied) .none kV21 dc21 pm21 an21 cd21 ct21), sl21⟩) (c21 : PySem.W.codeIn K cd21 "_law_copied" = true) (k21 : PySem.W.keepIn K (.ref f21) = true)
    (a22 : PySem.W.nsIn K mainGlobals "_law_family" = some (some (.ref f22))) (l22 : K.lookup f22 = some ⟨oc22, od22, .func (PySem.W.fnOf "_law_family" "_law_family" (defArgs s_law_family) (defBody s_law_family) (defScope s_law_family) .none kV22 dc22 pm22 an22 cd22 ct22), sl22⟩) (c22 : PySem.W.codeIn K cd22 "_law_family" = true) (k22 : PySem.W.keepIn K (.ref f22) = true)
    (a23 : PySem.W.nsIn K mainGlobals "_law_rows" = some (some (.ref f23))) (l23 : K.lookup f23 = some ⟨oc23, od23, .func (PySem.W.fnOf "_law_rows" "_law_rows" (defArgs s_law_rows) (defBody s_law_rows) (defScope s_law_rows) .none kV23 dc23 pm23 an23 cd23 ct23), sl23⟩) (c23 : PySem.W.codeIn K cd23 "_law_rows" = true) (k23 : PySem.W.keepIn K (.ref f23) = true)
    (a24 : PySem.W.nsIn K mainGlobals "_law_some_rows" = some (some (.ref f24))) (l24 : K.lookup f24 = some ⟨oc24, od24, .func (PySem.W.fnOf "_law_some_rows" "_law_some_rows" (defArgs s_law_some_rows) (defBody s_law_some_rows) (defScope s_law_some_rows) .none kV24 dc24 pm24 an24 cd24 ct24), sl24⟩) (c24 : PySem.W.codeIn K cd24 "_law_some_rows" = true) (k24 : PySem.W.keepIn K (.ref f24) = true)
    (a25 : PySem.W.nsIn K mainGlobals "_law_low" = some (some (.ref f25))) (l25 : K.lookup f25 = some ⟨oc25, od25, .func (PySem.W.fnOf "_law_low" "_law_low" (defArgs s_law_low) (defBody s_law_low) (defScope s_law_low) .none kV25 dc25 pm25 an25 cd25 ct25), sl25⟩) (c25 : PySem.W.codeIn K cd25 "_law_low" = true) (k25 : PySem.W.keepIn K (.ref f25) = true)
    (a26 : PySem.W.nsIn K mainGlobals "_law_up" = some (some (.ref f26))) (l26 : K.lookup f26 = some ⟨oc26, od26, .func (PySem.W.fnOf "_law_up" "_law_up" (defArgs s_law_up) (defBody s_law_up) (defScope s_law_up) .none kV26 dc26 pm26 an26 cd26 ct26), sl26⟩) (c26 : PySem.W.codeIn K cd26 "_law_up" = true) (k26 : PySem.W.keepIn K (.ref f26) = true)
    (a27 : PySem.W.nsIn K mainGlobals "_law_tables" = some (some (.ref f27))) (l27 : K.lookup f27 = some ⟨oc27, od27, .func (PySem.W.fnOf "_law_tables" "_law_tables" (defArgs s_law_tables) (defBody s_law_tables) (defScope s_law_tables) .none kV27 dc27 pm27 an27 cd27 ct27), sl27⟩) (c27 : PySem.W.codeIn K cd27 "_law_tables" = true) (k27 : PySem.W.keepIn K (.ref f27) = true)
    (a28 : PySem.W.nsIn K mainGlobals "_law_spreads" = some (some (.ref f28))) (l28 : K.lookup f28 = some ⟨oc28, od28, .func (PySem.W.fnOf "_law_spreads" "_law_spreads" (defArgs s_law_spreads) (defBody s_law_spreads) (defScope s_law_spreads) .none kV28 dc28 pm28 an28 cd28 ct28), sl28⟩) (c28 : PySem.W.codeIn K cd28 "_law_spreads" = true) (k28 : PySem.W.keepIn K (.ref f28) = true)
    (a29 : PySem.W.nsIn K mainGlobals "_law_placed" = some (some (.ref f29))) (l29 : K.lookup f29 = some ⟨oc29, od29, .func (PySem.W.fnOf "_law_placed" "_law_placed" (defArgs s_law_placed) (defBody s_law_placed) (defScope s_law_placed) .none kV29 dc29 pm29 an29 cd29 ct29), sl29⟩) (c29 : PySem.W.codeIn K cd29 "_law_placed" = true) (k29 : PySem.W.keepIn K (.ref f29) = true)
    (a30 : PySem.W.nsIn K mainGlobals "law" = some (some (.ref f30))) (l30 : K.lookup f30 = some ⟨oc30, od30, .func (PySem.W.fnOf "law" "law" (defArgs s_law) (defBody s_law) (defScope s_law) .none kV30 dc30 pm30 an30 cd30 ct30), sl30⟩) (c30 : PySem.W.codeIn K cd30 "law" = true) (k30 : PySem.W.keepIn K (.ref f30) = true)
    (y0 : PySem.W.nsIn K mainGlobals "LETTERS" = some (some (.str "abcdefgh" ctLETTERS)))
    (y1 : PySem.W.nsIn K mainGlobals "OPERATORS" = some (some (.ref oA1))) (yl1 : K.lookup oA1 = some ⟨.type "tuple", ob1, .seq #[.str "&" ot1_0, .str "|" ot1_1] on1, os1⟩)
    (y2 : PySem.W.nsIn K mainGlobals "LONG_DEPTH" = some (some (.int 9 ctLONG_DEPTH)))
    (y3 : PySem.W.nsIn K mainGlobals "LONG_SIZE" = some (some (.int 600 ctLONG_SIZE)))
    (z_len : PySem.W.nsIn K mainGlobals "len" = some none)
    (z_int : PySem.W.nsIn K mainGlobals "int" = some none)
    (z_list : PySem.W.nsIn K mainGlobals "list" = some none)
    (z_str : PySem.W.nsIn K mainGlobals "str" = some none)
    (z_tuple : PySem.W.nsIn K mainGlobals "tuple" = some none)
    (z_isinstance : PySem.W.nsIn K mainGlobals "isinstance" = some none)
    (z_bool : PySem.W.nsIn K mainGlobals "bool" = some none)
    (z_dict : PySem.W.nsIn K mainGlobals "dict" = some none)
    (z_all : PySem.W.nsIn K mainGlobals "all" = some none)
    (z_any : PySem.W.nsIn K mainGlobals "any" = some none)
    (z_zip : PySem.W.nsIn K mainGlobals "zip" = some none)
    (z_max : PySem.W.nsIn K mainGlobals "max" = some none)
    (z_range : PySem.W.nsIn K mainGlobals "range" = some none)
    (z_super : PySem.W.nsIn K mainGlobals "super" = some none)
    (z_sorted : PySem.W.nsIn K mainGlobals "sorted" = some none)
    (e1 : PySem.W.nsIn K mainGlobals "FaultError" = some (some (.ref CF)))
    (e23a : PySem.W.subIn K (.ref CF) (.type "BaseException") = some true)
    (e23b : PySem.W.isClsIn K CF = true)
    (e23c : PySem.W.typeIn K (.ref CF) = some (.type "type"))
    (e20 : PySem.W.nsIn K cStatics "thirdparty.any" = some none)
    (e27 : (l.prog.main.scope.names.lookup ("super" : Str)).isSome = false)
    (e2_InvalidTerm : PySem.W.nsIn K mainGlobals "InvalidTerm" = some (some (.ref C_InvalidTerm)))
    (e3_InvalidTerm : K.lookup C_InvalidTerm = some (excClassObj nm_InvalidTerm eq_InvalidTerm C_InvalidTerm eN_InvalidTerm ebs_InvalidTerm ebm_InvalidTerm true esn_InvalidTerm esub_InvalidTerm eab_InvalidTerm ecol_InvalidTerm edd_InvalidTerm ek0_InvalidTerm ek1_InvalidTerm ek2_InvalidTerm ek3_InvalidTerm ek5_InvalidTerm "ValueError.__new__"))
    (e4_InvalidTerm : PySem.HandSPX.refsVE ebm_InvalidTerm = true)
    (e5_InvalidTerm : PySem.W.findIn K (.ref C_InvalidTerm) "__setattr__" = some (some (.builtin "object.__setattr__")))
    (e6_InvalidTerm : PySem.W.subIn K (.ref C_InvalidTerm) (.type "BaseException") = some true)
    (e7_InvalidTerm : PySem.W.typeIn K (.ref C_InvalidTerm) = some (.type "type"))
    (e8_InvalidTerm : PySem.W.keepIn K (.ref C_InvalidTerm) = true)
    (e13_InvalidTerm : PySem.W.findIn K (.ref C_InvalidTerm) "__init__" = some (some (.ref f_InvalidTerm)))
    (e9_InvalidTerm : K.lookup f_InvalidTerm = some ⟨eoc_InvalidTerm, eod_InvalidTerm, .func (PySem.W.ksFn "__init__" "InvalidTerm.__init__" (defArgs s_InvalidTerm) (defBody s_InvalidTerm) (defScope s_InvalidTerm) .none ekV_InvalidTerm edoc_InvalidTerm epm_InvalidTerm ean_InvalidTerm (.ref cda_InvalidTerm) ect_InvalidTerm ecc_InvalidTerm), eosl_InvalidTerm⟩)
    (e10_InvalidTerm : PySem.W.codeIn K (.ref cda_InvalidTerm) "InvalidTerm.__init__" = true)
    (e11_InvalidTerm : K.lookup cda_InvalidTerm = some ⟨eccl_InvalidTerm, ecdd_InvalidTerm, .fields evs_InvalidTerm, eccs_InvalidTerm⟩)
    (e12_InvalidTerm : evs_InvalidTerm[2]? = some (.str efile_InvalidTerm etf_InvalidTerm))
    (e14_InvalidTerm : (l.prog.main.file == efile_InvalidTerm) = true)
    (e15_InvalidTerm : K.lookup ecc_InvalidTerm = some ⟨ecl_InvalidTerm, ecld_InvalidTerm, .cell (some (.ref C_InvalidTerm)), ecsl_InvalidTerm⟩)
    (e16_InvalidTerm : PySem.W.ks_superIn K C_InvalidTerm C_InvalidTerm "__init__" = some (some (.builtin "ValueError.__init__")))
    (e17_InvalidTerm : PySem.W.mroIn K C_InvalidTerm (.ref C_InvalidTerm) = some true)
    (e18_InvalidTerm : PySem.W.subIn K (.ref C_InvalidTerm) (.type "ValueError") = some true)
    (e19t_InvalidTerm : PySem.W.excTail FvX.veTail4 ebm_InvalidTerm = true)
    (e21_InvalidTerm : PySem.W.findIn K (.ref C_InvalidTerm) "code" = some none)
    (e22_InvalidTerm : PySem.W.typeIn K (.ref f_InvalidTerm) = some (.type "function"))
    (e23d_InvalidTerm : PySem.W.subIn K (.ref C_InvalidTerm) (.ref CF) = some true)
    (e24_InvalidTerm : PySem.W.findIn K (.ref C_InvalidTerm) "__getattribute__" = some (some (.builtin "BaseException.__getattribute__")))
    (e25_InvalidTerm : PySem.W.findIn K (.ref C_InvalidTerm) "__getattr__" = some none)
    (e26_InvalidTerm : PySem.W.hasDictIn K C_InvalidTerm = true)
    (e31_InvalidTerm : PySem.W.subIn K (.ref C_InvalidTerm) (.type "StopIteration") = some false)
    (e2_InvalidBoard : PySem.W.nsIn K mainGlobals "InvalidBoard" = some (some (.ref C_InvalidBoard)))
    (e3_InvalidBoard : K.lookup C_InvalidBoard = some (excClassObj nm_InvalidBoard eq_InvalidBoard C_InvalidBoard eN_InvalidBoard ebs_InvalidBoard ebm_InvalidBoard true esn_InvalidBoard esub_InvalidBoard eab_InvalidBoard ecol_InvalidBoard edd_InvalidBoard ek0_InvalidBoard ek1_InvalidBoard ek2_InvalidBoard ek3_InvalidBoard ek5_InvalidBoard "ValueError.__new__"))
    (e4_InvalidBoard : PySem.HandSPX.refsVE ebm_InvalidBoard = true)
    (e5_InvalidBoard : PySem.W.findIn K (.ref C_InvalidBoard) "__setattr__" = some (some (.builtin "object.__setattr__")))
    (e6_InvalidBoard : PySem.W.subIn K (.ref C_InvalidBoard) (.type "BaseException") = some true)
    (e7_InvalidBoard : PySem.W.typeIn K (.ref C_InvalidBoard) = some (.type "type"))
    (e8_InvalidBoard : PySem.W.keepIn K (.ref C_InvalidBoard) = true)
    (e13_InvalidBoard : PySem.W.findIn K (.ref C_InvalidBoard) "__init__" = some (some (.ref f_InvalidBoard)))
    (e9_InvalidBoard : K.lookup f_InvalidBoard = some ⟨eoc_InvalidBoard, eod_InvalidBoard, .func (PySem.W.ksFn "__init__" "InvalidBoard.__init__" (defArgs s_InvalidBoard) (defBody s_InvalidBoard) (defScope s_InvalidBoard) .none ekV_InvalidBoard edoc_InvalidBoard epm_InvalidBoard ean_InvalidBoard (.ref cda_InvalidBoard) ect_InvalidBoard ecc_InvalidBoard), eosl_InvalidBoard⟩)
    (e10_InvalidBoard : PySem.W.codeIn K (.ref cda_InvalidBoard) "InvalidBoard.__init__" = true)
    (e11_InvalidBoard : K.lookup cda_InvalidBoard = some ⟨eccl_InvalidBoard, ecdd_InvalidBoard, .fields evs_InvalidBoard, eccs_InvalidBoard⟩)
    (e12_InvalidBoard : evs_InvalidBoard[2]? = some (.str efile_InvalidBoard etf_InvalidBoard))
    (e14_InvalidBoard : (l.prog.main.file == efile_InvalidBoard) = true)
    (e15_InvalidBoard : K.lookup ecc_InvalidBoard = some ⟨ecl_InvalidBoard, ecld_InvalidBoard, .cell (some (.ref C_InvalidBoard)), ecsl_InvalidBoard⟩)
    (e16_InvalidBoard : PySem.W.ks_superIn K C_InvalidBoard C_InvalidBoard "__init__" = some (some (.builtin "ValueError.__init__")))
    (e17_InvalidBoard : PySem.W.mroIn K C_InvalidBoard (.ref C_InvalidBoard) = some true)
    (e18_InvalidBoard : PySem.W.subIn K (.ref C_InvalidBoard) (.type "ValueError") = some true)
    (e19t_InvalidBoard : PySem.W.excTail FvX.veTail4 ebm_InvalidBoard = true)
    (e21_InvalidBoard : PySem.W.findIn K (.ref C_InvalidBoard) "code" = some none)
    (e22_InvalidBoard : PySem.W.typeIn K (.ref f_InvalidBoard) = some (.type "function"))
    (e23d_InvalidBoard : PySem.W.subIn K (.ref C_InvalidBoard) (.ref CF) = some true)
    (e24_InvalidBoard : PySem.W.findIn K (.ref C_InvalidBoard) "__getattribute__" = some (some (.builtin "BaseException.__getattribute__")))
    (e25_InvalidBoard : PySem.W.findIn K (.ref C_InvalidBoard) "__getattr__" = some none)
    (e26_InvalidBoard : PySem.W.hasDictIn K C_InvalidBoard = true)
    (e31_InvalidBoard : PySem.W.subIn K (.ref C_InvalidBoard) (.type "StopIteration") = some false)
    (e2_InvalidPlace : PySem.W.nsIn K mainGlobals "InvalidPlace" = some (some (.ref C_InvalidPlace)))
    (e3_InvalidPlace : K.lookup C_InvalidPlace = some (excClassObj nm_InvalidPlace eq_InvalidPlace C_InvalidPlace eN_InvalidPlace ebs_InvalidPlace ebm_InvalidPlace true esn_InvalidPlace esub_InvalidPlace eab_InvalidPlace ecol_InvalidPlace edd_InvalidPlace ek0_InvalidPlace ek1_InvalidPlace ek2_InvalidPlace ek3_InvalidPlace ek5_InvalidPlace "ValueError.__new__"))
    (e4_InvalidPlace : PySem.HandSPX.refsVE ebm_InvalidPlace = true)
    (e5_InvalidPlace : PySem.W.findIn K (.ref C_InvalidPlace) "__setattr__" = some (some (.builtin "object.__setattr__")))
    (e6_InvalidPlace : PySem.W.subIn K (.ref C_InvalidPlace) (.type "BaseException") = some true)
    (e7_InvalidPlace : PySem.W.typeIn K (.ref C_InvalidPlace) = some (.type "type"))
    (e8_InvalidPlace : PySem.W.keepIn K (.ref C_InvalidPlace) = true)
    (e13_InvalidPlace : PySem.W.findIn K (.ref C_InvalidPlace) "__init__" = some (some (.ref f_InvalidPlace)))
    (e9_InvalidPlace : K.lookup f_InvalidPlace = some ⟨eoc_InvalidPlace, eod_InvalidPlace, .func (PySem.W.ksFn "__init__" "InvalidPlace.__init__" (defArgs s_InvalidPlace) (defBody s_InvalidPlace) (defScope s_InvalidPlace) .none ekV_InvalidPlace edoc_InvalidPlace epm_InvalidPlace ean_InvalidPlace (.ref cda_InvalidPlace) ect_InvalidPlace ecc_InvalidPlace), eosl_InvalidPlace⟩)
    (e10_InvalidPlace : PySem.W.codeIn K (.ref cda_InvalidPlace) "InvalidPlace.__init__" = true)
    (e11_InvalidPlace : K.lookup cda_InvalidPlace = some ⟨eccl_InvalidPlace, ecdd_InvalidPlace, .fields evs_InvalidPlace, eccs_InvalidPlace⟩)
    (e12_InvalidPlace : evs_InvalidPlace[2]? = some (.str efile_InvalidPlace etf_InvalidPlace))
    (e14_InvalidPlace : (l.prog.main.file == efile_InvalidPlace) = true)
    (e15_InvalidPlace : K.lookup ecc_InvalidPlace = some ⟨ecl_InvalidPlace, ecld_InvalidPlace, .cell (some (.ref C_InvalidPlace)), ecsl_InvalidPlace⟩)
    (e16_InvalidPlace : PySem.W.ks_superIn K C_InvalidPlace C_InvalidPlace "__init__" = some (some (.builtin "ValueError.__init__")))
    (e17_InvalidPlace : PySem.W.mroIn K C_InvalidPlace (.ref C_InvalidPlace) = some true)
    (e18_InvalidPlace : PySem.W.subIn K (.ref C_InvalidPlace) (.type "ValueError") = some true)
    (e19t_InvalidPlace : PySem.W.excTail FvX.veTail4 ebm_InvalidPlace = true)
    (e21_InvalidPlace : PySem.W.findIn K (.ref C_InvalidPlace) "code" = some none)
    (e28_InvalidPlace : PySem.W.findIn K (.ref C_InvalidPlace) "place" = some none)
    (e29_InvalidPlace : PySem.W.isClsIn K C_InvalidPlace = true)
    (e30_InvalidPlace : PySem.W.subIn K (.ref C_InvalidPlace) (.ref C_InvalidPlace) = some true)
    (e22_InvalidPlace : PySem.W.typeIn K (.ref f_InvalidPlace) = some (.type "function"))
    (e23d_InvalidPlace : PySem.W.subIn K (.ref C_InvalidPlace) (.ref CF) = some true)
    (e24_InvalidPlace : PySem.W.findIn K (.ref C_InvalidPlace) "__getattribute__" = some (some (.builtin "BaseException.__getattribute__")))
    (e25_InvalidPlace : PySem.W.findIn K (.ref C_InvalidPlace) "__getattr__" = some none)
    (e26_InvalidPlace : PySem.W.hasDictIn K C_InvalidPlace = true)
    (e31_InvalidPlace : PySem.W.subIn K (.ref C_InvalidPlace) (.type "StopIteration") = some false)
    (e2_InvalidReading : PySem.W.nsIn K mainGlobals "InvalidReading" = some (some (.ref C_InvalidReading)))
    (e3_InvalidReading : K.lookup C_InvalidReading = some (excClassObj nm_InvalidReading eq_InvalidReading C_InvalidReading eN_InvalidReading ebs_InvalidReading ebm_InvalidReading true esn_InvalidReading esub_InvalidReading eab_InvalidReading ecol_InvalidReading edd_InvalidReading ek0_InvalidReading ek1_InvalidReading ek2_InvalidReading ek3_InvalidReading ek5_InvalidReading "ValueError.__new__"))
    (e4_InvalidReading : PySem.HandSPX.refsVE ebm_InvalidReading = true)
    (e5_InvalidReading : PySem.W.findIn K (.ref C_InvalidReading) "__setattr__" = some (some (.builtin "object.__setattr__")))
    (e6_InvalidReading : PySem.W.subIn K (.ref C_InvalidReading) (.type "BaseException") = some true)
    (e7_InvalidReading : PySem.W.typeIn K (.ref C_InvalidReading) = some (.type "type"))
    (e8_InvalidReading : PySem.W.keepIn K (.ref C_InvalidReading) = true)
    (e13_InvalidReading : PySem.W.findIn K (.ref C_InvalidReading) "__init__" = some (some (.ref f_InvalidReading)))
    (e9_InvalidReading : K.lookup f_InvalidReading = some ⟨eoc_InvalidReading, eod_InvalidReading, .func (PySem.W.ksFn "__init__" "InvalidReading.__init__" (defArgs s_InvalidReading) (defBody s_InvalidReading) (defScope s_InvalidReading) .none ekV_InvalidReading edoc_InvalidReading epm_InvalidReading ean_InvalidReading (.ref cda_InvalidReading) ect_InvalidReading ecc_InvalidReading), eosl_InvalidReading⟩)
    (e10_InvalidReading : PySem.W.codeIn K (.ref cda_InvalidReading) "InvalidReading.__init__" = true)
    (e11_InvalidReading : K.lookup cda_InvalidReading = some ⟨eccl_InvalidReading, ecdd_InvalidReading, .fields evs_InvalidReading, eccs_InvalidReading⟩)
    (e12_InvalidReading : evs_InvalidReading[2]? = some (.str efile_InvalidReading etf_InvalidReading))
    (e14_InvalidReading : (l.prog.main.file == efile_InvalidReading) = true)
    (e15_InvalidReading : K.lookup ecc_InvalidReading = some ⟨ecl_InvalidReading, ecld_InvalidReading, .cell (some (.ref C_InvalidReading)), ecsl_InvalidReading⟩)
    (e16_InvalidReading : PySem.W.ks_superIn K C_InvalidReading C_InvalidReading "__init__" = some (some (.builtin "ValueError.__init__")))
    (e17_InvalidReading : PySem.W.mroIn K C_InvalidReading (.ref C_InvalidReading) = some true)
    (e18_InvalidReading : PySem.W.subIn K (.ref C_InvalidReading) (.type "ValueError") = some true)
    (e19t_InvalidReading : PySem.W.excTail FvX.veTail4 ebm_InvalidReading = true)
    (e21_InvalidReading : PySem.W.findIn K (.ref C_InvalidReading) "code" = some none)
    (e28_InvalidReading : PySem.W.findIn K (.ref C_InvalidReading) "letter" = some none)
    (e29_InvalidReading : PySem.W.isClsIn K C_InvalidReading = true)
    (e30_InvalidReading : PySem.W.subIn K (.ref C_InvalidReading) (.ref C_InvalidReading) = some true)
    (e22_InvalidReading : PySem.W.typeIn K (.ref f_InvalidReading) = some (.type "function"))
    (e23d_InvalidReading : PySem.W.subIn K (.ref C_InvalidReading) (.ref CF) = some true)
    (e24_InvalidReading : PySem.W.findIn K (.ref C_InvalidReading) "__getattribute__" = some (some (.builtin "BaseException.__getattribute__")))
    (e25_InvalidReading : PySem.W.findIn K (.ref C_InvalidReading) "__getattr__" = some none)
    (e26_InvalidReading : PySem.W.hasDictIn K C_InvalidReading = true)
    (e31_InvalidReading : PySem.W.subIn K (.ref C_InvalidReading) (.type "StopIteration") = some false)
    (e2_TooManyPlaces : PySem.W.nsIn K mainGlobals "TooManyPlaces" = some (some (.ref C_TooManyPlaces)))
    (e3_TooManyPlaces : K.lookup C_TooManyPlaces = some (excClassObj nm_TooManyPlaces eq_TooManyPlaces C_TooManyPlaces eN_TooManyPlaces ebs_TooManyPlaces ebm_TooManyPlaces true esn_TooManyPlaces esub_TooManyPlaces eab_TooManyPlaces ecol_TooManyPlaces edd_TooManyPlaces ek0_TooManyPlaces ek1_TooManyPlaces ek2_TooManyPlaces ek3_TooManyPlaces ek5_TooManyPlaces "ValueError.__new__"))
    (e4_TooManyPlaces : PySem.HandSPX.refsVE ebm_TooManyPlaces = true)
    (e5_TooManyPlaces : PySem.W.findIn K (.ref C_TooManyPlaces) "__setattr__" = some (some (.builtin "object.__setattr__")))
    (e6_TooManyPlaces : PySem.W.subIn K (.ref C_TooManyPlaces) (.type "BaseException") = some true)
    (e7_TooManyPlaces : PySem.W.typeIn K (.ref C_TooManyPlaces) = some (.type "type"))
    (e8_TooManyPlaces : PySem.W.keepIn K (.ref C_TooManyPlaces) = true)
    (e13_TooManyPlaces : PySem.W.findIn K (.ref C_TooManyPlaces) "__init__" = some (some (.ref f_TooManyPlaces)))
    (e9_TooManyPlaces : K.lookup f_TooManyPlaces = some ⟨eoc_TooManyPlaces, eod_TooManyPlaces, .func (PySem.W.ksFn "__init__" "TooManyPlaces.__init__" (defArgs s_TooManyPlaces) (defBody s_TooManyPlaces) (defScope s_TooManyPlaces) .none ekV_TooManyPlaces edoc_TooManyPlaces epm_TooManyPlaces ean_TooManyPlaces (.ref cda_TooManyPlaces) ect_TooManyPlaces ecc_TooManyPlaces), eosl_TooManyPlaces⟩)
    (e10_TooManyPlaces : PySem.W.codeIn K (.ref cda_TooManyPlaces) "TooManyPlaces.__init__" = true)
    (e11_TooManyPlaces : K.lookup cda_TooManyPlaces = some ⟨eccl_TooManyPlaces, ecdd_TooManyPlaces, .fields evs_TooManyPlaces, eccs_TooManyPlaces⟩)
    (e12_TooManyPlaces : evs_TooManyPlaces[2]? = some (.str efile_TooManyPlaces etf_TooManyPlaces))
    (e14_TooManyPlaces : (l.prog.main.file == efile_TooManyPlaces) = true)
    (e15_TooManyPlaces : K.lookup ecc_TooManyPlaces = some ⟨ecl_TooManyPlaces, ecld_TooManyPlaces, .cell (some (.ref C_TooManyPlaces)), ecsl_TooManyPlaces⟩)
    (e16_TooManyPlaces : PySem.W.ks_superIn K C_TooManyPlaces C_TooManyPlaces "__init__" = some (some (.builtin "ValueError.__init__")))
    (e17_TooManyPlaces : PySem.W.mroIn K C_TooManyPlaces (.ref C_TooManyPlaces) = some true)
    (e18_TooManyPlaces : PySem.W.subIn K (.ref C_TooManyPlaces) (.type "ValueError") = some true)
    (e19t_TooManyPlaces : PySem.W.excTail FvX.veTail4 ebm_TooManyPlaces = true)
    (e21_TooManyPlaces : PySem.W.findIn K (.ref C_TooManyPlaces) "code" = some none)
    (e28_TooManyPlaces : PySem.W.findIn K (.ref C_TooManyPlaces) "limit" = some none)
    (e29_TooManyPlaces : PySem.W.isClsIn K C_TooManyPlaces = true)
    (e30_TooManyPlaces : PySem.W.subIn K (.ref C_TooManyPlaces) (.ref C_TooManyPlaces) = some true)
    (e22_TooManyPlaces : PySem.W.typeIn K (.ref f_TooManyPlaces) = some (.type "function"))
    (e23d_TooManyPlaces : PySem.W.subIn K (.ref C_TooManyPlaces) (.ref CF) = some true)
    (e24_TooManyPlaces : PySem.W.findIn K (.ref C_TooManyPlaces) "__getattribute__" = some (some (.builtin "BaseException.__getattribute__")))
    (e25_TooManyPlaces : PySem.W.findIn K (.ref C_TooManyPlaces) "__getattr__" = some none)
    (e26_TooManyPlaces : PySem.W.hasDictIn K C_TooManyPlaces = true)
    (e31_TooManyPlaces : PySem.W.subIn K (.ref C_TooManyPlaces) (.type "StopIteration") = some false)
    (aC_Board : PySem.W.nsIn K mainGlobals "Board" = some (some (.ref C_Board)))
    (pg_Board : PySem.W.plainGet K C_Board Str.empty = true)
    (hd_Board : PySem.W.hasDictIn K C_Board = true)
    (po_Board : PySem.W.plainOver K C_Board = true)
    (sa_Board : PySem.W.findIn K (.ref C_Board) "__setattr__" = some (some (.builtin "object.__setattr__")))
    (mk_Board : PySem.W.makesIn K C_Board = true)
    (kc_Board : PySem.W.keepIn K (.ref C_Board) = true)
    (na_Board_lines : PySem.W.findIn K (.ref C_Board) "lines" = some none)
    (na_Board_above : PySem.W.findIn K (.ref C_Board) "above" = some none)
    (na_Board_below : PySem.W.findIn K (.ref C_Board) "below" = some none)
    (na_Board_lows : PySem.W.findIn K (.ref C_Board) "lows" = some none)
    (na_Board_highs : PySem.W.findIn K (.ref C_Board) "highs" = some none)
    (na_Board_least : PySem.W.findIn K (.ref C_Board) "least" = some none)
    (na_Board_greatest : PySem.W.findIn K (.ref C_Board) "greatest" = some none)
    (a_Board_init : PySem.W.findIn K (.ref C_Board) "__init__" = some (some (.ref f_Board_init)))
    (i_Board_init : PySem.W.isFn K (.ref f_Board_init) = true)
    (l_Board_init : K.lookup f_Board_init = some ⟨oc_Board_init, od_Board_init, .func (PySem.W.fnOf "__init__" "Board.__init__" (defArgs FvO.s_init__of__Board) (defBody FvO.s_init__of__Board) (defScope FvO.s_init__of__Board) .none kV_Board_init dc_Board_init pm_Board_init an_Board_init cd_Board_init ct_Board_init), sl_Board_init⟩)
    (c_Board_init : PySem.W.codeIn K cd_Board_init "Board.__init__" = true)
    (k_Board_init : PySem.W.keepIn K (.ref f_Board_init) = true)
    (cty_Board : PySem.W.typeIn K (.ref C_Board) = some mc_Board)
    (crd_Board : PySem.W.readsIn K C_Board mc_Board = true)
    (cga_Board : PySem.W.specialIn K (.ref C_Board) "__getattribute__" = some (some (.builtin "type.__getattribute__")))
    (g_Board_chain : PySem.W.findCls K (.ref C_Board) mc_Board "chain" = some (.get (.builtin "classmethod.__get__") (.ref pr_Board_chain) .none (.ref C_Board)))
    (r_Board_chain : PySem.W.recIn K pr_Board_chain "classmethod" = some (.ref f_Board_chain :: re_Board_chain))
    (i_Board_chain : PySem.W.fnIn K f_Board_chain = true)
    (l_Board_chain : K.lookup f_Board_chain = some ⟨oc_Board_chain, od_Board_chain, .func (PySem.W.fnOf "chain" "Board.chain" (defArgs FvO.s_chain__of__Board) (defBody FvO.s_chain__of__Board) (defScope FvO.s_chain__of__Board) .none kV_Board_chain dc_Board_chain pm_Board_chain an_Board_chain cd_Board_chain ct_Board_chain), sl_Board_chain⟩)
    (c_Board_chain : PySem.W.codeIn K cd_Board_chain "Board.chain" = true)
    (k_Board_chain : PySem.W.keepIn K (.ref f_Board_chain) = true)
    (a_Board_rows : PySem.W.findIn K (.ref C_Board) "rows" = some (some (.ref f_Board_rows)))
    (i_Board_rows : PySem.W.isFn K (.ref f_Board_rows) = true)
    (l_Board_rows : K.lookup f_Board_rows = some ⟨oc_Board_rows, od_Board_rows, .func (PySem.W.fnOf "rows" "Board.rows" (defArgs FvO.s_rows__of__Board) (defBody FvO.s_rows__of__Board) (defScope FvO.s_rows__of__Board) .none kV_Board_rows dc_Board_rows pm_Board_rows an_Board_rows cd_Board_rows ct_Board_rows), sl_Board_rows⟩)
    (c_Board_rows : PySem.W.codeIn K cd_Board_rows "Board.rows" = true)
    (k_Board_rows : PySem.W.keepIn K (.ref f_Board_rows) = true)
    (a_Board_has_place : PySem.W.findIn K (.ref C_Board) "has_place" = some (some (.ref f_Board_has_place)))
    (i_Board_has_place : PySem.W.isFn K (.ref f_Board_has_place) = true)
    (l_Board_has_place : K.lookup f_Board_has_place = some ⟨oc_Board_has_place, od_Board_has_place, .func (PySem.W.fnOf "has_place" "Board.has_place" (defArgs FvO.s_has_place__of__Board) (defBody FvO.s_has_place__of__Board) (defScope FvO.s_has_place__of__Board) .none kV_Board_has_place dc_Board_has_place pm_Board_has_place an_Board_has_place cd_Board_has_place ct_Board_has_place), sl_Board_has_place⟩)
    (c_Board_has_place : PySem.W.codeIn K cd_Board_has_place "Board.has_place" = true)
    (k_Board_has_place : PySem.W.keepIn K (.ref f_Board_has_place) = true)
    (a_Board_check_places : PySem.W.findIn K (.ref C_Board) "check_places" = some (some (.ref f_Board_check_places)))
    (i_Board_check_places : PySem.W.isFn K (.ref f_Board_check_places) = true)
    (l_Board_check_places : K.lookup f_Board_check_places = some ⟨oc_Board_check_places, od_Board_check_places, .func (PySem.W.fnOf "check_places" "Board.check_places" (defArgs FvO.s_check_places__of__Board) (defBody FvO.s_check_places__of__Board) (defScope FvO.s_check_places__of__Board) .none kV_Board_check_places dc_Board_check_places pm_Board_check_places an_Board_check_places cd_Board_check_places ct_Board_check_places), sl_Board_check_places⟩)
    (c_Board_check_places : PySem.W.codeIn K cd_Board_check_places "Board.check_places" = true)
    (k_Board_check_places : PySem.W.keepIn K (.ref f_Board_check_places) = true)
    (a_Board_is_below : PySem.W.findIn K (.ref C_Board) "is_below" = some (some (.ref f_Board_is_below)))
    (i_Board_is_below : PySem.W.isFn K (.ref f_Board_is_below) = true)
    (l_Board_is_below : K.lookup f_Board_is_below = some ⟨oc_Board_is_below, od_Board_is_below, .func (PySem.W.fnOf "is_below" "Board.is_below" (defArgs FvO.s_is_below__of__Board) (defBody FvO.s_is_below__of__Board) (defScope FvO.s_is_below__of__Board) .none kV_Board_is_below dc_Board_is_below pm_Board_is_below an_Board_is_below cd_Board_is_below ct_Board_is_below), sl_Board_is_below⟩)
    (c_Board_is_below : PySem.W.codeIn K cd_Board_is_below "Board.is_below" = true)
    (k_Board_is_below : PySem.W.keepIn K (.ref f_Board_is_below) = true)
    (a_Board_low : PySem.W.findIn K (.ref C_Board) "low" = some (some (.ref f_Board_low)))
    (i_Board_low : PySem.W.isFn K (.ref f_Board_low) = true)
    (l_Board_low : K.lookup f_Board_low = some ⟨oc_Board_low, od_Board_low, .func (PySem.W.fnOf "low" "Board.low" (defArgs FvO.s_low__of__Board) (defBody FvO.s_low__of__Board) (defScope FvO.s_low__of__Board) .none kV_Board_low dc_Board_low pm_Board_low an_Board_low cd_Board_low ct_Board_low), sl_Board_low⟩)
    (c_Board_low : PySem.W.codeIn K cd_Board_low "Board.low" = true)
    (k_Board_low : PySem.W.keepIn K (.ref f_Board_low) = true)
    (a_Board_up : PySem.W.findIn K (.ref C_Board) "up" = some (some (.ref f_Board_up)))
    (i_Board_up : PySem.W.isFn K (.ref f_Board_up) = true)
    (l_Board_up : K.lookup f_Board_up = some ⟨oc_Board_up, od_Board_up, .func (PySem.W.fnOf "up" "Board.up" (defArgs FvO.s_up__of__Board) (defBody FvO.s_up__of__Board) (defScope FvO.s_up__of__Board) .none kV_Board_up dc_Board_up pm_Board_up an_Board_up cd_Board_up ct_Board_up), sl_Board_up⟩)
    (c_Board_up : PySem.W.codeIn K cd_Board_up "Board.up" = true)
    (k_Board_up : PySem.W.keepIn K (.ref f_Board_up) = true)
    (a_Board_check_reading : PySem.W.findIn K (.ref C_Board) "check_reading" = some (some (.ref f_Board_check_reading)))
    (i_Board_check_reading : PySem.W.isFn K (.ref f_Board_check_reading) = true)
    (l_Board_check_reading : K.lookup f_Board_check_reading = some ⟨oc_Board_check_reading, od_Board_check_reading, .func (PySem.W.fnOf "check_reading" "Board.check_reading" (defArgs FvO.s_check_reading__of__Board) (defBody FvO.s_check_reading__of__Board) (defScope FvO.s_check_reading__of__Board) .none kV_Board_check_reading dc_Board_check_reading pm_Board_check_reading an_Board_check_reading cd_Board_check_reading ct_Board_check_reading), sl_Board_check_reading⟩)
    (c_Board_check_reading : PySem.W.codeIn K cd_Board_check_reading "Board.check_reading" = true)
    (k_Board_check_reading : PySem.W.keepIn K (.ref f_Board_check_reading) = true)
    (a_Board_place_of : PySem.W.findIn K (.ref C_Board) "place_of" = some (some (.ref f_Board_place_of)))
    (i_Board_place_of : PySem.W.isFn K (.ref f_Board_place_of) = true)
    (l_Board_place_of : K.lookup f_Board_place_of = some ⟨oc_Board_place_of, od_Board_place_of, .func (PySem.W.fnOf "place_of" "Board.place_of" (defArgs FvO.s_place_of__of__Board) (defBody FvO.s_place_of__of__Board) (defScope FvO.s_place_of__of__Board) .none kV_Board_place_of dc_Board_place_of pm_Board_place_of an_Board_place_of cd_Board_place_of ct_Board_place_of), sl_Board_place_of⟩)
    (c_Board_place_of : PySem.W.codeIn K cd_Board_place_of "Board.place_of" = true)
    (k_Board_place_of : PySem.W.keepIn K (.ref f_Board_place_of) = true)
    (a_Board_value : PySem.W.findIn K (.ref C_Board) "value" = some (some (.ref f_Board_value)))
    (i_Board_value : PySem.W.isFn K (.ref f_Board_value) = true)
    (l_Board_value : K.lookup f_Board_value = some ⟨oc_Board_value, od_Board_value, .func (PySem.W.fnOf "value" "Board.value" (defArgs FvO.s_value__of__Board) (defBody FvO.s_value__of__Board) (defScope FvO.s_value__of__Board) .none kV_Board_value dc_Board_value pm_Board_value an_Board_value cd_Board_value ct_Board_value), sl_Board_value⟩)
    (c_Board_value : PySem.W.codeIn K cd_Board_value "Board.value" = true)
    (k_Board_value : PySem.W.keepIn K (.ref f_Board_value) = true)
    (a_Board_spreads : PySem.W.findIn K (.ref C_Board) "spreads" = some (some (.ref f_Board_spreads)))
    (i_Board_spreads : PySem.W.isFn K (.ref f_Board_spreads) = true)
    (l_Board_spreads : K.lookup f_Board_spreads = some ⟨oc_Board_spreads, od_Board_spreads, .func (PySem.W.fnOf "spreads" "Board.spreads" (defArgs FvO.s_spreads__of__Board) (defBody FvO.s_spreads__of__Board) (defScope FvO.s_spreads__of__Board) .none kV_Board_spreads dc_Board_spreads pm_Board_spreads an_Board_spreads cd_Board_spreads ct_Board_spreads), sl_Board_spreads⟩)
    (c_Board_spreads : PySem.W.codeIn K cd_Board_spreads "Board.spreads" = true)
    (k_Board_spreads : PySem.W.keepIn K (.ref f_Board_spreads) = true)
    (a_Board_product : PySem.W.findIn K (.ref C_Board) "product" = some (some (.ref f_Board_product)))
    (i_Board_product : PySem.W.isFn K (.ref f_Board_product) = true)
    (l_Board_product : K.lookup f_Board_product = some ⟨oc_Board_product, od_Board_product, .func (PySem.W.fnOf "product" "Board.product" (defArgs FvO.s_product__of__Board) (defBody FvO.s_product__of__Board) (defScope FvO.s_product__of__Board) .none kV_Board_product dc_Board_product pm_Board_product an_Board_product cd_Board_product ct_Board_product), sl_Board_product⟩)
    (c_Board_product : PySem.W.codeIn K cd_Board_product "Board.product" = true)
    (k_Board_product : PySem.W.keepIn K (.ref f_Board_product) = true)
    (a_Board_len : PySem.W.findIn K (.ref C_Board) "__len__" = some (some (.ref f_Board_len)))
    (i_Board_len : PySem.W.isFn K (.ref f_Board_len) = true)
    (l_Board_len : K.lookup f_Board_len = some ⟨oc_Board_len, od_Board_len, .func (PySem.W.fnOf "__len__" "Board.__len__" (defArgs FvO.s_len__of__Board) (defBody FvO.s_len__of__Board) (defScope FvO.s_len__of__Board) .none kV_Board_len dc_Board_len pm_Board_len an_Board_len cd_Board_len ct_Board_len), sl_Board_len⟩)
    (c_Board_len : PySem.W.codeIn K cd_Board_len "Board.__len__" = true)
    (k_Board_len : PySem.W.keepIn K (.ref f_Board_len) = true)
    (cva : PySem.W.findCls K (.ref C_Board) mc_Board "MAX_PLACES" = some (.val (.int 60 tk_Board)))
    (bg_low : PySem.W.specialIn K (.ref f_Board_low) "__get__" = some (some (.builtin "function.__get__")))
    (bt_low : PySem.W.takesIn K (.ref f_Board_low) = some false)
    (bf_low : PySem.W.fnIn K f_Board_low = true)
    (bg_up : PySem.W.specialIn K (.ref f_Board_up) "__get__" = some (some (.builtin "function.__get__")))
    (bt_up : PySem.W.takesIn K (.ref f_Board_up) = some false)
    (bf_up : PySem.W.fnIn K f_Board_up = true)
    {ccl : Value} {ccd : Option Addr} {cvs : Array Value} {ccs : Array (Option Value)} {cL Pt : Addr} (ecd : cd30 = .ref cL) (tlc : K.lookup cL = some ⟨ccl, ccd, .fields cvs, ccs⟩) (t11 : cvs[11]? = some (.ref Pt)) (tPt : K.lookup Pt = none)
    : ∃ (fd : FuncData) (c Pt : Addr), PySem.W.tabIn K "law" = some (c, Pt) ∧ K.lookup Pt = none ∧ (∀ (s : Shared) (v : Value), BindsTo s fd ⟨[v], []⟩ [("_law_script", v)]) ∧ ∀ base : Heap, K.In base → base.Ns mainGlobals mg → LamX.TabB base mg c Pt → FnOk l.prog w K mg base CX0 40 fa fd ["_law_script"] (spLawT K Pt) := by
  have e := hfa.symm.trans (PySem.W.mg_of X G a30)
  cases e
  have F1 := fun_mk (st := s_is_letter) l1 c1 k1
  have g1 := PySem.W.mg_of X G a1
  have b1 := F1.binds (ps := ["value"]) fun _ _ _ _ _ _ us hl => match us, hl with | [_], _ => rfl
  have F2 := fun_mk (st := s_is_compound) l2 c2 k2
  have g2 := PySem.W.mg_of X G a2
  have b2 := F2.binds (ps := ["value"]) fun _ _ _ _ _ _ us hl => match us, hl with | [_], _ => rfl
  have F3 := fun_mk (st := s_measured) l3 c3 k3
  have g3 := PySem.W.mg_of X G a3
  have b3 := F3.binds (ps := ["value", "max_depth", "max_size"]) fun _ _ _ _ _ _ us hl => match us, hl with | [_, _, _], _ => rfl
  have F4 := fun_mk (st := s_measured_long) l4 c4 k4
  have g4 := PySem.W.mg_of X G a4
  have b4 := F4.binds (ps := ["value"]) fun _ _ _ _ _ _ us hl => match us, hl with | [_], _ => rfl
  have F5 := fun_mk (st := s_letters) l5 c5 k5
  have g5 := PySem.W.mg_of X G a5
  have b5 := F5.binds (ps := ["term"]) fun _ _ _ _ _ _ us hl => match us, hl with | [_], _ => rfl
  have F6 := fun_mk (st := s_walk) l6 c6 k6
  have g6 := PySem.W.mg_of X G a6
  have b6 := F6.binds (ps := ["term"]) fun _ _ _ _ _ _ us hl => match us, hl with | [_], _ => rfl
  have F7 := fun_mk (st := s_subterms) l7 c7 k7
  have g7 := PySem.W.mg_of X G a7
  have b7 := F7.binds (ps := ["term"]) fun _ _ _ _ _ _ us hl => match us, hl with | [_], _ => rfl
  have F8 := fun_mk (st := s_are_square) l8 c8 k8
  have g8 := PySem.W.mg_of X G a8
  have b8 := F8.binds (ps := ["rows", "most"]) fun _ _ _ _ _ _ us hl => match us, hl with | [_, _], _ => rfl
  have F9 := fun_mk (st := s_columns_of) l9 c9 k9
  have g9 := PySem.W.mg_of X G a9
  have b9 := F9.binds (ps := ["rows"]) fun _ _ _ _ _ _ us hl => match us, hl with | [_], _ => rfl
  have F10 := fun_mk (st := s_masks_of) l10 c10 k10
  have g10 := PySem.W.mg_of X G a10
  have b10 := F10.binds (ps := ["rows"]) fun _ _ _ _ _ _ us hl => match us, hl with | [_], _ => rfl
  have F11 := fun_mk (st := s_bound_table) l11 c11 k11
  have g11 := PySem.W.mg_of X G a11
  have b11 := F11.binds (ps := ["masks"]) fun _ _ _ _ _ _ us hl => match us, hl with | [_], _ => rfl
  have F12 := fun_mk (st := s_law_source) l12 c12 k12
  have g12 := PySem.W.mg_of X G a12
  have b12 := F12.binds (ps := ["_law_script"]) fun _ _ _ _ _ _ us hl => match us, hl with | [_], _ => rfl
  have F13 := fun_mk (st := s_law_take) l13 c13 k13
  have g13 := PySem.W.mg_of X G a13
  have b13 := F13.binds (ps := ["_law_source_here", "_law_many"]) fun _ _ _ _ _ _ us hl => match us, hl with | [_, _], _ => rfl
  have F14 := fun_mk (st := s_law_pick) l14 c14 k14
  have g14 := PySem.W.mg_of X G a14
  have b14 := F14.binds (ps := ["_law_source_here", "_law_row"]) fun _ _ _ _ _ _ us hl => match us, hl with | [_, _], _ => rfl
  have F15 := fun_mk (st := s_law_mixed) l15 c15 k15
  have g15 := PySem.W.mg_of X G a15
  have b15 := F15.binds (ps := ["_law_source_here", "_law_row"]) fun _ _ _ _ _ _ us hl => match us, hl with | [_, _], _ => rfl
  have F16 := fun_mk (st := s_law_same) l16 c16 k16
  have g16 := PySem.W.mg_of X G a16
  have b16 := F16.binds (ps := ["_law_found", "_law_due"]) fun _ _ _ _ _ _ us hl => match us, hl with | [_, _], _ => rfl
  have F17 := fun_mk (st := s_law_call) l17 c17 k17
  have g17 := PySem.W.mg_of X G a17
  have b17 := F17.binds (ps := ["_law_ask"]) fun _ _ _ _ _ _ us hl => match us, hl with | [_], _ => rfl
  have F18 := fun_mk (st := s_law_term) l18 c18 k18
  have g18 := PySem.W.mg_of X G a18
  have b18 := F18.binds (ps := ["_law_source_here", "_law_signs_here", "_law_deep", "_law_room"]) fun _ _ _ _ _ _ us hl => match us, hl with | [_, _, _, _], _ => rfl
  have F19 := fun_mk (st := s_law_any_term) l19 c19 k19
  have g19 := PySem.W.mg_of X G a19
  have b19 := F19.binds (ps := ["_law_source_here"]) fun _ _ _ _ _ _ us hl => match us, hl with | [_], _ => rfl
  have F20 := fun_mk (st := s_law_signs) l20 c20 k20
  have g20 := PySem.W.mg_of X G a20
  have b20 := F20.binds (ps := ["_law_source_here", "_law_most"]) fun _ _ _ _ _ _ us hl => match us, hl with | [_, _], _ => rfl
  have F21 := fun_mk (st := s_law_copied) l21 c21 k21
  have g21 := PySem.W.mg_of X G a21
  have b21 := F21.binds (ps := ["_law_row"]) fun _ _ _ _ _ _ us hl => match us, hl with | [_], _ => rfl
  have F22 := fun_mk (st := s_law_family) l22 c22 k22
  have g22 := PySem.W.mg_of X G a22
  have b22 := F22.binds (ps := ["_law_source_here", "_law_wide", "_law_many"]) fun _ _ _ _ _ _ us hl => match us, hl with | [_, _, _], _ => rfl
  have F23 := fun_mk (st := s_law_rows) l23 c23 k23
  have g23 := PySem.W.mg_of X G a23
  have b23 := F23.binds (ps := ["_law_masks"]) fun _ _ _ _ _ _ us hl => match us, hl with | [_], _ => rfl
  have F24 := fun_mk (st := s_law_some_rows) l24 c24 k24
  have g24 := PySem.W.mg_of X G a24
  have b24 := F24.binds (ps := ["_law_source_here"]) fun _ _ _ _ _ _ us hl => match us, hl with | [_], _ => rfl
  have F25 := fun_mk (st := s_law_low) l25 c25 k25
  have g25 := PySem.W.mg_of X G a25
  have b25 := F25.binds (ps := ["_law_rows_here", "_law_x", "_law_y"]) fun _ _ _ _ _ _ us hl => match us, hl with | [_, _, _], _ => rfl
  have F26 := fun_mk (st := s_law_up) l26 c26 k26
  have g26 := PySem.W.mg_of X G a26
  have b26 := F26.binds (ps := ["_law_rows_here", "_law_x", "_law_y"]) fun _ _ _ _ _ _ us hl => match us, hl with | [_, _, _], _ => rfl
  have F27 := fun_mk (st := s_law_tables) l27 c27 k27
  have g27 := PySem.W.mg_of X G a27
  have b27 := F27.binds (ps := ["_law_rows_here"]) fun _ _ _ _ _ _ us hl => match us, hl with | [_], _ => rfl
  have F28 := fun_mk (st := s_law_spreads) l28 c28 k28
  have g28 := PySem.W.mg_of X G a28
  have b28 := F28.binds (ps := ["_law_tables_here"]) fun _ _ _ _ _ _ us hl => match us, hl with | [_], _ => rfl
  have F29 := fun_mk (st := s_law_placed) l29 c29 k29
  have g29 := PySem.W.mg_of X G a29
  have b29 := F29.binds (ps := ["_law_source_here", "_law_signs_here", "_law_rows_here"]) fun _ _ _ _ _ _ us hl => match us, hl with | [_, _, _], _ => rfl
  have F30 := fun_mk (st := s_law) l30 c30 k30
  have g30 := PySem.W.mg_of X G a30
  have g_LETTERS := PySem.W.mg_of X G y0
  have h_OPERATORS : ∀ H, SqT K H oA1 [.str "&", .str "|"] := fun H => .inr ⟨_, _, _, yl1, rfl, rfl, (Nat.le_of_ble_eq_true rfl), (.cons ⟨_, rfl⟩ (.cons ⟨_, rfl⟩ .nil))⟩
  have g_OPERATORS := PySem.W.mg_of X G y1
  have g_LONG_DEPTH := PySem.W.mg_of X G y2
  have g_LONG_SIZE := PySem.W.mg_of X G y3
  have m_len := PySem.W.mg_none_of X G z_len
  have m_int := PySem.W.mg_none_of X G z_int
  have m_list := PySem.W.mg_none_of X G z_list
  have m_str := PySem.W.mg_none_of X G z_str
  have m_tuple := PySem.W.mg_none_of X G z_tuple
  have m_isinstance := PySem.W.mg_none_of X G z_isinstance
  have m_bool := PySem.W.mg_none_of X G z_bool
  have m_dict := PySem.W.mg_none_of X G z_dict
  have m_all := PySem.W.mg_none_of X G z_all
  have m_any := PySem.W.mg_none_of X G z_any
  have m_zip := PySem.W.mg_none_of X G z_zip
  have m_max := PySem.W.mg_none_of X G z_max
  have m_range := PySem.W.mg_none_of X G z_range
  have m_super := PySem.W.mg_none_of X G z_super
  have m_sorted := PySem.W.mg_none_of X G z_sorted
  have g_FE := PySem.W.mg_of X G e1
  have e19_InvalidTerm : PySem.W.excInitIn K C_InvalidTerm FvX.veTail4 "ValueError.__new__" = true := by
    unfold PySem.W.excInitIn
    rw [e3_InvalidTerm]
    simp [excClassObj, e19t_InvalidTerm]
  have ex23_InvalidTerm : PySem.W.exmOne K (.ref C_InvalidTerm) (.ref CF) = some true := by
    unfold PySem.W.exmOne PySem.W.kitCls
    simp [e23a, show (PySem.W.clsIn K CF).isSome = true from e23b, e23c, e23d_InvalidTerm]
  have g_E_InvalidTerm := PySem.W.mg_of X G e2_InvalidTerm
  have OX_InvalidTerm : L2.OexC K C_InvalidTerm := ⟨⟨_, _, _, _, _, _, _, _, _, _, _, _, _, _, _, e3_InvalidTerm, e4_InvalidTerm⟩, e5_InvalidTerm, e6_InvalidTerm, e7_InvalidTerm, e8_InvalidTerm⟩
  have TI_InvalidTerm : FvX.ErrC l.prog.main.file K C_InvalidTerm f_InvalidTerm "InvalidTerm.__init__" q_InvalidTerm "this is not a term" "InvalidTerm" 0 0 := ⟨OX_InvalidTerm, ⟨_, _, _, _, _, _, _, _, _, _, _, _, _, _, _, _, _, _, _, e9_InvalidTerm, e10_InvalidTerm, e11_InvalidTerm, e12_InvalidTerm, e14_InvalidTerm, e15_InvalidTerm⟩, e16_InvalidTerm, e17_InvalidTerm, e18_InvalidTerm, e19_InvalidTerm, e20, e21_InvalidTerm, e13_InvalidTerm, e22_InvalidTerm⟩
  have LI_InvalidTerm : FvX.LineOk q_InvalidTerm "this is not a term" 0 := fun env => ⟨_, rfl⟩
  have XF_InvalidTerm : XfC K C_InvalidTerm := ⟨e24_InvalidTerm, e25_InvalidTerm, e6_InvalidTerm, e26_InvalidTerm⟩
  have e19_InvalidBoard : PySem.W.excInitIn K C_InvalidBoard FvX.veTail4 "ValueError.__new__" = true := by
    unfold PySem.W.excInitIn
    rw [e3_InvalidBoard]
    simp [excClassObj, e19t_InvalidBoard]
  have ex23_InvalidBoard : PySem.W.exmOne K (.ref C_InvalidBoard) (.ref CF) = some true := by
    unfold PySem.W.exmOne PySem.W.kitCls
    simp [e23a, show (PySem.W.clsIn K CF).isSome = true from e23b, e23c, e23d_InvalidBoard]
  have g_E_InvalidBoard := PySem.W.mg_of X G e2_InvalidBoard
  have OX_InvalidBoard : L2.OexC K C_InvalidBoard := ⟨⟨_, _, _, _, _, _, _, _, _, _, _, _, _, _, _, e3_InvalidBoard, e4_InvalidBoard⟩, e5_InvalidBoard, e6_InvalidBoard, e7_InvalidBoard, e8_InvalidBoard⟩
  have TI_InvalidBoard : FvX.ErrC l.prog.main.file K C_InvalidBoard f_InvalidBoard "InvalidBoard.__init__" q_InvalidBoard "this is not a board" "InvalidBoard" 0 0 := ⟨OX_InvalidBoard, ⟨_, _, _, _, _, _, _, _, _, _, _, _, _, _, _, _, _, _, _, e9_InvalidBoard, e10_InvalidBoard, e11_InvalidBoard, e12_InvalidBoard, e14_InvalidBoard, e15_InvalidBoard⟩, e16_InvalidBoard, e17_InvalidBoard, e18_InvalidBoard, e19_InvalidBoard, e20, e21_InvalidBoard, e13_InvalidBoard, e22_InvalidBoard⟩
  have LI_InvalidBoard : FvX.LineOk q_InvalidBoard "this is not a board" 0 := fun env => ⟨_, rfl⟩
  have XF_InvalidBoard : XfC K C_InvalidBoard := ⟨e24_InvalidBoard, e25_InvalidBoard, e6_InvalidBoard, e26_InvalidBoard⟩
  have e19_InvalidPlace : PySem.W.excInitIn K C_InvalidPlace FvX.veTail4 "ValueError.__new__" = true := by
    unfold PySem.W.excInitIn
    rw [e3_InvalidPlace]
    simp [excClassObj, e19t_InvalidPlace]
  have ex23_InvalidPlace : PySem.W.exmOne K (.ref C_InvalidPlace) (.ref CF) = some true := by
    unfold PySem.W.exmOne PySem.W.kitCls
    simp [e23a, show (PySem.W.clsIn K CF).isSome = true from e23b, e23c, e23d_InvalidPlace]
  have ex30_InvalidPlace : PySem.W.exmOne K (.ref C_InvalidPlace) (.ref C_InvalidPlace) = some true := by
    unfold PySem.W.exmOne PySem.W.kitCls
    simp [e6_InvalidPlace, show (PySem.W.clsIn K C_InvalidPlace).isSome = true from e29_InvalidPlace, e7_InvalidPlace, e30_InvalidPlace]
  have g_E_InvalidPlace := PySem.W.mg_of X G e2_InvalidPlace
  have OX_InvalidPlace : L2.OexC K C_InvalidPlace := ⟨⟨_, _, _, _, _, _, _, _, _, _, _, _, _, _, _, e3_InvalidPlace, e4_InvalidPlace⟩, e5_InvalidPlace, e6_InvalidPlace, e7_InvalidPlace, e8_InvalidPlace⟩
  have TI_InvalidPlace : FvX.ErrC1 l.prog.main.file K C_InvalidPlace f_InvalidPlace "InvalidPlace.__init__" q_InvalidPlace me_InvalidPlace "InvalidPlace" "place" 0 := ⟨OX_InvalidPlace, ⟨_, _, _, _, _, _, _, _, _, _, _, _, _, _, _, _, _, _, _, e9_InvalidPlace, e10_InvalidPlace, e11_InvalidPlace, e12_InvalidPlace, e14_InvalidPlace, e15_InvalidPlace⟩, e16_InvalidPlace, e17_InvalidPlace, e18_InvalidPlace, e19_InvalidPlace, e20, e21_InvalidPlace, e28_InvalidPlace, e13_InvalidPlace, e22_InvalidPlace⟩
  have LI_InvalidPlace : FvX.LineOk1 q_InvalidPlace me_InvalidPlace := fun env => ⟨_, rfl⟩
  have AI_InvalidPlace : FvX.ArgsOk me_InvalidPlace := fun env => rfl
  have XF_InvalidPlace : XfC K C_InvalidPlace := ⟨e24_InvalidPlace, e25_InvalidPlace, e6_InvalidPlace, e26_InvalidPlace⟩
  have e19_InvalidReading : PySem.W.excInitIn K C_InvalidReading FvX.veTail4 "ValueError.__new__" = true := by
    unfold PySem.W.excInitIn
    rw [e3_InvalidReading]
    simp [excClassObj, e19t_InvalidReading]
  have ex23_InvalidReading : PySem.W.exmOne K (.ref C_InvalidReading) (.ref CF) = some true := by
    unfold PySem.W.exmOne PySem.W.kitCls
    simp [e23a, show (PySem.W.clsIn K CF).isSome = true from e23b, e23c, e23d_InvalidReading]
  have ex30_InvalidReading : PySem.W.exmOne K (.ref C_InvalidReading) (.ref C_InvalidReading) = some true := by
    unfold PySem.W.exmOne PySem.W.kitCls
    simp [e6_InvalidReading, show (PySem.W.clsIn K C_InvalidReading).isSome = true from e29_InvalidReading, e7_InvalidReading, e30_InvalidReading]
  have g_E_InvalidReading := PySem.W.mg_of X G e2_InvalidReading
  have OX_InvalidReading : L2.OexC K C_InvalidReading := ⟨⟨_, _, _, _, _, _, _, _, _, _, _, _, _, _, _, e3_InvalidReading, e4_InvalidReading⟩, e5_InvalidReading, e6_InvalidReading, e7_InvalidReading, e8_InvalidReading⟩
  have TI_InvalidReading : FvX.ErrC1 l.prog.main.file K C_InvalidReading f_InvalidReading "InvalidReading.__init__" q_InvalidReading me_InvalidReading "InvalidReading" "letter" 0 := ⟨OX_InvalidReading, ⟨_, _, _, _, _, _, _, _, _, _, _, _, _, _, _, _, _, _, _, e9_InvalidReading, e10_InvalidReading, e11_InvalidReading, e12_InvalidReading, e14_InvalidReading, e15_InvalidReading⟩, e16_InvalidReading, e17_InvalidReading, e18_InvalidReading, e19_InvalidReading, e20, e21_InvalidReading, e28_InvalidReading, e13_InvalidReading, e22_InvalidReading⟩
  have LI_InvalidReading : FvX.LineOk1 q_InvalidReading me_InvalidReading := fun env => ⟨_, rfl⟩
  have AI_InvalidReading : FvX.ArgsOk me_InvalidReading := fun env => rfl
  have XF_InvalidReading : XfC K C_InvalidReading := ⟨e24_InvalidReading, e25_InvalidReading, e6_InvalidReading, e26_InvalidReading⟩
  have e19_TooManyPlaces : PySem.W.excInitIn K C_TooManyPlaces FvX.veTail4 "ValueError.__new__" = true := by
    unfold PySem.W.excInitIn
    rw [e3_TooManyPlaces]
    simp [excClassObj, e19t_TooManyPlaces]
  have ex23_TooManyPlaces : PySem.W.exmOne K (.ref C_TooManyPlaces) (.ref CF) = some true := by
    unfold PySem.W.exmOne PySem.W.kitCls
    simp [e23a, show (PySem.W.clsIn K CF).isSome = true from e23b, e23c, e23d_TooManyPlaces]
  have ex30_TooManyPlaces : PySem.W.exmOne K (.ref C_TooManyPlaces) (.ref C_TooManyPlaces) = some true := by
    unfold PySem.W.exmOne PySem.W.kitCls
    simp [e6_TooManyPlaces, show (PySem.W.clsIn K C_TooManyPlaces).isSome = true from e29_TooManyPlaces, e7_TooManyPlaces, e30_TooManyPlaces]
  have g_E_TooManyPlaces := PySem.W.mg_of X G e2_TooManyPlaces
  have OX_TooManyPlaces : L2.OexC K C_TooManyPlaces := ⟨⟨_, _, _, _, _, _, _, _, _, _, _, _, _, _, _, e3_TooManyPlaces, e4_TooManyPlaces⟩, e5_TooManyPlaces, e6_TooManyPlaces, e7_TooManyPlaces, e8_TooManyPlaces⟩
  have TI_TooManyPlaces : FvX.ErrC1 l.prog.main.file K C_TooManyPlaces f_TooManyPlaces "TooManyPlaces.__init__" q_TooManyPlaces me_TooManyPlaces "TooManyPlaces" "limit" 0 := ⟨OX_TooManyPlaces, ⟨_, _, _, _, _, _, _, _, _, _, _, _, _, _, _, _, _, _, _, e9_TooManyPlaces, e10_TooManyPlaces, e11_TooManyPlaces, e12_TooManyPlaces, e14_TooManyPlaces, e15_TooManyPlaces⟩, e16_TooManyPlaces, e17_TooManyPlaces, e18_TooManyPlaces, e19_TooManyPlaces, e20, e21_TooManyPlaces, e28_TooManyPlaces, e13_TooManyPlaces, e22_TooManyPlaces⟩
  have LI_TooManyPlaces : FvX.LineOk1 q_TooManyPlaces me_TooManyPlaces := fun env => ⟨_, rfl⟩
  have AI_TooManyPlaces : FvX.ArgsOk me_TooManyPlaces := fun env => rfl
  have XF_TooManyPlaces : XfC K C_TooManyPlaces := ⟨e24_TooManyPlaces, e25_TooManyPlaces, e6_TooManyPlaces, e26_TooManyPlaces⟩
  have gC_Board := PySem.W.mg_of X G aC_Board
  have T_Board : FvO.TxB K C_Board := ⟨⟨pg_Board, hd_Board, po_Board, sa_Board⟩, na_Board_lines, na_Board_above, na_Board_below, na_Board_lows, na_Board_highs, na_Board_least, na_Board_greatest⟩
  have me_Board_init : Meth K C_Board "__init__" f_Board_init := ⟨a_Board_init, i_Board_init, k_Board_init⟩
  have F_Board_init := fun_mk (st := FvO.s_init__of__Board) l_Board_init c_Board_init k_Board_init
  have b_Board_init := F_Board_init.binds (ps := ["self", "rows"]) fun _ _ _ _ _ _ us hl => match us, hl with | [_, _], _ => rfl
  have cr_Board : ClX.CRead K C_Board mc_Board := ⟨crd_Board, cga_Board⟩
  have me_Board_chain : ClX.CMet K C_Board mc_Board "chain" pr_Board_chain f_Board_chain := ⟨g_Board_chain, ⟨_, r_Board_chain⟩, i_Board_chain⟩
  have F_Board_chain := fun_mk (st := FvO.s_chain__of__Board) l_Board_chain c_Board_chain k_Board_chain
  have b_Board_chain := F_Board_chain.binds (ps := ["cls", "size"]) fun _ _ _ _ _ _ us hl => match us, hl with | [_, _], _ => rfl
  have me_Board_rows : Meth K C_Board "rows" f_Board_rows := ⟨a_Board_rows, i_Board_rows, k_Board_rows⟩
  have F_Board_rows := fun_mk (st := FvO.s_rows__of__Board) l_Board_rows c_Board_rows k_Board_rows
  have b_Board_rows := F_Board_rows.binds (ps := ["self"]) fun _ _ _ _ _ _ us hl => match us, hl with | [_], _ => rfl
  have me_Board_has_place : Meth K C_Board "has_place" f_Board_has_place := ⟨a_Board_has_place, i_Board_has_place, k_Board_has_place⟩
  have F_Board_has_place := fun_mk (st := FvO.s_has_place__of__Board) l_Board_has_place c_Board_has_place k_Board_has_place
  have b_Board_has_place := F_Board_has_place.binds (ps := ["self", "value"]) fun _ _ _ _ _ _ us hl => match us, hl with | [_, _], _ => rfl
  have me_Board_check_places : Meth K C_Board "check_places" f_Board_check_places := ⟨a_Board_check_places, i_Board_check_places, k_Board_check_places⟩
  have F_Board_check_places := fun_mk (st := FvO.s_check_places__of__Board) l_Board_check_places c_Board_check_places k_Board_check_places
  have b_Board_check_places := F_Board_check_places.binds (ps := ["self", "places"]) fun _ _ _ _ _ _ us hl => match us, hl with | [_, _], _ => rfl
  have me_Board_is_below : Meth K C_Board "is_below" f_Board_is_below := ⟨a_Board_is_below, i_Board_is_below, k_Board_is_below⟩
  have F_Board_is_below := fun_mk (st := FvO.s_is_below__of__Board) l_Board_is_below c_Board_is_below k_Board_is_below
  have b_Board_is_below := F_Board_is_below.binds (ps := ["self", "one", "other"]) fun _ _ _ _ _ _ us hl => match us, hl with | [_, _, _], _ => rfl
  have me_Board_low : Meth K C_Board "low" f_Board_low := ⟨a_Board_low, i_Board_low, k_Board_low⟩
  have me_Board_up : Meth K C_Board "up" f_Board_up := ⟨a_Board_up, i_Board_up, k_Board_up⟩
  have me_Board_check_reading : Meth K C_Board "check_reading" f_Board_check_reading := ⟨a_Board_check_reading, i_Board_check_reading, k_Board_check_reading⟩
  have F_Board_check_reading := fun_mk (st := FvO.s_check_reading__of__Board) l_Board_check_reading c_Board_check_reading k_Board_check_reading
  have b_Board_check_reading := F_Board_check_reading.binds (ps := ["self", "terms", "reading"]) fun _ _ _ _ _ _ us hl => match us, hl with | [_, _, _], _ => rfl
  have me_Board_place_of : Meth K C_Board "place_of" f_Board_place_of := ⟨a_Board_place_of, i_Board_place_of, k_Board_place_of⟩
  have F_Board_place_of := fun_mk (st := FvO.s_place_of__of__Board) l_Board_place_of c_Board_place_of k_Board_place_of
  have b_Board_place_of := F_Board_place_of.binds (ps := ["self", "term", "reading"]) fun _ _ _ _ _ _ us hl => match us, hl with | [_, _, _], _ => rfl
  have me_Board_value : Meth K C_Board "value" f_Board_value := ⟨a_Board_value, i_Board_value, k_Board_value⟩
  have F_Board_value := fun_mk (st := FvO.s_value__of__Board) l_Board_value c_Board_value k_Board_value
  have b_Board_value := F_Board_value.binds (ps := ["self", "term", "reading"]) fun _ _ _ _ _ _ us hl => match us, hl with | [_, _, _], _ => rfl
  have me_Board_spreads : Meth K C_Board "spreads" f_Board_spreads := ⟨a_Board_spreads, i_Board_spreads, k_Board_spreads⟩
  have F_Board_spreads := fun_mk (st := FvO.s_spreads__of__Board) l_Board_spreads c_Board_spreads k_Board_spreads
  have b_Board_spreads := F_Board_spreads.binds (ps := ["self"]) fun _ _ _ _ _ _ us hl => match us, hl with | [_], _ => rfl
  have me_Board_product : Meth K C_Board "product" f_Board_product := ⟨a_Board_product, i_Board_product, k_Board_product⟩
  have F_Board_product := fun_mk (st := FvO.s_product__of__Board) l_Board_product c_Board_product k_Board_product
  have b_Board_product := F_Board_product.binds (ps := ["self", "other"]) fun _ _ _ _ _ _ us hl => match us, hl with | [_, _], _ => rfl
  have me_Board_len : Meth K C_Board "__len__" f_Board_len := ⟨a_Board_len, i_Board_len, k_Board_len⟩
  have F_Board_len := fun_mk (st := FvO.s_len__of__Board) l_Board_len c_Board_len k_Board_len
  have b_Board_len := F_Board_len.binds (ps := ["self"]) fun _ _ _ _ _ _ us hl => match us, hl with | [_], _ => rfl
  subst ecd
  have htab : PySem.W.tabIn K "law" = some (cL, Pt) := by
    unfold PySem.W.tabIn
    simp only [a30, l30, tlc, t11, PySem.W.fnOf]
  refine ⟨PySem.W.fnOf "law" "law" (defArgs s_law) (defBody s_law) (defScope s_law) .none kV30 dc30 pm30 an30 (.ref cL) ct30, cL, Pt, htab, tPt, fun s v => .of_eq rfl, fun base _ _ TB => ?_⟩
  have own : ∀ {k : Nat} {x : Str} {f : Addr} {fd : FuncData} {ps : List Str} {sp : Sp}, mg x = some (.ref f) → PySem.W.keepIn K (.ref f) = true → Binds K fd ps [] → FnOk l.prog w K mg base CX0 k f fd ps sp → Own l.prog w K mg base k x ps sp := fun a b c d => ⟨_, _, a, b, c, d⟩
  have ownR : ∀ {k : Nat} {x : Str} {f : Addr} {sp : Sp}, mg x = some (.ref f) → PySem.W.keepIn K (.ref f) = true → FnR l.prog w K mg base (L2.CX l.prog w) k f sp → OwnR l.prog w K mg base k x sp := fun a b c => ⟨_, a, b, c⟩
  have raw : ∀ {k : Nat} {f : Addr} {fd : FuncData} {ps : List Str} {sp : Sp}, FnOk l.prog w K mg base (L2.CX l.prog w) k f fd ps sp → Binds K fd ps [] → FnR l.prog w K mg base (L2.CX l.prog w) k f sp := fun F b => (FnOk.raw F b .nil).imp fun vs H Q E h => by rw [List.append_nil]; exact h
  have Csource := own g12 k12 b12 (ok_source (k := 0) F12 m_list)
  have Ctake := own g13 k13 b13 (ok_take (k := 0) F13 m_len m_int)
  have Cpick := own g14 k14 b14 (ok_pick (k := 1) F14 m_len Ctake)
  have Cmixed := own g15 k15 b15 (ok_mixed (k := 1) F15 m_len Ctake)
  have Ctake2 : Own l.prog w K mg base 2 _ _ spTake := own g13 k13 b13 (ok_take (k := 1) F13 m_len m_int)
  have Csigns := own g20 k20 b20 (ok_signs (k := 2) F20 m_list Ctake2 Cmixed)
  have Tn : ∀ n : Nat, FnOk l.prog w K mg base CX0 (2 + n) f18 _ _ (spTerm K n) := fun n => by
    induction n with
    | zero => exact term_zero
    | succ n ih => exact ok_term F18 m_tuple m_range (Nat.le_add_right 2 n) Ctake Cpick (own g18 k18 b18 ih)
  have Cterm := own g18 k18 b18 (Tn 5)
  have Cany := own g19 k19 b19 (ok_any_term (k := 7) F19 (by decide) Ctake Cpick Csigns Cterm)
  have Sn : ∀ n : Nat, FnOk l.prog w K mg base CX0 (n) f16 _ _ (spSame K n) := fun n => by
    induction n with
    | zero => exact same_zero
    | succ n ih => exact ok_same F16 m_isinstance m_bool m_int m_str m_dict m_list m_tuple m_len m_all m_zip (own g16 k16 b16 ih)
  have Csame := own g16 k16 b16 (Sn 25)
  have Clet := own g1 k1 b1 (ok_is_letter (k := 0) F1 m_isinstance m_str m_len g_LETTERS)
  have Ccom := own g2 k2 b2 (ok_is_compound (k := 0) F2 m_isinstance m_tuple m_len g_OPERATORS h_OPERATORS)
  have Dn : ∀ n : Nat, FnOk l.prog w K mg base CX0 (1 + n) f3 _ _ (spMeas K n) := fun n => by
    induction n with
    | zero => exact meas_zero
    | succ n ih => exact ok_measured F3 m_max (Nat.le_add_right 1 n) Clet Ccom (own g3 k3 b3 ih)
  have Cmeasd := own g3 k3 b3 (Dn 20)
  have Clong := ownR g4 k4 (raw (ok_measured_long (k := 21) F4 g_LONG_DEPTH g_LONG_SIZE (by decide) TI_InvalidTerm LI_InvalidTerm e27 m_super g_E_InvalidTerm Cmeasd) b4)
  have Ccp := own g21 k21 b21 (ok_copied (k := 0) F21)
  have Cro := own g23 k23 b23 (ok_rows (k := 0) F23 m_str m_int)
  have Cfa := own g22 k22 b22 (ok_family (k := 2) F22 m_range (by decide) Ctake Cmixed Ccp)
  have Csr := own g24 k24 b24 ((ok_some_rows (k := 3) F24 (by decide) Ctake Cmixed Cro Cfa).mono (k := 5) (by decide))
  have Clo := own g25 k25 b25 (ok_low (k := 0) F25 m_len m_range m_all)
  have Cup := own g26 k26 b26 (ok_up (k := 0) F26 m_len m_range m_all)
  have Cta := own g27 k27 b27 ((ok_tables (k := 1) F27 m_len m_list m_range Clo Cup).mono (k := 3) (by decide))
  have Csp := own g28 k28 b28 ((ok_spreads (k := 0) F28 m_len m_list m_range).mono (k := 3) (by decide))
  have Cpl := own g29 k29 b29 (ok_placed (k := 1) F29 m_len m_dict Ctake)
  have Cic := own g2 k2 b2 ((ok_is_compound (k := 0) F2 m_isinstance m_tuple m_len g_OPERATORS h_OPERATORS).mono (k := 22) (by decide))
  have Fsu := ok_subterms (k := 22) F7 F6 g6 m_list e31_InvalidTerm Clong Cic
  have Csq := own g8 k8 b8 ((FvO.ok_square (k := 0) F8 m_len m_all m_isinstance m_str).mono (k := 2) (by decide))
  have Cco := own g9 k9 b9 ((FvO.ok_columns (k := 0) F9 m_len m_range).mono (k := 2) (by decide))
  have Cma := own g10 k10 b10 ((FvO.ok_masksB (k := 0) F10 m_int).mono (k := 2) (by decide))
  have Cbt := own g11 k11 b11 ((FvO.ok_bound (k := 0) F11 m_len m_range).mono (k := 2) (by decide))
  have TM : FvO.TxM K C_Board := ⟨_, _, cr_Board, ⟨cva, ⟨_, rfl⟩⟩⟩
  have Fin := FvO.ok_binit (k := 3) F_Board_init T_Board TM gC_Board m_len m_range m_list m_all m_any m_max (by decide) Csq Cco Cma Cbt
  have Mk1 : Mk K C_Board f_Board_init := ⟨mk_Board, a_Board_init, i_Board_init, kc_Board⟩
  have Mkb : C8.Mak l.prog w K mg base 4 "Board" C_Board (FvO.spBIn K C_Board) [] := ⟨_, _, _, _, Mk1, Fin, gC_Board, b_Board_init, .nil⟩
  have rawU : ∀ {k : Nat} {f : Addr} {fd : FuncData} {ps : List Str} {sp : Sp}, FnOk l.prog w K mg base CX0 k f fd ps sp → Binds K fd ps [] → FnR l.prog w K mg base (L2.CX l.prog w) k f sp := fun F b => FvO.fnR_up ((FnOk.raw F b .nil).imp fun vs H Q E h => by rw [List.append_nil]; exact h)
  have MkR : FvO.MakR l.prog w K mg base 4 C_Board (FvO.spBIn K C_Board) := ⟨_, Mk1, rawU Fin b_Board_init⟩
  have metR : ∀ {k : Nat} {m : Str} {f : Addr} {sp : Sp}, Meth K C_Board m f → FnR l.prog w K mg base (L2.CX l.prog w) k f sp → FvX.MetR l.prog w K mg base k C_Board m sp := fun a c => ⟨_, T_Board.cl, a, c⟩
  have Mro : C8.Met l.prog w K mg base 1 C_Board "rows" (FvO.spRowsB K C_Board) [] := ⟨_, _, _, _, T_Board.cl, me_Board_rows, FvO.ok_rowsB (k := 0) F_Board_rows T_Board m_list, b_Board_rows, .nil⟩
  have Msp : C8.Met l.prog w K mg base 1 C_Board "spreads" (FvO.spSprB K C_Board) [] := ⟨_, _, _, _, T_Board.cl, me_Board_spreads, FvO.ok_spreadsB (k := 0) F_Board_spreads T_Board m_len m_range, b_Board_spreads, .nil⟩
  have Fch := FvO.ok_chain (k := 6) F_Board_chain TM (by decide) m_range TI_InvalidBoard LI_InvalidBoard e27 m_super g_E_InvalidBoard MkR
  have Fpr := FvO.ok_prod (k := 5) F_Board_product T_Board TM gC_Board m_len (by decide) TI_TooManyPlaces LI_TooManyPlaces AI_TooManyPlaces hme_TooManyPlaces e27 m_super g_E_TooManyPlaces Mkb
  have Mhp : C8.Met l.prog w K mg base 1 C_Board "has_place" (FvO.spHas K C_Board) [] := ⟨_, _, _, _, T_Board.cl, me_Board_has_place, FvO.ok_has (k := 0) F_Board_has_place T_Board m_isinstance m_int m_bool m_len, b_Board_has_place, .nil⟩
  have Mcp := metR me_Board_check_places (raw (FvO.ok_chk (k := 1) F_Board_check_places (by decide) TI_InvalidPlace LI_InvalidPlace AI_InvalidPlace hme_InvalidPlace e27 m_super g_E_InvalidPlace Mhp) b_Board_check_places)
  have Mbe := metR me_Board_is_below (raw (FvO.ok_below (k := 4) F_Board_is_below T_Board (by decide) Mcp) b_Board_is_below)
  have Rlo := FvO.ok_low (k := 4) l_Board_low c_Board_low T_Board (by decide) Mcp
  have Rup := FvO.ok_up (k := 4) l_Board_up c_Board_up T_Board (by decide) Mcp
  have Slo : FvO.MetS l.prog w K mg base 5 C_Board "low" (FvO.spFold K C_Board C_InvalidPlace false) := ⟨_, T_Board.cl, ⟨me_Board_low, bg_low, bt_low, by decide, bf_low⟩, Rlo⟩
  have Sup : FvO.MetS l.prog w K mg base 5 C_Board "up" (FvO.spFold K C_Board C_InvalidPlace true) := ⟨_, T_Board.cl, ⟨me_Board_up, bg_up, bt_up, by decide, bf_up⟩, Rup⟩
  have Pn : ∀ n : Nat, FnOk l.prog w K mg base CX0 (5 + n) f_Board_place_of _ _ (FvO.spPlc K C_Board n) := fun n => by
    induction n with
    | zero => exact FvO.plc_zero
    | succ n ih => exact FvO.ok_plc (k := 5 + n) F_Board_place_of (by omega) Clet ⟨_, _, _, _, T_Board.cl, me_Board_place_of, ih, b_Board_place_of, .nil⟩ Slo Sup
  have Mpl : C8.Met l.prog w K mg base 28 C_Board "place_of" (FvO.spPlc K C_Board 10) [] := ⟨_, _, _, _, T_Board.cl, me_Board_place_of, (Pn 10).mono (k := 28) (by decide), b_Board_place_of, .nil⟩
  have Flt := ok_letters (k := 26) F5 g_LETTERS (ownR g7 k7 (raw Fsu b7))
  have Mcr := metR me_Board_check_reading (raw (FvO.ok_chkR (k := 27) F_Board_check_reading (by decide) TI_InvalidReading LI_InvalidReading AI_InvalidReading hme_InvalidReading e27 m_super g_E_InvalidReading m_any g_LETTERS Mhp (ownR g5 k5 (raw Flt b5))) b_Board_check_reading)
  have Mva := metR me_Board_value ((raw (FvO.ok_valueB (k := 28) F_Board_value Mcr Mpl) b_Board_value).mono (k := 35) (by decide))
  exact FvO.ok_law (k := 39) (by decide) l30 c30 TB m_range m_len m_list m_int m_dict l17 c17 k17 g17 b17 g_FE ex23_TooManyPlaces XF_TooManyPlaces e21_TooManyPlaces gC_Board
    Csource Ctake Csame Cany Csr Cta Csp Cpl Mkb Msp Mro Mbe Mva
    (metR me_Board_product (raw Fpr b_Board_product)) ⟨_, _, _, T_Board.cl, me_Board_product, ⟨fun s us ws _ h1 h2 => match us, ws, h1, h2 with | [_], [_], _, _ => .of_eq rfl, fun r rz => r.append rz⟩, Fpr⟩
    ⟨_, _, _, cr_Board, me_Board_chain, raw Fch b_Board_chain⟩ (metR me_Board_len (rawU (FvO.ok_lenB (k := 0) F_Board_len T_Board m_len) b_Board_len))
theorem walk {l : PySem.W.OpenLaw} {q : Program} {loose : List Str} {XP : (Str → Option Value) → Heap → Prop} {YP : World → Heap → Prop} {d : DefRec} {K : Params → PySem.W.Frag} (hn : l.most = some 63) (hdf : d.params.defaults = [])
    (hY : ∀ (w : World) (h : Heap), YP w h → (K w.params).In h) (hrec : ∃ d', (PyProof.Rows.recsOf q).find? (fun e => e.name == ("law" : Str)) = some d')
    (F : ∀ (w : World) (mg : Str → Option Value) (fa : Addr) (h : Heap), (K w.params).In h → h.Ns mainGlobals mg → mg d.name = some (.ref fa) →
      ∃ (fd : FuncData) (c Pt : Addr), PySem.W.tabIn (K w.params) "law" = some (c, Pt) ∧ (K w.params).lookup Pt = none ∧ (∀ (s : Shared) (v : Value), BindsTo s fd ⟨[v], []⟩ [("_law_script", v)]) ∧
        ∀ base : Heap, (K w.params).In base → base.Ns mainGlobals mg → LamX.TabB base mg c Pt → FnOk l.prog w (K w.params) mg base CX0 40 fa fd ["_law_script"] (spLawT (K w.params) Pt)) :
    PySem.W.WalkO q loose XP YP l.row.toRowW d [] (fun f vs => PySem.call f vs) := by
  refine Att.attach_callB hn hdf fun w s₀ s₁ mg mb fa o pm cd doc a vs ns G Y ho hd hcd hmg hobj hints hlen hbits hg => ?_
  have KX := hY w _ Y
  obtain ⟨fd, c, Pt, ht, hno, hb, hF⟩ := F w mg fa _ KX G.T.g hmg
  obtain ⟨d', hrec⟩ := hrec
  obtain ⟨hC, hT⟩ := PySem.W.tab_of G.T KX hrec ht
  refine LamX.law_callTs (cs := [(c, Pt)]) (k := 40) (CX := CX0) (sp := spLawT (K w.params) Pt) KX G.T.g G.T.b G.T.builtins G.T.nolimit hg ?_ ?_ ?_ G.T.bmain hobj hints (Nat.le_trans hlen (by decide)) ⟨rfl, by decide, by decide⟩ (fun base k1 k2 tb => hF base k1 k2 (tb (c, Pt) (List.mem_singleton.mpr rfl))) hb (fun H hH hS => ⟨a, ns, rfl, hS, hlen, hH (c, Pt) (List.mem_singleton.mpr rfl), fun _ => rfl⟩) fun _ _ _ z => z
  · intro p hp
    rw [List.mem_singleton.mp hp]
    exact hT
  · intro p hp
    rw [List.mem_singleton.mp hp]
    exact hno
  · intro p hp
    rw [List.mem_singleton.mp hp]
    exact hC
end Fv
open PySem PySem.W PyProof.Rows
set_option maxRecDepth 100000 in
set_option maxHeartbeats 0 in
theorem PySem.Challenge.cw_fivefault_k27_whole_products_have_values_holds : PySem.Challenge.rw_fivefault_k27_whole_products_have_values.Holds := by
  w_on; o_law; k_headL; (case hw => w_witness2)
  k_fill
  refine Fv.walk (l := PySem.Challenge.rw_fivefault_k27_whole_products_have_values) rfl rfl (fun w h Y => PySem.W.kIn_of Y) ?R ?F
  case R => exact ⟨_, rfl⟩
  case F =>
    intro w mg fa h KX G hmg
    refine' Fv.all_mk KX G hmg ?a1 ?l1 ?c1 ?k1 ?a2 ?l2 ?c2 ?k2 ?a3 ?l3 ?c3 ?k3 ?a4 ?l4 ?c4 ?k4 ?a5 ?l5 ?c5 ?k5 ?a6 ?l6 ?c6 ?k6 ?a7 ?l7 ?c7 ?k7 ?a8 ?l8 ?c8 ?k8 ?a9 ?l9 ?c9 ?k9 ?a10 ?l10 ?c10 ?k10 ?a11 ?l11 ?c11 ?k11 ?a12 ?l12 ?c12 ?k12 ?a13 ?l13 ?c13 ?k13 ?a14 ?l14 ?c14 ?k14 ?a15 ?l15 ?c15 ?k15 ?a16 ?l16 ?c16 ?k16 ?a17 ?l17 ?c17 ?k17 ?a18 ?l18 ?c18 ?k18 ?a19 ?l19 ?c19 ?k19 ?a20 ?l20 ?c20 ?k20 ?a21 ?l21 ?c21 ?k21 ?a22 ?l22 ?c22 ?k22 ?a23 ?l23 ?c23 ?k23 ?a24 ?l24 ?c24 ?k24 ?a25 ?l25 ?c25 ?k25 ?a26 ?l26 ?c26 ?k26 ?a27 ?l27 ?c27 ?k27 ?a28 ?l28 ?c28 ?k28 ?a29 ?l29 ?c29 ?k29 ?a30 ?l30 ?c30 ?k30 ?y0 ?y1 ?yl1 ?y2 ?y3 ?z_len ?z_int ?z_list ?z_str ?z_tuple ?z_isinstance ?z_bool ?z_dict ?z_all ?z_any ?z_zip ?z_max ?z_range ?z_super ?z_sorted ?e1 ?e23a ?e23b ?e23c ?e20 ?e27 ?e2_InvalidTerm ?e3_InvalidTerm ?e4_InvalidTerm ?e5_InvalidTerm ?e6_InvalidTerm ?e7_InvalidTerm ?e8_InvalidTerm ?e13_InvalidTerm ?e9_InvalidTerm ?e10_InvalidTerm ?e11_InvalidTerm ?e12_InvalidTerm ?e14_InvalidTerm ?e15_InvalidTerm ?e16_InvalidTerm ?e17_InvalidTerm ?e18_InvalidTerm ?e19t_InvalidTerm ?e21_InvalidTerm ?e22_InvalidTerm ?e23d_InvalidTerm ?e24_InvalidTerm ?e25_InvalidTerm ?e26_InvalidTerm ?e31_InvalidTerm ?e2_InvalidBoard ?e3_InvalidBoard ?e4_InvalidBoard ?e5_InvalidBoard ?e6_InvalidBoard ?e7_InvalidBoard ?e8_InvalidBoard ?e13_InvalidBoard ?e9_InvalidBoard ?e10_InvalidBoard ?e11_InvalidBoard ?e12_InvalidBoard ?e14_InvalidBoard ?e15_InvalidBoard ?e16_InvalidBoard ?e17_InvalidBoard ?e18_InvalidBoard ?e19t_InvalidBoard ?e21_InvalidBoard ?e22_InvalidBoard ?e23d_InvalidBoard ?e24_InvalidBoard ?e25_InvalidBoard ?e26_InvalidBoard ?e31_InvalidBoard ?e2_InvalidPlace ?e3_InvalidPlace ?e4_InvalidPlace ?e5_InvalidPlace ?e6_InvalidPlace ?e7_InvalidPlace ?e8_InvalidPlace ?e13_InvalidPlace ?e9_InvalidPlace ?e10_InvalidPlace ?e11_InvalidPlace ?e12_InvalidPlace ?e14_InvalidPlace ?e15_InvalidPlace ?e16_InvalidPlace ?e17_InvalidPlace ?e18_InvalidPlace ?e19t_InvalidPlace ?e21_InvalidPlace ?e28_InvalidPlace ?e29_InvalidPlace ?e30_InvalidPlace ?e22_InvalidPlace ?e23d_InvalidPlace ?e24_InvalidPlace ?e25_InvalidPlace ?e26_InvalidPlace ?e31_InvalidPlace ?e2_InvalidReading ?e3_InvalidReading ?e4_InvalidReading ?e5_InvalidReading ?e6_InvalidReading ?e7_InvalidReading ?e8_InvalidReading ?e13_InvalidReading ?e9_InvalidReading ?e10_InvalidReading ?e11_InvalidReading ?e12_InvalidReading ?e14_InvalidReading ?e15_InvalidReading ?e16_InvalidReading ?e17_InvalidReading ?e18_InvalidReading ?e19t_InvalidReading ?e21_InvalidReading ?e28_InvalidReading ?e29_InvalidReading ?e30_InvalidReading ?e22_InvalidReading ?e23d_InvalidReading ?e24_InvalidReading ?e25_InvalidReading ?e26_InvalidReading ?e31_InvalidReading ?e2_TooManyPlaces ?e3_TooManyPlaces ?e4_TooManyPlaces ?e5_TooManyPlaces ?e6_TooManyPlaces ?e7_TooManyPlaces ?e8_TooManyPlaces ?e13_TooManyPlaces ?e9_TooManyPlaces ?e10_TooManyPlaces ?e11_TooManyPlaces ?e12_TooManyPlaces ?e14_TooManyPlaces ?e15_TooManyPlaces ?e16_TooManyPlaces ?e17_TooManyPlaces ?e18_TooManyPlaces ?e19t_TooManyPlaces ?e21_TooManyPlaces ?e28_TooManyPlaces ?e29_TooManyPlaces ?e30_TooManyPlaces ?e22_TooManyPlaces ?e23d_TooManyPlaces ?e24_TooManyPlaces ?e25_TooManyPlaces ?e26_TooManyPlaces ?e31_TooManyPlaces ?aC_Board ?pg_Board ?hd_Board ?po_Board ?sa_Board ?mk_Board ?kc_Board ?na_Board_lines ?na_Board_above ?na_Board_below ?na_Board_lows ?na_Board_highs ?na_Board_least ?na_Board_greatest ?a_Board_init ?i_Board_init ?l_Board_init ?c_Board_init ?k_Board_init ?cty_Board ?crd_Board ?cga_Board ?g_Board_chain ?r_Board_chain ?i_Board_chain ?l_Board_chain ?c_Board_chain ?k_Board_chain ?a_Board_rows ?i_Board_rows ?l_Board_rows ?c_Board_rows ?k_Board_rows ?a_Board_has_place ?i_Board_has_place ?l_Board_has_place ?c_Board_has_place ?k_Board_has_place ?a_Board_check_places ?i_Board_check_places ?l_Board_check_places ?c_Board_check_places ?k_Board_check_places ?a_Board_is_below ?i_Board_is_below ?l_Board_is_below ?c_Board_is_below ?k_Board_is_below ?a_Board_low ?i_Board_low ?l_Board_low ?c_Board_low ?k_Board_low ?a_Board_up ?i_Board_up ?l_Board_up ?c_Board_up ?k_Board_up ?a_Board_check_reading ?i_Board_check_reading ?l_Board_check_reading ?c_Board_check_reading ?k_Board_check_reading ?a_Board_place_of ?i_Board_place_of ?l_Board_place_of ?c_Board_place_of ?k_Board_place_of ?a_Board_value ?i_Board_value ?l_Board_value ?c_Board_value ?k_Board_value ?a_Board_spreads ?i_Board_spreads ?l_Board_spreads ?c_Board_spreads ?k_Board_spreads ?a_Board_product ?i_Board_product ?l_Board_product ?c_Board_product ?k_Board_product ?a_Board_len ?i_Board_len ?l_Board_len ?c_Board_len ?k_Board_len ?cva ?bg_low ?bt_low ?bf_low ?bg_up ?bt_up ?bf_up ?ecd ?tlc ?t11 ?tPt
    (case a1 => k_is)
    (case l1 => k_is)
    (case c1 => k_is)
    (case k1 => k_is)
    (case a2 => k_is)
    (case l2 => k_is)
    (case c2 => k_is)
    (case k2 => k_is)
    (case a3 => k_is)
    (case l3 => k_is)
    (case c3 => k_is)
    (case k3 => k_is)
    (case a4 => k_is)
    (case l4 => k_is)
    (case c4 => k_is)
    (case k4 => k_is)
    (case a5 => k_is)
    (case l5 => k_is)
    (case c5 => k_is)
    (case k5 => k_is)
    (case a6 => k_is)
    (case l6 => k_is)
    (case c6 => k_is)
    (case k6 => k_is)
    (case a7 => k_is)
    (case l7 => k_is)
    (case c7 => k_is)
    (case k7 => k_is)
    (case a8 => k_is)
    (case l8 => k_is)
    (case c8 => k_is)
    (case k8 => k_is)
    (case a9 => k_is)
    (case l9 => k_is)
    (case c9 => k_is)
    (case k9 => k_is)
    (case a10 => k_is)
    (case l10 => k_is)
    (case c10 => k_is)
    (case k10 => k_is)
    (case a11 => k_is)
    (case l11 => k_is)
    (case c11 => k_is)
    (case k11 => k_is)
    (case a12 => k_is)
    (case l12 => k_is)
    (case c12 => k_is)
    (case k12 => k_is)
    (case a13 => k_is)
    (case l13 => k_is)
    (case c13 => k_is)
    (case k13 => k_is)
    (case a14 => k_is)
    (case l14 => k_is)
    (case c14 => k_is)
    (case k14 => k_is)
    (case a15 => k_is)
    (case l15 => k_is)
    (case c15 => k_is)
    (case k15 => k_is)
    (case a16 => k_is)
    (case l16 => k_is)
    (case c16 => k_is)
    (case k16 => k_is)
    (case a17 => k_is)
    (case l17 => k_is)
    (case c17 => k_is)
    (case k17 => k_is)
    (case a18 => k_is)
    (case l18 => k_is)
    (case c18 => k_is)
    (case k18 => k_is)
    (case a19 => k_is)
    (case l19 => k_is)
    (case c19 => k_is)
    (case k19 => k_is)
    (case a20 => k_is)
    (case l20 => k_is)
    (case c20 => k_is)
    (case k20 => k_is)
    (case a21 => k_is)
    (case l21 => k_is)
    (case c21 => k_is)
    (case k21 => k_is)
    (case a22 => k_is)
    (case l22 => k_is)
    (case c22 => k_is)
    (case k22 => k_is)
    (case a23 => k_is)
    (case l23 => k_is)
    (case c23 => k_is)
    (case k23 => k_is)
    (case a24 => k_is)
    (case l24 => k_is)
    (case c24 => k_is)
    (case k24 => k_is)
    (case a25 => k_is)
    (case l25 => k_is)
    (case c25 => k_is)
    (case k25 => k_is)
    (case a26 => k_is)
    (case l26 => k_is)
    (case c26 => k_is)
    (case k26 => k_is)
    (case a27 => k_is)
    (case l27 => k_is)
    (case c27 => k_is)
    (case k27 => k_is)
    (case a28 => k_is)
    (case l28 => k_is)
    (case c28 => k_is)
    (case k28 => k_is)
    (case a29 => k_is)
    (case l29 => k_is)
    (case c29 => k_is)
    (case k29 => k_is)
    (case a30 => k_is)
    (case l30 => k_is)
    (case c30 => k_is)
    (case k30 => k_is)
    (case y0 => k_is)
    (case y1 => k_is)
    (case yl1 => k_is)
    (case y2 => k_is)
    (case y3 => k_is)
    (case z_len => k_is)
    (case z_int => k_is)
    (case z_list => k_is)
    (case z_str => k_is)
    (case z_tuple => k_is)
    (case z_isinstance => k_is)
    (case z_bool => k_is)
    (case z_dict => k_is)
    (case z_all => k_is)
    (case z_any => k_is)
    (case z_zip => k_is)
    (case z_max => k_is)
    (case z_range => k_is)
    (case z_super => k_is)
    (case z_sorted => k_is)
    (case e1 => k_is)
    (case e23a => k_is)
    (case e23b => k_is)
    (case e23c => k_is)
    (case e20 => k_is)
    (case e27 => decide +kernel)
    (case e2_InvalidTerm => k_is)
    (case e3_InvalidTerm => k_is)
    (case e4_InvalidTerm => decide +kernel)
    (case e5_InvalidTerm => k_is)
    (case e6_InvalidTerm => k_is)
    (case e7_InvalidTerm => k_is)
    (case e8_InvalidTerm => k_is)
    (case e13_InvalidTerm => k_is)
    (case e9_InvalidTerm => k_is)
    (case e10_InvalidTerm => k_is)
    (case e11_InvalidTerm => k_is)
    (case e12_InvalidTerm => exact rfl)
    (case e14_InvalidTerm => decide +kernel)
    (case e15_InvalidTerm => k_is)
    (case e16_InvalidTerm => ks_is)
    (case e17_InvalidTerm => k_is)
    (case e18_InvalidTerm => k_is)
    (case e19t_InvalidTerm => decide +kernel)
    (case e21_InvalidTerm => k_is)
    (case e22_InvalidTerm => k_is)
    (case e23d_InvalidTerm => k_is)
    (case e24_InvalidTerm => k_is)
    (case e25_InvalidTerm => k_is)
    (case e26_InvalidTerm => k_is)
    (case e31_InvalidTerm => k_is)
    (case e2_InvalidBoard => k_is)
    (case e3_InvalidBoard => k_is)
    (case e4_InvalidBoard => decide +kernel)
    (case e5_InvalidBoard => k_is)
    (case e6_InvalidBoard => k_is)
    (case e7_InvalidBoard => k_is)
    (case e8_InvalidBoard => k_is)
    (case e13_InvalidBoard => k_is)
    (case e9_InvalidBoard => k_is)
    (case e10_InvalidBoard => k_is)
    (case e11_InvalidBoard => k_is)
    (case e12_InvalidBoard => exact rfl)
    (case e14_InvalidBoard => decide +kernel)
    (case e15_InvalidBoard => k_is)
    (case e16_InvalidBoard => ks_is)
    (case e17_InvalidBoard => k_is)
    (case e18_InvalidBoard => k_is)
    (case e19t_InvalidBoard => decide +kernel)
    (case e21_InvalidBoard => k_is)
    (case e22_InvalidBoard => k_is)
    (case e23d_InvalidBoard => k_is)
    (case e24_InvalidBoard => k_is)
    (case e25_InvalidBoard => k_is)
    (case e26_InvalidBoard => k_is)
    (case e31_InvalidBoard => k_is)
    (case e2_InvalidPlace => k_is)
    (case e3_InvalidPlace => k_is)
    (case e4_InvalidPlace => decide +kernel)
    (case e5_InvalidPlace => k_is)
    (case e6_InvalidPlace => k_is)
    (case e7_InvalidPlace => k_is)
    (case e8_InvalidPlace => k_is)
    (case e13_InvalidPlace => k_is)
    (case e9_InvalidPlace => k_is)
    (case e10_InvalidPlace => k_is)
    (case e11_InvalidPlace => k_is)
    (case e12_InvalidPlace => exact rfl)
    (case e14_InvalidPlace => decide +kernel)
    (case e15_InvalidPlace => k_is)
    (case e16_InvalidPlace => ks_is)
    (case e17_InvalidPlace => k_is)
    (case e18_InvalidPlace => k_is)
    (case e19t_InvalidPlace => decide +kernel)
    (case e21_InvalidPlace => k_is)
    (case e28_InvalidPlace => k_is)
    (case e29_InvalidPlace => k_is)
    (case e30_InvalidPlace => k_is)
    (case e22_InvalidPlace => k_is)
    (case e23d_InvalidPlace => k_is)
    (case e24_InvalidPlace => k_is)
    (case e25_InvalidPlace => k_is)
    (case e26_InvalidPlace => k_is)
    (case e31_InvalidPlace => k_is)
    (case e2_InvalidReading => k_is)
    (case e3_InvalidReading => k_is)
    (case e4_InvalidReading => decide +kernel)
    (case e5_InvalidReading => k_is)
    (case e6_InvalidReading => k_is)
    (case e7_InvalidReading => k_is)
    (case e8_InvalidReading => k_is)
    (case e13_InvalidReading => k_is)
    (case e9_InvalidReading => k_is)
    (case e10_InvalidReading => k_is)
    (case e11_InvalidReading => k_is)
    (case e12_InvalidReading => exact rfl)
    (case e14_InvalidReading => decide +kernel)
    (case e15_InvalidReading => k_is)
    (case e16_InvalidReading => ks_is)
    (case e17_InvalidReading => k_is)
    (case e18_InvalidReading => k_is)
    (case e19t_InvalidReading => decide +kernel)
    (case e21_InvalidReading => k_is)
    (case e28_InvalidReading => k_is)
    (case e29_InvalidReading => k_is)
    (case e30_InvalidReading => k_is)
    (case e22_InvalidReading => k_is)
    (case e23d_InvalidReading => k_is)
    (case e24_InvalidReading => k_is)
    (case e25_InvalidReading => k_is)
    (case e26_InvalidReading => k_is)
    (case e31_InvalidReading => k_is)
    (case e2_TooManyPlaces => k_is)
    (case e3_TooManyPlaces => k_is)
    (case e4_TooManyPlaces => decide +kernel)
    (case e5_TooManyPlaces => k_is)
    (case e6_TooManyPlaces => k_is)
    (case e7_TooManyPlaces => k_is)
    (case e8_TooManyPlaces => k_is)
    (case e13_TooManyPlaces => k_is)
    (case e9_TooManyPlaces => k_is)
    (case e10_TooManyPlaces => k_is)
    (case e11_TooManyPlaces => k_is)
    (case e12_TooManyPlaces => exact rfl)
    (case e14_TooManyPlaces => decide +kernel)
    (case e15_TooManyPlaces => k_is)
    (case e16_TooManyPlaces => ks_is)
    (case e17_TooManyPlaces => k_is)
    (case e18_TooManyPlaces => k_is)
    (case e19t_TooManyPlaces => decide +kernel)
    (case e21_TooManyPlaces => k_is)
    (case e28_TooManyPlaces => k_is)
    (case e29_TooManyPlaces => k_is)
    (case e30_TooManyPlaces => k_is)
    (case e22_TooManyPlaces => k_is)
    (case e23d_TooManyPlaces => k_is)
    (case e24_TooManyPlaces => k_is)
    (case e25_TooManyPlaces => k_is)
    (case e26_TooManyPlaces => k_is)
    (case e31_TooManyPlaces => k_is)
    (case aC_Board => k_is)
    (case pg_Board => k_is)
    (case hd_Board => k_is)
    (case po_Board => k_is)
    (case sa_Board => k_is)
    (case mk_Board => k_is)
    (case kc_Board => k_is)
    (case na_Board_lines => k_is)
    (case na_Board_above => k_is)
    (case na_Board_below => k_is)
    (case na_Board_lows => k_is)
    (case na_Board_highs => k_is)
    (case na_Board_least => k_is)
    (case na_Board_greatest => k_is)
    (case a_Board_init => k_is)
    (case i_Board_init => k_is)
    (case l_Board_init => k_is)
    (case c_Board_init => k_is)
    (case k_Board_init => k_is)
    (case cty_Board => k_is)
    (case crd_Board => k_is)
    (case cga_Board => k_is)
    (case g_Board_chain => k_is)
    (case r_Board_chain => k_is)
    (case i_Board_chain => k_is)
    (case l_Board_chain => k_is)
    (case c_Board_chain => k_is)
    (case k_Board_chain => k_is)
    (case a_Board_rows => k_is)
    (case i_Board_rows => k_is)
    (case l_Board_rows => k_is)
    (case c_Board_rows => k_is)
    (case k_Board_rows => k_is)
    (case a_Board_has_place => k_is)
    (case i_Board_has_place => k_is)
    (case l_Board_has_place => k_is)
    (case c_Board_has_place => k_is)
    (case k_Board_has_place => k_is)
    (case a_Board_check_places => k_is)
    (case i_Board_check_places => k_is)
    (case l_Board_check_places => k_is)
    (case c_Board_check_places => k_is)
    (case k_Board_check_places => k_is)
    (case a_Board_is_below => k_is)
    (case i_Board_is_below => k_is)
    (case l_Board_is_below => k_is)
    (case c_Board_is_below => k_is)
    (case k_Board_is_below => k_is)
    (case a_Board_low => k_is)
    (case i_Board_low => k_is)
    (case l_Board_low => k_is)
    (case c_Board_low => k_is)
    (case k_Board_low => k_is)
    (case a_Board_up => k_is)
    (case i_Board_up => k_is)
    (case l_Board_up => k_is)
    (case c_Board_up => k_is)
    (case k_Board_up => k_is)
    (case a_Board_check_reading => k_is)
    (case i_Board_check_reading => k_is)
    (case l_Board_check_reading => k_is)
    (case c_Board_check_reading => k_is)
    (case k_Board_check_reading => k_is)
    (case a_Board_place_of => k_is)
    (case i_Board_place_of => k_is)
    (case l_Board_place_of => k_is)
    (case c_Board_place_of => k_is)
    (case k_Board_place_of => k_is)
    (case a_Board_value => k_is)
    (case i_Board_value => k_is)
    (case l_Board_value => k_is)
    (case c_Board_value => k_is)
    (case k_Board_value => k_is)
    (case a_Board_spreads => k_is)
    (case i_Board_spreads => k_is)
    (case l_Board_spreads => k_is)
    (case c_Board_spreads => k_is)
    (case k_Board_spreads => k_is)
    (case a_Board_product => k_is)
    (case i_Board_product => k_is)
    (case l_Board_product => k_is)
    (case c_Board_product => k_is)
    (case k_Board_product => k_is)
    (case a_Board_len => k_is)
    (case i_Board_len => k_is)
    (case l_Board_len => k_is)
    (case c_Board_len => k_is)
    (case k_Board_len => k_is)
    (case cva => k_is)
    (case bg_low => k_is)
    (case bt_low => k_is)
    (case bf_low => k_is)
    (case bg_up => k_is)
    (case bt_up => k_is)
    (case bf_up => k_is)
    (case ecd => exact rfl)
    (case tlc => k_is)
    (case t11 => exact rfl)
    (case tPt => kernel_rfl)
