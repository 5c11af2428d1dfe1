import PyProof.Rows.All
import Wide.All
import OpenK.AllK
import Wide.FinOn
import HandS.Base
import HandS.Call
import HandS.List
import HandS.Comp
import HandS.Ends
import HandS.Iter
import HandS.Text
import HandS.Words
import HandS.WordsList
import HandS.More
import HandS.Codes
import HandS.IsInst
import HandS.Zip
import HandS.Walk
import HandS.Style
import HandS.IntHex
import HandS.StrMore
import KE.KRevSl
import HandS.Defaults
import HandS.MakeKwOnly
import KE.GoesEnum
import KE.KExcSuper
import HandS.Exc
import HandS.ExcInit
import HandS.FStr
import HandS.Conv
import HandS.ExcField
import HandS.Lambda
import HandS.Star
import HandS.WordsExc
import HandS.DictComp
import HandS.WordsDict
import HandS.ClsMeth
import HandS.Property
import HandS.Deep
import HandS.OwnEq
import HandS.EndTab
import PySem.Challenge.RW_fivefault_k23_named_boards
set_option Elab.async false
set_option linter.all false
set_option maxRecDepth 100000

namespace Fv
open PySem PySem.Spec PyProof.Rows L2
/-! ### heaps -/
theorem same_upd {H : Hp} {p : Addr} {o : HO} (h : H p = none) : Same H (upd H p o) := fun b x e => by
  rw [upd_ne (ne_of_none e h)]
  exact e
/-- all but what stands at M is as it was -/
def SmX (M : List Addr) (H H' : Hp) : Prop := ∀ b o, b ∉ M → H b = some o → H' b = some o
theorem SmX.refl (M : List Addr) (H : Hp) : SmX M H H := fun _ _ _ h => h
theorem SmX.trans {M : List Addr} {H H1 H2 : Hp} (a : SmX M H H1) (b : SmX M H1 H2) : SmX M H H2 := fun c o m h => b c o m (a c o m h)
theorem SmX.of_same {M : List Addr} {H H1 : Hp} (a : Same H H1) : SmX M H H1 := fun c o _ h => a c o h
theorem SmX.new {M : List Addr} {H : Hp} {p : Addr} {o : HO} (h : H p = none) : SmX M H (upd H p o) := .of_same (same_upd h)
theorem SmX.sub {M M' : List Addr} {H H1 : Hp} (a : SmX M H H1) (h : ∀ b, b ∈ M → b ∈ M' ∨ H b = none) : SmX M' H H1 := fun c o m e => by
  refine a c o (fun hc => ?_) e
  rcases h c hc with q | q
  · exact m q
  · rw [q] at e; cases e
theorem SmX.at {M : List Addr} {H H1 : Hp} {a : Addr} (h : ∀ b, b ≠ a → H1 b = H b) (m : a ∈ M) : SmX M H H1 := fun c o n e => by
  rw [h c (fun z => n (z ▸ m))]; exact e
theorem SmX.put {M : List Addr} {H H1 : Hp} {p : Addr} {o : HO} (a : SmX M H H1) (m : p ∈ M) : SmX M H (L2.upd H1 p o) := fun c x n e => by
  have ne : c ≠ p := fun z => n (z ▸ m)
  rw [upd_ne ne]; exact a c x n e
/-- what does not stand at M -/
def hide (M : List Addr) (H : Hp) : Hp := fun b => if b ∈ M then none else H b
theorem hide_ne {M : List Addr} {H : Hp} {b : Addr} (h : b ∉ M) : hide M H b = H b := by unfold hide; rw [if_neg h]
theorem hide_some {M : List Addr} {H : Hp} {b : Addr} {o : HO} (h : hide M H b = some o) : b ∉ M ∧ H b = some o := by
  unfold hide at h
  by_cases m : b ∈ M
  · rw [if_pos m] at h; cases h
  · rw [if_neg m] at h; exact ⟨m, h⟩
theorem hide_same {M : List Addr} {H : Hp} : Same (hide M H) H := fun b o h => (hide_some h).2
theorem SmX.hid {M : List Addr} {H H' : Hp} (h : SmX M H H') : Same (hide M H) (hide M H') := fun b o e => by
  obtain ⟨m, e⟩ := hide_some e
  rw [hide_ne m]
  exact h b o m e
theorem hide_sub {M M' : List Addr} {H : Hp} (h : ∀ b, b ∈ M' → b ∈ M) : Same (hide M H) (hide M' H) := fun b o e => by
  obtain ⟨m, e⟩ := hide_some e
  rw [hide_ne (fun z => m (h b z))]
  exact e
theorem same_seqT {K : PySem.W.Frag} {H H' : Hp} {a : Addr} {xs : List V} (e : Same H H') (h : SqT K H a xs) : SqT K H' a xs := by
  rcases h with (h | ⟨o, h⟩) | h
  · exact .inl (.inl (e _ _ h))
  · exact .inl (.inr ⟨o, e _ _ h⟩)
  · exact .inr h
mutual
theorem dp_same {K : PySem.W.Frag} {H H' : Hp} (e : Same H H') : ∀ (d : PyData) (v : V), Dp K H v d → Dp K H' v d
  | .none, _, h => by cases h; exact .non
  | .bool b, _, h => by cases h; exact .bl b
  | .int i, _, h => by cases h; exact .int i
  | .str x, _, h => by cases h; exact .str x
  | .list ds, _, h => by cases h with | lst hs ha => exact .lst (e.seq hs) (dpAll_same e ds _ ha)
  | .tuple ds, _, h => by cases h with | tup hs ha => exact .tup (same_seqT e hs) (dpAll_same e ds _ ha)
  | .dict kvs, _, h => by cases h
theorem dpAll_same {K : PySem.W.Frag} {H H' : Hp} (e : Same H H') : ∀ (ds : List PyData) (vs : List V), DpAll K H vs ds → DpAll K H' vs ds
  | [], _, h => by cases h; exact .nil
  | d :: ds, _, h => by cases h with | cons h1 h2 => exact .cons (dp_same e d _ h1) (dpAll_same e ds _ h2)
end
theorem dpAll_len {K : PySem.W.Frag} {H : Hp} : ∀ {vs : List V} {ds : List PyData}, DpAll K H vs ds → vs.length = ds.length
  | _, _, .nil => rfl
  | _, _, .cons _ h => by rw [List.length_cons, List.length_cons, dpAll_len h]
theorem dpAll_get {K : PySem.W.Frag} {H : Hp} : ∀ {vs : List V} {ds : List PyData} {i : Nat} {v : V}, DpAll K H vs ds → vs[i]? = some v → ∃ d, ds[i]? = some d ∧ Dp K H v d
  | _, _, _, _, .nil, e => by simp at e
  | _, _, 0, _, .cons h _, e => by simp at e; subst e; exact ⟨_, rfl, h⟩
  | _ :: vs, _ :: ds, i + 1, _, .cons _ h, e => by
    have e' : vs[i]? = some _ := e
    exact dpAll_get (ds := ds) h e'
theorem dpAll_app {K : PySem.W.Frag} {H : Hp} : ∀ {vs ws : List V} {ds es : List PyData}, DpAll K H vs ds → DpAll K H ws es → DpAll K H (vs ++ ws) (ds ++ es)
  | _, _, _, _, .nil, h => h
  | _, _, _, _, .cons h1 h2, h => .cons h1 (dpAll_app h2 h)
theorem dpAll_drop {K : PySem.W.Frag} {H : Hp} : ∀ (n : Nat) {vs : List V} {ds : List PyData}, DpAll K H vs ds → DpAll K H (vs.drop n) (ds.drop n)
  | 0, _, _, h => h
  | n + 1, _, _, .nil => .nil
  | n + 1, _, _, .cons _ h => dpAll_drop n h
/-! ### data -/
mutual
/-- plain data, nested at most n deep -/
def gd : Nat → PyData → Bool
  | _, .none => true
  | _, .bool _ => true
  | _, .int _ => true
  | _, .str x => PyData.strOk x && decide (x.length ≤ 100000)
  | 0, _ => false
  | n + 1, .list ds => gdAll n ds && decide (ds.length ≤ 1000)
  | n + 1, .tuple ds => gdAll n ds && decide (ds.length ≤ 1000)
  | _, .dict _ => false
def gdAll : Nat → List PyData → Bool
  | _, [] => true
  | n, d :: ds => gd n d && gdAll n ds
end
theorem gdAll_iff {n : Nat} : ∀ {ds : List PyData}, gdAll n ds = true ↔ ∀ d ∈ ds, gd n d = true
  | [] => by simp [gdAll]
  | d :: ds => by simp [gdAll, gdAll_iff (n := n) (ds := ds)]
mutual
theorem gd_up : ∀ (n : Nat) (d : PyData), gd n d = true → gd (n + 1) d = true
  | _, .none, _ => rfl
  | _, .bool _, _ => rfl
  | _, .int _, _ => rfl
  | 0, .str x, h => h
  | n + 1, .str x, h => h
  | 0, .list _, h => by cases h
  | 0, .tuple _, h => by cases h
  | 0, .dict _, h => by cases h
  | n + 1, .list ds, h => by
    simp only [gd, Bool.and_eq_true] at h ⊢
    exact ⟨gdAll_up n ds h.1, h.2⟩
  | n + 1, .tuple ds, h => by
    simp only [gd, Bool.and_eq_true] at h ⊢
    exact ⟨gdAll_up n ds h.1, h.2⟩
  | n + 1, .dict _, h => by cases h
theorem gdAll_up : ∀ (n : Nat) (ds : List PyData), gdAll n ds = true → gdAll (n + 1) ds = true
  | _, [], _ => rfl
  | n, d :: ds, h => by
    simp only [gdAll, Bool.and_eq_true] at h ⊢
    exact ⟨gd_up n d h.1, gdAll_up n ds h.2⟩
end
theorem gd_le {n m : Nat} {d : PyData} (h : gd n d = true) (hm : n ≤ m) : gd m d = true := by
  induction hm with
  | refl => exact h
  | step _ ih => exact gd_up _ _ ih
mutual
theorem gd_lay : ∀ (n : Nat) (d : PyData), gd n d = true → d.canLay0 = true ∧ d.depth ≤ n
  | _, .none, _ => ⟨rfl, by simp [PyData.depth]⟩
  | _, .bool _, _ => ⟨rfl, by simp [PyData.depth]⟩
  | _, .int _, _ => ⟨rfl, by simp [PyData.depth]⟩
  | 0, .str x, h => ⟨by simp only [gd, Bool.and_eq_true] at h; simpa [PyData.canLay0] using h.1, by simp [PyData.depth]⟩
  | n + 1, .str x, h => ⟨by simp only [gd, Bool.and_eq_true] at h; simpa [PyData.canLay0] using h.1, by simp [PyData.depth]⟩
  | 0, .list _, h => by cases h
  | 0, .tuple _, h => by cases h
  | 0, .dict _, h => by cases h
  | n + 1, .list ds, h => by
    have q := gdAll_lay n ds (by simp only [gd, Bool.and_eq_true] at h; exact h.1)
    exact ⟨by simpa [PyData.canLay0] using q.1, by simp only [PyData.depth]; omega⟩
  | n + 1, .tuple ds, h => by
    have q := gdAll_lay n ds (by simp only [gd, Bool.and_eq_true] at h; exact h.1)
    exact ⟨by simpa [PyData.canLay0] using q.1, by simp only [PyData.depth]; omega⟩
  | n + 1, .dict _, h => by cases h
theorem gdAll_lay : ∀ (n : Nat) (ds : List PyData), gdAll n ds = true → PyData.canLayAll0 ds = true ∧ PyData.depthAll ds ≤ n
  | _, [], _ => ⟨rfl, by simp [PyData.depthAll]⟩
  | n, d :: ds, h => by
    simp only [gdAll, Bool.and_eq_true] at h
    have a := gd_lay n d h.1
    have b := gdAll_lay n ds h.2
    exact ⟨by simp [PyData.canLayAll0, a.1, b.1], by simp only [PyData.depthAll]; omega⟩
end
theorem gd_list {n : Nat} {ds : List PyData} (h : gd (n + 1) (.list ds) = true) : ds.length ≤ 1000 ∧ ∀ d ∈ ds, gd n d = true := by
  simp only [gd, Bool.and_eq_true, decide_eq_true_eq] at h
  exact ⟨h.2, gdAll_iff.mp h.1⟩
theorem gd_tuple {n : Nat} {ds : List PyData} (h : gd (n + 1) (.tuple ds) = true) : ds.length ≤ 1000 ∧ ∀ d ∈ ds, gd n d = true := by
  simp only [gd, Bool.and_eq_true, decide_eq_true_eq] at h
  exact ⟨h.2, gdAll_iff.mp h.1⟩
theorem gd_tup {n : Nat} {ds : List PyData} (h : ∀ d ∈ ds, gd n d = true) (hl : ds.length ≤ 1000) : gd (n + 1) (.tuple ds) = true := by
  simp only [gd, Bool.and_eq_true, decide_eq_true_eq]
  exact ⟨gdAll_iff.mpr h, hl⟩
theorem gd_lst {n : Nat} {ds : List PyData} (h : ∀ d ∈ ds, gd n d = true) (hl : ds.length ≤ 1000) : gd (n + 1) (.list ds) = true := by
  simp only [gd, Bool.and_eq_true, decide_eq_true_eq]
  exact ⟨gdAll_iff.mpr h, hl⟩
theorem gd_shaped {n : Nat} {d : PyData} (h : gd n d = true) (hn : n ≤ 64) : SeqAt.shaped d = true := by
  have q := gd_lay n d h
  show (d.canLay0 && decide (d.depth ≤ 64)) = true
  rw [q.1, decide_eq_true (Nat.le_trans q.2 hn)]
  rfl
end Fv


namespace Fv
open PySem PySem.Spec PyProof.Rows L2
/-! ### an own def as its callers see it -/
structure Own (P : Program) (w : World) (K : PySem.W.Frag) (mg : Str → Option Value) (base : Heap) (k : Nat) (x : Str) (ps : List Str) (sp : Sp) : Prop where
  ex : ∃ (f : Addr) (fd : FuncData), mg x = some (.ref f) ∧ PySem.W.keepIn K (.ref f) = true ∧ Binds K fd ps [] ∧ FnOk P w K mg base CX0 k f fd ps sp
section
variable {X : Cx} {k : Nat} {x : Str} {ps : List Str} {sp : Sp} {e : Expr} {es : List Expr} {t : TA} {p pos : Pos}
theorem pe_own (C : Own X.prog X.w X.K X.mg X.base k x ps sp) (hr : Room k X.A) (hg : Gl X x) (ha : PA X (e :: es) t) (hdb : (x == ("__debug__" : Str)) = false := by decide)
    (he : starEach (e :: es) X.env = (false, eval e X.env) :: starEach es X.env := by rfl) (hpl : (backTo pos (starEach es X.env)).any (·.1) = false := by rfl) : PE X (.Call (.Name x p) (e :: es) [] pos) (tCall sp [] E0 t) := by
  obtain ⟨f, fd, h1, h2, h3, h4⟩ := C.ex
  exact pe_call h4 hr hg h1 h2 h3 .nil pass0 ha hdb he hpl
end
/-! ### isinstance of data -/
def tyN : PyData → String
  | .none => "NoneType"
  | .bool _ => "bool"
  | .int _ => "int"
  | .str _ => "str"
  | .list _ => "list"
  | .tuple _ => "tuple"
  | .dict _ => "dict"
/-- isinstance of data, by the names of the types -/
def isB : String → String → Bool
  | a, b => a == b || (a == "bool" && b == "int")
def tyOk (T : String) : Bool := T == "str" || T == "int" || T == "bool" || T == "list" || T == "tuple" || T == "dict"
theorem kitB_all {d : PyData} {T : String} (h : tyOk T = true) : kitB (tyN d) T = some (isB (tyN d) T) := by
  simp only [tyOk, Bool.or_eq_true, beq_iff_eq] at h
  rcases h with ((((h | h) | h) | h) | h) | h <;> subst h <;> cases d <;> (simp only [tyN]; decide +kernel)
theorem dp_ty {K : PySem.W.Frag} {H : Hp} {v : V} {d : PyData} (h : Dp K H v d) : TyX K H v (.type (tyN d)) := by
  cases h with
  | non => exact .base .non
  | bl b => exact .base (.bl b)
  | int i => exact .base (.int i)
  | str x => exact .base (.str x)
  | lst hs ha =>
    rcases hs with (h | ⟨o, h⟩) | ⟨o, its, n, h1, h2, _⟩
    · exact .base (.lst h)
    · exact .base (.frz h)
    · exact .kList h1 h2
  | tup hs ha =>
    rcases hs with (h | ⟨o, h⟩) | ⟨o, its, n, h1, h2, _⟩
    · exact .base (.tup h)
    · exact .fTuple h
    · exact .kTuple h1 h2
def rIsD (K : PySem.W.Frag) : List V → Hp → VK → Prop := fun xs H Q => ∃ (x : V) (T : String) (d : PyData), xs = [x, .ty T] ∧ tyOk T = true ∧ Dp K H x d ∧ Q (.bl (isB (tyN d) T)) H
theorem call_isD {X : Cx} : CallR X (.builtin "isinstance") (rIsD X.K) := by
  intro pins s σ H xs us Q I r h
  obtain ⟨x, T, d, rfl, hT, hd, q⟩ := h
  exact call_isi pins s σ H _ us Q I r ⟨x, .ty T, _, _, _, rfl, .ty T, dp_ty hd, kit_ty (kitB_all hT), q⟩
section
variable {X : Cx} {e : Expr} {te : TE} {T : String} {y : Str} {p p2 pos : Pos}
theorem pe_isD (hg : Gl X "isinstance") (hm : X.mg "isinstance" = none) (hg2 : Gl X y) (hm2 : X.mg y = none) (ha : PE X e te)
    (hv : bootBuiltins y = some (.type T) := by decide +kernel) (hn : y ≠ "__name__" := by decide) (hd2 : (y == ("__debug__" : Str)) = false := by decide)
    (he : starEach (e :: [.Name y p2]) X.env = (false, eval e X.env) :: starEach [.Name y p2] X.env := by rfl) (hpl : (backTo pos (starEach [.Name y p2] X.env)).any (·.1) = false := by rfl) :
    PE X (.Call (.Name "isinstance" p) [e, .Name y p2] [] pos) (tCB (rIsD X.K) (tCons te (tCons (tC (.ty T)) tNil))) :=
  pe_callB (x := "isinstance") call_isD hg hm (by decide +kernel) (pa_cons ha (pa_cons (pe_bltn (v := .ty T) (pos := p2) hg2 hm2 hv rfl hn hd2) pa_nil) (hs := he)) (by decide) (by decide) he hpl
/-! ### in, not in: a tuple of data -/
def rInT (K : PySem.W.Frag) : R2 := fun x y H Q => ∃ d ds, Dp K H x d ∧ Dp K H y (.tuple ds) ∧ SeqAt.shaped d = true ∧ SeqAt.shaped (.tuple ds) = true ∧ Q (.bl (ds.any fun z => PyData.eqv z d)) H
def rNotInT (K : PySem.W.Frag) : R2 := fun x y H Q => ∃ d ds, Dp K H x d ∧ Dp K H y (.tuple ds) ∧ SeqAt.shaped d = true ∧ SeqAt.shaped (.tuple ds) = true ∧ Q (.bl (!ds.any fun z => PyData.eqv z d)) H
theorem room_shaped {n : Nat} {ds : List PyData} {d : PyData} (h : SeqAt.shaped d = true) (hu : n + 65 < cLine) : n + 1 + min (PyData.depthAll ds) d.depth < cLine := by
  have := SeqAt.depth_of_shaped h
  have := Nat.min_le_right (PyData.depthAll ds) d.depth
  omega
theorem op_inT (hu : X.A.units + 65 < cLine) : OpR X (compareOp .In) (rInT X.K) := by
  intro pins s σ H x y v u Q I rx ry h
  obtain ⟨d, ds, hd, he, sd, se, q⟩ := h
  obtain ⟨as, r1⟩ := Dp.reads I d x v hd rx
  obtain ⟨bs, r2⟩ := Dp.reads I (.tuple ds) y u he ry
  exact SeqAt.in_tuple_reads r2 r1 (SeqAt.canLay_of_shaped se) (SeqAt.canLay_of_shaped sd) (room_shaped sd hu) ⟨.bl _, H, I, rfl, q⟩
theorem op_notInT (hu : X.A.units + 65 < cLine) : OpR X (compareOp .NotIn) (rNotInT X.K) := by
  intro pins s σ H x y v u Q I rx ry h
  obtain ⟨d, ds, hd, he, sd, se, q⟩ := h
  obtain ⟨as, r1⟩ := Dp.reads I d x v hd rx
  obtain ⟨bs, r2⟩ := Dp.reads I (.tuple ds) y u he ry
  exact SeqAt.notIn_tuple_reads r2 r1 (SeqAt.canLay_of_shaped se) (SeqAt.canLay_of_shaped sd) (room_shaped sd hu) ⟨.bl _, H, I, rfl, q⟩
end
theorem hu65 {A : Around} {k : Nat} (hr : Room k A) : A.units + 65 < cLine := by have := hr.un; omega
/-! ### the source of draws -/
/-- the source at a: its script at L, ns -/
def Src (H : Hp) (a L : Addr) (ns : List Int) : Prop := ∃ i p st c : Int, H a = some (.lst [.ref L, .int i, .int p, .int st, .int c]) ∧ H L = some (.lst (ns.map V.int)) ∧ 0 ≤ i ∧ 0 ≤ st ∧ st < 2147483629
theorem Src.off {H H' : Hp} {a L b : Addr} {ns : List Int} (h : Src H a L ns) (hb : H b = none) (e : ∀ c, c ≠ b → H' c = H c) : Src H' a L ns := by
  obtain ⟨i, p, st, c, h1, h2, h3⟩ := h
  exact ⟨i, p, st, c, by rw [e a (ne_of_none h1 hb)]; exact h1, by rw [e L (ne_of_none h2 hb)]; exact h2, h3⟩
theorem Src.same {H H' : Hp} {a L : Addr} {ns : List Int} (h : Src H a L ns) (e : Same H H') : Src H' a L ns := by
  obtain ⟨i, p, st, c, h1, h2, h3⟩ := h
  exact ⟨i, p, st, c, e _ _ h1, e _ _ h2, h3⟩
def spSource (K : PySem.W.Frag) : Sp := fun vs H Q _ => ∃ (a : Addr) (ns : List Int), vs = [.ref a] ∧ SqL K H a (ns.map V.int) ∧ ns.length ≤ 63 ∧
  ∀ (H' : Hp) (p L : Addr), Same H H' → H p = none → H L = none → Src H' p L ns → Q (.ref p) H'
def spTake : Sp := fun vs H Q _ => ∃ (a L : Addr) (ns : List Int) (n : Int), vs = [.ref a, .int n] ∧ Src H a L ns ∧ 1 ≤ n ∧ n ≤ 1000000 ∧
  ∀ (H' : Hp) (d : Int), 0 ≤ d → d < n → Src H' a L ns → (∀ b, b ≠ a → H' b = H b) → Q (.int d) H'
def spPick : Sp := fun vs H Q _ => ∃ (a L r : Addr) (ns : List Int) (xs : List V), vs = [.ref a, .ref r] ∧ Src H a L ns ∧ r ≠ a ∧ H r = some (.lst xs) ∧ 0 < xs.length ∧ xs.length ≤ 1000 ∧
  ∀ (H' : Hp) (v : V), v ∈ xs → Src H' a L ns → (∀ b, b ≠ a → H' b = H b) → Q v H'
def spMixed : Sp := fun vs H Q _ => ∃ (a L r : Addr) (ns : List Int) (xs : List V), vs = [.ref a, .ref r] ∧ Src H a L ns ∧ r ≠ a ∧ H r = some (.lst xs) ∧ xs.length ≤ 1000 ∧
  ∀ (H' : Hp) (p : Addr) (ys : List V), ys.Perm xs → H p = none → H' p = some (.lst ys) → Src H' a L ns → (∀ b, b ≠ a → b ≠ p → H' b = H b) → Q (.ref p) H'
end Fv


namespace Fv
open PySem PySem.Spec PyProof.Rows L2
/-! ### list(text) -/
def signs (x : Str) : List V := x.cps.toList.map fun c => V.str ⟨#[c]⟩
theorem vals_signs {x : Str} {acc : Array Value} (h : ItemsOf (SignAt x) acc x.cps.size) : Vals (signs x) acc.toList := by
  have hs : acc.toList.length = x.cps.toList.length := by simpa using h.1
  have hi : ∀ (j : Nat) (v : Value), acc.toList[j]? = some v → ∃ c u, x.cps.toList[j]? = some c ∧ v = .str ⟨#[c]⟩ u := fun j v e => by
    obtain ⟨c, u, e1, e2⟩ := h.2 j v (by simpa using e)
    exact ⟨c, u, by simpa using e1, e2⟩
  unfold signs
  generalize acc.toList = us at hs hi
  generalize x.cps.toList = cs at hs hi
  induction cs generalizing us with
  | nil =>
    cases us with
    | nil => exact .nil
    | cons u us => simp at hs
  | cons c cs ih =>
    cases us with
    | nil => simp at hs
    | cons u us =>
      obtain ⟨c', t, e1, e2⟩ := hi 0 u rfl
      simp at e1
      subst e1
      refine .cons ⟨t, e2⟩ (ih us (by simpa using hs) fun j v e => ?_)
      obtain ⟨c', t, e1, e2⟩ := hi (j + 1) v (by simpa using e)
      exact ⟨c', t, by simpa using e1, e2⟩
section
variable {X : Cx}
theorem call_listStr (hh : X.A.handled = none) : CallR X (.type "list") (fun xs H Q => ∃ x : Str, xs = [.str x] ∧ x.cps.size ≤ sizeLine ∧ ∀ l, H l = none → Q (.ref l) (upd H l (.lst (signs x)))) := by
  intro pins s σ H xs us Q I r h
  obtain ⟨x, rfl, hz, q⟩ := h
  obtain ⟨u, rfl, rx⟩ := vals1 r
  obtain ⟨t, rfl⟩ := rx
  refine call_list_str hh x t (fun h' tk acc' c' kp e it => ?_) hz
  have rv := vals_signs it
  refine ⟨.ref s.heap.objs.size, _, I.laid (t' := tk) kp (Nat.le_refl _) (show ObjOk X.prog X.w _ h' _ (.lst (signs x)) from ⟨?_, acc'.toList, c', rv, ?_⟩), rfl, q _ (I.hok.fresh (Nat.le_refl _))⟩
  · unfold signs; rw [List.length_map, Array.length_toList]; exact hz
  · simpa using e
end
theorem atI_mem {xs : List V} {i : Int} (h0 : 0 ≤ i) (h : i < (xs.length : Nat)) : ∃ v, atI xs i = some v ∧ v ∈ xs := by
  have hk : i.toNat < xs.length := by omega
  have q : atI xs ((i.toNat : Nat) : Int) = some xs[i.toNat] := atI_nat (List.getElem?_eq_getElem hk)
  rw [show ((i.toNat : Nat) : Int) = i by omega] at q
  exact ⟨_, q, List.getElem_mem hk⟩
theorem le1000 {n : Nat} (h : n ≤ 1000) : n ≤ sizeLine := Nat.le_of_lt (small1000 h)
/-- the letters of a list of signs are texts of one sign of a to h -/
def lett (v : V) : Prop := v ∈ signs "abcdefgh"
theorem lett_data {v : V} (h : lett v) : ∃ x : Str, v = .str x ∧ x ∈ (["a", "b", "c", "d", "e", "f", "g", "h"] : List Str) := by
  have e : signs "abcdefgh" = (["a", "b", "c", "d", "e", "f", "g", "h"] : List Str).map V.str := by decide +kernel
  unfold lett at h
  rw [e] at h
  obtain ⟨x, hx, rfl⟩ := List.mem_map.mp h
  exact ⟨x, rfl, hx⟩
def spSigns : Sp := fun vs H Q _ => ∃ (a L : Addr) (ns : List Int) (n : Int), vs = [.ref a, .int n] ∧ Src H a L ns ∧ 1 ≤ n ∧ n ≤ 8 ∧
  ∀ (H' : Hp) (p : Addr) (ys : List V), 0 < ys.length → ys.length ≤ n → (∀ y ∈ ys, lett y) → ys.Nodup → H p = none → H' p = some (.lst ys) → Src H' a L ns → SmX [a] H H' → Q (.ref p) H'
theorem cut_take (xs : List V) {n : Int} (h : 0 ≤ n) : cutV xs none (some n) = xs.take n.toNat := by
  unfold cutV
  rw [HT.sIx_none, show HT.sIx xs.length xs.length (some n) = min n.toNat xs.length by
    have := HT.sIx_nat xs.length xs.length n.toNat
    rw [show ((n.toNat : Nat) : Int) = n by omega] at this
    exact this]
  rw [List.drop_zero, Nat.sub_zero]
  rcases Nat.le_total n.toNat xs.length with q | q
  · rw [Nat.min_eq_left q]
  · rw [Nat.min_eq_right q, List.take_of_length_le (Nat.le_refl _), List.take_of_length_le q]
theorem cut_drop1 (xs : List V) : cutV xs (some 1) none = xs.drop 1 := by
  unfold cutV
  rw [show HT.sIx xs.length 0 (some 1) = min 1 xs.length from HT.sIx_nat xs.length 0 1, HT.sIx_none]
  cases xs with
  | nil => rfl
  | cons x r =>
    rw [show min 1 (x :: r).length = 1 by
      rw [List.length_cons]
      omega]
    show (List.take ((x :: r).length - 1) r) = r
    rw [List.length_cons, Nat.add_sub_cancel]
    exact List.take_length
theorem at0 {x : V} {xs : List V} : atI (x :: xs) 0 = some x := atI_nat (xs := x :: xs) (rfl : (x :: xs)[0]? = some x)
end Fv


namespace FvO
open PySem PySem.Spec PyProof.Rows L2
/-! ### int(t, 2) -/
section
open PySem.NumText PySem.Calls L2.Hx
def IsBin (c : Nat) : Prop := c = 48 ∨ c = 49
def binNum (l : List Nat) : Nat := l.foldl (fun a c => a * 2 + (c - 48)) 0
theorem digit_bin {c : Nat} (h : IsBin c) : digit? c = some (c - 48) := by
  unfold IsBin at h
  unfold digit?
  rw [if_pos (bb (show 48 ≤ c by omega) (show c ≤ 57 by omega))]
theorem step_bin {ds : Array Nat} {b : Bool} {c : Nat} (h : IsBin c) : PySem.NumText.step 2 (ds, b) c = some (ds.push (c - 48), true) := by
  have hr : c ≠ 95 := by unfold IsBin at h; omega
  unfold PySem.NumText.step
  rw [if_neg (by rw [beq_iff_eq]; exact hr), digit_bin h]
  exact if_pos (show c - 48 < 2 by unfold IsBin at h; omega)
theorem foldl_bin : ∀ (cs : List Nat) (ds : Array Nat), (∀ c ∈ cs, IsBin c) → cs.foldlM (PySem.NumText.step 2) (ds, true) = some (cs.foldl (fun acc c => acc.push (c - 48)) ds, true)
  | [], _, _ => rfl
  | c :: cs, ds, h => by
    rw [List.foldlM_cons, step_bin (h c (List.mem_cons_self ..))]
    show cs.foldlM (PySem.NumText.step 2) (ds.push (c - 48), true) = _
    exact foldl_bin cs (ds.push (c - 48)) fun d hd => h d (List.mem_cons_of_mem _ hd)
theorem digits_bin {cs : List Nat} (h : ∀ c ∈ cs, IsBin c) (hne : cs ≠ []) : digits? 2 cs = some (cs.foldl (fun acc c => acc.push (c - 48)) #[]) := by
  cases cs with
  | nil => exact absurd rfl hne
  | cons c cs =>
    unfold digits?
    rw [List.foldlM_cons, step_bin (h c (List.mem_cons_self ..))]
    show (cs.foldlM (PySem.NumText.step 2) ((#[] : Array Nat).push (c - 48), true)).bind _ = _
    rw [foldl_bin cs _ fun d hd => h d (List.mem_cons_of_mem _ hd)]
    rfl
theorem push_bin : ∀ (cs : List Nat) (ds : Array Nat), (cs.foldl (fun acc c => acc.push (c - 48)) ds).foldl (fun acc d => acc * 2 + d) 0 = cs.foldl (fun a c => a * 2 + (c - 48)) (ds.foldl (fun acc d => acc * 2 + d) 0)
  | [], _ => rfl
  | c :: cs, ds => by
    rw [List.foldl_cons, push_bin cs (ds.push (c - 48)), List.foldl_cons]
    congr 1
    simp
theorem bin_hex {c : Nat} (h : IsBin c) : IsHex c := .inl (by unfold IsBin at h; omega)
theorem prefB {cs : List Nat} (h : ∀ c ∈ cs, IsBin c) : PySem.NumText.prefix? cs = none := by
  match cs, h with
  | [], _ => rfl
  | [a], _ =>
    unfold PySem.NumText.prefix?
    split
    · rename_i e; cases e
    · rfl
  | a :: c :: r, h =>
    have hc := h c (List.mem_cons_of_mem _ (List.mem_cons_self ..))
    unfold IsBin at hc
    by_cases ha : a = 48
    · subst ha
      have e : PySem.NumText.prefix? (48 :: c :: r) = if (c == 120 || c == 88) = true then some 16 else if (c == 111 || c == 79) = true then some 8 else if (c == 98 || c == 66) = true then some 2 else none := rfl
      rw [e, if_neg (by rw [Bool.or_eq_true, beq_iff_eq, beq_iff_eq]; omega), if_neg (by rw [Bool.or_eq_true, beq_iff_eq, beq_iff_eq]; omega), if_neg (by rw [Bool.or_eq_true, beq_iff_eq, beq_iff_eq]; omega)]
    · unfold PySem.NumText.prefix?
      split
      · rename_i e
        exact absurd (List.cons.inj e).1 ha
      · rfl
theorem basedB {cs : List Nat} (h : ∀ c ∈ cs, IsBin c) : based 2 cs = (2, false, cs) := by
  unfold based
  rw [prefB h]
  rfl
theorem read_bin {cs : List Nat} (h : ∀ c ∈ cs, IsBin c) (hne : cs ≠ []) : (int_private% "readNumeral") 0 2 cs = (int_private% "Numeral.value") ((binNum cs : Nat) : Int) := by
  have hh : ∀ c ∈ cs, IsHex c := fun c hc => bin_hex (h c hc)
  have hr : ∀ c ∈ cs.reverse, IsHex c := fun c hc => hh c (List.mem_reverse.mp hc)
  refine (readNumeral_eq 0 2 cs).trans ?_
  rw [dropB hh, signH hh]
  show judge 0 false (based 2 cs).1 (based 2 cs).2.1 (digits? (based 2 cs).1 (((based 2 cs).2.2.reverse.dropWhile blank).reverse)) = _
  rw [basedB h]
  show judge 0 false 2 false (digits? 2 ((cs.reverse.dropWhile blank).reverse)) = _
  rw [dropB hr, List.reverse_reverse, digits_bin h hne]
  show (int_private% "Numeral.value") (((cs.foldl (fun acc c => acc.push (c - 48)) (#[] : Array Nat)).foldl (fun acc d => acc * 2 + d) 0 : Nat) : Int) = _
  have z : (#[] : Array Nat).foldl (fun acc d => acc * 2 + d) 0 = 0 := by first | rfl | simp
  rw [push_bin, z] <;> rfl
set_option maxHeartbeats 4000000 in
theorem gives_bin {x : PySem.Str} {u t : Tok} (hl : x.length ≤ 640) (h : ∀ c ∈ x.cps.toList, IsBin c) (hne : x.cps.toList ≠ []) :
    Gives (Builtin.«int.__new__» ⟨[.type "int", .str x u, .int 2 t], []⟩) (.int ((binNum x.cps.toList : Nat) : Int)) :=
  .of_wp fun M A E s Q hQ => by
    obtain ⟨hp, g, d, tk, os⟩ := s
    have f1 := F.conv_sub_int
    have f2 := F.madeHere_int
    have f6 : typeOf (.str x u) = pure (.type "str") := rfl
    obtain ⟨e1, e2⟩ := seen_hex (x := x) fun c hc => bin_hex (h c hc)
    have hs : (numSeenOf x).length ≤ 640 := by
      rw [e2, Array.length_toList]
      exact hl
    have hr : (int_private% "readNumeral") 0 2 (numSeenOf x) = (int_private% "Numeral.value") ((binNum x.cps.toList : Nat) : Int) := by
      rw [e2]
      exact read_bin h hne
    have ha : ((numSeenOf x).length == (numTextOf x).length) = true := by
      rw [e1, e2]
      exact beq_self_eq_true _
    have hk := Hid.mk (And.intro hs (And.intro hr ha))
    clear hs hr ha e1 e2 hl hne h
    repeat (any_goals (first
      | assumption
      | ((with_reducible show wpAny _ _ ((int_private% "intFromText") _ _ _) _ _ _); refine wp_textB hk.out.1 hk.out.2.1 hk.out.2.2 ?_)
      | wp_step))
    all_goals first | exact ⟨_, rfl, hQ⟩ | skip
theorem call_bin {prog : Program} {w : World} {A : Around} {E : Value → Shared → Prop} {s : Shared} {Q : Value → Shared → Prop} {x : PySem.Str} {u t : Tok} (hl : x.length ≤ 640) (h : ∀ c ∈ x.cps.toList, IsBin c) (hne : x.cps.toList ≠ [])
    (hQ : Q (.int ((binNum x.cps.toList : Nat) : Int) s.toks) { s with toks := s.toks + 1 }) : wpAny (model prog w) A (call (.type "int") [.str x u, .int 2 t]) Q E s :=
  callType_new F.called_int F.newNe_int (typeCall_int_2 _ _) (newCall_int_2 _ _) (fun obj => F.initArgs_range_2 obj _ _) F.entry_int_new (gives_bin hl h hne).meets (show (Made.int ((binNum x.cps.toList : Nat) : Int)).post _ s from ⟨rfl, hQ⟩)
end
def rIntBin : List V → Hp → VK → Prop := fun xs H Q => ∃ x : Str, xs = [.str x, .int 2] ∧ x.cps.toList ≠ [] ∧ x.length ≤ 640 ∧ (∀ c ∈ x.cps.toList, IsBin c) ∧ Q (.int ((binNum x.cps.toList : Nat) : Int)) H
theorem call_int_bin {X : Cx} : CallR X (.type "int") rIntBin := by
  intro pins s σ H xs us Q I r h
  obtain ⟨x, rfl, hne, hl, hx, q⟩ := h
  obtain ⟨u, w', rfl, r1, r2⟩ := vals2 r
  obtain ⟨t1, rfl⟩ := r1
  obtain ⟨t2, rfl⟩ := r2
  exact call_bin hl hx hne ⟨.int ((binNum x.cps.toList : Nat) : Int), H, I.tok _, ⟨_, rfl⟩, q⟩
/-! ### t[::-1] of a text -/
def revS (z : Str) : Str := ⟨z.cps.toList.reverse.toArray⟩
theorem idx_rev (n : Nat) : Builtin.Str.strSliceIndices none none (-1) n = (List.range n).reverse := by
  show sliceRange (if (-1 : Int) > 0 then 0 else (n : Int) - 1) (if (-1 : Int) > 0 then (n : Int) else -1) (-1) = _
  rw [if_neg (by decide), if_neg (by decide), PySem.W.krv_sliceRange, PySem.W.krv_range]
theorem pick_rev {α : Type} (xs : Array α) : (List.range xs.size).reverse.filterMap (xs[·]?) = xs.toList.reverse := by
  rw [List.filterMap_reverse, PySem.W.krv_all]
section
variable {X : Cx}
def tRevS (te : TE) : TE := fun σ H Q => te σ H fun x H1 => ∃ z : Str, x = .str z ∧ z.length ≤ sizeLine ∧ Q (.str (revS z)) H1
theorem pe_revS {e : Expr} {te : TE} {k : Nat} {p1 p2 p3 pos : Pos} (he : PE X e te) : PE X (.Subscript e (.Slice none none (some (.UnaryOp .USub (.Constant (.int 1) k p1) p2)) p3) pos) (tRevS te) := by
  refine ⟨fun pins s σ H Q I h => ?_⟩
  refine Subscript_ (thn (he.run pins s σ H _ I h) fun v s1 ⟨x, H1, I1, r1, q1⟩ => ?_)
  obtain ⟨z, ex, hz, q⟩ := q1
  subst ex
  obtain ⟨t, rfl⟩ := r1
  have hst : PO X (some (.UnaryOp .USub (.Constant (.int 1) k p1) p2)) (tPart (tUn (rU fun i => .int (-i)) (tC (.int 1)))) := po_some (pe_un un_neg pe_int)
  refine wpAny_Slice (thn (po_none.run pins s1 σ H1 (fun o H2 => o = none ∧ H2 = H1) I1 ⟨rfl, rfl⟩) fun vl s2 ⟨l, H2, I2, pl, el, e2⟩ => ?_)
  subst el e2
  refine thn (po_none.run pins s2 σ H2 (fun o H3 => o = none ∧ H3 = H2) I2 ⟨rfl, rfl⟩) fun vu s3 ⟨u, H3, I3, pu, eu, e3⟩ => ?_
  subst eu e3
  refine thn (hst.run pins s3 σ H3 (fun o H4 => o = some (-1) ∧ H4 = H3) I3 ⟨1, rfl, -1, rfl, rfl, rfl⟩) fun vs s4 ⟨o, H4, I4, ps, eo, e4⟩ => ?_
  subst eo e4
  have I5 : Inv X pins σ H4 { s4 with heap := s4.heap.push { cls := .type "slice", data := .fields #[vl, vu, vs] } } := I4.kept (t' := s4.toks) fun b ob q => Heap.get?_push_of_some _ q
  show wpAny (model X.prog X.w) X.A (subscriptTail e (.Slice none none (some (.UnaryOp .USub (.Constant (.int 1) k p1) p2)) p3) (.str z t) (.ref s4.heap.objs.size)) (EP X pins σ Q) X.xe { s4 with heap := s4.heap.push { cls := .type "slice", data := .fields #[vl, vu, vs] } }
  refine tail_any (ops := [.str z t, .ref s4.heap.objs.size]) (typeIs_str _ z t) (F.slot_str_getitem.lookup) ?_ (by with_unfolding_all rfl)
  obtain ⟨l, rfl, el⟩ := IsPart.raw pl
  obtain ⟨u, rfl, eu⟩ := IsPart.raw pu
  obtain ⟨st, rfl, es⟩ := IsPart.raw ps
  have hs5 : ((st.map (·.1)).getD 1) = -1 := by rw [es]; rfl
  refine wpAny_getItem_str_slice (l := l) (u := u) (st := st) ⟨_, Heap.get?_push_size _ rfl, rfl, rfl⟩ (by rw [hs5]; decide) ?_
  have hp : slicePicked z l u st = (List.range z.cps.size).reverse := by
    unfold slicePicked
    rw [hs5, el, eu]
    exact idx_rev z.length
  unfold sliceMade
  rw [hs5, hp, pick_rev, if_neg (by simp)]
  exact ⟨(by show z.cps.toList.reverse.toArray.size ≤ sizeLine; rw [List.size_toArray, List.length_reverse, Array.length_toList]; exact hz), .str _, H4, I5.tok _, ⟨_, rfl⟩, q⟩
end
/-! ### t.strip('01') -/
theorem mt_stripK {X : Cx} : MtR X "str.strip" (fun x xs H Q => ∃ a b, x = .str a ∧ xs = [.str b] ∧ a.length ≤ sizeLine ∧ Q (.str (Txt.stripChars a b)) H) := mt_stripChars
end FvO


namespace Fv
open PySem PySem.Spec PyProof.Rows L2 TL
/-- a text of these signs -/
def mk (l : List Nat) : Str := ⟨l.toArray⟩
theorem tl_mk (l : List Nat) : tl (mk l) = l := rfl
theorem mk_len (l : List Nat) : (mk l).length = l.length := by rw [len_tl, tl_mk]
theorem join_empty : ∀ l : List Nat, Txt.join "" (l.map fun c => (⟨#[c]⟩ : Str)) = mk l := fun l => by
  refine ext_tl ?_
  rw [join_eq, tl_join, List.map_map]
  have e : ∀ l : List Nat, joinL (tl "") (l.map (tl ∘ fun c => (⟨#[c]⟩ : Str))) = l := fun l => by
    induction l with
    | nil => rfl
    | cons c l ih =>
      cases l with
      | nil => rfl
      | cons c2 l =>
        show [c] ++ (tl "" ++ joinL (tl "") ((c2 :: l).map (tl ∘ fun c => (⟨#[c]⟩ : Str)))) = _
        rw [ih]
        rfl
  exact e l
theorem pos26 : (0 : Int) < 26 := by decide
theorem sum_ones : ∀ l : List Nat, ((l.map fun c => (⟨#[c]⟩ : Str)).map (·.length)).sum = l.length
  | [] => rfl
  | c :: l => by rw [List.map_cons, List.map_cons, List.sum_cons, sum_ones l, List.length_cons]; show 1 + _ = _; omega
end Fv


namespace Fv
open PySem PySem.Spec PyProof.Rows L2 TL
/-! ### families of sets as boards -/
def subM (a b : Nat) : Bool := decide (a &&& b = a)
theorem subM_iff {a b : Nat} : subM a b = true ↔ a &&& b = a := decide_eq_true_iff
theorem subM_refl (a : Nat) : subM a a = true := subM_iff.mpr (Nat.and_self a)
theorem subM_trans {a b c : Nat} (h : subM a b = true) (g : subM b c = true) : subM a c = true := by
  rw [subM_iff] at h g ⊢
  rw [← h, Nat.and_assoc, g]
theorem subM_anti {a b : Nat} (h : subM a b = true) (g : subM b a = true) : a = b := by
  rw [subM_iff] at h g
  rw [← h, Nat.and_comm, g]
theorem subM_and {z a b : Nat} : subM z (a &&& b) = true ↔ subM z a = true ∧ subM z b = true := by
  constructor
  · intro h
    have h1 : subM (a &&& b) a = true := subM_iff.mpr (by rw [Nat.and_comm a b, Nat.and_assoc, Nat.and_self])
    have h2 : subM (a &&& b) b = true := subM_iff.mpr (by rw [Nat.and_assoc, Nat.and_self])
    exact ⟨subM_trans h h1, subM_trans h h2⟩
  · rintro ⟨h, g⟩
    rw [subM_iff] at h g ⊢
    rw [← Nat.and_assoc, h, g]
/-- at most 16 sets, with a greatest one and with all meets -/
structure Fam (ms : List Nat) : Prop where
  nd : ms.Nodup
  cl : ∀ a ∈ ms, ∀ b ∈ ms, a &&& b ∈ ms
  top : ∃ t ∈ ms, ∀ a ∈ ms, subM a t = true
  ln : ms.length ≤ 16
theorem Fam.perm {ms ns : List Nat} (h : Fam ms) (p : ns.Perm ms) : Fam ns :=
  ⟨p.nodup_iff.mpr h.nd, fun a ha b hb => p.mem_iff.mpr (h.cl a (p.mem_iff.mp ha) b (p.mem_iff.mp hb)), by
    obtain ⟨t, ht, h1⟩ := h.top
    exact ⟨t, p.mem_iff.mpr ht, fun a ha => h1 a (p.mem_iff.mp ha)⟩, by rw [p.length_eq]; exact h.ln⟩
def msAt (ms : List Nat) (x : Nat) : Nat := ms.getD x 0
theorem msAt_get {ms : List Nat} {x : Nat} (h : x < ms.length) : ms[x]? = some (msAt ms x) := by
  unfold msAt
  rw [List.getD_eq_getElem?_getD, List.getElem?_eq_getElem h]
  rfl
theorem msAt_mem {ms : List Nat} {x : Nat} (h : x < ms.length) : msAt ms x ∈ ms := List.mem_of_getElem? (msAt_get h)
theorem msAt_ex {ms : List Nat} {a : Nat} (h : a ∈ ms) : ∃ x, x < ms.length ∧ msAt ms x = a := by
  obtain ⟨x, hx, e⟩ := List.getElem_of_mem h
  refine ⟨x, hx, ?_⟩
  have := msAt_get hx
  rw [List.getElem?_eq_getElem hx, e] at this
  exact (Option.some.inj this).symm
theorem msAt_inj {ms : List Nat} (nd : ms.Nodup) {x y : Nat} (hx : x < ms.length) (hy : y < ms.length) (h : msAt ms x = msAt ms y) : x = y := by
  have e1 := msAt_get hx
  have e2 := msAt_get hy
  rw [List.getElem?_eq_getElem hx] at e1
  rw [List.getElem?_eq_getElem hy] at e2
  have e3 : ms[x] = ms[y] := by rw [Option.some.inj e1, Option.some.inj e2, h]
  exact (List.getElem_inj nd).mp e3
def leI (ms : List Nat) (x y : Nat) : Bool := subM (msAt ms x) (msAt ms y)
def lowL (ms : List Nat) (x y : Nat) : List Nat := (List.range ms.length).filter fun z => leI ms z x && leI ms z y
def upL (ms : List Nat) (x y : Nat) : List Nat := (List.range ms.length).filter fun z => leI ms x z && leI ms y z
def lowM (ms : List Nat) (x y : Nat) : List Nat := (lowL ms x y).filter fun z => (lowL ms x y).all fun w => leI ms w z
def upM (ms : List Nat) (x y : Nat) : List Nat := (upL ms x y).filter fun z => (upL ms x y).all fun w => leI ms z w
def lowI (ms : List Nat) (x y : Nat) : Nat := (lowM ms x y).headD 0
def upI (ms : List Nat) (x y : Nat) : Nat := (upM ms x y).headD 0
theorem mem_lowL {ms : List Nat} {x y z : Nat} : z ∈ lowL ms x y ↔ z < ms.length ∧ leI ms z x = true ∧ leI ms z y = true := by
  unfold lowL
  rw [List.mem_filter, List.mem_range, Bool.and_eq_true]
theorem mem_upL {ms : List Nat} {x y z : Nat} : z ∈ upL ms x y ↔ z < ms.length ∧ leI ms x z = true ∧ leI ms y z = true := by
  unfold upL
  rw [List.mem_filter, List.mem_range, Bool.and_eq_true]
theorem head_mem {l : List Nat} {z : Nat} (h : z ∈ l) : l.headD 0 ∈ l ∧ ∃ r, l = l.headD 0 :: r := by
  cases l with
  | nil => cases h
  | cons a r => exact ⟨List.mem_cons_self, r, rfl⟩
theorem low_ex {ms : List Nat} (F : Fam ms) {x y : Nat} (hx : x < ms.length) (hy : y < ms.length) : ∃ z, z ∈ lowM ms x y := by
  obtain ⟨z, hz, e⟩ := msAt_ex (F.cl _ (msAt_mem hx) _ (msAt_mem hy))
  have key : ∀ w, leI ms w z = true ↔ leI ms w x = true ∧ leI ms w y = true := fun w => by
    unfold leI
    rw [e]
    exact subM_and
  refine ⟨z, List.mem_filter.mpr ⟨mem_lowL.mpr ⟨hz, (key z).mp (subM_refl _)⟩, List.all_eq_true.mpr fun w hw => (key w).mpr (mem_lowL.mp hw).2⟩⟩
theorem inf_ex {ms : List Nat} (cl : ∀ a ∈ ms, ∀ b ∈ ms, a &&& b ∈ ms) : ∀ (l : List Nat) (t : Nat), t ∈ ms → (∀ a ∈ l, a ∈ ms) → ∃ j ∈ ms, subM j t = true ∧ (∀ a ∈ l, subM j a = true) ∧ ∀ z, subM z t = true → (∀ a ∈ l, subM z a = true) → subM z j = true
  | [], t, ht, _ => ⟨t, ht, subM_refl t, fun a ha => (nomatch ha), fun z h _ => h⟩
  | b :: l, t, ht, hl => by
    obtain ⟨j, hj, h1, h2, h3⟩ := inf_ex cl l t ht fun a ha => hl a (List.mem_cons_of_mem _ ha)
    have q := subM_and.mp (subM_refl (j &&& b))
    refine ⟨j &&& b, cl _ hj _ (hl b List.mem_cons_self), subM_trans q.1 h1, fun a ha => ?_, fun z hz hzl => subM_and.mpr ⟨h3 z hz fun a ha => hzl a (List.mem_cons_of_mem _ ha), hzl b List.mem_cons_self⟩⟩
    rcases List.mem_cons.mp ha with e | e
    · rw [e]; exact q.2
    · exact subM_trans q.1 (h2 a e)
theorem up_ex {ms : List Nat} (F : Fam ms) {x y : Nat} (hx : x < ms.length) (hy : y < ms.length) : ∃ z, z ∈ upM ms x y := by
  obtain ⟨t, ht, h1⟩ := F.top
  obtain ⟨j, hj, j1, j2, j3⟩ := inf_ex F.cl (ms.filter fun c => subM (msAt ms x) c && subM (msAt ms y) c) t ht fun a ha => (List.mem_filter.mp ha).1
  obtain ⟨z, hz, e⟩ := msAt_ex hj
  have ux : subM (msAt ms x) j = true := j3 _ (h1 _ (msAt_mem hx)) fun a ha => (Bool.and_eq_true_iff.mp (List.mem_filter.mp ha).2).1
  have uy : subM (msAt ms y) j = true := j3 _ (h1 _ (msAt_mem hy)) fun a ha => (Bool.and_eq_true_iff.mp (List.mem_filter.mp ha).2).2
  refine ⟨z, List.mem_filter.mpr ⟨mem_upL.mpr ⟨hz, ?_, ?_⟩, List.all_eq_true.mpr fun w hw => ?_⟩⟩
  · unfold leI; rw [e]; exact ux
  · unfold leI; rw [e]; exact uy
  · obtain ⟨w1, w2, w3⟩ := mem_upL.mp hw
    unfold leI at w2 w3 ⊢
    rw [e]
    exact j2 _ (List.mem_filter.mpr ⟨msAt_mem w1, by rw [w2, w3]; rfl⟩)
theorem low_cons {ms : List Nat} (F : Fam ms) {x y : Nat} (hx : x < ms.length) (hy : y < ms.length) : lowI ms x y ∈ lowM ms x y ∧ ∃ r, lowM ms x y = lowI ms x y :: r := by
  obtain ⟨z, hz⟩ := low_ex F hx hy
  exact head_mem hz
theorem up_cons {ms : List Nat} (F : Fam ms) {x y : Nat} (hx : x < ms.length) (hy : y < ms.length) : upI ms x y ∈ upM ms x y ∧ ∃ r, upM ms x y = upI ms x y :: r := by
  obtain ⟨z, hz⟩ := up_ex F hx hy
  exact head_mem hz
theorem low_spec {ms : List Nat} (F : Fam ms) {x y : Nat} (hx : x < ms.length) (hy : y < ms.length) : lowI ms x y < ms.length ∧ ∀ w, w < ms.length → (leI ms w (lowI ms x y) = true ↔ leI ms w x = true ∧ leI ms w y = true) := by
  obtain ⟨h1, h2⟩ := List.mem_filter.mp (low_cons F hx hy).1
  obtain ⟨a, b, c⟩ := mem_lowL.mp h1
  refine ⟨a, fun w hw => ⟨fun h => ⟨subM_trans h b, subM_trans h c⟩, fun h => ?_⟩⟩
  exact List.all_eq_true.mp h2 w (mem_lowL.mpr ⟨hw, h⟩)
theorem up_spec {ms : List Nat} (F : Fam ms) {x y : Nat} (hx : x < ms.length) (hy : y < ms.length) : upI ms x y < ms.length ∧ ∀ w, w < ms.length → (leI ms (upI ms x y) w = true ↔ leI ms x w = true ∧ leI ms y w = true) := by
  obtain ⟨h1, h2⟩ := List.mem_filter.mp (up_cons F hx hy).1
  obtain ⟨a, b, c⟩ := mem_upL.mp h1
  refine ⟨a, fun w hw => ⟨fun h => ⟨subM_trans b h, subM_trans c h⟩, fun h => ?_⟩⟩
  exact List.all_eq_true.mp h2 w (mem_upL.mpr ⟨hw, h⟩)
theorem leI_refl {ms : List Nat} (x : Nat) : leI ms x x = true := subM_refl _
theorem leI_trans {ms : List Nat} {x y z : Nat} (h : leI ms x y = true) (g : leI ms y z = true) : leI ms x z = true := subM_trans h g
theorem leI_anti {ms : List Nat} (F : Fam ms) {x y : Nat} (hx : x < ms.length) (hy : y < ms.length) (h : leI ms x y = true) (g : leI ms y x = true) : x = y := msAt_inj F.nd hx hy (subM_anti h g)
/-- all triples -/
def Spr (ms : List Nat) : Prop := ∀ x, x < ms.length → ∀ y, y < ms.length → ∀ z, z < ms.length → lowI ms x (upI ms y z) = upI ms (lowI ms x y) (lowI ms x z)
theorem low_ms {ms : List Nat} (F : Fam ms) {x y : Nat} (hx : x < ms.length) (hy : y < ms.length) : msAt ms (lowI ms x y) = msAt ms x &&& msAt ms y := by
  obtain ⟨h1, h2⟩ := low_spec F hx hy
  obtain ⟨z, hz, e⟩ := msAt_ex (F.cl _ (msAt_mem hx) _ (msAt_mem hy))
  have a := (h2 _ h1).mp (leI_refl _)
  refine subM_anti (subM_and.mpr a) ?_
  have q := subM_and.mp (subM_refl (msAt ms x &&& msAt ms y))
  have b := (h2 z hz).mpr (by unfold leI; rw [e]; exact q)
  unfold leI at b
  rw [e] at b
  exact b
/-- all subsets spread -/
theorem spr_range {ms : List Nat} {k : Nat} (F : Fam ms) (h : ∀ a, a ∈ ms ↔ a < 2 ^ k) : Spr ms := by
  have up_ms : ∀ {x y : Nat}, x < ms.length → y < ms.length → msAt ms (upI ms x y) = msAt ms x ||| msAt ms y := fun {x y} hx hy => by
    obtain ⟨h1, h2⟩ := up_spec F hx hy
    obtain ⟨z, hz, e⟩ := msAt_ex ((h _).mpr (Nat.or_lt_two_pow ((h _).mp (msAt_mem hx)) ((h _).mp (msAt_mem hy))))
    have a := (h2 _ h1).mp (leI_refl _)
    have b1 : subM (msAt ms x) (msAt ms x ||| msAt ms y) = true := subM_iff.mpr (by rw [Nat.and_or_distrib_left, Nat.and_self]; apply Nat.eq_of_testBit_eq; intro i; rw [Nat.testBit_or, Nat.testBit_and]; cases Nat.testBit (msAt ms x) i <;> simp)
    have b2 : subM (msAt ms y) (msAt ms x ||| msAt ms y) = true := subM_iff.mpr (by apply Nat.eq_of_testBit_eq; intro i; rw [Nat.testBit_and, Nat.testBit_or]; cases Nat.testBit (msAt ms y) i <;> simp)
    have b := (h2 z hz).mpr (by unfold leI; rw [e]; exact ⟨b1, b2⟩)
    unfold leI at a b
    rw [e] at b
    refine subM_anti b ?_
    rw [subM_iff]
    obtain ⟨a1, a2⟩ := a
    rw [subM_iff] at a1 a2
    rw [Nat.and_comm, Nat.and_or_distrib_left, Nat.and_comm _ (msAt ms x), a1, Nat.and_comm _ (msAt ms y), a2]
  intro x hx y hy z hz
  have u1 := (up_spec F hy hz).1
  have l1 := (low_spec F hx hy).1
  have l2 := (low_spec F hx hz).1
  refine msAt_inj F.nd (low_spec F hx u1).1 (up_spec F l1 l2).1 ?_
  rw [low_ms F hx u1, up_ms hy hz, up_ms l1 l2, low_ms F hx hy, low_ms F hx hz, Nat.and_or_distrib_left]
/-- a cut over a board that spreads -/
theorem spr_cut {ms : List Nat} (F : Fam ms) (S : Spr ms) {u v a : Nat} (hu : u < ms.length) (hv : v < ms.length) (ha : a < ms.length) (h1 : leI ms u (upI ms v a) = true) (h2 : leI ms (lowI ms u a) v = true) : leI ms u v = true := by
  have e := S u hu v hv a ha
  have uva := up_spec F hv ha
  have luv := low_spec F hu hv
  have lua := low_spec F hu ha
  have t1 : leI ms u (lowI ms u (upI ms v a)) = true := ((low_spec F hu uva.1).2 u hu).mpr ⟨leI_refl _, h1⟩
  rw [e] at t1
  refine leI_trans t1 ?_
  refine ((up_spec F luv.1 lua.1).2 v hv).mpr ⟨((luv.2 _ luv.1).mp (leI_refl _)).2, h2⟩
/-! ### rows as texts -/
def rowC (ms : List Nat) (a : Nat) : List Nat := ms.map fun b => if subM a b = true then 49 else 48
def rowsOf (ms : List Nat) : List Str := ms.map fun a => mk (rowC ms a)
theorem rowC_at {ms : List Nat} {a x : Nat} (h : x < ms.length) : (rowC ms a)[x]? = some (if subM a (msAt ms x) = true then 49 else 48) := by
  unfold rowC
  rw [List.getElem?_map, msAt_get h]
  rfl
theorem rows_at {ms : List Nat} {x : Nat} (h : x < ms.length) : ((rowsOf ms).map V.str)[x]? = some (.str (mk (rowC ms (msAt ms x)))) := by
  unfold rowsOf
  rw [List.getElem?_map, List.getElem?_map, msAt_get h]
  rfl
theorem one_dec (b : Bool) : decide (V.str (⟨#[if b = true then 49 else 48]⟩ : Str) = V.str "1") = b := by
  cases b <;> decide +kernel
end Fv


namespace FvO
open PySem PySem.Spec PyProof.Rows L2 Fv
/-! ### rows of digits, as functions -/
def chB (b : Bool) : Nat := if b = true then 49 else 48
def rowF (n : Nat) (f : Nat → Bool) : Str := mk ((List.range n).map fun y => chB (f y))
def rowsF (n : Nat) (b : Nat → Nat → Bool) : List Str := (List.range n).map fun x => rowF n (b x)
theorem rowF_cps (n : Nat) (f : Nat → Bool) : (rowF n f).cps.toList = (List.range n).map fun y => chB (f y) := by
  unfold rowF mk
  simp
theorem rowF_len (n : Nat) (f : Nat → Bool) : (rowF n f).length = n := by
  show (rowF n f).cps.size = n
  rw [← Array.length_toList, rowF_cps, List.length_map, List.length_range]
theorem chB_bin (b : Bool) : IsBin (chB b) := by cases b <;> simp [chB, IsBin]
theorem rowF_bin (n : Nat) (f : Nat → Bool) : ∀ c ∈ (rowF n f).cps.toList, IsBin c := fun c hc => by
  rw [rowF_cps] at hc
  obtain ⟨y, _, rfl⟩ := List.mem_map.mp hc
  exact chB_bin _
theorem rowF_congr {n : Nat} {f g : Nat → Bool} (h : ∀ y, y < n → f y = g y) : rowF n f = rowF n g := by
  unfold rowF
  congr 1
  exact List.map_congr_left fun y hy => by rw [h y (List.mem_range.mp hy)]
theorem rows_eq (ms : List Nat) : rowsOf ms = rowsF ms.length (leI ms) := by
  unfold rowsOf rowsF
  apply List.ext_getElem?
  intro x
  rw [List.getElem?_map, List.getElem?_map]
  rcases Nat.lt_or_ge x ms.length with h | h
  · rw [msAt_get h, List.getElem?_range h]
    show some (mk (rowC ms (msAt ms x))) = some (rowF ms.length (leI ms x))
    congr 1
    unfold rowF
    congr 1
    unfold rowC
    apply List.ext_getElem?
    intro y
    rw [List.getElem?_map, List.getElem?_map]
    rcases Nat.lt_or_ge y ms.length with g | g
    · rw [msAt_get g, List.getElem?_range g]; rfl
    · rw [List.getElem?_eq_none g, List.getElem?_eq_none (by rw [List.length_range]; exact g)]; rfl
  · rw [List.getElem?_eq_none h, List.getElem?_eq_none (by rw [List.length_range]; exact h)]; rfl
/-! ### strip -/
theorem takeW_all {α : Type} {p : α → Bool} : ∀ {l : List α}, (∀ c ∈ l, p c = true) → l.takeWhile p = l
  | [], _ => rfl
  | a :: l, h => by rw [List.takeWhile_cons, h a List.mem_cons_self, if_pos rfl, takeW_all fun c hc => h c (List.mem_cons_of_mem _ hc)]
theorem strip_bin {x : Str} (h : ∀ c ∈ x.cps.toList, IsBin c) : Txt.stripChars x "01" = "" := by
  have hg : ∀ c ∈ x.cps.toList, (Array.contains (Str.ofString "01").cps) c = true := fun c hc => by
    rcases h c hc with rfl | rfl <;> decide +kernel
  have lo : PySem.stripLo (Array.contains (Str.ofString "01").cps) true x = x.length := by
    unfold PySem.stripLo
    rw [if_pos rfl, takeW_all hg]
    exact Array.length_toList
  have hi : PySem.stripHi (Array.contains (Str.ofString "01").cps) true x x.length = x.length := by
    unfold PySem.stripHi
    rw [if_pos rfl, List.drop_eq_nil_of_le (by rw [Array.length_toList]; exact Nat.le_refl _)]
    rfl
  show (if PySem.stripSame (Array.contains (Str.ofString "01").cps) true true x = true then x else PySem.stripped (Array.contains (Str.ofString "01").cps) true true x) = _
  unfold PySem.stripSame PySem.stripped
  rw [lo, hi]
  by_cases z : x.length = 0
  · have e : x = "" := by
      obtain ⟨a⟩ := x
      have : a = #[] := Array.eq_empty_of_size_eq_zero z
      rw [this]; rfl
    rw [if_pos (by rw [z]; rfl), e]
  · rw [if_neg (by rw [beq_eq_false_iff_ne.mpr z]; simp)]
    unfold Builtin.Str.strSub
    obtain ⟨a⟩ := x
    have e : a.extract a.size a.size = #[] := by
      apply Array.eq_empty_of_size_eq_zero
      simp
    show (⟨a.extract a.size a.size⟩ : Str) = ⟨#[]⟩
    rw [e]
/-! ### masks -/
def maskF : Nat → (Nat → Bool) → Nat
  | 0, _ => 0
  | n + 1, f => maskF n f + (if f n = true then 2 ^ n else 0)
theorem maskF_lt : ∀ (n : Nat) (f : Nat → Bool), maskF n f < 2 ^ n
  | 0, _ => Nat.one_pos
  | n + 1, f => by
    have := maskF_lt n f
    unfold maskF
    rw [Nat.pow_succ]
    split <;> omega
theorem maskF_bit : ∀ (n : Nat) (f : Nat → Bool) (y : Nat), Nat.testBit (maskF n f) y = (decide (y < n) && f y)
  | 0, _, y => by simp [maskF]
  | n + 1, f, y => by
    have lt := maskF_lt n f
    have ih := maskF_bit n f y
    unfold maskF
    by_cases h : f n = true
    · rw [if_pos h]
      have e : maskF n f + 2 ^ n = 2 ^ n * 1 ||| maskF n f := by
        rw [← Nat.two_pow_add_eq_or_of_lt lt 1, Nat.mul_one, Nat.add_comm]
      rw [e, Nat.testBit_or, ih, Nat.mul_one, Nat.testBit_two_pow]
      by_cases c : n = y
      · subst c; simp [h]
      · rw [decide_eq_false c, Bool.false_or]
        congr 1
        exact decide_eq_decide.mpr (by omega)
    · rw [if_neg h, Nat.add_zero, ih]
      by_cases c : n = y
      · subst c
        rw [Bool.eq_false_iff.mpr h]
        simp
      · congr 1
        exact decide_eq_decide.mpr (by omega)
theorem bin_cons (c : Nat) (l : List Nat) : binNum (c :: l) = (c - 48) * 2 ^ l.length + binNum l := by
  have gen : ∀ (l : List Nat) (a : Nat), l.foldl (fun a c => a * 2 + (c - 48)) a = a * 2 ^ l.length + l.foldl (fun a c => a * 2 + (c - 48)) 0 := by
    intro l
    induction l with
    | nil => intro a; simp
    | cons d l ih =>
      intro a
      rw [List.foldl_cons, List.foldl_cons, ih (a * 2 + (d - 48)), ih (0 * 2 + (d - 48)), List.length_cons, Nat.pow_succ, Nat.add_mul, Nat.zero_mul, Nat.zero_add, Nat.mul_assoc, Nat.mul_comm 2, Nat.add_assoc]
  show l.foldl _ (0 * 2 + (c - 48)) = _
  rw [gen, Nat.zero_mul, Nat.zero_add]
  rfl
theorem bin_rev (n : Nat) (f : Nat → Bool) : binNum ((List.range n).map fun y => chB (f y)).reverse = maskF n f := by
  induction n with
  | zero => rfl
  | succ n ih =>
    rw [List.range_succ, List.map_append, List.reverse_append]
    show binNum (chB (f n) :: ((List.range n).map fun y => chB (f y)).reverse) = _
    rw [bin_cons, ih, List.length_reverse, List.length_map, List.length_range]
    show _ = maskF n f + (if f n = true then 2 ^ n else 0)
    unfold chB
    cases f n <;> simp [Nat.add_comm]
theorem mask_and {n : Nat} {f g : Nat → Bool} : maskF n f &&& maskF n g = maskF n fun y => f y && g y := by
  apply Nat.eq_of_testBit_eq
  intro y
  rw [Nat.testBit_and, maskF_bit, maskF_bit, maskF_bit]
  cases decide (y < n) <;> simp
theorem mask_congr {n : Nat} {f g : Nat → Bool} (h : ∀ y, y < n → f y = g y) : maskF n f = maskF n g := by
  apply Nat.eq_of_testBit_eq
  intro y
  rw [maskF_bit, maskF_bit]
  by_cases c : y < n
  · rw [h y c]
  · rw [decide_eq_false c]; rfl
theorem mask_inj {n : Nat} {f g : Nat → Bool} (h : maskF n f = maskF n g) : ∀ y, y < n → f y = g y := fun y hy => by
  have := congrArg (fun m => Nat.testBit m y) h
  simp only [maskF_bit, decide_eq_true hy, Bool.true_and] at this
  exact this
theorem mask_mono {f g : Nat → Bool} : ∀ {n : Nat}, (∀ y, y < n → f y = true → g y = true) → maskF n f ≤ maskF n g
  | 0, _ => Nat.le_refl _
  | n + 1, h => by
    have := mask_mono (n := n) fun y hy => h y (by omega)
    unfold maskF
    have e := h n (by omega)
    cases a : f n with
    | false => rw [if_neg (fun z => by cases z)]; omega
    | true => rw [e a]; omega
theorem mask_one {n a : Nat} (h : a < n) : maskF n (fun y => decide (y = a)) = 2 ^ a := by
  apply Nat.eq_of_testBit_eq
  intro y
  rw [maskF_bit, Nat.testBit_two_pow]
  by_cases c : y = a
  · subst c; simp [h]
  · rw [show decide (y = a) = false from decide_eq_false c, Bool.and_false, show decide (a = y) = false from decide_eq_false (fun z => c z.symm)]
end FvO


namespace Fv
open PySem PySem.Spec PyProof.Rows L2
/-! ### measures of data -/
def isL (s : Str) : Bool := decide (V.int (s.length : Nat) = V.int 1) && !(Builtin.Str.occurrences "abcdefgh" s 0 (Str.length "abcdefgh") 1).isEmpty
def isLd : PyData → Bool
  | .str s => isL s
  | _ => false
def isOp (o : PyData) : Bool := ([PyData.str "&", .str "|"] : List PyData).any fun z => PyData.eqv z o
def isCd : PyData → Bool
  | .tuple (o :: ds) => decide (2 ≤ ds.length) && isOp o
  | _ => false
def parts : PyData → List PyData
  | .tuple (_ :: ds) => ds
  | _ => []
def measL (f : PyData → Int → Option (Int × Int)) : List PyData → Int → Int → Int → Option (Int × Int)
  | [], _, dp, tot => some (dp + 1, tot)
  | d :: ds, ms, dp, tot => match f d (ms - tot) with
    | none => none
    | some (a, b) => measL f ds ms (if a > dp then a else dp) (tot + b)
def meas : Nat → PyData → Int → Option (Int × Int)
  | 0, _, _ => none
  | n + 1, d, ms => if ms < 1 then none else if isLd d = true then some (1, 1) else if isCd d = true then measL (meas n) (parts d) ms 0 0 else none
def lmeas : Nat → PyData → Int
  | 0, _ => 0
  | n + 1, d => if isLd d = true then 1 else if isCd d = true then (if (0 : Int) ∈ (parts d).map (lmeas n) then 0 else ((parts d).map (lmeas n)).sum) else 0
theorem sum_nonneg : ∀ {l : List Int}, (∀ x ∈ l, 0 ≤ x) → 0 ≤ l.sum
  | [], _ => by simp
  | x :: l, h => by
    rw [List.sum_cons]
    have := h x (List.mem_cons_self ..)
    have := sum_nonneg (l := l) fun y hy => h y (List.mem_cons_of_mem _ hy)
    omega
theorem lmeas_nonneg : ∀ (n : Nat) (d : PyData), 0 ≤ lmeas n d
  | 0, _ => by simp [lmeas]
  | n + 1, d => by
    unfold lmeas
    split
    · decide
    · split
      · split
        · decide
        · exact sum_nonneg fun x hx => by
            obtain ⟨d', _, rfl⟩ := List.mem_map.mp hx
            exact lmeas_nonneg n d'
      · decide
theorem measL_iff {f : PyData → Int → Option (Int × Int)} {g : PyData → Int} (hg : ∀ d, 0 ≤ g d)
    (hf : ∀ d ms, (f d ms = none ∧ ¬ (1 ≤ g d ∧ g d ≤ ms)) ∨ (∃ dp, f d ms = some (dp, g d) ∧ 1 ≤ g d ∧ g d ≤ ms)) :
    ∀ (ds : List PyData) (ms dp tot : Int), tot ≤ ms →
      (measL f ds ms dp tot = none ∧ ¬ ((∀ d ∈ ds, 1 ≤ g d) ∧ tot + (ds.map g).sum ≤ ms)) ∨ (∃ dp', measL f ds ms dp tot = some (dp', tot + (ds.map g).sum) ∧ (∀ d ∈ ds, 1 ≤ g d) ∧ tot + (ds.map g).sum ≤ ms)
  | [], ms, dp, tot, h => by
    refine .inr ⟨dp + 1, ?_, by simp, by simpa using h⟩
    simp [measL]
  | d :: ds, ms, dp, tot, h => by
    have hs : 0 ≤ (ds.map g).sum := sum_nonneg fun x hx => by
      obtain ⟨d', _, rfl⟩ := List.mem_map.mp hx
      exact hg d'
    rw [List.map_cons, List.sum_cons]
    rcases hf d (ms - tot) with ⟨e, ne⟩ | ⟨a, e, e1, e2⟩
    · refine .inl ⟨by simp only [measL, e], fun ⟨q1, q2⟩ => ne ⟨q1 d (List.mem_cons_self ..), by omega⟩⟩
    · have st : measL f (d :: ds) ms dp tot = measL f ds ms (if a > dp then a else dp) (tot + g d) := by simp only [measL, e]
      rw [st]
      rcases measL_iff hg hf ds ms (if a > dp then a else dp) (tot + g d) (by omega) with ⟨e', ne⟩ | ⟨dp', e', q1, q2⟩
      · refine .inl ⟨e', fun ⟨q1, q2⟩ => ne ⟨fun x hx => q1 x (List.mem_cons_of_mem _ hx), by omega⟩⟩
      · refine .inr ⟨dp', by rw [e', Int.add_assoc], fun x hx => ?_, by omega⟩
        rcases List.mem_cons.mp hx with e | hx
        · rw [e]; exact e1
        · exact q1 x hx
theorem meas_iff : ∀ (n : Nat) (d : PyData) (ms : Int), (meas n d ms = none ∧ ¬ (1 ≤ lmeas n d ∧ lmeas n d ≤ ms)) ∨ (∃ dp, meas n d ms = some (dp, lmeas n d) ∧ 1 ≤ lmeas n d ∧ lmeas n d ≤ ms)
  | 0, d, ms => .inl ⟨rfl, fun h => by simp only [lmeas] at h; omega⟩
  | n + 1, d, ms => by
    have hn := lmeas_nonneg (n + 1) d
    unfold meas
    by_cases h1 : ms < 1
    · rw [if_pos h1]
      exact .inl ⟨rfl, fun h => by omega⟩
    · rw [if_neg h1]
      unfold lmeas
      by_cases h2 : isLd d = true
      · rw [if_pos h2, if_pos h2]
        exact .inr ⟨1, rfl, by decide, by omega⟩
      · rw [if_neg h2, if_neg h2]
        by_cases h3 : isCd d = true
        · rw [if_pos h3, if_pos h3]
          have q := measL_iff (g := lmeas n) (lmeas_nonneg n) (meas_iff n) (parts d) ms 0 0 (by omega)
          rw [Int.zero_add] at q
          by_cases h4 : (0 : Int) ∈ (parts d).map (lmeas n)
          · rw [if_pos h4]
            rcases q with ⟨e, _⟩ | ⟨dp, e, q1, _⟩
            · exact .inl ⟨e, fun h => by omega⟩
            · obtain ⟨x, hx, e0⟩ := List.mem_map.mp h4
              have := q1 x hx
              omega
          · rw [if_neg h4]
            have all1 : ∀ x ∈ parts d, 1 ≤ lmeas n x := fun x hx => by
              have z := lmeas_nonneg n x
              rcases Int.lt_or_eq_of_le z with z | z
              · omega
              · exact absurd (List.mem_map.mpr ⟨x, hx, z.symm⟩) h4
            rcases q with ⟨e, ne⟩ | ⟨dp, e, q1, q2⟩
            · exact .inl ⟨e, fun h => ne ⟨all1, h.2⟩⟩
            · refine .inr ⟨dp, e, ?_, q2⟩
              have hp : parts d ≠ [] := by
                cases d with
                | tuple ds =>
                  cases ds with
                  | nil => cases h3
                  | cons o ds =>
                    intro e0
                    simp only [parts] at e0
                    rw [e0] at h3
                    simp [isCd] at h3
                | _ => cases h3
              cases hd : parts d with
              | nil => exact absurd hd hp
              | cons x r =>
                rw [hd] at all1
                rw [List.map_cons, List.sum_cons]
                have := all1 x (List.mem_cons_self ..)
                have := sum_nonneg (l := r.map (lmeas n)) fun y hy => by
                  obtain ⟨d', _, rfl⟩ := List.mem_map.mp hy
                  exact lmeas_nonneg n d'
                omega
        · rw [if_neg h3, if_neg h3]
          exact .inl ⟨rfl, fun h => by omega⟩
/-- the two measures agree -/
theorem meas_some (n : Nat) (d : PyData) (ms : Int) : (meas n d ms).isSome = (decide (1 ≤ lmeas n d) && decide (lmeas n d ≤ ms)) := by
  rcases meas_iff n d ms with ⟨e, ne⟩ | ⟨dp, e, h1, h2⟩
  · rw [e]
    by_cases a : 1 ≤ lmeas n d
    · have b : ¬ lmeas n d ≤ ms := fun z => ne ⟨a, z⟩
      simp [b]
    · simp [a]
  · rw [e]; simp [h1, h2]
/-! ### contracts -/
/-- plain data at v: nested at most 20 deep -/
def spIsLetter (K : PySem.W.Frag) : Sp := fun vs H Q _ => ∃ (v : V) (d : PyData), vs = [v] ∧ Dp K H v d ∧ gd 20 d = true ∧ Q (.bl (isLd d)) H
def spIsCompound (K : PySem.W.Frag) : Sp := fun vs H Q _ => ∃ (v : V) (d : PyData), vs = [v] ∧ Dp K H v d ∧ gd 20 d = true ∧ Q (.bl (isCd d)) H
def spMeas (K : PySem.W.Frag) (n : Nat) : Sp := fun vs H Q _ => ∃ (v : V) (d : PyData) (md ms : Int), vs = [v, .int md, .int ms] ∧ Dp K H v d ∧ gd 20 d = true ∧ 0 ≤ md ∧ md < n ∧
  (meas md.toNat d ms = none → ∀ H', Same H H' → Q .non H') ∧ (∀ dp sz, meas md.toNat d ms = some (dp, sz) → ∀ (H' : Hp) (p : Addr), Same H H' → H' p = some (.tup [.int dp, .int sz]) → Q (.ref p) H')
def spIsTerm (K : PySem.W.Frag) : Sp := fun vs H Q _ => ∃ (v : V) (d : PyData) (md ms : Int), vs = [v, .int md, .int ms] ∧ Dp K H v d ∧ gd 20 d = true ∧ 0 ≤ md ∧ md < 20 ∧
  ∀ H', Same H H' → Q (.bl (meas md.toNat d ms).isSome) H'
def spMeasure (K : PySem.W.Frag) (n : Nat) : Sp := fun vs H Q _ => ∃ (v : V) (d : PyData) (md : Int), vs = [v, .int md] ∧ Dp K H v d ∧ gd 20 d = true ∧ 0 ≤ md ∧ md < n ∧
  ∀ H', Same H H' → Q (.int (lmeas md.toNat d)) H'
def spFits (K : PySem.W.Frag) : Sp := fun vs H Q _ => ∃ (v : V) (d : PyData), vs = [v] ∧ Dp K H v d ∧ gd 20 d = true ∧
  ∀ H', Same H H' → Q (.bl (decide (1 ≤ lmeas 5 d) && decide (lmeas 5 d ≤ 24))) H'
theorem gd_parts {n : Nat} {o : PyData} {ds : List PyData} (h : gd (n + 1) (.tuple (o :: ds)) = true) : gd n o = true ∧ ∀ d ∈ ds, gd n d = true := by
  have q := (gd_tuple h).2
  exact ⟨q o (List.mem_cons_self ..), fun d hd => q d (List.mem_cons_of_mem _ hd)⟩
theorem drop_cons_get {α : Type} {l : List α} {i : Nat} {x : α} (h : l[i]? = some x) : l.drop i = x :: l.drop (i + 1) := by
  obtain ⟨hi, e⟩ := List.getElem?_eq_some_iff.mp h
  rw [List.drop_eq_getElem_cons hi, e]
theorem dropHead {vs : List V} {ds : List PyData} {K : PySem.W.Frag} {H : Hp} (h : DpAll K H vs ds) : DpAll K H (vs.drop 1) (ds.drop 1) := dpAll_drop 1 h
theorem isOp_str : isOp (.str "&") = true ∧ isOp (.str "|") = true := by decide +kernel
end Fv


namespace Fv
open PySem PySem.Spec PyProof.Rows L2
/-! ### own defs with defaults, called with and without keywords -/
structure OwnD (P : Program) (w : World) (K : PySem.W.Frag) (mg : Str → Option Value) (base : Heap) (k : Nat) (x : Str) (ps : List Str) (dvs : List V) (sp : Sp) : Prop where
  ex : ∃ (f : Addr) (fd : FuncData) (ds : List Value), mg x = some (.ref f) ∧ PySem.W.keepIn K (.ref f) = true ∧ Binds K fd ps ds ∧ Vals dvs ds ∧ FnOk P w K mg base CX0 k f fd ps sp
structure OwnK (P : Program) (w : World) (K : PySem.W.Frag) (mg : Str → Option Value) (base : Heap) (k : Nat) (x : Str) (ps : List Str) (n : Nat) (ks : List Str) (gV : List V → List V → List V) (sp : Sp) : Prop where
  ex : ∃ (f : Addr) (fd : FuncData) (g : List Value → List Value → List Value), mg x = some (.ref f) ∧ PySem.W.keepIn K (.ref f) = true ∧ KBn K fd ps n ks g gV ∧ FnOk P w K mg base CX0 k f fd ps sp
section
variable {X : Cx} {k n : Nat} {x : Str} {ps ks : List Str} {dvs : List V} {gV : List V → List V → List V} {sp : Sp} {e : Expr} {es : List Expr} {t tk : TA} {p pos : Pos} {kws : List Keyword}
theorem pe_ownD (C : OwnD X.prog X.w X.K X.mg X.base k x ps dvs sp) (hr : Room k X.A) (hg : Gl X x) (ha : PA X (e :: es) t) (hdb : (x == ("__debug__" : Str)) = false := by decide)
    (he : starEach (e :: es) X.env = (false, eval e X.env) :: starEach es X.env := by rfl) (hpl : (backTo pos (starEach es X.env)).any (·.1) = false := by rfl) : PE X (.Call (.Name x p) (e :: es) [] pos) (tCall sp dvs E0 t) := by
  obtain ⟨f, fd, ds, h1, h2, h3, h4, h5⟩ := C.ex
  exact pe_call h5 hr hg h1 h2 h3 h4 pass0 ha hdb he hpl
theorem pe_ownK (C : OwnK X.prog X.w X.K X.mg X.base k x ps n ks gV sp) (hr : Room k X.A) (hg : Gl X x) (ha : PA X (e :: es) t) (hkw : PK X kws tk)
    (hall : (backToKw pos (keywordEach kws X.env)).all (·.1.isSome) = true := by rfl) (hks : (backToKw pos (keywordEach kws X.env)).filterMap (·.1) = ks := by rfl)
    (hdb : (x == ("__debug__" : Str)) = false := by decide) (he : starEach (e :: es) X.env = (false, eval e X.env) :: starEach es X.env := by rfl)
    (hpl : ((backTo pos (starEach (e :: es) X.env)).any (·.1) || (backToKw pos (keywordEach kws X.env)).any (·.1.isNone)) = false := by rfl) :
    PE X (.Call (.Name x p) (e :: es) kws pos) (tCallN n ks.length sp gV E0 t tk) := by
  obtain ⟨f, fd, g, h1, h2, h3, h4⟩ := C.ex
  exact pe_callN h4 hr hg h1 h2 h3 pass0 ha hkw hall hks hdb he hpl
/-- no positional value -/
theorem pe_ownK0 (C : OwnK X.prog X.w X.K X.mg X.base k x ps 0 ks gV sp) (hr : Room k X.A) (hg : Gl X x) (hkw : PK X kws tk)
    (hall : (backToKw pos (keywordEach kws X.env)).all (·.1.isSome) = true := by rfl) (hks : (backToKw pos (keywordEach kws X.env)).filterMap (·.1) = ks := by rfl)
    (hdb : (x == ("__debug__" : Str)) = false := by decide)
    (hpl : ((backTo pos (starEach [] X.env)).any (·.1) || (backToKw pos (keywordEach kws X.env)).any (·.1.isNone)) = false := by rfl) :
    PE X (.Call (.Name x p) [] kws pos) (tCallN 0 ks.length sp gV E0 tNil tk) := by
  obtain ⟨f, fd, g, h1, h2, h3, h4⟩ := C.ex
  refine ⟨fun pins s σ H Q I h => ?_⟩
  refine wpAny_Call_Name_kw (ld_glob I hg h1 ?_ hdb)
  refine PySem.W.callWith_KW0 (h₀ := X.base) I.ok.mod.kin h2 hall ?_ hpl
  refine thn (hkw.run pos pins s σ H _ I h) fun ws s2 ⟨zs, H2, I2, rz, l1, l2, q2⟩ => ⟨I2.kIn, ?_⟩
  rw [hks]
  exact run_fnN h4 hr h3 pass0 I2 .nil rz l1 l2 q2
end
end Fv


namespace Fv
open PySem PySem.Spec PyProof.Rows L2
/-! ### what is tracked; values that are plain data apart from M -/
def Trk (M : List Addr) (H : Hp) : Prop := ∀ b ∈ M, ∃ o, H b = some o
theorem Trk.same {M : List Addr} {H H' : Hp} (h : Trk M H) (s : Same H H') : Trk M H' := fun b hb => by
  obtain ⟨o, e⟩ := h b hb
  exact ⟨o, s _ _ e⟩
theorem Trk.smx {M N : List Addr} {H H' : Hp} (h : Trk M H) (s : SmX N H H') (hN : Trk N H') : Trk M H' := fun b hb => by
  by_cases m : b ∈ N
  · exact hN b m
  · obtain ⟨o, e⟩ := h b hb
    exact ⟨o, s _ _ m e⟩
theorem Trk.ne {M : List Addr} {H : Hp} (h : Trk M H) {p : Addr} (np : H p = none) : p ∉ M := fun hp => by
  obtain ⟨o, e⟩ := h p hp
  rw [np] at e
  cases e
theorem hid_new {M : List Addr} {H : Hp} {p : Addr} {o : HO} (np : H p = none) : Same (hide M H) (hide M (upd H p o)) := (SmX.new np).hid
theorem hid_at {M : List Addr} {H : Hp} (h : Trk M H) {p : Addr} {o : HO} (np : H p = none) : hide M (upd H p o) p = some o := by
  rw [hide_ne (h.ne np), upd_same]
def GV (K : PySem.W.Frag) (n : Nat) (M : List Addr) (H : Hp) (v : V) : Prop := ∃ d, Dp K (hide M H) v d ∧ gd n d = true
theorem GV.same {K : PySem.W.Frag} {n : Nat} {M : List Addr} {H H' : Hp} {v : V} (g : GV K n M H v) (s : Same H H') : GV K n M H' v := by
  obtain ⟨d, h1, h2⟩ := g
  exact ⟨d, dp_same (SmX.of_same s).hid d v h1, h2⟩
theorem GV.up {K : PySem.W.Frag} {n m : Nat} {M : List Addr} {H : Hp} {v : V} (g : GV K n M H v) (h : n ≤ m) : GV K m M H v := by
  obtain ⟨d, h1, h2⟩ := g
  exact ⟨d, h1, gd_le h2 h⟩
theorem GV.str {K : PySem.W.Frag} {n : Nat} {M : List Addr} {H : Hp} {x : Str} (h : gd 0 (.str x) = true) : GV K n M H (.str x) := ⟨_, .str x, gd_le h (Nat.zero_le _)⟩
theorem GV.int {K : PySem.W.Frag} {n : Nat} {M : List Addr} {H : Hp} (i : Int) : GV K n M H (.int i) := ⟨_, .int i, gd_le (n := 0) rfl (Nat.zero_le _)⟩
theorem GV.bl {K : PySem.W.Frag} {n : Nat} {M : List Addr} {H : Hp} (b : Bool) : GV K n M H (.bl b) := ⟨_, .bl b, gd_le (n := 0) rfl (Nat.zero_le _)⟩
theorem GV.non {K : PySem.W.Frag} {n : Nat} {M : List Addr} {H : Hp} : GV K n M H .non := ⟨_, .non, gd_le (n := 0) rfl (Nat.zero_le _)⟩
theorem gv_all {K : PySem.W.Frag} {n : Nat} {M : List Addr} {H : Hp} : ∀ {xs : List V}, (∀ x ∈ xs, GV K n M H x) → ∃ ds, DpAll K (hide M H) xs ds ∧ ∀ d ∈ ds, gd n d = true
  | [], _ => ⟨[], .nil, fun d h => nomatch h⟩
  | x :: xs, h => by
    obtain ⟨d, h1, h2⟩ := h x (List.mem_cons_self ..)
    obtain ⟨ds, h3, h4⟩ := gv_all (xs := xs) fun y hy => h y (List.mem_cons_of_mem _ hy)
    refine ⟨d :: ds, .cons h1 h3, fun e he => ?_⟩
    rcases List.mem_cons.mp he with z | z
    · rw [z]; exact h2
    · exact h4 e z
theorem GV.tup {K : PySem.W.Frag} {n : Nat} {M : List Addr} {H : Hp} {p : Addr} {xs : List V} (hM : Trk M H) (np : H p = none) (h : ∀ x ∈ xs, GV K n M H x) (hl : xs.length ≤ 1000 := by decide) : GV K (n + 1) M (upd H p (.tup xs)) (.ref p) := by
  obtain ⟨ds, h1, h2⟩ := gv_all h
  exact ⟨.tuple ds, .tup (SqT.of (hid_at hM np)) (dpAll_same (hid_new np) _ _ h1), gd_tup h2 (by rw [← dpAll_len h1]; exact hl)⟩
theorem GV.lst {K : PySem.W.Frag} {n : Nat} {M : List Addr} {H : Hp} {p : Addr} {xs : List V} (hM : Trk M H) (np : H p = none) (h : ∀ x ∈ xs, GV K n M H x) (hl : xs.length ≤ 1000 := by decide) : GV K (n + 1) M (upd H p (.lst xs)) (.ref p) := by
  obtain ⟨ds, h1, h2⟩ := gv_all h
  exact ⟨.list ds, .lst (SqL.of (hid_at hM np)) (dpAll_same (hid_new np) _ _ h1), gd_lst h2 (by rw [← dpAll_len h1]; exact hl)⟩
theorem Src.trk {H : Hp} {a L : Addr} {ns : List Int} (h : Src H a L ns) : Trk [a] H := fun b hb => by
  obtain ⟨_, _, _, _, e, _⟩ := h
  rw [List.mem_singleton.mp hb]
  exact ⟨_, e⟩
theorem Src.ne {H : Hp} {a L p : Addr} {ns : List Int} (h : Src H a L ns) (np : H p = none) : a ≠ p := by
  obtain ⟨_, _, _, _, e, _⟩ := h
  exact ne_of_none e np
theorem Src.put {H : Hp} {a L p : Addr} {ns : List Int} {o : HO} (h : Src H a L ns) (pa : p ≠ a) (pL : p ≠ L) : Src (upd H p o) a L ns := by
  obtain ⟨i, q, st, c, h1, h2, h3⟩ := h
  exact ⟨i, q, st, c, by rw [upd_ne pa.symm]; exact h1, by rw [upd_ne pL.symm]; exact h2, h3⟩
theorem Src.new {H : Hp} {a L p : Addr} {ns : List Int} {o : HO} (h : Src H a L ns) (np : H p = none) : Src (upd H p o) a L ns := h.same (same_upd np)
/-- the term that is drawn: its data d, its depth at most n, its size by the room that was used -/
def spTerm (K : PySem.W.Frag) (n : Nat) : Sp := fun vs H Q _ => ∃ (a L sg r : Addr) (ns : List Int) (deep m : Int) (ys : List V) (M : List Addr), vs = [.ref a, .ref sg, .int deep, .ref r] ∧ Src H a L ns ∧
  H sg = some (.lst ys) ∧ 0 < ys.length ∧ ys.length ≤ 8 ∧ (∀ y ∈ ys, lett y) ∧ H r = some (.lst [.int m]) ∧ sg ≠ a ∧ sg ≠ r ∧ r ≠ a ∧ r ≠ L ∧ 0 ≤ m ∧ m ≤ 1000 ∧ 1 ≤ deep ∧ deep ≤ n ∧ a ∈ M ∧ r ∈ M ∧ Trk M H ∧
  ∀ (H' : Hp) (v : V) (d : PyData) (m' : Int), Dp K (hide M H') v d → lmeas deep.toNat d = m - m' + 1 → 0 ≤ m' → m' ≤ m → gd deep.toNat d = true → Src H' a L ns → H' r = some (.lst [.int m']) → SmX [a, r] H H' → Q v H'
def spAnyTerm (K : PySem.W.Frag) : Sp := fun vs H Q _ => ∃ (a L : Addr) (ns : List Int) (M : List Addr), vs = [.ref a] ∧ Src H a L ns ∧ a ∈ M ∧ Trk M H ∧
  ∀ (H' : Hp) (v : V) (d : PyData) (n : Nat), Dp K (hide M H') v d → 1 ≤ n → n ≤ 5 → 1 ≤ lmeas n d → lmeas n d ≤ 24 → gd n d = true → Src H' a L ns → SmX [a] H H' → Q v H'
def nestD : Nat → PyData
  | 0 => .str "a"
  | n + 1 => .tuple [.str (if n % 2 = 0 then "&" else "|"), nestD n, .str "b"]
def spNest (K : PySem.W.Frag) : Sp := fun vs H Q _ => ∃ (n : Nat) (M : List Addr), vs = [.int (n : Nat)] ∧ n ≤ 12 ∧ Trk M H ∧
  ∀ (H' : Hp) (v : V), Dp K (hide M H') v (nestD n) → Same H H' → Q v H'
def spOdd (K : PySem.W.Frag) : Sp := fun vs H Q _ => ∃ (a L : Addr) (ns : List Int) (v : V) (M : List Addr), vs = [.ref a, v] ∧ Src H a L ns ∧ GV K 5 M H v ∧ a ∈ M ∧ Trk M H ∧
  ∀ (H' : Hp) (v' : V), GV K 12 M H' v' → Src H' a L ns → SmX [a] H H' → Q v' H'
theorem isL_lett {x : Str} (h : x ∈ (["a", "b", "c", "d", "e", "f", "g", "h"] : List Str)) : isL x = true ∧ gd 0 (.str x) = true := by
  have q : ∀ x ∈ (["a", "b", "c", "d", "e", "f", "g", "h"] : List Str), isL x = true ∧ gd 0 (.str x) = true := by decide +kernel
  exact q x h
theorem nest_gd : ∀ n : Nat, gd n (nestD n) = true
  | 0 => by decide +kernel
  | n + 1 => gd_tup (fun d hd => by
      rcases List.mem_cons.mp hd with e | hd
      · rw [e]
        refine gd_le (n := 0) ?_ (Nat.zero_le _)
        split <;> decide +kernel
      · rcases List.mem_cons.mp hd with e | hd
        · rw [e]; exact nest_gd n
        · rw [List.mem_singleton.mp hd]
          exact gd_le (n := 0) (by decide +kernel) (Nat.zero_le _)) (by show 3 ≤ 1000; decide)
/-- a term made of parts -/
theorem lmeas_tup {n : Nat} {op : Str} {ds : List PyData} {t : Int} (ho : isOp (.str op) = true) (h2 : 2 ≤ ds.length) (h1 : ∀ d ∈ ds, 1 ≤ lmeas n d) (hs : (ds.map (lmeas n)).sum = t) : lmeas (n + 1) (.tuple (.str op :: ds)) = t := by
  have e : lmeas (n + 1) (.tuple (.str op :: ds)) = if (decide (2 ≤ ds.length) && isOp (.str op)) = true then (if (0 : Int) ∈ ds.map (lmeas n) then 0 else (ds.map (lmeas n)).sum) else 0 := by
    show (if false = true then _ else _) = _
    rw [if_neg (fun z => by cases z)]
    rfl
  rw [e, ho, decide_eq_true h2, Bool.and_self, if_pos rfl, if_neg, hs]
  intro z
  obtain ⟨d, hd, e⟩ := List.mem_map.mp z
  have := h1 d hd
  omega
end Fv


namespace FvW
open PySem PySem.Spec PyProof.Rows L2
/-! ### enumerate of a tuple -/
set_option maxHeartbeats 1000000 in
theorem new_enum {v : Value} {o : Obj} {B : Heap → Prop} (b : Begins v o B) : Meets (Builtin.«enumerate.__new__» ⟨[.type "enumerate", v], []⟩) (fun _ R s => B s.heap ∧ R (.ok (.ret (.ref (s.heap.push o).objs.size))) { s with heap := (s.heap.push o).push { cls := .type "enumerate", data := .fields #[.none, .bool false, .ref s.heap.objs.size, rawInt 0, .none, .none] } }) :=
  .of_wp fun prog w A R s z => by
    have hsub := sub_enumerate
    obtain ⟨hp, g, d, tk, os⟩ := s
    have it1 : ∀ {A' : Around} {E : Value → Shared → Prop} {Q : Value → Shared → Prop}, Q (.ref hp.objs.size) ⟨hp.push o, g, d, tk, os⟩ → wpAny (model prog w) A' (pyIter v) Q E ⟨hp, g, d, tk, os⟩ := fun q => b.iter prog w _ _ ⟨hp, g, d, tk, os⟩ _ z.1 q
    have fin := z.2
    wp_walk using it1
    refine wpAny_stack_any fun st => wpAny_pure ?_
    split
    next c _ _ _ _ _ =>
      cases (c == Value.type "enumerate") <;> (wp_walk using it1; exact ⟨_, rfl, fin⟩)
    next => wp_walk using it1; exact ⟨_, rfl, fin⟩
section
variable {P : Program} {w : World} {A : Around} {E : Value → Shared → Prop} {s : Shared}
theorem enum1 {v : Value} {o : Obj} {B : Heap → Prop} {Q : Value → Shared → Prop} (b : Begins v o B) (hb : B s.heap)
    (q : ∀ h1, IsEnum h1 (s.heap.objs.size + 1) s.heap.objs.size 0 .none → h1.get? s.heap.objs.size = some o → (∀ c x, s.heap.get? c = some x → h1.get? c = some x) → Q (.ref (s.heap.objs.size + 1)) { s with heap := h1 }) :
    wpAny (model P w) A (call (.type "enumerate") [v]) Q E s := by
  refine callType_new F.called_enumerate (by decide) (F.typeCall_enumerate_1 v) (F.newCall_enumerate_1 v) (fun obj => F.args_object_init_2 obj v) F.entry_enumerate_new (new_enum b) ⟨hb, ?_⟩
  have z1 : (s.heap.push o).objs.size = s.heap.objs.size + 1 := Heap.size_push ..
  have at1 := Heap.get?_push_size (s.heap.push o) (o := { cls := .type "enumerate", data := .fields #[.none, .bool false, .ref s.heap.objs.size, rawInt 0, .none, .none] }) rfl
  rw [z1] at at1
  show _ ∧ _
  rw [z1]
  exact ⟨⟨_, at1, rfl⟩, q _ at1 (Heap.get?_push_of_some _ (Heap.get?_push_size _ b.free)) fun c x e => Heap.get?_push_of_some _ (Heap.get?_push_of_some _ e)⟩
end
/-- behind the last item -/
theorem draws_end {P : Program} {w : World} {A : Around} (hh : A.handled = none) (it t : Addr) (items : Array Value) (i : Nat) (hi : items.size ≤ i) :
    Draws P w A it [it, t] i (fun _ _ => False) (fun j h => j = i ∧ h.IsTupleIter it t i ∧ h.IsTuple t items) where
  live := fun _ _ st => let ⟨o, ho, _⟩ := st.2.1; ⟨o, ho⟩
  frame := fun _ _ _ st hk => ⟨st.1, st.2.1.at fun o e => hk it (List.mem_cons_self ..) o e, st.2.2.at fun o e => hk t (List.mem_cons_of_mem _ (List.mem_singleton.mpr rfl)) o e⟩
  item := fun j s Q E hj st _ => by
    have := st.1
    omega
  done := fun s Q E st hE => wpAny_nextOf_tuple_end hh st.2.1 st.2.2 (Array.getElem?_eq_none hi) hE
/-- the tuple at a, each item in a new pair -/
def IteT (K : PySem.W.Frag) (a : Addr) : It where
  go := fun i H => ∃ (xs : List V) (x : V), SqT K H a xs ∧ xs[i]? = some x
  yld := fun i H v H' => ∃ T x, v = .ref T ∧ H T = none ∧ H' = upd H T (.tup [.int (i : Nat), x]) ∧ ∀ xs, SqT K H a xs → xs[i]? = some x
  stop := fun i H => ∃ xs : List V, SqT K H a xs ∧ xs.length ≤ i
theorem turn_enumT {P : Program} {w : World} {K : PySem.W.Frag} {elts : List Expr} {kk : Nat} {tpos : Pos} (a e it : Addr) (hai : a ≠ it) (hae : e ≠ a) :
    Turn P w K (.Tuple elts kk tpos) (IteT K a) [e, it] e (fun i h => (∃ old, IsEnum h e it ((i : Nat) : Int) old) ∧ h.IsTupleIter it a i ∧ e ≠ it) where
  mem := List.mem_cons_self ..
  obj := fun i h st b hb => by
    obtain ⟨⟨old, he⟩, ⟨o, ho, hc, hd⟩, _⟩ := st
    rcases List.mem_cons.mp hb with z | z
    · subst z
      exact ⟨_, he, fun v q => nomatch q⟩
    · exact ⟨o, (List.mem_singleton.mp z) ▸ ho, fun v q => by rw [hd] at q; cases q⟩
  keep := fun i h h' st k => ⟨st.1.imp fun old he => k e (List.mem_cons_self ..) _ he, st.2.1.at fun o q => k it (List.mem_cons_of_mem _ (List.mem_singleton.mpr rfl)) o q, st.2.2⟩
  item := by
    intro X hP hw hK hc i pins s σ H E I hf st hg
    subst hP
    subst hw
    subst hK
    obtain ⟨xs, x, hq, hx⟩ := hg
    obtain ⟨its, rv, p, hz⟩ := I.tuple hq
    obtain ⟨u, hu, ru⟩ := rv.get hx
    obtain ⟨⟨old, he⟩, hit, hne⟩ := st
    have le : e < s.heap.objs.size := Heap.lt_size he
    have li : it < s.heap.objs.size := let ⟨_, q, _⟩ := hit; Heap.lt_size q
    have hlt : i < its.toArray.size := by
      have := (List.getElem?_eq_some_iff.mp hu).1
      simpa using this
    have hin : e ∉ [it, a] := fun z => by
      rcases List.mem_cons.mp z with z | z
      · exact hne z
      · exact hae (List.mem_singleton.mp z)
    refine wpAny_pyNext_enum_itemD (Draws.tuple (A := X.A.in1) (I.ok.hd hc) it a hai its.toArray) he ⟨hit, (show s.heap.IsTuple a its.toArray from p)⟩ hlt hne hin fun y h1 tk hy ho st1 hT hsz hk => ?_
    have ey : y = u := by
      have e1 : its.toArray[i]? = some y := hy
      have e2 : its.toArray[i]? = some u := by simpa using hu
      exact Option.some.inj (e1.symm.trans e2)
    subst ey
    refine ⟨_, rfl, wpAny_letOwnedTupleGo_enum (s := { s with heap := h1, toks := tk + 1 }) ho fun h2 he2 sb => ?_⟩
    have hT2 := (sb.2 _ (Nat.ne_of_gt le)).trans hT
    have pair : ObjOk X.prog X.w (upd H s.heap.objs.size (.tup [.int (i : Nat), x])) h2 s.heap.objs.size (.tup [.int (i : Nat), x]) := ⟨by show 2 ≤ sizeLine; decide, [.int i tk, y], .cons ⟨_, rfl⟩ (.cons ru .nil), ⟨_, hT2, rfl, _, rfl⟩⟩
    have I1 : Inv X pins σ (upd H s.heap.objs.size (.tup [.int (i : Nat), x])) { s with heap := h2, toks := tk + 1 } := I.turnedNew (ch := [e, it]) (fun b ob hb q => by
      have b1 : b ≠ e := fun z => hb (z ▸ List.mem_cons_self ..)
      have b2 : b ≠ it := fun z => hb (z ▸ List.mem_cons_of_mem _ (List.mem_singleton.mpr rfl))
      exact (sb.2 b b1).trans (hk b ob b1 b2 q)) hf (Nat.le_refl _) pair
    refine ⟨.ref s.heap.objs.size, _, I1, rfl, ⟨_, x, rfl, I.hok.fresh (Nat.le_refl _), rfl, fun ys hys => by rw [I.tuple_inj hys hq]; exact hx⟩, ⟨⟨y, ?_⟩, st1.1.at fun o q => (sb.2 it (Ne.symm hne)).trans q, hne⟩, fun b hb => ?_⟩
    · rw [show ((i + 1 : Nat) : Int) = (i : Int) + 1 from by omega]
      exact he2
    · have lb : b < s.heap.objs.size := by
        rcases List.mem_cons.mp hb with z | z
        · exact z ▸ le
        · exact (List.mem_singleton.mp z) ▸ li
      rw [upd_ne (Nat.ne_of_lt lb)]
      exact (hf b hb).1
  done := by
    intro X hP hw hK hc i pins s σ H E I hf st hg
    subst hP
    subst hw
    subst hK
    obtain ⟨xs, hq, hx⟩ := hg
    obtain ⟨its, rv, p, hz⟩ := I.tuple hq
    obtain ⟨⟨old, he⟩, hit, hne⟩ := st
    have hl := rv.length
    obtain ⟨f0, f1, f2, f3, f4, f5⟩ := hf it (List.mem_cons_of_mem _ (List.mem_singleton.mpr rfl))
    have hsz : its.toArray.size ≤ i := by rw [List.size_toArray]; omega
    exact wpAny_pyNext_enum_endD (draws_end (A := X.A.in1) (I.ok.hd hc) it a its.toArray i hsz) he ⟨rfl, hit, (show s.heap.IsTuple a its.toArray from p)⟩ fun h1 eb => ⟨rfl, I.turned (t' := s.toks) (fun b o hb q => eb b o hb q) f0 f1 f3 f4 f5⟩
  self := fun _ _ _ _ _ st h => let ⟨⟨_, he⟩, _⟩ := st; wpAny_pyIter_enum he h
def iEnumT (K : PySem.W.Frag) (ta : TA) : TI := fun σ H R => ta σ H fun vs H1 => ∃ a xs, vs = [.ref a] ∧ SqT K H1 a xs ∧ R (IteT K a) H1
theorem pi_enumT {X : Cx} {e : Expr} {ta : TA} {p pos tpos : Pos} {elts : List Expr} {kk : Nat} (hg : Gl X "enumerate") (hm : X.mg "enumerate" = none) (ha : PA X [e] ta) (hs : starEach [e] X.env = [(false, eval e X.env)] := by rfl) : PI X (.Tuple elts kk tpos) (.Call (.Name "enumerate" p) [e] [] pos) (iEnumT X.K ta) := by
  refine ⟨fun pins s σ H R I h => ?_⟩
  refine Call_ (ld_blt I hg hm boot_enumerate (PyProof.Rows.callWith_type1 (thn (ha.run pos pins s σ H _ I h) fun us s1 ⟨vs, H1, I1, r1, a, xs, ex, hq, q⟩ => ?_) hs rfl))
  subst ex
  obtain ⟨u, rfl, rfl⟩ : ∃ u, us = [u] ∧ u = Value.ref a := by
    cases r1 with
    | cons r rr =>
      cases rr
      exact ⟨_, rfl, r⟩
  obtain ⟨its, rv, p1, hz⟩ := I1.tuple hq
  have la : a < s1.heap.objs.size := let ⟨_, e0, _⟩ := p1; Heap.lt_size e0
  refine enum1 (begins_tuple a its.toArray) p1 fun h1 he hit hk => wpAny_pyIter_enum he ?_
  have I2 : Inv X pins σ H1 { s1 with heap := h1 } := I1.kept (t' := s1.toks) hk
  refine ⟨s1.heap.objs.size + 1, [s1.heap.objs.size + 1, s1.heap.objs.size], _, _, H1, rfl, I2, turn_enumT a (s1.heap.objs.size + 1) s1.heap.objs.size (Nat.ne_of_lt la) (Nat.ne_of_gt (Nat.lt_succ_of_lt la)), ⟨⟨.none, he⟩, ⟨_, hit, rfl, rfl⟩, Nat.succ_ne_self _⟩, fun b hb => ?_, q⟩
  have lb : s1.heap.objs.size ≤ b := by
    rcases List.mem_cons.mp hb with z | z
    · rw [z]; exact Nat.le_succ _
    · rw [List.mem_singleton.mp z]; exact Nat.le_refl _
  exact I1.fpOk lb (I1.hok.fresh lb)
/-- one reading or the other -/
def iOr (w1 w2 : TI) : TI := fun σ H R => w1 σ H R ∨ w2 σ H R
theorem pi_or {X : Cx} {t e : Expr} {w1 w2 : TI} (h1 : PI X t e w1) (h2 : PI X t e w2) : PI X t e (iOr w1 w2) := ⟨fun pins s σ H R I h => h.elim (h1.run pins s σ H R I) (h2.run pins s σ H R I)⟩
end FvW


set_option maxHeartbeats 2000000
namespace FvX
open PySem PySem.W PySem.Calls PyProof.Rows
/-! ### an own error whose __init__ says super().__init__(text) and self.code = text -/
abbrev errScope : Scope := { kind := .function, names := [("self", .local), ("__class__", .free), ("super", .globalImplicit)], isGenerator := false, isCoroutine := false, more := [] }
abbrev errParams (pp : Pos) : Arguments := { posonlyargs := [], args := [{ arg := "self", annotation := none, pos := pp : Arg }], vararg := none, kwonlyargs := [], kw_defaults := [], kwarg := none, defaults := [] }
/-- the places of such a body's parts -/
structure ErrPos where
  (p0 p1 p2 p3 p4 p5 p6 p7 p8 p9 pp : Pos)
abbrev errBody (q : ErrPos) (msg cod : Str) (j1 j2 : Nat) : List Stmt :=
  [.Expr (.Call (.Attribute (.Call (.Name "super" q.p0) [] [] q.p1) "__init__" q.p2) [.Constant (.str msg) j1 q.p3] [] q.p4) q.p5, .Assign [.Attribute (.Name "self" q.p6) "code" q.p7] (.Constant (.str cod) j2 q.p8) q.p9]
/-- the call stands on one line -/
def LineOk (q : ErrPos) (msg : Str) (j1 : Nat) : Prop := ∀ env : Env, ∃ pl : Sem Bool, eval (.Call (.Attribute (.Call (.Name "super" q.p0) [] [] q.p1) "__init__" q.p2) [.Constant (.str msg) j1 q.p3] [] q.p4) env = (do
  let ov ← attributeBase (.Call (.Name "super" q.p0) [] [] q.p1) "__init__" env (eval (.Call (.Name "super" q.p0) [] [] q.p1) env)
  standAt q.p2.atName
  let (f, first) ← holding [ov] (getMethod ov "__init__" pl)
  callWith q.p4 f first (backTo q.p4 (starEach [.Constant (.str msg) j1 q.p3] env)) [])
abbrev veTail4 : List Value := [.type "ValueError", .type "Exception", .type "BaseException", .type "object"]
/-- what the written part says of the class at C and of its __init__ at f -/
structure ErrC (file0 : Str) (K : Frag) (C f : Addr) (qual : Str) (q : ErrPos) (msg cod : Str) (j1 j2 : Nat) : Prop where
  oex : L2.OexC K C
  fn : ∃ (oc : Value) (od an : Option Addr) (osl : Array (Option Value)) (kV doc pm ct : Value) (cda cc : Addr) (ccl cl : Value) (cdd cld : Option Addr) (vs : Array Value) (ccs csl : Array (Option Value)) (file : Str) (tf : Tok),
    K.lookup f = some ⟨oc, od, .func (ksFn "__init__" qual (errParams q.pp) (errBody q msg cod j1 j2) errScope .none kV doc pm an (.ref cda) ct cc), osl⟩ ∧ codeIn K (.ref cda) qual = true ∧ K.lookup cda = some ⟨ccl, cdd, .fields vs, ccs⟩ ∧ vs[2]? = some (.str file tf) ∧
      (file0 == file) = true ∧ K.lookup cc = some ⟨cl, cld, .cell (some (.ref C)), csl⟩
  sup : ks_superIn K C C "__init__" = some (some (.builtin "ValueError.__init__"))
  self : mroIn K C (.ref C) = some true
  isV : subIn K (.ref C) (.type "ValueError") = some true
  init : excInitIn K C veTail4 "ValueError.__new__" = true
  third : nsIn K cStatics "thirdparty.any" = some none
  code : findIn K (.ref C) "code" = some none
  find : findIn K (.ref C) "__init__" = some (some (.ref f))
  typ : typeIn K (.ref f) = some (.type "function")
section
variable {prog : Program} {w : World} {A : Around} {K : Frag} {h : Heap} {g : Array GenState} {d : Drawn} {t : Nat} {os : OsState} {R : Result → Shared → Prop} {mg mb : Str → Option Value}
  {C f a t0 : Addr} {qual msg cod : Str} {q : ErrPos} {j1 j2 : Nat}
theorem init_run (T : ErrC prog.main.file K C f qual q msg cod j1 j2) (hline : LineOk q msg j1) (htop : (prog.main.scope.names.lookup ("super" : Str)).isSome = false)
    (X : K.In h) (hg : h.Ns mainGlobals mg) (hms : mg "super" = none) (hb : h.Ns builtinsNs mb) (hmb : mb "super" = some (.type "super")) (hlim : h.NoLimit) (hroom : A.depth < recursionLimit) (ha : h.get? a = some (excObj C t0 none .none)) (haK : K.lookup a = none)
    (hq : ∀ h' t1 tk' dx tk, (∀ b o, b ≠ a → h.get? b = some o → h'.get? b = some o) → h.objs.size ≤ dx → dx ≠ a → h'.get? a = some { cls := .ref C, dict := some dx, data := .fields #[.ref t1, .none, .none, .none, .bool false, .none] } →
      h'.Ns1 dx (fun y => if y = ("code" : Str) then some (.str cod tk) else none) → R (.ok (.ret .none)) ⟨h', g, d, tk', os⟩) :
    codeAny (model prog w) A (.call (.ref f) ⟨[.ref a], []⟩) R ⟨h, g, d, t, os⟩ := by
  obtain ⟨oc, od, an, osl, kV, doc, pm, ct, cda, cc, ccl, cl, cdd, cld, vs, ccs, csl, file, tf, hf, hcd, hcode, hvs, hfile, hcell⟩ := T.fn
  refine ks_codeAny_call_defAt (binds := [("self", .ref a)]) hroom (X _ _ hf) rfl hlim (codeRec_of X hcd) rfl (.of_eq rfl) (show ∀ x ∈ errScope.names, x.2 ≠ .cell by decide) (fun y hy => ?_) (fun h1 hns hk1 => ?_)
  · rw [List.mem_singleton.mp hy]; rfl
  have X1 : K.In h1 := fun b o e => hk1 b o (X b o e)
  have ha1 : h1.get? a = some (excObj C t0 none .none) := hk1 _ _ ha
  have haL : a ≠ h.objs.size := Nat.ne_of_lt (Heap.lt_size ha)
  obtain ⟨cd, hc⟩ : ∃ cd, clsIn K C = some cd := by
    have z := T.sup
    unfold ks_superIn at z
    cases hc : clsIn K C with
    | none => rw [hc] at z; cases z
    | some cd => exact ⟨cd, rfl⟩
  obtain ⟨oD, hD0, hD2⟩ : ∃ oD, K.lookup C = some oD ∧ oD.data = .cls cd := by
    unfold clsIn at hc
    split at hc
    · rename_i c d' cd' sl ho
      cases hc
      exact ⟨_, ho, rfl⟩
    · cases hc
  have hD1 := X1 _ _ hD0
  have hsup : alongIn K "__init__" ((cd.mro.dropWhile (· != .ref C)).drop 1) = some (some (.builtin "ValueError.__init__")) := by
    have z := T.sup
    unfold ks_superIn at z
    rw [hc] at z
    exact z
  have hv : (fun x => ([("self", Value.ref a)] : List (Str × Value)).reverse.lookup x) ("self" : Str) = some (.ref a) := rfl
  -- super().__init__(text)
  obtain ⟨pl, hline⟩ := hline (callEnv (ksFn "__init__" qual (errParams q.pp) (errBody q msg cod j1 j2) errScope .none kV doc pm an (.ref cda) ct cc) h.objs.size f)
  refine ks_wpAt_execs_cons (ks_wpAt_Expr_any (ks_wpAt_MethodCall ?_ hline))
  refine ks_wpAt_super_base rfl rfl (by decide) rfl (X1 _ _ hf) rfl rfl rfl (X1 _ _ hcode) rfl hvs hfile htop ?_
  refine ks_loadName_global rfl rfl (loadGlobal_builtin (hg.keeps hk1) hms (hb.keeps hk1) hmb ⟨rfl, ?_⟩)
  refine wpAny_loadName_free rfl rfl rfl ⟨_, X1 _ _ hcell, rfl⟩ ?_
  refine wpAny_loadName_local rfl rfl hns hv ?_
  refine ks_wpAny_isType_cls hD1 hD2 ⟨rfl, ?_⟩
  refine ks_wpAny_call_super hD1 hD2 ha1 rfl (fun c e => by cases e) (looks_mroIn X1 T.self) (fun h2 hso hk2 => ?_)
  have X2 : K.In h2 := fun b o e => hk2 b o (X1 b o e)
  have ha2 := hk2 _ _ ha1
  have haC : a ≠ C := fun e => by rw [e, hD0] at haK; cases haK
  have I2 : InstAt h2 a (excObj C t0 none .none) C none := ⟨ha2, rfl, rfl, trivial⟩
  refine kxs_getMethod kxs_ValueError hso (looks_opaque X2 T.third) (l₀ := cd.mro) (fun A Q E s k z => wpAny_bind ((looks_clsIn X2 hc) A _ E s k (wpAny_pure z))) rfl X2 hsup (I2.type.andThen (looks_subIn X2 T.isV)) haC (by decide) ?_
  have nsK : ∀ {h h' : Heap} {L : Addr} {m : Str → Option Value}, h.Ns L m → (∀ b o, h.get? b = some o → h'.get? b = some o) → h'.Ns L m := fun {h h' L m} ⟨o, es, ep, e, r⟩ k => ⟨o, es, ep, k _ _ e, r⟩
  have hns2 := nsK hns hk2
  have hk3 : ∀ b o, h2.get? b = some o → (h2.push (kxs_mw "ValueError.__init__" a)).get? b = some o := fun b o e => Heap.get?_push_of_some _ e
  have hLt : h.objs.size < h2.objs.size := by
    obtain ⟨o, _, _, e, _⟩ := hns2
    exact Heap.lt_size e
  have FR : Fr (hideAll h [a]) h.objs.size (h2.push (kxs_mw "ValueError.__init__" a)) (fun x => ([("self", Value.ref a)] : List (Str × Value)).reverse.lookup x) :=
    ⟨nsK hns2 hk3, fun b o e => hk3 _ _ (hk2 _ _ (hk1 _ _ (of_hideAll _ e))), Nat.le_of_eq (hideAll_size _ _)⟩
  have NW : News (hideAll h [a]) h.objs.size (h2.push (kxs_mw "ValueError.__init__" a)) [(h2.objs.size, kxs_mw "ValueError.__init__" a), (a, excObj C t0 none .none)] := fun p hp => by
    rcases List.mem_cons.mp hp with e | hp
    · subst e
      refine ⟨Heap.get?_push_size _ rfl, Nat.ne_of_gt hLt, ?_⟩
      cases z : (hideAll h [a]).get? h2.objs.size with
      | none => rfl
      | some o => exact absurd (Heap.lt_size (of_hideAll _ z)) (Nat.lt_asymm hLt)
    · rw [List.mem_singleton.mp hp]
      exact ⟨hk3 _ _ ha2, haL, hideAll_none _ (List.mem_singleton.mpr rfl)⟩
  have X0 : K.In (hideAll h [a]) := fun b o e => hideAll_get _ (X b o e) (fun z => by
    rw [List.mem_singleton.mp z, haK] at e
    cases e)
  refine kxs_callWith1 NW (List.mem_cons_self ..) ?_
  refine Calls.spliced_cons (wpAny_Constant_str (k := j1) (pos := q.p3) (Calls.spliced_nil ⟨kxs_at NW (List.mem_cons_self ..), ?_⟩))
  refine kxs_call FR X0 NW PySem.F.excBase_ValueError T.init (List.mem_cons_self ..) (.tail (Nat.ne_of_gt (Heap.lt_size ha2)) (.head fun p hp => nomatch hp)) (by show 1 ≤ sizeLine; decide) (fun t' h4 F4 N4 _ => ?_)
  have ha4 : h4.get? a = some (excObj C t' none .none) := (N4 (a, excObj C t' none .none) (List.mem_cons_of_mem _ (List.mem_cons_of_mem _ (List.mem_cons_self ..)))).1
  have X4 : K.In h4 := fun b o e => F4.keep b o (X0 b o e)
  obtain ⟨nm, qn, N, bs, bm, sn, sub, ab, col, dd, k0, k1, k2, k3, k5, hC, hbm⟩ := T.oex.cls
  have hcl : clsIn K C = some { name := nm, bases := bs, mro := .ref C :: bm, ns := N, qualname := qn, hasDict := true, slotNames := sn, subclasses := sub, abstract := ab, collection := col, hasDel := false } := by
    unfold clsIn
    rw [hC] <;> rfl
  -- self.code = text
  refine wpAt_of_wpAny (wpAny_execs_cons (plainObj_wpAny_Assign_Attribute (wpAny_Constant_str (k := j2) (pos := q.p8) (wpAny_Name (wpAny_loadName_local rfl rfl F4.ns hv ?_) (by decide))) rfl))
  refine set_plain X4 (ox := excObj C t' none .none) (od := none) ⟨ha4, rfl, rfl, trivial⟩ T.oex.sa ?_
  refine PySem.HandSPX.exc_osa X4 ha4 hcl (show PySem.HandSPX.refsVE (.ref C :: bm) = true from hbm) rfl T.code (fun h5 tk' dx hk5 dn dne hx hn => ?_)
  have hL4 : h.objs.size ≤ h4.objs.size := by
    obtain ⟨o, _, _, e, _⟩ := F4.ns
    exact Nat.le_of_lt (Heap.lt_size e)
  refine wpAny_execs_nil (hq h5 t' tk' dx _ (fun b o hb e => hk5 b o hb (F4.keep b o (hideAll_get _ e fun z => hb (List.mem_singleton.mp z)))) (Nat.le_trans hL4 dn) dne hx hn)
end
end FvX


set_option maxHeartbeats 2000000
namespace FvX
open PySem PySem.Spec PyProof.Rows L2
section
variable {X : Cx} {C f : Addr} {qual msg cod x : Str} {q : ErrPos} {j1 j2 k : Nat} {p pos : Pos}
/-- x(): the new error, its dict at d -/
def tErr0 (C : Addr) (cod : Str) : L2.St → Hp → XK → Prop := fun _ H Q => ∀ d, H d = none → Q (.ref C) (some d) (upd H d (.xd [("code", .str cod)]))
theorem pmk_err0 (T : ErrC X.prog.main.file X.K C f qual q msg cod j1 j2) (hline : LineOk q msg j1) (htop : (X.prog.main.scope.names.lookup ("super" : Str)).isSome = false) (hms : X.mg "super" = none) (hr : Room (k + 1) X.A) (hg : Gl X x) (hm : X.mg x = some (.ref C))
    (hdb : (x == ("__debug__" : Str)) = false := by decide) : PMk X (.Call (.Name x p) [] [] pos) (tErr0 C cod) := by
  intro pins s σ H Q I h
  obtain ⟨nm, qn, N, bs, bm, sn, sub, ab, col, dd, k0, k1, k2, k3, k5, hC, hbm⟩ := T.oex.cls
  refine wpAny_Call_Name_kw (ld_glob I hg hm ?_ hdb)
  refine PySem.W.callWith_K0 I.kIn T.oex.kC ?_
  show wpAny _ _ (call (.ref C) []) _ _ _
  obtain ⟨hp, g, dr, tk, os⟩ := s
  have nK : X.K.lookup (hp.objs.size + 1) = none := by
    cases e : X.K.lookup (hp.objs.size + 1) with
    | none => rfl
    | some o => exact absurd (Nat.lt_of_succ_lt (Heap.lt_size (I.kIn _ _ e))) (Nat.lt_irrefl _)
  have fresh : H (hp.objs.size + 1) = none := I.hok.fresh (Nat.le_succ _)
  have kk : ∀ b o, hp.get? b = some o → ((hp.push (PySem.W.kdv_tup [])).push (PySem.HandSPX.excO C hp.objs.size)).get? b = some o := fun b o e => Heap.get?_push_of_some _ (Heap.get?_push_of_some _ e)
  have at1 : ((hp.push (PySem.W.kdv_tup [])).push (PySem.HandSPX.excO C hp.objs.size)).get? (hp.objs.size + 1) = some (PySem.HandSPX.excO C hp.objs.size) := by heap_get
  have I2 := I.laid (t' := tk) (a := hp.objs.size + 1) (o := exo (hp.objs.size + 1) C none) (h' := (hp.push (PySem.W.kdv_tup [])).push (PySem.HandSPX.excO C hp.objs.size)) kk (Nat.le_succ _) (exo_ok at1)
  obtain ⟨mb, hb, hbb⟩ := I.mod.blt
  refine wpAny_call (PySem.HandSPX.call_own PySem.F.excBase_ValueError (fun Y => PySem.HandSPX.refsVE_contains Y bm hbm) (I.kIn _ _ hC) (PySem.W.looks_findIn I.kIn T.find) (fun self => PySem.W.bind_fn I.kIn self T.typ) (Nat.zero_le _) ?_)
  refine init_run (mg := X.mg) (mb := mb) (t0 := hp.objs.size) T hline htop (fun b o e => kk b o (I.kIn b o e)) ((I.mod.glob.keeps I.bk).keeps kk) hms ((hb.keeps I.bk).keeps kk) ((hbb _ (by decide)).trans (by decide +kernel)) ?lim (hr.make C [] []).depth at1 nK (fun h' t1 tk' dx tk0 hk dn dne hx hn => ?_)
  case lim => exact (I.mod.nolimit.keeps I.bk).keeps kk
  have nd : H dx = none := I.hok.fresh (Nat.le_trans (by simp; omega) dn)
  have na : ∀ {b : Addr} {u : Option HO}, upd H (hp.objs.size + 1) (exo (hp.objs.size + 1) C none) b = none → b ≠ hp.objs.size + 1 := fun {b u} e z => by
    rw [z, upd_same] at e
    cases e
  have lt2 : ∀ {b : Addr} {o : Obj}, ((hp.push (PySem.W.kdv_tup [])).push (PySem.HandSPX.excO C hp.objs.size)).get? b = some o → b ≠ dx := fun {b o} e => Nat.ne_of_lt (Nat.lt_of_lt_of_le (Heap.lt_size e) dn)
  have same : ∀ {b : Addr} {o : HO}, upd H (hp.objs.size + 1) (exo (hp.objs.size + 1) C none) b = some o → o ≠ exo (hp.objs.size + 1) C none → upd (upd H dx (exd dx [("code", .str cod)])) (hp.objs.size + 1) (exo (hp.objs.size + 1) C (some dx)) b = some o := fun {b o} e ne => by
    have b1 : b ≠ hp.objs.size + 1 := fun z => by
      rw [z, upd_same] at e
      exact ne (Option.some.inj e).symm
    rw [upd_ne b1] at e
    rw [upd_ne b1, upd_ne (ne_of_none e nd)]
    exact e
  have un : Un (frs X.stack) [] (upd H (hp.objs.size + 1) (exo (hp.objs.size + 1) C none)) (upd (upd H dx (exd dx [("code", .str cod)])) (hp.objs.size + 1) (exo (hp.objs.size + 1) C (some dx))) ((hp.push (PySem.W.kdv_tup [])).push (PySem.HandSPX.excO C hp.objs.size)) h' := by
    refine ⟨fun b o e n _ _ => hk b o (na (u := none) n) e, fun b o e n _ _ => ⟨o.slots, hk b o (na (u := none) n) e⟩, fun b o e n _ => ?_, fun b o e _ => ?_, fun b xs e => same e fun z => exo_tup z.symm, fun b o u e => same e fun z => exo_frz z.symm, fun b ps e => ⟨#[], ?_⟩⟩
    · have b1 := na (u := none) n
      rw [upd_ne b1, upd_ne (lt2 e)]
      rw [upd_ne b1] at n
      exact n
    · by_cases b1 : b = hp.objs.size + 1
      · exact ⟨_, by rw [b1]; exact hx⟩
      · exact ⟨o, hk b o b1 e⟩
    · rw [Array.append_empty]
      exact same e fun z => exo_tbl z.symm
  have hok : HOk X.prog X.w (upd (upd H dx (exd dx [("code", .str cod)])) (hp.objs.size + 1) (exo (hp.objs.size + 1) C (some dx))) h' := fun b o e => by
    by_cases b1 : b = hp.objs.size + 1
    · rw [b1, upd_same] at e
      cases e
      rw [b1]
      exact exo_ok hx
    · rw [upd_ne b1] at e
      by_cases b2 : b = dx
      · rw [b2, upd_same] at e
        cases e
        rw [b2]
        exact exd_ok hn (relO_put (fs := []) ⟨_, rfl⟩ fun g => True.intro)
      · rw [upd_ne b2] at e
        have e2 : upd H (hp.objs.size + 1) (exo (hp.objs.size + 1) C none) b = some o := by rw [upd_ne b1]; exact e
        refine (I2.hok b o e2).stay (fun c v hc z => hk c v (fun c1 => ?_) z) (fun c hc => same hc fun z => exo_own z.symm) (fun c xs hc => same hc fun z => exo_tup z.symm)
        rcases hc with hc | hc
        · exact b1 (hc.symm.trans c1)
        · rw [c1, upd_same] at hc
          exact exo_own (Option.some.inj hc)
  refine ⟨rfl, mk_end (a := hp.objs.size + 1) (C := C) (d := dx) (fs := [("code", .str cod)]) (raises_own T.oex.exC T.oex.tyC) I (Nat.le_succ _) kk un hok rfl I.bare upd_same ?_ nd ?_⟩
  · rw [upd_ne dne, upd_same]
  · have e : upd (del (upd (upd H dx (exd dx [("code", .str cod)])) (hp.objs.size + 1) (exo (hp.objs.size + 1) C (some dx))) (hp.objs.size + 1)) dx (.xd [("code", .str cod)]) = upd H dx (.xd [("code", .str cod)]) := by
      funext b
      by_cases b2 : b = dx
      · rw [b2, upd_same, upd_same]
      · rw [upd_ne b2, upd_ne b2]
        by_cases b1 : b = hp.objs.size + 1
        · rw [b1, del_same, fresh]
        · rw [del_ne b1, upd_ne b1, upd_ne b2]
    rw [e]
    exact h dx nd
end
end FvX


set_option maxHeartbeats 4000000
namespace FvX
open PySem PySem.W PySem.Calls PyProof.Rows
/-! ### an own error with one field: super().__init__(f".."), self.code = text, self.f = f -/
def flds : List Str := ["index", "letter", "name", "count", "place", "limit", "line", "word"]
abbrev errScope1 (fl : Str) : Scope := { kind := .function, names := [("self", .local), (fl, .local), ("__class__", .free), ("super", .globalImplicit)], isGenerator := false, isCoroutine := false, more := [] }
abbrev errParams1 (fl : Str) (pp pp2 : Pos) : Arguments := { posonlyargs := [], args := [{ arg := "self", annotation := none, pos := pp : Arg }, { arg := fl, annotation := none, pos := pp2 : Arg }], vararg := none, kwonlyargs := [], kw_defaults := [], kwarg := none, defaults := [] }
structure ErrPos1 where
  (p0 p1 p2 p4 p5 p6 p7 p8 p9 p10 p11 p12 p13 pp pp2 : Pos)
abbrev errBody1 (q : ErrPos1) (me : Expr) (cod fl : Str) (j2 : Nat) : List Stmt :=
  [.Expr (.Call (.Attribute (.Call (.Name "super" q.p0) [] [] q.p1) "__init__" q.p2) [me] [] q.p4) q.p5, .Assign [.Attribute (.Name "self" q.p6) "code" q.p7] (.Constant (.str cod) j2 q.p8) q.p9, .Assign [.Attribute (.Name "self" q.p10) fl q.p11] (.Name fl q.p12) q.p13]
def LineOk1 (q : ErrPos1) (me : Expr) : Prop := ∀ env : Env, ∃ pl : Sem Bool, eval (.Call (.Attribute (.Call (.Name "super" q.p0) [] [] q.p1) "__init__" q.p2) [me] [] q.p4) env = (do
  let ov ← attributeBase (.Call (.Name "super" q.p0) [] [] q.p1) "__init__" env (eval (.Call (.Name "super" q.p0) [] [] q.p1) env)
  standAt q.p2.atName
  let (f, first) ← holding [ov] (getMethod ov "__init__" pl)
  callWith q.p4 f first (backTo q.p4 (starEach [me] env)) [])
/-- the message is some text; nothing else is changed -/
def MsgOk (me : Expr) (fl : Str) (u : Value) : Prop := ∀ {prog : Program} {w : World} {A : Around} {env : Env} {E : Value → Shared → Prop} {Q : Value → Shared → Prop} {h : Heap} {g : Array GenState} {d : Drawn} {t : Nat} {os : OsState},
  (∀ (p : Pos) (tk : Nat) (Q' : Value → Shared → Prop), Q' u ⟨h, g, d, tk, os⟩ → wpAny (model prog w) A (eval (.Name fl p) env) Q' E ⟨h, g, d, tk, os⟩) → (∀ y t' tk, Q (.str y t') ⟨h, g, d, tk, os⟩) → wpAny (model prog w) A (eval me env) Q E ⟨h, g, d, t, os⟩
/-- the shape of the message: one call's arguments are evaluated from the left -/
def ArgsOk (me : Expr) : Prop := ∀ env : Env, starEach [me] env = (false, eval me env) :: starEach [] env
theorem nocell (fl : Str) : ∀ x ∈ (errScope1 fl).names, x.2 ≠ .cell := by
  intro x hx
  simp only [List.mem_cons, List.not_mem_nil, or_false] at hx
  rcases hx with rfl | rfl | rfl | rfl <;> (intro z; cases z)
structure ErrC1 (file0 : Str) (K : Frag) (C f : Addr) (qual : Str) (q : ErrPos1) (me : Expr) (cod fl : Str) (j2 : Nat) : Prop where
  oex : L2.OexC K C
  fn : ∃ (oc : Value) (od an : Option Addr) (osl : Array (Option Value)) (kV doc pm ct : Value) (cda cc : Addr) (ccl cl : Value) (cdd cld : Option Addr) (vs : Array Value) (ccs csl : Array (Option Value)) (file : Str) (tf : Tok),
    K.lookup f = some ⟨oc, od, .func (ksFn "__init__" qual (errParams1 fl q.pp q.pp2) (errBody1 q me cod fl j2) (errScope1 fl) .none kV doc pm an (.ref cda) ct cc), osl⟩ ∧ codeIn K (.ref cda) qual = true ∧ K.lookup cda = some ⟨ccl, cdd, .fields vs, ccs⟩ ∧ vs[2]? = some (.str file tf) ∧
      (file0 == file) = true ∧ K.lookup cc = some ⟨cl, cld, .cell (some (.ref C)), csl⟩
  sup : ks_superIn K C C "__init__" = some (some (.builtin "ValueError.__init__"))
  self : mroIn K C (.ref C) = some true
  isV : subIn K (.ref C) (.type "ValueError") = some true
  init : excInitIn K C veTail4 "ValueError.__new__" = true
  third : nsIn K cStatics "thirdparty.any" = some none
  code : findIn K (.ref C) "code" = some none
  fld : findIn K (.ref C) fl = some none
  find : findIn K (.ref C) "__init__" = some (some (.ref f))
  typ : typeIn K (.ref f) = some (.type "function")
section
variable {prog : Program} {w : World} {A : Around} {K : Frag} {h : Heap} {g : Array GenState} {d : Drawn} {t : Nat} {os : OsState} {R : Result → Shared → Prop} {mg mb : Str → Option Value}
  {C f a t0 : Addr} {qual cod fl : Str} {q : ErrPos1} {me : Expr} {j2 : Nat} {u : Value}
theorem init_run1 (hfl : fl ∈ flds) (T : ErrC1 prog.main.file K C f qual q me cod fl j2) (hline : LineOk1 q me) (hargs : ArgsOk me) (hmsg : MsgOk me fl u) (htop : (prog.main.scope.names.lookup ("super" : Str)).isSome = false)
    (X : K.In h) (hg : h.Ns mainGlobals mg) (hms : mg "super" = none) (hb : h.Ns builtinsNs mb) (hmb : mb "super" = some (.type "super")) (hlim : h.NoLimit) (hroom : A.depth < recursionLimit) (ha : h.get? a = some (excObj C t0 none .none)) (haK : K.lookup a = none)
    (hq : ∀ h' t1 tk' dx tk, (∀ b o, b ≠ a → h.get? b = some o → h'.get? b = some o) → h.objs.size ≤ dx → dx ≠ a → h'.get? a = some { cls := .ref C, dict := some dx, data := .fields #[.ref t1, .none, .none, .none, .bool false, .none] } →
      h'.Ns1 dx (fun y => if y = fl then some u else if y = ("code" : Str) then some (.str cod tk) else none) → R (.ok (.ret .none)) ⟨h', g, d, tk', os⟩) :
    codeAny (model prog w) A (.call (.ref f) ⟨[.ref a, u], []⟩) R ⟨h, g, d, t, os⟩ := by
  simp only [flds, List.mem_cons, List.not_mem_nil, or_false] at hfl
  obtain ⟨oc, od, an, osl, kV, doc, pm, ct, cda, cc, ccl, cl, cdd, cld, vs, ccs, csl, file, tf, hf, hcd, hcode, hvs, hfile, hcell⟩ := T.fn
  rcases hfl with rfl | rfl | rfl | rfl | rfl | rfl | rfl | rfl
  all_goals
    refine ks_codeAny_call_defAt (binds := [("self", .ref a), (_, u)]) hroom (X _ _ hf) rfl hlim (codeRec_of X hcd) rfl (.of_eq rfl) (nocell _) (fun y hy => ?_) (fun h1 hns hk1 => ?_)
    · rcases List.mem_cons.mp hy with e | e
      · rw [e]; rfl
      · rw [List.mem_singleton.mp e]; rfl
    have X1 : K.In h1 := fun b o e => hk1 b o (X b o e)
    have ha1 : h1.get? a = some (excObj C t0 none .none) := hk1 _ _ ha
    have haL : a ≠ h.objs.size := Nat.ne_of_lt (Heap.lt_size ha)
    obtain ⟨cd, hc⟩ : ∃ cd, clsIn K C = some cd := by
      have z := T.sup
      unfold ks_superIn at z
      cases hc : clsIn K C with
      | none => rw [hc] at z; cases z
      | some cd => exact ⟨cd, rfl⟩
    obtain ⟨oD, hD0, hD2⟩ : ∃ oD, K.lookup C = some oD ∧ oD.data = .cls cd := by
      unfold clsIn at hc
      split at hc
      · rename_i c d' cd' sl ho
        cases hc
        exact ⟨_, ho, rfl⟩
      · cases hc
    have hD1 := X1 _ _ hD0
    have hsup : alongIn K "__init__" ((cd.mro.dropWhile (· != .ref C)).drop 1) = some (some (.builtin "ValueError.__init__")) := by
      have z := T.sup
      unfold ks_superIn at z
      rw [hc] at z
      exact z
    obtain ⟨pl, hline⟩ := hline (callEnv (ksFn "__init__" qual (errParams1 _ q.pp q.pp2) (errBody1 q me cod _ j2) (errScope1 _) .none kV doc pm an (.ref cda) ct cc) h.objs.size f)
    refine ks_wpAt_execs_cons (ks_wpAt_Expr_any (ks_wpAt_MethodCall ?_ hline))
    refine ks_wpAt_super_base rfl rfl (by decide) rfl (X1 _ _ hf) rfl rfl rfl (X1 _ _ hcode) rfl hvs hfile htop ?_
    refine ks_loadName_global rfl rfl (loadGlobal_builtin (hg.keeps hk1) hms (hb.keeps hk1) hmb ⟨rfl, ?_⟩)
    refine wpAny_loadName_free rfl rfl rfl ⟨_, X1 _ _ hcell, rfl⟩ ?_
    refine wpAny_loadName_local rfl rfl hns (show _ = some (Value.ref a) from rfl) ?_
    refine ks_wpAny_isType_cls hD1 hD2 ⟨rfl, ?_⟩
    refine ks_wpAny_call_super hD1 hD2 ha1 rfl (fun c e => by cases e) (looks_mroIn X1 T.self) (fun h2 hso hk2 => ?_)
    have X2 : K.In h2 := fun b o e => hk2 b o (X1 b o e)
    have ha2 := hk2 _ _ ha1
    have haC : a ≠ C := fun e => by rw [e, hD0] at haK; cases haK
    have I2 : InstAt h2 a (excObj C t0 none .none) C none := ⟨ha2, rfl, rfl, trivial⟩
    refine kxs_getMethod kxs_ValueError hso (looks_opaque X2 T.third) (l₀ := cd.mro) (fun A Q E s k z => wpAny_bind ((looks_clsIn X2 hc) A _ E s k (wpAny_pure z))) rfl X2 hsup (I2.type.andThen (looks_subIn X2 T.isV)) haC (by decide) ?_
    have nsK : ∀ {h h' : Heap} {L : Addr} {m : Str → Option Value}, h.Ns L m → (∀ b o, h.get? b = some o → h'.get? b = some o) → h'.Ns L m := fun {h h' L m} ⟨o, es, ep, e, r⟩ k => ⟨o, es, ep, k _ _ e, r⟩
    have hns2 := nsK hns hk2
    have hk3 : ∀ b o, h2.get? b = some o → (h2.push (kxs_mw "ValueError.__init__" a)).get? b = some o := fun b o e => Heap.get?_push_of_some _ e
    have hLt : h.objs.size < h2.objs.size := by
      obtain ⟨o, _, _, e, _⟩ := hns2
      exact Heap.lt_size e
    have FR := (⟨nsK hns2 hk3, fun b o e => hk3 _ _ (hk2 _ _ (hk1 _ _ (of_hideAll _ e))), Nat.le_of_eq (hideAll_size _ _)⟩ : Fr (hideAll h [a]) h.objs.size (h2.push (kxs_mw "ValueError.__init__" a)) _)
    have NW : News (hideAll h [a]) h.objs.size (h2.push (kxs_mw "ValueError.__init__" a)) [(h2.objs.size, kxs_mw "ValueError.__init__" a), (a, excObj C t0 none .none)] := fun p hp => by
      rcases List.mem_cons.mp hp with e | hp
      · subst e
        refine ⟨Heap.get?_push_size _ rfl, Nat.ne_of_gt hLt, ?_⟩
        cases z : (hideAll h [a]).get? h2.objs.size with
        | none => rfl
        | some o => exact absurd (Heap.lt_size (of_hideAll _ z)) (Nat.lt_asymm hLt)
      · rw [List.mem_singleton.mp hp]
        exact ⟨hk3 _ _ ha2, haL, hideAll_none _ (List.mem_singleton.mpr rfl)⟩
    have X0 : K.In (hideAll h [a]) := fun b o e => hideAll_get _ (X b o e) (fun z => by
      rw [List.mem_singleton.mp z, haK] at e
      cases e)
    refine kxs_callWith1 NW (List.mem_cons_self ..) ?_ (he := hargs _)
    rw [hargs]
    refine Calls.spliced_cons (hmsg ?_ ?_)
    · intro p tk Q' z
      exact wpAny_Name (wpAny_loadName_local rfl rfl FR.ns (show _ = some u from rfl) z) (by decide)
    intro y t' tk
    refine Calls.spliced_nil ⟨kxs_at NW (List.mem_cons_self ..), ?_⟩
    refine kxs_call FR X0 NW PySem.F.excBase_ValueError T.init (List.mem_cons_self ..) (.tail (Nat.ne_of_gt (Heap.lt_size ha2)) (.head fun p hp => nomatch hp)) (by show 1 ≤ sizeLine; decide) (fun t' h4 F4 N4 _ => ?_)
    have ha4 : h4.get? a = some (excObj C t' none .none) := (N4 (a, excObj C t' none .none) (List.mem_cons_of_mem _ (List.mem_cons_of_mem _ (List.mem_cons_self ..)))).1
    have X4 : K.In h4 := fun b o e => F4.keep b o (X0 b o e)
    obtain ⟨nm, qn, N, bs, bm, sn, sub, ab, col, dd, k0, k1, k2, k3, k5, hC, hbm⟩ := T.oex.cls
    have hcl : clsIn K C = some { name := nm, bases := bs, mro := .ref C :: bm, ns := N, qualname := qn, hasDict := true, slotNames := sn, subclasses := sub, abstract := ab, collection := col, hasDel := false } := by
      unfold clsIn
      rw [hC] <;> rfl
    -- self.code = text
    refine wpAt_of_wpAny (wpAny_execs_cons (plainObj_wpAny_Assign_Attribute (wpAny_Constant_str (k := j2) (pos := q.p8) (wpAny_Name (wpAny_loadName_local rfl rfl F4.ns (show _ = some (Value.ref a) from rfl) ?_) (by decide))) rfl))
    refine set_plain X4 (ox := excObj C t' none .none) (od := none) ⟨ha4, rfl, rfl, trivial⟩ T.oex.sa ?_
    refine PySem.HandSPX.exc_osa X4 ha4 hcl (show PySem.HandSPX.refsVE (.ref C :: bm) = true from hbm) rfl T.code (fun h5 tk' dx hk5 dn dne hx hn => ?_)
    have hL4 : h.objs.size ≤ h4.objs.size := by
      obtain ⟨o, _, _, e, _⟩ := F4.ns
      exact Nat.le_of_lt (Heap.lt_size e)
    -- self.f = f
    have nsB : ∀ {h h' : Heap} {L : Addr} {m : Str → Option Value}, h.Ns L m → (∀ b o, b ≠ a → h.get? b = some o → h'.get? b = some o) → L ≠ a → h'.Ns L m := fun {h h' L m} ⟨o, es, ep, e, r⟩ k n => ⟨o, es, ep, k _ _ n e, r⟩
    have ns5 := nsB F4.ns hk5 haL.symm
    have X5 : K.In h5 := fun b o e => hk5 b o (fun z => by rw [z, haK] at e; cases e) (X4 b o e)
    have hw : ∀ {v : Value}, Within (fun y => if y = ("code" : Str) then some v else none) [("code" : Str)] := fun {v} y hy => by
      by_cases e : y = "code"
      · rw [e]; exact List.mem_singleton.mpr rfl
      · exact absurd (if_neg e) hy
    obtain ⟨oX, _, _, hoX, _, _⟩ := hn.count hw
    refine wpAny_execs_cons (plainObj_wpAny_Assign_Attribute (wpAny_Name (wpAny_loadName_local rfl rfl ns5 (show _ = some u from rfl) (wpAny_Name (wpAny_loadName_local rfl rfl ns5 (show _ = some (Value.ref a) from rfl) ?_) (by decide))) (by decide)) rfl)
    refine set_plain X5 (ox := { cls := .ref C, dict := some dx, data := .fields #[.ref t', .none, .none, .none, .bool false, .none] }) (od := some oX) ⟨hx, rfl, rfl, hoX⟩ T.oex.sa ?_
    refine PySem.OEX.osa_old X5 hx hn hw (by decide) hcl (show PySem.HandSPX.refsVE (.ref C :: bm) = true from hbm) rfl T.fld (fun h6 tk6 hk6 hn6 => ?_)
    refine wpAny_execs_nil (hq h6 t' tk6 dx _ (fun b o hb e => ?_) (Nat.le_trans hL4 dn) dne ?_ hn6)
    · exact hk6 b o (fun z => by
        have := Heap.lt_size e
        have hh := Nat.le_trans hL4 dn
        rw [z] at this
        exact absurd (Nat.lt_of_lt_of_le this hh) (Nat.lt_irrefl _)) (hk5 b o hb (F4.keep b o (hideAll_get _ e fun z => hb (List.mem_singleton.mp z))))
    · exact hk6 a _ dne.symm hx
end
end FvX


set_option maxHeartbeats 2000000
namespace FvX
open PySem PySem.Spec PyProof.Rows L2
/-! ### the messages -/
def MsgV (u : Value) : Prop := (∃ y t, u = .str y t ∧ (reprText y).length ≤ 100000) ∨ ∃ i t, u = .int i t ∧ i.natAbs.log2 < 1920
def MsgW (v : V) : Prop := (∃ y, v = .str y ∧ (reprText y).length ≤ 100000) ∨ ∃ i, v = .int i ∧ i.natAbs.log2 < 1920
theorem MsgW.val {v : V} {u : Value} (h : MsgW v) (r : RelV v u) : MsgV u := by
  rcases h with ⟨y, rfl, hy⟩ | ⟨i, rfl, hi⟩
  · obtain ⟨t, rfl⟩ := r
    exact .inl ⟨y, t, rfl, hy⟩
  · obtain ⟨t, rfl⟩ := r
    exact .inr ⟨i, t, rfl, hi⟩
theorem emp_len (x : Str) : (Str.empty ++ x).length = x.length := by
  rw [TL.len_tl, TL.tl_append, List.length_append, ← TL.len_tl x]
  show 0 + _ = _
  omega
theorem app_len (x y : Str) : (x ++ y).length = x.length + y.length := by
  rw [TL.len_tl, TL.tl_append, List.length_append, ← TL.len_tl, ← TL.len_tl]
theorem fmt_msg {prog : Program} {w : World} {A : Around} {env : Env} {E : Value → Shared → Prop} {Q : Value → Shared → Prop} {fl : Str} {u : Value} {h : Heap} {g : Array GenState} {d : Drawn} {t : Nat} {os : OsState} {p p2 : Pos} (hu : MsgV u)
    (hn : ∀ (p : Pos) (tk : Nat) (Q' : Value → Shared → Prop), Q' u ⟨h, g, d, tk, os⟩ → wpAny (model prog w) A (eval (.Name fl p) env) Q' E ⟨h, g, d, tk, os⟩)
    (hq : ∀ y t' tk, y.length ≤ 100000 → Q (.str y t') ⟨h, g, d, tk, os⟩) : wpAny (model prog w) A (eval (.FormattedValue (.Name fl p) 114 none p2) env) Q E ⟨h, g, d, t, os⟩ := by
  refine wpAny_FormattedValue_repr (hn p t _ ?_)
  have big : ∀ n : Nat, n ≤ 100000 → n ≤ sizeLine := fun n h => Nat.le_trans h (by decide)
  rcases hu with ⟨y, t', rfl, hy⟩ | ⟨i, t', rfl, hi⟩
  · exact pyReprObj_str (wpAny_formatField_str (hq _ _ _ hy) (hq _ _ _ hy) (big _ hy)) (big _ hy)
  · have e := int_text_length_le (k := 1920) (by decide) hi
    have hy : (Str.ofString (toString i)).length ≤ 100000 := by rw [PySem.ofString_length]; omega
    exact pyReprObj_int hi (wpAny_formatField_str (hq _ _ _ hy) (hq _ _ _ hy) (big _ hy))
theorem msg2 {pre fl : Str} {u : Value} {k : Nat} {p1 p2 p3 p4 : Pos} (hp : pre.length ≤ 1000) (hu : MsgV u) : MsgOk (.JoinedStr [.Constant (.str pre) k p1, .FormattedValue (.Name fl p2) 114 none p3] p4) fl u := by
  intro prog w A env E Q h g d t os hn hq
  have big : ∀ n : Nat, n ≤ 102000 → n ≤ sizeLine := fun n h => Nat.le_trans h (by decide)
  refine wpAny_JoinedStr ?_
  show wpAny _ _ (eval (.Constant (.str pre) k p1) env) (fun v s₁ => ∃ y t, v = .str y t ∧ (Str.empty ++ y).length ≤ sizeLine ∧ wpAny _ _ (eval (.FormattedValue (.Name fl p2) 114 none p3) env) (fun v s₁ => ∃ y' t, v = .str y' t ∧ ((Str.empty ++ y) ++ y').length ≤ sizeLine ∧ _) _ s₁) _ _
  refine wpAny_Constant_str ⟨_, _, rfl, by rw [emp_len]; exact big _ (by omega), fmt_msg hu hn fun y t' tk hy => ⟨_, _, rfl, ?_, ?_, hq _ _ _⟩⟩
  · rw [app_len, emp_len]; exact big _ (by omega)
  · rw [app_len, emp_len]; exact big _ (by omega)
theorem msg3 {pre post fl : Str} {u : Value} {k k2 : Nat} {p1 p2 p3 p4 p5 : Pos} (hp : pre.length ≤ 1000) (hp2 : post.length ≤ 1000) (hu : MsgV u) : MsgOk (.JoinedStr [.Constant (.str pre) k p1, .FormattedValue (.Name fl p2) 114 none p3, .Constant (.str post) k2 p5] p4) fl u := by
  intro prog w A env E Q h g d t os hn hq
  have big : ∀ n : Nat, n ≤ 103000 → n ≤ sizeLine := fun n h => Nat.le_trans h (by decide)
  refine wpAny_JoinedStr ?_
  show wpAny _ _ (eval (.Constant (.str pre) k p1) env) (fun v s₁ => ∃ y t, v = .str y t ∧ (Str.empty ++ y).length ≤ sizeLine ∧ wpAny _ _ (eval (.FormattedValue (.Name fl p2) 114 none p3) env) (fun v s₁ => ∃ y' t, v = .str y' t ∧ ((Str.empty ++ y) ++ y').length ≤ sizeLine ∧ wpAny _ _ (eval (.Constant (.str post) k2 p5) env) (fun v s₁ => ∃ y'' t, v = .str y'' t ∧ (((Str.empty ++ y) ++ y') ++ y'').length ≤ sizeLine ∧ _) _ s₁) _ s₁) _ _
  refine wpAny_Constant_str ⟨_, _, rfl, by rw [emp_len]; exact big _ (by omega), fmt_msg hu hn fun y t' tk hy => ⟨_, _, rfl, ?_, wpAny_Constant_str ⟨_, _, rfl, ?_, ?_, hq _ _ _⟩⟩⟩
  · rw [app_len, emp_len]; exact big _ (by omega)
  · rw [app_len, app_len, emp_len]; exact big _ (by omega)
  · rw [app_len, app_len, emp_len]; exact big _ (by omega)
section
variable {X : Cx} {C f : Addr} {qual cod fl x : Str} {q : ErrPos1} {me : Expr} {j2 k : Nat} {p pos : Pos} {e : Expr} {ta : TA}
/-- x(e): the new error, its dict at d -/
def tErr1 (C : Addr) (cod fl : Str) (ta : TA) : L2.St → Hp → XK → Prop := fun σ H Q => ta σ H fun vs H1 => ∃ v, vs = [v] ∧ MsgW v ∧ ∀ d, H1 d = none → Q (.ref C) (some d) (upd H1 d (.xd [(fl, v), ("code", .str cod)]))
theorem pmk_err1 (hfl : fl ∈ flds) (T : ErrC1 X.prog.main.file X.K C f qual q me cod fl j2) (hline : LineOk1 q me) (hargs : ArgsOk me) (hme : ∀ u, MsgV u → MsgOk me fl u) (htop : (X.prog.main.scope.names.lookup ("super" : Str)).isSome = false) (hms : X.mg "super" = none) (hr : Room (k + 1) X.A) (hg : Gl X x) (hm : X.mg x = some (.ref C)) (ha : PA X [e] ta)
    (hdb : (x == ("__debug__" : Str)) = false := by decide) (he : starEach [e] X.env = (false, eval e X.env) :: starEach [] X.env := by rfl) (hpl : (backTo pos (starEach [] X.env)).any (·.1) = false := by rfl) : PMk X (.Call (.Name x p) [e] [] pos) (tErr1 C cod fl ta) := by
  intro pins s σ H Q I h
  obtain ⟨nm, qn, N, bs, bm, sn, sub, ab, col, dd, k0, k1, k2, k3, k5, hC, hbm⟩ := T.oex.cls
  refine wpAny_Call_Name_kw (ld_glob I hg hm (PySem.W.callWith_K (h₀ := X.base) I.ok.mod.kin T.oex.kC (thn (ha.run pos pins s σ H _ I h) fun us s1 z => ?_) he hpl) hdb)
  obtain ⟨vs, H1, I1, r, v, rfl, hv, h⟩ := z
  obtain ⟨u, rfl, ru⟩ := vals1 r
  clear I
  rename Inv X pins σ H1 s1 => I
  refine ⟨I.kIn, ?_⟩
  show wpAny _ _ (call (.ref C) [u]) _ _ _
  obtain ⟨hp, g, dr, tk, os⟩ := s1
  have nK : X.K.lookup (hp.objs.size + 1) = none := by
    cases e : X.K.lookup (hp.objs.size + 1) with
    | none => rfl
    | some o => exact absurd (Nat.lt_of_succ_lt (Heap.lt_size (I.kIn _ _ e))) (Nat.lt_irrefl _)
  have fresh : H1 (hp.objs.size + 1) = none := I.hok.fresh (Nat.le_succ _)
  have kk : ∀ b o, hp.get? b = some o → ((hp.push (PySem.W.kdv_tup [u])).push (PySem.HandSPX.excO C hp.objs.size)).get? b = some o := fun b o e => Heap.get?_push_of_some _ (Heap.get?_push_of_some _ e)
  have at1 : ((hp.push (PySem.W.kdv_tup [u])).push (PySem.HandSPX.excO C hp.objs.size)).get? (hp.objs.size + 1) = some (PySem.HandSPX.excO C hp.objs.size) := by heap_get
  have I2 := I.laid (t' := tk) (a := hp.objs.size + 1) (o := exo (hp.objs.size + 1) C none) (h' := (hp.push (PySem.W.kdv_tup [u])).push (PySem.HandSPX.excO C hp.objs.size)) kk (Nat.le_succ _) (exo_ok at1)
  obtain ⟨mb, hb, hbb⟩ := I.mod.blt
  refine wpAny_call (PySem.HandSPX.call_own PySem.F.excBase_ValueError (fun Y => PySem.HandSPX.refsVE_contains Y bm hbm) (I.kIn _ _ hC) (PySem.W.looks_findIn I.kIn T.find) (fun self => PySem.W.bind_fn I.kIn self T.typ) (by show 1 ≤ sizeLine; decide) ?_)
  refine init_run1 (mg := X.mg) (mb := mb) (t0 := hp.objs.size) hfl T hline hargs (hme u (hv.val ru)) htop (fun b o e => kk b o (I.kIn b o e)) ((I.mod.glob.keeps I.bk).keeps kk) hms ((hb.keeps I.bk).keeps kk) ((hbb _ (by decide)).trans (by decide +kernel)) ?lim (hr.make C [u] []).depth at1 nK (fun h' t1 tk' dx tk0 hk dn dne hx hn => ?_)
  case lim => exact (I.mod.nolimit.keeps I.bk).keeps kk
  have nd : H1 dx = none := I.hok.fresh (Nat.le_trans (by simp; omega) dn)
  have na : ∀ {b : Addr} {u : Option HO}, upd H1 (hp.objs.size + 1) (exo (hp.objs.size + 1) C none) b = none → b ≠ hp.objs.size + 1 := fun {b u} e z => by
    rw [z, upd_same] at e
    cases e
  have lt2 : ∀ {b : Addr} {o : Obj}, ((hp.push (PySem.W.kdv_tup [u])).push (PySem.HandSPX.excO C hp.objs.size)).get? b = some o → b ≠ dx := fun {b o} e => Nat.ne_of_lt (Nat.lt_of_lt_of_le (Heap.lt_size e) dn)
  have same : ∀ {b : Addr} {o : HO}, upd H1 (hp.objs.size + 1) (exo (hp.objs.size + 1) C none) b = some o → o ≠ exo (hp.objs.size + 1) C none → upd (upd H1 dx (exd dx [(fl, v), ("code", .str cod)])) (hp.objs.size + 1) (exo (hp.objs.size + 1) C (some dx)) b = some o := fun {b o} e ne => by
    have b1 : b ≠ hp.objs.size + 1 := fun z => by
      rw [z, upd_same] at e
      exact ne (Option.some.inj e).symm
    rw [upd_ne b1] at e
    rw [upd_ne b1, upd_ne (ne_of_none e nd)]
    exact e
  have un : Un (frs X.stack) [] (upd H1 (hp.objs.size + 1) (exo (hp.objs.size + 1) C none)) (upd (upd H1 dx (exd dx [(fl, v), ("code", .str cod)])) (hp.objs.size + 1) (exo (hp.objs.size + 1) C (some dx))) ((hp.push (PySem.W.kdv_tup [u])).push (PySem.HandSPX.excO C hp.objs.size)) h' := by
    refine ⟨fun b o e n _ _ => hk b o (na (u := none) n) e, fun b o e n _ _ => ⟨o.slots, hk b o (na (u := none) n) e⟩, fun b o e n _ => ?_, fun b o e _ => ?_, fun b xs e => same e fun z => exo_tup z.symm, fun b o u e => same e fun z => exo_frz z.symm, fun b ps e => ⟨#[], ?_⟩⟩
    · have b1 := na (u := none) n
      rw [upd_ne b1, upd_ne (lt2 e)]
      rw [upd_ne b1] at n
      exact n
    · by_cases b1 : b = hp.objs.size + 1
      · exact ⟨_, by rw [b1]; exact hx⟩
      · exact ⟨o, hk b o b1 e⟩
    · rw [Array.append_empty]
      exact same e fun z => exo_tbl z.symm
  have hok : HOk X.prog X.w (upd (upd H1 dx (exd dx [(fl, v), ("code", .str cod)])) (hp.objs.size + 1) (exo (hp.objs.size + 1) C (some dx))) h' := fun b o e => by
    by_cases b1 : b = hp.objs.size + 1
    · rw [b1, upd_same] at e
      cases e
      rw [b1]
      exact exo_ok hx
    · rw [upd_ne b1] at e
      by_cases b2 : b = dx
      · rw [b2, upd_same] at e
        cases e
        rw [b2]
        exact exd_ok hn (relO_put ru (relO_put (fs := []) ⟨_, rfl⟩ fun g => True.intro))
      · rw [upd_ne b2] at e
        have e2 : upd H1 (hp.objs.size + 1) (exo (hp.objs.size + 1) C none) b = some o := by rw [upd_ne b1]; exact e
        refine (I2.hok b o e2).stay (fun c v hc z => hk c v (fun c1 => ?_) z) (fun c hc => same hc fun z => exo_own z.symm) (fun c xs hc => same hc fun z => exo_tup z.symm)
        rcases hc with hc | hc
        · exact b1 (hc.symm.trans c1)
        · rw [c1, upd_same] at hc
          exact exo_own (Option.some.inj hc)
  refine ⟨rfl, mk_end (a := hp.objs.size + 1) (C := C) (d := dx) (fs := [(fl, v), ("code", .str cod)]) (raises_own T.oex.exC T.oex.tyC) I (Nat.le_succ _) kk un hok rfl I.bare upd_same ?_ nd ?_⟩
  · rw [upd_ne dne, upd_same]
  · have e : upd (del (upd (upd H1 dx (exd dx [(fl, v), ("code", .str cod)])) (hp.objs.size + 1) (exo (hp.objs.size + 1) C (some dx))) (hp.objs.size + 1)) dx (.xd [(fl, v), ("code", .str cod)]) = upd H1 dx (.xd [(fl, v), ("code", .str cod)]) := by
      funext b
      by_cases b2 : b = dx
      · rw [b2, upd_same, upd_same]
      · rw [upd_ne b2, upd_ne b2]
        by_cases b1 : b = hp.objs.size + 1
        · rw [b1, del_same, fresh]
        · rw [del_ne b1, upd_ne b1, upd_ne b2]
    rw [e]
    exact h dx nd
end
end FvX


namespace FvW
open PySem PySem.Spec PyProof.Rows L2 FvX Fv
/-! ### lists and tuples alike -/
def isSeq : PyData → Bool
  | .list _ => true
  | .tuple _ => true
  | _ => false
def rows : PyData → List PyData
  | .list ds => ds
  | .tuple ds => ds
  | _ => []
theorem isSeq_ty (d : PyData) : (isB (tyN d) "list" || isB (tyN d) "tuple") = isSeq d := by
  cases d <;> (simp only [tyN, isSeq]; decide +kernel)
/-- isinstance(x, (list, tuple)) of data -/
def rIsDL (K : PySem.W.Frag) : List V → Hp → VK → Prop := fun xs H Q => ∃ (x : V) (tp : Addr) (d : PyData), xs = [x, .ref tp] ∧ H tp = some (.tup [.ty "list", .ty "tuple"]) ∧ Dp K H x d ∧ Q (.bl (isSeq d)) H
theorem call_isDL {X : Cx} : CallR X (.builtin "isinstance") (rIsDL X.K) := by
  intro pins s σ H xs us Q I r h
  obtain ⟨x, tp, d, rfl, htp, hd, q⟩ := h
  refine call_isiT pins s σ H _ us Q I r ⟨x, tp, _, _, _, isSeq d, rfl, htp, .cons (.ty "list") (.cons (.ty "tuple") .nil), dp_ty hd, ?_, q⟩
  have e := isSeq_ty d
  refine kitAny_cons (b := isB (tyN d) "list") (kit_ty (kitB_all (by decide))) (fun e1 => ?_) (fun e1 => ?_)
  · rw [e1, Bool.false_or] at e
    refine kitAny_cons (b := isB (tyN d) "tuple") (kit_ty (kitB_all (by decide))) (fun e2 => ?_) (fun e2 => ?_)
    · rw [← e, e2]; exact kitAny_nil
    · rw [← e, e2]
  · rw [← e, e1, Bool.true_or]
theorem walk_enumT {K : PySem.W.Frag} {a : Addr} {xs : List V} : Walk (IteT K a) xs.length (fun H => SqT K H a xs) (YPair (fun i => some (.int (i : Nat))) (fun i => xs[i]?)) where
  goes := fun i _ hi q => ⟨xs, xs[i], q, List.getElem?_eq_getElem hi⟩
  stops := fun _ q => ⟨xs, q, Nat.le_refl _⟩
  yields := fun i H v H' _ q y => let ⟨T, x, h1, h2, h3, h4⟩ := y; ⟨T, .int (i : Nat), x, h1, h2, h3, rfl, h4 xs q⟩
theorem enum_or {K : PySem.W.Frag} {H0 H1 : Hp} {v : V} {d : PyData} {R : It → Hp → Prop} (hd : Dp K H0 v d) (hs : isSeq d = true) (s : Same H0 H1)
    (h : ∀ (J : It) (G : Hp → Prop) (xs : List V), DpAll K H0 xs (rows d) → Walk J xs.length G (YPair (fun i => some (.int (i : Nat))) (fun i => xs[i]?)) → (∀ H', Same H0 H' → G H') → R J H1) :
    (∃ a xs, [v] = [V.ref a] ∧ SqL K H1 a xs ∧ R (Ite K a) H1) ∨ ∃ a xs, [v] = [V.ref a] ∧ SqT K H1 a xs ∧ R (IteT K a) H1 := by
  cases hd with
  | non => cases hs
  | bl => cases hs
  | int => cases hs
  | str => cases hs
  | lst hq ha => exact .inl ⟨_, _, rfl, s.seq hq, h _ _ _ ha walk_enum fun H' s' => s'.seq hq⟩
  | tup hq ha => exact .inr ⟨_, _, rfl, same_seqT s hq, h _ _ _ ha walk_enumT fun H' s' => same_seqT s' hq⟩
theorem i_enum {K : PySem.W.Frag} {H0 H1 : Hp} {v : V} {d : PyData} {R : It → Hp → Prop} {σ : L2.St} {j : Nat} (hv : σ[j]? = some (some v)) (hd : Dp K H0 v d) (hs : isSeq d = true) (s : Same H0 H1)
    (h : ∀ (J : It) (G : Hp → Prop) (xs : List V), DpAll K H0 xs (rows d) → Walk J xs.length G (YPair (fun i => some (.int (i : Nat))) (fun i => xs[i]?)) → (∀ H', Same H0 H' → G H') → R J H1) :
    iOr (iEnum K (tCons (tVar j) tNil)) (iEnumT K (tCons (tVar j) tNil)) σ H1 R := Or.imp (fun z => ⟨v, hv, z⟩) (fun z => ⟨v, hv, z⟩) (enum_or hd hs s h)
/-- what a for over a list or a tuple wants -/
theorem seq_or {K : PySem.W.Frag} {H0 H1 : Hp} {v : V} {d : PyData} {R : It → Hp → Prop} (hd : Dp K H0 v d) (hs : isSeq d = true) (s : Same H0 H1)
    (h : ∀ (J : It) (G : Hp → Prop) (xs : List V), DpAll K H0 xs (rows d) → Walk J xs.length G (YAt xs) → (∀ H', Same H0 H' → G H') → R J H1) :
    (∃ a, v = V.ref a ∧ (∃ xs, SqL K H1 a xs) ∧ R (Itl K a) H1) ∨ ∃ a, v = V.ref a ∧ (∃ xs, SqT K H1 a xs) ∧ R (Itt K a) H1 := by
  cases hd with
  | non => cases hs
  | bl => cases hs
  | int => cases hs
  | str => cases hs
  | lst hq ha => exact .inl ⟨_, rfl, ⟨_, s.seq hq⟩, h _ _ _ ha walk_list fun H' s' => s'.seq hq⟩
  | tup hq ha => exact .inr ⟨_, rfl, ⟨_, same_seqT s hq⟩, h _ _ _ ha walk_tup fun H' s' => same_seqT s' hq⟩
/-- an error with one field -/
def errF (C : Addr) (cod fl : Str) (v : V) (H : Hp) (E : XK) : Prop := ∀ (H' : Hp) (dd : Addr), Same H H' → H' dd = some (.xd [(fl, v), ("code", .str cod)]) → E (.ref C) (some dd) H'
theorem errF.mono {C : Addr} {cod fl : Str} {v : V} {H H1 : Hp} {E : XK} (h : errF C cod fl v H E) (s : Same H H1) : errF C cod fl v H1 E := fun H' dd s' e => h H' dd (s.trans s') e
end FvW


namespace FvW
open PySem PySem.Spec PyProof.Rows L2 FvX Fv
theorem pi_tupK {X : Cx} {K : PySem.W.Frag} {tg l : Expr} {tl : TE} (hK : X.K = K) (hl : PE X l tl) : PI X tg l (iTup K tl) := by
  subst hK
  exact pi_tup hl
theorem sl_tupK {X : Cx} {K : PySem.W.Frag} (hK : X.K = K) : SlR X (rSlT K) := by
  subst hK
  exact sl_tup
/-! ### [e for x in xs for y in ys]: the two loops -/
theorem in_it {J : It} {n : Nat} {G : Hp → Prop} {Y : Nat → Hp → V → Hp → Prop} (w : Walk J n G Y) {g : TG} {tt : TT} {te : TE} {vs : List Nat} {σ : L2.St} {H0 : Hp} {D : Addr} {N : Hp → Prop} (P : Nat → Hp → Prop) (h0 : P 0 H0) (hG : ∀ j H, j ≤ n → P j H → G H)
    (hs : ∀ j x H H', j < n → P j H → Y j H x H' → g x (wipe σ vs) H' fun σ3 H5 => wipe σ3 vs = wipe σ vs ∧ tt σ3 H5 fun b H6 => if b = true then te σ3 H6 fun y H7 => ∃ acc, H7 D = some (.lst acc) ∧ acc.length < sizeLine ∧ P (j + 1) (upd H7 D (.lst (acc ++ [y]))) else P (j + 1) H6)
    (hd : ∀ H, P n H → N H) :
    ∃ W : Nat → Nat → Hp → Prop, (∃ m, W 0 m H0) ∧ ∀ j k H, W j k H → (J.stop j H ∧ N H) ∨ (J.go j H ∧ ∃ Nx : Hp → Prop, (∀ H', Nx H' → ∃ k', k' < k ∧ W (j + 1) k' H') ∧ ∀ x H', J.yld j H x H' → g x (wipe σ vs) H' fun σ3 H5 => wipe σ3 vs = wipe σ vs ∧ tt σ3 H5 fun b H6 => if b = true then te σ3 H6 fun y H7 => ∃ acc, H7 D = some (.lst acc) ∧ acc.length < sizeLine ∧ Nx (upd H7 D (.lst (acc ++ [y]))) else Nx H6) := by
  refine ⟨fun j k H => k = n - j ∧ j ≤ n ∧ P j H, ⟨n - 0, rfl, Nat.zero_le n, h0⟩, fun j k H z => ?_⟩
  obtain ⟨ek, hj, p⟩ := z
  have hg := hG j H hj p
  rcases Nat.lt_or_ge j n with lt | ge
  · exact .inr ⟨w.goes j H lt hg, P (j + 1), fun H' p' => ⟨n - (j + 1), by omega, rfl, lt, p'⟩, fun x H' y => hs j x H H' lt p (w.yields j H x H' lt hg y)⟩
  · have e : n = j := Nat.le_antisymm ge hj
    subst e
    exact .inl ⟨w.stops H hg, hd H p⟩
theorem lc2_it {J : It} {n : Nat} {G : Hp → Prop} {Y : Nat → Hp → V → Hp → Prop} (w : Walk J n G Y) {g g1 : TG} {tt tt1 : TT} {te : TE} {wi1 : TI} {vs vs1 : List Nat} {σ : L2.St} {H1 : Hp} {D : Addr} {Qd : Hp → Prop} (P : Nat → Hp → Prop) (h0 : P 0 (upd H1 D (.lst []))) (hG : ∀ i H, i ≤ n → P i H → G H)
    (hs : ∀ i x H H', i < n → P i H → Y i H x H' → g x (wipe σ vs) H' fun σ2 H2 => wipe σ2 vs = wipe σ vs ∧ tt σ2 H2 fun b H3 => if b = true then wi1 σ2 H3 (fun J1 H4 => ∃ W1 : Nat → Nat → Hp → Prop, (∃ m, W1 0 m H4) ∧ ∀ j k H, W1 j k H → (J1.stop j H ∧ P (i + 1) H) ∨ (J1.go j H ∧ ∃ Nx1 : Hp → Prop, (∀ H', Nx1 H' → ∃ k', k' < k ∧ W1 (j + 1) k' H') ∧ ∀ x H', J1.yld j H x H' → g1 x (wipe σ2 vs1) H' fun σ3 H5 => wipe σ3 vs1 = wipe σ2 vs1 ∧ tt1 σ3 H5 fun b H6 => if b = true then te σ3 H6 fun y H7 => ∃ acc, H7 D = some (.lst acc) ∧ acc.length < sizeLine ∧ Nx1 (upd H7 D (.lst (acc ++ [y]))) else Nx1 H6)) else P (i + 1) H3)
    (hd : ∀ H, P n H → Qd H) :
    ∃ W : Nat → Nat → Hp → Prop, (∃ m, W 0 m (upd H1 D (.lst []))) ∧ ∀ i m H, W i m H → (J.stop i H ∧ Qd H) ∨ (J.go i H ∧ ∃ Nx : Hp → Prop, (∀ H', Nx H' → ∃ m', m' < m ∧ W (i + 1) m' H') ∧ ∀ x H', J.yld i H x H' → g x (wipe σ vs) H' fun σ2 H2 => wipe σ2 vs = wipe σ vs ∧ tt σ2 H2 fun b H3 => if b = true then wi1 σ2 H3 (fun J1 H4 => ∃ W1 : Nat → Nat → Hp → Prop, (∃ m, W1 0 m H4) ∧ ∀ j k H, W1 j k H → (J1.stop j H ∧ Nx H) ∨ (J1.go j H ∧ ∃ Nx1 : Hp → Prop, (∀ H', Nx1 H' → ∃ k', k' < k ∧ W1 (j + 1) k' H') ∧ ∀ x H', J1.yld j H x H' → g1 x (wipe σ2 vs1) H' fun σ3 H5 => wipe σ3 vs1 = wipe σ2 vs1 ∧ tt1 σ3 H5 fun b H6 => if b = true then te σ3 H6 fun y H7 => ∃ acc, H7 D = some (.lst acc) ∧ acc.length < sizeLine ∧ Nx1 (upd H7 D (.lst (acc ++ [y]))) else Nx1 H6)) else Nx H3) := by
  refine ⟨fun i m H => m = n - i ∧ i ≤ n ∧ P i H, ⟨n - 0, rfl, Nat.zero_le n, h0⟩, fun i m H z => ?_⟩
  obtain ⟨em, hi, p⟩ := z
  have hg := hG i H hi p
  rcases Nat.lt_or_ge i n with lt | ge
  · exact .inr ⟨w.goes i H lt hg, P (i + 1), fun H' p' => ⟨n - (i + 1), by omega, rfl, lt, p'⟩, fun x H' y => hs i x H H' lt p (w.yields i H x H' lt hg y)⟩
  · have e : n = i := Nat.le_antisymm ge hi
    subst e
    exact .inl ⟨w.stops H hg, hd H p⟩
/-- no if stands there -/
theorem yes_it {σ : L2.St} {H : Hp} {A B : Hp → Prop} (h : A H) : tYes σ H fun b H' => if b = true then A H' else B H' := by
  show if true = true then A H else B H
  rw [if_pos rfl]
  exact h
theorem i_seq {K : PySem.W.Frag} {H0 H1 : Hp} {v : V} {d : PyData} {R : It → Hp → Prop} {σ : L2.St} {j : Nat} (hv : σ[j]? = some (some v)) (hd : Dp K H0 v d) (hs : isSeq d = true) (s : Same H0 H1)
    (h : ∀ (J : It) (G : Hp → Prop) (xs : List V), DpAll K H0 xs (rows d) → Walk J xs.length G (YAt xs) → (∀ H', Same H0 H' → G H') → R J H1) :
    iOr (iList K (tVar j)) (iTup K (tVar j)) σ H1 R := Or.imp (fun z => ⟨v, hv, z⟩) (fun z => ⟨v, hv, z⟩) (seq_or hd hs s h)
end FvW


namespace Fv
open PySem PySem.Spec PyProof.Rows L2 FvX FvW
theorem pi_listK {X : Cx} {K : PySem.W.Frag} {tg l : Expr} {tl : TE} (hK : X.K = K) (hl : PE X l tl) : PI X tg l (iList K tl) := by
  subst hK
  exact pi_list hl
theorem cr_allK {X : Cx} {K : PySem.W.Frag} (hK : X.K = K) (hc : X.calm = true) : CallR X (.builtin "all") (rAll K) := by
  subst hK
  exact cr_all hc
theorem pe_joinK {X : Cx} {K : PySem.W.Frag} {o e : Expr} {to te : TE} {apos pos : Pos} (hK : X.K = K) (ho : PE X o to) (he : PE X e te) (hs : starEach [e] X.env = [(false, eval e X.env)] := by rfl) (hbase : attributeBase o "join" X.env (eval o X.env) = eval o X.env := by rfl) (hline : (apos.endLine == pos.line) = true := by rfl) :
    PE X (.Call (.Attribute o "join" apos) [e] [] pos) (tM1 (fun x xs H Q => ∃ a p, ∃ ys : List Str, x = .str a ∧ xs = [.ref p] ∧ (SqL K H p (ys.map V.str) ∨ SqT K H p (ys.map V.str)) ∧
      (ys.map (·.length)).sum + ys.length * a.length ≤ 16777216 ∧ Q (.str (Txt.join a ys)) H) to te) := by
  subst hK
  exact pe_join ho he hs hbase hline
theorem smx_none' {a L : Addr} {ns : List Int} {H H' : Hp} {p : Addr} (s : SmX [a] H H') (hs : Src H' a L ns) (n : H' p = none) : H p = none := by
  cases e : H p with
  | none => rfl
  | some o =>
    by_cases c : p = a
    · obtain ⟨_, _, _, _, e', _⟩ := hs
      rw [c, e'] at n; cases n
    · rw [s _ _ (fun z => c (List.mem_singleton.mp z)) e] at n; cases n
theorem Src.neL' {H : Hp} {a L l : Addr} {ns : List Int} (h : Src H a L ns) (n : H l = none) : l ≠ L := fun z => by
  obtain ⟨_, _, _, _, _, e, _⟩ := h
  rw [← z, n] at e; cases e
def natsV (ms : List Nat) : List V := ms.map fun x => V.int (x : Nat)
theorem bitAnd_nat (a b : Nat) : Builtin.bitAnd ((a : Nat) : Int) ((b : Nat) : Int) = ((a &&& b : Nat) : Int) := by
  unfold Builtin.bitAnd
  rw [decide_eq_true (Int.natCast_nonneg a), decide_eq_true (Int.natCast_nonneg b)]
  show ((((a : Int).toNat &&& (b : Int).toNat : Nat)) : Int) = _
  rw [Int.toNat_natCast, Int.toNat_natCast]
theorem inV_nats (x : Nat) : ∀ ms : List Nat, inV (.int (x : Nat)) (natsV ms) = decide (x ∈ ms)
  | [] => rfl
  | a :: ms => by
    have ih := inV_nats x ms
    unfold inV natsV at ih ⊢
    rw [List.map_cons, List.any_cons, ih, Bool.eq_iff_iff, Bool.or_eq_true, decide_eq_true_eq, decide_eq_true_eq, List.mem_cons]
    refine or_congr ?_ Iff.rfl
    show decide ((a : Int) = (x : Int)) = true ↔ _
    rw [decide_eq_true_eq]
    omega
theorem flat_nats (ms : List Nat) : (natsV ms).all flatV = true := by
  unfold natsV
  rw [List.all_map]
  exact List.all_eq_true.mpr fun v _ => rfl
theorem nats_get {ms : List Nat} {j : Nat} {x : V} (h : (natsV ms)[j]? = some x) : ∃ a, ms[j]? = some a ∧ x = .int (a : Nat) := by
  unfold natsV at h
  rw [List.getElem?_map] at h
  cases e : ms[j]? with
  | none => rw [e] at h; cases h
  | some a => rw [e] at h; exact ⟨a, rfl, (Option.some.inj h).symm⟩
theorem nats_len (ms : List Nat) : (natsV ms).length = ms.length := by unfold natsV; rw [List.length_map]
theorem nodup_lt : ∀ (n : Nat) (ms : List Nat), ms.Nodup → (∀ a ∈ ms, a < n) → ms.length ≤ n
  | 0, [], _, _ => Nat.le_refl _
  | 0, a :: ms, _, h => absurd (h a List.mem_cons_self) (Nat.not_lt_zero _)
  | n + 1, ms, nd, h => by
    have ih := nodup_lt n (ms.erase n) (nd.erase n) fun a ha => by
      have h1 := h a (List.mem_of_mem_erase ha)
      have h2 : a ≠ n := fun z => by
        rw [z] at ha
        exact (List.Nodup.mem_erase_iff nd).mp ha |>.1 rfl
      omega
    have h3 := List.length_erase (a := n) (l := ms)
    by_cases c : n ∈ ms
    · rw [if_pos c] at h3; omega
    · rw [if_neg c] at h3; omega
def unI : V → Nat
  | .int i => i.toNat
  | _ => 0
theorem perm_nats {ys : List V} {ms : List Nat} (h : ys.Perm (natsV ms)) : ∃ ns, ns.Perm ms ∧ ys = natsV ns := by
  refine ⟨ys.map unI, ?_, ?_⟩
  · have z := h.map unI
    unfold natsV at z
    rw [List.map_map] at z
    have e : ms.map (unI ∘ fun x : Nat => V.int (x : Nat)) = ms := by
      refine Eq.trans (List.map_congr_left (g := id) fun x _ => ?_) (List.map_id ms)
      show ((x : Nat) : Int).toNat = x
      exact Int.toNat_natCast x
    rw [e] at z
    exact z
  · unfold natsV
    rw [List.map_map]
    refine Eq.trans (List.map_id ys).symm (List.map_congr_left fun y hy => ?_)
    obtain ⟨x, _, rfl⟩ := List.mem_map.mp (h.mem_iff.mp hy)
    show V.int (x : Nat) = V.int ((((x : Nat) : Int).toNat : Nat) : Int)
    rw [Int.toNat_natCast]
end Fv


namespace Fv
open PySem PySem.Spec PyProof.Rows L2
def topS (i : Nat) : Stmt := PySem.Challenge.pw_fivefault_k23_named_boards.main.body.getD i (.Pass ⟨0, 0, 0, 0⟩)
-- top 29  slots: 0:_law_source_here 1:_law_many 2:_law_cell 3:_law_digit 4:_law_mixed
abbrev s_law_take : Stmt := topS 29
abbrev N_law_take : List Str := ["_law_source_here", "_law_many", "_law_cell", "_law_digit", "_law_mixed"]
theorem sc_law_take : FnScope N_law_take ["_law_source_here", "_law_many"] (defScope s_law_take) := ⟨rfl, rfl, rfl, by decide +kernel, rfl, by decide +kernel, by decide +kernel⟩

theorem at_int {ns : List Int} {i : Int} (h0 : 0 ≤ i) (h : i < ((ns.map V.int).length : Nat)) : ∃ v : Int, atI (ns.map V.int) i = some (.int v) := by
  rw [List.length_map] at h
  have hk : i.toNat < ns.length := by omega
  have q : atI (ns.map V.int) ((i.toNat : Nat) : Int) = some (.int ns[i.toNat]) := atI_nat (by rw [List.getElem?_map, List.getElem?_eq_getElem hk] <;> rfl)
  rw [show ((i.toNat : Nat) : Int) = i by omega] at q
  exact ⟨_, q⟩
def zz (st c : Int) : Int := (((st * st) % 2147483629 + 40507 * (c + 1)) * 48271 + st + 17) % 2147483629
theorem pos1 : (0 : Int) < 2147483587 := by decide
theorem pos2 : (0 : Int) < 2147483629 := by decide
theorem pos3 : (0 : Int) < 8191 := by decide
section
variable {P : Program} {w : World} {K : PySem.W.Frag} {mg : Str → Option Value} {base : Heap}
theorem ok_take {f : Addr} {fd : FuncData} {k : Nat} (F : Fun K "_law_take" "_law_take" s_law_take f fd) (m_len : mg "len" = none) (m_int : mg "int" = none) :
    FnOk P w K mg base CX0 (k + 1) f fd ["_law_source_here", "_law_many"] spTake := by
  refine F.ok sc_law_take (fun vs H Q E h => ?_) (fun cdv A outer s H vs Q E hr h => ?_)
  · obtain ⟨a, L, ns, n, rfl, _⟩ := h
    rfl
  · obtain ⟨a, L, ns, n, rfl, ⟨i, p, st, c, hA, hL, h0, h1, h2⟩, n1, n2, q⟩ := h
    have aL : L ≠ a := fun e => by
      rw [e, hA] at hL
      cases ns with
      | nil => cases hL
      | cons x r => cases hL
    refine ⟨_, (C8.pss_cut (ps_if (PW.pt (pw_and (pt_cmpR op_eq (pe_ix ix_list (pv 0) pe_int (fun _ _ => rfl)) pe_int (nomark _)) (pw_and1 (pt_cmpR op_lt (pe_ix ix_list (pv 0) pe_int (fun _ _ => rfl)) (pe_callB call_len_seq (by rfl) m_len (by decide +kernel) (pa_cons (pe_ix ix_list (pv 0) pe_int (fun _ _ => rfl)) pa_nil)) (nomark _)))))
        (pss_cons (ps_set (i := 2) sc_law_take.nd rfl (by first | exact .inl rfl | exact .inr rfl) (pe_ix ix_list (pe_ix ix_list (pv 0) pe_int (fun _ _ => rfl)) (pe_ix ix_list (pv 0) pe_int (fun _ _ => rfl)) (fun _ _ => rfl)))
        (pss_cons (ps_asg (pe_op op_add (pe_ix ix_list (pv 0) pe_int (fun _ _ => rfl)) pe_int) (pg_sub (pv 0) pe_int set_list))
        (pss_one (ps_if (pt_cmpR op_ge (pv 2) (pe_op op_pow pe_int pe_int) (nomark _))
          (pss_one (ps_asg (pv 2) (pg_sub (pv 0) pe_int set_list)))
          (pss_one (ps_asg (pe_op op_mod (pe_callTy call_int1 (by rfl) m_int (by decide +kernel) (pa_cons (pe_op op_add (pe_op op_add (pe_op op_mul (pe_ix ix_list (pv 0) pe_int (fun _ _ => rfl)) pe_int) (pe_op op_mul (pe_op op_mod (pe_callTy call_int1 (by rfl) m_int (by decide +kernel) (pa_cons (pv 2) pa_nil)) pe_int) pe_int)) pe_int) pa_nil)) pe_int) (pg_sub (pv 0) pe_int set_list)))))))
        pss_nil)
      (pss_cons (ps_if (pt_cmpR op_gt (pe_ix ix_list (pv 0) pe_int (fun _ _ => rfl)) pe_int (nomark _))
        (pss_cons (ps_set (i := 3) sc_law_take.nd rfl (by first | exact .inl rfl | exact .inr rfl) (pe_op op_mod (pe_callTy call_int1 (by rfl) m_int (by decide +kernel) (pa_cons (pe_ix ix_list (pv 0) pe_int (fun _ _ => rfl)) pa_nil)) (pv 1)))
        (pss_cons (ps_asg (pe_op op_fdiv (pe_ix ix_list (pv 0) pe_int (fun _ _ => rfl)) (pv 1)) (pg_sub (pv 0) pe_int set_list))
        (pss_one (ps_ret (pv 3)))))
        pss_nil)
      (pss_cons (ps_asg (pe_op op_add (pe_ix ix_list (pv 0) pe_int (fun _ _ => rfl)) pe_int) (pg_sub (pv 0) pe_int set_list))
      (pss_cons (ps_set (i := 4) sc_law_take.nd rfl (by first | exact .inl rfl | exact .inr rfl) (pe_op op_add (pe_op op_mod (pe_callTy call_int1 (by rfl) m_int (by decide +kernel) (pa_cons (pe_op op_mul (pe_ix ix_list (pv 0) pe_int (fun _ _ => rfl)) (pe_ix ix_list (pv 0) pe_int (fun _ _ => rfl))) pa_nil)) pe_int) (pe_op op_mul pe_int (pe_ix ix_list (pv 0) pe_int (fun _ _ => rfl)))))
      (pss_cons (ps_asg (pe_op op_mod (pe_callTy call_int1 (by rfl) m_int (by decide +kernel) (pa_cons (pe_op op_add (pe_op op_add (pe_op op_mul (pv 4) pe_int) (pe_ix ix_list (pv 0) pe_int (fun _ _ => rfl))) pe_int) pa_nil)) pe_int) (pg_sub (pv 0) pe_int set_list))
      (pss_one (ps_ret (pe_op op_mod (pe_callTy call_int1 (by rfl) m_int (by decide +kernel) (pa_cons (pe_op op_add (pe_op op_fdiv (pe_ix ix_list (pv 0) pe_int (fun _ _ => rfl)) pe_int) (pe_op op_mul (pe_op op_mod (pe_callTy call_int1 (by rfl) m_int (by decide +kernel) (pa_cons (pe_ix ix_list (pv 0) pe_int (fun _ _ => rfl)) pa_nil)) pe_int) pe_int)) pa_nil)) (pv 1))))))))), ?_⟩
    refine ⟨fun σ' H' => ∃ (y2 : Option V) (i p st c : Int), σ' = [some (.ref a), some (.int n), y2, none, none] ∧ H' a = some (.lst [.ref L, .int i, .int p, .int st, .int c]) ∧ H' L = some (.lst (ns.map V.int)) ∧ 0 ≤ i ∧ 0 ≤ st ∧ st < 2147483629 ∧ (∀ b, b ≠ a → H' b = H b), ?_, ?_⟩
    · -- the first if
      refine ⟨_, rfl, a, _, _, _, rfl, rfl, SqL.of hA, rfl, rfl, _, rfl, ?_⟩
      refine ite2 (fun c0 => ?_) (fun c0 => ?_)
      · refine ⟨_, rfl, a, _, _, _, rfl, rfl, SqL.of hA, rfl, _, rfl, a, _, _, _, rfl, rfl, SqL.of hA, rfl, L, _, rfl, .inl (SqL.of hL), _, _, rfl, rfl, _, rfl, ?_⟩
        refine ite2 (fun c1 => ?_) (fun c1 => ?_)
        · obtain ⟨v, hv⟩ := at_int h0 (of_decide_eq_true c1)
          refine ⟨_, rfl, a, _, _, _, rfl, rfl, SqL.of hA, rfl, _, rfl, a, _, _, _, rfl, rfl, SqL.of hA, rfl, L, _, _, _, rfl, rfl, SqL.of hL, hv, ?_⟩
          refine ⟨_, rfl, a, _, _, _, rfl, rfl, SqL.of hA, rfl, _, _, rfl, rfl, _, rfl, a, _, _, _, rfl, rfl, hA, rfl, ?_⟩
          have hA2 : (upd H a (.lst [.ref L, .int (i + 1), .int p, .int st, .int c])) a = some (.lst [.ref L, .int (i + 1), .int p, .int st, .int c]) := upd_same
          refine ⟨_, rfl, _, _, rfl, rfl, ⟨by decide, by decide, by decide⟩, _, _, rfl, rfl, _, rfl, ?_⟩
          refine ite2 (fun c2 => ?_) (fun c2 => ?_)
          · refine ⟨_, rfl, _, rfl, a, _, _, _, rfl, rfl, hA2, rfl, ?_⟩
            refine ⟨some (.int v), i + 1, v, st, c, rfl, upd_same, ?_, by omega, h1, h2, fun b nb => ?_⟩
            · rw [upd_ne aL, upd_ne aL]; exact hL
            · rw [upd_ne nb, upd_ne nb]
          · refine ⟨_, rfl, a, _, _, _, rfl, rfl, SqL.of hA2, rfl, _, _, rfl, rfl, .inr ⟨by decide, by decide⟩, _, rfl, .inl ⟨_, rfl, _, _, rfl, rfl, pos1, _, _, rfl, rfl, .inr ⟨by decide, by decide⟩, _, _, rfl, rfl, _, _, rfl, rfl, .inl ⟨_, rfl, _, _, rfl, rfl, pos2, ?_⟩⟩⟩
            refine ⟨_, rfl, a, _, _, _, rfl, rfl, hA2, rfl, ?_⟩
            refine ⟨some (.int v), i + 1, p, _, c, rfl, upd_same, ?_, by omega, ?_, ?_, fun b nb => ?_⟩
            · rw [upd_ne aL, upd_ne aL]; exact hL
            · exact Int.emod_nonneg _ (by decide)
            · exact Int.emod_lt_of_pos _ (by decide)
            · rw [upd_ne nb, upd_ne nb]
        · exact ⟨none, i, p, st, c, rfl, hA, hL, h0, h1, h2, fun b nb => rfl⟩
      · exact iteF ⟨none, i, p, st, c, rfl, hA, hL, h0, h1, h2, fun b nb => rfl⟩
    · rintro σ' H' ⟨y2, i, p, st, c, rfl, hA, hL, h0, h1, h2, off⟩
      refine ⟨_, rfl, a, _, _, _, rfl, rfl, SqL.of hA, rfl, _, _, rfl, rfl, _, rfl, ?_⟩
      refine ite2 (fun c0 => ?_) (fun c0 => ?_)
      · have cp : p > 0 := of_decide_eq_true c0
        refine ⟨_, rfl, a, _, _, _, rfl, rfl, SqL.of hA, rfl, .inl ⟨_, rfl, _, rfl, _, _, rfl, rfl, by omega, ?_⟩⟩
        refine ⟨_, rfl, a, _, _, _, rfl, rfl, SqL.of hA, rfl, _, rfl, _, _, rfl, rfl, ⟨by omega, by omega⟩, _, rfl, a, _, _, _, rfl, rfl, hA, rfl, ?_⟩
        refine ⟨_, rfl, q _ _ (Int.emod_nonneg _ (by omega)) (Int.emod_lt_of_pos _ (by omega)) ⟨i, _, st, c, upd_same, ?_, h0, h1, h2⟩ fun b nb => ?_⟩
        · rw [upd_ne aL]; exact hL
        · rw [upd_ne nb]; exact off b nb
      · refine ⟨_, rfl, a, _, _, _, rfl, rfl, SqL.of hA, rfl, _, _, rfl, rfl, _, rfl, a, _, _, _, rfl, rfl, hA, rfl, ?_⟩
        have hA2 : (upd H' a (.lst [.ref L, .int i, .int p, .int st, .int (c + 1)])) a = some (.lst [.ref L, .int i, .int p, .int st, .int (c + 1)]) := upd_same
        refine ⟨_, rfl, a, _, _, _, rfl, rfl, SqL.of hA2, rfl, _, rfl, a, _, _, _, rfl, rfl, SqL.of hA2, rfl, _, _, rfl, rfl, .inl ⟨by omega, by omega⟩, .inl ⟨_, rfl, _, _, rfl, rfl, pos2, ?_⟩⟩
        refine ⟨_, rfl, a, _, _, _, rfl, rfl, SqL.of hA2, rfl, _, _, rfl, rfl, .inl ⟨by decide, by decide⟩, _, _, rfl, rfl, ?_⟩
        refine ⟨_, rfl, _, _, rfl, rfl, .inr ⟨by decide, by decide⟩, _, rfl, a, _, _, _, rfl, rfl, SqL.of hA2, rfl, _, _, rfl, rfl, _, _, rfl, rfl, .inl ⟨_, rfl, _, _, rfl, rfl, pos2, ?_⟩⟩
        refine ⟨_, rfl, a, _, _, _, rfl, rfl, hA2, rfl, ?_⟩
        have z0 : 0 ≤ zz st c := Int.emod_nonneg _ (by decide)
        have z1 : zz st c < 2147483629 := Int.emod_lt_of_pos _ (by decide)
        have hA3 : (upd (upd H' a (.lst [.ref L, .int i, .int p, .int st, .int (c + 1)])) a (.lst [.ref L, .int i, .int p, .int (zz st c), .int (c + 1)])) a = some (.lst [.ref L, .int i, .int p, .int (zz st c), .int (c + 1)]) := upd_same
        refine ⟨_, rfl, a, _, _, _, rfl, rfl, SqL.of hA3, rfl, _, _, rfl, rfl, ⟨by decide, by decide⟩, ?_⟩
        refine ⟨_, rfl, a, _, _, _, rfl, rfl, SqL.of hA3, rfl, .inl ⟨_, rfl, _, _, rfl, rfl, pos3, _, _, rfl, rfl, .inr ⟨by decide, by decide⟩, _, _, rfl, rfl, .inl ⟨_, rfl, _, rfl, _, _, rfl, rfl, by omega, ?_⟩⟩⟩
        refine q _ _ (Int.emod_nonneg _ (by omega)) (Int.emod_lt_of_pos _ (by omega)) ⟨i, p, zz st c, c + 1, upd_same, ?_, h0, z0, z1⟩ fun b nb => ?_
        · rw [upd_ne aL, upd_ne aL]; exact hL
        · rw [upd_ne nb, upd_ne nb]; exact off b nb
end
end Fv


namespace Fv
open PySem PySem.Spec PyProof.Rows L2 FvX FvW TL




/-- a family under way -/
structure FI (w : Nat) (fs : List Nat) : Prop where
  nd : fs.Nodup
  cl : ∀ a ∈ fs, ∀ b ∈ fs, a &&& b ∈ fs
  full : 2 ^ w - 1 ∈ fs
  lt : ∀ a ∈ fs, a < 2 ^ w
theorem FI.fam {w : Nat} {fs : List Nat} (h : FI w fs) (hw : w ≤ 4) : Fam fs := by
  refine ⟨h.nd, h.cl, ⟨_, h.full, fun a ha => ?_⟩, ?_⟩
  · rw [subM_iff, Nat.and_two_pow_sub_one_eq_mod, Nat.mod_eq_of_lt (h.lt a ha)]
  · refine Nat.le_trans (nodup_lt _ _ h.nd h.lt) ?_
    exact Nat.pow_le_pow_right (show 0 < 2 by decide) hw
theorem FI.one (w : Nat) : FI w [2 ^ w - 1] := by
  have p : 0 < 2 ^ w := Nat.two_pow_pos w
  refine ⟨by simp, fun a ha b hb => ?_, List.mem_singleton.mpr rfl, fun a ha => ?_⟩
  · rw [List.mem_singleton.mp ha, List.mem_singleton.mp hb, Nat.and_self]; exact List.mem_singleton.mpr rfl
  · rw [List.mem_singleton.mp ha]; omega
/-- between two families: what is met with m -/
structure FJ (w m : Nat) (fs : List Nat) (j : Nat) (gs : List Nat) : Prop where
  nd : gs.Nodup
  old : ∀ a ∈ fs, a ∈ gs
  done : ∀ a ∈ fs.take j, m &&& a ∈ gs
  all : ∀ a ∈ gs, a ∈ fs ∨ ∃ b ∈ fs, a = m &&& b
theorem FJ.fi {w m : Nat} {fs gs : List Nat} (F : FI w fs) (h : FJ w m fs fs.length gs) (hm : m < 2 ^ w) : FI w gs := by
  have dn : ∀ a ∈ fs, m &&& a ∈ gs := fun a ha => h.done a (by rw [List.take_length]; exact ha)
  refine ⟨h.nd, fun a ha b hb => ?_, h.old _ F.full, fun a ha => ?_⟩
  · rcases h.all a ha with ha' | ⟨c, hc, rfl⟩ <;> rcases h.all b hb with hb' | ⟨e, he, rfl⟩
    · exact h.old _ (F.cl a ha' b hb')
    · have := dn _ (F.cl a ha' e he)
      rw [← Nat.and_assoc, Nat.and_comm m a, Nat.and_assoc] at this
      exact this
    · rw [Nat.and_assoc]; exact dn _ (F.cl c hc b hb')
    · have := dn _ (F.cl c hc e he)
      have z : (m &&& c) &&& (m &&& e) = m &&& (c &&& e) := by
        rw [Nat.and_assoc, ← Nat.and_assoc c m e, Nat.and_comm c m, Nat.and_assoc, ← Nat.and_assoc m m, Nat.and_self]
      rw [z]; exact this
  · rcases h.all a ha with z | ⟨c, hc, rfl⟩
    · exact F.lt a z
    · exact Nat.and_lt_two_pow _ (F.lt c hc)
theorem FJ.len {w m : Nat} {fs gs : List Nat} {j : Nat} (F : FI w fs) (h : FJ w m fs j gs) (hw : w ≤ 4) : gs.length ≤ 16 := by
  refine Nat.le_trans (nodup_lt _ _ h.nd fun a ha => ?_) (Nat.pow_le_pow_right (show 0 < 2 by decide) hw)
  rcases h.all a ha with z | ⟨c, hc, rfl⟩
  · exact F.lt a z
  · exact Nat.and_lt_two_pow _ (F.lt c hc)
def spCopied (K : PySem.W.Frag) : Sp := fun vs H Q _ => ∃ (r : Addr) (xs : List V), vs = [.ref r] ∧ SqL K H r xs ∧ xs.length ≤ 1000 ∧ ∀ (H' : Hp) (p : Addr), Same H H' → H p = none → H' p = some (.lst xs) → Q (.ref p) H'
def spFamily : Sp := fun vs H Q _ => ∃ (a L : Addr) (ns : List Int) (wd m : Nat), vs = [.ref a, .int (wd : Nat), .int (m : Nat)] ∧ Src H a L ns ∧ wd ≤ 4 ∧ m ≤ 100 ∧
  ∀ (H' : Hp) (p : Addr) (ms : List Nat), Fam ms → H p = none → H' p = some (.lst (natsV ms)) → Src H' a L ns → SmX [a] H H' → Q (.ref p) H'
def spRows (K : PySem.W.Frag) : Sp := fun vs H Q _ => ∃ (r : Addr) (ms : List Nat), vs = [.ref r] ∧ SqL K H r (natsV ms) ∧ ms.length ≤ 60 ∧ ∀ (H' : Hp) (p : Addr), Same H H' → H p = none → H' p = some (.lst ((rowsOf ms).map V.str)) → Q (.ref p) H'
def spSomeRows : Sp := fun vs H Q _ => ∃ (a L : Addr) (ns : List Int), vs = [.ref a] ∧ Src H a L ns ∧
  ∀ (H' : Hp) (p : Addr) (ms : List Nat), Fam ms → H p = none → H' p = some (.lst ((rowsOf ms).map V.str)) → Src H' a L ns → SmX [a] H H' → Q (.ref p) H'
theorem str01 (b : Bool) : ((toString (if b = true then (1 : Int) else 0) : String) : Str) = ⟨#[if b = true then 49 else 48]⟩ := by
  cases b <;> decide +kernel
theorem log01 (b : Bool) : (if b = true then (1 : Int) else 0).natAbs.log2 < 1920 := by
  cases b <;> decide +kernel
theorem subM_dec (a b : Nat) : decide (V.int ((a &&& b : Nat) : Int) = V.int ((a : Nat) : Int)) = subM a b := by
  unfold subM
  rw [Bool.eq_iff_iff, decide_eq_true_eq, decide_eq_true_eq]
  exact ⟨fun h => by have := V.int.inj h; omega, fun h => by rw [h]⟩
theorem shl_nat {wd : Nat} (h : wd ≤ 4) : (1 : Int) * 2 ^ ((wd : Nat) : Int).toNat = ((2 ^ wd : Nat) : Int) := by
  have all : ∀ wd ≤ 4, (1 : Int) * 2 ^ ((wd : Nat) : Int).toNat = ((2 ^ wd : Nat) : Int) := by decide
  exact all wd h
theorem fam_a : Fam [0, 1, 2, 4, 7] := ⟨by decide, by decide, ⟨7, by decide, by decide⟩, by decide⟩
theorem fam_b : Fam [0, 1, 3, 4, 7] := ⟨by decide, by decide, ⟨7, by decide, by decide⟩, by decide⟩
section
variable {P : Program} {w : World} {K : PySem.W.Frag} {mg : Str → Option Value} {base : Heap}
end
end Fv


set_option maxHeartbeats 2000000
namespace FvX
open PySem PySem.Spec PyProof.Rows L2
/-! ### try: .. except x as n: .. except ..: ..; the first clause takes what comes -/
/-- what the first clause wishes -/
def wFst (K : PySem.W.Frag) (c : Value) (i : Nat) (ts : Addr → Value → Option Addr → TS) (D : Ends) : WX := fun cls dd σ H => PySem.W.exmOne K cls c = some true ∧
  ∀ a, H a = none → ts a cls dd { nx := fun σ' H' => D.nx (σ'.set i none) H', rt := D.rt, bk := fun σ' H' => D.bk (σ'.set i none) H', ct := fun σ' H' => D.ct (σ'.set i none) H' } (σ.set i (some (.ref a))) H
section
variable {X : Cx} {x n : Str} {c : Value} {i : Nat} {bd su : List Stmt} {b1 : Stmt} {np tp hp' : Pos} {more : List ExceptHandler} {tb : WX → TS} {ts : Addr → Value → Option Addr → TS}
theorem ps_try_first (hstk : X.stack = X.env :: X.outer) (hfrm : X.env.frame = some X.env.locals) (nd : X.N.Nodup) (hix : X.N[i]? = some n) (hlc : X.env.kindOf n = some .local) (hcl : Names X x c)
    (hbd : ∀ (W : WX) (pn : List (Addr × Obj)) (xe : Value → Shared → Prop), Takes (X.tr pn xe) W → PassesOwn (model X.prog X.w) X.A X.env xe → PSs (X.tr pn xe) bd (tb W))
    (hsu : ∀ (a : Addr) (oe : Obj) (cls : Value) (dd : Option Addr) (pn : List (Addr × Obj)), Zc cls dd oe → (∃ vs, oe.data = .fields vs) → PSs (X.suite a ((a, oe) :: pn)) (b1 :: su) (ts a cls dd)) :
    PS X (.Try bd (.ExceptHandler (some (.Name x np)) (some n) (b1 :: su) hp' :: more) [] [] tp) (fun D σ H => tb (wFst X.K c i ts D) D σ H) := by
  refine ⟨fun pins s σ H D I hW => wpAny_Try_except ?_⟩
  have fr : X.A.frames = some (X.env :: X.outer) := I.ok.frames.trans (congrArg some hstk)
  let land : Value → Shared → Prop := fun e s1 => wpAny (model X.prog X.w) X.A (noteFrame e X.env) (fun _ s2 => wpAny (model X.prog X.w) X.A (setFlight e none) (fun _ s3 => wpAny (model X.prog X.w) X.A (handleBy e X.env (.ExceptHandler (some (.Name x np)) (some n) (b1 :: su) hp' :: more)) (SP X pins D) X.xe s3) X.xe s2) X.xe s1
  have caught : Takes (X.tr (X.pn ++ pins) land) (wFst X.K c i ts D) := by
    rintro u s' ⟨a, B, sI, pins', σ', H', cls, dd, rfl, J', nb, up, sky, na, os, ag, hm, hyes⟩
    have J : Inv X pins σ' H' sI := J'.ofTry I.ok
    show wpAny (model X.prog X.w) X.A (noteFrame (.ref a) X.env) _ _ _
    refine Sky.land Zc.steady fr hfrm (show Sky B (X.env :: X.outer) a (Zc cls dd) X.env.locals s'.heap from hstk ▸ sky) fun h3 fl up3 => ?_
    have J3 : Inv X pins σ' H' { s' with heap := h3 } := J.landed nb fl.1 (up.trans up3) os ag
    obtain ⟨o3, v3, g3, z3, d3⟩ := fl.there
    have apart : a ∉ frs (X.env :: X.outer) := fun hin => by
      obtain ⟨_, o', g', no⟩ := fl.2.2.1.mem hin
      rw [g3] at g'
      cases g'
      exact no _ d3
    have aL : a ≠ X.env.locals := fun z => apart (List.mem_filterMap.mpr ⟨X.env, List.mem_cons_self, hfrm.trans (congrArg some z.symm)⟩)
    have aF : a ∉ X.fs := fun hin => by
      obtain ⟨e, he, z⟩ := List.mem_filterMap.mp hin
      exact apart (List.mem_filterMap.mpr ⟨e, List.mem_cons_of_mem _ he, z⟩)
    have S3 := J3.suite g3 d3 na aL aF
    have tyIs : PySem.W.Looks (model X.prog X.w) h3 (typeOf (.ref a)) cls := fun A Q E s k z => wpAny_typeOf_ref (k _ _ g3) (z3.1.symm ▸ z)
    have meets := PySem.W.exm_one (M := model X.prog X.w) J3.kIn tyIs hm
    refine wpAny_handleBy_cons (codeAny_handlers_test ?_) (fun z => by cases z)
    have ask : ∀ {Q : Value → Shared → Prop} {E : Value → Shared → Prop}, Q c { s' with heap := h3 } → wpAny (model X.prog X.w) (X.A.mark (some (.ref a))) (eval (.Name x np) X.env) Q E { s' with heap := h3 } := fun {Q E} z => by
      rcases hcl with ⟨gl, nd', m | ⟨m, bv, nn⟩⟩
      · exact ld_glob (X := X.suite a ((a, o3) :: (X.pn ++ pins))) S3 gl m z nd'
      · exact ld_blt (X := X.suite a ((a, o3) :: (X.pn ++ pins))) S3 gl m bv z nn nd'
    refine ask (meets.here (codeAny_handlers_suite_as (HandSPX.lands_againZ fl fun h4 fl4 up4 => ?_)))
    have J4 : Inv X pins σ' H' { s' with heap := h4 } := J.landed nb fl4.1 ((up.trans up3).trans up4) os ag
    obtain ⟨o4, v4, g4, z4, d4⟩ := fl4.there
    refine store_ok (X := X.suite a ((a, o4) :: (X.pn ++ pins))) (v := .ref a) (J4.suite g4 d4 na aL aF) nd hix (.inl hlc) rfl (fun s5 S5 => ?_) (.inr hlc)
    refine wpAny_mono ((hsu a o4 cls dd (X.pn ++ pins) z4 ⟨_, d4⟩).run [] s5 _ H' _ S5 (hyes a na)) (fun fl6 s6 q6 => ?_) (fun _ _ z => z.elim)
    have gone : ∀ {σ6 : L2.St} {H6 : Hp} {Q : Shared → Prop}, Inv (X.suite a ((a, o4) :: (X.pn ++ pins))) [] σ6 H6 s6 → (∀ s7, Inv X pins (σ6.set i none) H6 s7 → Q s7) →
        wpAny (model X.prog X.w) X.A (do bindName X.env n .none; unbindBehindTheSuite X.env n hp') (fun _ s7 => Q s7) X.xe s6 := fun {σ6 H6 Q} S6 z => gone_ok (S6.unsuite I.ok) nd hix hlc z
    cases fl6 with
    | ret u => obtain ⟨v6, σ6, H6, S6, r6, z6⟩ := q6; exact gone S6 fun s7 J7 => ⟨_, _, _, J7, r6, z6⟩
    | next => obtain ⟨σ6, H6, S6, z6⟩ := q6; exact gone S6 fun s7 J7 => ⟨_, _, J7, z6⟩
    | brk => obtain ⟨σ6, H6, S6, z6⟩ := q6; exact gone S6 fun s7 J7 => ⟨_, _, J7, z6⟩
    | cont => obtain ⟨σ6, H6, S6, z6⟩ := q6; exact gone S6 fun s7 J7 => ⟨_, _, J7, z6⟩
  refine wpAny_mono ((hbd (wFst X.K c i ts D) (X.pn ++ pins) land caught PassesOwn.looking).run [] s σ H D (I.toTry _) hW) (fun fl s1 z => ?_) (fun e s1 z => z)
  cases fl with
  | ret u => obtain ⟨v, σ', H', J', r, z⟩ := z; exact ⟨v, σ', H', J'.ofTry I.ok, r, z⟩
  | next => obtain ⟨σ', H', J', z⟩ := z; exact wpAny_execs_nil ⟨σ', H', J'.ofTry I.ok, z⟩
  | brk => obtain ⟨σ', H', J', z⟩ := z; exact ⟨σ', H', J'.ofTry I.ok, z⟩
  | cont => obtain ⟨σ', H', J', z⟩ := z; exact ⟨σ', H', J'.ofTry I.ok, z⟩
end
/-! ### e.f of the caught error -/
section
variable {X : Cx} {a : Addr} {oe : Obj} {cls : Value} {d : Option Addr} {pn : List (Addr × Obj)} {i : Nat} {n f : Str} {p pos : Pos}
theorem pe_errf (hz : Zc cls d oe) (hf : ∃ vs, oe.data = .fields vs) (hv : PE (X.suite a ((a, oe) :: pn)) (.Name n p) (tVar i)) (hb : attributeBase (.Name n p) f X.env (eval (.Name n p) X.env) = eval (.Name n p) X.env := by rfl) :
    PE (X.suite a ((a, oe) :: pn)) (.Attribute (.Name n p) f pos) (fun σ H Q => σ[i]? = some (some (.ref a)) ∧ ∃ (C dd : Addr) (fs : List (Str × V)) (v : V), cls = .ref C ∧ XfC X.K C ∧ PySem.W.findIn X.K (.ref C) f = some none ∧ d = some dd ∧ H dd = some (.xd fs) ∧ fs.lookup f = some v ∧ Q v H) := by
  refine ⟨fun pins s σ H Q I h => ?_⟩
  obtain ⟨h1, C, dd, fs, v, h2, T, h3, h4, h5, h6, q⟩ := h
  exact (pe_xf T h3 hz hf hv hb).run pins s σ H Q I ⟨_, h1, rfl, h2, dd, fs, v, h4, h5, h6, q⟩
end
end FvX


set_option maxHeartbeats 2000000
namespace FvX
open PySem PySem.Spec PyProof.Rows L2 LamX
/-! ### x(lambda: body), where x calls what it got within a try and goes on behind it -/
section
variable {X : Cx} {pins : List (Addr × Obj)} {σ : L2.St} {H : Hp} {s : Shared}
/-- the call of the lambda; what it raises is told of the very slots -/
theorem pe_actS {Eg : XK} {Ng : List Str} {qg : Str} {sg : Scope} {gf lf lc : Addr} {cdg pm ctv : Value} {pr : Arguments} {bd : Expr} {sc : Scope} {k i : Nat} {nm : Str} {pn : List (Addr × Obj)} {xe : Value → Shared → Prop} {W : WX} {E : XK} {tb : TE} {p1 p2 : Pos}
    (I : Inv X pins σ H s) (L : LamS X.env.scope sc) (hobj : s.heap.get? lf = some (PySem.W.kla_obj "<lambda>" (X.env.qual ++ "<lambda>") pr bd sc (cloFrom X.env.cells sc.names []) pm lc ctv)) (hn : H lf = none) (hnf : lf ∉ frs X.stack)
    (hbnd : bindArgs (PySem.W.kla_fn "<lambda>" (X.env.qual ++ "<lambda>") pr bd sc (cloFrom X.env.cells sc.names []) pm (.ref lc) ctv) ⟨[], []⟩ = pure [])
    (tk : Takes ((cxOf C8.CX0 X.prog X.w X.K X.mg X.base Ng qg sg gf cdg X.A X.stack s H Eg).tr pn xe) W) (hr : Room (k + 1) (X.A.deeper (envOfC qg sg s.heap.objs.size gf cdg)))
    (hbd : ∀ (A : Around) (outer : List Env) (s : Shared) (H : Hp), Room k (A.deeper (lamEnv X sc s.heap.objs.size lf lc)) → PE (lamCx X A outer s H E sc lf lc) bd tb)
    (hN : Ng[i]? = some nm) (hv : Vis sg nm) (hd : (nm == ("__debug__" : Str)) = false) (hcd : (nm == ("__classdict__" : Str)) = false) :
    PE ((cxOf C8.CX0 X.prog X.w X.K X.mg X.base Ng qg sg gf cdg X.A X.stack s H Eg).tr pn xe) (.Call (.Name nm p1) [] [] p2)
      (fun σZ HZ Q => σZ[i]? = some (some (.ref lf)) ∧ HZ lc = some (CodeO lc (X.env.qual ++ "<lambda>")) ∧ (∀ cls d H', E cls d H' → W cls d σZ H') ∧ tb σ HZ Q) := by
  refine ⟨fun pZ sZ σZ HZ Q IZ hh => ?_⟩
  obtain ⟨h1, h2, hW, h3⟩ := hh
  have var := (pe_var (X := (cxOf C8.CX0 X.prog X.w X.K X.mg X.base Ng qg sg gf cdg X.A X.stack s H Eg).tr pn xe) (pos := p1) (i := i) hN hv hd hcd).run pZ sZ σZ HZ (fun v H1 => v = .ref lf ∧ H1 = HZ) IZ ⟨.ref lf, h1, rfl, rfl⟩
  refine wpAny_Call_Name_kw (thn var fun u s1 z => ?_)
  obtain ⟨v, H1, I1, r1, e1, e2⟩ := z
  subst e1
  subst e2
  have eu : u = Value.ref lf := r1
  subst eu
  have here := I1.base.keep lf _ hobj hn hnf (fun z => nomatch (show lf ∈ ([] : List Addr) from z))
  have un : Un (frs X.stack) [] H H1 s.heap s1.heap := I1.base
  obtain ⟨⟨oc, vs, t, g1, g2, g3⟩, _, _⟩ := I1.hok lc _ h2
  have body : codeAny (model X.prog X.w) (X.A.deeper (envOfC qg sg s.heap.objs.size gf cdg)) (.call (.ref lf) ⟨[], []⟩) (CR (L2.CX X.prog X.w) (envOfC qg sg s.heap.objs.size gf cdg :: X.stack) X.prog X.w H1 s1 Q E) s1 := by
    refine PySem.W.kla_callFunE hr.depth here rfl L.co L.gen rfl ⟨lc, oc, vs, t, rfl, g1, g2, g3⟩ ?_
    rw [hbnd]
    refine wpAny_pure (wpAny_newFunctionEnv (fun y hy => (L.own y hy).2) (fun y hy => absurd hy List.not_mem_nil) (fun h₁ hns hsb => ⟨I1.nolimit.fresh _ hsb, ?_⟩) L.kind)
    show codeAny _ _ (.expr bd (lamEnv X sc s1.heap.objs.size lf lc)) _ _
    have kp : ∀ b o, s1.heap.get? b = some o → h₁.get? b = some o := fun b o e => hsb.extBut b o (Nat.ne_of_lt (Heap.lt_size e)) (Heap.get?_push_of_some _ e)
    have J := lam_start2 (A := X.A.deeper (envOfC qg sg s.heap.objs.size gf cdg)) (outer := envOfC qg sg s.heap.objs.size gf cdg :: X.stack) (E := E) (scope := sc) (f := lf) (c' := lc) (tk := s1.toks + ([] : List (Str × Value)).length) I L I1.env0 hr.hd un hns kp
    refine PySem.W.kla_codeExpr (wpAny_mono ((hbd _ _ s1 H1 (hr.deeper _)).run [] _ _ H1 Q J h3) (fun v s' z => ?_) fun e s' z => z)
    obtain ⟨v', H', J', rv, z⟩ := z
    exact ⟨v', H', J'.os, J'.bare, J'.base, J'.hok, rv, z⟩
  refine PySem.W.callWith_F0 ⟨_, _, _, _, here⟩ (wpAny_call (codeAny_mono body fun r s' z => ?_))
  cases r with
  | ok fl =>
    cases fl with
    | ret u => exact I1.after z
    | next => exact z.elim
    | brk => exact z.elim
    | cont => exact z.elim
  | error e => exact tk e s' (XE.of_call I1 (fun cls d H' hE => hW cls d H' hE) z)
end
/-- the def at gf, called with one value, makes of the lambda's reading what TT says -/
def GivesS (X : Cx) (Ng : List Str) (x : Str) (sg : Scope) (gf : Addr) (cdg : Value) (bg : List Stmt) (nm q : Str) (TT : (XK → Hp → VK → Prop) → Hp → VK → Prop) : Prop :=
  ∀ (lf lc : Addr) (s : Shared) (H : Hp) (Q : VK) (tl : XK → Hp → VK → Prop),
    (∀ (W : WX) (pn : List (Addr × Obj)) (xe : Value → Shared → Prop) (E : XK) (p1 p2 : Pos), Takes ((cxOf C8.CX0 X.prog X.w X.K X.mg X.base Ng x sg gf cdg X.A X.stack s H C8.E0).tr pn xe) W →
      PE ((cxOf C8.CX0 X.prog X.w X.K X.mg X.base Ng x sg gf cdg X.A X.stack s H C8.E0).tr pn xe) (.Call (.Name nm p1) [] [] p2)
        (fun σZ HZ Q => σZ[0]? = some (some (.ref lf)) ∧ HZ lc = some (CodeO lc q) ∧ (∀ cls d H', E cls d H' → W cls d σZ H') ∧ tl E HZ Q)) →
    H lc = some (CodeO lc q) → TT tl H Q →
    ∃ t, PSs (cxOf C8.CX0 X.prog X.w X.K X.mg X.base Ng x sg gf cdg X.A X.stack s H C8.E0).nox bg t ∧ t { nx := fun _ H' => Q .non H', rt := Q } (L2.start Ng [.ref lf]) H
section
variable {X : Cx}
theorem pe_lamS {T : List (Addr × Str)} {TT : (XK → Hp → VK → Prop) → Hp → VK → Prop} {x nm : Str} {gf c P : Addr} {k : Nat} {pg : Arguments} {bg : List Stmt} {sg : Scope} {dV kV doc pm cdv ct oc : Value} {an od : Option Addr} {osl : Array (Option Value)} {Ng : List Str}
    {pr : Arguments} {bd : Expr} {sc : Scope} {t : XK → TE} {p lpos pos : Pos} (hg : Gl X x) (hm : X.mg x = some (.ref gf)) (hk : PySem.W.keepIn X.K (.ref gf) = true)
    (lk : X.K.lookup gf = some ⟨oc, od, .func (PySem.W.fnOf x x pg bg sg dV kV doc pm an cdv ct), osl⟩) (hcg : PySem.W.codeIn X.K cdv x = true) (hb : L2.Binds X.K (PySem.W.fnOf x x pg bg sg dV kV doc pm an cdv ct) [nm] []) (Sg : FnScope Ng [nm] sg) (hNg : Ng[0]? = some nm) (hva : Vis sg nm)
    (hG : GivesS X Ng x sg gf cdv bg nm (X.env.qual ++ "<lambda>") TT)
    (TB : TabB X.base X.mg c P) (hcode : X.env.code = .ref c) (hmT : (P, X.env.qual ++ "<lambda>") ∈ T) (hu : ∀ p ∈ T, p.1 = P → p.2 = X.env.qual ++ "<lambda>") (hr : Room (k + 2) X.A) (L : LamS X.env.scope sc) (hdef : defaultsOf pr X.env = ([], []))
    (hbind : ∀ (q : Str) (cl : List (Str × Addr)) (pm cv ctv : Value), bindArgs (PySem.W.kla_fn "<lambda>" q pr bd sc cl pm cv ctv) ⟨[], []⟩ = pure [])
    (hbd : ∀ (A : Around) (outer : List Env) (s : Shared) (H : Hp) (E : XK) (lf lc : Addr), Room k (A.deeper (lamEnv X sc s.heap.objs.size lf lc)) → PE (lamCx X A outer s H E sc lf lc) bd (t E))
    (hdb : (x == ("__debug__" : Str)) = false := by decide) (hd : (nm == ("__debug__" : Str)) = false := by decide) (hcd : (nm == ("__classdict__" : Str)) = false := by decide) :
    PE X (.Call (.Name x p) [.Lambda pr bd sc lpos] [] pos) (tLam T TT t) := by
  refine ⟨fun pins s σ H Q I hh => wpAny_Call_Name_kw (ld_glob I hg hm (PySem.W.callWith_K (h₀ := X.base) I.ok.mod.kin hk ?_ (by rfl) (by rfl)) hdb)⟩
  show wpAny _ _ (spliced ((false, eval (.Lambda pr bd sc lpos) X.env) :: backTo pos (starEach [] X.env))) _ _ s
  refine Calls.spliced_cons (lam_make2 I TB hcode hmT hu hh.1 hdef (L.has I.ok) fun lf lc pm' ctv H1 s' I1 eN T1 g1 g2 g3 g4 => Calls.spliced_nil ⟨I1.kIn, ?_⟩)
  refine wpAny_call (codeAny_mono (R := CR C8.CX0 X.stack X.prog X.w H1 s' Q C8.E0) ?_ fun r s2 z => ?_)
  · refine run_ofS (N := Ng) (ps := [nm]) (us := [.ref lf]) (vs := [.ref lf]) lk hcg Sg hr I1.env0 (hb s' [.ref lf] I1.kIn rfl) (.cons rfl .nil) rfl fun hr' => ?_
    obtain ⟨t', q1, q2⟩ := hG lf lc s' H1 Q (fun E H' Q' => t E σ H' Q') (fun W pn xe E p1 p2 tk => pe_actS (i := 0) I1 L g1 g2 g3 (hbind _ _ _ _ _) tk hr' (fun A outer s H hr2 => hbd A outer s H E lf lc hr2) hNg hva hd hcd) g4 (hh.2 H1 eN T1)
    exact ⟨t', q1.nox, q2⟩
  · cases r with
    | error e => exact (show False from z).elim
    | ok fl =>
      cases fl with
      | ret u => exact I1.after z
      | next => exact z.elim
      | brk => exact z.elim
      | cont => exact z.elim
end
end FvX


namespace Fv
open PySem PySem.Spec PyProof.Rows L2 FvX
/-! ### own defs that may raise -/
structure OwnR (P : Program) (w : World) (K : PySem.W.Frag) (mg : Str → Option Value) (base : Heap) (k : Nat) (x : Str) (sp : Sp) : Prop where
  ex : ∃ f : Addr, mg x = some (.ref f) ∧ PySem.W.keepIn K (.ref f) = true ∧ FnR P w K mg base (L2.CX P w) k f sp
section
variable {X : Cx} {k : Nat} {x : Str} {sp : Sp} {E : XK} {e : Expr} {es : List Expr} {t : TA} {p pos : Pos}
theorem pe_ownR (C : OwnR X.prog X.w X.K X.mg X.base k x sp) (hr : Room k X.A) (hg : Gl X x) (hx : Passes (L2.CX X.prog X.w) X E) (ha : PA X (e :: es) t) (hdb : (x == ("__debug__" : Str)) = false := by decide)
    (he : starEach (e :: es) X.env = (false, eval e X.env) :: starEach es X.env := by rfl) (hpl : (backTo pos (starEach es X.env)).any (·.1) = false := by rfl) : PE X (.Call (.Name x p) (e :: es) [] pos) (fun σ H Q => t σ H fun vs H1 => sp vs H1 Q E) := by
  obtain ⟨f, h1, h2, h3⟩ := C.ex
  refine ⟨fun pins s σ H Q I h => wpAny_Call_Name_kw (ld_glob I hg h1 (PySem.W.callWith_K (h₀ := X.base) I.ok.mod.kin h2 (thn (ha.run pos pins s σ H _ I h) fun us s1 z => ?_) he hpl) hdb)⟩
  obtain ⟨vs, H1, I1, r, q⟩ := z
  exact ⟨I1.kIn, wpAny_call (run_fnR h3 hr hx I1 r q)⟩
theorem pe_ownR0 (C : OwnR X.prog X.w X.K X.mg X.base k x sp) (hr : Room k X.A) (hg : Gl X x) (hx : Passes (L2.CX X.prog X.w) X E) (hdb : (x == ("__debug__" : Str)) = false := by decide) : PE X (.Call (.Name x p) [] [] pos) (fun σ H Q => sp [] H Q E) := by
  obtain ⟨f, h1, h2, h3⟩ := C.ex
  exact ⟨fun pins s σ H Q I h => wpAny_Call_Name_kw (ld_glob I hg h1 (PySem.W.callWith_K0 I.kIn h2 (wpAny_call (run_fnR h3 hr hx I .nil h))) hdb)⟩
end
theorem passX {P : Program} {w : World} {K : PySem.W.Frag} {mg : Str → Option Value} {base : Heap} {N : List Str} {qual : Str} {scope : Scope} {f : Addr} {cd : Value} {A : Around} {outer : List Env} {s : Shared} {H : Hp} {E : XK} :
    Passes (L2.CX P w) (cxOf (L2.CX P w) P w K mg base N qual scope f cd A outer s H E) E := passes_call (takes_of rfl rfl rfl rfl) (fun _ _ _ _ h => h)
theorem passL {X : Cx} {A : Around} {outer : List Env} {s : Shared} {H : Hp} {E : XK} {sc : Scope} {lf lc : Addr} : Passes (L2.CX X.prog X.w) (LamX.lamCx X A outer s H E sc lf lc) E := passes_call (takes_of rfl rfl rfl rfl) (fun _ _ _ _ h => h)
/-- the error of the class at CT leaves, its code told -/
def errAt (CT : Addr) (cod : Str) (H : Hp) (E : XK) : Prop := ∀ (H' : Hp) (dd : Addr), Same H H' → H' dd = some (.xd [("code", .str cod)]) → E (.ref CT) (some dd) H'
theorem errAt.mono {CT : Addr} {cod : Str} {H H1 : Hp} {E : XK} (h : errAt CT cod H E) (s : Same H H1) : errAt CT cod H1 E := fun H' dd s' e => h H' dd (s.trans s') e
/-- a term by is_term's default bounds -/
def tmB (d : PyData) : Bool := (meas 5 d 24).isSome
def spChecked (K : PySem.W.Frag) (CT : Addr) : Sp := fun vs H Q E => ∃ (v : V) (d : PyData), vs = [v] ∧ Dp K H v d ∧ gd 20 d = true ∧ (tmB d = true → ∀ H', Same H H' → Q v H') ∧ (tmB d = false → errAt CT "InvalidTerm" H E)
/-- the term of an operator and its parts, or the only part -/
def madeD (op : Str) : List PyData → PyData
  | [d] => d
  | ds => .tuple (.str op :: ds)
def spJoined (K : PySem.W.Frag) (CT : Addr) : Sp := fun vs H Q E => ∃ (op : Str) (tp : Addr) (xs : List V) (ds : List PyData), vs = [.str op, .ref tp] ∧ SqT K H tp xs ∧ DpAll K H xs ds ∧ xs.length ≤ 100 ∧ gd 0 (.str op) = true ∧ (∀ d ∈ ds, gd 15 d = true) ∧
  (tmB (madeD op ds) = true → ∀ H' v, Same H H' → Dp K H' v (madeD op ds) → Q v H') ∧ (tmB (madeD op ds) = false → errAt CT "InvalidTerm" H E)
def spLower (K : PySem.W.Frag) (CT : Addr) (op : Str) : Sp := fun vs H Q E => ∃ (tp : Addr) (xs : List V) (ds : List PyData), vs = [.ref tp] ∧ SqT K H tp xs ∧ DpAll K H xs ds ∧ xs.length ≤ 100 ∧ (∀ d ∈ ds, gd 15 d = true) ∧
  (tmB (madeD op ds) = true → ∀ H' v, Same H H' → Dp K H' v (madeD op ds) → Q v H') ∧ (tmB (madeD op ds) = false → errAt CT "InvalidTerm" H E)
def spLowerR (K : PySem.W.Frag) (CT : Addr) (op : Str) : Sp := fun xs H Q E => ∃ ds : List PyData, DpAll K H xs ds ∧ xs.length ≤ 100 ∧ (∀ d ∈ ds, gd 15 d = true) ∧
  (tmB (madeD op ds) = true → ∀ H' v, Same H H' → Dp K H' v (madeD op ds) → Q v H') ∧ (tmB (madeD op ds) = false → errAt CT "InvalidTerm" H E)
theorem madeD_gd {op : Str} {ds : List PyData} (ho : gd 0 (.str op) = true) (h : ∀ d ∈ ds, gd 15 d = true) (hl : ds.length ≤ 100) : gd 20 (madeD op ds) = true := by
  have z : gd 16 (.tuple (.str op :: ds)) = true := gd_tup (fun d hd => by
    rcases List.mem_cons.mp hd with e | e
    · rw [e]; exact gd_le ho (by decide)
    · exact h d e) (by rw [List.length_cons]; omega)
  unfold madeD
  split
  · rename_i d
    exact gd_le (h d (List.mem_singleton.mpr rfl)) (by decide)
  · exact gd_le z (by decide)
theorem madeD_ne {op : Str} {ds : List PyData} (h : ds.length ≠ 1) : madeD op ds = .tuple (.str op :: ds) := by
  match ds, h with
  | [], _ => rfl
  | [d], h => exact absurd rfl h
  | a :: b :: r, _ => rfl
end Fv


namespace Fv
open PySem PySem.Spec PyProof.Rows L2 FvX
theorem lmeas_up : ∀ (n : Nat) (d : PyData), 1 ≤ lmeas n d → lmeas (n + 1) d = lmeas n d
  | 0, d, h => by simp only [lmeas] at h; omega
  | n + 1, d, h => by
    by_cases a : isLd d = true
    · unfold lmeas
      rw [if_pos a, if_pos a]
    · by_cases b : isCd d = true
      · have e : ∀ m, lmeas (m + 1) d = if (0 : Int) ∈ (parts d).map (lmeas m) then 0 else ((parts d).map (lmeas m)).sum := fun m => by
          show (if isLd d = true then (1 : Int) else if isCd d = true then _ else 0) = _
          rw [if_neg a, if_pos b]
        rw [e] at h
        by_cases c : (0 : Int) ∈ (parts d).map (lmeas n)
        · rw [if_pos c] at h; omega
        · have em : (parts d).map (lmeas (n + 1)) = (parts d).map (lmeas n) := List.map_congr_left fun x hx => lmeas_up n x (by
            have z := lmeas_nonneg n x
            rcases Int.lt_or_eq_of_le z with z | z
            · omega
            · exact absurd (List.mem_map.mpr ⟨x, hx, z.symm⟩) c)
          rw [e (n + 1), e n, em]
      · have e : ∀ m, lmeas (m + 1) d = 0 := fun m => by
          show (if isLd d = true then (1 : Int) else if isCd d = true then _ else 0) = _
          rw [if_neg a, if_neg b]
        rw [e] at h; omega
theorem mem_le_sum : ∀ {l : List Int} {x : Int}, (∀ y ∈ l, 0 ≤ y) → x ∈ l → x ≤ l.sum
  | y :: l, x, h, hx => by
    rw [List.sum_cons]
    have h0 := sum_nonneg (l := l) fun z hz => h z (List.mem_cons_of_mem _ hz)
    have h1 := h y (List.mem_cons_self ..)
    rcases List.mem_cons.mp hx with e | e
    · omega
    · have := mem_le_sum (l := l) (fun z hz => h z (List.mem_cons_of_mem _ hz)) e
      omega
theorem tmB_iff (d : PyData) : tmB d = true ↔ 1 ≤ lmeas 5 d ∧ lmeas 5 d ≤ 24 := by
  unfold tmB
  rw [meas_some, Bool.and_eq_true, decide_eq_true_eq, decide_eq_true_eq]
theorem tmB_fits (d : PyData) : (decide (1 ≤ lmeas 5 d) && decide (lmeas 5 d ≤ 24)) = tmB d := (meas_some 5 d 24).symm
/-- what makes a term is made of terms -/
theorem made_parts {op : Str} {ds : List PyData} (h : tmB (madeD op ds) = true) : ds ≠ [] ∧ ∀ d ∈ ds, tmB d = true := by
  match ds, h with
  | [], h => cases (show false = true from h)
  | [d], h => exact ⟨fun z => (by cases z), fun x hx => by rw [List.mem_singleton.mp hx]; exact h⟩
  | a :: b :: r, h =>
    refine ⟨fun z => (by cases z), fun x hx => ?_⟩
    obtain ⟨h1, h2⟩ := (tmB_iff _).mp h
    have e : lmeas 5 (madeD op (a :: b :: r)) = if isCd (.tuple (.str op :: a :: b :: r)) = true then (if (0 : Int) ∈ (a :: b :: r).map (lmeas 4) then 0 else ((a :: b :: r).map (lmeas 4)).sum) else 0 := rfl
    rw [e] at h1 h2
    by_cases c : isCd (.tuple (.str op :: a :: b :: r)) = true
    · rw [if_pos c] at h1 h2
      by_cases c0 : (0 : Int) ∈ (a :: b :: r).map (lmeas 4)
      · rw [if_pos c0] at h1; omega
      · rw [if_neg c0] at h1 h2
        have z := lmeas_nonneg 4 x
        have x1 : 1 ≤ lmeas 4 x := by
          rcases Int.lt_or_eq_of_le z with z | z
          · omega
          · exact absurd (List.mem_map.mpr ⟨x, hx, z.symm⟩) c0
        have xs : lmeas 4 x ≤ ((a :: b :: r).map (lmeas 4)).sum := mem_le_sum (fun y hy => by
          obtain ⟨d', _, rfl⟩ := List.mem_map.mp hy
          exact lmeas_nonneg 4 d') (List.mem_map.mpr ⟨x, hx, rfl⟩)
        exact (tmB_iff x).mpr (by rw [lmeas_up 4 x x1]; omega)
    · rw [if_neg c] at h1; omega
def badD : PyData := .tuple [.none, .str "InvalidTerm"]
def outD (op : Str) (ds : List PyData) : PyData := if tmB (madeD op ds) = true then .tuple [madeD op ds, .str ""] else badD
def opOf (low : Bool) : Str := if low = true then "&" else "|"
def spMade (K : PySem.W.Frag) (CT : Addr) : Sp := fun vs H Q E => ∃ (pl : Addr) (xs : List V) (ds : List PyData) (low : Bool), vs = [.ref pl, .bl low] ∧ H pl = some (.lst xs) ∧ DpAll K H xs ds ∧ xs.length ≤ 4 ∧ (∀ d ∈ ds, gd 13 d = true) ∧
  (tmB (madeD (opOf low) ds) = true → ∀ H' v, Same H H' → Dp K H' v (madeD (opOf low) ds) → Q v H') ∧ (tmB (madeD (opOf low) ds) = false → errAt CT "InvalidTerm" H E)
def spDue (K : PySem.W.Frag) : Sp := fun vs H Q _ => ∃ (pl : Addr) (xs : List V) (ds : List PyData) (low : Bool), vs = [.ref pl, .bl low] ∧ H pl = some (.lst xs) ∧ DpAll K H xs ds ∧ xs.length ≤ 4 ∧ (∀ d ∈ ds, gd 13 d = true) ∧
  ∀ H' v, Same H H' → Dp K H' v (outD (opOf low) ds) → Q v H'
theorem eqv_nil (ds : List PyData) : PyData.eqv (.list ds) (.list []) = decide (ds = []) := by
  cases ds with
  | nil => rfl
  | cons d ds => simp [PyData.eqv, PyData.eqvAll]
/-- what _law_call makes of the lambda's reading -/
def TCall (K : PySem.W.Frag) (CF : Addr) : (XK → Hp → VK → Prop) → Hp → VK → Prop := fun tl H Q => ∀ (R : VK) (E : XK),
  (∀ v H', (∀ p, H' p = none → Q (.ref p) (upd H' p (.tup [v, .str ""]))) → R v H') →
  (∀ (C dd : Addr) (H' : Hp) (fs : List (Str × V)) (v : V), PySem.W.exmOne K (.ref C) (.ref CF) = some true → XfC K C → PySem.W.findIn K (.ref C) "code" = some none → H' dd = some (.xd fs) → fs.lookup ("code" : Str) = some v →
      (∀ p, H' p = none → Q (.ref p) (upd H' p (.tup [.non, v]))) → E (.ref C) (some dd) H') → tl E H R
end Fv


namespace Fv
open PySem PySem.Spec PyProof.Rows L2 FvX
/-! ### what stays when a lambda is made -/
theorem sq_ext {K : PySem.W.Frag} {H H' : Hp} {a : Addr} {xs : List V} (e : LamX.ExtN H H') (h : SqL K H a xs) : SqL K H' a xs := by
  rcases h with (h | ⟨o, h⟩) | h
  · exact .inl (.inl (e _ _ h fun ps z => by cases z))
  · exact .inl (.inr ⟨o, e _ _ h fun ps z => by cases z⟩)
  · exact .inr h
theorem sqT_ext {K : PySem.W.Frag} {H H' : Hp} {a : Addr} {xs : List V} (e : LamX.ExtN H H') (h : SqT K H a xs) : SqT K H' a xs := by
  rcases h with (h | ⟨o, h⟩) | h
  · exact .inl (.inl (e _ _ h fun ps z => by cases z))
  · exact .inl (.inr ⟨o, e _ _ h fun ps z => by cases z⟩)
  · exact .inr h
mutual
theorem dp_ext {K : PySem.W.Frag} {H H' : Hp} (e : LamX.ExtN H H') : ∀ (d : PyData) (v : V), Dp K H v d → Dp K H' v d
  | .none, _, h => by cases h; exact .non
  | .bool b, _, h => by cases h; exact .bl b
  | .int i, _, h => by cases h; exact .int i
  | .str x, _, h => by cases h; exact .str x
  | .list ds, _, h => by cases h with | lst hs ha => exact .lst (sq_ext e hs) (dpAll_ext e ds _ ha)
  | .tuple ds, _, h => by cases h with | tup hs ha => exact .tup (sqT_ext e hs) (dpAll_ext e ds _ ha)
  | .dict kvs, _, h => by cases h
theorem dpAll_ext {K : PySem.W.Frag} {H H' : Hp} (e : LamX.ExtN H H') : ∀ (ds : List PyData) (vs : List V), DpAll K H vs ds → DpAll K H' vs ds
  | [], _, h => by cases h; exact .nil
  | d :: ds, _, h => by cases h with | cons h1 h2 => exact .cons (dp_ext e d _ h1) (dpAll_ext e ds _ h2)
end
theorem ext_hide {M : List Addr} {H H' : Hp} (e : LamX.ExtN H H') : LamX.ExtN (hide M H) (hide M H') := fun b o z n => by
  obtain ⟨m, z⟩ := hide_some z
  rw [hide_ne m]
  exact e b o z n
theorem Src.ext {H H' : Hp} {a L : Addr} {ns : List Int} (h : Src H a L ns) (e : LamX.ExtN H H') : Src H' a L ns := by
  obtain ⟨i, p, st, c, h1, h2, h3⟩ := h
  exact ⟨i, p, st, c, e _ _ h1 (fun ps z => by cases z), e _ _ h2 (fun ps z => by cases z), h3⟩
theorem GV.ext {K : PySem.W.Frag} {n : Nat} {M : List Addr} {H H' : Hp} {v : V} (g : GV K n M H v) (e : LamX.ExtN H H') : GV K n M H' v := by
  obtain ⟨d, h1, h2⟩ := g
  exact ⟨d, dp_ext (ext_hide e) d v h1, h2⟩
theorem GV.smx {K : PySem.W.Frag} {n : Nat} {M : List Addr} {H H' : Hp} {v : V} (g : GV K n M H v) (s : SmX M H H') : GV K n M H' v := by
  obtain ⟨d, h1, h2⟩ := g
  exact ⟨d, dp_same s.hid d v h1, h2⟩
/-- tables stay where lists alone are changed -/
theorem tabs_smx {T : List (Addr × Str)} {M : List Addr} {H H' : Hp} (t : LamX.Tabs T H) (s : SmX M H H') (hM : ∀ b ∈ M, ∃ xs, H b = some (.lst xs)) : LamX.Tabs T H' := fun p hp => by
  obtain ⟨ps, h1, h2, h3⟩ := t p hp
  have nm : ∀ {b : Addr} {o : HO}, H b = some o → (∀ xs, o ≠ .lst xs) → b ∉ M := fun {b o} e n hb => by
    obtain ⟨xs, e'⟩ := hM b hb
    rw [e] at e'
    exact n xs (Option.some.inj e')
  refine ⟨ps, s _ _ (nm h1 fun xs z => by cases z) h1, h2, fun pos cv hc => ?_⟩
  obtain ⟨c, e1, e2⟩ := h3 pos cv hc
  exact ⟨c, e1, s _ _ (nm e2 fun xs z => by unfold LamX.CodeO at z; cases z) e2⟩
theorem tabs_same {T : List (Addr × Str)} {H H' : Hp} (t : LamX.Tabs T H) (s : Same H H') : LamX.Tabs T H' := t.ext s
theorem Src.lst {H : Hp} {a L : Addr} {ns : List Int} (h : Src H a L ns) : ∀ b ∈ [a], ∃ xs, H b = some (.lst xs) := fun b hb => by
  obtain ⟨_, _, _, _, e, _⟩ := h
  rw [List.mem_singleton.mp hb]
  exact ⟨_, e⟩
/-- the table of the law's own code -/
def TT0 (Pt : Addr) : List (Addr × Str) := [(Pt, ("law" : Str) ++ ".<locals>." ++ "<lambda>")]
section
variable {P : Program} {w : World} {K : PySem.W.Frag} {mg : Str → Option Value} {base : Heap}
/-- a def whose code object is told -/
theorem okC {x qual : Str} {st : Stmt} {f c : Addr} {oc : Value} {od an : Option Addr} {osl : Array (Option Value)} {kV doc pm ct : Value} {N ps : List Str} {k : Nat} {sp : Sp} (lk : K.lookup f = some ⟨oc, od, .func (PySem.W.fnOf x qual (defArgs st) (defBody st) (defScope st) .none kV doc pm an (.ref c) ct), osl⟩)
    (hcd : PySem.W.codeIn K (.ref c) qual = true) (S : FnScope N ps (defScope st)) (len : ∀ vs H Q E, sp vs H Q E → vs.length = ps.length)
    (hbody : ∀ (A : Around) (outer : List Env) (s : Shared) (H : Hp) (vs : List V) (Q : VK) (E : XK), Room k (A.deeper (envOfC qual (defScope st) s.heap.objs.size f (.ref c))) → sp vs H Q E →
      ∃ t, PSs (cxOf CX0 P w K mg base N qual (defScope st) f (.ref c) A outer s H E).nox (defBody st) t ∧ t { nx := fun _ H' => Q .non H', rt := Q } (start N vs) H) :
    FnOk P w K mg base CX0 (k + 1) f (PySem.W.fnOf x qual (defArgs st) (defBody st) (defScope st) .none kV doc pm an (.ref c) ct) ps sp :=
  fn_of lk hcd S len fun A outer s H vs Q E hr h => by
    obtain ⟨t, h1, h2⟩ := hbody A outer s H vs Q E hr h
    exact ⟨t, h1.nox, h2⟩
end
def spLawT (K : PySem.W.Frag) (Pt : Addr) : Sp := fun vs H Q _ => ∃ (a : Addr) (ns : List Int), vs = [.ref a] ∧ SqL K H a (ns.map V.int) ∧ ns.length ≤ 63 ∧ H Pt = some (.tbl #[]) ∧ ∀ H', Q (.bl true) H'
theorem outD_gd {op : Str} {ds : List PyData} (h : gd 20 (madeD op ds) = true) : gd 21 (outD op ds) = true := by
  unfold outD
  split
  · refine gd_tup (fun d hd => ?_) (Nat.le_of_ble_eq_true rfl)
    rcases List.mem_cons.mp hd with e | e
    · rw [e]; exact h
    · rw [List.mem_singleton.mp e]; exact gd_le (n := 0) (by decide +kernel) (Nat.zero_le _)
  · exact gd_le (n := 1) (by decide +kernel) (by decide)
end Fv


namespace Fv
open PySem PySem.Spec PyProof.Rows L2 FvX
/-! ### calls that never raise; calls by keywords of defs that may raise -/
theorem passE0 {P : Program} {w : World} {X : Cx} : Passes (L2.CX P w) X E0 := fun _ _ _ _ _ _ _ h => by
  obtain ⟨_, _, _, _, _, _, _, _, _, _, _, _, z⟩ := h
  exact z.elim
structure OwnKR (P : Program) (w : World) (K : PySem.W.Frag) (mg : Str → Option Value) (base : Heap) (k : Nat) (x : Str) (ps ks : List Str) (gV : List V → List V → List V) (sp : Sp) : Prop where
  ex : ∃ (f : Addr) (fd : FuncData) (g : List Value → List Value → List Value), mg x = some (.ref f) ∧ PySem.W.keepIn K (.ref f) = true ∧ KBn K fd ps 0 ks g gV ∧ FnOk P w K mg base (L2.CX P w) k f fd ps sp
theorem pe_ownKR0 {X : Cx} {k : Nat} {x : Str} {ps ks : List Str} {gV : List V → List V → List V} {sp : Sp} {E : XK} {tk : TA} {p pos : Pos} {kws : List Keyword} (C : OwnKR X.prog X.w X.K X.mg X.base k x ps ks gV sp) (hr : Room k X.A) (hg : Gl X x) (hx : Passes (L2.CX X.prog X.w) X E) (hkw : PK X kws tk)
    (hall : (backToKw pos (keywordEach kws X.env)).all (·.1.isSome) = true := by rfl) (hks : (backToKw pos (keywordEach kws X.env)).filterMap (·.1) = ks := by rfl)
    (hdb : (x == ("__debug__" : Str)) = false := by decide)
    (hpl : ((backTo pos (starEach [] X.env)).any (·.1) || (backToKw pos (keywordEach kws X.env)).any (·.1.isNone)) = false := by rfl) :
    PE X (.Call (.Name x p) [] kws pos) (tCallN 0 ks.length sp gV E tNil tk) := by
  obtain ⟨f, fd, g, h1, h2, h3, h4⟩ := C.ex
  refine ⟨fun pins s σ H Q I h => ?_⟩
  refine wpAny_Call_Name_kw (ld_glob I hg h1 ?_ hdb)
  refine PySem.W.callWith_KW0 (h₀ := X.base) I.ok.mod.kin h2 hall ?_ hpl
  refine thn (hkw.run pos pins s σ H _ I h) fun ws s2 ⟨zs, H2, I2, rz, l1, l2, q2⟩ => ⟨I2.kIn, ?_⟩
  rw [hks]
  exact run_fnN h4 hr h3 hx I2 .nil rz l1 l2 q2
/-! ### rules in the element of a comprehension: the written part is told -/
theorem op_in_seqK {X : Cx} {K : PySem.W.Frag} (hK : X.K = K) : OpR X (compareOp .In) (rIn K false) := by
  subst hK
  exact op_in_seq
theorem ix_listK {X : Cx} {K : PySem.W.Frag} (hK : X.K = K) : IxR X (rIxL K) := by
  subst hK
  exact ix_list
end Fv


namespace Fv
open PySem PySem.Spec PyProof.Rows L2 FvX FvW TL



def spLow (K : PySem.W.Frag) (g : List Nat → Nat → Nat → Nat) : Sp := fun vs H Q _ => ∃ (r : Addr) (ms : List Nat) (x y : Nat), vs = [.ref r, .int (x : Nat), .int (y : Nat)] ∧ SqL K H r ((rowsOf ms).map V.str) ∧ Fam ms ∧ x < ms.length ∧ y < ms.length ∧ ∀ H', Same H H' → Q (.int (g ms x y : Nat)) H'
def rowD (n : Nat) (g : Nat → Nat) : PyData := .list ((List.range n).map fun y => .int (g y : Nat))
def tabD (n : Nat) (g : Nat → Nat → Nat) : PyData := .list ((List.range n).map fun x => rowD n (g x))
def tabsD (ms : List Nat) : PyData := .tuple [tabD ms.length (lowI ms), tabD ms.length (upI ms)]
/-- what is new -/
def nw (H H' : Hp) : Hp := fun b => if H b = none then H' b else none
theorem nw_at {H H' : Hp} {b : Addr} (h : H b = none) : nw H H' b = H' b := by unfold nw; rw [if_pos h]
theorem nw_some {H H' : Hp} {b : Addr} {o : HO} (h : nw H H' b = some o) : H b = none ∧ H' b = some o := by
  unfold nw at h
  by_cases c : H b = none
  · rw [if_pos c] at h; exact ⟨c, h⟩
  · rw [if_neg c] at h; cases h
theorem nw_hide {H H' : Hp} {a L : Addr} {ns : List Int} (hs : Src H a L ns) : Same (nw H H') (hide [a] H') := fun b o h => by
  obtain ⟨n, e⟩ := nw_some h
  rw [hide_ne (fun z => hs.ne n (List.mem_singleton.mp z).symm)]
  exact e
theorem nw_same {H H' : Hp} : Same (nw H H') H' := fun b o h => (nw_some h).2
theorem dpAll_of {K : PySem.W.Frag} {H : Hp} : ∀ {vs : List V} {ds : List PyData}, vs.length = ds.length → (∀ (i : Nat) (v : V) (d : PyData), vs[i]? = some v → ds[i]? = some d → Dp K H v d) → DpAll K H vs ds
  | [], [], _, _ => .nil
  | [], _ :: _, h, _ => by simp at h
  | _ :: _, [], h, _ => by simp at h
  | v :: vs, d :: ds, h, f => .cons (f 0 v d rfl rfl) (dpAll_of (by simpa using h) fun i v d h1 h2 => f (i + 1) v d (by simpa using h1) (by simpa using h2))
theorem dp_nats {K : PySem.W.Frag} {H : Hp} : ∀ l : List Nat, DpAll K H (natsV l) (l.map fun y => .int (y : Nat))
  | [] => .nil
  | y :: l => .cons (.int _) (dp_nats l)
structure Rws (H0 H : Hp) (D : Addr) (n : Nat) (g : Nat → Nat → Nat) (as : List Addr) : Prop where
  at_ : H D = some (.lst (as.map V.ref))
  rw_ : ∀ (i : Nat) (a : Addr), as[i]? = some a → a ≠ D ∧ H0 a = none ∧ H a = some (.lst (natsV ((List.range n).map (g i))))
theorem Rws.same {H0 H H' : Hp} {D : Addr} {n : Nat} {g : Nat → Nat → Nat} {as : List Addr} (h : Rws H0 H D n g as) (s : Same H H') : Rws H0 H' D n g as :=
  ⟨s _ _ h.at_, fun i a e => ⟨(h.rw_ i a e).1, (h.rw_ i a e).2.1, s _ _ (h.rw_ i a e).2.2⟩⟩
theorem Rws.put {H0 H : Hp} {D D2 : Addr} {n : Nat} {g : Nat → Nat → Nat} {as : List Addr} (h : Rws H0 H D n g as) (e : H D2 = some (.lst (natsV ((List.range n).map (g as.length))))) (ne : D2 ≠ D) (n0 : H0 D2 = none) : Rws H0 (upd H D (.lst (as.map V.ref ++ [.ref D2]))) D n g (as ++ [D2]) := by
  refine ⟨by rw [upd_same, List.map_append]; rfl, fun i a ha => ?_⟩
  rcases Nat.lt_or_ge i as.length with lt | ge
  · rw [List.getElem?_append_left lt] at ha
    obtain ⟨h1, h2, h3⟩ := h.rw_ i a ha
    exact ⟨h1, h2, by rw [upd_ne h1]; exact h3⟩
  · rw [List.getElem?_append_right ge] at ha
    have hi : i - as.length = 0 := by
      have := (List.getElem?_eq_some_iff.mp ha).1
      simp at this; omega
    rw [hi] at ha
    have ea : D2 = a := by simpa using ha
    subst ea
    refine ⟨ne, n0, ?_⟩
    rw [upd_ne ne, e, show i = as.length by omega]
theorem Rws.dp {K : PySem.W.Frag} {H0 H : Hp} {D : Addr} {n : Nat} {g : Nat → Nat → Nat} {as : List Addr} (h : Rws H0 H D n g as) (nD : H0 D = none) (la : as.length = n) : Dp K (nw H0 H) (.ref D) (tabD n g) := by
  refine .lst (SqL.of (by rw [nw_at nD]; exact h.at_)) (dpAll_of (by simp [la]) fun i v d hv hd => ?_)
  rw [List.getElem?_map] at hv hd
  cases ea : as[i]? with
  | none => rw [ea] at hv; cases hv
  | some a =>
    rw [ea] at hv
    have ev : V.ref a = v := by simpa using hv
    have li : i < n := by rw [← la]; exact (List.getElem?_eq_some_iff.mp ea).1
    rw [List.getElem?_range li] at hd
    have ed : rowD n (g i) = d := by simpa using hd
    rw [← ev, ← ed]
    obtain ⟨_, h2, h3⟩ := h.rw_ i a ea
    have z := dp_nats (K := K) (H := nw H0 H) ((List.range n).map (g i))
    rw [List.map_map] at z
    exact .lst (SqL.of (by rw [nw_at h2]; exact h3)) z
theorem rgV_nats (n : Nat) : rgV 0 ((n : Nat) : Int) = natsV (List.range n) := by
  unfold rgV natsV
  rw [show (((n : Nat) : Int) - 0).toNat = n by omega]
  refine List.map_congr_left fun x _ => ?_
  show V.int (0 + (x : Int)) = V.int (x : Int)
  rw [Int.zero_add]
def spTables (K : PySem.W.Frag) : Sp := fun vs H Q _ => ∃ (r : Addr) (ms : List Nat), vs = [.ref r] ∧ SqL K H r ((rowsOf ms).map V.str) ∧ Fam ms ∧ ∀ (H' : Hp) (p : Addr), Same H H' → H p = none → Dp K (nw H H') (.ref p) (tabsD ms) → Q (.ref p) H'
theorem rows_len (ms : List Nat) : ((rowsOf ms).map V.str).length = ms.length := by unfold rowsOf; rw [List.length_map, List.length_map]
/-- one sign of a row -/
theorem row_ix {ms : List Nat} {x y : Nat} (hx : x < ms.length) (hy : y < ms.length) (l : ms.length ≤ 16) : atI ((rowsOf ms).map V.str) ((x : Nat) : Int) = some (.str (mk (rowC ms (msAt ms x)))) ∧ (mk (rowC ms (msAt ms x))).length ≤ sizeLine ∧ atI (mk (rowC ms (msAt ms x))).cps.toList ((y : Nat) : Int) = some (if leI ms x y = true then 49 else 48) := by
  refine ⟨atI_nat (rows_at hx), ?_, ?_⟩
  · rw [mk_len]; unfold rowC; rw [List.length_map]; exact le1000 (by omega)
  · exact atI_nat (xs := rowC ms (msAt ms x)) (rowC_at hy)
theorem filt_add {p : Nat → Bool} {l : List Nat} {j z : Nat} (h : l[j]? = some z) : (l.take (j + 1)).filter p = (l.take j).filter p ++ (if p z = true then [z] else []) := by
  rw [List.take_add_one, h, List.filter_append]
  cases e : p z <;> simp [e]
section
variable {P : Program} {w : World} {K : PySem.W.Frag} {mg : Str → Option Value} {base : Heap}
end
end Fv


namespace Fv
open PySem PySem.Spec PyProof.Rows L2 FvX
/-! ### rules in the element of a comprehension -/
theorem pe_isDc {X : Cx} {K : PySem.W.Frag} {e : Expr} {te : TE} {T : String} {y : Str} {p p2 pos : Pos} (hK : X.K = K) (hg : Gl X "isinstance") (hm : X.mg "isinstance" = none) (hg2 : Gl X y) (hm2 : X.mg y = none) (ha : PE X e te)
    (hv : bootBuiltins y = some (.type T) := by decide +kernel) (hn : y ≠ "__name__" := by decide) (hd2 : (y == ("__debug__" : Str)) = false := by decide)
    (he : starEach (e :: [.Name y p2]) X.env = (false, eval e X.env) :: starEach [.Name y p2] X.env := by rfl) (hpl : (backTo pos (starEach [.Name y p2] X.env)).any (·.1) = false := by rfl) :
    PE X (.Call (.Name "isinstance" p) [e, .Name y p2] [] pos) (tCB (rIsD K) (tCons te (tCons (tC (.ty T)) tNil))) := by
  subst hK
  exact pe_isD hg hm hg2 hm2 ha hv hn hd2 he hpl
theorem call_len_seqK {X : Cx} {K : PySem.W.Frag} (hK : X.K = K) : CallR X (.builtin "len") (fun xs H Q => ∃ p ys, xs = [.ref p] ∧ (SqL K H p ys ∨ SqT K H p ys) ∧ Q (.int ys.length) H) := by
  subst hK
  exact call_len_seq
theorem call_lenTK {X : Cx} {K : PySem.W.Frag} (hK : X.K = K) : CallR X (.builtin "len") (fun xs H Q => ∃ x n, xs = [x] ∧ LenV K x H n ∧ Q (.int (n : Nat)) H) := by
  subst hK
  exact call_len
end Fv


namespace Fv
open PySem PySem.Spec PyProof.Rows L2
/-- x in a list of data -/
def rInL (K : PySem.W.Frag) : R2 := fun x y H Q => ∃ d ds, Dp K H x d ∧ Dp K H y (.list ds) ∧ SeqAt.shaped d = true ∧ SeqAt.shaped (.list ds) = true ∧ Q (.bl (ds.any fun z => PyData.eqv z d)) H
theorem op_inL {X : Cx} (hu : X.A.units + 65 < cLine) : OpR X (compareOp .In) (rInL X.K) := by
  intro pins s σ H x y v u Q I rx ry h
  obtain ⟨d, ds, hd, he, sd, se, q⟩ := h
  obtain ⟨as, r1⟩ := Dp.reads I d x v hd rx
  obtain ⟨bs, r2⟩ := Dp.reads I (.list ds) y u he ry
  exact SeqAt.in_list_reads r2 r1 (SeqAt.canLay_of_shaped se) (SeqAt.canLay_of_shaped sd) (room_shaped sd hu) ⟨.bl _, H, I, rfl, q⟩
end Fv


namespace Fv
open PySem PySem.Spec PyProof.Rows L2 FvX FvW
/-! ### comprehensions that make truth values, or leave some out -/
theorem lc_bools {K : PySem.W.Frag} {a : Addr} {xs : List V} {bs : List Bool} {g : TG} {te : TE} {vs : List Nat} {σ : L2.St} {H1 : Hp} {D : Addr} {Qd : Hp → Prop} (hl : SqL K H1 a xs) (hn : H1 D = none) (lx : xs.length = bs.length) (lb : bs.length ≤ 900)
    (hs : ∀ (i : Nat) (x : V) (b : Bool) (H' : Hp), xs[i]? = some x → bs[i]? = some b → Same H1 H' → ∀ (N : V → Hp → Prop) (M : Hp → Prop), (∀ H'', Same H' H'' → N (.bl b) H'') → g x (wipe σ vs) H' fun σ2 H2 => wipe σ2 vs = wipe σ vs ∧ tYes σ2 H2 fun b H3 => if b = true then te σ2 H3 N else M H3)
    (hd : ∀ H', Same H1 H' → H' D = some (.lst (bs.map V.bl)) → Qd H') :
    ∃ W : Nat → Nat → Hp → Prop, (∃ m, W 0 m (upd H1 D (.lst []))) ∧ ∀ i m H, W i m H →
      ((Itl K a).stop i H ∧ Qd H) ∨ ((Itl K a).go i H ∧ ∃ Nx : Hp → Prop, (∀ H', Nx H' → ∃ m', m' < m ∧ W (i + 1) m' H') ∧ ∀ x H', (Itl K a).yld i H x H' → g x (wipe σ vs) H' fun σ2 H2 => wipe σ2 vs = wipe σ vs ∧ tYes σ2 H2 fun b H3 =>
        if b = true then te σ2 H3 fun y H4 => ∃ acc, H4 D = some (.lst acc) ∧ acc.length < sizeLine ∧ Nx (upd H4 D (.lst (acc ++ [y]))) else Nx H3) := by
  refine lc_list (xs := xs) (fun i H' => Same H1 H' ∧ H' D = some (.lst ((bs.take i).map V.bl))) ⟨same_upd hn, upd_same⟩ (fun i H' _ p => p.1.seq hl) (fun i x H' hx p => ?_) (fun H' p => ?_)
  · obtain ⟨sm, e⟩ := p
    have il := (List.getElem?_eq_some_iff.mp hx).1
    obtain ⟨b, hb⟩ : ∃ b, bs[i]? = some b := ⟨_, List.getElem?_eq_getElem (by omega)⟩
    refine hs i x b H' hx hb sm _ _ fun H4 s4 => ⟨_, s4 _ _ e, small1000 (by rw [List.length_map, List.length_take]; omega), fun c o ec => ?_, ?_⟩
    · rw [upd_ne (ne_of_none ec hn)]
      exact s4 _ _ (sm _ _ ec)
    · rw [upd_same, List.take_add_one, hb, List.map_append]
      rfl
  · obtain ⟨sm, e⟩ := p
    rw [lx, List.take_length] at e
    exact hd H' sm e
/-- with a test, all that are made are true -/
theorem lc_trues {K : PySem.W.Frag} {a : Addr} {xs : List V} {g : TG} {tt : TT} {te : TE} {vs : List Nat} {σ : L2.St} {H1 : Hp} {D : Addr} {Qd : Hp → Prop} (hl : SqL K H1 a xs) (hn : H1 D = none) (lb : xs.length ≤ 900)
    (hs : ∀ (i : Nat) (x : V) (H' : Hp), xs[i]? = some x → Same H1 H' → ∀ (N : V → Hp → Prop) (M : Hp → Prop), (∀ H'', Same H' H'' → N (.bl true) H'') → (∀ H'', Same H' H'' → M H'') → g x (wipe σ vs) H' fun σ2 H2 => wipe σ2 vs = wipe σ vs ∧ tt σ2 H2 fun b H3 => if b = true then te σ2 H3 N else M H3)
    (hd : ∀ H' n, Same H1 H' → H' D = some (.lst ((List.replicate n true).map V.bl)) → Qd H') :
    ∃ W : Nat → Nat → Hp → Prop, (∃ m, W 0 m (upd H1 D (.lst []))) ∧ ∀ i m H, W i m H →
      ((Itl K a).stop i H ∧ Qd H) ∨ ((Itl K a).go i H ∧ ∃ Nx : Hp → Prop, (∀ H', Nx H' → ∃ m', m' < m ∧ W (i + 1) m' H') ∧ ∀ x H', (Itl K a).yld i H x H' → g x (wipe σ vs) H' fun σ2 H2 => wipe σ2 vs = wipe σ vs ∧ tt σ2 H2 fun b H3 =>
        if b = true then te σ2 H3 fun y H4 => ∃ acc, H4 D = some (.lst acc) ∧ acc.length < sizeLine ∧ Nx (upd H4 D (.lst (acc ++ [y]))) else Nx H3) := by
  refine lc_list (xs := xs) (fun i H' => Same H1 H' ∧ ∃ n, n ≤ i ∧ H' D = some (.lst ((List.replicate n true).map V.bl))) ⟨same_upd hn, 0, Nat.le_refl _, upd_same⟩ (fun i H' _ p => p.1.seq hl) (fun i x H' hx p => ?_) (fun H' p => ?_)
  · obtain ⟨sm, n, ni, e⟩ := p
    have il := (List.getElem?_eq_some_iff.mp hx).1
    refine hs i x H' hx sm _ _ (fun H4 s4 => ⟨_, s4 _ _ e, small1000 (by rw [List.length_map, List.length_replicate]; omega), fun c o ec => ?_, n + 1, by omega, ?_⟩) fun H4 s4 => ⟨sm.trans s4, n, by omega, s4 _ _ e⟩
    · rw [upd_ne (ne_of_none ec hn)]
      exact s4 _ _ (sm _ _ ec)
    · rw [upd_same, List.replicate_succ', List.map_append]
      rfl
  · obtain ⟨sm, n, ni, e⟩ := p
    exact hd H' n sm e
/-- some of a list's data -/
theorem lc_filt {K : PySem.W.Frag} {a : Addr} {xs : List V} {ds : List PyData} {f : PyData → Bool} {g : TG} {tt : TT} {te : TE} {vs : List Nat} {σ : L2.St} {H1 : Hp} {D : Addr} {Qd : Hp → Prop} (hl : SqL K H1 a xs) (hn : H1 D = none) (hD : DpAll K H1 xs ds) (lb : ds.length ≤ 900)
    (hs : ∀ (i : Nat) (x : V) (d : PyData) (H' : Hp), xs[i]? = some x → ds[i]? = some d → Same H1 H' → ∀ (N : V → Hp → Prop) (M : Hp → Prop), (f d = true → ∀ H'', Same H' H'' → N x H'') → (f d = false → ∀ H'', Same H' H'' → M H'') → g x (wipe σ vs) H' fun σ2 H2 => wipe σ2 vs = wipe σ vs ∧ tt σ2 H2 fun b H3 => if b = true then te σ2 H3 N else M H3)
    (hd : ∀ H' ys, Same H1 H' → H' D = some (.lst ys) → DpAll K H1 ys (ds.filter f) → Qd H') :
    ∃ W : Nat → Nat → Hp → Prop, (∃ m, W 0 m (upd H1 D (.lst []))) ∧ ∀ i m H, W i m H →
      ((Itl K a).stop i H ∧ Qd H) ∨ ((Itl K a).go i H ∧ ∃ Nx : Hp → Prop, (∀ H', Nx H' → ∃ m', m' < m ∧ W (i + 1) m' H') ∧ ∀ x H', (Itl K a).yld i H x H' → g x (wipe σ vs) H' fun σ2 H2 => wipe σ2 vs = wipe σ vs ∧ tt σ2 H2 fun b H3 =>
        if b = true then te σ2 H3 fun y H4 => ∃ acc, H4 D = some (.lst acc) ∧ acc.length < sizeLine ∧ Nx (upd H4 D (.lst (acc ++ [y]))) else Nx H3) := by
  have lx := dpAll_len hD
  refine lc_list (xs := xs) (fun i H' => Same H1 H' ∧ ∃ ys, H' D = some (.lst ys) ∧ DpAll K H1 ys ((ds.take i).filter f)) ⟨same_upd hn, [], upd_same, .nil⟩ (fun i H' _ p => p.1.seq hl) (fun i x H' hx p => ?_) (fun H' p => ?_)
  · obtain ⟨sm, ys, e, hy⟩ := p
    obtain ⟨d, hd', hDx⟩ := dpAll_get hD hx
    have ly := dpAll_len hy
    have lf := List.length_filter_le f (ds.take i)
    rw [List.length_take] at lf
    refine hs i x d H' hx hd' sm _ _ (fun ft H4 s4 => ⟨_, s4 _ _ e, small1000 (by omega), fun c o ec => ?_, ys ++ [x], upd_same, ?_⟩) fun ff H4 s4 => ⟨sm.trans s4, ys, s4 _ _ e, ?_⟩
    · rw [upd_ne (ne_of_none ec hn)]
      exact s4 _ _ (sm _ _ ec)
    · rw [List.take_add_one, hd', List.filter_append]
      refine dpAll_app hy ?_
      rw [show (some d).toList = [d] from rfl, List.filter_cons, if_pos ft]
      exact .cons hDx .nil
    · rw [List.take_add_one, hd', List.filter_append, show (some d).toList = [d] from rfl, List.filter_cons, ff]
      simpa using hy
  · obtain ⟨sm, ys, e, hy⟩ := p
    rw [lx, List.take_length] at hy
    exact hd H' ys sm e hy
theorem all_map_true {α : Type} {l : List α} {f : α → Bool} (h : ∀ x ∈ l, f x = true) : ((l.map f).all id) = true := by
  rw [List.all_map]
  exact List.all_eq_true.mpr h
theorem rep_all (n : Nat) : ((List.replicate n true).all id) = true := List.all_eq_true.mpr fun x hx => List.eq_of_mem_replicate hx
theorem op_inLK {X : Cx} {K : PySem.W.Frag} (hK : X.K = K) (hu : X.A.units + 65 < cLine) : OpR X (compareOp .In) (rInL K) := by
  subst hK
  exact op_inL hu
end Fv


namespace FvK
open PySem PySem.Spec PyProof.Rows L2 Fv FvX FvW
/-! ### dicts made over a range -/
theorem dc_rangeK {lo : Int} {n : Nat} {g : TG} {tt : TT} {tk tv : TE} {vs : List Nat} {σ : L2.St} {H1 : Hp} {D : Addr} {Qd : Hp → Prop} (Pv : Nat → Hp → Prop) (h0 : Pv 0 (upd H1 D (.dK [])))
    (hs : ∀ i H, i < n → Pv i H → g (.int (lo + (i : Nat))) (wipe σ vs) H fun σ2 H2 => wipe σ2 vs = wipe σ vs ∧ tt σ2 H2 fun b H3 => if b = true then tk σ2 H3 (fun y H4 => tv σ2 H4 fun z H5 => ∃ kvs k, y = kV k ∧ H5 D = some (.dK kvs) ∧ kvs.length < sizeLine ∧ Pv (i + 1) (upd H5 D (.dK (putK kvs k z)))) else Pv (i + 1) H3) (hd : ∀ H, Pv n H → Qd H) :
    ∃ W : Nat → Nat → Hp → Prop, (∃ m, W 0 m (upd H1 D (.dK []))) ∧ ∀ i m H, W i m H → ((Itr lo n).stop i H ∧ Qd H) ∨ ((Itr lo n).go i H ∧ ∃ N : Hp → Prop, (∀ H', N H' → ∃ m', m' < m ∧ W (i + 1) m' H') ∧
      ∀ x H', (Itr lo n).yld i H x H' → g x (wipe σ vs) H' fun σ2 H2 => wipe σ2 vs = wipe σ vs ∧ tt σ2 H2 fun b H3 => if b = true then tk σ2 H3 (fun y H4 => tv σ2 H4 fun z H5 => ∃ kvs k, y = kV k ∧ H5 D = some (.dK kvs) ∧ kvs.length < sizeLine ∧ N (upd H5 D (.dK (putK kvs k z)))) else N H3) := by
  refine ⟨fun i m H => m = n - i ∧ i ≤ n ∧ Pv i H, ⟨n - 0, rfl, Nat.zero_le _, h0⟩, fun i m H z => ?_⟩
  obtain ⟨em, hi, p⟩ := z
  rcases Nat.lt_or_ge i n with lt | ge
  · refine .inr ⟨lt, Pv (i + 1), fun H' p' => ⟨n - (i + 1), by omega, rfl, lt, p'⟩, fun x H' y => ?_⟩
    obtain ⟨rfl, rfl⟩ := y
    exact hs i _ lt p
  · have e : n = i := Nat.le_antisymm ge hi
    subst e
    exact .inl ⟨Nat.le_refl _, hd H p⟩
theorem putK_lenK (c : List (Key × V)) (k : Key) (x : V) : (putK c k x).length ≤ c.length + 1 := by
  unfold putK
  split
  · rw [List.length_map]; omega
  · rw [List.length_append]; exact Nat.le_refl _
theorem pe_fldK {X : Cx} {K : PySem.W.Frag} {e : Expr} {ta : TE} {f : Str} {pos : Pos} (hK : X.K = K) (he : PE X e ta) (hb : attributeBase e f X.env (eval e X.env) = eval e X.env) : PE X (.Attribute e f pos) (tFld K ta f) := by
  subst hK
  exact pe_fld he hb
end FvK



namespace FvO
open PySem PySem.Spec PyProof.Rows L2 Fv FvW
-- top 22  slots: 0:rows 1:most 2:row
abbrev s_are_square : Stmt := topS 22
abbrev N_are_square : List Str := ["rows", "most", "row"]
theorem sc_are_square : FnScope N_are_square ["rows", "most"] (defScope s_are_square) := ⟨rfl, rfl, rfl, by decide +kernel, rfl, by decide +kernel, by decide +kernel⟩

-- top 23  slots: 0:rows 1:row 2:at
abbrev s_columns_of : Stmt := topS 23
abbrev N_columns_of : List Str := ["rows", "row", "at"]
theorem sc_columns_of : FnScope N_columns_of ["rows"] (defScope s_columns_of) := ⟨rfl, rfl, rfl, by decide +kernel, rfl, by decide +kernel, by decide +kernel⟩

-- top 24  slots: 0:rows 1:row
abbrev s_masks_of : Stmt := topS 24
abbrev N_masks_of : List Str := ["rows", "row"]
theorem sc_masks_of : FnScope N_masks_of ["rows"] (defScope s_masks_of) := ⟨rfl, rfl, rfl, by decide +kernel, rfl, by decide +kernel, by decide +kernel⟩

-- top 25  slots: 0:masks 1:places 2:at 3:other 4:one
abbrev s_bound_table : Stmt := topS 25
abbrev N_bound_table : List Str := ["masks", "places", "at", "other", "one"]
theorem sc_bound_table : FnScope N_bound_table ["masks"] (defScope s_bound_table) := ⟨rfl, rfl, rfl, by decide +kernel, rfl, by decide +kernel, by decide +kernel⟩

theorem hu_of {A : Around} {k : Nat} (hr : Room k A) : A.units + 1 < cLine := by have := hu65 hr; omega
/-! ### what a board's rows become -/
def spSqR (K : PySem.W.Frag) : Sp := fun vs H Q _ => ∃ (r : Addr) (n : Nat) (b : Nat → Nat → Bool), vs = [.ref r, .int 60] ∧ SqL K H r ((rowsF n b).map V.str) ∧ 1 ≤ n ∧ n ≤ 60 ∧ ∀ H', Same H H' → Q (.bl true) H'
def spCol (K : PySem.W.Frag) : Sp := fun vs H Q _ => ∃ (r : Addr) (n : Nat) (b : Nat → Nat → Bool), vs = [.ref r] ∧ SqL K H r ((rowsF n b).map V.str) ∧ n ≤ 60 ∧ ∀ (H' : Hp) (p : Addr), Same H H' → H p = none → H' p = some (.lst ((rowsF n fun x y => b y x).map V.str)) → Q (.ref p) H'
def spMsk (K : PySem.W.Frag) : Sp := fun vs H Q _ => ∃ (r : Addr) (n : Nat) (b : Nat → Nat → Bool), vs = [.ref r] ∧ SqL K H r ((rowsF n b).map V.str) ∧ 1 ≤ n ∧ n ≤ 60 ∧ ∀ (H' : Hp) (p : Addr), Same H H' → H p = none → H' p = some (.lst (natsV ((List.range n).map fun x => maskF n (b x)))) → Q (.ref p) H'
def spBT (K : PySem.W.Frag) : Sp := fun vs H Q _ => ∃ (r : Addr) (n : Nat) (m : Nat → Nat) (g : Nat → Nat → Nat), vs = [.ref r] ∧ SqL K H r (natsV ((List.range n).map m)) ∧ n ≤ 60 ∧ (∀ x y, x < n → y < n → m x = m y → x = y) ∧ (∀ x y, x < n → y < n → g x y < n ∧ m x &&& m y = m (g x y)) ∧
  ∀ (H' : Hp) (p : Addr), Same H H' → H p = none → Dp K (nw H H') (.ref p) (tabD n g) → Q (.ref p) H'
theorem rows_get {n : Nat} {b : Nat → Nat → Bool} {i : Nat} {x : V} (h : ((rowsF n b).map V.str)[i]? = some x) : i < n ∧ x = .str (rowF n (b i)) := by
  rw [List.getElem?_map] at h
  obtain ⟨s, hs, rfl⟩ := Option.map_eq_some_iff.mp h
  unfold rowsF at hs
  rw [List.getElem?_map] at hs
  obtain ⟨j, hj, rfl⟩ := Option.map_eq_some_iff.mp hs
  have l := (List.getElem?_eq_some_iff.mp hj).1
  rw [List.length_range] at l
  rw [List.getElem?_range l] at hj
  cases hj
  exact ⟨l, rfl⟩
theorem rows_lenF (n : Nat) (b : Nat → Nat → Bool) : ((rowsF n b).map V.str).length = n := by unfold rowsF; rw [List.length_map, List.length_map, List.length_range]
theorem rowF_size {n : Nat} (f : Nat → Bool) (h : n ≤ 60) : (rowF n f).length ≤ sizeLine := by rw [rowF_len, sizeLine_eq]; omega
section
variable {P : Program} {w : World} {K : PySem.W.Frag} {mg : Str → Option Value} {base : Heap}
theorem ok_square {f : Addr} {fd : FuncData} {k : Nat} (F : Fun K "are_square" "are_square" s_are_square f fd) (m_len : mg "len" = none) (m_all : mg "all" = none) (m_isinstance : mg "isinstance" = none) (m_str : mg "str" = none) :
    FnOk P w K mg base CX0 (k + 1) f fd ["rows", "most"] (spSqR K) := by
  refine F.ok sc_are_square (fun vs H Q E h => ?_) (fun cdv A outer s H vs Q E hr h => ?_)
  · obtain ⟨r, n, b, rfl, _⟩ := h
    rfl
  · obtain ⟨r, n, b, rfl, hr0, n1, n60, good⟩ := h
    refine ⟨_, (pss_cons (ps_if (PW.pt (pw_or (pt_cmpR op_lt (pe_callB call_len_seq (by rfl) m_len (by decide +kernel) (pa_cons (pv 0) pa_nil)) pe_int (nomark _)) (pw_or1 (pt_cmpR op_gt (pe_callB call_len_seq (by rfl) m_len (by decide +kernel) (pa_cons (pv 0) pa_nil)) (pv 1) (nomark _)))))
        (pss_one (ps_ret pe_bl))
        pss_nil)
      (pss_one (ps_ret (pe_callB (cr_allK (K := K) rfl rfl) (by rfl) m_all (by decide +kernel) (pa_cons (pe_lc (own := [("row", 2)]) (g := gName 2) (by rfl) sc_are_square.nd (pi_list (pv 0)) (blkOk_by (own := [("row", 2)]) (N := N_are_square) (sc := defScope s_are_square) (by decide +kernel)) (fun _ _ _ _ _ => pg_name (i := 2) sc_are_square.nd rfl (Or.inl rfl)) (fun _ _ _ _ _ => pts_nil) (fun _ _ _ _ _ => (pe_and (pe_isDc (K := K) (T := "str") rfl (by rfl) m_isinstance (by rfl) m_str (pv 2)) (pe_and (pe_cmpR op_eq (pe_callB (call_lenTK (K := K) rfl) (by rfl) m_len (by decide +kernel) (pa_cons (pv 2) pa_nil)) (pe_callB (call_len_seqK (K := K) rfl) (by rfl) m_len (by decide +kernel) (pa_cons (pv 0) pa_nil)) (nomark _)) (pe_one (pe_cmpR op_eq (pe_m1 PySem.F.slot_str_strip PySem.F.type_str_strip mt_stripChars (pv 2) pe_str) pe_str (nomark _))))))) pa_nil))))), ?_⟩
    have lr := rows_lenF n b
    refine ⟨_, rfl, r, _, rfl, .inl hr0, _, _, rfl, rfl, _, rfl, ?_⟩
    rw [lr, show decide (((n : Nat) : Int) < 1) = false from decide_eq_false (by omega)]
    refine iteF ⟨_, rfl, r, _, rfl, .inl hr0, _, rfl, _, _, rfl, rfl, _, rfl, ?_⟩
    rw [lr, show decide (((n : Nat) : Int) > 60) = false from decide_eq_false (by omega)]
    refine iteF ⟨_, rfl, r, rfl, ⟨_, hr0⟩, fun D nD => lc_bools (xs := (rowsF n b).map V.str) (bs := (List.range n).map fun _ => true) hr0 nD (by rw [lr, List.length_map, List.length_range]) (by rw [List.length_map, List.length_range]; omega) (fun i x c H' hx hc sm N M qN => ?_) (fun H' sm hD => ?_)⟩
    · obtain ⟨il, rfl⟩ := rows_get hx
      rw [List.getElem?_map, List.getElem?_range il] at hc
      cases hc
      refine ⟨rfl, yes_it ⟨_, rfl, _, _, .str (rowF n (b i)), rfl, by decide, .str _, _, rfl, iteT ⟨_, rfl, _, _, rfl, ⟨rowF_size _ n60, rfl⟩, _, rfl, r, _, rfl, .inl (sm.seq hr0), rfl, _, rfl, ?_⟩⟩⟩
      rw [show decide (V.int (((rowF n (b i)).length : Nat) : Int) = V.int ((((rowsF n b).map V.str).length : Nat) : Int)) = true from decide_eq_true (by rw [rowF_len, lr])]
      refine iteT ⟨_, rfl, ⟨_, rfl⟩, _, _, rfl, rfl, rowF_size _ n60, rfl, ?_⟩
      rw [strip_bin (rowF_bin n (b i))]
      exact qN _ (Same.refl _)
    · refine ⟨D, _, rfl, SqL.of hD, ?_⟩
      rw [all_map_true fun x _ => rfl]
      exact good _ sm
theorem ok_columns {f : Addr} {fd : FuncData} {k : Nat} (F : Fun K "columns_of" "columns_of" s_columns_of f fd) (m_len : mg "len" = none) (m_range : mg "range" = none) :
    FnOk P w K mg base CX0 (k + 1) f fd ["rows"] (spCol K) := by
  refine F.ok sc_columns_of (fun vs H Q E h => ?_) (fun cdv A outer s H vs Q E hr h => ?_)
  · obtain ⟨r, n, b, rfl, _⟩ := h
    rfl
  · obtain ⟨r, n, b, rfl, hr0, n60, good⟩ := h
    refine ⟨_, (pss_one (ps_ret (pe_lc (own := [("at", 2)]) (g := gName 2) (by rfl) sc_columns_of.nd (pi_range1 (by rfl) m_range (pa_cons (pe_callB call_len_seq (by rfl) m_len (by decide +kernel) (pa_cons (pv 0) pa_nil)) pa_nil)) (blkOk_by (own := [("at", 2)]) (N := N_columns_of) (sc := defScope s_columns_of) (by decide +kernel)) (fun _ _ _ _ _ => pg_name (i := 2) sc_columns_of.nd rfl (Or.inr rfl)) (fun _ _ _ _ _ => pts_nil) (fun _ _ _ _ _ => (pe_joinK (K := K) rfl pe_str (pe_lc (own := [("row", 1)]) (g := gName 1) (by rfl) sc_columns_of.nd (pi_listK (K := K) rfl (pv 0)) (blkOk_by (own := [("row", 1)]) (N := N_columns_of) (by exact rfl)) (fun _ _ _ _ _ => pg_name (i := 1) sc_columns_of.nd rfl (Or.inl rfl)) (fun _ _ _ _ _ => pts_nil) (fun _ _ _ _ _ => (pe_ix ix_str (pv 1) (pv 2) (fun _ _ => rfl))))))))), ?_⟩
    have lr := rows_lenF n b
    refine ⟨_, rfl, r, _, rfl, .inl hr0, _, rfl, by omega, by omega, fun D nD => lc_range (lo := 0) (n := ((((rowsF n b).map V.str).length : Nat) : Int).toNat) (fun j H' => Same H H' ∧ H' D = some (.lst ((List.range j).map fun y => V.str (rowF n fun x => b x y)))) ?_ ?_ ?_⟩
    · exact ⟨same_upd nD, upd_same⟩
    · rintro j H' hj ⟨sm, hD⟩
      have ej : (0 : Int) + (j : Nat) = ((j : Nat) : Int) := by omega
      rw [ej]
      rw [Int.toNat_natCast, lr] at hj
      refine ⟨rfl, yes_it ⟨⟨_, rfl⟩, _, rfl, r, rfl, ⟨_, sm.seq hr0⟩, fun D2 nD2 => lc_list (xs := (rowsF n b).map V.str) (fun i H2 => Same H' H2 ∧ H2 D2 = some (.lst ((((List.range i).map fun x => chB (b x j)).map fun c => (⟨#[c]⟩ : Str)).map V.str))) ?_ ?_ ?_ ?_⟩⟩
      · exact ⟨same_upd nD2, upd_same⟩
      · rintro i H2 _ ⟨s2, _⟩
        exact s2.seq (sm.seq hr0)
      · rintro i x H2 hx ⟨s2, hD2⟩
        obtain ⟨il, rfl⟩ := rows_get hx
        refine ⟨rfl, yes_it ⟨_, rfl, _, rfl, _, _, chB (b i j), rfl, rfl, rowF_size _ n60, ?_, _, hD2, small1000 (by rw [List.length_map, List.length_map, List.length_map, List.length_range]; omega), fun c o e => ?_, ?_⟩⟩
        · rw [rowF_cps]
          exact atI_nat (by rw [List.getElem?_map, List.getElem?_range hj]; rfl)
        · rw [upd_ne (ne_of_none e nD2)]; exact s2 _ _ e
        · rw [upd_same, List.range_succ]
          simp
      · rintro H2 ⟨s2, hD2⟩
        rw [lr] at hD2
        refine ⟨_, D2, _, rfl, rfl, .inl (SqL.of hD2), ?_, _, s2 _ _ hD, small1000 (by rw [List.length_map, List.length_range]; omega), fun c o e => ?_, ?_⟩
        · rw [sum_ones, List.length_map, List.length_map, List.length_range, List.length_map, List.length_range]
          show n + n * 0 ≤ 16777216
          omega
        · rw [upd_ne (ne_of_none e nD)]; exact s2 _ _ (sm _ _ e)
        · rw [upd_same, List.range_succ, List.map_append, join_empty]
          rfl
    · rintro H' ⟨sm, hD⟩
      rw [Int.toNat_natCast, lr] at hD
      refine good H' D sm nD ?_
      rw [hD]
      unfold rowsF
      rw [List.map_map]
      rfl
theorem ok_masksB {f : Addr} {fd : FuncData} {k : Nat} (F : Fun K "masks_of" "masks_of" s_masks_of f fd) (m_int : mg "int" = none) :
    FnOk P w K mg base CX0 (k + 1) f fd ["rows"] (spMsk K) := by
  refine F.ok sc_masks_of (fun vs H Q E h => ?_) (fun cdv A outer s H vs Q E hr h => ?_)
  · obtain ⟨r, n, b, rfl, _⟩ := h
    rfl
  · obtain ⟨r, n, b, rfl, hr0, n1, n60, good⟩ := h
    refine ⟨_, (pss_one (ps_ret (pe_lc (own := [("row", 1)]) (g := gName 1) (by rfl) sc_masks_of.nd (pi_list (pv 0)) (blkOk_by (own := [("row", 1)]) (N := N_masks_of) (sc := defScope s_masks_of) (by decide +kernel)) (fun _ _ _ _ _ => pg_name (i := 1) sc_masks_of.nd rfl (Or.inl rfl)) (fun _ _ _ _ _ => pts_nil) (fun _ _ _ _ _ => (pe_callTy call_int_bin (by rfl) m_int (by decide +kernel) (pa_cons (pe_revS (pv 1)) (pa_cons pe_int pa_nil))))))), ?_⟩
    have lr := rows_lenF n b
    refine ⟨_, rfl, r, rfl, ⟨_, hr0⟩, fun D nD => lc_list (xs := (rowsF n b).map V.str) (fun i H2 => Same H H2 ∧ H2 D = some (.lst (natsV ((List.range i).map fun x => maskF n (b x))))) ?_ ?_ ?_ ?_⟩
    · exact ⟨same_upd nD, upd_same⟩
    · rintro i H2 _ ⟨s2, _⟩
      exact s2.seq hr0
    · rintro i x H2 hx ⟨s2, hD⟩
      obtain ⟨il, rfl⟩ := rows_get hx
      have er : (revS (rowF n (b i))).cps.toList = ((List.range n).map fun y => chB (b i y)).reverse := by
        unfold revS
        rw [rowF_cps]
      refine ⟨rfl, yes_it ⟨_, rfl, _, rfl, rowF_size _ n60, _, rfl, ?_, ?_, ?_, _, hD, small1000 (by rw [nats_len, List.length_map, List.length_range]; omega), fun c o e => ?_, ?_⟩⟩
      · rw [er]
        intro z
        have := congrArg List.length z
        rw [List.length_reverse, List.length_map, List.length_range] at this
        simp at this
        omega
      · show (revS (rowF n (b i))).cps.size ≤ 640
        rw [← Array.length_toList, er, List.length_reverse, List.length_map, List.length_range]
        omega
      · rw [er]
        intro c hc
        obtain ⟨y, _, rfl⟩ := List.mem_map.mp (List.mem_reverse.mp hc)
        exact chB_bin _
      · rw [upd_ne (ne_of_none e nD)]; exact s2 _ _ e
      · rw [upd_same, er, bin_rev, List.range_succ, List.map_append]
        unfold natsV
        rw [List.map_append]
        rfl
    · rintro H2 ⟨s2, hD⟩
      rw [lr] at hD
      exact good H2 D s2 nD hD
theorem ok_bound {f : Addr} {fd : FuncData} {k : Nat} (F : Fun K "bound_table" "bound_table" s_bound_table f fd) (m_len : mg "len" = none) (m_range : mg "range" = none) :
    FnOk P w K mg base CX0 (k + 1) f fd ["masks"] (spBT K) := by
  refine F.ok sc_bound_table (fun vs H Q E h => ?_) (fun cdv A outer s H vs Q E hr h => ?_)
  · obtain ⟨r, n, m, g, rfl, _⟩ := h
    rfl
  · obtain ⟨r, n, m, g, rfl, hr0, n60, inj, hg, good⟩ := h
    refine ⟨_, (pss_cons (ps_set (i := 1) sc_bound_table.nd rfl (by first | exact .inl rfl | exact .inr rfl) (pe_dc (own := [("at", 2)]) (g := gName 2) (by rfl) sc_bound_table.nd (pi_range1 (by rfl) m_range (pa_cons (pe_callB call_len_seq (by rfl) m_len (by decide +kernel) (pa_cons (pv 0) pa_nil)) pa_nil)) (blkOk_by (own := [("at", 2)]) (N := N_bound_table) (sc := defScope s_bound_table) (by decide +kernel)) (fun _ _ _ _ _ => pg_name (i := 2) sc_bound_table.nd rfl (Or.inl rfl)) (fun _ _ _ _ _ => pts_nil) (fun _ _ _ _ _ => (pe_ix (ix_listK (K := K) rfl) (pv 0) (pv 2) (fun _ _ => rfl))) (fun _ _ _ _ _ => (pv 2))))
      (pss_one (ps_ret (pe_lc (own := [("one", 4)]) (g := gName 4) (by rfl) sc_bound_table.nd (pi_listK (K := K) rfl (pv 0)) (blkOk_by (own := [("one", 4)]) (N := N_bound_table) (sc := defScope s_bound_table) (by decide +kernel)) (fun _ _ _ _ _ => pg_name (i := 4) sc_bound_table.nd rfl (Or.inr rfl)) (fun _ _ _ _ _ => pts_nil) (fun _ _ _ _ _ => (pe_lc (own := [("other", 3)]) (g := gName 3) (by rfl) sc_bound_table.nd (pi_listK (K := K) rfl (pv 0)) (blkOk_by (own := [("other", 3)]) (N := N_bound_table) (by exact rfl)) (fun _ _ _ _ _ => pg_name (i := 3) sc_bound_table.nd rfl (Or.inl rfl)) (fun _ _ _ _ _ => pts_nil) (fun _ _ _ _ _ => (pe_dget1 (hu_of hr) (pv 1) (pe_op L2.op_and (pv 4) (pv 3)) ⟨rfl, rfl, rfl, rfl⟩)))))))), ?_⟩
    have lr : (natsV ((List.range n).map m)).length = n := by rw [nats_len, List.length_map, List.length_range]
    have get : ∀ x, x < n → (natsV ((List.range n).map m))[x]? = some (.int (m x : Nat)) := fun x hx => by
      unfold natsV
      rw [List.getElem?_map, List.getElem?_map, List.getElem?_range hx]
      rfl
    refine ⟨_, rfl, r, _, rfl, .inl hr0, _, rfl, by omega, by omega, fun pv npv => FvK.dc_rangeK (lo := 0) (n := (((natsV ((List.range n).map m)).length : Nat) : Int).toNat) (fun j H' => Same H H' ∧ ∃ kvs, H' pv = some (.dK kvs) ∧ kvs.length ≤ j ∧ ∀ x, x < j → valV kvs (Sum.inl ((m x : Nat) : Int)) = some (.int (x : Nat))) ?_ ?_ ?_⟩
    · exact ⟨same_upd npv, [], upd_same, Nat.le_refl _, fun x hx => absurd hx (Nat.not_lt_zero _)⟩
    · rintro j H' hj ⟨sm, kvs, hpv, lk, hva⟩
      rw [Int.toNat_natCast, lr] at hj
      have ej : (0 : Int) + (j : Nat) = ((j : Nat) : Int) := by omega
      rw [ej]
      refine ⟨rfl, yes_it ⟨_, rfl, _, rfl, r, _, _, _, rfl, rfl, sm.seq hr0, atI_nat (get j hj), _, rfl, kvs, Sum.inl ((m j : Nat) : Int), rfl, hpv, small1000 (by omega), fun c o e => ?_, _, upd_same, Nat.le_trans (FvK.putK_lenK _ _ _) (by omega), fun x hx => ?_⟩⟩
      · rw [upd_ne (ne_of_none e npv)]; exact sm _ _ e
      · rw [valV_put]
        by_cases e : x = j
        · rw [e, if_pos rfl]
        · rw [if_neg (fun z => e (inj x j (by omega) hj (by simp only [Sum.inl.injEq] at z; omega)))]
          exact hva x (by omega)
    · rintro H1 ⟨s1, kvs, hpv, lk, hva⟩
      rw [Int.toNat_natCast, lr] at hva
      have hr1 := s1.seq hr0
      refine ⟨_, rfl, r, rfl, ⟨_, hr1⟩, fun D1 nD1 => lc_list (xs := natsV ((List.range n).map m)) (fun j H' => Same H1 H' ∧ ∃ as : List Addr, as.length = j ∧ Rws H H' D1 n g as) ?_ ?_ ?_ ?_⟩
      · exact ⟨same_upd nD1, [], rfl, ⟨upd_same, fun i a e => (by cases e)⟩⟩
      · rintro j H' _ ⟨sm, _⟩
        exact sm.seq hr1
      · rintro j v H' hv ⟨sm, as, la, hR⟩
        have jn : j < n := by have := (List.getElem?_eq_some_iff.mp hv).1; omega
        rw [get j jn] at hv
        cases hv
        refine ⟨rfl, yes_it ⟨_, rfl, r, rfl, ⟨_, sm.seq hr1⟩, fun D2 nD2 => lc_list (xs := natsV ((List.range n).map m)) (fun i H3 => Same H' H3 ∧ H3 D2 = some (.lst (natsV ((List.range i).map (g j))))) ?_ ?_ ?_ ?_⟩⟩
        · exact ⟨same_upd nD2, upd_same⟩
        · rintro i H3 _ ⟨sm3, _⟩
          exact (sm.trans sm3).seq hr1
        · rintro i u H3 hu ⟨sm3, hD3⟩
          have iN : i < n := by have := (List.getElem?_eq_some_iff.mp hu).1; omega
          rw [get i iN] at hu
          cases hu
          have s13 := sm.trans sm3
          have hp3 := s13 _ _ hpv
          obtain ⟨gl, ge⟩ := hg j i jn iN
          have dg := DGet.k (k := Sum.inl ((m (g j i) : Nat) : Int)) hp3
          rw [hva _ gl] at dg
          refine ⟨rfl, yes_it ⟨_, rfl, pv, rfl, .inl ⟨_, .inl hp3⟩, _, rfl, _, rfl, _, _, rfl, rfl, some (.int (g j i : Nat)), ?_, ?_⟩⟩
          · have e : Builtin.bitAnd ((m j : Nat) : Int) ((m i : Nat) : Int) = ((m (g j i) : Nat) : Int) := by rw [bitAnd_nat, ge]
            dsimp only
            rw [e]
            exact dg
          · refine ⟨_, hD3, small1000 (by rw [nats_len, List.length_map, List.length_range]; omega), fun c o e => ?_, ?_⟩
            · rw [upd_ne (ne_of_none e nD2)]; exact sm3 _ _ e
            · rw [upd_same, List.range_succ, List.map_append]
              unfold natsV
              rw [List.map_append]
              rfl
        · rintro H3 ⟨sm3, hD3⟩
          rw [lr] at hD3
          have hR3 := hR.same sm3
          have ne2 : D2 ≠ D1 := fun z => by rw [z, hR.at_] at nD2; cases nD2
          refine ⟨_, hR3.at_, small1000 (by rw [List.length_map]; omega), fun c o e => ?_, as ++ [D2], by rw [List.length_append, List.length_singleton, la], hR3.put (by rw [la]; exact hD3) ne2 (Same.free (s1.trans sm) nD2)⟩
          rw [upd_ne (ne_of_none e nD1)]
          exact sm3 _ _ (sm _ _ e)
      · rintro H2 ⟨s2, as, la, hR⟩
        rw [lr] at la
        exact good H2 D1 (s1.trans s2) (Same.free s1 nD1) (hR.dp (Same.free s1 nD1) la)
end
end FvO


namespace FvO
open PySem PySem.Spec PyProof.Rows L2 Fv FvW
open FvK (pe_fldK)
open ClX (CRead CVal pe_cval)
-- top 26  slots: 0:self 1:rows 2:at 3:row
abbrev s_init__of__Board : Stmt := inClass (topS 26) 1
abbrev N_init__of__Board : List Str := ["self", "rows", "at", "row"]
theorem sc_init__of__Board : FnScope N_init__of__Board ["self", "rows"] (defScope s_init__of__Board) := ⟨rfl, rfl, rfl, by decide +kernel, rfl, by decide +kernel, by decide +kernel⟩

/-! ### boards -/
structure Brd (n : Nat) (b : Nat → Nat → Bool) (lo hi : Nat → Nat → Nat) (bt tp : Nat) : Prop where
  n1 : 1 ≤ n
  n60 : n ≤ 60
  rf : ∀ x, x < n → b x x = true
  an : ∀ x y, x < n → y < n → b x y = true → b y x = true → x = y
  tr : ∀ x y z, x < n → y < n → z < n → b x y = true → b y z = true → b x z = true
  lo : ∀ x y, x < n → y < n → lo x y < n ∧ ∀ z, z < n → b z (lo x y) = (b z x && b z y)
  hi : ∀ x y, x < n → y < n → hi x y < n ∧ ∀ z, z < n → b (hi x y) z = (b x z && b y z)
  bt : bt < n ∧ ∀ z, z < n → b bt z = true
  tp : tp < n ∧ ∀ z, z < n → b z tp = true
structure BL where
  ln : Addr
  ab : Addr
  be : Addr
  lo : Addr
  hi : Addr
  bt : Nat
  tp : Nat
def flB (L : BL) : List (Str × V) := [("lines", .ref L.ln), ("above", .ref L.ab), ("below", .ref L.be), ("lows", .ref L.lo), ("highs", .ref L.hi), ("least", .int (L.bt : Nat)), ("greatest", .int (L.tp : Nat))]
def fb1 (ln : Addr) : List (Str × V) := [("lines", .ref ln)]
def fb2 (ln ab : Addr) : List (Str × V) := [("lines", .ref ln), ("above", .ref ab)]
def fb3 (ln ab be : Addr) : List (Str × V) := [("lines", .ref ln), ("above", .ref ab), ("below", .ref be)]
def fb4 (ln ab be lo : Addr) : List (Str × V) := [("lines", .ref ln), ("above", .ref ab), ("below", .ref be), ("lows", .ref lo)]
def fb5 (ln ab be lo hi : Addr) : List (Str × V) := [("lines", .ref ln), ("above", .ref ab), ("below", .ref be), ("lows", .ref lo), ("highs", .ref hi)]
def fb6 (ln ab be lo hi : Addr) (bt : Nat) : List (Str × V) := [("lines", .ref ln), ("above", .ref ab), ("below", .ref be), ("lows", .ref lo), ("highs", .ref hi), ("least", .int (bt : Nat))]
theorem tab_inv {K : PySem.W.Frag} {H : Hp} {p : Addr} {n : Nat} {g : Nat → Nat → Nat} (h : Dp K H (.ref p) (tabD n g)) : ∃ xs, SqL K H p xs ∧ DpAll K H xs ((List.range n).map fun x => rowD n (g x)) := by
  cases h with
  | lst hs ha => exact ⟨_, hs, ha⟩
theorem row_gd {n : Nat} (f : Nat → Nat) (h : n ≤ 60) : gd 2 (rowD n f) = true := gd_lst (n := 1) (fun d hd => by
  obtain ⟨y, _, rfl⟩ := List.mem_map.mp hd
  rfl) (by rw [List.length_map, List.length_range]; omega)
theorem row_none {n : Nat} (f : Nat → Nat) : (((List.range n).map fun y => PyData.int (f y : Nat)).any fun z => PyData.eqv z .none) = false := by
  rw [List.any_eq_false]
  intro z hz
  obtain ⟨y, _, rfl⟩ := List.mem_map.mp hz
  exact Bool.false_ne_true
theorem hide_upd {x : Addr} {M : List Addr} {H : Hp} {o : HO} : hide (x :: M) (upd H x o) = hide (x :: M) H := by
  funext b
  by_cases e : b = x
  · subst e
    unfold hide
    rw [if_pos List.mem_cons_self, if_pos List.mem_cons_self]
  · by_cases m : b ∈ M
    · unfold hide
      rw [if_pos (List.mem_cons_of_mem _ m), if_pos (List.mem_cons_of_mem _ m)]
    · rw [hide_ne (fun z => (List.mem_cons.mp z).elim e m), hide_ne (fun z => (List.mem_cons.mp z).elim e m), upd_ne e]
theorem hid_new {x p : Addr} {M : List Addr} {H0 H H' : Hp} {o u : HO} (tM : Trk M H0) (xM : x ∉ M) (sm : SmX [x] H0 H) (hx : H x = some u) (n : H p = none) (h : H' p = some o) : hide (x :: M) H' p = some o := by
  rw [hide_ne]
  · exact h
  · intro z
    rcases List.mem_cons.mp z with z | z
    · rw [z, hx] at n
      cases n
    · obtain ⟨o2, e⟩ := tM p z
      have := sm p o2 (fun y => xM (List.mem_singleton.mp y ▸ z)) e
      rw [n] at this; cases this
structure TxB (K : PySem.W.Frag) (C : Addr) : Prop where
  cl : Cls K C
  n1 : NoAttr K C "lines"
  n2 : NoAttr K C "above"
  n3 : NoAttr K C "below"
  n4 : NoAttr K C "lows"
  n5 : NoAttr K C "highs"
  n6 : NoAttr K C "least"
  n7 : NoAttr K C "greatest"
/-- the class's constant -/
structure TxM (K : PySem.W.Frag) (C : Addr) : Prop where
  ex : ∃ mc u, CRead K C mc ∧ CVal K C mc "MAX_PLACES" (.int 60) u
structure BAt (K : PySem.W.Frag) (C : Addr) (H : Hp) (c : Addr) (L : BL) (n : Nat) (b : Nat → Nat → Bool) (lo hi : Nat → Nat → Nat) : Prop where
  ob : ∃ dx, H c = some (.ins C dx (flB L))
  ln : H L.ln = some (.lst ((rowsF n b).map V.str))
  ab : H L.ab = some (.lst (natsV ((List.range n).map fun x => maskF n (b x))))
  be : H L.be = some (.lst (natsV ((List.range n).map fun x => maskF n fun y => b y x)))
  lo : Dp K H (.ref L.lo) (tabD n lo)
  hi : Dp K H (.ref L.hi) (tabD n hi)
theorem BAt.same {K : PySem.W.Frag} {C : Addr} {H H' : Hp} {c : Addr} {L : BL} {n : Nat} {b : Nat → Nat → Bool} {lo hi : Nat → Nat → Nat} (h : BAt K C H c L n b lo hi) (s : Same H H') : BAt K C H' c L n b lo hi :=
  ⟨h.ob.imp fun dx e => s _ _ e, s _ _ h.ln, s _ _ h.ab, s _ _ h.be, dp_same s _ _ h.lo, dp_same s _ _ h.hi⟩
def spBIn (K : PySem.W.Frag) (C : Addr) : Sp := fun vs H Q _ => ∃ (M : List Addr) (x rl dx : Addr) (n : Nat) (b : Nat → Nat → Bool) (lo hi : Nat → Nat → Nat) (bt tp : Nat), vs = [.ref x, .ref rl] ∧ Trk M H ∧ x ∉ M ∧ H x = some (.ins C dx []) ∧ SqL K (hide (x :: M) H) rl ((rowsF n b).map V.str) ∧ Brd n b lo hi bt tp ∧
  ∀ (H' : Hp) (L : BL), SmX [x] H H' → BAt K C (hide M H') x L n b lo hi → L.bt = bt → L.tp = tp → Q .non H'
section
variable {P : Program} {w : World} {K : PySem.W.Frag} {mg : Str → Option Value} {base : Heap} {C : Addr}
set_option maxHeartbeats 1000000 in
theorem ok_binit {f : Addr} {fd : FuncData} {k : Nat} (F : Fun K "__init__" "Board.__init__" s_init__of__Board f fd) (T : TxB K C) (TM : TxM K C) (g_Board : mg "Board" = some (.ref C)) (m_len : mg "len" = none) (m_range : mg "range" = none) (m_list : mg "list" = none) (m_all : mg "all" = none) (m_any : mg "any" = none) (m_max : mg "max" = none) (hk : 2 ≤ k)
    (C_are_square : Own P w K mg base 2 "are_square" ["rows", "most"] (spSqR K)) (C_columns_of : Own P w K mg base 2 "columns_of" ["rows"] (spCol K)) (C_masks_of : Own P w K mg base 2 "masks_of" ["rows"] (spMsk K)) (C_bound_table : Own P w K mg base 2 "bound_table" ["masks"] (spBT K)) :
    FnOk P w K mg base CX0 (k + 1) f fd ["self", "rows"] (spBIn K C) := by
  refine F.ok sc_init__of__Board (fun vs H Q E h => ?_) (fun cdv A outer s H vs Q E hr h => ?_)
  · obtain ⟨M, x, rl, dx, n, b, lo, hi, bt, tp, rfl, _⟩ := h
    rfl
  · obtain ⟨M, x, rl, dx, n, b, lo, hi, bt, tp, rfl, tM, xM, hx, hrl, B, good⟩ := h
    refine ⟨_, (pss_cons (ps_if (pt_not (pt_val (pe_own C_are_square (hr.mono (by omega)) (by rfl) (pa_cons (pv 1) (pa_cons (pe_cval (pe_glob (v := .ref C) (by rfl) g_Board rfl)) pa_nil)))))
        pss_never
        pss_nil)
      (pss_cons (ps_fld (pv 0) (pe_callTy call_list_of (by rfl) m_list (by decide +kernel) (pa_cons (pv 1) pa_nil)) rfl)
      (pss_cons (ps_fld (pv 0) (pe_own C_masks_of (hr.mono (by omega)) (by rfl) (pa_cons (pe_fldK (K := K) rfl (pv 0) rfl) pa_nil)) rfl)
      (pss_cons (ps_fld (pv 0) (pe_own C_masks_of (hr.mono (by omega)) (by rfl) (pa_cons (pe_own C_columns_of (hr.mono (by omega)) (by rfl) (pa_cons (pe_fldK (K := K) rfl (pv 0) rfl) pa_nil)) pa_nil)) rfl)
      (pss_cons (ps_if (pt_not (pt_val (pe_callB (cr_allK (K := K) rfl rfl) (by rfl) m_all (by decide +kernel) (pa_cons (pe_lc (own := [("at", 2)]) (g := gName 2) (by rfl) sc_init__of__Board.nd (pi_range1 (by rfl) m_range (pa_cons (pe_callB call_len_seq (by rfl) m_len (by decide +kernel) (pa_cons (pe_fldK (K := K) rfl (pv 0) rfl) pa_nil)) pa_nil)) (blkOk_by (own := [("at", 2)]) (N := N_init__of__Board) (sc := defScope s_init__of__Board) (by decide +kernel)) (fun _ _ _ _ _ => pg_name (i := 2) sc_init__of__Board.nd rfl (Or.inl rfl)) (fun _ _ _ _ _ => pts_nil) (fun _ _ _ _ _ => (pe_cmpR op_eq (pe_op L2.op_and (pe_ix (ix_listK (K := K) rfl) (pe_fldK (K := K) rfl (pv 0) rfl) (pv 2) (fun _ _ => rfl)) (pe_ix (ix_listK (K := K) rfl) (pe_fldK (K := K) rfl (pv 0) rfl) (pv 2) (fun _ _ => rfl))) (pe_op op_shl pe_int (pv 2)) (nomark _)))) pa_nil))))
        pss_never
        pss_nil)
      (pss_cons (ps_fld (pv 0) (pe_own C_bound_table (hr.mono (by omega)) (by rfl) (pa_cons (pe_fldK (K := K) rfl (pv 0) rfl) pa_nil)) rfl)
      (pss_cons (ps_fld (pv 0) (pe_own C_bound_table (hr.mono (by omega)) (by rfl) (pa_cons (pe_fldK (K := K) rfl (pv 0) rfl) pa_nil)) rfl)
      (pss_cons (ps_if (pt_val (pe_callB (cr_any rfl) (by rfl) m_any (by decide +kernel) (pa_cons (pe_lc (own := [("row", 3)]) (g := gName 3) (by rfl) sc_init__of__Board.nd (pi_list (pe_lst (StX.pa_star (pe_fldK (K := K) rfl (pv 0) rfl) (StX.pa_star (pe_fldK (K := K) rfl (pv 0) rfl) pa_nil)))) (blkOk_by (own := [("row", 3)]) (N := N_init__of__Board) (sc := defScope s_init__of__Board) (by decide +kernel)) (fun _ _ _ _ _ => pg_name (i := 3) sc_init__of__Board.nd rfl (Or.inl rfl)) (fun _ _ _ _ _ => pts_nil) (fun _ _ _ _ _ => (pe_cmpR (op_inLK (K := K) rfl (hu65 hr)) pe_non (pv 3) (by rfl)))) pa_nil)))
        pss_never
        pss_nil)
      (pss_cons (ps_fld (pv 0) (pe_bm PySem.F.plainAttrs_list PySem.F.slot_list_index PySem.F.type_list_index mt_index (pe_fldK (K := K) rfl (pv 0) rfl) (pa_cons (pe_callB (cr_max rfl) (by rfl) m_max (by decide +kernel) (pa_cons (pe_fldK (K := K) rfl (pv 0) rfl) pa_nil)) pa_nil)) rfl)
      (pss_one (ps_fld (pv 0) (pe_bm PySem.F.plainAttrs_list PySem.F.slot_list_index PySem.F.type_list_index mt_index (pe_fldK (K := K) rfl (pv 0) rfl) (pa_cons (pe_callB (cr_max rfl) (by rfl) m_max (by decide +kernel) (pa_cons (pe_fldK (K := K) rfl (pv 0) rfl) pa_nil)) pa_nil)) rfl))))))))))), ?_⟩
    obtain ⟨mc, u, cr, cv⟩ := TM.ex
    have n1 := B.n1
    have n60 := B.n60
    have hrl0 : SqL K H rl ((rowsF n b).map V.str) := hide_same.seq hrl
    refine ⟨_, rfl, C, mc, .int 60, u, rfl, cr, cv, rl, n, b, rfl, hrl0, n1, n60, fun H1 s1 => ⟨_, rfl, iteF ?_⟩⟩
    have mx : x ∈ [x] := List.mem_singleton.mpr rfl
    have hx1 := s1 _ _ hx
    have sm1 : SmX [x] H H1 := SmX.of_same s1
    have hrl1 := (SmX.of_same (M := x :: M) s1).hid.seq hrl
    -- the lines
    refine ⟨_, rfl, rl, _, rfl, .inl (hide_same.seq hrl1), fun ln nln => ⟨_, rfl, x, C, dx, _, rfl, same_upd nln _ _ hx1, T.cl, T.n1, (by show 0 < 1000; decide), ?_⟩⟩
    rw [show putF "lines" (.ref ln) ([] : List (Str × V)) = fb1 ln from rfl]
    have sa1 := same_upd (o := .lst ((rowsF n b).map V.str)) nln
    have hln1 : upd H1 ln (.lst ((rowsF n b).map V.str)) ln = some (.lst ((rowsF n b).map V.str)) := upd_same
    have gln := hid_new tM xM sm1 hx1 nln hln1
    have sm1 := sm1.trans (SmX.of_same sa1)
    generalize upd H1 ln (.lst ((rowsF n b).map V.str)) = G1 at sm1 gln
    have sm2 : SmX [x] H (upd G1 x (.ins C dx (fb1 ln))) := sm1.put mx
    have hx2 : upd G1 x (.ins C dx (fb1 ln)) x = some (.ins C dx (fb1 ln)) := upd_same
    rw [← hide_upd (x := x) (M := M) (H := G1) (o := .ins C dx (fb1 ln))] at gln
    generalize upd G1 x (.ins C dx (fb1 ln)) = H2 at sm2 hx2 gln
    -- the masks above
    refine ⟨_, rfl, x, C, dx, _, _, rfl, hx2, T.cl, T.n1, rfl, ln, n, b, rfl, SqL.of (hide_same _ _ gln), n1, n60, fun G2 ab s2 nab hab => ⟨_, rfl, x, C, dx, _, rfl, s2 _ _ hx2, T.cl, T.n2, (by show 1 < 1000; decide), ?_⟩⟩
    rw [show putF "above" (.ref ab) (fb1 ln) = fb2 ln ab from rfl]
    have gab := hid_new tM xM sm2 hx2 nab hab
    have gln := (SmX.of_same (M := x :: M) s2).hid _ _ gln
    have sm3 : SmX [x] H (upd G2 x (.ins C dx (fb2 ln ab))) := (sm2.trans (SmX.of_same s2)).put mx
    have hx3 : upd G2 x (.ins C dx (fb2 ln ab)) x = some (.ins C dx (fb2 ln ab)) := upd_same
    rw [← hide_upd (x := x) (M := M) (H := G2) (o := .ins C dx (fb2 ln ab))] at gln gab
    generalize upd G2 x (.ins C dx (fb2 ln ab)) = H3 at sm3 hx3 gln gab
    -- the masks below
    refine ⟨_, rfl, x, C, dx, _, _, rfl, hx3, T.cl, T.n1, rfl, ln, n, b, rfl, SqL.of (hide_same _ _ gln), n60, fun G3 cl s3 ncl hcl => ⟨cl, n, fun u v => b v u, rfl, SqL.of hcl, n1, n60, fun G4 be s4 nbe hbe => ⟨_, rfl, x, C, dx, _, rfl, (s3.trans s4) _ _ hx3, T.cl, T.n3, (by show 2 < 1000; decide), ?_⟩⟩⟩
    rw [show putF "below" (.ref be) (fb2 ln ab) = fb3 ln ab be from rfl]
    have s34 := s3.trans s4
    have gbe := hid_new tM xM (sm3.trans (SmX.of_same s3)) (s3 _ _ hx3) nbe hbe
    have gln := (SmX.of_same (M := x :: M) s34).hid _ _ gln
    have gab := (SmX.of_same (M := x :: M) s34).hid _ _ gab
    have sm4 : SmX [x] H (upd G4 x (.ins C dx (fb3 ln ab be))) := (sm3.trans (SmX.of_same s34)).put mx
    have hx4 : upd G4 x (.ins C dx (fb3 ln ab be)) x = some (.ins C dx (fb3 ln ab be)) := upd_same
    rw [← hide_upd (x := x) (M := M) (H := G4) (o := .ins C dx (fb3 ln ab be))] at gln gab gbe
    generalize upd G4 x (.ins C dx (fb3 ln ab be)) = H4 at sm4 hx4 gln gab gbe
    have lr := rows_lenF n b
    have getA : ∀ i, i < n → (natsV ((List.range n).map fun x => maskF n (b x)))[i]? = some (.int (maskF n (b i) : Nat)) := fun i hi => by
      unfold natsV
      rw [List.getElem?_map, List.getElem?_map, List.getElem?_range hi]; rfl
    have getB : ∀ i, i < n → (natsV ((List.range n).map fun x => maskF n fun y => b y x))[i]? = some (.int (maskF n (fun y => b y i) : Nat)) := fun i hi => by
      unfold natsV
      rw [List.getElem?_map, List.getElem?_map, List.getElem?_range hi]; rfl
    refine ⟨_, rfl, x, C, dx, _, _, rfl, hx4, T.cl, T.n1, rfl, ln, _, rfl, .inl (SqL.of (hide_same _ _ gln)), _, rfl, by omega, by omega, fun D nD => lc_range (lo := 0) (n := ((((rowsF n b).map V.str).length : Nat) : Int).toNat) (fun j H' => Same H4 H' ∧ H' D = some (.lst ((List.replicate j true).map V.bl))) ?_ ?_ ?_⟩
    · exact ⟨same_upd nD, upd_same⟩
    · rintro j H' hj ⟨sm, hD⟩
      have ej : (0 : Int) + (j : Nat) = ((j : Nat) : Int) := by omega
      rw [ej]
      rw [Int.toNat_natCast, lr] at hj
      refine ⟨rfl, yes_it ⟨_, rfl, x, C, dx, _, _, rfl, sm _ _ hx4, T.cl, T.n2, rfl, _, rfl, ab, _, _, _, rfl, rfl, SqL.of (sm _ _ (hide_same _ _ gab)), atI_nat (getA j hj), _, rfl, x, C, dx, _, _, rfl, sm _ _ hx4, T.cl, T.n3, rfl, _, rfl, be, _, _, _, rfl, rfl, SqL.of (sm _ _ (hide_same _ _ gbe)), atI_nat (getB j hj), _, _, rfl, rfl, _, rfl, _, _, rfl, rfl, ⟨by omega, by omega, by decide⟩, rfl, ?_⟩⟩
      dsimp only
      have ev : decide (V.int (Builtin.bitAnd ((maskF n (b j) : Nat) : Int) ((maskF n (fun y => b y j) : Nat) : Int)) = V.int ((1 : Int) * 2 ^ ((j : Nat) : Int).toNat)) = true := by
        refine decide_eq_true ?_
        rw [bitAnd_nat, mask_and, Int.toNat_natCast, Int.one_mul]
        have e : maskF n (fun y => b j y && b y j) = 2 ^ j := by
          rw [← mask_one hj]
          refine mask_congr fun y hy => ?_
          by_cases c : y = j
          · subst c; rw [B.rf _ hj]; simp
          · rw [decide_eq_false c, Bool.and_eq_false_iff]
            cases h1 : b j y with
            | false => exact .inl rfl
            | true =>
              right
              cases h2 : b y j with
              | false => rfl
              | true => exact absurd (B.an y j hy hj h2 h1) c
        rw [e, Int.natCast_pow]
        rfl
      rw [ev]
      refine ⟨_, hD, small1000 (by rw [List.length_map, List.length_replicate]; omega), fun c o e => ?_, ?_⟩
      · rw [upd_ne (ne_of_none e nD)]; exact sm _ _ e
      · rw [upd_same, List.replicate_succ', List.map_append]; rfl
    · rintro H5 ⟨s5, hD⟩
      refine ⟨D, _, rfl, SqL.of hD, _, rfl, ?_⟩
      rw [rep_all]
      refine iteF ?_
      have gln := (SmX.of_same (M := x :: M) s5).hid _ _ gln
      have gab := (SmX.of_same (M := x :: M) s5).hid _ _ gab
      have gbe := (SmX.of_same (M := x :: M) s5).hid _ _ gbe
      have sm5 := sm4.trans (SmX.of_same s5)
      have hx5 := s5 _ _ hx4
      have below : ∀ u v, u < n → v < n → (maskF n (fun y => b y u) &&& maskF n fun y => b y v) = maskF n fun y => b y (lo u v) := fun u v hu hv => by
        rw [mask_and]
        exact mask_congr fun y hy => ((B.lo u v hu hv).2 y hy).symm
      have above : ∀ u v, u < n → v < n → (maskF n (b u) &&& maskF n (b v)) = maskF n (b (hi u v)) := fun u v hu hv => by
        rw [mask_and]
        exact mask_congr fun y hy => ((B.hi u v hu hv).2 y hy).symm
      have injB : ∀ u v, u < n → v < n → (maskF n fun y => b y u) = (maskF n fun y => b y v) → u = v := fun u v hu hv e => by
        have z := mask_inj e
        exact B.an u v hu hv (by rw [← z u hu]; exact B.rf u hu) (by rw [z v hv]; exact B.rf v hv)
      have injA : ∀ u v, u < n → v < n → maskF n (b u) = maskF n (b v) → u = v := fun u v hu hv e => by
        have z := mask_inj e
        exact B.an u v hu hv (by rw [z v hv]; exact B.rf v hv) (by rw [← z u hu]; exact B.rf u hu)
      -- the lows
      refine ⟨_, rfl, x, C, dx, _, _, rfl, hx5, T.cl, T.n3, rfl, be, n, _, lo, rfl, SqL.of (hide_same _ _ gbe), n60, injB, fun u v hu hv => ⟨(B.lo u v hu hv).1, below u v hu hv⟩, fun G5 pl s6 npl hlo => ⟨_, rfl, x, C, dx, _, rfl, s6 _ _ hx5, T.cl, T.n4, (by show 3 < 1000; decide), ?_⟩⟩
      rw [show putF "lows" (.ref pl) (fb3 ln ab be) = fb4 ln ab be pl from rfl]
      have glo : Dp K (hide (x :: M) G5) (.ref pl) (tabD n lo) := dp_same (fun c o e => by
        obtain ⟨e1, e2⟩ := nw_some e
        exact hid_new tM xM sm5 hx5 e1 e2) _ _ hlo
      have gln := (SmX.of_same (M := x :: M) s6).hid _ _ gln
      have gab := (SmX.of_same (M := x :: M) s6).hid _ _ gab
      have gbe := (SmX.of_same (M := x :: M) s6).hid _ _ gbe
      have sm6 : SmX [x] H (upd G5 x (.ins C dx (fb4 ln ab be pl))) := (sm5.trans (SmX.of_same s6)).put mx
      have hx6 : upd G5 x (.ins C dx (fb4 ln ab be pl)) x = some (.ins C dx (fb4 ln ab be pl)) := upd_same
      rw [← hide_upd (x := x) (M := M) (H := G5) (o := .ins C dx (fb4 ln ab be pl))] at gln gab gbe glo
      generalize upd G5 x (.ins C dx (fb4 ln ab be pl)) = H6 at sm6 hx6 gln gab gbe glo
      -- the highs
      refine ⟨_, rfl, x, C, dx, _, _, rfl, hx6, T.cl, T.n2, rfl, ab, n, _, hi, rfl, SqL.of (hide_same _ _ gab), n60, injA, fun u v hu hv => ⟨(B.hi u v hu hv).1, above u v hu hv⟩, fun G6 ph s7 nph hhi => ⟨_, rfl, x, C, dx, _, rfl, s7 _ _ hx6, T.cl, T.n5, (by show 4 < 1000; decide), ?_⟩⟩
      rw [show putF "highs" (.ref ph) (fb4 ln ab be pl) = fb5 ln ab be pl ph from rfl]
      have ghi : Dp K (hide (x :: M) G6) (.ref ph) (tabD n hi) := dp_same (fun c o e => by
        obtain ⟨e1, e2⟩ := nw_some e
        exact hid_new tM xM sm6 hx6 e1 e2) _ _ hhi
      have h7 := (SmX.of_same (M := x :: M) s7).hid
      have gln := h7 _ _ gln
      have gab := h7 _ _ gab
      have gbe := h7 _ _ gbe
      have glo := dp_same h7 _ _ glo
      have sm7 : SmX [x] H (upd G6 x (.ins C dx (fb5 ln ab be pl ph))) := (sm6.trans (SmX.of_same s7)).put mx
      have hx7 : upd G6 x (.ins C dx (fb5 ln ab be pl ph)) x = some (.ins C dx (fb5 ln ab be pl ph)) := upd_same
      rw [← hide_upd (x := x) (M := M) (H := G6) (o := .ins C dx (fb5 ln ab be pl ph))] at gln gab gbe glo ghi
      generalize upd G6 x (.ins C dx (fb5 ln ab be pl ph)) = H7 at sm7 hx7 gln gab gbe glo ghi
      -- no None among them
      obtain ⟨xs, hxs, dxs⟩ := tab_inv (dp_same hide_same _ _ glo)
      obtain ⟨ys, hys, dys⟩ := tab_inv (dp_same hide_same _ _ ghi)
      have lx := dpAll_len dxs
      have ly := dpAll_len dys
      rw [List.length_map, List.length_range] at lx ly
      have dal := dpAll_app dxs dys
      refine ⟨_, rfl, x, C, dx, _, _, rfl, hx7, T.cl, T.n4, rfl, pl, xs, rfl, .inr hxs, _, rfl, x, C, dx, _, _, rfl, hx7, T.cl, T.n5, rfl, ph, ys, rfl, .inr hys, (by rw [List.append_nil, List.length_append, sizeLine_eq]; omega), fun q nq => ?_⟩
      rw [List.append_nil]
      have sq := same_upd (o := .lst (xs ++ ys)) nq
      have hq : upd H7 q (.lst (xs ++ ys)) q = some (.lst (xs ++ ys)) := upd_same
      have dal := dpAll_same sq _ _ dal
      generalize upd H7 q (.lst (xs ++ ys)) = H8 at sq hq dal
      refine ⟨q, rfl, ⟨_, SqL.of hq⟩, fun D2 nD2 => lc_bools (xs := xs ++ ys) (bs := List.replicate (n + n) false) (SqL.of hq) nD2 (by rw [List.length_append, List.length_replicate]; omega) (by rw [List.length_replicate]; omega) (fun i v c H' hv hc sm N M qN => ?_) (fun H9 s9 hD2 => ?_)⟩
      · obtain ⟨d, hd, hDv⟩ := dpAll_get dal hv
        rw [List.getElem?_replicate] at hc
        split at hc
        · cases hc
          have md := List.mem_of_getElem? hd
          obtain ⟨f, rfl⟩ : ∃ f : Nat → Nat, d = rowD n f := by
            rcases List.mem_append.mp md with z | z
            · obtain ⟨u, _, rfl⟩ := List.mem_map.mp z; exact ⟨_, rfl⟩
            · obtain ⟨u, _, rfl⟩ := List.mem_map.mp z; exact ⟨_, rfl⟩
          refine ⟨rfl, yes_it ⟨_, rfl, .none, _, .non, dp_same sm _ _ hDv, by decide, gd_shaped (row_gd f n60) (by decide), ?_⟩⟩
          rw [row_none f]
          exact qN _ (Same.refl _)
        · cases hc
      · refine ⟨D2, _, rfl, SqL.of hD2, _, rfl, ?_⟩
        rw [show (List.replicate (n + n) false).any id = false by rw [List.any_eq_false]; intro z hz; rw [List.eq_of_mem_replicate hz]; exact Bool.false_ne_true]
        refine iteF ?_
        -- bottom and top
        have s79 := sq.trans s9
        have h9 := (SmX.of_same (M := x :: M) s79).hid
        have gln := h9 _ _ gln
        have gab := h9 _ _ gab
        have gbe := h9 _ _ gbe
        have glo := dp_same h9 _ _ glo
        have ghi := dp_same h9 _ _ ghi
        have sm9 := sm7.trans (SmX.of_same s79)
        have hx9 := s79 _ _ hx7
        have inA : ∀ f : Nat → Nat, natsV ((List.range n).map f) = ((List.range n).map fun x => ((f x : Nat) : Int)).map V.int := fun f => by
          unfold natsV
          rw [List.map_map, List.map_map]; rfl
        have fl : ∀ f : Nat → Nat, (natsV ((List.range n).map f)).all flatV = true := fun f => List.all_eq_true.mpr fun v hv => by
          unfold natsV at hv
          obtain ⟨y, _, rfl⟩ := List.mem_map.mp hv
          rfl
        -- the greatest mask stands at t
        have big : ∀ (f : Nat → Nat) (t : Nat) (m : Int), t < n → (∀ y, y < n → f y ≤ f t) → (m ∈ (List.range n).map fun x => ((f x : Nat) : Int)) → (∀ y, (y ∈ (List.range n).map fun x => ((f x : Nat) : Int)) → y ≤ m) → m = ((f t : Nat) : Int) := fun f t m ht hf hm hmax => by
          obtain ⟨y, hy, rfl⟩ := List.mem_map.mp hm
          have a := hmax _ (List.mem_map.mpr ⟨t, List.mem_range.mpr ht, rfl⟩)
          have c := hf y (List.mem_range.mp hy)
          show ((f y : Nat) : Int) = _
          have a : ((f t : Nat) : Int) ≤ ((f y : Nat) : Int) := a
          omega
        have lnr : ∀ f : Nat → Nat, 0 < ((List.range n).map fun x => ((f x : Nat) : Int)).length := fun f => by rw [List.length_map, List.length_range]; omega
        have hab9 := hide_same _ _ gab
        have first : ∀ (f : Nat → Nat) (t : Nat), t < n → (∀ u v, u < n → v < n → f u = f v → u = v) → ∀ (m : Nat) (z' : V), m < t → (natsV ((List.range n).map f))[m]? = some z' → eqV z' (.int ((f t : Nat) : Int)) = false := fun f t ht inj m z' hm hz => by
          unfold natsV at hz
          rw [List.getElem?_map, List.getElem?_map, List.getElem?_range (by omega)] at hz
          have e : V.int ((f m : Nat) : Int) = z' := Option.some.inj hz
          rw [← e]
          show (((f m : Nat) : Int) == ((f t : Nat) : Int)) = false
          rw [beq_eq_false_iff_ne]
          intro z
          have := inj m t (by omega) ht (by omega)
          omega
        refine ⟨_, rfl, x, C, dx, _, _, rfl, hx9, T.cl, T.n2, rfl, .inl ⟨rfl, _, SqL.of hab9⟩, _, rfl, x, C, dx, _, _, rfl, hx9, T.cl, T.n2, rfl, ab, (List.range n).map fun y => ((maskF n (b y) : Nat) : Int), rfl, by rw [← inA]; exact SqL.of hab9, lnr _, fun m hm hmax => ?_⟩
        have em := big (fun y => maskF n (b y)) bt m B.bt.1 (fun y hy => mask_mono fun z hz _ => B.bt.2 z hz) hm hmax
        subst em
        refine ⟨ab, _, _, bt, _, rfl, rfl, SqL.of hab9, rfl, fl _, getA bt B.bt.1, (by show (((maskF n (b bt) : Nat) : Int) == _) = true; exact beq_self_eq_true _), first (fun y => maskF n (b y)) bt B.bt.1 injA, _, rfl, x, C, dx, _, rfl, hx9, T.cl, T.n6, (by show 5 < 1000; decide), ?_⟩
        rw [show putF "least" (.int ((bt : Nat) : Int)) (fb5 ln ab be pl ph) = fb6 ln ab be pl ph bt from rfl]
        have smA : SmX [x] H (upd H9 x (.ins C dx (fb6 ln ab be pl ph bt))) := sm9.put mx
        have hxA : upd H9 x (.ins C dx (fb6 ln ab be pl ph bt)) x = some (.ins C dx (fb6 ln ab be pl ph bt)) := upd_same
        rw [← hide_upd (x := x) (M := M) (H := H9) (o := .ins C dx (fb6 ln ab be pl ph bt))] at gln gab gbe glo ghi
        generalize upd H9 x (.ins C dx (fb6 ln ab be pl ph bt)) = HA at smA hxA gln gab gbe glo ghi
        have hbeA := hide_same _ _ gbe
        refine ⟨_, rfl, x, C, dx, _, _, rfl, hxA, T.cl, T.n3, rfl, .inl ⟨rfl, _, SqL.of hbeA⟩, _, rfl, x, C, dx, _, _, rfl, hxA, T.cl, T.n3, rfl, be, (List.range n).map fun y => ((maskF n (fun z => b z y) : Nat) : Int), rfl, by rw [← inA fun y => maskF n fun z => b z y]; exact SqL.of hbeA, lnr _, fun m hm hmax => ?_⟩
        have em := big (fun y => maskF n fun z => b z y) tp m B.tp.1 (fun y hy => mask_mono fun z hz _ => B.tp.2 z hz) hm hmax
        subst em
        refine ⟨be, _, _, tp, _, rfl, rfl, SqL.of hbeA, rfl, fl _, getB tp B.tp.1, (by show (((maskF n (fun z => b z tp) : Nat) : Int) == _) = true; exact beq_self_eq_true _), first (fun y => maskF n fun z => b z y) tp B.tp.1 injB, _, rfl, x, C, dx, _, rfl, hxA, T.cl, T.n7, (by show 6 < 1000; decide), ?_⟩
        rw [show putF "greatest" (.int ((tp : Nat) : Int)) (fb6 ln ab be pl ph bt) = flB ⟨ln, ab, be, pl, ph, bt, tp⟩ from rfl]
        have smB : SmX [x] H (upd HA x (.ins C dx (flB ⟨ln, ab, be, pl, ph, bt, tp⟩))) := smA.put mx
        have hxB : upd HA x (.ins C dx (flB ⟨ln, ab, be, pl, ph, bt, tp⟩)) x = some (.ins C dx (flB ⟨ln, ab, be, pl, ph, bt, tp⟩)) := upd_same
        rw [← hide_upd (x := x) (M := M) (H := HA) (o := .ins C dx (flB ⟨ln, ab, be, pl, ph, bt, tp⟩))] at gln gab gbe glo ghi
        generalize upd HA x (.ins C dx (flB ⟨ln, ab, be, pl, ph, bt, tp⟩)) = HB at smB hxB gln gab gbe glo ghi
        have sub : Same (hide (x :: M) HB) (hide M HB) := hide_sub fun b hb => List.mem_cons_of_mem _ hb
        exact good HB ⟨ln, ab, be, pl, ph, bt, tp⟩ smB ⟨⟨dx, by rw [hide_ne xM]; exact hxB⟩, sub _ _ gln, sub _ _ gab, sub _ _ gbe, dp_same sub _ _ glo, dp_same sub _ _ ghi⟩ rfl rfl
end
end FvO


namespace FvX
open PySem PySem.Spec PyProof.Rows L2 Fv
/-! ### methods that may raise; by keywords; properties -/
structure MetR (P : Program) (w : World) (K : PySem.W.Frag) (mg : Str → Option Value) (base : Heap) (k : Nat) (C : Addr) (m : Str) (sp : Sp) : Prop where
  ex : ∃ f : Addr, Cls K C ∧ Meth K C m f ∧ FnR P w K mg base (L2.CX P w) k f sp
structure MetKR (P : Program) (w : World) (K : PySem.W.Frag) (mg : Str → Option Value) (base : Heap) (k : Nat) (C : Addr) (m : Str) (ps ks : List Str) (gV : List V → List V → List V) (sp : Sp) : Prop where
  ex : ∃ (f : Addr) (fd : FuncData) (g : List Value → List Value → List Value), Cls K C ∧ Meth K C m f ∧ KBn K fd ps 1 ks g gV ∧ FnOk P w K mg base (L2.CX P w) k f fd ps sp
structure PropK (P : Program) (w : World) (K : PySem.W.Frag) (mg : Str → Option Value) (base : Heap) (k : Nat) (C : Addr) (f : Str) (sp : Sp) : Prop where
  ex : ∃ (p g : Addr) (fd : FuncData), Cls K C ∧ PropOf K C f p g ∧ FnOk P w K mg base CX0 k g fd ["self"] sp ∧ Binds K fd ["self"] []
section
variable {X : Cx} {k : Nat} {C : Addr} {m : Str} {sp : Sp} {E : XK} {o e : Expr} {es : List Expr} {ta : TE} {t tk : TA} {apos pos : Pos} {pl : Sem Bool} {ps ks : List Str} {gV : List V → List V → List V} {kws : List Keyword}
theorem pe_mtR (M : MetR X.prog X.w X.K X.mg X.base k C m sp) (hr : Room k X.A) (hx : Passes (L2.CX X.prog X.w) X E) (he : PE X o ta) (ha : PA X (e :: es) t)
    (hst : starEach (e :: es) X.env = (false, eval e X.env) :: starEach es X.env := by rfl) (hpl : (backTo pos (starEach es X.env)).any (·.1) = false := by rfl)
    (ht : eval (.Call (.Attribute o m apos) (e :: es) [] pos) X.env = (do
      let ov ← eval o X.env
      standAt apos.atName
      let (f, first) ← holding [ov] (getMethod ov m pl)
      callWith pos f first (backTo pos (starEach (e :: es) X.env)) (backToKw pos (keywordEach [] X.env))) := by rfl) :
    PE X (.Call (.Attribute o m apos) (e :: es) [] pos) (tMethR C m sp E ta t) := by
  obtain ⟨f, h1, h2, h3⟩ := M.ex
  exact pe_methR (pl := pl) he h1 h2 h3 hr hx ha hst hpl ht
theorem pe_mtR0 (M : MetR X.prog X.w X.K X.mg X.base k C m sp) (hr : Room k X.A) (hx : Passes (L2.CX X.prog X.w) X E) (he : PE X o ta)
    (ht : eval (.Call (.Attribute o m apos) [] [] pos) X.env = (do
      let ov ← eval o X.env
      standAt apos.atName
      let (f, first) ← holding [ov] (getMethod ov m pl)
      callWith pos f first (backTo pos (starEach [] X.env)) (backToKw pos (keywordEach [] X.env))) := by rfl) :
    PE X (.Call (.Attribute o m apos) [] [] pos) (tMethR C m sp E ta tNil) := by
  obtain ⟨f, c, hm, F⟩ := M.ex
  refine ⟨fun pins s σ H Q I h => ?_⟩
  refine PySem.W.methodCall_KW (pl := pl) (thn (he.run pins s σ H _ I h) fun u s1 ⟨x, H1, I1, rx, a, dx, fs, ex, ea, l, q⟩ => ?_) ht
  subst ex
  obtain rfl : u = Value.ref a := rx
  refine getmeth_ok I1 ea c hm l ?_
  exact PySem.W.callWith_K0 (first := [.ref a]) I1.kIn hm.kp (wpAny_call (run_fnR (us := .ref a :: []) (vs := .ref a :: []) F hr hx I1 (.cons rfl .nil) q))
def tMethK (C : Addr) (m : Str) (n : Nat) (gV : List V → List V → List V) (sp : Sp) (E : XK) (ta : TE) (tk : TA) : TE := fun σ H Q => ta σ H fun x H1 => ∃ a dx fs, x = .ref a ∧ H1 a = some (.ins C dx fs) ∧ fs.lookup m = none ∧ tk σ H1 fun zs H2 => zs.length = n ∧ sp (gV [x] zs) H2 Q E
theorem pe_mtK (M : MetKR X.prog X.w X.K X.mg X.base k C m ps ks gV sp) (hr : Room k X.A) (hx : Passes (L2.CX X.prog X.w) X E) (he : PE X o ta) (hkw : PK X kws tk)
    (hall : (backToKw pos (keywordEach kws X.env)).all (·.1.isSome) = true := by rfl) (hks : (backToKw pos (keywordEach kws X.env)).filterMap (·.1) = ks := by rfl)
    (hpl : ((backTo pos (starEach [] X.env)).any (·.1) || (backToKw pos (keywordEach kws X.env)).any (·.1.isNone)) = false := by rfl)
    (ht : eval (.Call (.Attribute o m apos) [] kws pos) X.env = (do
      let ov ← eval o X.env
      standAt apos.atName
      let (f, first) ← holding [ov] (getMethod ov m pl)
      callWith pos f first (backTo pos (starEach [] X.env)) (backToKw pos (keywordEach kws X.env))) := by rfl) :
    PE X (.Call (.Attribute o m apos) [] kws pos) (tMethK C m ks.length gV sp E ta tk) := by
  obtain ⟨f, fd, g, c, hm, hb, F⟩ := M.ex
  refine ⟨fun pins s σ H Q I h => ?_⟩
  refine PySem.W.methodCall_KW (pl := pl) (thn (he.run pins s σ H _ I h) fun u s1 ⟨x, H1, I1, rx, a, dx, fs, ex, ea, l, q⟩ => ?_) ht
  subst ex
  obtain rfl : u = Value.ref a := rx
  refine getmeth_ok I1 ea c hm l ?_
  refine PySem.W.callWith_KW0 (first := [.ref a]) (h₀ := X.base) I1.ok.mod.kin hm.kp hall ?_ hpl
  refine thn (hkw.run pos pins s1 σ H1 _ I1 q) fun ws s2 ⟨zs, H2, I2, rz, l2, q2⟩ => ⟨I2.kIn, ?_⟩
  rw [hks]
  exact run_fnN (us := [.ref a]) (vs := [.ref a]) F hr hb hx I2 (.cons rfl .nil) rz rfl l2 q2
theorem pe_propK (M : PropK X.prog X.w X.K X.mg X.base k C m sp) (hr : Room (k + 1) X.A) (he : PE X e ta) (hab : attributeBase e m X.env (eval e X.env) = eval e X.env := by rfl) : PE X (.Attribute e m pos) (tProp C sp [] E0 ta) := by
  obtain ⟨p, g, fd, c, hp, F, hb⟩ := M.ex
  exact pe_prop he c hp F hr hb .nil pass0 hab
end
end FvX


namespace FvO
open PySem PySem.Spec PyProof.Rows L2 Fv FvW FvX
open FvK (pe_fldK)
-- top 26  slots: 0:self 1:value
abbrev s_has_place__of__Board : Stmt := inClass (topS 26) 8
abbrev N_has_place__of__Board : List Str := ["self", "value"]
theorem sc_has_place__of__Board : FnScope N_has_place__of__Board ["self", "value"] (defScope s_has_place__of__Board) := ⟨rfl, rfl, rfl, by decide +kernel, rfl, by decide +kernel, by decide +kernel⟩

-- top 26  slots: 0:self 1:places 2:place
abbrev s_check_places__of__Board : Stmt := inClass (topS 26) 9
abbrev N_check_places__of__Board : List Str := ["self", "places", "place"]
theorem sc_check_places__of__Board : FnScope N_check_places__of__Board ["self", "places"] (defScope s_check_places__of__Board) := ⟨rfl, rfl, rfl, by decide +kernel, rfl, by decide +kernel, by decide +kernel⟩


-- top 26  slots: 0:self 1:places 2:found 3:place
abbrev s_low__of__Board : Stmt := inClass (topS 26) 11
abbrev N_low__of__Board : List Str := ["self", "places", "found", "place"]
theorem sc_low__of__Board : FnScope N_low__of__Board ["self", "places"] (defScope s_low__of__Board) := ⟨rfl, rfl, rfl, by decide +kernel, rfl, by decide +kernel, by decide +kernel⟩

-- top 26  slots: 0:self 1:places 2:found 3:place
abbrev s_up__of__Board : Stmt := inClass (topS 26) 12
abbrev N_up__of__Board : List Str := ["self", "places", "found", "place"]
theorem sc_up__of__Board : FnScope N_up__of__Board ["self", "places"] (defScope s_up__of__Board) := ⟨rfl, rfl, rfl, by decide +kernel, rfl, by decide +kernel, by decide +kernel⟩

-- top 26  slots: 0:self
abbrev s_bottom__of__Board : Stmt := inClass (topS 26) 6
abbrev N_bottom__of__Board : List Str := ["self"]
theorem sc_bottom__of__Board : FnScope N_bottom__of__Board ["self"] (defScope s_bottom__of__Board) := ⟨rfl, rfl, rfl, by decide +kernel, rfl, by decide +kernel, by decide +kernel⟩

-- top 26  slots: 0:self
abbrev s_top__of__Board : Stmt := inClass (topS 26) 7
abbrev N_top__of__Board : List Str := ["self"]
theorem sc_top__of__Board : FnScope N_top__of__Board ["self"] (defScope s_top__of__Board) := ⟨rfl, rfl, rfl, by decide +kernel, rfl, by decide +kernel, by decide +kernel⟩

/-! ### places -/
def plOk (n : Nat) (i : Int) : Bool := decide (0 ≤ i) && decide (i < (n : Nat))
def plB (n : Nat) : PyData → Bool
  | .int i => plOk n i
  | _ => false
def bad1 (n : Nat) (is : List Int) : Option Int := is.find? fun i => !plOk n i
def intsD (is : List Int) : List PyData := is.map PyData.int
def spHas (K : PySem.W.Frag) (C : Addr) : Sp := fun vs H Q _ => ∃ (c : Addr) (v : V) (d : PyData) (L : BL) (n : Nat) (b : Nat → Nat → Bool) (lo hi : Nat → Nat → Nat), vs = [.ref c, v] ∧ BAt K C H c L n b lo hi ∧ n ≤ 60 ∧ Dp K H v d ∧ Q (.bl (plB n d)) H
def spChk (K : PySem.W.Frag) (C CP : Addr) : Sp := fun vs H Q E => ∃ (c : Addr) (v : V) (d : PyData) (is : List Int) (L : BL) (n : Nat) (b : Nat → Nat → Bool) (lo hi : Nat → Nat → Nat), vs = [.ref c, v] ∧ BAt K C H c L n b lo hi ∧ n ≤ 60 ∧ Dp K H v d ∧ isSeq d = true ∧ rows d = intsD is ∧ (∀ i ∈ is, i.natAbs < 2 ^ 200) ∧
  (bad1 n is = none → ∀ H', Same H H' → Q .non H') ∧ ∀ i, bad1 n is = some i → errF CP "InvalidPlace" "place" (.int i) H E
def spBel (K : PySem.W.Frag) (C CP : Addr) : Sp := fun vs H Q E => ∃ (c : Addr) (i j : Int) (L : BL) (n : Nat) (b : Nat → Nat → Bool) (lo hi : Nat → Nat → Nat), vs = [.ref c, .int i, .int j] ∧ BAt K C H c L n b lo hi ∧ n ≤ 60 ∧ i.natAbs < 2 ^ 200 ∧ j.natAbs < 2 ^ 200 ∧
  (∀ x y : Nat, i = (x : Nat) → j = (y : Nat) → x < n → y < n → ∀ H', Same H H' → Q (.bl (b x y)) H') ∧ ∀ e, bad1 n [i, j] = some e → errF CP "InvalidPlace" "place" (.int e) H E
/-- a fold of bounds, from the greatest or the least place -/
def spFold (K : PySem.W.Frag) (C CP : Addr) (up : Bool) : Sp := fun vs H Q E => ∃ (c : Addr) (is : List Int) (L : BL) (n : Nat) (b : Nat → Nat → Bool) (lo hi : Nat → Nat → Nat) (bt tp : Nat), vs = .ref c :: is.map V.int ∧ BAt K C H c L n b lo hi ∧ Brd n b lo hi bt tp ∧ L.bt = bt ∧ L.tp = tp ∧ is.length ≤ 100 ∧ (∀ i ∈ is, i.natAbs < 2 ^ 200) ∧
  (∀ xs : List Nat, is = xs.map (fun x => ((x : Nat) : Int)) → (∀ x ∈ xs, x < n) → ∀ H', Same H H' → Q (.int ((xs.foldl (if up then hi else lo) (if up then bt else tp) : Nat) : Int)) H') ∧ ∀ e, bad1 n is = some e → errF CP "InvalidPlace" "place" (.int e) H E
def spFoldT (K : PySem.W.Frag) (C CP : Addr) (up : Bool) : Sp := fun vs H Q E => ∃ (c T : Addr) (is : List Int) (L : BL) (n : Nat) (b : Nat → Nat → Bool) (lo hi : Nat → Nat → Nat) (bt tp : Nat), vs = [.ref c, .ref T] ∧ SqT K H T (is.map V.int) ∧ BAt K C H c L n b lo hi ∧ Brd n b lo hi bt tp ∧ L.bt = bt ∧ L.tp = tp ∧ is.length ≤ 100 ∧ (∀ i ∈ is, i.natAbs < 2 ^ 200) ∧
  (∀ xs : List Nat, is = xs.map (fun x => ((x : Nat) : Int)) → (∀ x ∈ xs, x < n) → ∀ H', Same H H' → Q (.int ((xs.foldl (if up then hi else lo) (if up then bt else tp) : Nat) : Int)) H') ∧ ∀ e, bad1 n is = some e → errF CP "InvalidPlace" "place" (.int e) H E
theorem plOk_nat {n : Nat} {i : Int} (h : plOk n i = true) : ∃ x : Nat, i = (x : Nat) ∧ x < n := by
  unfold plOk at h
  rw [Bool.and_eq_true, decide_eq_true_iff, decide_eq_true_iff] at h
  exact ⟨i.toNat, by omega, by omega⟩
theorem bad_nats {n : Nat} {is : List Int} (h : bad1 n is = none) : ∃ xs : List Nat, is = xs.map (fun x => ((x : Nat) : Int)) ∧ ∀ x ∈ xs, x < n := by
  unfold bad1 at h
  rw [List.find?_eq_none] at h
  refine ⟨is.map Int.toNat, ?_, fun x hx => ?_⟩
  · rw [List.map_map]
    refine ((List.map_congr_left fun i hi => ?_).trans (List.map_id is)).symm
    obtain ⟨x, e, _⟩ := plOk_nat (n := n) (i := i) (by have := h i hi; simpa using this)
    show ((i.toNat : Nat) : Int) = id i
    rw [e]; rfl
  · obtain ⟨i, hi, rfl⟩ := List.mem_map.mp hx
    obtain ⟨x, e, l⟩ := plOk_nat (n := n) (i := i) (by have := h i hi; simpa using this)
    rw [e, Int.toNat_natCast]; exact l
section
variable {P : Program} {w : World} {K : PySem.W.Frag} {mg : Str → Option Value} {base : Heap} {C CP fP : Addr}
theorem ok_has {f : Addr} {fd : FuncData} {k : Nat} (F : Fun K "has_place" "Board.has_place" s_has_place__of__Board f fd) (T : TxB K C) (m_isinstance : mg "isinstance" = none) (m_int : mg "int" = none) (m_bool : mg "bool" = none) (m_len : mg "len" = none) :
    FnOk P w K mg base CX0 (k + 1) f fd ["self", "value"] (spHas K C) := by
  refine F.ok sc_has_place__of__Board (fun vs H Q E h => ?_) (fun cdv A outer s H vs Q E hr h => ?_)
  · obtain ⟨c, v, d, L, n, b, lo, hi, rfl, _⟩ := h
    rfl
  · obtain ⟨c, v, d, L, n, b, lo, hi, rfl, hB, n60, hd, q⟩ := h
    refine ⟨_, (pss_one (ps_ret (pe_and (pe_isD (T := "int") (by rfl) m_isinstance (by rfl) m_int (pv 1)) (pe_and (pe_not (pe_isD (T := "bool") (by rfl) m_isinstance (by rfl) m_bool (pv 1))) (pe_and (pe_cmpR op_ge (pv 1) pe_int (nomark _)) (pe_one (pe_cmpR op_lt (pv 1) (pe_callB call_len_seq (by rfl) m_len (by decide +kernel) (pa_cons (pe_fldK (K := K) rfl (pv 0) rfl) pa_nil)) (nomark _)))))))), ?_⟩
    refine ⟨_, rfl, _, _, d, rfl, by decide, hd, _, rfl, ?_⟩
    cases d with
    | int i =>
      cases hd
      refine iteT ⟨_, rfl, _, _, .int i, rfl, by decide, .int i, _, rfl, ?_⟩
      refine ⟨_, rfl, iteT ⟨_, rfl, _, _, rfl, rfl, _, rfl, ?_⟩⟩
      have q : Q (.bl (decide (0 ≤ i) && decide (i < (n : Nat)))) H := q
      obtain ⟨dx, ob⟩ := hB.ob
      refine ite2 (fun c => ?_) (fun c => ?_)
      · have c' : decide (0 ≤ i) = true := by rw [decide_eq_true_iff] at c ⊢; omega
        rw [c', Bool.true_and] at q
        refine ⟨_, rfl, _, rfl, _, C, dx, _, _, rfl, ob, T.cl, T.n1, rfl, L.ln, _, rfl, .inl (SqL.of hB.ln), _, _, rfl, rfl, ?_⟩
        rw [rows_lenF]
        exact q
      · have c' : decide (0 ≤ i) = false := by rw [Bool.eq_false_iff, Ne, decide_eq_true_iff] at *; omega
        rw [c', Bool.false_and] at q
        exact q
    | bool b' =>
      cases hd
      exact iteT ⟨_, rfl, _, _, .bool b', rfl, by decide, .bl b', _, rfl, _, rfl, iteF q⟩
    | _ => exact iteF q
theorem ok_chk {f : Addr} {fd : FuncData} {k : Nat} {qual : Str} {q : ErrPos1} {me : Expr} {j2 : Nat} (F : Fun K "check_places" "Board.check_places" s_check_places__of__Board f fd) (hk : 1 ≤ k)
    (T_IP : ErrC1 P.main.file K CP fP qual q me "InvalidPlace" "place" j2) (hline : LineOk1 q me) (hargs : ArgsOk me) (hme : ∀ u, MsgV u → MsgOk me "place" u) (htop : (P.main.scope.names.lookup ("super" : Str)).isSome = false) (m_super : mg "super" = none) (g_IP : mg "InvalidPlace" = some (.ref CP))
    (M_has_place : C8.Met P w K mg base 1 C "has_place" (spHas K C) []) :
    FnOk P w K mg base (L2.CX P w) (k + 1) f fd ["self", "places"] (spChk K C CP) := by
  refine F.okX sc_check_places__of__Board (fun vs H Q E h => ?_) (fun cdv A outer s H vs Q E hr h => ?_)
  · obtain ⟨c, v, d, is, L, n, b, lo, hi, rfl, _⟩ := h
    rfl
  · obtain ⟨c, v, d, is, L, n, b, lo, hi, rfl, hB, n60, hd, hsq, hrw, big, good, bad⟩ := h
    refine ⟨_, (pss_one (ps_for (passes_of rfl) rfl (FvW.pi_or (pi_list (pv 1)) (pi_tup (pv 1))) (pg_name (i := 2) sc_check_places__of__Board.nd rfl (by first | exact .inl rfl | exact .inr rfl))
        (pss_one (ps_if (pt_not (pt_val (C8.pe_mt M_has_place hr (by omega) (pv 0) (pa_cons (pv 2) pa_nil))))
          (pss_one (ps_raise rfl (takes_of rfl rfl rfl rfl) (pmk_err1 (k := 0) (by decide +kernel) T_IP hline hargs hme htop m_super (hr.mono (by omega)) (by rfl) g_IP (pa_cons (pv 2) pa_nil))))
          pss_nil)))), ?_⟩
    obtain ⟨dx, ob⟩ := hB.ob
    refine i_seq rfl hd hsq (Same.refl _) fun J Gd ys hys hW hG => for_it hW (fun i σ H2 => ∃ y2 : Option V, σ = [some (.ref c), some v, y2] ∧ Same H H2 ∧ bad1 n (is.take i) = none) ?_ ?_ ?_ ?_
    · exact ⟨_, rfl, Same.refl _, rfl⟩
    · rintro i σ H2 _ ⟨y2, rfl, sm, _⟩
      exact hG H2 sm
    · rintro i x σ H2 H2' hil ⟨y2, rfl, sm, nb⟩ ⟨rfl, hx⟩
      obtain ⟨e, he, hDe⟩ := dpAll_get hys hx
      rw [hrw] at he
      unfold intsD at he
      rw [List.getElem?_map] at he
      obtain ⟨i0, hi0, rfl⟩ := Option.map_eq_some_iff.mp he
      have hDe := dp_same sm _ _ hDe
      refine ⟨_, rfl, c, dx, _, rfl, sm _ _ ob, rfl, _, rfl, c, x, .int i0, L, n, b, lo, hi, rfl, hB.same sm, n60, hDe, _, rfl, ?_⟩
      show if (!plOk n i0) = true then _ else _
      have tk : is.take (i + 1) = is.take i ++ [i0] := by rw [List.take_add_one, hi0]; rfl
      cases hp : plOk n i0 with
      | true =>
        refine iteF ⟨_, rfl, sm, ?_⟩
        unfold bad1 at nb ⊢
        rw [tk, List.find?_append, nb]
        simp [hp]
      | false =>
        cases hDe
        have eb : bad1 n is = some i0 := by
          have h1 : bad1 n (is.take (i + 1)) = some i0 := by
            unfold bad1 at nb ⊢
            rw [tk, List.find?_append, nb]
            simp [hp]
          have h2 := List.take_append_drop (i + 1) is
          unfold bad1 at h1 ⊢
          rw [← h2, List.find?_append, h1]
          rfl
        have bg := big i0 (List.mem_of_getElem? hi0)
        refine iteT ⟨_, rfl, _, rfl, .inr ⟨i0, rfl, ?_⟩, fun dd nd => ?_⟩
        · by_cases z : i0.natAbs = 0
          · rw [z]; decide
          · exact Nat.lt_of_lt_of_le ((Nat.log2_lt z).mpr bg) (by decide)
        · exact bad i0 eb _ dd (sm.trans (same_upd nd)) upd_same
    · rintro σ H2 ⟨y2, rfl, sm, nb⟩
      have ly := dpAll_len hys
      rw [hrw] at ly
      have l2 : is.length = ys.length := by rw [ly]; unfold intsD; rw [List.length_map]
      rw [← l2, List.take_length] at nb
      exact good nb H2 sm
theorem tab_ix' {H : Hp} {p : Addr} {n x : Nat} {g : Nat → Nat → Nat} (h : Dp K H (.ref p) (tabD n g)) (hx : x < n) : ∃ xs b, SqL K H p xs ∧ xs.length = n ∧ atI xs ((x : Nat) : Int) = some (.ref b) ∧ Dp K H (.ref b) (rowD n (g x)) := by
  obtain ⟨xs, hs, ha⟩ := tab_inv h
  have lx := dpAll_len ha
  rw [List.length_map, List.length_range] at lx
  obtain ⟨v, hv⟩ : ∃ v, xs[x]? = some v := ⟨_, List.getElem?_eq_getElem (by omega)⟩
  obtain ⟨d, hd, hDv⟩ := dpAll_get ha hv
  rw [List.getElem?_map, List.getElem?_range hx] at hd
  have e : rowD n (g x) = d := Option.some.inj hd
  subst e
  obtain ⟨b, rfl⟩ : ∃ b, v = .ref b := by cases hDv; exact ⟨_, rfl⟩
  exact ⟨xs, b, hs, lx, atI_nat hv, hDv⟩
theorem row_ixO {H : Hp} {b : Addr} {n y : Nat} {g : Nat → Nat} (h : Dp K H (.ref b) (rowD n g)) (hy : y < n) : ∃ ys, SqL K H b ys ∧ atI ys ((y : Nat) : Int) = some (.int (g y : Nat)) := by
  cases h with
  | @lst _ ys _ hs ha =>
    have ly := dpAll_len ha
    rw [List.length_map, List.length_range] at ly
    obtain ⟨v, hv⟩ : ∃ v, ys[y]? = some v := ⟨_, List.getElem?_eq_getElem (by omega)⟩
    obtain ⟨d, hd, hDv⟩ := dpAll_get ha hv
    rw [List.getElem?_map, List.getElem?_range hy] at hd
    have e : PyData.int (g y : Nat) = d := Option.some.inj hd
    subst e
    cases hDv
    exact ⟨ys, hs, atI_nat hv⟩
theorem ok_low {f : Addr} {k : Nat} {oc : Value} {od an : Option Addr} {osl : Array (Option Value)} {kV doc pm cdv ct : Value} (lk : K.lookup f = some ⟨oc, od, .func (PySem.W.fnOf "low" "Board.low" (defArgs s_low__of__Board) (defBody s_low__of__Board) (defScope s_low__of__Board) .none kV doc pm an cdv ct), osl⟩) (hcd : PySem.W.codeIn K cdv "Board.low" = true) (T : TxB K C) (hk : 2 ≤ k)
    (M_check_places : MetR P w K mg base 2 C "check_places" (spChk K C CP)) :
    FnR P w K mg base (L2.CX P w) (k + 1) f (spFold K C CP false) := by
  have z := StX.fn_star (ps := ["self"]) (pv := "places") (N := N_low__of__Board) (k := k) (P := P) (w := w) (mg := mg) (base := base) (CX := L2.CX P w) (sp := spFoldT K C CP false) lk hcd sc_low__of__Board StX.cxUp
    (fun us rest hl => match us, rest, hl with | [_], [], _ => rfl | [_], _ :: _, _ => rfl) (fun A outer s H vs Q E hr h => ?_)
  · refine z.imp fun vs H Q E h => ?_
    obtain ⟨c, is, L, n, b, lo, hi, bt, tp, rfl, hB, B, e1, e2, l100, big, good, bad⟩ := h
    refine ⟨[.ref c], is.map V.int, rfl, rfl, by rw [List.length_map, sizeLine_eq]; omega, fun p np => ?_⟩
    have sp := same_upd (o := .tup (is.map V.int)) np
    exact ⟨c, p, is, L, n, b, lo, hi, bt, tp, rfl, SqT.of upd_same, hB.same sp, B, e1, e2, l100, big, fun xs e lt H' s' => good xs e lt H' (sp.trans s'), fun e he => (bad e he).mono sp⟩
  · obtain ⟨c, T1, is, L, n, b, lo, hi, bt, tp, rfl, hT, hB, B, e1, e2, l100, big, good, bad⟩ := h
    refine ⟨_, (pss_cons (ps_expr (pe_mtR M_check_places (hr.mono (by omega)) passX (pv 0) (pa_cons (pv 1) pa_nil)))
      (pss_cons (ps_set (i := 2) sc_low__of__Board.nd rfl (by first | exact .inl rfl | exact .inr rfl) (pe_fldK (K := K) rfl (pv 0) rfl))
      (pss_cons (ps_for (passes_of rfl) rfl (pi_tup (pv 1)) (pg_name (i := 3) sc_low__of__Board.nd rfl (by first | exact .inl rfl | exact .inr rfl))
        (pss_one (ps_set (i := 2) sc_low__of__Board.nd rfl (by first | exact .inl rfl | exact .inr rfl) (pe_ix ix_list (pe_ix ix_list (pe_fldK (K := K) rfl (pv 0) rfl) (pv 2) (fun _ _ => rfl)) (pv 3) (fun _ _ => rfl)))))
      (pss_one (ps_ret (pv 2)))))), ?_⟩
    obtain ⟨dx, ob⟩ := hB.ob
    have dps : ∀ l : List Int, DpAll K H (l.map V.int) (intsD l) := fun l => by
      induction l with
      | nil => exact .nil
      | cons i l ih => exact .cons (.int i) ih
    refine ⟨_, rfl, c, dx, _, rfl, ob, rfl, _, rfl, c, .ref T1, .tuple (intsD is), is, L, n, b, lo, hi, rfl, hB, B.n60, .tup hT (dps is), rfl, rfl, big, fun eb H1 s1 => ?_, bad⟩
    obtain ⟨xs, rfl, lt⟩ := bad_nats eb
    refine ⟨_, rfl, c, C, dx, _, _, rfl, s1 _ _ ob, T.cl, T.n7, rfl, _, rfl, T1, rfl, ⟨_, same_seqT s1 hT⟩, for_tup (xs := (xs.map fun x => ((x : Nat) : Int)).map V.int) (fun j σ H2 => ∃ y3 : Option V, σ = [some (.ref c), some (.ref T1), some (.int (((xs.take j).foldl lo L.tp : Nat) : Int)), y3] ∧ Same H H2 ∧ (xs.take j).foldl lo L.tp < n) ?_ ?_ ?_ ?_⟩
    · exact ⟨_, rfl, s1, by rw [e2]; exact B.tp.1⟩
    · rintro j σ H2 _ ⟨y3, rfl, s2, _⟩
      exact same_seqT s2 hT
    · rintro j v σ H2 hv ⟨y3, rfl, s2, lf⟩
      rw [List.getElem?_map, List.getElem?_map] at hv
      obtain ⟨x, hx, rfl⟩ : ∃ x, xs[j]? = some x ∧ V.int ((x : Nat) : Int) = v := by
        cases e : xs[j]? with
        | none => rw [e] at hv; cases hv
        | some x => rw [e] at hv; exact ⟨x, rfl, Option.some.inj hv⟩
      have lx := lt x (List.mem_of_getElem? hx)
      obtain ⟨rs, bb, h1, _, h3, h4⟩ := tab_ix' (dp_same s2 _ _ hB.lo) lf
      obtain ⟨ys, h5, h6⟩ := row_ixO h4 lx
      have st : (xs.take (j + 1)).foldl lo L.tp = lo ((xs.take j).foldl lo L.tp) x := by
        rw [List.take_add_one, hx, List.foldl_append]; rfl
      refine ⟨_, rfl, c, C, dx, _, _, rfl, s2 _ _ ob, T.cl, T.n4, rfl, _, rfl, L.lo, _, _, _, rfl, rfl, h1, h3, _, rfl, bb, _, _, _, rfl, rfl, h5, h6, ?_⟩
      exact ⟨_, by rw [st]; rfl, s2, by rw [st]; exact (B.lo _ _ lf lx).1⟩
    · rintro σ H2 ⟨y3, rfl, s2, _⟩
      rw [List.length_map, List.length_map, List.take_length]
      refine ⟨_, rfl, ?_⟩
      have z := good xs rfl lt H2 s2
      rw [e2]
      exact z
theorem ok_up {f : Addr} {k : Nat} {oc : Value} {od an : Option Addr} {osl : Array (Option Value)} {kV doc pm cdv ct : Value} (lk : K.lookup f = some ⟨oc, od, .func (PySem.W.fnOf "up" "Board.up" (defArgs s_up__of__Board) (defBody s_up__of__Board) (defScope s_up__of__Board) .none kV doc pm an cdv ct), osl⟩) (hcd : PySem.W.codeIn K cdv "Board.up" = true) (T : TxB K C) (hk : 2 ≤ k)
    (M_check_places : MetR P w K mg base 2 C "check_places" (spChk K C CP)) :
    FnR P w K mg base (L2.CX P w) (k + 1) f (spFold K C CP true) := by
  have z := StX.fn_star (ps := ["self"]) (pv := "places") (N := N_up__of__Board) (k := k) (P := P) (w := w) (mg := mg) (base := base) (CX := L2.CX P w) (sp := spFoldT K C CP true) lk hcd sc_up__of__Board StX.cxUp
    (fun us rest hl => match us, rest, hl with | [_], [], _ => rfl | [_], _ :: _, _ => rfl) (fun A outer s H vs Q E hr h => ?_)
  · refine z.imp fun vs H Q E h => ?_
    obtain ⟨c, is, L, n, b, lo, hi, bt, tp, rfl, hB, B, e1, e2, l100, big, good, bad⟩ := h
    refine ⟨[.ref c], is.map V.int, rfl, rfl, by rw [List.length_map, sizeLine_eq]; omega, fun p np => ?_⟩
    have sp := same_upd (o := .tup (is.map V.int)) np
    exact ⟨c, p, is, L, n, b, lo, hi, bt, tp, rfl, SqT.of upd_same, hB.same sp, B, e1, e2, l100, big, fun xs e lt H' s' => good xs e lt H' (sp.trans s'), fun e he => (bad e he).mono sp⟩
  · obtain ⟨c, T1, is, L, n, b, lo, hi, bt, tp, rfl, hT, hB, B, e1, e2, l100, big, good, bad⟩ := h
    refine ⟨_, (pss_cons (ps_expr (pe_mtR M_check_places (hr.mono (by omega)) passX (pv 0) (pa_cons (pv 1) pa_nil)))
      (pss_cons (ps_set (i := 2) sc_up__of__Board.nd rfl (by first | exact .inl rfl | exact .inr rfl) (pe_fldK (K := K) rfl (pv 0) rfl))
      (pss_cons (ps_for (passes_of rfl) rfl (pi_tup (pv 1)) (pg_name (i := 3) sc_up__of__Board.nd rfl (by first | exact .inl rfl | exact .inr rfl))
        (pss_one (ps_set (i := 2) sc_up__of__Board.nd rfl (by first | exact .inl rfl | exact .inr rfl) (pe_ix ix_list (pe_ix ix_list (pe_fldK (K := K) rfl (pv 0) rfl) (pv 2) (fun _ _ => rfl)) (pv 3) (fun _ _ => rfl)))))
      (pss_one (ps_ret (pv 2)))))), ?_⟩
    obtain ⟨dx, ob⟩ := hB.ob
    have dps : ∀ l : List Int, DpAll K H (l.map V.int) (intsD l) := fun l => by
      induction l with
      | nil => exact .nil
      | cons i l ih => exact .cons (.int i) ih
    refine ⟨_, rfl, c, dx, _, rfl, ob, rfl, _, rfl, c, .ref T1, .tuple (intsD is), is, L, n, b, lo, hi, rfl, hB, B.n60, .tup hT (dps is), rfl, rfl, big, fun eb H1 s1 => ?_, bad⟩
    obtain ⟨xs, rfl, lt⟩ := bad_nats eb
    refine ⟨_, rfl, c, C, dx, _, _, rfl, s1 _ _ ob, T.cl, T.n6, rfl, _, rfl, T1, rfl, ⟨_, same_seqT s1 hT⟩, for_tup (xs := (xs.map fun x => ((x : Nat) : Int)).map V.int) (fun j σ H2 => ∃ y3 : Option V, σ = [some (.ref c), some (.ref T1), some (.int (((xs.take j).foldl hi L.bt : Nat) : Int)), y3] ∧ Same H H2 ∧ (xs.take j).foldl hi L.bt < n) ?_ ?_ ?_ ?_⟩
    · exact ⟨_, rfl, s1, by rw [e1]; exact B.bt.1⟩
    · rintro j σ H2 _ ⟨y3, rfl, s2, _⟩
      exact same_seqT s2 hT
    · rintro j v σ H2 hv ⟨y3, rfl, s2, lf⟩
      rw [List.getElem?_map, List.getElem?_map] at hv
      obtain ⟨x, hx, rfl⟩ : ∃ x, xs[j]? = some x ∧ V.int ((x : Nat) : Int) = v := by
        cases e : xs[j]? with
        | none => rw [e] at hv; cases hv
        | some x => rw [e] at hv; exact ⟨x, rfl, Option.some.inj hv⟩
      have lx := lt x (List.mem_of_getElem? hx)
      obtain ⟨rs, bb, h1, _, h3, h4⟩ := tab_ix' (dp_same s2 _ _ hB.hi) lf
      obtain ⟨ys, h5, h6⟩ := row_ixO h4 lx
      have st : (xs.take (j + 1)).foldl hi L.bt = hi ((xs.take j).foldl hi L.bt) x := by
        rw [List.take_add_one, hx, List.foldl_append]; rfl
      refine ⟨_, rfl, c, C, dx, _, _, rfl, s2 _ _ ob, T.cl, T.n5, rfl, _, rfl, L.hi, _, _, _, rfl, rfl, h1, h3, _, rfl, bb, _, _, _, rfl, rfl, h5, h6, ?_⟩
      exact ⟨_, by rw [st]; rfl, s2, by rw [st]; exact (B.hi _ _ lf lx).1⟩
    · rintro σ H2 ⟨y3, rfl, s2, _⟩
      rw [List.length_map, List.length_map, List.take_length]
      refine ⟨_, rfl, ?_⟩
      have z := good xs rfl lt H2 s2
      rw [e1]
      exact z
theorem rows_at {n : Nat} {b : Nat → Nat → Bool} {x : Nat} (h : x < n) : ((rowsF n b).map V.str)[x]? = some (.str (rowF n (b x))) := by
  unfold rowsF
  rw [List.getElem?_map, List.getElem?_map, List.getElem?_range h]; rfl
theorem one_chB (b : Bool) : decide (V.str (⟨#[chB b]⟩ : Str) = V.str "1") = b := by cases b <;> decide
def spBot (K : PySem.W.Frag) (C : Addr) (up : Bool) : Sp := fun vs H Q _ => ∃ (c : Addr) (L : BL) (dx : Addr), vs = [.ref c] ∧ H c = some (.ins C dx (flB L)) ∧ Q (.int ((if up then L.bt else L.tp : Nat) : Int)) H
theorem ok_bottom {f : Addr} {fd : FuncData} {k : Nat} (F : Fun K "bottom" "Board.bottom" s_bottom__of__Board f fd) (T : TxB K C) :
    FnOk P w K mg base CX0 (k + 1) f fd ["self"] (spBot K C true) := by
  refine F.ok sc_bottom__of__Board (fun vs H Q E h => ?_) (fun cdv A outer s H vs Q E hr h => ?_)
  · obtain ⟨c, L, dx, rfl, _⟩ := h
    rfl
  · obtain ⟨c, L, dx, rfl, ob, q⟩ := h
    refine ⟨_, (pss_one (ps_ret (pe_fldK (K := K) rfl (pv 0) rfl))), ?_⟩
    exact ⟨_, rfl, c, C, dx, _, _, rfl, ob, T.cl, T.n6, rfl, q⟩
theorem ok_top {f : Addr} {fd : FuncData} {k : Nat} (F : Fun K "top" "Board.top" s_top__of__Board f fd) (T : TxB K C) :
    FnOk P w K mg base CX0 (k + 1) f fd ["self"] (spBot K C false) := by
  refine F.ok sc_top__of__Board (fun vs H Q E h => ?_) (fun cdv A outer s H vs Q E hr h => ?_)
  · obtain ⟨c, L, dx, rfl, _⟩ := h
    rfl
  · obtain ⟨c, L, dx, rfl, ob, q⟩ := h
    refine ⟨_, (pss_one (ps_ret (pe_fldK (K := K) rfl (pv 0) rfl))), ?_⟩
    exact ⟨_, rfl, c, C, dx, _, _, rfl, ob, T.cl, T.n7, rfl, q⟩
/-- the law's boards are boards -/
theorem fam_brd {ms : List Nat} (Fm : Fam ms) : ∃ bt tp, Brd ms.length (leI ms) (lowI ms) (upI ms) bt tp := by
  have n1 : 1 ≤ ms.length := by
    obtain ⟨t, ht, _⟩ := Fm.top
    exact List.length_pos_of_mem ht
  have fold : ∀ (g : Nat → Nat → Nat) (r : Nat → Nat → Bool), (∀ x y, x < ms.length → y < ms.length → g x y < ms.length ∧ r (g x y) x = true ∧ r (g x y) y = true) → (∀ x y z, r x y = true → r y z = true → r x z = true) → (∀ x, r x x = true) → ∀ l : List Nat, (∀ z ∈ l, z < ms.length) → ∀ x, x < ms.length → ∃ y, y < ms.length ∧ r y x = true ∧ ∀ z ∈ l, r y z = true := fun g r hg tr rf l => by
    induction l with
    | nil => exact fun _ x hx => ⟨x, hx, rf x, fun z hz => (nomatch hz)⟩
    | cons a l ih =>
      intro hl x hx
      have ha := hl a List.mem_cons_self
      obtain ⟨h1, h2, h3⟩ := hg x a hx ha
      obtain ⟨y, y1, y2, y3⟩ := ih (fun z hz => hl z (List.mem_cons_of_mem _ hz)) _ h1
      refine ⟨y, y1, tr _ _ _ y2 h2, fun z hz => ?_⟩
      rcases List.mem_cons.mp hz with e | e
      · rw [e]; exact tr _ _ _ y2 h3
      · exact y3 z e
  have lo := fun x y hx hy => low_spec Fm (x := x) (y := y) hx hy
  have up := fun x y hx hy => up_spec Fm (x := x) (y := y) hx hy
  obtain ⟨bt, b1, _, b3⟩ := fold (lowI ms) (leI ms) (fun x y hx hy => ⟨(lo x y hx hy).1, ((lo x y hx hy).2 _ (lo x y hx hy).1).mp (leI_refl _)⟩) (fun x y z => leI_trans) leI_refl (List.range ms.length) (fun z hz => List.mem_range.mp hz) 0 n1
  obtain ⟨tp, t1, _, t3⟩ := fold (upI ms) (fun x y => leI ms y x) (fun x y hx hy => ⟨(up x y hx hy).1, ((up x y hx hy).2 _ (up x y hx hy).1).mp (leI_refl _)⟩) (fun x y z h g => leI_trans g h) (fun x => leI_refl x) (List.range ms.length) (fun z hz => List.mem_range.mp hz) 0 n1
  refine ⟨bt, tp, n1, Nat.le_trans Fm.ln (by decide), fun x _ => leI_refl x, fun x y hx hy => leI_anti Fm hx hy, fun x y z _ _ _ => leI_trans, fun x y hx hy => ⟨(lo x y hx hy).1, fun z hz => ?_⟩, fun x y hx hy => ⟨(up x y hx hy).1, fun z hz => ?_⟩, ⟨b1, fun z hz => b3 z (List.mem_range.mpr hz)⟩, ⟨t1, fun z hz => t3 z (List.mem_range.mpr hz)⟩⟩
  · rw [Bool.eq_iff_iff, Bool.and_eq_true]; exact (lo x y hx hy).2 z hz
  · rw [Bool.eq_iff_iff, Bool.and_eq_true]; exact (up x y hx hy).2 z hz
end
end FvO


namespace Fv
open PySem PySem.Spec PyProof.Rows L2 TL
/-! ### text * int -/
def mulS (x : Str) (n : Nat) : Str := ⟨(List.replicate n x.cps).foldl (· ++ ·) #[]⟩
def rMulS : R2 := fun x y H Q => ∃ (z : Str) (n : Nat), x = .str z ∧ y = .int (n : Nat) ∧ 2 ≤ n ∧ n ≤ 1000 ∧ 1 ≤ z.length ∧ z.length ≤ 10 ∧ Q (.str (mulS z n)) H
theorem op_mulS {X : Cx} : OpR X (binaryOp .Mult) rMulS := by
  intro pins s σ H x y v u Q I rx ry h
  obtain ⟨z, n, rfl, rfl, n2, n3, z1, z2, q⟩ := h
  obtain ⟨t, rfl⟩ := rx
  obtain ⟨t', rfl⟩ := ry
  have ok := mulOk_of (x := z) (n := (n : Nat)) 10 1000 z2 (by omega) (by omega) (by decide) (by decide)
  have c : ((((n : Nat) : Int) == 1) || z.length == 0) = false := by
    rw [Bool.or_eq_false_iff]
    exact ⟨beq_eq_false_iff_ne.mpr (by omega), beq_eq_false_iff_ne.mpr (by omega)⟩
  refine P.mul_str ok.1 ok.2.1 ok.2.2 ?_
  rw [if_neg (by omega), if_neg (by rw [c]; decide)]
  refine ⟨?_, ?_⟩
  · show ((List.replicate n z.cps).foldl (· ++ ·) #[]).size ≤ _
    rw [len_reps]
    have : n * z.cps.size ≤ 1000 * 10 := Nat.mul_le_mul n3 z2
    refine Nat.le_trans (?_ : _ ≤ 10000) (by decide)
    simp
    omega
  · exact ⟨.str (mulS z n), H, I.tok _, ⟨_, rfl⟩, q⟩
def rMulN : R2 := fun x y H Q => ∃ (z : Str) (n : Nat), x = .str z ∧ y = .int (n : Nat) ∧ 1 ≤ n ∧ n ≤ 1000 ∧ 1 ≤ z.length ∧ z.length ≤ 10 ∧ Q (.str (mulS z n)) H
theorem op_mulN {X : Cx} : OpR X (binaryOp .Mult) rMulN := by
  intro pins s σ H x y v u Q I rx ry h
  obtain ⟨z, n, rfl, rfl, n2, n3, z1, z2, q⟩ := h
  by_cases h2 : 2 ≤ n
  · exact op_mulS pins s σ H _ _ v u Q I rx ry ⟨z, n, rfl, rfl, h2, n3, z1, z2, q⟩
  have e1 : n = 1 := by omega
  subst e1
  obtain ⟨t, rfl⟩ := rx
  obtain ⟨t', rfl⟩ := ry
  have ok := mulOk_of (x := z) (n := ((1 : Nat) : Int)) 10 1000 z2 (by omega) (by omega) (by decide) (by decide)
  refine P.mul_str ok.1 ok.2.1 ok.2.2 ?_
  rw [if_neg (by decide), if_pos (by rfl)]
  have e : mulS z 1 = z := by
    unfold mulS
    obtain ⟨a⟩ := z
    simp
  rw [e] at q
  exact ⟨.str z, H, I, ⟨t, rfl⟩, q⟩
end Fv


namespace FvO
open PySem PySem.Spec PyProof.Rows L2 Fv FvW FvX TL
open FvK (pe_fldK)
open ClX (CRead CVal pe_cval)
-- top 26  slots: 0:self
abbrev s_rows__of__Board : Stmt := inClass (topS 26) 5
abbrev N_rows__of__Board : List Str := ["self"]
theorem sc_rows__of__Board : FnScope N_rows__of__Board ["self"] (defScope s_rows__of__Board) := ⟨rfl, rfl, rfl, by decide +kernel, rfl, by decide +kernel, by decide +kernel⟩


-- top 26  slots: 0:cls 1:size 2:at
abbrev s_chain__of__Board : Stmt := inClass (topS 26) 2
abbrev N_chain__of__Board : List Str := ["cls", "size", "at"]
theorem sc_chain__of__Board : FnScope N_chain__of__Board ["cls", "size"] (defScope s_chain__of__Board) := ⟨rfl, rfl, rfl, by decide +kernel, rfl, by decide +kernel, by decide +kernel⟩

-- top 26  slots: 0:cls 1:size 2:many 3:y 4:x
abbrev s_cube__of__Board : Stmt := inClass (topS 26) 3
abbrev N_cube__of__Board : List Str := ["cls", "size", "many", "y", "x"]
theorem sc_cube__of__Board : FnScope N_cube__of__Board ["cls", "size"] (defScope s_cube__of__Board) := ⟨rfl, rfl, rfl, by decide +kernel, rfl, by decide +kernel, by decide +kernel⟩

-- top 26  slots: 0:size 1:middle 2:at
abbrev s_fan__of__Board : Stmt := inClass (topS 26) 4
abbrev N_fan__of__Board : List Str := ["size", "middle", "at"]
theorem sc_fan__of__Board : FnScope N_fan__of__Board ["size"] (defScope s_fan__of__Board) := ⟨rfl, rfl, rfl, by decide +kernel, rfl, by decide +kernel, by decide +kernel⟩

theorem none_backO {H H1 : Hp} {p : Addr} (s : Same H H1) (h : H1 p = none) : H p = none := by
  cases e : H p with
  | none => rfl
  | some o => rw [s p o e] at h; cases h
/-! ### a class in a local name, called -/
structure MakR (P : Program) (w : World) (K : PySem.W.Frag) (mg : Str → Option Value) (base : Heap) (k : Nat) (C : Addr) (sp : Sp) : Prop where
  ex : ∃ f : Addr, Mk K C f ∧ FnR P w K mg base (L2.CX P w) k f sp
def tMakeV (i : Nat) (C : Addr) (sp : Sp) (E : XK) (t : TA) : TE := fun σ H Q => σ[i]? = some (some (.ref C)) ∧ StX.tMakeR C sp E t σ H Q
theorem pe_makeV {X : Cx} {i k : Nat} {C : Addr} {x : Str} {sp : Sp} {E : XK} {e : Expr} {es : List Expr} {t : TA} {p pos : Pos} (M : MakR X.prog X.w X.K X.mg X.base k C sp) (hr : Room (k + 1) X.A) (hN : X.N[i]? = some x) (hv : Vis X.env.scope x) (hx : Passes (L2.CX X.prog X.w) X E) (ha : PA X (e :: es) t)
    (hd : (x == ("__debug__" : Str)) = false := by decide) (hcd : (x == ("__classdict__" : Str)) = false := by decide)
    (he : starEach (e :: es) X.env = (false, eval e X.env) :: starEach es X.env := by rfl) (hpl : (backTo pos (starEach es X.env)).any (·.1) = false := by rfl) :
    PE X (.Call (.Name x p) (e :: es) [] pos) (tMakeV i C sp E t) := by
  obtain ⟨f, M, F⟩ := M.ex
  refine ⟨fun pins s σ H Q I h => ?_⟩
  obtain ⟨hs, h⟩ := h
  refine wpAny_Call_Name_kw (thn ((pe_var (pos := p) hN hv hd hcd).run pins s σ H (fun v H1 => v = .ref C ∧ H1 = H) I ⟨.ref C, hs, rfl, rfl⟩) fun u s1 ⟨v, H1, I1, r1, q1⟩ => ?_)
  obtain ⟨rfl, rfl⟩ := q1
  cases r1
  refine PySem.W.callWith_K (h₀ := X.base) I.ok.mod.kin M.kp (thn (ha.run pos pins s1 σ _ _ I1 h) fun us s2 ⟨vs, H2, I2, r, q⟩ => ⟨I2.kIn, ?_⟩) he hpl
  exact StX.run_makeR M F hr hx I2 r q
def rMulG : R2 := fun x y H Q => ∃ (z : Str) (n : Nat), x = .str z ∧ y = .int (n : Nat) ∧ n ≤ 1000 ∧ 1 ≤ z.length ∧ z.length ≤ 10 ∧ Q (.str (mulS z n)) H
def rCatS : R2 := fun x y H Q => ∃ i j, x = .str i ∧ y = .str j ∧ i.length + j.length ≤ sizeLine ∧ Q (.str (i ++ j)) H
theorem op_catS {X : Cx} : OpR X (binaryOp .Add) rCatS := op_add_str
theorem op_mulG {X : Cx} : OpR X (binaryOp .Mult) rMulG := by
  intro pins s σ H x y v u Q I rx ry h
  obtain ⟨z, n, rfl, rfl, n3, z1, z2, q⟩ := h
  by_cases h2 : 1 ≤ n
  · exact op_mulN pins s σ H _ _ v u Q I rx ry ⟨z, n, rfl, rfl, h2, n3, z1, z2, q⟩
  have e1 : n = 0 := by omega
  subst e1
  obtain ⟨t, rfl⟩ := rx
  obtain ⟨t', rfl⟩ := ry
  have ok := mulOk_of (x := z) (n := ((0 : Nat) : Int)) 10 1000 z2 (by omega) (by omega) (by decide) (by decide)
  refine P.mul_str ok.1 ok.2.1 ok.2.2 ?_
  rw [if_pos (by omega)]
  exact ⟨by decide, .str (mulS z 0), H, I.tok _, ⟨_, rfl⟩, q⟩
/-! ### the board turned over -/
theorem Brd.dual {n : Nat} {b : Nat → Nat → Bool} {lo hi : Nat → Nat → Nat} {bt tp : Nat} (B : Brd n b lo hi bt tp) : Brd n (fun x y => b y x) hi lo tp bt :=
  ⟨B.n1, B.n60, B.rf, fun x y hx hy h1 h2 => B.an x y hx hy h2 h1, fun x y z hx hy hz h1 h2 => B.tr z y x hz hy hx h2 h1,
   fun x y hx hy => ⟨(B.hi x y hx hy).1, fun z hz => (B.hi x y hx hy).2 z hz⟩, fun x y hx hy => ⟨(B.lo x y hx hy).1, fun z hz => (B.lo x y hx hy).2 z hz⟩, B.tp, B.bt⟩
theorem chain_brd {n : Nat} (h1 : 1 ≤ n) (h2 : n ≤ 60) : Brd n (fun x y => decide (x ≤ y)) min max 0 (n - 1) where
  n1 := h1
  n60 := h2
  rf := fun x _ => by simp
  an := fun x y _ _ a b => by simp at a b; omega
  tr := fun x y z _ _ _ a b => by simp at a b ⊢; omega
  lo := fun x y hx hy => ⟨by omega, fun z _ => by rw [Bool.eq_iff_iff]; simp; omega⟩
  hi := fun x y hx hy => ⟨by omega, fun z _ => by rw [Bool.eq_iff_iff]; simp; omega⟩
  bt := ⟨by omega, fun z _ => by simp⟩
  tp := ⟨by omega, fun z hz => by simp; omega⟩
def newB (K : PySem.W.Frag) (C : Addr) (M : List Addr) (n : Nat) (b : Nat → Nat → Bool) (lo hi : Nat → Nat → Nat) (bt tp : Nat) (H : Hp) (Q : VK) : Prop :=
  ∀ (H' : Hp) (x : Addr) (L : BL), Same H H' → H x = none → BAt K C (hide M H') x L n b lo hi → L.bt = bt → L.tp = tp → Q (.ref x) H'
def spRowsB (K : PySem.W.Frag) (C : Addr) : Sp := fun vs H Q _ => ∃ (c : Addr) (L : BL) (n : Nat) (b : Nat → Nat → Bool) (lo hi : Nat → Nat → Nat), vs = [.ref c] ∧ BAt K C H c L n b lo hi ∧ ∀ (H' : Hp) (p : Addr), Same H H' → H p = none → H' p = some (.lst ((rowsF n b).map V.str)) → Q (.ref p) H'
def spTurn (K : PySem.W.Frag) (C : Addr) : Sp := fun vs H Q _ => ∃ (M : List Addr) (c : Addr) (L : BL) (n : Nat) (b : Nat → Nat → Bool) (lo hi : Nat → Nat → Nat) (bt tp : Nat), vs = [.ref c] ∧ Trk M H ∧ BAt K C H c L n b lo hi ∧ Brd n b lo hi bt tp ∧ newB K C M n (fun x y => b y x) hi lo tp bt H Q
/-- a board of a family by its size: made, or refused -/
def spMade (K : PySem.W.Frag) (C CB : Addr) (ok : Int → Option Nat) (nn : Nat → Nat) (b : Nat → Nat → Nat → Bool) (lo hi : Nat → Nat → Nat → Nat) (bt tp : Nat → Nat) : Sp := fun vs H Q E => ∃ (M : List Addr) (i : Int), vs = [.ref C, .int i] ∧ Trk M H ∧
  (∀ n, ok i = some n → newB K C M (nn n) (b n) (lo n) (hi n) (bt n) (tp n) H Q) ∧ (ok i = none → errAt CB "InvalidBoard" H E)
def okI (a z : Int) (i : Int) : Option Nat := if a ≤ i ∧ i ≤ z then some i.toNat else none
def spChain (K : PySem.W.Frag) (C CB : Addr) : Sp := spMade K C CB (okI 1 60) (fun n => n) (fun _ x y => decide (x ≤ y)) (fun _ => min) (fun _ => max) (fun _ => 0) (fun n => n - 1)
def spCube (K : PySem.W.Frag) (C CB : Addr) : Sp := spMade K C CB (okI 0 5) (fun k => 2 ^ k) (fun _ x y => decide (x &&& y = x)) (fun _ => (· &&& ·)) (fun _ => (· ||| ·)) (fun _ => 0) (fun k => 2 ^ k - 1)
def fanB (n x y : Nat) : Bool := decide (x = y) || decide (x = 0) || decide (y = n - 1)
def fanL (n x y : Nat) : Nat := if x = y then x else if x = n - 1 then y else if y = n - 1 then x else 0
def fanH (n x y : Nat) : Nat := if x = y then x else if x = 0 then y else if y = 0 then x else n - 1
def spFan (K : PySem.W.Frag) (C CB : Addr) : Sp := fun vs H Q E => ∃ (M : List Addr) (i : Int), vs = [.int i] ∧ Trk M H ∧
  (∀ n, okI 1 58 i = some n → newB K C M (n + 2) (fanB (n + 2)) (fanL (n + 2)) (fanH (n + 2)) 0 (n + 1) H Q) ∧ (okI 1 58 i = none → errAt CB "InvalidBoard" H E)
theorem fan_brd {n : Nat} (h1 : 3 ≤ n) (h2 : n ≤ 60) : Brd n (fanB n) (fanL n) (fanH n) 0 (n - 1) where
  n1 := by omega
  n60 := h2
  rf := fun x _ => by unfold fanB; simp
  an := fun x y _ _ a b => by unfold fanB at a b; simp at a b; omega
  tr := fun x y z _ _ _ a b => by unfold fanB at a b ⊢; simp at a b ⊢; omega
  lo := fun x y hx hy => ⟨by unfold fanL; (repeat' split) <;> omega, fun z hz => by
    rw [Bool.eq_iff_iff, Bool.and_eq_true]
    unfold fanB fanL
    simp only [Bool.or_eq_true, decide_eq_true_eq]
    (repeat' split) <;> omega⟩
  hi := fun x y hx hy => ⟨by unfold fanH; (repeat' split) <;> omega, fun z hz => by
    rw [Bool.eq_iff_iff, Bool.and_eq_true]
    unfold fanB fanH
    simp only [Bool.or_eq_true, decide_eq_true_eq]
    (repeat' split) <;> omega⟩
  bt := ⟨by omega, fun z _ => by unfold fanB; simp⟩
  tp := ⟨by omega, fun z _ => by unfold fanB; simp⟩
section
variable {P : Program} {w : World} {K : PySem.W.Frag} {mg : Str → Option Value} {base : Heap} {C : Addr}
theorem ok_rowsB {f : Addr} {fd : FuncData} {k : Nat} (F : Fun K "rows" "Board.rows" s_rows__of__Board f fd) (T : TxB K C) (m_list : mg "list" = none) :
    FnOk P w K mg base CX0 (k + 1) f fd ["self"] (spRowsB K C) := by
  refine F.ok sc_rows__of__Board (fun vs H Q E h => ?_) (fun cdv A outer s H vs Q E hr h => ?_)
  · obtain ⟨c, L, n, b, lo, hi, rfl, _⟩ := h
    rfl
  · obtain ⟨c, L, n, b, lo, hi, rfl, hB, good⟩ := h
    refine ⟨_, (pss_one (ps_ret (pe_callTy call_list_of (by rfl) m_list (by decide +kernel) (pa_cons (pe_fldK (K := K) rfl (pv 0) rfl) pa_nil)))), ?_⟩
    obtain ⟨dx, ob⟩ := hB.ob
    refine ⟨_, rfl, c, C, dx, _, _, rfl, ob, T.cl, T.n1, rfl, L.ln, _, rfl, .inl (SqL.of hB.ln), fun p np => ?_⟩
    exact good _ p (same_upd np) np upd_same
theorem rep_mk (c : Nat) (x : Str) (hx : x = ⟨#[c]⟩) (n : Nat) : mulS x n = mk (List.replicate n c) := by
  have h : ∀ (n : Nat) (acc : Array Nat), ((List.replicate n (#[c] : Array Nat)).foldl (· ++ ·) acc) = acc ++ (List.replicate n c).toArray := by
    intro n
    induction n with
    | zero => intro acc; simp
    | succ n ih =>
      intro acc
      rw [List.replicate_succ, List.foldl_cons, ih, List.replicate_succ]
      refine Array.ext' ?_
      simp
  subst hx
  show (⟨(List.replicate n (#[c] : Array Nat)).foldl (· ++ ·) #[]⟩ : Str) = ⟨_⟩
  rw [h]
  simp
theorem chain_row {n j : Nat} (h : j ≤ n) : mulS "0" j ++ mulS "1" (n - j) = rowF n fun y => decide (j ≤ y) := by
  rw [rep_mk 48 "0" rfl, rep_mk 49 "1" rfl]
  have e : List.replicate j 48 ++ List.replicate (n - j) 49 = (List.range n).map fun y => chB (decide (j ≤ y)) := by
    refine List.ext_getElem (by simp; omega) fun i h1 h2 => ?_
    rw [List.getElem_map, List.getElem_range, List.getElem_append]
    by_cases c : i < j
    · rw [dif_pos (by simpa using c), List.getElem_replicate, decide_eq_false (by omega)]; rfl
    · rw [dif_neg (by simpa using c), List.getElem_replicate, decide_eq_true (by omega)]; rfl
  unfold rowF
  rw [← e]
  show (⟨_ ++ _⟩ : Str) = ⟨_⟩
  simp [mk]
theorem mul_len (c : Nat) (x : Str) (hx : x = ⟨#[c]⟩) (n : Nat) : (mulS x n).length = n := by
  rw [rep_mk c x hx, mk_len, List.length_replicate]
theorem ok_chain {CB fI : Addr} {qual msg : Str} {q : ErrPos} {j1 j2 : Nat} {f : Addr} {fd : FuncData} {k : Nat} (F : Fun K "chain" "Board.chain" s_chain__of__Board f fd) (TM : TxM K C) (hk : 6 ≤ k) (m_range : mg "range" = none)
    (T_IB : ErrC P.main.file K CB fI qual q msg "InvalidBoard" j1 j2) (hline : LineOk q msg j1) (htop : (P.main.scope.names.lookup ("super" : Str)).isSome = false) (m_super : mg "super" = none) (g_IB : mg "InvalidBoard" = some (.ref CB))
    (M_Board : MakR P w K mg base 4 C (spBIn K C)) :
    FnOk P w K mg base (L2.CX P w) (k + 1) f fd ["cls", "size"] (spChain K C CB) := by
  refine F.okX sc_chain__of__Board (fun vs H Q E h => ?_) (fun cdv A outer s H vs Q E hr h => ?_)
  · obtain ⟨M, i, rfl, _⟩ := h
    rfl
  · obtain ⟨M, i, rfl, tM, good, bad⟩ := h
    refine ⟨_, (pss_cons (ps_if (PW.pt (pw_or (pt_cmpR op_lt (pv 1) pe_int (nomark _)) (pw_or1 (pt_cmpR op_gt (pv 1) (pe_cval (pv 0)) (nomark _)))))
        (pss_one (ps_raise rfl (takes_of rfl rfl rfl rfl) (pmk_err0 (k := 0) T_IB hline htop m_super (hr.mono (by omega)) (by rfl) g_IB)))
        pss_nil)
      (pss_one (ps_ret (pe_makeV (i := 0) M_Board (hr.mono (by omega)) rfl (.inl rfl) passE0 (pa_cons (pe_lc (own := [("at", 2)]) (g := gName 2) (by rfl) sc_chain__of__Board.nd (pi_range1 (by rfl) m_range (pa_cons (pv 1) pa_nil)) (blkOk_by (own := [("at", 2)]) (N := N_chain__of__Board) (sc := defScope s_chain__of__Board) (by decide +kernel)) (fun _ _ _ _ _ => pg_name (i := 2) sc_chain__of__Board.nd rfl (Or.inl rfl)) (fun _ _ _ _ _ => pts_nil) (fun _ _ _ _ _ => (pe_op op_catS (pe_op op_mulG pe_str (pv 2)) (pe_op op_mulG pe_str (pe_op op_sub (pv 1) (pv 2)))))) pa_nil))))), ?_⟩
    obtain ⟨mc, u, cr, cv⟩ := TM.ex
    have bad1 : ¬ (1 ≤ i ∧ i ≤ 60) → ∀ dd, H dd = none → E (.ref CB) (some dd) (upd H dd (.xd [("code", .str "InvalidBoard")])) := fun h dd nd => bad (if_neg h) _ dd (same_upd nd) upd_same
    refine ⟨_, rfl, _, _, rfl, rfl, _, rfl, ?_⟩
    by_cases c1 : i < 1
    · rw [decide_eq_true c1]
      exact iteT (iteT fun dd nd => bad1 (by omega) dd nd)
    rw [decide_eq_false c1]
    refine iteF ⟨_, rfl, _, rfl, C, mc, .int 60, u, rfl, cr, cv, _, _, rfl, rfl, _, rfl, ?_⟩
    by_cases c2 : (60 : Int) < i
    · rw [decide_eq_true c2]
      exact iteT fun dd nd => bad1 (by omega) dd nd
    rw [decide_eq_false c2]
    refine iteF ⟨rfl, ?_⟩
    obtain ⟨n, rfl⟩ : ∃ n : Nat, i = (n : Nat) := ⟨i.toNat, by omega⟩
    have n1 : 1 ≤ n := by omega
    have n60 : n ≤ 60 := by omega
    have good : newB K C M n (fun x y => decide (x ≤ y)) min max 0 (n - 1) H Q := good n (by unfold okI; rw [if_pos (by omega), Int.toNat_natCast])
    refine ⟨_, rfl, _, rfl, by omega, by omega, fun D nD => lc_range (lo := 0) (n := ((n : Nat) : Int).toNat) (fun j H' => Same H H' ∧ H' D = some (.lst (((List.range j).map fun x => V.str (rowF n fun y => decide (x ≤ y)))))) ?_ ?_ ?_⟩
    · exact ⟨same_upd nD, upd_same⟩
    · rintro j H' hj ⟨sm, hD⟩
      rw [Int.toNat_natCast] at hj
      have ej : (0 : Int) + (j : Nat) = ((j : Nat) : Int) := by omega
      rw [ej]
      have en : ((n : Nat) : Int) - ((j : Nat) : Int) = ((n - j : Nat) : Int) := by omega
      refine ⟨rfl, yes_it ⟨_, rfl, _, j, rfl, rfl, by omega, by decide, by decide, _, rfl, _, rfl, _, _, rfl, rfl, _, n - j, rfl, congrArg V.int en, by omega, by decide, by decide, _, _, rfl, rfl, ?_, ?_⟩⟩
      · rw [mul_len 48 "0" rfl, mul_len 49 "1" rfl, sizeLine_eq]; omega
      · rw [chain_row (by omega)]
        refine ⟨_, hD, small1000 (by rw [List.length_map, List.length_range]; omega), fun c o e => ?_, ?_⟩
        · rw [upd_ne (ne_of_none e nD)]; exact sm _ _ e
        · rw [upd_same, List.range_succ, List.map_append]; rfl
    · rintro H1 ⟨s1, hD⟩
      rw [Int.toNat_natCast] at hD
      refine fun x d2 nx nd nxd => ?_
      have DM : D ∉ M := tM.ne nD
      have tM1 := tM.same s1
      have xM : x ∉ M := tM1.ne nx
      have px : D ≠ x := ne_of_none hD nx
      have sA := same_upd (o := .own x) nd
      have nx' : upd H1 d2 (.own x) x = none := by rw [upd_ne (Ne.symm nxd)]; exact nx
      have sB := sA.trans (same_upd (o := .ins C d2 []) nx')
      have hpB := sB _ _ hD
      have hxB : upd (upd H1 d2 (.own x)) x (.ins C d2 []) x = some (.ins C d2 []) := upd_same
      generalize upd (upd H1 d2 (.own x)) x (.ins C d2 []) = HB at sB hpB hxB
      refine ⟨M, x, D, d2, n, _, min, max, 0, n - 1, rfl, tM1.same sB, xM, hxB, SqL.of ?_, chain_brd n1 n60, fun H2 L2 smx hB2 e1 e2 => ?_⟩
      · rw [hide_ne (fun z => (List.mem_cons.mp z).elim px DM), hpB]
        unfold rowsF
        rw [List.map_map]
        rfl
      · exact ⟨rfl, good H2 x L2 (s1.trans fun b o e => smx b o (fun z => ne_of_none e nx (List.mem_singleton.mp z)) (sB b o e)) (none_backO s1 nx) hB2 e1 e2⟩
theorem sub_iff {z w : Nat} : z &&& w = z ↔ ∀ i, z.testBit i = true → w.testBit i = true := by
  constructor
  · intro h i hi
    rw [← h, Nat.testBit_and, Bool.and_eq_true] at hi
    exact hi.2
  · intro h
    refine Nat.eq_of_testBit_eq fun i => ?_
    rw [Nat.testBit_and]
    cases c : z.testBit i with
    | false => rfl
    | true => rw [h i c]; rfl
theorem cube_brd {k : Nat} (hk : k ≤ 5) : Brd (2 ^ k) (fun x y => decide (x &&& y = x)) (· &&& ·) (· ||| ·) 0 (2 ^ k - 1) where
  n1 := Nat.one_le_two_pow
  n60 := Nat.le_trans (Nat.pow_le_pow_right (by decide) hk) (by decide)
  rf := fun x _ => decide_eq_true (Nat.and_self x)
  an := fun x y _ _ a b => by
    have a := of_decide_eq_true a
    have b := of_decide_eq_true b
    rw [Nat.and_comm] at b
    rw [← a, b]
  tr := fun x y z _ _ _ a b => decide_eq_true (sub_iff.mpr fun i h => sub_iff.mp (of_decide_eq_true b) i (sub_iff.mp (of_decide_eq_true a) i h))
  lo := fun x y hx _ => ⟨Nat.lt_of_le_of_lt Nat.and_le_left hx, fun z _ => by
    rw [Bool.eq_iff_iff, Bool.and_eq_true, decide_eq_true_iff, decide_eq_true_iff, decide_eq_true_iff, sub_iff, sub_iff, sub_iff]
    constructor
    · intro h
      refine ⟨fun i hi => ?_, fun i hi => ?_⟩
      · have := h i hi; rw [Nat.testBit_and, Bool.and_eq_true] at this; exact this.1
      · have := h i hi; rw [Nat.testBit_and, Bool.and_eq_true] at this; exact this.2
    · rintro ⟨h1, h2⟩ i hi
      rw [Nat.testBit_and, h1 i hi, h2 i hi]; rfl⟩
  hi := fun x y hx hy => ⟨Nat.or_lt_two_pow hx hy, fun z _ => by
    rw [Bool.eq_iff_iff, Bool.and_eq_true, decide_eq_true_iff, decide_eq_true_iff, decide_eq_true_iff, sub_iff, sub_iff, sub_iff]
    constructor
    · intro h
      refine ⟨fun i hi => h i ?_, fun i hi => h i ?_⟩
      · rw [Nat.testBit_or, hi]; rfl
      · rw [Nat.testBit_or, hi, Bool.or_true]
    · rintro ⟨h1, h2⟩ i hi
      rw [Nat.testBit_or, Bool.or_eq_true] at hi
      rcases hi with hi | hi
      · exact h1 i hi
      · exact h2 i hi⟩
  bt := ⟨Nat.two_pow_pos k, fun z _ => by simp⟩
  tp := ⟨Nat.sub_lt (Nat.two_pow_pos k) (by decide), fun z hz => decide_eq_true (by rw [Nat.and_two_pow_sub_one_eq_mod, Nat.mod_eq_of_lt hz])⟩
theorem ok_cube {CB fI : Addr} {qual msg : Str} {q : ErrPos} {j1 j2 : Nat} {f : Addr} {fd : FuncData} {k : Nat} (F : Fun K "cube" "Board.cube" s_cube__of__Board f fd) (hk : 6 ≤ k) (m_range : mg "range" = none)
    (T_IB : ErrC P.main.file K CB fI qual q msg "InvalidBoard" j1 j2) (hline : LineOk q msg j1) (htop : (P.main.scope.names.lookup ("super" : Str)).isSome = false) (m_super : mg "super" = none) (g_IB : mg "InvalidBoard" = some (.ref CB))
    (M_Board : MakR P w K mg base 4 C (spBIn K C)) :
    FnOk P w K mg base (L2.CX P w) (k + 1) f fd ["cls", "size"] (spCube K C CB) := by
  refine F.okX sc_cube__of__Board (fun vs H Q E h => ?_) (fun cdv A outer s H vs Q E hr h => ?_)
  · obtain ⟨M, i, rfl, _⟩ := h
    rfl
  · obtain ⟨M, i, rfl, tM, good, bad⟩ := h
    refine ⟨_, (pss_cons (ps_if (PW.pt (pw_or (pt_cmpR op_lt (pv 1) pe_int (nomark _)) (pw_or1 (pt_cmpR op_gt (pv 1) pe_int (nomark _)))))
        (pss_one (ps_raise rfl (takes_of rfl rfl rfl rfl) (pmk_err0 (k := 0) T_IB hline htop m_super (hr.mono (by omega)) (by rfl) g_IB)))
        pss_nil)
      (pss_cons (ps_set (i := 2) sc_cube__of__Board.nd rfl (by first | exact .inl rfl | exact .inr rfl) (pe_op op_shl pe_int (pv 1)))
      (pss_one (ps_ret (pe_makeV (i := 0) M_Board (hr.mono (by omega)) rfl (.inl rfl) passE0 (pa_cons (pe_lc (own := [("x", 4)]) (g := gName 4) (by rfl) sc_cube__of__Board.nd (pi_range1 (by rfl) m_range (pa_cons (pv 2) pa_nil)) (blkOk_by (own := [("x", 4)]) (N := N_cube__of__Board) (sc := defScope s_cube__of__Board) (by decide +kernel)) (fun _ _ _ _ _ => pg_name (i := 4) sc_cube__of__Board.nd rfl (Or.inr rfl)) (fun _ _ _ _ _ => pts_nil) (fun _ _ _ _ _ => (pe_joinK (K := K) rfl pe_str (pe_lc (own := [("y", 3)]) (g := gName 3) (by rfl) sc_cube__of__Board.nd (pi_range1 (by rfl) m_range (pa_cons (pv 2) pa_nil)) (blkOk_by (own := [("y", 3)]) (N := N_cube__of__Board) (by exact rfl)) (fun _ _ _ _ _ => pg_name (i := 3) sc_cube__of__Board.nd rfl (Or.inl rfl)) (fun _ _ _ _ _ => pts_nil) (fun _ _ _ _ _ => (pe_ifExp (pt_cmpR op_eq (pe_op L2.op_and (pv 4) (pv 3)) (pv 4) (nomark _)) pe_str pe_str)))))) pa_nil)))))), ?_⟩
    have bad1 : ¬ (0 ≤ i ∧ i ≤ 5) → ∀ dd, H dd = none → E (.ref CB) (some dd) (upd H dd (.xd [("code", .str "InvalidBoard")])) := fun h dd nd => bad (if_neg h) _ dd (same_upd nd) upd_same
    refine ⟨_, rfl, _, _, rfl, rfl, _, rfl, ?_⟩
    by_cases c1 : i < 0
    · rw [decide_eq_true c1]
      exact iteT (iteT fun dd nd => bad1 (by omega) dd nd)
    rw [decide_eq_false c1]
    refine iteF ⟨_, rfl, _, _, rfl, rfl, _, rfl, ?_⟩
    by_cases c2 : (5 : Int) < i
    · rw [decide_eq_true c2]
      exact iteT fun dd nd => bad1 (by omega) dd nd
    rw [decide_eq_false c2]
    refine iteF ?_
    obtain ⟨k0, rfl⟩ : ∃ n : Nat, i = (n : Nat) := ⟨i.toNat, by omega⟩
    have k5 : k0 ≤ 5 := by omega
    have B := cube_brd k5
    have good : newB K C M (2 ^ k0) (fun x y => decide (x &&& y = x)) (· &&& ·) (· ||| ·) 0 (2 ^ k0 - 1) H Q := good k0 (by unfold okI; rw [if_pos (by omega), Int.toNat_natCast])
    have n60 := B.n60
    refine ⟨_, rfl, _, _, rfl, rfl, ⟨by omega, by omega, by decide⟩, ?_⟩
    have e2 : (1 : Int) * 2 ^ ((k0 : Nat) : Int).toNat = ((2 ^ k0 : Nat) : Int) := by rw [Int.toNat_natCast, Int.one_mul, Int.natCast_pow]; rfl
    dsimp only
    rw [e2]
    generalize 2 ^ k0 = n at B good n60
    refine ⟨rfl, _, rfl, _, rfl, by omega, by omega, fun D nD => lc_range (lo := 0) (n := ((n : Nat) : Int).toNat) (fun j H' => Same H H' ∧ H' D = some (.lst ((List.range j).map fun x => V.str (rowF n fun y => decide (x &&& y = x))))) ?_ ?_ ?_⟩
    · exact ⟨same_upd nD, upd_same⟩
    · rintro j H' hj ⟨sm, hD⟩
      rw [Int.toNat_natCast] at hj
      have ej : (0 : Int) + (j : Nat) = ((j : Nat) : Int) := by omega
      rw [ej]
      refine ⟨rfl, yes_it ⟨⟨_, rfl⟩, _, rfl, _, rfl, by omega, by omega, fun D2 nD2 => lc_range (lo := 0) (n := ((n : Nat) : Int).toNat) (fun y H2 => Same H' H2 ∧ H2 D2 = some (.lst ((List.range y).map fun y => V.str (⟨#[chB (decide (j &&& y = j))]⟩ : Str)))) ?_ ?_ ?_⟩⟩
      · exact ⟨same_upd nD2, upd_same⟩
      · rintro y H2 hy ⟨sm2, hD2⟩
        rw [Int.toNat_natCast] at hy
        have ey : (0 : Int) + (y : Nat) = ((y : Nat) : Int) := by omega
        rw [ey]
        have fin : ∀ (b : Bool), b = decide (j &&& y = j) → ∃ acc, H2 D2 = some (.lst acc) ∧ acc.length < sizeLine ∧ Same H' (upd H2 D2 (.lst (acc ++ [V.str (⟨#[chB b]⟩ : Str)]))) ∧ upd H2 D2 (.lst (acc ++ [V.str (⟨#[chB b]⟩ : Str)])) D2 = some (.lst ((List.range (y + 1)).map fun y => V.str (⟨#[chB (decide (j &&& y = j))]⟩ : Str))) := fun b hb => by
          refine ⟨_, hD2, small1000 (by rw [List.length_map, List.length_range]; omega), fun c o e => ?_, ?_⟩
          · rw [upd_ne (ne_of_none e nD2)]; exact sm2 _ _ e
          · rw [upd_same, List.range_succ, List.map_append, hb]; rfl
        refine ⟨rfl, yes_it ⟨_, rfl, _, rfl, _, _, rfl, rfl, _, rfl, rfl, _, rfl, ?_⟩⟩
        dsimp only
        have ed : decide (V.int (Builtin.bitAnd ((j : Nat) : Int) ((y : Nat) : Int)) = V.int ((j : Nat) : Int)) = decide (j &&& y = j) := by
          rw [bitAnd_nat, decide_eq_decide]
          exact ⟨fun h => Int.ofNat.inj (V.int.inj h), fun h => by rw [h]⟩
        rw [ed]
        cases c : decide (j &&& y = j) with
        | true => exact iteT (fin true c.symm)
        | false => exact iteF (fin false c.symm)
      · rintro H2 ⟨sm2, hD2⟩
        rw [Int.toNat_natCast] at hD2
        refine ⟨"", D2, ((List.range n).map fun y => chB (decide (j &&& y = j))).map fun c => (⟨#[c]⟩ : Str), rfl, rfl, .inl (SqL.of ?_), ?_, ?_⟩
        · rw [hD2, List.map_map, List.map_map]; rfl
        · rw [sum_ones, List.length_map, List.length_map, List.length_range]
          show n + n * 0 ≤ _
          omega
        · rw [join_empty]
          refine ⟨_, sm2 _ _ hD, small1000 (by rw [List.length_map, List.length_range]; omega), fun c o e => ?_, ?_⟩
          · rw [upd_ne (ne_of_none e nD)]; exact sm2 _ _ (sm _ _ e)
          · rw [upd_same, List.range_succ, List.map_append]; rfl
    · rintro H1 ⟨s1, hD⟩
      rw [Int.toNat_natCast] at hD
      refine fun x d2 nx nd nxd => ?_
      have DM : D ∉ M := tM.ne nD
      have tM1 := tM.same s1
      have xM : x ∉ M := tM1.ne nx
      have px : D ≠ x := ne_of_none hD nx
      have sA := same_upd (o := .own x) nd
      have nx' : upd H1 d2 (.own x) x = none := by rw [upd_ne (Ne.symm nxd)]; exact nx
      have sB := sA.trans (same_upd (o := .ins C d2 []) nx')
      have hpB := sB _ _ hD
      have hxB : upd (upd H1 d2 (.own x)) x (.ins C d2 []) x = some (.ins C d2 []) := upd_same
      generalize upd (upd H1 d2 (.own x)) x (.ins C d2 []) = HB at sB hpB hxB
      refine ⟨M, x, D, d2, n, _, (· &&& ·), (· ||| ·), 0, n - 1, rfl, tM1.same sB, xM, hxB, SqL.of ?_, B, fun H2 L2 smx hB2 e1 e2 => ?_⟩
      · rw [hide_ne (fun z => (List.mem_cons.mp z).elim px DM), hpB]
        unfold rowsF
        rw [List.map_map]
        rfl
      · exact ⟨rfl, good H2 x L2 (s1.trans fun b o e => smx b o (fun z => ne_of_none e nx (List.mem_singleton.mp z)) (sB b o e)) (none_backO s1 nx) hB2 e1 e2⟩
theorem mk_app (a b : List Nat) : mk a ++ mk b = mk (a ++ b) := by
  show (⟨_ ++ _⟩ : Str) = ⟨_⟩
  simp [mk]
theorem app_len (a b : Str) : (a ++ b).length = a.length + b.length := by
  show (a.cps ++ b.cps).size = a.cps.size + b.cps.size
  exact Array.size_append
theorem one_mk : ("1" : Str) = mk [49] := rfl
theorem fan_mid {n j : Nat} (h1 : 1 ≤ j) (h2 : j ≤ n) : mulS "0" j ++ "1" ++ mulS "0" (n - j) ++ "1" = rowF (n + 2) (fanB (n + 2) j) := by
  rw [rep_mk 48 "0" rfl, rep_mk 48 "0" rfl, one_mk, mk_app, mk_app, mk_app]
  unfold rowF
  congr 1
  refine List.ext_getElem (by simp; omega) fun i a b => ?_
  rw [List.getElem_map, List.getElem_range]
  simp only [List.getElem_append, List.length_append, List.length_replicate, List.length_cons, List.length_nil, List.getElem_replicate, List.getElem_singleton]
  simp only [List.length_map, List.length_range] at b
  have key : fanB (n + 2) j i = true ↔ (i = j ∨ i = n + 1) := by
    unfold fanB
    simp only [Bool.or_eq_true, decide_eq_true_eq]
    omega
  by_cases c : i = j ∨ i = n + 1
  · rw [key.mpr c]
    show _ = 49
    (repeat' split) <;> first | rfl | omega
  · rw [Bool.eq_false_iff.mpr (fun z => c (key.mp z))]
    show _ = 48
    (repeat' split) <;> first | rfl | omega
theorem fan_first (n : Nat) : mulS "1" (n + 2) = rowF (n + 2) (fanB (n + 2) 0) := by
  rw [rep_mk 49 "1" rfl]
  unfold rowF
  congr 1
  refine List.ext_getElem (by simp) fun i a b => ?_
  rw [List.getElem_map, List.getElem_range, List.getElem_replicate]
  have : fanB (n + 2) 0 i = true := by unfold fanB; simp
  rw [this]
  rfl
theorem fan_last (n : Nat) : mulS "0" (n + 1) ++ "1" = rowF (n + 2) (fanB (n + 2) (n + 1)) := by
  rw [rep_mk 48 "0" rfl, one_mk, mk_app]
  unfold rowF
  congr 1
  refine List.ext_getElem (by simp) fun i a b => ?_
  rw [List.getElem_map, List.getElem_range]
  simp only [List.getElem_append, List.length_replicate, List.getElem_replicate, List.getElem_singleton]
  simp only [List.length_map, List.length_range] at b
  have key : fanB (n + 2) (n + 1) i = true ↔ i = n + 1 := by
    unfold fanB
    simp only [Bool.or_eq_true, decide_eq_true_eq]
    omega
  by_cases c : i = n + 1
  · rw [key.mpr c]
    show _ = 49
    (repeat' split) <;> first | rfl | omega
  · rw [Bool.eq_false_iff.mpr (fun z => c (key.mp z))]
    show _ = 48
    (repeat' split) <;> first | rfl | omega
theorem ok_fan {CB fI : Addr} {qual msg : Str} {q : ErrPos} {j1 j2 : Nat} {f : Addr} {fd : FuncData} {k : Nat} (F : Fun K "fan" "Board.fan" s_fan__of__Board f fd) (TM : TxM K C) (g_Board : mg "Board" = some (.ref C)) (hk : 6 ≤ k) (m_range : mg "range" = none)
    (T_IB : ErrC P.main.file K CB fI qual q msg "InvalidBoard" j1 j2) (hline : LineOk q msg j1) (htop : (P.main.scope.names.lookup ("super" : Str)).isSome = false) (m_super : mg "super" = none) (g_IB : mg "InvalidBoard" = some (.ref CB))
    (Mk_Board : C8.Mak P w K mg base 4 "Board" C (spBIn K C) []) :
    FnOk P w K mg base (L2.CX P w) (k + 1) f fd ["size"] (spFan K C CB) := by
  refine F.okX sc_fan__of__Board (fun vs H Q E h => ?_) (fun cdv A outer s H vs Q E hr h => ?_)
  · obtain ⟨M, i, rfl, _⟩ := h
    rfl
  · obtain ⟨M, i, rfl, tM, good, bad⟩ := h
    refine ⟨_, (pss_cons (ps_if (PW.pt (pw_or (pt_cmpR op_lt (pv 0) pe_int (nomark _)) (pw_or1 (pt_cmpR op_gt (pv 0) (pe_op op_sub (pe_cval (pe_glob (v := .ref C) (by rfl) g_Board rfl)) pe_int) (nomark _)))))
        (pss_one (ps_raise rfl (takes_of rfl rfl rfl rfl) (pmk_err0 (k := 0) T_IB hline htop m_super (hr.mono (by omega)) (by rfl) g_IB)))
        pss_nil)
      (pss_cons (ps_setLc (i := 1) (own := [("at", 2)]) (g := gName 2) (by rfl) sc_fan__of__Board.nd rfl rfl (sw_true rfl rfl rfl (by decide +kernel)) (pi_range2 (by rfl) m_range (pa_cons pe_int (pa_cons (pe_op op_add (pv 0) pe_int) pa_nil))) (blkOk_by (own := [("at", 2)]) (N := N_fan__of__Board) (sc := defScope s_fan__of__Board) (by decide +kernel)) (fun _ _ _ _ _ => pg_name (i := 2) sc_fan__of__Board.nd rfl (Or.inl rfl)) (fun _ _ _ _ _ => pts_nil) (fun _ _ _ _ _ => (pe_op op_catS (pe_op op_catS (pe_op op_catS (pe_op op_mulG pe_str (pv 2)) pe_str) (pe_op op_mulG pe_str (pe_op op_sub (pv 0) (pv 2)))) pe_str)))
      (pss_one (ps_ret (C8.pe_mk Mk_Board hr (by omega) (by rfl) (pa_cons (pe_lst (pa_cons (pe_op op_mulG pe_str (pe_op op_add (pv 0) pe_int)) (StX.pa_star (pv 1) (pa_cons (pe_op op_catS (pe_op op_mulG pe_str (pe_op op_add (pv 0) pe_int)) pe_str) pa_nil)))) pa_nil)))))), ?_⟩
    obtain ⟨mc, u, cr, cv⟩ := TM.ex
    have bad1 : ¬ (1 ≤ i ∧ i ≤ 58) → ∀ dd, H dd = none → E (.ref CB) (some dd) (upd H dd (.xd [("code", .str "InvalidBoard")])) := fun h dd nd => bad (if_neg h) _ dd (same_upd nd) upd_same
    refine ⟨_, rfl, _, _, rfl, rfl, _, rfl, ?_⟩
    by_cases c1 : i < 1
    · rw [decide_eq_true c1]
      exact iteT (iteT fun dd nd => bad1 (by omega) dd nd)
    rw [decide_eq_false c1]
    refine iteF ⟨_, rfl, C, mc, .int 60, u, rfl, cr, cv, _, _, rfl, rfl, _, _, rfl, rfl, _, rfl, ?_⟩
    by_cases c2 : ((60 : Int) - 2) < i
    · rw [decide_eq_true c2]
      exact iteT fun dd nd => bad1 (by omega) dd nd
    rw [decide_eq_false c2]
    refine iteF ?_
    obtain ⟨n, rfl⟩ : ∃ n : Nat, i = (n : Nat) := ⟨i.toNat, by omega⟩
    have n1 : 1 ≤ n := by omega
    have n58 : n ≤ 58 := by omega
    have B := fan_brd (n := n + 2) (by omega) (by omega)
    have good := good n (by unfold okI; rw [if_pos (by omega), Int.toNat_natCast])
    refine ⟨_, rfl, _, _, rfl, rfl, _, _, rfl, ⟨by omega, by omega, by omega, by omega⟩, fun D nD => lc_range (lo := 1) (n := (((n : Nat) : Int) + 1 - 1).toNat) (fun j H' => Same H H' ∧ H' D = some (.lst ((List.range j).map fun x => V.str (rowF (n + 2) (fanB (n + 2) (x + 1)))))) ?_ ?_ ?_⟩
    · exact ⟨same_upd nD, upd_same⟩
    · rintro j H' hj ⟨sm, hD⟩
      rw [show ((n : Nat) : Int) + 1 - 1 = ((n : Nat) : Int) by omega, Int.toNat_natCast] at hj
      have ej : (1 : Int) + (j : Nat) = ((j + 1 : Nat) : Int) := by omega
      rw [ej]
      have en : ((n : Nat) : Int) - ((j + 1 : Nat) : Int) = ((n - (j + 1) : Nat) : Int) := by omega
      refine ⟨rfl, yes_it ⟨_, rfl, _, j + 1, rfl, rfl, by omega, by decide, by decide, _, _, rfl, rfl, ?_, _, rfl, _, rfl, _, _, rfl, rfl, _, n - (j + 1), rfl, congrArg V.int en, by omega, by decide, by decide, _, _, rfl, rfl, ?_, _, _, rfl, rfl, ?_, ?_⟩⟩
      · rw [mul_len 48 "0" rfl, sizeLine_eq]; show _ + 1 ≤ _; omega
      · rw [app_len, mul_len 48 "0" rfl, mul_len 48 "0" rfl, sizeLine_eq]; show _ + 1 + _ ≤ _; omega
      · rw [app_len, app_len, mul_len 48 "0" rfl, mul_len 48 "0" rfl, sizeLine_eq]; show _ + 1 + _ + 1 ≤ _; omega
      · rw [fan_mid (by omega) (by omega)]
        refine ⟨_, hD, small1000 (by rw [List.length_map, List.length_range]; omega), fun c o e => ?_, ?_⟩
        · rw [upd_ne (ne_of_none e nD)]; exact sm _ _ e
        · rw [upd_same, List.range_succ, List.map_append]; rfl
    · rintro H1 ⟨s1, hD⟩
      rw [show ((n : Nat) : Int) + 1 - 1 = ((n : Nat) : Int) by omega, Int.toNat_natCast] at hD
      have l60 : ∀ m : Nat, ((List.range n).map fun x => V.str (rowF (n + 2) (fanB (n + 2) (x + 1)))).length = n := fun _ => by rw [List.length_map, List.length_range]
      refine ⟨_, rfl, _, _, rfl, rfl, _, n + 2, rfl, congrArg V.int (show ((n : Nat) : Int) + 2 = ((n + 2 : Nat) : Int) by omega), by omega, by decide, by decide, _, rfl, D, _, rfl, .inr (SqL.of hD), _, rfl, _, _, rfl, rfl, _, n + 1, rfl, congrArg V.int (show ((n : Nat) : Int) + 1 = ((n + 1 : Nat) : Int) by omega), by omega, by decide, by decide, _, _, rfl, rfl, ?_, ?_, fun p np x d2 nx nd nxd => ?_⟩
      · rw [mul_len 48 "0" rfl, sizeLine_eq]; show _ + 1 ≤ _; omega
      · rw [List.length_cons, List.length_append, l60 n, sizeLine_eq]
        show n + 1 + 1 ≤ _
        omega
      · have el : V.str (mulS "1" (n + 2)) :: (((List.range n).map fun x => V.str (rowF (n + 2) (fanB (n + 2) (x + 1)))) ++ [V.str (mulS "0" (n + 1) ++ "1")]) = (rowsF (n + 2) (fanB (n + 2))).map V.str := by
          unfold rowsF
          rw [fan_first, fan_last, List.map_map, List.range_succ_eq_map, List.map_cons, List.range_succ, List.map_map, List.map_append]
          rfl
        rw [el] at nx nd ⊢
        have sp := same_upd (o := .lst ((rowsF (n + 2) (fanB (n + 2))).map V.str)) np
        have hp : upd H1 p (.lst ((rowsF (n + 2) (fanB (n + 2))).map V.str)) p = some (.lst ((rowsF (n + 2) (fanB (n + 2))).map V.str)) := upd_same
        have pM : p ∉ M := (tM.same s1).ne np
        have s2 := s1.trans sp
        generalize upd H1 p (.lst ((rowsF (n + 2) (fanB (n + 2))).map V.str)) = H2 at nx nd hp s2 ⊢
        have tM2 := tM.same s2
        have xM : x ∉ M := tM2.ne nx
        have px : p ≠ x := ne_of_none hp nx
        have sA := same_upd (o := .own x) nd
        have nx' : upd H2 d2 (.own x) x = none := by rw [upd_ne (Ne.symm nxd)]; exact nx
        have sB := sA.trans (same_upd (o := .ins C d2 []) nx')
        have hpB := sB _ _ hp
        have hxB : upd (upd H2 d2 (.own x)) x (.ins C d2 []) x = some (.ins C d2 []) := upd_same
        generalize upd (upd H2 d2 (.own x)) x (.ins C d2 []) = HB at sB hpB hxB
        refine ⟨M, x, p, d2, n + 2, _, _, _, 0, n + 1, rfl, tM2.same sB, xM, hxB, SqL.of (by rw [hide_ne (fun z => (List.mem_cons.mp z).elim px pM)]; exact hpB), B, fun H3 L3 smx hB2 e1 e2 => ?_⟩
        exact ⟨rfl, good H3 x L3 (s2.trans fun b o e => smx b o (fun z => ne_of_none e nx (List.mem_singleton.mp z)) (sB b o e)) (none_backO s2 nx) hB2 e1 e2⟩
end
end FvO


namespace FvO
open PySem PySem.Spec PyProof.Rows L2 Fv FvW FvX TL
-- top 33  slots: 0:_law_number
abbrev s_law_digits : Stmt := topS 33
abbrev N_law_digits : List Str := ["_law_number"]
theorem sc_law_digits : FnScope N_law_digits ["_law_number"] (defScope s_law_digits) := ⟨rfl, rfl, rfl, by decide +kernel, rfl, by decide +kernel, by decide +kernel⟩

-- top 34  slots: 0:_law_number 1:_law_many 2:_law_mine 3:_law_x 4:_law_y 5:_law_other
abbrev s_law_cube_row : Stmt := topS 34
abbrev N_law_cube_row : List Str := ["_law_number", "_law_many", "_law_mine", "_law_x", "_law_y", "_law_other"]
theorem sc_law_cube_row : FnScope N_law_cube_row ["_law_number", "_law_many"] (defScope s_law_cube_row) := ⟨rfl, rfl, rfl, by decide +kernel, rfl, by decide +kernel, by decide +kernel⟩

def digL (x : Nat) : List Nat := [x % 2, x / 2 % 2, x / 4 % 2, x / 8 % 2, x / 16 % 2]
def spDig : Sp := fun vs H Q _ => ∃ x : Nat, vs = [.int (x : Nat)] ∧ x < 32 ∧ ∀ (H' : Hp) (p : Addr), Same H H' → H p = none → H' p = some (.lst (natsV (digL x))) → Q (.ref p) H'
def spCubeRow : Sp := fun vs H Q _ => ∃ x n : Nat, vs = [.int (x : Nat), .int (n : Nat)] ∧ x < 32 ∧ n ≤ 32 ∧ ∀ H', Same H H' → Q (.str (rowF n fun y => decide (x &&& y = x))) H'
theorem cdiv_ok {x : Nat} {m : Int} (hm : 0 < m) (h2 : m < 1073741824) : CDiv ((x : Nat) : Int) m := ⟨hm, h2⟩
theorem pi_zipK {X : Cx} {K : PySem.W.Frag} (hK : X.K = K) {e e2 : Expr} {ta : TA} {p pos tpos : Pos} {elts : List Expr} {kk : Nat} (hg : Gl X "zip") (hm : X.mg "zip" = none) (ha : PA X [e, e2] ta)
    (hs : starEach [e, e2] X.env = (false, eval e X.env) :: starEach [e2] X.env := by rfl) (hpl : (backTo pos (starEach [e2] X.env)).any (·.1) = false := by rfl) :
    PI X (.Tuple elts kk tpos) (.Call (.Name "zip" p) [e, e2] [] pos) (RZ.iZipA K ta) := by
  subst hK
  exact RZ.pi_zipA hg hm ha hs hpl
theorem dig_and : ∀ x, x < 32 → ∀ y, y < 32 → ((digL x).zip (digL y)).all (fun p => decide (p.1 ≤ p.2)) = decide (x &&& y = x) := by decide +kernel
section
variable {P : Program} {w : World} {K : PySem.W.Frag} {mg : Str → Option Value} {base : Heap}
theorem ok_digits {f : Addr} {fd : FuncData} {k : Nat} (F : Fun K "_law_digits" "_law_digits" s_law_digits f fd) (m_int : mg "int" = none) :
    FnOk P w K mg base CX0 (k + 1) f fd ["_law_number"] spDig := by
  refine F.ok sc_law_digits (fun vs H Q E h => ?_) (fun cdv A outer s H vs Q E hr h => ?_)
  · obtain ⟨x, rfl, _⟩ := h
    rfl
  · obtain ⟨x, rfl, hx, good⟩ := h
    refine ⟨_, (pss_one (ps_ret (pe_lst (pa_cons (pe_op op_mod (pe_callTy call_int1 (by rfl) m_int (by decide +kernel) (pa_cons (pv 0) pa_nil)) pe_int) (pa_cons (pe_op op_mod (pe_callTy call_int1 (by rfl) m_int (by decide +kernel) (pa_cons (pe_op op_fdiv (pv 0) pe_int) pa_nil)) pe_int) (pa_cons (pe_op op_mod (pe_callTy call_int1 (by rfl) m_int (by decide +kernel) (pa_cons (pe_op op_fdiv (pv 0) pe_int) pa_nil)) pe_int) (pa_cons (pe_op op_mod (pe_callTy call_int1 (by rfl) m_int (by decide +kernel) (pa_cons (pe_op op_fdiv (pv 0) pe_int) pa_nil)) pe_int) (pa_cons (pe_op op_mod (pe_callTy call_int1 (by rfl) m_int (by decide +kernel) (pa_cons (pe_op op_fdiv (pv 0) pe_int) pa_nil)) pe_int) pa_nil)))))))), ?_⟩
    have dv : ∀ m : Nat, 0 < m → ((x : Nat) : Int) / ((m : Nat) : Int) = ((x / m : Nat) : Int) := fun m _ => (Int.natCast_ediv x m).symm
    have md : ∀ y : Nat, ((y : Nat) : Int) % 2 = ((y % 2 : Nat) : Int) := fun y => (Int.natCast_emod y 2).symm
    have z2 : (0 : Int) < 2 := by decide
    refine ⟨_, rfl, .inl ⟨_, rfl, _, _, rfl, rfl, z2, _, rfl, _, _, rfl, rfl, cdiv_ok (by decide) (by decide), .inl ⟨_, rfl, _, _, rfl, rfl, z2, _, rfl, _, _, rfl, rfl, cdiv_ok (by decide) (by decide), .inl ⟨_, rfl, _, _, rfl, rfl, z2, _, rfl, _, _, rfl, rfl, cdiv_ok (by decide) (by decide), .inl ⟨_, rfl, _, _, rfl, rfl, z2, _, rfl, _, _, rfl, rfl, cdiv_ok (by decide) (by decide), .inl ⟨_, rfl, _, _, rfl, rfl, z2, (by show 5 ≤ sizeLine; decide), fun p np => ?_⟩⟩⟩⟩⟩⟩
    refine good _ p (same_upd np) np ?_
    rw [upd_same]
    unfold natsV digL
    simp
theorem ok_cube_row {f : Addr} {fd : FuncData} {k : Nat} (F : Fun K "_law_cube_row" "_law_cube_row" s_law_cube_row f fd) (m_int : mg "int" = none) (m_str : mg "str" = none) (m_all : mg "all" = none) (m_zip : mg "zip" = none) (m_range : mg "range" = none)
    (C_law_digits : Own P w K mg base k "_law_digits" ["_law_number"] spDig) :
    FnOk P w K mg base CX0 (k + 1) f fd ["_law_number", "_law_many"] spCubeRow := by
  refine F.ok sc_law_cube_row (fun vs H Q E h => ?_) (fun cdv A outer s H vs Q E hr h => ?_)
  · obtain ⟨x, n, rfl, _⟩ := h
    rfl
  · obtain ⟨x, n, rfl, hx, hn, good⟩ := h
    refine ⟨_, (pss_cons (ps_set (i := 2) sc_law_cube_row.nd rfl (by first | exact .inl rfl | exact .inr rfl) (pe_own C_law_digits (hr.mono (by omega)) (by rfl) (pa_cons (pv 0) pa_nil)))
      (pss_one (ps_ret (pe_joinK (K := K) rfl pe_str (pe_lc (own := [("_law_other", 5)]) (g := gName 5) (by rfl) sc_law_cube_row.nd (pi_range1 (by rfl) m_range (pa_cons (pv 1) pa_nil)) (blkOk_by (own := [("_law_other", 5)]) (N := N_law_cube_row) (sc := defScope s_law_cube_row) (by decide +kernel)) (fun _ _ _ _ _ => pg_name (i := 5) sc_law_cube_row.nd rfl (Or.inl rfl)) (fun _ _ _ _ _ => pts_nil) (fun _ _ _ _ _ => (pe_callTy call_str_int (by rfl) m_str (by decide +kernel) (pa_cons (pe_callTy call_int1 (by rfl) m_int (by decide +kernel) (pa_cons (pe_callB (cr_allK (K := K) rfl rfl) (by rfl) m_all (by decide +kernel) (pa_cons (pe_lc (own := [("_law_x", 3), ("_law_y", 4)]) (g := gTup K 2 (gCons (gName 3) (gCons (gName 4) gNil))) (by rfl) sc_law_cube_row.nd (pi_zipK (K := K) rfl (by rfl) m_zip (pa_cons (pv 2) (pa_cons (pe_own C_law_digits (hr.mono (by omega)) (by rfl) (pa_cons (pv 5) pa_nil)) pa_nil))) (blkOk_by (own := [("_law_x", 3), ("_law_y", 4)]) (N := N_law_cube_row) (by exact rfl)) (fun _ _ _ _ _ => (pg_tup rfl (pgs_cons (pg_name (i := 3) sc_law_cube_row.nd rfl (Or.inl rfl) (hf := Or.inr rfl)) (pgs_cons (pg_name (i := 4) sc_law_cube_row.nd rfl (Or.inl rfl) (hf := Or.inr rfl)) pgs_nil)))) (fun _ _ _ _ _ => pts_nil) (fun _ _ _ _ _ => (pe_cmpR op_le (pv 3) (pv 4) (nomark _)))) pa_nil)) pa_nil)) pa_nil)))))))), ?_⟩
    refine ⟨_, rfl, x, rfl, hx, fun H1 p1 s1 np1 hp1 => ?_⟩
    refine ⟨⟨_, rfl⟩, _, rfl, _, rfl, by omega, by omega, fun D nD => lc_range (lo := 0) (n := ((n : Nat) : Int).toNat) (fun y H' => Same H1 H' ∧ H' D = some (.lst ((List.range y).map fun y => V.str (⟨#[chB (decide (x &&& y = x))]⟩ : Str)))) ?_ ?_ ?_⟩
    · exact ⟨same_upd nD, upd_same⟩
    · rintro y H' hy ⟨sm, hD⟩
      rw [Int.toNat_natCast] at hy
      have ey : (0 : Int) + (y : Nat) = ((y : Nat) : Int) := by omega
      rw [ey]
      refine ⟨rfl, yes_it ⟨_, rfl, _, rfl, y, rfl, by omega, fun H2 p2 s2 np2 hp2 => ?_⟩⟩
      have hp1' := (sm.trans s2) _ _ hp1
      refine ⟨p1, p2, natsV (digL x), natsV (digL y), rfl, .inl ⟨SqL.of hp1', SqL.of hp2, fun D3 nD3 => ?_⟩⟩
      refine lc_it (walk_zip (xs := natsV (digL x)) (ys := natsV (digL y)) (n := 5) rfl) (fun i H3 => Same H2 H3 ∧ H3 D3 = some (.lst ((((digL x).zip (digL y)).take i).map fun p => V.bl (decide (p.1 ≤ p.2))))) ⟨same_upd nD3, upd_same⟩ (fun i H3 _ p => ⟨SqL.of (p.1 _ _ hp1'), SqL.of (p.1 _ _ hp2)⟩) ?_ ?_
      · rintro i v H3 H4 hi ⟨sm3, e⟩ ⟨T, x1, y1, rfl, nT, rfl, e1, e2⟩
        obtain ⟨a1, h1, rfl⟩ := nats_get e1
        obtain ⟨b1, h2, rfl⟩ := nats_get e2
        have sT := same_upd (o := .tup [V.int ((a1 : Nat) : Int), V.int ((b1 : Nat) : Int)]) nT
        have hz : ((digL x).zip (digL y))[i]? = some (a1, b1) := by rw [List.getElem?_zip_eq_some]; exact ⟨h1, h2⟩
        refine ⟨T, [_, _], rfl, .inl (.inl upd_same), rfl, _, [_], rfl, _, [], rfl, rfl, rfl, ?_⟩
        dsimp only [tYes]
        rw [if_pos rfl]
        refine ⟨_, rfl, _, rfl, _, _, rfl, rfl, _, sT _ _ e, small1000 (by rw [List.length_map, List.length_take]; omega), fun c o ec => ?_, ?_⟩
        · rw [upd_ne (ne_of_none ec nD3)]
          exact sT _ _ (sm3 _ _ ec)
        · rw [upd_same, List.take_add_one, hz, List.map_append]
          have ed : decide (((a1 : Nat) : Int) ≤ ((b1 : Nat) : Int)) = decide (a1 ≤ b1) := by rw [decide_eq_decide]; omega
          show some (HO.lst (_ ++ [V.bl (decide (((a1 : Nat) : Int) ≤ ((b1 : Nat) : Int)))])) = _
          rw [ed]
          rfl
      · rintro H3 ⟨sm3, e⟩
        have e' : H3 D3 = some (.lst ((((digL x).zip (digL y)).map fun p => decide (p.1 ≤ p.2)).map V.bl)) := by
          rw [e, List.take_of_length_le (by show 5 ≤ 5; decide), List.map_map]; rfl
        refine ⟨D3, _, rfl, SqL.of e', ?_⟩
        rw [List.all_map, show (((digL x).zip (digL y)).all (id ∘ fun p => decide (p.1 ≤ p.2))) = decide (x &&& y = x) from dig_and x hx y (by omega)]
        refine .inr ⟨_, rfl, _, rfl, log01 _, ?_⟩
        rw [str01]
        have s3 := s2.trans sm3
        refine ⟨_, s3 _ _ hD, small1000 (by rw [List.length_map, List.length_range]; omega), fun c o ec => ?_, ?_⟩
        · rw [upd_ne (ne_of_none ec nD)]; exact s3 _ _ (sm _ _ ec)
        · rw [upd_same, List.range_succ, List.map_append]; rfl
    · rintro H2 ⟨s2, hD⟩
      rw [Int.toNat_natCast] at hD
      refine ⟨"", D, ((List.range n).map fun y => chB (decide (x &&& y = x))).map fun c => (⟨#[c]⟩ : Str), rfl, rfl, .inl (SqL.of ?_), ?_, ?_⟩
      · rw [hD, List.map_map, List.map_map]; rfl
      · rw [sum_ones, List.length_map, List.length_map, List.length_range]
        show n + n * 0 ≤ _
        omega
      · rw [join_empty]
        exact good H2 (s1.trans s2)
end
end FvO


namespace FvO
open PySem PySem.Spec PyProof.Rows L2 Fv FvX ClX
/-- C.m is a static method: its record at p, its def at g -/
structure SMet (K : PySem.W.Frag) (C : Addr) (mc : Value) (m : Str) (p g : Addr) : Prop where
  at_ : PySem.W.findCls K (.ref C) mc m = some (.get (.builtin "staticmethod.__get__") (.ref p) .none (.ref C))
  rc : ∃ rest, PySem.W.recIn K p "staticmethod" = some (.ref g :: rest)
  kp : PySem.W.keepIn K (.ref g) = true
section
variable {X : Cx} {pins : List (Addr × Obj)} {σ : L2.St} {H : Hp} {s : Shared} {C p g : Addr} {mc : Value} {m : Str} {A : Around} {E : Value → Shared → Prop}
theorem getsmet_ok {b : Bool} {Q : Value → Shared → Prop} (I : Inv X pins σ H s) (r : CRead X.K C mc) (k : SMet X.K C mc m p g) (h : ∀ s', Inv X pins σ H s' → Q (.ref g) s') : wpAny (model X.prog X.w) A (getAttr (.ref C) m b) Q E s := by
  obtain ⟨rest, hp⟩ := k.rc
  refine PySem.W.cls_bind I.kIn r.rd k.at_ ?_
  refine wpAny_call (PySem.W.sm_get (s := { s with toks := s.toks + 1 }) I.kIn hp (PySem.W.handed_on rfl ?_))
  exact h _ (I.tok _)
theorem getmethsm_ok {pl : Sem Bool} {Q : Value × List Value → Shared → Prop} (I : Inv X pins σ H s) (r : CRead X.K C mc) (k : SMet X.K C mc m p g) (h : ∀ s', Inv X pins σ H s' → Q (.ref g, []) s') : wpAny (model X.prog X.w) A (getMethod (.ref C) m pl) Q E s :=
  PySem.W.method_cls I.kIn r.ga (getsmet_ok I r k h)
end
def tSMeth (C : Addr) (sp : Sp) (E : XK) (ta : TE) (t : TA) : TE := fun σ H Q => ta σ H fun x H1 => x = .ref C ∧ t σ H1 fun vs H2 => sp vs H2 Q E
structure MetSt (P : Program) (w : World) (K : PySem.W.Frag) (mg : Str → Option Value) (base : Heap) (k : Nat) (C : Addr) (m : Str) (sp : Sp) : Prop where
  ex : ∃ (mc : Value) (p g : Addr), CRead K C mc ∧ SMet K C mc m p g ∧ FnR P w K mg base (L2.CX P w) k g sp
theorem pe_smeth {X : Cx} {k : Nat} {C : Addr} {m : Str} {sp : Sp} {E : XK} {o e : Expr} {es : List Expr} {ta : TE} {t : TA} {apos pos : Pos} {pl : Sem Bool} (M : MetSt X.prog X.w X.K X.mg X.base k C m sp) (hr : Room k X.A) (hx : Passes (L2.CX X.prog X.w) X E) (he : PE X o ta) (ha : PA X (e :: es) t)
    (hst : starEach (e :: es) X.env = (false, eval e X.env) :: starEach es X.env := by rfl) (hpl : (backTo pos (starEach es X.env)).any (·.1) = false := by rfl)
    (ht : eval (.Call (.Attribute o m apos) (e :: es) [] pos) X.env = (do
      let ov ← eval o X.env
      standAt apos.atName
      let (f, first) ← holding [ov] (getMethod ov m pl)
      callWith pos f first (backTo pos (starEach (e :: es) X.env)) (backToKw pos (keywordEach [] X.env))) := by rfl) :
    PE X (.Call (.Attribute o m apos) (e :: es) [] pos) (tSMeth C sp E ta t) := by
  obtain ⟨mc, p, g, r, c, F⟩ := M.ex
  refine ⟨fun pins s σ H Q I h => ?_⟩
  refine PySem.W.methodCall_KW (pl := pl) (thn (he.run pins s σ H _ I h) fun u s1 ⟨x, H1, I1, rx, ex, q⟩ => ?_) ht
  subst ex
  obtain rfl : u = Value.ref C := rx
  refine getmethsm_ok I1 r c fun s2 I2 => ?_
  refine PySem.W.callWith_K (h₀ := X.base) I2.ok.mod.kin c.kp (thn (ha.run pos pins s2 σ H1 _ I2 q) fun us s3 ⟨vs, H2, I3, rv, q2⟩ => ⟨I3.kIn, ?_⟩) hst hpl
  exact wpAny_call (run_fnR (us := us) (vs := vs) F hr hx I3 rv q2)
end FvO


/-! class methods called on their class (also by keywords); len, repr, == of an own class -/
namespace FvO
open PySem PySem.Spec PyProof.Rows L2 Fv FvX ClX
structure MetC (P : Program) (w : World) (K : PySem.W.Frag) (mg : Str → Option Value) (base : Heap) (k : Nat) (C : Addr) (m : Str) (sp : Sp) : Prop where
  ex : ∃ (mc : Value) (p g : Addr), CRead K C mc ∧ CMet K C mc m p g ∧ FnR P w K mg base (L2.CX P w) k g sp
structure MetCK (P : Program) (w : World) (K : PySem.W.Frag) (mg : Str → Option Value) (base : Heap) (k : Nat) (C : Addr) (m : Str) (ps ks : List Str) (gV : List V → List V → List V) (sp : Sp) : Prop where
  ex : ∃ (mc : Value) (p g : Addr) (fd : FuncData) (gg : List Value → List Value → List Value), CRead K C mc ∧ CMet K C mc m p g ∧ KBn K fd ps 1 ks gg gV ∧ FnOk P w K mg base (L2.CX P w) k g fd ps sp
def tCMethK (C : Addr) (n : Nat) (gV : List V → List V → List V) (sp : Sp) (E : XK) (ta : TE) (tk : TA) : TE := fun σ H Q => ta σ H fun x H1 => x = .ref C ∧ tk σ H1 fun zs H2 => zs.length = n ∧ sp (gV [.ref C] zs) H2 Q E
section
variable {X : Cx} {k : Nat} {C : Addr} {m : Str} {sp : Sp} {E : XK} {o e : Expr} {es : List Expr} {ta : TE} {t tk : TA} {apos pos : Pos} {pl : Sem Bool} {ps ks : List Str} {gV : List V → List V → List V} {kws : List Keyword}
theorem pe_cm (M : MetC X.prog X.w X.K X.mg X.base k C m sp) (hr : Room k X.A) (hx : Passes (L2.CX X.prog X.w) X E) (he : PE X o ta) (ha : PA X (e :: es) t)
    (hst : starEach (e :: es) X.env = (false, eval e X.env) :: starEach es X.env := by rfl) (hpl : (backTo pos (starEach es X.env)).any (·.1) = false := by rfl)
    (ht : eval (.Call (.Attribute o m apos) (e :: es) [] pos) X.env = (do
      let ov ← eval o X.env
      standAt apos.atName
      let (f, first) ← holding [ov] (getMethod ov m pl)
      callWith pos f first (backTo pos (starEach (e :: es) X.env)) (backToKw pos (keywordEach [] X.env))) := by rfl) :
    PE X (.Call (.Attribute o m apos) (e :: es) [] pos) (tCMeth C sp E ta t) := by
  obtain ⟨mc, p, g, r, c, F⟩ := M.ex
  exact pe_cmeth (pl := pl) he r c F hr hx ha hst hpl ht
theorem pe_cmK (M : MetCK X.prog X.w X.K X.mg X.base k C m ps ks gV sp) (hr : Room k X.A) (hx : Passes (L2.CX X.prog X.w) X E) (he : PE X o ta) (hkw : PK X kws tk)
    (hall : (backToKw pos (keywordEach kws X.env)).all (·.1.isSome) = true := by rfl) (hks : (backToKw pos (keywordEach kws X.env)).filterMap (·.1) = ks := by rfl)
    (hpl : ((backTo pos (starEach [] X.env)).any (·.1) || (backToKw pos (keywordEach kws X.env)).any (·.1.isNone)) = false := by rfl)
    (ht : eval (.Call (.Attribute o m apos) [] kws pos) X.env = (do
      let ov ← eval o X.env
      standAt apos.atName
      let (f, first) ← holding [ov] (getMethod ov m pl)
      callWith pos f first (backTo pos (starEach [] X.env)) (backToKw pos (keywordEach kws X.env))) := by rfl) :
    PE X (.Call (.Attribute o m apos) [] kws pos) (tCMethK C ks.length gV sp E ta tk) := by
  obtain ⟨mc, p, g, fd, gg, r, c, hb, F⟩ := M.ex
  refine ⟨fun pins s σ H Q I h => ?_⟩
  refine PySem.W.methodCall_KW (pl := pl) (thn (he.run pins s σ H _ I h) fun u s1 ⟨x, H1, I1, rx, ex, q⟩ => ?_) ht
  subst ex
  obtain rfl : u = Value.ref C := rx
  refine getmethcm_ok I1 r c fun s2 I2 => ?_
  refine PySem.W.callWith_of (P := PySem.W.MethP X.K s1.heap.objs.size g (.ref C)) hpl (PySem.W.keeps_M c.fi) (PyProof.Rows.evalArgs_kw2_nil hall (thn (hkw.run pos _ s2 σ H1 _ I2 q) fun ws s3 ⟨zs, H2, I3, rz, l2, q2⟩ => ⟨⟨pin_at I3, I3.kIn⟩, ?_⟩))
  rw [hks]
  have r2 := hb.rel (us := [.ref C]) (vs := [.ref C]) (.cons rfl .nil) rz
  have z : wpAny (model X.prog X.w) X.A (call (.ref s1.heap.objs.size) ([] ++ []) (ks.zip ws)) (EP X ((s1.heap.objs.size, PySem.W.methodObj (.ref g) (.ref C)) :: pins) σ Q) X.xe s3 := by
    refine wpAny_call (PySem.W.method_call (pin_at I3) (codeAny_mono (F.run X.A X.stack s3 H2 ⟨[.ref C], ks.zip ws⟩ (gg [.ref C] ws) (gV [.ref C] zs) Q E hr I3.env0 (hb.to s3 [.ref C] ws I3.kIn rfl (rz.length.symm.trans l2)) r2 q2) fun r s' hq => ?_))
    cases r with
    | error e => exact hx _ σ H2 s3 e s' I3 hq
    | ok fl =>
      cases fl with
      | ret u => exact I3.after hq
      | next => exact False.elim hq
      | brk => exact False.elim hq
      | cont => exact False.elim hq
  exact thn z fun _ _ y => unpinE y
/-- the callee runs at a place below -/
theorem run_fnA {pins : List (Addr × Obj)} {σ : L2.St} {H : Hp} {s : Shared} {A1 : Around} {f : Addr} {Q : VK} {us : List Value} {vs : List V} (sb : Sub X k A1) (F : FnR X.prog X.w X.K X.mg X.base (L2.CX X.prog X.w) k f sp) (hx : Passes (L2.CX X.prog X.w) X E) (I : Inv X pins σ H s) (r : Vals vs us) (h : sp vs H Q E) :
    codeAny (model X.prog X.w) A1 (.call (.ref f) ⟨us, []⟩) (fun r s' => match r with | .ok (.ret v) => EP X pins σ Q v s' | .ok _ => False | .error e => X.xe e s') s := by
  have e0 : Env0 X.prog X.w X.K X.mg X.base A1 X.stack s H := by
    have e := I.env0
    exact ⟨by rw [sb.fr]; exact e.frames, e.mod, e.bs, e.bsz, e.funs, e.frf, e.hok, e.bare⟩
  refine codeAny_mono (F A1 X.stack s H us vs Q E sb.room e0 r h) fun r s' hq => ?_
  cases r with
  | error e => exact hx pins σ H s e s' I hq
  | ok fl =>
    cases fl with
    | ret u => exact I.after hq
    | next => exact False.elim hq
    | brk => exact False.elim hq
    | cont => exact False.elim hq
def rLenOwn (C : Addr) (sp : Sp) (E : XK) : List V → Hp → VK → Prop := fun xs H Q => ∃ a dx fs, xs = [.ref a] ∧ H a = some (.ins C dx fs) ∧ sp [.ref a] H (fun v H' => ∃ n : Nat, v = .int (n : Nat) ∧ n < 2 ^ 63 ∧ Q (.int (n : Nat)) H') E
theorem call_lenOwn (M : MetR X.prog X.w X.K X.mg X.base k C "__len__" sp) (hr : Room (k + 1) X.A) (hx : Passes (L2.CX X.prog X.w) X E) : CallR X (.builtin "len") (rLenOwn C sp E) := by
  obtain ⟨f, c, hm, F⟩ := M.ex
  intro pins s σ H xs us Q I r h
  obtain ⟨a, dx, fs, rfl, ha, q⟩ := h
  obtain ⟨u, rfl, rx⟩ := vals1 r
  obtain rfl : u = Value.ref a := rx
  obtain ⟨mA, J, _⟩ := ins_get I.hok ha
  obtain ⟨od, J, _⟩ := J.look
  obtain ⟨m, hF⟩ := I.fr
  refine PySem.W.len_K hF I.ok.mod.kin J hm.at_ hm.fn (wpAny_call (codeAny_mono (run_fnA (k := k) ⟨hr.in1, rfl⟩ F hx I (us := [.ref a]) (vs := [.ref a]) (.cons rfl .nil) q) fun r s' hq => ?_))
  cases r with
  | error e => exact hq
  | ok fl =>
    cases fl with
    | next => exact False.elim hq
    | brk => exact False.elim hq
    | cont => exact False.elim hq
    | ret u =>
      obtain ⟨v, H', I', rv, n, ev, hn, q'⟩ := hq
      subst ev
      obtain ⟨t, rfl⟩ := rv
      exact ⟨⟨by omega, by omega⟩, .int (n : Nat), H', I'.tok _, ⟨_, rfl⟩, q'⟩
def rReprOwn (C : Addr) (sp : Sp) (E : XK) : List V → Hp → VK → Prop := fun xs H Q => ∃ a dx fs, xs = [.ref a] ∧ H a = some (.ins C dx fs) ∧ sp [.ref a] H (fun v H' => (∃ t, v = .str t) ∧ Q v H') E
theorem call_reprOwn (M : MetR X.prog X.w X.K X.mg X.base k C "__repr__" sp) (hr : Room (k + 1) X.A) (hx : Passes (L2.CX X.prog X.w) X E) : CallR X (.builtin "repr") (rReprOwn C sp E) := by
  obtain ⟨f, c, hm, F⟩ := M.ex
  intro pins s σ H xs us Q I r h
  obtain ⟨a, dx, fs, rfl, ha, q⟩ := h
  obtain ⟨u, rfl, rx⟩ := vals1 r
  obtain rfl : u = Value.ref a := rx
  obtain ⟨mA, J, _⟩ := ins_get I.hok ha
  obtain ⟨od, J, _⟩ := J.look
  obtain ⟨m, hF⟩ := I.fr
  refine PySem.W.repr_K hr.in1.units0 hF I.ok.mod.kin J hm.at_ hm.fn (wpAny_call (codeAny_mono (run_fnA (k := k) ⟨hr.in1, rfl⟩ F hx I (us := [.ref a]) (vs := [.ref a]) (.cons rfl .nil) q) fun r s' hq => ?_))
  cases r with
  | error e => exact hq
  | ok fl =>
    cases fl with
    | next => exact False.elim hq
    | brk => exact False.elim hq
    | cont => exact False.elim hq
    | ret u =>
      obtain ⟨v, H', I', rv, ⟨t, ev⟩, q'⟩ := hq
      subst ev
      obtain ⟨t2, rfl⟩ := rv
      exact ⟨.str t, H', I', ⟨_, rfl⟩, q'⟩
theorem type_list {M : Model} {h : Heap} {y : Addr} {o : Obj} (ho : h.get? y = some o) (hc : o.cls = .type "list") : PySem.W.Looks M h (typeOf (.ref y)) (.type "list") :=
  (PySem.W.Looks.ld ho).andThen (by rw [hc]; exact .now)
/-- what stands to the right of an own == -/
def RightOf (C : Addr) (H : Hp) (y : V) : Prop := ∃ b, y = .ref b ∧ ((∃ dy gs, H b = some (.ins C dy gs)) ∨ ∃ ys, H b = some (.lst ys))
def rEqOwn (C : Addr) (sp : Sp) (E : XK) : R2 := fun x y H Q => ∃ a dx fs, x = .ref a ∧ H a = some (.ins C dx fs) ∧ RightOf C H y ∧ sp [x, y] H (fun v H' => (∃ b, v = .bl b) ∧ Q v H') E
theorem op_eqOwn (M : MetR X.prog X.w X.K X.mg X.base k C "__eq__" sp) (hn : PySem.W.notFirst X.K C (.type "list") = true) (hr : Room k X.A) (hx : Passes (L2.CX X.prog X.w) X E) : OpR X (compareOp .Eq) (rEqOwn C sp E) := by
  obtain ⟨f, c, hm, F⟩ := M.ex
  intro pins s σ H x y u v Q I rx ry h
  obtain ⟨a, dx, fs, rfl, ha, ⟨b, rfl, hb⟩, q⟩ := h
  obtain rfl : u = Value.ref a := rx
  obtain rfl : v = Value.ref b := ry
  obtain ⟨mA, J, _⟩ := ins_get I.hok ha
  obtain ⟨od, J, _⟩ := J.look
  obtain ⟨m, hF⟩ := I.fr
  show wpAny (model X.prog X.w) X.A (richCompare .Eq (.ref a) (.ref b)) (EP X pins σ Q) X.xe s
  have body : wpAny (model X.prog X.w) X.A (call (.ref f) [.ref a, .ref b]) (PySem.W.CmpBack (EP X pins σ Q)) X.xe s := by
    refine wpAny_call (codeAny_mono (run_fnA (k := k) ⟨hr, rfl⟩ F hx I (us := [.ref a, .ref b]) (vs := [.ref a, .ref b]) (.cons rfl (.cons rfl .nil)) q) fun r s' hq => ?_)
    cases r with
    | error e => exact hq
    | ok fl =>
      cases fl with
      | next => exact False.elim hq
      | brk => exact False.elim hq
      | cont => exact False.elim hq
      | ret u =>
        obtain ⟨v, H', I', rv, ⟨t, ev⟩, q'⟩ := hq
        subst ev
        cases rv
        exact ⟨.bl t, H', I', rfl, q'⟩
  rcases hb with ⟨dy, gs, hb⟩ | ⟨ys, hb⟩
  · obtain ⟨mB, J', _⟩ := ins_get I.hok hb
    obtain ⟨od', J', _⟩ := J'.look
    exact PySem.W.cmp_K (op := .Eq) (tb := .ref C) hr.units0 hF I.ok.mod.kin J J'.type (by simp [PySem.W.notFirst]) hm.at_ hm.fn body
  · obtain ⟨z, its, n, r, e⟩ := I.hok b _ hb
    exact PySem.W.cmp_K (op := .Eq) (tb := .type "list") hr.units0 hF I.ok.mod.kin J (type_list e rfl) hn hm.at_ hm.fn body
end
end FvO


/-! Board: len, repr, == -/
namespace FvO
open PySem PySem.Spec PyProof.Rows L2 Fv FvW FvX TL
open FvK (pe_fldK)
-- top 26  slots: 0:self 1:other
abbrev s_eq__of__Board : Stmt := inClass (topS 26) 21
abbrev N_eq__of__Board : List Str := ["self", "other"]
theorem sc_eq__of__Board : FnScope N_eq__of__Board ["self", "other"] (defScope s_eq__of__Board) := ⟨rfl, rfl, rfl, by decide +kernel, rfl, by decide +kernel, by decide +kernel⟩

-- top 26  slots: 0:self
abbrev s_len__of__Board : Stmt := inClass (topS 26) 22
abbrev N_len__of__Board : List Str := ["self"]
theorem sc_len__of__Board : FnScope N_len__of__Board ["self"] (defScope s_len__of__Board) := ⟨rfl, rfl, rfl, by decide +kernel, rfl, by decide +kernel, by decide +kernel⟩

-- top 26  slots: 0:self
abbrev s_repr__of__Board : Stmt := inClass (topS 26) 23
abbrev N_repr__of__Board : List Str := ["self"]
theorem sc_repr__of__Board : FnScope N_repr__of__Board ["self"] (defScope s_repr__of__Board) := ⟨rfl, rfl, rfl, by decide +kernel, rfl, by decide +kernel, by decide +kernel⟩

theorem op_eqDq {X : Cx} {K : PySem.W.Frag} (hK : X.K = K) (hu : X.A.units + 64 < cLine) : OpR X (compareOp .Eq) (rEqD K) := by
  subst hK
  exact op_eqD hu
theorem op_neDq {X : Cx} {K : PySem.W.Frag} (hK : X.K = K) (hu : X.A.units + 64 < cLine) : OpR X (compareOp .NotEq) (rNeD K) := by
  subst hK
  exact op_neD hu
/-- what never raises may stand where something may raise -/
theorem fnR_up {P : Program} {w : World} {K : PySem.W.Frag} {mg : Str → Option Value} {base : Heap} {k : Nat} {f : Addr} {sp : Sp} (F : FnR P w K mg base CX0 k f sp) : FnR P w K mg base (L2.CX P w) k f sp :=
  fun A outer s H us vs Q E hr e0 r h => codeAny_mono (F A outer s H us vs Q E hr e0 r h) fun r s' hq => by
    cases r with
    | error e => exact False.elim hq
    | ok fl => cases fl <;> exact hq
def textsD (l : List Str) : PyData := .list (l.map PyData.str)
theorem texts_dpAll {K : PySem.W.Frag} {H : Hp} : ∀ (l : List Str), DpAll K H (l.map V.str) (l.map PyData.str)
  | [] => .nil
  | _ :: r => .cons (.str _) (texts_dpAll r)
theorem rowF_ok (n : Nat) (b : Nat → Bool) : PyData.strOk (rowF n b) = true := by
  show (rowF n b).cps.all _ = true
  rw [← Array.all_toList, rowF_cps, List.all_map, List.all_eq_true]
  intro y _
  show decide (chB (b y) < 0x110000) = true
  unfold chB
  cases b y <;> decide
theorem rows_gd {n : Nat} (b : Nat → Nat → Bool) (h : n ≤ 60) : gd 1 (textsD (rowsF n b)) = true := gd_lst (n := 0) (fun d hd => by
  obtain ⟨x, hx, rfl⟩ := List.mem_map.mp hd
  obtain ⟨i, _, rfl⟩ := List.mem_map.mp hx
  show (PyData.strOk _ && decide (_ ≤ 100000)) = true
  rw [rowF_ok, rowF_len, decide_eq_true (by omega)]
  rfl) (by unfold rowsF; rw [List.length_map, List.length_map, List.length_range]; omega)
theorem eqv_self {n : Nat} {d : PyData} (h : gd n d = true) (hn : n ≤ 64) : PyData.eqv d d = true := SeqAt.eqv_refl d (SeqAt.canLay_of_shaped (gd_shaped h hn))
theorem lines_dp {K : PySem.W.Frag} {H : Hp} {p : Addr} {l : List Str} (h : H p = some (.lst (l.map V.str))) : Dp K H (.ref p) (textsD l) := .lst (SqL.of h) (texts_dpAll l)
/-- isinstance(x, C) of an instance of C or of a list -/
def rIsB (K : PySem.W.Frag) (C : Addr) : List V → Hp → VK → Prop := fun xs H Q => ∃ y, xs = [.ref y, .ref C] ∧ ((∃ dx gs, H y = some (.ins C dx gs) ∧ Q (.bl true) H) ∨ ∃ ys, H y = some (.lst ys) ∧ Q (.bl false) H)
theorem call_isB {X : Cx} {K : PySem.W.Frag} {C : Addr} (hK : X.K = K) (c : C8.InsC K C) (i2 : PySem.W.kitOne K (.type "list") (.ref C) = some false) : CallR X (.builtin "isinstance") (rIsB K C) := by
  subst hK
  intro pins s σ H xs us Q I r h
  obtain ⟨y, rfl, ⟨dx, gs, e, q⟩ | ⟨ys, e, q⟩⟩ := h
  · exact C8.call_isC c pins s σ H _ us Q I r ⟨y, dx, gs, rfl, e, q⟩
  · exact call_isi pins s σ H _ us Q I r ⟨.ref y, .ref C, .type "list", .ref C, false, rfl, .own C, .base (.lst e), i2, q⟩
def spLenB (K : PySem.W.Frag) (C : Addr) : Sp := fun vs H Q _ => ∃ (c : Addr) (L : BL) (n : Nat) (b : Nat → Nat → Bool) (lo hi : Nat → Nat → Nat), vs = [.ref c] ∧ BAt K C H c L n b lo hi ∧ Q (.int (n : Nat)) H
def reprB (n : Nat) : Str := ("Board(" : Str) ++ toString ((n : Nat) : Int) ++ (" places)" : Str)
def spReprB (K : PySem.W.Frag) (C : Addr) : Sp := fun vs H Q _ => ∃ (c : Addr) (L : BL) (n : Nat) (b : Nat → Nat → Bool) (lo hi : Nat → Nat → Nat), vs = [.ref c] ∧ BAt K C H c L n b lo hi ∧ n ≤ 60 ∧ Q (.str (reprB n)) H
def spEqB (K : PySem.W.Frag) (C : Addr) : Sp := fun vs H Q _ => ∃ (c : Addr) (L : BL) (n : Nat) (b : Nat → Nat → Bool) (lo hi : Nat → Nat → Nat) (y : Addr), vs = [.ref c, .ref y] ∧ BAt K C H c L n b lo hi ∧
  ((∃ (L2 : BL) (n2 : Nat) (b2 : Nat → Nat → Bool) (lo2 hi2 : Nat → Nat → Nat), BAt K C H y L2 n2 b2 lo2 hi2 ∧ rowsF n2 b2 = rowsF n b ∧ (n ≤ 60 ∧ n2 ≤ 60) ∧ Q (.bl true) H) ∨ (∃ xs, H y = some (.lst xs) ∧ Q (.bl false) H))
section
variable {P : Program} {w : World} {K : PySem.W.Frag} {mg : Str → Option Value} {base : Heap} {C : Addr}
theorem ok_lenB {f : Addr} {fd : FuncData} {k : Nat} (F : Fun K "__len__" "Board.__len__" s_len__of__Board f fd) (T : TxB K C) (m_len : mg "len" = none) :
    FnOk P w K mg base CX0 (k + 1) f fd ["self"] (spLenB K C) := by
  refine F.ok sc_len__of__Board (fun vs H Q E h => ?_) (fun cdv A outer s H vs Q E hr h => ?_)
  · obtain ⟨c, L, n, b, lo, hi, rfl, _⟩ := h
    rfl
  · obtain ⟨c, L, n, b, lo, hi, rfl, hB, good⟩ := h
    refine ⟨_, (pss_one (ps_ret (pe_callB call_len_seq (by rfl) m_len (by decide +kernel) (pa_cons (pe_fldK (K := K) rfl (pv 0) rfl) pa_nil)))), ?_⟩
    obtain ⟨dx, ob⟩ := hB.ob
    refine ⟨_, rfl, c, C, dx, _, _, rfl, ob, T.cl, T.n1, rfl, L.ln, _, rfl, .inl (SqL.of hB.ln), ?_⟩
    rw [rows_lenF]
    exact good
theorem ok_reprB {f : Addr} {fd : FuncData} {k : Nat} (F : Fun K "__repr__" "Board.__repr__" s_repr__of__Board f fd) (T : TxB K C) (m_len : mg "len" = none) :
    FnOk P w K mg base CX0 (k + 1) f fd ["self"] (spReprB K C) := by
  refine F.ok sc_repr__of__Board (fun vs H Q E h => ?_) (fun cdv A outer s H vs Q E hr h => ?_)
  · obtain ⟨c, L, n, b, lo, hi, rfl, _⟩ := h
    rfl
  · obtain ⟨c, L, n, b, lo, hi, rfl, hB, n60, good⟩ := h
    refine ⟨_, (pss_one (ps_ret (pe_joined (.cons pe_str (.cons (pe_fmt (pe_callB call_len_seq (by rfl) m_len (by decide +kernel) (pa_cons (pe_fldK (K := K) rfl (pv 0) rfl) pa_nil))) (.cons pe_str .nil)))))), ?_⟩
    obtain ⟨dx, ob⟩ := hB.ob
    have key : ∀ n : Nat, n ≤ 60 → (Str.empty ++ ("Board(" : Str)).length ≤ sizeLine ∧ ((((n : Nat) : Int)).natAbs.log2 < 1920) ∧ (Str.empty ++ ("Board(" : Str) ++ toString ((n : Nat) : Int)).length ≤ sizeLine ∧ (Str.empty ++ ("Board(" : Str) ++ toString ((n : Nat) : Int) ++ (" places)" : Str)).length ≤ sizeLine ∧ Str.empty ++ ("Board(" : Str) ++ toString ((n : Nat) : Int) ++ (" places)" : Str) = reprB n := by decide +kernel
    obtain ⟨k1, k2, k3, k4, k5⟩ := key n n60
    refine ⟨_, rfl, k1, _, rfl, c, C, dx, _, _, rfl, ob, T.cl, T.n1, rfl, L.ln, _, rfl, .inl (SqL.of hB.ln), ?_⟩
    rw [rows_lenF]
    refine .inr ⟨_, rfl, k2, _, rfl, k3, _, rfl, k4, ?_⟩
    show Q (.str (_ ++ _)) H
    rw [k5]
    exact good
theorem ok_eqB {f : Addr} {fd : FuncData} {k : Nat} (F : Fun K "__eq__" "Board.__eq__" s_eq__of__Board f fd) (T : TxB K C) (g_Board : mg "Board" = some (.ref C)) (m_isinstance : mg "isinstance" = none)
    (ic : C8.InsC K C) (i2 : PySem.W.kitOne K (.type "list") (.ref C) = some false) :
    FnOk P w K mg base CX0 (k + 1) f fd ["self", "other"] (spEqB K C) := by
  refine F.ok sc_eq__of__Board (fun vs H Q E h => ?_) (fun cdv A outer s H vs Q E hr h => ?_)
  · obtain ⟨c, L, n, b, lo, hi, y, rfl, _⟩ := h
    rfl
  · obtain ⟨c, L, n, b, lo, hi, y, rfl, hB, alt⟩ := h
    refine ⟨_, (pss_one (ps_ret (pe_and (pe_callB (call_isB (K := K) rfl ic i2) (by rfl) m_isinstance (by decide +kernel) (pa_cons (pv 1) (pa_cons (pe_glob (v := .ref C) (by rfl) g_Board rfl) pa_nil))) (pe_one (pe_cmpR (op_eqDq (K := K) rfl hr.units) (pe_fldK (K := K) rfl (pv 0) rfl) (pe_fldK (K := K) rfl (pv 1) rfl) (nomark _)))))), ?_⟩
    obtain ⟨dx, ob⟩ := hB.ob
    rcases alt with ⟨L2, n2, b2, lo2, hi2, hB2, e, n60, good⟩ | ⟨xs, hy, good⟩
    · obtain ⟨dx2, ob2⟩ := hB2.ob
      refine ⟨_, rfl, y, rfl, .inl ⟨_, _, ob2, true, rfl, iteT ?_⟩⟩
      refine ⟨_, rfl, c, C, dx, _, _, rfl, ob, T.cl, T.n1, rfl, _, rfl, y, C, dx2, _, _, rfl, ob2, T.cl, T.n1, rfl, textsD (rowsF n b), textsD (rowsF n2 b2), lines_dp hB.ln, lines_dp hB2.ln, ?_, ?_, ?_⟩
      · exact gd_shaped (rows_gd b n60.1) (by decide)
      · exact gd_shaped (rows_gd b2 n60.2) (by decide)
      · rw [e, eqv_self (rows_gd b n60.1) (by decide)]
        exact good
    · exact ⟨_, rfl, y, rfl, .inr ⟨xs, hy, false, rfl, iteF good⟩⟩
end
end FvO


namespace Fv
open PySem PySem.Spec PyProof.Rows L2 FvX
-- top 32  slots: 0:_law_ask 1:_law_told 2:_law_word 3:e
abbrev s_law_call : Stmt := topS 32
abbrev N_law_call : List Str := ["_law_ask", "_law_told", "_law_word", "e"]
theorem sc_law_call : FnScope N_law_call ["_law_ask"] (defScope s_law_call) := ⟨rfl, rfl, rfl, by decide +kernel, rfl, by decide +kernel, by decide +kernel⟩

section
variable {X : Cx} {gf CF : Addr} {cdg : Value} {q : Str}
/-- _law_call: what the lambda gives, or the error's code -/
theorem call_gives (hF : X.mg "FaultError" = some (.ref CF)) : GivesS X N_law_call "_law_call" (defScope s_law_call) gf cdg (defBody s_law_call) "_law_ask" q (TCall X.K CF) := by
  intro lf lc s H Q tl act hc h
  refine ⟨_, pss_cons (ps_set (i := 1) sc_law_call.nd rfl (.inl rfl) pe_non) (pss_cons (ps_set (i := 2) sc_law_call.nd rfl (.inl rfl) pe_str)
    (pss_cons (ps_try_first (X := (cxOf C8.CX0 X.prog X.w X.K X.mg X.base N_law_call "_law_call" (defScope s_law_call) gf cdg X.A X.stack s H C8.E0).nox) (i := 3) (c := .ref CF)
      (tb := fun W D σ H => ∃ E : XK, (∀ cls d H', E cls d H' → W cls d σ H') ∧ σ[0]? = some (some (.ref lf)) ∧ H lc = some (LamX.CodeO lc q) ∧ tl E H (fun v H' => D.nx (σ.set 1 (some v)) H'))
      rfl rfl sc_law_call.nd rfl rfl ⟨rfl, by decide, .inl hF⟩ (fun W pn xe tk _ => ?_)
      (fun a oe cls d pn hz hf => pss_one (ps_set (i := 2) sc_law_call.nd rfl (.inl rfl) (pe_errf (i := 3) hz hf (pv 3)))))
    (pss_one (ps_ret (pe_tup (pa_cons (pv 1) (pa_cons (pv 2) pa_nil))))))), ?_⟩
  · refine ⟨fun pins s' σ H' D I hh => ?_⟩
    obtain ⟨E, hW, h1, h2, h3⟩ := hh
    exact (pss_one (ps_set (i := 1) sc_law_call.nd rfl (.inl rfl) (act W pn xe E _ _ tk))).run pins s' σ H' D I ⟨h1, h2, hW, h3⟩
  · refine ⟨fun cls d H' => ∃ (C dd : Addr) (fs : List (Str × V)) (v : V), cls = .ref C ∧ PySem.W.exmOne X.K cls (.ref CF) = some true ∧ XfC X.K C ∧ PySem.W.findIn X.K (.ref C) "code" = some none ∧ d = some dd ∧ H' dd = some (.xd fs) ∧ fs.lookup ("code" : Str) = some v ∧
      ∀ p, H' p = none → Q (.ref p) (upd H' p (.tup [.non, v])), fun cls d H' z => ?_, rfl, hc, h _ _ (fun v H' z => ?_) (fun C dd H' fs v h2 h3 h4 h6 h7 h8 => ⟨C, dd, fs, v, rfl, h2, h3, h4, rfl, h6, h7, h8⟩)⟩
    · obtain ⟨C, dd, fs, v, h1, h2, h3, h4, h5, h6, h7, h8⟩ := z
      refine ⟨h2, fun a na => ⟨rfl, C, dd, fs, v, h1, h3, h4, h5, h6, h7, ?_⟩⟩
      exact ⟨_, rfl, _, rfl, (by show 2 ≤ sizeLine; decide), h8⟩
    · exact ⟨_, rfl, _, rfl, (by show 2 ≤ sizeLine; decide), z⟩
end
end Fv


namespace Fv
open PySem PySem.Spec PyProof.Rows L2
-- top 28  slots: 0:_law_script
abbrev s_law_source : Stmt := topS 28
abbrev N_law_source : List Str := ["_law_script"]
theorem sc_law_source : FnScope N_law_source ["_law_script"] (defScope s_law_source) := ⟨rfl, rfl, rfl, by decide +kernel, rfl, by decide +kernel, by decide +kernel⟩

-- top 30  slots: 0:_law_source_here 1:_law_row
abbrev s_law_pick : Stmt := topS 30
abbrev N_law_pick : List Str := ["_law_source_here", "_law_row"]
theorem sc_law_pick : FnScope N_law_pick ["_law_source_here", "_law_row"] (defScope s_law_pick) := ⟨rfl, rfl, rfl, by decide +kernel, rfl, by decide +kernel, by decide +kernel⟩



section
variable {P : Program} {w : World} {K : PySem.W.Frag} {mg : Str → Option Value} {base : Heap}
theorem ok_source {f : Addr} {fd : FuncData} {k : Nat} (F : Fun K "_law_source" "_law_source" s_law_source f fd) (m_list : mg "list" = none) :
    FnOk P w K mg base CX0 (k + 1) f fd ["_law_script"] (spSource K) := by
  refine F.ok sc_law_source (fun vs H Q E h => ?_) (fun cdv A outer s H vs Q E hr h => ?_)
  · obtain ⟨a, ns, rfl, _⟩ := h
    rfl
  · obtain ⟨a, ns, rfl, hS, hl, q⟩ := h
    refine ⟨_, (pss_one (ps_ret (pe_lst (pa_cons (pe_callTy call_list_of (by rfl) m_list (by decide +kernel) (pa_cons (pe_slice sl_list (pv 0) po_none (po_some pe_int)) pa_nil)) (pa_cons pe_int (pa_cons pe_int (pa_cons pe_int (pa_cons pe_int pa_nil)))))))), ?_⟩
    refine ⟨_, rfl, _, rfl, a, _, rfl, hS, fun c nc => ?_⟩
    have e1 : cutV (ns.map V.int) none (some 63) = ns.map V.int := by
      rw [cut_take _ (by decide)]
      exact List.take_of_length_le (by rw [List.length_map]; exact hl)
    refine ⟨c, _, rfl, .inl (SqL.of upd_same), fun L nL => ?_⟩
    refine ⟨(by show 5 ≤ sizeLine; decide), fun p np => ?_⟩
    have s1 := same_upd (o := .lst (cutV (ns.map V.int) none (some 63))) nc
    have s2 := same_upd (o := .lst (cutV (ns.map V.int) none (some 63))) nL
    have s3 := same_upd (o := .lst [.ref L, .int 0, .int 0, .int 3818, .int 0]) np
    refine q _ p L (s1.trans (s2.trans s3)) (s1.free (s2.free np)) (s1.free nL) ⟨0, 0, 3818, 0, upd_same, ?_, by decide, by decide, by decide⟩
    refine s3 _ _ ?_
    rw [upd_same, e1]
theorem ok_pick {f : Addr} {fd : FuncData} {k : Nat} (F : Fun K "_law_pick" "_law_pick" s_law_pick f fd) (m_len : mg "len" = none)
    (C_law_take : Own P w K mg base k "_law_take" ["_law_source_here", "_law_many"] spTake) :
    FnOk P w K mg base CX0 (k + 1) f fd ["_law_source_here", "_law_row"] spPick := by
  refine F.ok sc_law_pick (fun vs H Q E h => ?_) (fun cdv A outer s H vs Q E hr h => ?_)
  · obtain ⟨a, L, r, ns, xs, rfl, _⟩ := h
    rfl
  · obtain ⟨a, L, r, ns, xs, rfl, hs, ra, hr', hp, hl, q⟩ := h
    refine ⟨_, (pss_one (ps_ret (pe_ix ix_list (pv 1) (pe_own C_law_take (hr.mono (by omega)) (by rfl) (pa_cons (pv 0) (pa_cons (pe_callB call_len_seq (by rfl) m_len (by decide +kernel) (pa_cons (pv 1) pa_nil)) pa_nil))) (fun _ _ => rfl)))), ?_⟩
    refine ⟨_, rfl, _, rfl, _, rfl, r, _, rfl, .inl (SqL.of hr'), a, L, ns, _, rfl, hs, by omega, by omega, fun H' d d0 d1 hs' off => ?_⟩
    obtain ⟨v, hv, mv⟩ := atI_mem d0 d1
    exact ⟨r, _, _, _, rfl, rfl, SqL.of ((off r ra).trans hr'), hv, q H' v mv hs' off⟩
end
end Fv


namespace Fv
open PySem PySem.Spec PyProof.Rows L2
-- top 14  slots: 0:value
abbrev s_is_letter : Stmt := topS 14
abbrev N_is_letter : List Str := ["value"]
theorem sc_is_letter : FnScope N_is_letter ["value"] (defScope s_is_letter) := ⟨rfl, rfl, rfl, by decide +kernel, rfl, by decide +kernel, by decide +kernel⟩

-- top 15  slots: 0:value
abbrev s_is_compound : Stmt := topS 15
abbrev N_is_compound : List Str := ["value"]
theorem sc_is_compound : FnScope N_is_compound ["value"] (defScope s_is_compound) := ⟨rfl, rfl, rfl, by decide +kernel, rfl, by decide +kernel, by decide +kernel⟩

-- top 16  slots: 0:value 1:max_depth 2:max_size 3:deepest 4:total 5:part 6:found
abbrev s_measured : Stmt := topS 16
abbrev N_measured : List Str := ["value", "max_depth", "max_size", "deepest", "total", "part", "found"]
theorem sc_measured : FnScope N_measured ["value", "max_depth", "max_size"] (defScope s_measured) := ⟨rfl, rfl, rfl, by decide +kernel, rfl, by decide +kernel, by decide +kernel⟩


section
variable {P : Program} {w : World} {K : PySem.W.Frag} {mg : Str → Option Value} {base : Heap}
theorem len_ok {n : Nat} {s : Str} (h : gd n (.str s) = true) : s.length ≤ sizeLine := by
  have q : s.length ≤ 100000 := by
    cases n <;> (simp only [gd, Bool.and_eq_true, decide_eq_true_eq] at h; exact h.2)
  exact Nat.le_trans q (by decide)
theorem ok_is_letter {f : Addr} {fd : FuncData} {k : Nat} (F : Fun K "is_letter" "is_letter" s_is_letter f fd) (m_isinstance : mg "isinstance" = none) (m_str : mg "str" = none) (m_len : mg "len" = none)
    {t : Tok} (g_LETTERS : mg "LETTERS" = some (.str "abcdefgh" t)) :
    FnOk P w K mg base CX0 (k + 1) f fd ["value"] (spIsLetter K) := by
  refine F.ok sc_is_letter (fun vs H Q E h => ?_) (fun cdv A outer s H vs Q E hr h => ?_)
  · obtain ⟨v, d, rfl, _⟩ := h
    rfl
  · obtain ⟨v, d, rfl, hd, hg, q⟩ := h
    refine ⟨_, (pss_one (ps_ret (pe_and (pe_isD (T := "str") (by rfl) m_isinstance (by rfl) m_str (pv 0)) (pe_and (pe_cmpR op_eq (pe_callB call_len_str (by rfl) m_len (by decide +kernel) (pa_cons (pv 0) pa_nil)) pe_int (nomark _)) (pe_one (pe_cmpR op_in_str (pv 0) (pe_glob (v := .str "abcdefgh") (by rfl) g_LETTERS (⟨_, rfl⟩)) (by rfl))))))), ?_⟩
    refine ⟨_, rfl, _, _, d, rfl, by decide, hd, _, rfl, ?_⟩
    cases d with
    | str z =>
      cases hd
      refine iteT ⟨_, rfl, z, rfl, len_ok hg, rfl, _, rfl, ?_⟩
      have e : isLd (.str z) = isL z := rfl
      rw [e] at q
      unfold isL at q
      refine ite2 (fun c => ?_) (fun c => ?_)
      · refine ⟨_, rfl, z, _, rfl, rfl, ?_⟩
        rw [c, Bool.true_and] at q
        exact q
      · rw [Bool.eq_false_iff.mpr c, Bool.false_and] at q
        exact q
    | _ => exact iteF q
theorem ok_is_compound {f : Addr} {fd : FuncData} {k : Nat} (F : Fun K "is_compound" "is_compound" s_is_compound f fd) (m_isinstance : mg "isinstance" = none) (m_tuple : mg "tuple" = none) (m_len : mg "len" = none)
    {oA : Addr} (g_OPERATORS : mg "OPERATORS" = some (.ref oA)) (hO : ∀ H, SqT K H oA [.str "&", .str "|"]) :
    FnOk P w K mg base CX0 (k + 1) f fd ["value"] (spIsCompound K) := by
  refine F.ok sc_is_compound (fun vs H Q E h => ?_) (fun cdv A outer s H vs Q E hr h => ?_)
  · obtain ⟨v, d, rfl, _⟩ := h
    rfl
  · obtain ⟨v, d, rfl, hd, hg, q⟩ := h
    refine ⟨_, (pss_one (ps_ret (pe_and (pe_isD (T := "tuple") (by rfl) m_isinstance (by rfl) m_tuple (pv 0)) (pe_and (pe_cmpR op_ge (pe_callB call_len_seq (by rfl) m_len (by decide +kernel) (pa_cons (pv 0) pa_nil)) pe_int (nomark _)) (pe_one (pe_cmpR (op_inT (hu65 hr)) (pe_ix ix_tup (pv 0) pe_int (fun _ _ => rfl)) (pe_glob (v := .ref oA) (by rfl) g_OPERATORS (rfl)) (by rfl))))))), ?_⟩
    refine ⟨_, rfl, _, _, d, rfl, by decide, hd, _, rfl, ?_⟩
    cases d with
    | tuple ds =>
      cases hd with
      | @tup a xs _ hs ha =>
        refine iteT ⟨_, rfl, a, xs, rfl, .inr hs, _, _, rfl, rfl, _, rfl, ?_⟩
        have hl := dpAll_len ha
        cases ds with
        | nil =>
          rw [hl]
          exact iteF q
        | cons o ds =>
          cases ha with
          | @cons x0 xr _ _ h1 h2 =>
            have hl' := dpAll_len h2
            have e : isCd (.tuple (o :: ds)) = (decide (2 ≤ ds.length) && isOp o) := rfl
            rw [e] at q
            refine ite2 (fun c => ?_) (fun c => ?_)
            · have c' : (3 : Int) ≤ (((x0 :: xr).length : Nat) : Int) := of_decide_eq_true c
              rw [List.length_cons] at c'
              refine ⟨_, rfl, a, _, _, x0, rfl, rfl, hs, at0, o, [.str "&", .str "|"], h1, .tup (hO _) (.cons (.str _) (.cons (.str _) .nil)), gd_shaped (gd_parts hg).1 (by decide), by decide +kernel, ?_⟩
              rw [decide_eq_true (by omega), Bool.true_and] at q
              exact q
            · have c' : ¬ (3 : Int) ≤ (((x0 :: xr).length : Nat) : Int) := of_decide_eq_false (Bool.eq_false_iff.mpr c)
              rw [List.length_cons] at c'
              rw [decide_eq_false (by omega), Bool.false_and] at q
              exact q
    | _ => exact iteF q
theorem ok_measured {f : Addr} {fd : FuncData} {k n : Nat} (F : Fun K "measured" "measured" s_measured f fd) (m_max : mg "max" = none) (hk : 1 ≤ k)
    (C_is_letter : Own P w K mg base 1 "is_letter" ["value"] (spIsLetter K)) (C_is_compound : Own P w K mg base 1 "is_compound" ["value"] (spIsCompound K))
    (C_measured : Own P w K mg base k "measured" ["value", "max_depth", "max_size"] (spMeas K n)) :
    FnOk P w K mg base CX0 (k + 1) f fd ["value", "max_depth", "max_size"] (spMeas K (n + 1)) := by
  refine F.ok sc_measured (fun vs H Q E h => ?_) (fun cdv A outer s H vs Q E hr h => ?_)
  · obtain ⟨v, d, md, ms, rfl, _⟩ := h
    rfl
  · obtain ⟨v, d, md, ms, rfl, hd, hg, m0, m1, q1, q2⟩ := h
    refine ⟨_, (pss_cons (ps_if (PW.pt (pw_or (pt_cmpR op_lt (pv 1) pe_int (nomark _)) (pw_or1 (pt_cmpR op_lt (pv 2) pe_int (nomark _)))))
        (pss_one (ps_ret pe_non))
        pss_nil)
      (pss_cons (ps_if (pt_val (pe_own C_is_letter (hr.mono (by omega)) (by rfl) (pa_cons (pv 0) pa_nil)))
        (pss_one (ps_ret (pe_tup (pa_cons pe_int (pa_cons pe_int pa_nil)))))
        pss_nil)
      (pss_cons (ps_if (pt_not (pt_val (pe_own C_is_compound (hr.mono (by omega)) (by rfl) (pa_cons (pv 0) pa_nil))))
        (pss_one (ps_ret pe_non))
        pss_nil)
      (pss_cons (ps_set (i := 3) sc_measured.nd rfl (by first | exact .inl rfl | exact .inr rfl) pe_int)
      (pss_cons (ps_set (i := 4) sc_measured.nd rfl (by first | exact .inl rfl | exact .inr rfl) pe_int)
      (pss_cons (ps_for PassesOwn.never rfl (pi_tup (pe_slice sl_tup (pv 0) (po_some pe_int) po_none)) (pg_name (i := 5) sc_measured.nd rfl (by first | exact .inl rfl | exact .inr rfl))
        (pss_cons (ps_set (i := 6) sc_measured.nd rfl (by first | exact .inl rfl | exact .inr rfl) (pe_own C_measured (hr.mono (by omega)) (by rfl) (pa_cons (pv 5) (pa_cons (pe_op op_sub (pv 1) pe_int) (pa_cons (pe_op op_sub (pv 2) (pv 4)) pa_nil)))))
        (pss_cons (ps_if (pt_cmpR op_isN (pv 6) pe_non (nomark _))
          (pss_one (ps_ret pe_non))
          pss_nil)
        (pss_cons (ps_set (i := 3) sc_measured.nd rfl (by first | exact .inl rfl | exact .inr rfl) (pe_callB (call_max2 rfl) (by rfl) m_max (by decide +kernel) (pa_cons (pv 3) (pa_cons (pe_ix ix_tup (pv 6) pe_int (fun _ _ => rfl)) pa_nil))))
        (pss_one (ps_set (i := 4) sc_measured.nd rfl (by first | exact .inl rfl | exact .inr rfl) (pe_op op_add (pv 4) (pe_ix ix_tup (pv 6) pe_int (fun _ _ => rfl)))))))))
      (pss_one (ps_ret (pe_tup (pa_cons (pe_op op_add (pv 3) pe_int) (pa_cons (pv 4) pa_nil))))))))))), ?_⟩
    refine ⟨_, rfl, _, _, rfl, rfl, _, rfl, ?_⟩
    have fin0 : ¬ 1 ≤ md ∨ ms < 1 → Q .non H := fun c => by
      refine q1 ?_ H (Same.refl H)
      rcases c with c | c
      · rw [show md.toNat = 0 by omega]; rfl
      · cases md.toNat with
        | zero => rfl
        | succ m => unfold meas; rw [if_pos c]
    refine ite2 (fun c => iteT (fin0 (.inl (by have := of_decide_eq_true c; omega)))) (fun c => ?_)
    have c1 : ¬ md < 1 := of_decide_eq_false (Bool.eq_false_iff.mpr c)
    refine ⟨_, rfl, _, _, rfl, rfl, _, rfl, ?_⟩
    refine ite2 (fun c => fin0 (.inr (of_decide_eq_true c))) (fun c => ?_)
    have c2 : ¬ ms < 1 := of_decide_eq_false (Bool.eq_false_iff.mpr c)
    obtain ⟨m, em⟩ : ∃ m, md.toNat = m + 1 := ⟨md.toNat - 1, by omega⟩
    have em' : (md - 1).toNat = m := by omega
    rw [em] at q1 q2
    unfold meas at q1 q2
    rw [if_neg c2] at q1 q2
    refine ⟨_, rfl, v, d, rfl, hd, hg, _, rfl, ?_⟩
    refine ite2 (fun c => ?_) (fun c => ?_)
    · refine ⟨(by show 2 ≤ sizeLine; decide), fun p np => ?_⟩
      rw [if_pos c] at q2
      exact q2 1 1 rfl _ p (same_upd np) upd_same
    · rw [if_neg c] at q1 q2
      refine ⟨_, rfl, v, d, rfl, hd, hg, _, rfl, ?_⟩
      cases hc : isCd d with
      | false =>
        rw [if_neg (by rw [hc]; decide)] at q1
        exact iteT (q1 rfl H (Same.refl H))
      | true =>
        rw [if_pos hc] at q1 q2
        refine iteF ?_
        cases d with
        | tuple ds =>
          cases ds with
          | nil => cases hc
          | cons o ds =>
            cases hd with
            | @tup a xs _ hs ha =>
              cases ha with
              | @cons x0 xr _ _ h1 h2 =>
                have hl := dpAll_len h2
                have h2l : 2 ≤ ds.length := by
                  have e : isCd (.tuple (o :: ds)) = (decide (2 ≤ ds.length) && isOp o) := rfl
                  rw [e, Bool.and_eq_true] at hc
                  exact of_decide_eq_true hc.1
                have ep : parts (.tuple (o :: ds)) = ds := rfl
                rw [ep] at q1 q2
                have gp := (gd_parts hg).2
                refine ⟨_, rfl, 1, rfl, a, x0 :: xr, rfl, hs, ?_, fun p np => ?_⟩
                · rw [show HT.sIx (x0 :: xr).length 0 (some 1) = min 1 (x0 :: xr).length from HT.sIx_nat _ 0 1, List.length_cons]
                  omega
                have ec : cutV (x0 :: xr) (some 1) none = xr := by rw [cut_drop1]; rfl
                rw [ec]
                have s0 : Same H (upd H p (.tup xr)) := same_upd np
                refine ⟨p, rfl, ⟨_, SqT.of upd_same⟩, for_tup (xs := xr) (fun i σ H1 => ∃ (dp tot : Int) (y5 y6 : Option V), σ = [some (.ref a), some (.int md), some (.int ms), some (.int dp), some (.int tot), y5, y6] ∧
                  Same (upd H p (.tup xr)) H1 ∧ measL (meas m) (ds.drop i) ms dp tot = measL (meas m) ds ms 0 0) ?_ ?_ ?_ ?_⟩
                · exact ⟨0, 0, none, none, rfl, Same.refl _, rfl⟩
                · rintro i σ H1 hi ⟨dp, tot, y5, y6, rfl, sm, e⟩
                  exact SqT.of (sm _ _ upd_same)
                · rintro i x σ H1 hx ⟨dp, tot, y5, y6, rfl, sm, e⟩
                  obtain ⟨d', hd', hD'⟩ := dpAll_get h2 hx
                  have hDs : Dp K H1 x d' := dp_same (s0.trans sm) d' x hD'
                  rw [drop_cons_get hd'] at e
                  refine ⟨_, rfl, _, rfl, _, _, rfl, rfl, _, rfl, _, rfl, _, _, rfl, rfl, x, d', md - 1, ms - tot, rfl, hDs, gd_le (gp d' (List.mem_of_getElem? hd')) (by decide), by omega, by omega, fun en H2 s2 => ?_, fun dp' sz es H2 p2 s2 hp2 => ?_⟩
                  · refine ⟨_, rfl, rfl, _, rfl, iteT ?_⟩
                    refine q1 ?_ H2 (s0.trans (sm.trans s2))
                    rw [em'] at en
                    rw [← e]
                    simp only [measL, en]
                  · refine ⟨_, rfl, rfl, _, rfl, iteF ?_⟩
                    refine ⟨_, rfl, _, rfl, p2, _, _, _, rfl, rfl, SqT.of hp2, rfl, _, _, rfl, ?_⟩
                    refine ⟨_, rfl, _, rfl, p2, _, _, _, rfl, rfl, SqT.of hp2, rfl, _, _, rfl, rfl, ?_⟩
                    refine ⟨_, _, _, _, rfl, sm.trans s2, ?_⟩
                    rw [← e, em'] at *
                    simp only [measL, es]
                · rintro σ H1 ⟨dp, tot, y5, y6, rfl, sm, e⟩
                  refine ⟨_, rfl, _, _, rfl, rfl, _, rfl, (by show 2 ≤ sizeLine; decide), fun p3 np3 => ?_⟩
                  refine q2 (dp + 1) tot ?_ _ p3 (s0.trans (sm.trans (same_upd np3))) upd_same
                  rw [← e, List.drop_eq_nil_of_le (by omega)]
                  rfl
        | _ => cases hc
theorem meas_zero {f : Addr} {fd : FuncData} {k : Nat} : FnOk P w K mg base CX0 k f fd ["value", "max_depth", "max_size"] (spMeas K 0) := by
  have no : ∀ vs H Q E, ¬ spMeas K 0 vs H Q E := fun vs H Q E h => by
    obtain ⟨v, d, md, ms, _, _, _, m0, m1, _⟩ := h
    omega
  exact ⟨fun vs H Q E h => absurd h (no vs H Q E), fun A outer s H args us vs Q E _ _ _ _ h => absurd h (no vs H Q E)⟩
end
end Fv


namespace Fv
open PySem PySem.Spec PyProof.Rows L2
-- top 31  slots: 0:_law_found 1:_law_due 2:_law_key 3:_law_one 4:_law_other
abbrev s_law_same : Stmt := topS 31
abbrev N_law_same : List Str := ["_law_found", "_law_due", "_law_key", "_law_one", "_law_other"]
theorem sc_law_same : FnScope N_law_same ["_law_found", "_law_due"] (defScope s_law_same) := ⟨rfl, rfl, rfl, by decide +kernel, rfl, by decide +kernel, by decide +kernel⟩



theorem walk_zipT {K : PySem.W.Frag} {a b : Addr} {xs ys : List V} {n : Nat} (hn : n = min xs.length ys.length) : Walk (RZ.ItzT K a b) n (fun H => SqT K H a xs ∧ SqT K H b ys) (YPair (fun i => xs[i]?) (fun i => ys[i]?)) := by
  subst hn
  refine ⟨fun i _ hi q => ?_, fun _ q => ⟨xs, ys, q.1, q.2, by omega⟩, fun i H v H' _ q y => ?_⟩
  · have h1 : i < xs.length := by omega
    have h2 : i < ys.length := by omega
    exact ⟨xs, ys, xs[i], ys[i], q.1, q.2, by simp [h1], by simp [h2]⟩
  · obtain ⟨T, x, z, h1, h2, h3, h4, h5⟩ := y
    exact ⟨T, x, z, h1, h2, h3, h4 xs q.1, h5 ys q.2⟩
def spSame (K : PySem.W.Frag) (n : Nat) : Sp := fun vs H Q _ => ∃ (v v' : V) (d : PyData) (m : Nat), vs = [v, v'] ∧ Dp K H v d ∧ Dp K H v' d ∧ m < n ∧ gd m d = true ∧ ∀ H', Same H H' → Q (.bl true) H'
theorem in_ints (ns : List Int) : inV (.int 0) (ns.map V.int) = decide ((0 : Int) ∈ ns) := by
  unfold inV
  induction ns with
  | nil => rfl
  | cons n ns ih =>
    rw [List.map_cons, List.any_cons, ih]
    show ((n == 0) || decide ((0 : Int) ∈ ns)) = decide ((0 : Int) ∈ n :: ns)
    by_cases e : n = 0
    · subst e; simp
    · have e1 : (n == 0) = false := beq_eq_false_iff_ne.mpr e
      rw [e1, Bool.false_or]
      simp [List.mem_cons, show ¬ (0 : Int) = n from fun z => e z.symm]
theorem flat_ints (ns : List Int) : (ns.map V.int).all flatV = true := by
  rw [List.all_map]
  exact List.all_eq_true.mpr fun _ _ => rfl
section
variable {P : Program} {w : World} {K : PySem.W.Frag} {mg : Str → Option Value} {base : Heap}
end
end Fv


namespace Fv
open PySem PySem.Spec PyProof.Rows L2
section
variable {P : Program} {w : World} {K : PySem.W.Frag} {mg : Str → Option Value} {base : Heap}
theorem measure_zero {f : Addr} {fd : FuncData} {k : Nat} : FnOk P w K mg base CX0 k f fd ["_law_word", "_law_deep"] (spMeasure K 0) := by
  have no : ∀ vs H Q E, ¬ spMeasure K 0 vs H Q E := fun vs H Q E h => by
    obtain ⟨v, d, md, _, _, _, m0, m1, _⟩ := h
    omega
  exact ⟨fun vs H Q E h => absurd h (no vs H Q E), fun A outer s H args us vs Q E _ _ _ _ h => absurd h (no vs H Q E)⟩
theorem same_zero {f : Addr} {fd : FuncData} {k : Nat} : FnOk P w K mg base CX0 k f fd ["_law_found", "_law_due"] (spSame K 0) := by
  have no : ∀ vs H Q E, ¬ spSame K 0 vs H Q E := fun vs H Q E h => by
    obtain ⟨v, v', d, m, _, _, _, m1, _⟩ := h
    omega
  exact ⟨fun vs H Q E h => absurd h (no vs H Q E), fun A outer s H args us vs Q E _ _ _ _ h => absurd h (no vs H Q E)⟩
theorem ok_same {f : Addr} {fd : FuncData} {k n : Nat} (F : Fun K "_law_same" "_law_same" s_law_same f fd) (m_isinstance : mg "isinstance" = none) (m_bool : mg "bool" = none) (m_int : mg "int" = none) (m_str : mg "str" = none) (m_dict : mg "dict" = none)
    (m_list : mg "list" = none) (m_tuple : mg "tuple" = none) (m_len : mg "len" = none) (m_all : mg "all" = none) (m_zip : mg "zip" = none)
    (C_law_same : Own P w K mg base k "_law_same" ["_law_found", "_law_due"] (spSame K n)) :
    FnOk P w K mg base CX0 (k + 1) f fd ["_law_found", "_law_due"] (spSame K (n + 1)) := by
  refine F.ok sc_law_same (fun vs H Q E h => ?_) (fun cdv A outer s H vs Q E hr h => ?_)
  · obtain ⟨v, v', d, m, rfl, _⟩ := h
    rfl
  · obtain ⟨v, v', d, m, rfl, hd, hd', hm, hg, q⟩ := h
    refine ⟨_, (pss_cons (ps_if (PW.pt (pw_or (pt_cmpR op_isN (pv 1) pe_non (nomark _)) (pw_or1 (pt_cmpR op_isN (pv 0) pe_non (nomark _)))))
        (pss_one (ps_ret (pe_and (pe_cmpR op_isN (pv 1) pe_non (nomark _)) (pe_one (pe_cmpR op_isN (pv 0) pe_non (nomark _))))))
        pss_nil)
      (pss_cons (ps_if (PW.pt (pw_or (pt_val (pe_isD (T := "bool") (by rfl) m_isinstance (by rfl) m_bool (pv 1))) (pw_or1 (pt_val (pe_isD (T := "bool") (by rfl) m_isinstance (by rfl) m_bool (pv 0))))))
        (pss_one (ps_ret (pe_and (pe_isD (T := "bool") (by rfl) m_isinstance (by rfl) m_bool (pv 1)) (pe_and (pe_isD (T := "bool") (by rfl) m_isinstance (by rfl) m_bool (pv 0)) (pe_one (pe_cmpR op_eq (pv 0) (pv 1) (nomark _)))))))
        pss_nil)
      (pss_cons (ps_if (PW.pt (pw_or (pt_val (pe_isD (T := "int") (by rfl) m_isinstance (by rfl) m_int (pv 1))) (pw_or1 (pt_val (pe_isD (T := "str") (by rfl) m_isinstance (by rfl) m_str (pv 1))))))
        (pss_one (ps_ret (pe_and (pe_cmpR op_eq (pe_isD (T := "int") (by rfl) m_isinstance (by rfl) m_int (pv 0)) (pe_isD (T := "int") (by rfl) m_isinstance (by rfl) m_int (pv 1)) (nomark _)) (pe_one (pe_cmpR op_eq (pv 0) (pv 1) (nomark _))))))
        pss_nil)
      (pss_cons (ps_if (pt_val (pe_isD (T := "dict") (by rfl) m_isinstance (by rfl) m_dict (pv 1)))
        pss_never
        pss_nil)
      (pss_cons (ps_if (PW.pt (pw_or (pt_cmpR op_ne (pe_isD (T := "list") (by rfl) m_isinstance (by rfl) m_list (pv 0)) (pe_isD (T := "list") (by rfl) m_isinstance (by rfl) m_list (pv 1)) (nomark _)) (pw_or1 (pt_cmpR op_ne (pe_isD (T := "tuple") (by rfl) m_isinstance (by rfl) m_tuple (pv 0)) (pe_isD (T := "tuple") (by rfl) m_isinstance (by rfl) m_tuple (pv 1)) (nomark _)))))
        (pss_one (ps_ret pe_bl))
        pss_nil)
      (pss_one (ps_ret (pe_and (pe_cmpR op_eq (pe_callB call_len_seq (by rfl) m_len (by decide +kernel) (pa_cons (pv 0) pa_nil)) (pe_callB call_len_seq (by rfl) m_len (by decide +kernel) (pa_cons (pv 1) pa_nil)) (nomark _)) (pe_one (pe_callB (cr_all rfl) (by rfl) m_all (by decide +kernel) (pa_cons (pe_lc (own := [("_law_one", 3), ("_law_other", 4)]) (g := gTup K 2 (gCons (gName 3) (gCons (gName 4) gNil))) (by rfl) sc_law_same.nd (RZ.pi_zipA (by rfl) m_zip (pa_cons (pv 0) (pa_cons (pv 1) pa_nil))) (blkOk_by (own := [("_law_one", 3), ("_law_other", 4)]) (N := N_law_same) (sc := defScope s_law_same) (by decide +kernel)) (fun _ _ _ _ _ => (pg_tup rfl (pgs_cons (pg_name (i := 3) sc_law_same.nd rfl (Or.inl rfl) (hf := Or.inr rfl)) (pgs_cons (pg_name (i := 4) sc_law_same.nd rfl (Or.inl rfl) (hf := Or.inr rfl)) pgs_nil)))) (fun _ _ _ _ _ => pts_nil) (fun _ _ _ _ _ => (pe_own C_law_same (hr.mono (by omega)) (by rfl) (pa_cons (pv 3) (pa_cons (pv 4) pa_nil))))) pa_nil))))))))))), ?_⟩
    have q0 := q H (Same.refl H)
    cases d with
    | none =>
      cases hd
      cases hd'
      exact ⟨_, rfl, rfl, _, rfl, iteT (iteT ⟨_, rfl, rfl, _, rfl, iteT ⟨_, rfl, rfl, q0⟩⟩)⟩
    | bool b =>
      refine ⟨_, rfl, rfl, _, rfl, ?_⟩
      cases hd
      cases hd'
      refine iteF ⟨_, rfl, rfl, _, rfl, iteF ?_⟩
      refine ⟨_, rfl, _, _, _, rfl, by decide, .bl b, _, rfl, iteT (iteT ⟨_, rfl, _, _, _, rfl, by decide, .bl b, _, rfl, iteT ⟨_, rfl, _, _, _, rfl, by decide, .bl b, _, rfl, iteT ⟨_, rfl, _, rfl, rfl, ?_⟩⟩⟩)⟩
      rw [decide_eq_true rfl]
      exact q0
    | int i =>
      refine ⟨_, rfl, rfl, _, rfl, ?_⟩
      cases hd
      cases hd'
      refine iteF ⟨_, rfl, rfl, _, rfl, iteF ?_⟩
      refine ⟨_, rfl, _, _, _, rfl, by decide, .int i, _, rfl, iteF ⟨_, rfl, _, _, _, rfl, by decide, .int i, _, rfl, iteF ?_⟩⟩
      refine ⟨_, rfl, _, _, _, rfl, by decide, .int i, _, rfl, iteT (iteT ⟨_, rfl, _, _, _, rfl, by decide, .int i, _, rfl, _, _, _, rfl, by decide, .int i, rfl, _, rfl, iteT ⟨_, rfl, _, rfl, rfl, ?_⟩⟩)⟩
      rw [decide_eq_true rfl]
      exact q0
    | str x =>
      refine ⟨_, rfl, rfl, _, rfl, ?_⟩
      cases hd
      cases hd'
      refine iteF ⟨_, rfl, rfl, _, rfl, iteF ?_⟩
      refine ⟨_, rfl, _, _, _, rfl, by decide, .str x, _, rfl, iteF ⟨_, rfl, _, _, _, rfl, by decide, .str x, _, rfl, iteF ?_⟩⟩
      refine ⟨_, rfl, _, _, _, rfl, by decide, .str x, _, rfl, iteF ⟨_, rfl, _, _, _, rfl, by decide, .str x, _, rfl, iteT ⟨_, rfl, _, _, _, rfl, by decide, .str x, _, rfl, _, _, _, rfl, by decide, .str x, rfl, _, rfl, iteT ⟨_, rfl, _, rfl, rfl, ?_⟩⟩⟩⟩
      rw [decide_eq_true rfl]
      exact q0
    | dict kvs => cases hd
    | list ds =>
      obtain ⟨a, xs, hs, ha, rfl⟩ : ∃ a xs, SqL K H a xs ∧ DpAll K H xs ds ∧ v = .ref a := by
        cases hd with | lst hs ha => exact ⟨_, _, hs, ha, rfl⟩
      obtain ⟨b, ys, hs', ha', rfl⟩ : ∃ b ys, SqL K H b ys ∧ DpAll K H ys ds ∧ v' = .ref b := by
        cases hd' with | lst hs ha => exact ⟨_, _, hs, ha, rfl⟩
      have D1 : Dp K H (.ref a) (.list ds) := .lst hs ha
      have D2 : Dp K H (.ref b) (.list ds) := .lst hs' ha'
      cases m with
      | zero => cases hg
      | succ m =>
      obtain ⟨lds, gds⟩ := gd_list hg
      have lx := dpAll_len ha
      have ly := dpAll_len ha'
      refine ⟨_, rfl, rfl, _, rfl, iteF ⟨_, rfl, rfl, _, rfl, iteF ?_⟩⟩
      refine ⟨_, rfl, _, _, _, rfl, by decide, D2, _, rfl, iteF ⟨_, rfl, _, _, _, rfl, by decide, D1, _, rfl, iteF ?_⟩⟩
      refine ⟨_, rfl, _, _, _, rfl, by decide, D2, _, rfl, iteF ⟨_, rfl, _, _, _, rfl, by decide, D2, _, rfl, iteF ?_⟩⟩
      refine ⟨_, rfl, _, _, _, rfl, by decide, D2, _, rfl, iteF ?_⟩
      refine ⟨_, rfl, _, _, _, rfl, by decide, D1, _, rfl, _, _, _, rfl, by decide, D2, rfl, _, rfl, iteF ⟨_, rfl, _, _, _, rfl, by decide, D1, _, rfl, _, _, _, rfl, by decide, D2, rfl, _, rfl, iteF ?_⟩⟩
      refine ⟨_, rfl, a, xs, rfl, .inl hs, _, rfl, b, ys, rfl, .inl hs', rfl, _, rfl, ?_⟩
      rw [lx, ly, decide_eq_true rfl]
      refine iteT ⟨_, rfl, _, rfl, a, b, xs, ys, rfl, .inl ⟨hs, hs', fun D nD => ?_⟩⟩
      refine lc_it (walk_zip (xs := xs) (ys := ys) (n := ds.length) (by omega)) (fun i H1 => Same H H1 ∧ H1 D = some (.lst ((List.replicate i true).map V.bl))) ⟨same_upd nD, upd_same⟩ (fun i H1 _ p => ⟨p.1.seq hs, p.1.seq hs'⟩) ?_ ?_
      · rintro i x H1 H2 hi ⟨sm, e⟩ ⟨T, x1, y1, rfl, nT, rfl, e1, e2⟩
        have sT : Same H1 (upd H1 T (.tup [x1, y1])) := same_upd nT
        obtain ⟨d1, g1, h1⟩ := dpAll_get ha e1
        obtain ⟨d2, g2, h2⟩ := dpAll_get ha' e2
        have ed : d2 = d1 := Option.some.inj (g2.symm.trans g1)
        subst ed
        refine ⟨T, [x1, y1], rfl, .inl (.inl upd_same), rfl, x1, [y1], rfl, y1, [], rfl, rfl, rfl, ?_⟩
        dsimp only [tYes]
        rw [if_pos rfl]
        refine ⟨_, rfl, _, rfl, x1, y1, d2, m, rfl, dp_same (sm.trans sT) _ _ h1, dp_same (sm.trans sT) _ _ h2, by omega, gds _ (List.mem_of_getElem? g1), fun H3 s3 => ?_⟩
        have e3 : H3 D = some (.lst ((List.replicate i true).map V.bl)) := s3 _ _ (sT _ _ e)
        refine ⟨_, e3, ?_, fun b' o' eb => ?_, ?_⟩
        · rw [List.length_map, List.length_replicate]
          exact small1000 (by omega)
        · rw [upd_ne (ne_of_none eb nD)]
          exact s3 _ _ (sT _ _ (sm _ _ eb))
        · rw [upd_same, List.replicate_succ']
          simp
      · rintro H1 ⟨sm, e⟩
        refine ⟨D, _, rfl, SqL.of e, ?_⟩
        rw [show (List.replicate ds.length true).all id = true by simp]
        exact q H1 sm
    | tuple ds =>
      obtain ⟨a, xs, hs, ha, rfl⟩ : ∃ a xs, SqT K H a xs ∧ DpAll K H xs ds ∧ v = .ref a := by
        cases hd with | tup hs ha => exact ⟨_, _, hs, ha, rfl⟩
      obtain ⟨b, ys, hs', ha', rfl⟩ : ∃ b ys, SqT K H b ys ∧ DpAll K H ys ds ∧ v' = .ref b := by
        cases hd' with | tup hs ha => exact ⟨_, _, hs, ha, rfl⟩
      have D1 : Dp K H (.ref a) (.tuple ds) := .tup hs ha
      have D2 : Dp K H (.ref b) (.tuple ds) := .tup hs' ha'
      cases m with
      | zero => cases hg
      | succ m =>
      obtain ⟨lds, gds⟩ := gd_tuple hg
      have lx := dpAll_len ha
      have ly := dpAll_len ha'
      refine ⟨_, rfl, rfl, _, rfl, iteF ⟨_, rfl, rfl, _, rfl, iteF ?_⟩⟩
      refine ⟨_, rfl, _, _, _, rfl, by decide, D2, _, rfl, iteF ⟨_, rfl, _, _, _, rfl, by decide, D1, _, rfl, iteF ?_⟩⟩
      refine ⟨_, rfl, _, _, _, rfl, by decide, D2, _, rfl, iteF ⟨_, rfl, _, _, _, rfl, by decide, D2, _, rfl, iteF ?_⟩⟩
      refine ⟨_, rfl, _, _, _, rfl, by decide, D2, _, rfl, iteF ?_⟩
      refine ⟨_, rfl, _, _, _, rfl, by decide, D1, _, rfl, _, _, _, rfl, by decide, D2, rfl, _, rfl, iteF ⟨_, rfl, _, _, _, rfl, by decide, D1, _, rfl, _, _, _, rfl, by decide, D2, rfl, _, rfl, iteF ?_⟩⟩
      refine ⟨_, rfl, a, xs, rfl, .inr hs, _, rfl, b, ys, rfl, .inr hs', rfl, _, rfl, ?_⟩
      rw [lx, ly, decide_eq_true rfl]
      refine iteT ⟨_, rfl, _, rfl, a, b, xs, ys, rfl, .inr ⟨hs, hs', fun D nD => ?_⟩⟩
      refine lc_it (walk_zipT (xs := xs) (ys := ys) (n := ds.length) (by omega)) (fun i H1 => Same H H1 ∧ H1 D = some (.lst ((List.replicate i true).map V.bl))) ⟨same_upd nD, upd_same⟩ (fun i H1 _ p => ⟨same_seqT p.1 hs, same_seqT p.1 hs'⟩) ?_ ?_
      · rintro i x H1 H2 hi ⟨sm, e⟩ ⟨T, x1, y1, rfl, nT, rfl, e1, e2⟩
        have sT : Same H1 (upd H1 T (.tup [x1, y1])) := same_upd nT
        obtain ⟨d1, g1, h1⟩ := dpAll_get ha e1
        obtain ⟨d2, g2, h2⟩ := dpAll_get ha' e2
        have ed : d2 = d1 := Option.some.inj (g2.symm.trans g1)
        subst ed
        refine ⟨T, [x1, y1], rfl, .inl (.inl upd_same), rfl, x1, [y1], rfl, y1, [], rfl, rfl, rfl, ?_⟩
        dsimp only [tYes]
        rw [if_pos rfl]
        refine ⟨_, rfl, _, rfl, x1, y1, d2, m, rfl, dp_same (sm.trans sT) _ _ h1, dp_same (sm.trans sT) _ _ h2, by omega, gds _ (List.mem_of_getElem? g1), fun H3 s3 => ?_⟩
        have e3 : H3 D = some (.lst ((List.replicate i true).map V.bl)) := s3 _ _ (sT _ _ e)
        refine ⟨_, e3, ?_, fun b' o' eb => ?_, ?_⟩
        · rw [List.length_map, List.length_replicate]
          exact small1000 (by omega)
        · rw [upd_ne (ne_of_none eb nD)]
          exact s3 _ _ (sT _ _ (sm _ _ eb))
        · rw [upd_same, List.replicate_succ']
          simp
      · rintro H1 ⟨sm, e⟩
        refine ⟨D, _, rfl, SqL.of e, ?_⟩
        rw [show (List.replicate ds.length true).all id = true by simp]
        exact q H1 sm
end
end Fv


namespace FvO
open PySem PySem.Spec PyProof.Rows L2 Fv FvW FvX TL
open ClX (CRead CVal pe_cval)
-- top 35  slots: 0:_law_script 1:_law_source_here 2:_law_many 3:_law_chain_now 4:_law_y 5:_law_x 6:_law_wide 7:_law_sides 8:_law_due 9:_law_bad 10:_law_asks 11:_law_told 12:_law_same_here
abbrev s_law : Stmt := topS 35
abbrev N_law : List Str := ["_law_script", "_law_source_here", "_law_many", "_law_chain_now", "_law_y", "_law_x", "_law_wide", "_law_sides", "_law_due", "_law_bad", "_law_asks", "_law_told", "_law_same_here"]
theorem sc_law : FnScope N_law ["_law_script"] (defScope s_law) := ⟨rfl, rfl, rfl, by decide +kernel, rfl, by decide +kernel, by decide +kernel⟩

theorem okI_pos {a z i : Int} (h : a ≤ i ∧ i ≤ z) : okI a z i = some i.toNat := if_pos h
theorem okI_neg {a z i : Int} (h : ¬ (a ≤ i ∧ i ≤ z)) : okI a z i = none := if_neg h
theorem BAt.ext2 {K : PySem.W.Frag} {C : Addr} {H H' : Hp} {c : Addr} {L : BL} {n : Nat} {b : Nat → Nat → Bool} {lo hi : Nat → Nat → Nat} (h : BAt K C H c L n b lo hi) (e : LamX.ExtN H H') : BAt K C H' c L n b lo hi :=
  ⟨h.ob.imp fun dx e1 => e _ _ e1 (fun ps z => by cases z), e _ _ h.ln (fun ps z => by cases z), e _ _ h.ab (fun ps z => by cases z), e _ _ h.be (fun ps z => by cases z), dp_ext e _ _ h.lo, dp_ext e _ _ h.hi⟩
theorem e_cc : rowsF (2 ^ (1 : Int).toNat) (fun x y => decide (x &&& y = x)) = rowsF (2 : Int).toNat (fun x y => decide (x ≤ y)) := by decide +kernel
theorem e_fc : rowsF (2 ^ (2 : Int).toNat) (fun x y => decide (x &&& y = x)) = rowsF ((2 : Int).toNat + 2) (fanB ((2 : Int).toNat + 2)) := by decide +kernel
theorem e_fch : rowsF (3 : Int).toNat (fun x y => decide (x ≤ y)) = rowsF ((1 : Int).toNat + 2) (fanB ((1 : Int).toNat + 2)) := by decide +kernel
theorem len_repr : ∀ n : Nat, n ≤ 60 → (((n : Nat) : Int).natAbs.log2 < 1920) ∧ (("Board(" : Str).length + (toString ((n : Nat) : Int) : Str).length ≤ sizeLine) ∧ ((("Board(" : Str) ++ toString ((n : Nat) : Int)).length + (" places)" : Str).length ≤ sizeLine) ∧ PyData.strOk (reprB n) = true ∧ (reprB n).length ≤ 100000 := by decide +kernel
/-- what the law holds -/
structure W23 (K : PySem.W.Frag) (C : Addr) (a Ls : Addr) (ns : List Int) (x : Addr) (L : BL) (n : Nat) (Pt : Addr) (H : Hp) : Prop where
  src : Src H a Ls ns
  tab : LamX.Tabs (TT0 Pt) H
  bd : BAt K C (hide [a] H) x L n (fun x y => decide (x ≤ y)) min max
theorem put_it {H0 H2 : Hp} {D : Addr} {y : Nat} {f : Nat → V} {v : V} (hD : H2 D = some (.lst ((List.range y).map f))) (nD : H0 D = none) (sm : Same H0 H2) (h : y < 1000) (e : v = f y) :
    ∃ acc, H2 D = some (.lst acc) ∧ acc.length < sizeLine ∧ Same H0 (upd H2 D (.lst (acc ++ [v]))) ∧ upd H2 D (.lst (acc ++ [v])) D = some (.lst ((List.range (y + 1)).map f)) := by
  refine ⟨_, hD, small1000 (by rw [List.length_map, List.length_range]; omega), fun c o e => ?_, ?_⟩
  · rw [upd_ne (ne_of_none e nD)]; exact sm _ _ e
  · rw [upd_same, List.range_succ, List.map_append, e]; rfl
def rowC1 (n : Nat) (b : Nat → Bool) : List Str := ((List.range n).map fun y => chB (b y)).map fun c => (⟨#[c]⟩ : Str)
theorem row_seq {K : PySem.W.Frag} {n : Nat} {b : Nat → Bool} {D : Addr} {H : Hp} (hD : H D = some (.lst ((List.range n).map fun y => V.str (⟨#[chB (b y)]⟩ : Str)))) : SqL K H D ((rowC1 n b).map V.str) := by
  refine SqL.of ?_
  unfold rowC1
  rw [hD, List.map_map, List.map_map]; rfl
theorem row_sum {n : Nat} {b : Nat → Bool} (h : n ≤ 1000) : ((rowC1 n b).map (·.length)).sum + (rowC1 n b).length * ("" : Str).length ≤ 16777216 := by
  unfold rowC1
  rw [sum_ones, List.length_map, List.length_map, List.length_range]
  show n + n * 0 ≤ _
  omega
theorem row_txt {n : Nat} {b : Nat → Bool} : Txt.join "" (rowC1 n b) = rowF n b := join_empty _
section
variable {P : Program} {w : World} {K : PySem.W.Frag} {mg : Str → Option Value} {base : Heap} {C CB CF : Addr}
theorem W23.same {a Ls x Pt : Addr} {ns : List Int} {L : BL} {n : Nat} {H H' : Hp} (h : W23 K C a Ls ns x L n Pt H) (s : Same H H') : W23 K C a Ls ns x L n Pt H' := ⟨h.src.same s, tabs_same h.tab s, h.bd.same (SmX.of_same (M := [a]) s).hid⟩
theorem W23.smx {a Ls x Pt : Addr} {ns : List Int} {L : BL} {n : Nat} {H H' : Hp} (h : W23 K C a Ls ns x L n Pt H) (s : SmX [a] H H') (hs : Src H' a Ls ns) : W23 K C a Ls ns x L n Pt H' := ⟨hs, tabs_smx h.tab s h.src.lst, h.bd.same s.hid⟩
theorem W23.ext {a Ls x Pt : Addr} {ns : List Int} {L : BL} {n : Nat} {H H' : Hp} (h : W23 K C a Ls ns x L n Pt H) (e : LamX.ExtN H H') (t : LamX.Tabs (TT0 Pt) H') : W23 K C a Ls ns x L n Pt H' := ⟨h.src.ext e, t, h.bd.ext2 (ext_hide e)⟩
structure V23 (K : PySem.W.Frag) (C : Addr) (a Ls : Addr) (ns : List Int) (x : Addr) (L : BL) (n : Nat) (Pt : Addr) (ps : List Addr) (qs : List (Addr × List V)) (H : Hp) : Prop where
  w : W23 K C a Ls ns x L n Pt H
  bad : ∀ p ∈ ps, H p = some (.tup [.non, .str "InvalidBoard"])
  ls : ∀ q ∈ qs, H q.1 = some (.lst q.2)
theorem V23.same {a Ls x Pt : Addr} {ns : List Int} {L : BL} {n : Nat} {ps : List Addr} {qs : List (Addr × List V)} {H H2 : Hp} (h : V23 K C a Ls ns x L n Pt ps qs H) (s : Same H H2) : V23 K C a Ls ns x L n Pt ps qs H2 :=
  ⟨h.w.same s, fun q hq => s _ _ (h.bad q hq), fun q hq => s _ _ (h.ls q hq)⟩
theorem V23.step {a Ls x Pt p : Addr} {ns : List Int} {L : BL} {n : Nat} {ps : List Addr} {qs : List (Addr × List V)} {H H1 H2 : Hp} (h : V23 K C a Ls ns x L n Pt ps qs H) (e : LamX.ExtN H H1) (t : LamX.Tabs (TT0 Pt) H1) (s : Same H1 H2) (np : H2 p = none) :
    V23 K C a Ls ns x L n Pt (p :: ps) qs (upd H2 p (.tup [.non, .str "InvalidBoard"])) := by
  have s2 := s.trans (same_upd (o := .tup [.non, .str "InvalidBoard"]) np)
  refine ⟨(h.w.ext e t).same s2, fun q hq => ?_, fun q hq => s2 _ _ (e _ _ (h.ls q hq) fun ps z => by cases z)⟩
  rcases List.mem_cons.mp hq with z | z
  · rw [z]; exact upd_same
  · exact s2 _ _ (e _ _ (h.bad q z) fun ps z => by cases z)
theorem V23.new {a Ls x Pt q : Addr} {ns : List Int} {L : BL} {n : Nat} {ps : List Addr} {qs : List (Addr × List V)} {xs : List V} {H : Hp} (h : V23 K C a Ls ns x L n Pt ps qs H) (np : H q = none) :
    V23 K C a Ls ns x L n Pt ps ((q, xs) :: qs) (upd H q (.lst xs)) := by
  have h2 := h.same (same_upd (o := .lst xs) np)
  refine ⟨h2.w, h2.bad, fun z hz => ?_⟩
  rcases List.mem_cons.mp hz with e | e
  · rw [e]; exact upd_same
  · exact h2.ls z e
set_option maxHeartbeats 3200000 in
theorem ok_law {f c Pt gcall : Addr} {oc oc2 : Value} {od an od2 an2 : Option Addr} {osl osl2 : Array (Option Value)} {kW doc pm ct kW2 doc2 pm2 cdv2 ct2 : Value} {k : Nat} (hk : 33 ≤ k)
    (lk : K.lookup f = some ⟨oc, od, .func (PySem.W.fnOf "law" "law" (defArgs s_law) (defBody s_law) (defScope s_law) .none kW doc pm an (.ref c) ct), osl⟩) (hcd : PySem.W.codeIn K (.ref c) "law" = true) (TB : LamX.TabB base mg c Pt)
    (m_range : mg "range" = none) (m_len : mg "len" = none) (m_repr : mg "repr" = none) (m_str : mg "str" = none) (m_int : mg "int" = none)
    (l_call : K.lookup gcall = some ⟨oc2, od2, .func (PySem.W.fnOf "_law_call" "_law_call" (defArgs s_law_call) (defBody s_law_call) (defScope s_law_call) .none kW2 doc2 pm2 an2 cdv2 ct2), osl2⟩) (c_call : PySem.W.codeIn K cdv2 "_law_call" = true) (k_call : PySem.W.keepIn K (.ref gcall) = true) (g_call : mg "_law_call" = some (.ref gcall))
    (b_call : Binds K (PySem.W.fnOf "_law_call" "_law_call" (defArgs s_law_call) (defBody s_law_call) (defScope s_law_call) .none kW2 doc2 pm2 an2 cdv2 ct2) ["_law_ask"] []) (g_FE : mg "FaultError" = some (.ref CF))
    (exm : PySem.W.exmOne K (.ref CB) (.ref CF) = some true) (xf : XfC K CB) (fnd : PySem.W.findIn K (.ref CB) "code" = some none)
    (g_Board : mg "Board" = some (.ref C)) (TM : TxM K C) (nF : PySem.W.notFirst K C (.type "list") = true)
    (C_law_source : Own P w K mg base 1 "_law_source" ["_law_script"] (spSource K)) (C_law_take : Own P w K mg base 1 "_law_take" ["_law_source_here", "_law_many"] spTake)
    (C_law_pick : Own P w K mg base 2 "_law_pick" ["_law_source_here", "_law_row"] spPick)
    (C_law_same : Own P w K mg base 25 "_law_same" ["_law_found", "_law_due"] (spSame K 25)) (C_law_cube_row : Own P w K mg base 2 "_law_cube_row" ["_law_number", "_law_many"] spCubeRow)
    (M_rows : C8.Met P w K mg base 1 C "rows" (spRowsB K C) [])
    (M_chain : MetC P w K mg base 7 C "chain" (spChain K C CB)) (M_cube : MetC P w K mg base 7 C "cube" (spCube K C CB)) (M_fan : MetSt P w K mg base 7 C "fan" (spFan K C CB))
    (K_cube : MetCK P w K mg base 7 C "cube" ["cls", "size"] ["size"] (fun xs zs => xs ++ zs) (spCube K C CB))
    (M_len : MetR P w K mg base 1 C "__len__" (spLenB K C)) (M_repr : MetR P w K mg base 1 C "__repr__" (spReprB K C)) (M_eq : MetR P w K mg base 1 C "__eq__" (spEqB K C)) :
    FnOk P w K mg base CX0 (k + 1) f (PySem.W.fnOf "law" "law" (defArgs s_law) (defBody s_law) (defScope s_law) .none kW doc pm an (.ref c) ct) ["_law_script"] (spLawT K Pt) := by
  refine okC lk hcd sc_law (fun vs H Q E h => ?_) (fun A outer s H vs Q E hr h => ?_)
  · obtain ⟨a, ns, rfl, _⟩ := h
    rfl
  · obtain ⟨sc, ns, rfl, hS, h63, hPt, q⟩ := h
    refine ⟨_, (pss_cons (ps_set (i := 1) sc_law.nd rfl (by first | exact .inl rfl | exact .inr rfl) (pe_own C_law_source (hr.mono (by omega)) (by rfl) (pa_cons (pv 0) pa_nil)))
      (pss_cons (ps_set (i := 2) sc_law.nd rfl (by first | exact .inl rfl | exact .inr rfl) (pe_own C_law_pick (hr.mono (by omega)) (by rfl) (pa_cons (pv 1) (pa_cons (pe_lst (pa_cons pe_int (pa_cons pe_int (pa_cons pe_int (pa_cons pe_int (pa_cons pe_int (pa_cons pe_int (pa_cons (pe_op op_add pe_int (pe_own C_law_take (hr.mono (by omega)) (by rfl) (pa_cons (pv 1) (pa_cons pe_int pa_nil)))) pa_nil)))))))) pa_nil))))
      (pss_cons (ps_set (i := 3) sc_law.nd rfl (by first | exact .inl rfl | exact .inr rfl) (pe_cm M_chain (hr.mono (by omega)) passE0 (pe_glob (v := .ref C) (by rfl) g_Board rfl) (pa_cons (pv 2) pa_nil)))
      (pss_cons (ps_if (pt_cmpR (op_neDq (K := K) rfl hr.units) (C8.pe_mt0 M_rows hr (by omega) (pv 3)) (pe_lc (own := [("_law_x", 5)]) (g := gName 5) (by rfl) sc_law.nd (pi_range1 (by rfl) m_range (pa_cons (pv 2) pa_nil)) (blkOk_by (own := [("_law_x", 5)]) (N := N_law) (sc := defScope s_law) (by decide +kernel)) (fun _ _ _ _ _ => pg_name (i := 5) sc_law.nd rfl (Or.inr rfl)) (fun _ _ _ _ _ => pts_nil) (fun _ _ _ _ _ => (pe_joinK (K := K) rfl pe_str (pe_lc (own := [("_law_y", 4)]) (g := gName 4) (by rfl) sc_law.nd (pi_range1 (by rfl) m_range (pa_cons (pv 2) pa_nil)) (blkOk_by (own := [("_law_y", 4)]) (N := N_law) (by exact rfl)) (fun _ _ _ _ _ => pg_name (i := 4) sc_law.nd rfl (Or.inl rfl)) (fun _ _ _ _ _ => pts_nil) (fun _ _ _ _ _ => (pe_callTy call_str_int (by rfl) m_str (by decide +kernel) (pa_cons (pe_callTy call_int1 (by rfl) m_int (by decide +kernel) (pa_cons (pe_cmpR op_le (pv 5) (pv 4) (nomark _)) pa_nil)) pa_nil))))))) (nomark _))
        (pss_one (ps_ret pe_bl))
        pss_nil)
      (pss_cons (ps_set (i := 6) sc_law.nd rfl (by first | exact .inl rfl | exact .inr rfl) (pe_own C_law_take (hr.mono (by omega)) (by rfl) (pa_cons (pv 1) (pa_cons pe_int pa_nil))))
      (pss_cons (ps_if (pt_cmpR (op_neDq (K := K) rfl hr.units) (C8.pe_mt0 M_rows hr (by omega) (pe_cm M_cube (hr.mono (by omega)) passE0 (pe_glob (v := .ref C) (by rfl) g_Board rfl) (pa_cons (pv 6) pa_nil))) (pe_lc (own := [("_law_x", 5)]) (g := gName 5) (by rfl) sc_law.nd (pi_range1 (by rfl) m_range (pa_cons (pe_op op_shl pe_int (pv 6)) pa_nil)) (blkOk_by (own := [("_law_x", 5)]) (N := N_law) (sc := defScope s_law) (by decide +kernel)) (fun _ _ _ _ _ => pg_name (i := 5) sc_law.nd rfl (Or.inl rfl)) (fun _ _ _ _ _ => pts_nil) (fun _ _ _ _ _ => (pe_own C_law_cube_row (hr.mono (by omega)) (by rfl) (pa_cons (pv 5) (pa_cons (pe_op op_shl pe_int (pv 6)) pa_nil))))) (nomark _))
        (pss_one (ps_ret pe_bl))
        pss_nil)
      (pss_cons (ps_set (i := 7) sc_law.nd rfl (by first | exact .inl rfl | exact .inr rfl) (pe_own C_law_pick (hr.mono (by omega)) (by rfl) (pa_cons (pv 1) (pa_cons (pe_lst (pa_cons pe_int (pa_cons pe_int (pa_cons pe_int (pa_cons (pe_op op_add pe_int (pe_own C_law_take (hr.mono (by omega)) (by rfl) (pa_cons (pv 1) (pa_cons pe_int pa_nil)))) pa_nil))))) pa_nil))))
      (pss_cons (ps_setLc (i := 8) (own := [("_law_x", 5)]) (g := gName 5) (by rfl) sc_law.nd rfl rfl (sw_true rfl rfl rfl (by decide +kernel)) (pi_range1 (by rfl) m_range (pa_cons (pe_op op_add (pv 7) pe_int) pa_nil)) (blkOk_by (own := [("_law_x", 5)]) (N := N_law) (sc := defScope s_law) (by decide +kernel)) (fun _ _ _ _ _ => pg_name (i := 5) sc_law.nd rfl (Or.inr rfl)) (fun _ _ _ _ _ => pts_nil) (fun _ _ _ _ _ => (pe_joinK (K := K) rfl pe_str (pe_lc (own := [("_law_y", 4)]) (g := gName 4) (by rfl) sc_law.nd (pi_range1 (by rfl) m_range (pa_cons (pe_op op_add (pv 7) pe_int) pa_nil)) (blkOk_by (own := [("_law_y", 4)]) (N := N_law) (by exact rfl)) (fun _ _ _ _ _ => pg_name (i := 4) sc_law.nd rfl (Or.inl rfl)) (fun _ _ _ _ _ => pts_nil) (fun _ _ _ _ _ => (pe_callTy call_str_int (by rfl) m_str (by decide +kernel) (pa_cons (pe_callTy call_int1 (by rfl) m_int (by decide +kernel) (pa_cons (pe_or (pe_cmpR op_eq (pv 5) (pv 4) (nomark _)) (pe_or (pe_cmpR op_eq (pv 5) pe_int (nomark _)) (pe_one (pe_cmpR op_eq (pv 4) (pe_op op_add (pv 7) pe_int) (nomark _))))) pa_nil)) pa_nil)))))))
      (pss_cons (ps_if (PW.pt (pw_or (pt_cmpR (op_neDq (K := K) rfl hr.units) (C8.pe_mt0 M_rows hr (by omega) (pe_smeth M_fan (hr.mono (by omega)) passE0 (pe_glob (v := .ref C) (by rfl) g_Board rfl) (pa_cons (pv 7) pa_nil))) (pv 8) (nomark _)) (pw_or1 (pt_cmpR op_ne (pe_cval (pe_glob (v := .ref C) (by rfl) g_Board rfl)) pe_int (nomark _)))))
        (pss_one (ps_ret pe_bl))
        pss_nil)
      (pss_cons (ps_set (i := 9) sc_law.nd rfl (by first | exact .inl rfl | exact .inr rfl) (pe_own C_law_pick (hr.mono (by omega)) (by rfl) (pa_cons (pv 1) (pa_cons (pe_lst (pa_cons (pe_un un_neg pe_int) (pa_cons pe_int (pa_cons (pe_op op_pow pe_int pe_int) (pa_cons (pe_op op_sub pe_int (pe_op op_pow pe_int pe_int)) pa_nil))))) pa_nil))))
      (pss_cons (ps_set (i := 10) sc_law.nd rfl (by first | exact .inl rfl | exact .inr rfl) (pe_lst (pa_cons (pe_lamS (T := TT0 Pt) (TT := TCall K CF) (Ng := N_law_call) (k := 30) (by rfl) g_call k_call l_call c_call b_call sc_law_call rfl (.inl rfl) (call_gives g_FE) TB rfl (List.mem_singleton.mpr rfl) (fun p hp _ => by rw [List.mem_singleton.mp hp]; rfl) (hr.mono (by omega)) (LamX.lamS_by (sc := defScope s_law) (by decide +kernel)) rfl (fun _ _ _ _ _ => rfl) (fun A outer s H E lf lc hr2 => pe_cm M_chain (hr2.mono (by omega)) (passes_call (takes_of rfl rfl rfl rfl) (fun _ _ _ _ h => h)) (pe_glob (v := .ref C) (by rfl) g_Board rfl) (pa_cons (pv 9) pa_nil))) (pa_cons (pe_lamS (T := TT0 Pt) (TT := TCall K CF) (Ng := N_law_call) (k := 30) (by rfl) g_call k_call l_call c_call b_call sc_law_call rfl (.inl rfl) (call_gives g_FE) TB rfl (List.mem_singleton.mpr rfl) (fun p hp _ => by rw [List.mem_singleton.mp hp]; rfl) (hr.mono (by omega)) (LamX.lamS_by (sc := defScope s_law) (by decide +kernel)) rfl (fun _ _ _ _ _ => rfl) (fun A outer s H E lf lc hr2 => pe_cm M_cube (hr2.mono (by omega)) (passes_call (takes_of rfl rfl rfl rfl) (fun _ _ _ _ h => h)) (pe_glob (v := .ref C) (by rfl) g_Board rfl) (pa_cons (pv 9) pa_nil))) (pa_cons (pe_lamS (T := TT0 Pt) (TT := TCall K CF) (Ng := N_law_call) (k := 30) (by rfl) g_call k_call l_call c_call b_call sc_law_call rfl (.inl rfl) (call_gives g_FE) TB rfl (List.mem_singleton.mpr rfl) (fun p hp _ => by rw [List.mem_singleton.mp hp]; rfl) (hr.mono (by omega)) (LamX.lamS_by (sc := defScope s_law) (by decide +kernel)) rfl (fun _ _ _ _ _ => rfl) (fun A outer s H E lf lc hr2 => pe_smeth M_fan (hr2.mono (by omega)) (passes_call (takes_of rfl rfl rfl rfl) (fun _ _ _ _ h => h)) (pe_glob (v := .ref C) (by rfl) g_Board rfl) (pa_cons (pv 9) pa_nil))) pa_nil)))))
      (pss_cons (ps_set (i := 10) sc_law.nd rfl (by first | exact .inl rfl | exact .inr rfl) (pe_op op_cat (pv 10) (pe_lst (pa_cons (pe_lamS (T := TT0 Pt) (TT := TCall K CF) (Ng := N_law_call) (k := 30) (by rfl) g_call k_call l_call c_call b_call sc_law_call rfl (.inl rfl) (call_gives g_FE) TB rfl (List.mem_singleton.mpr rfl) (fun p hp _ => by rw [List.mem_singleton.mp hp]; rfl) (hr.mono (by omega)) (LamX.lamS_by (sc := defScope s_law) (by decide +kernel)) rfl (fun _ _ _ _ _ => rfl) (fun A outer s H E lf lc hr2 => pe_cm M_chain (hr2.mono (by omega)) (passes_call (takes_of rfl rfl rfl rfl) (fun _ _ _ _ h => h)) (pe_glob (v := .ref C) (by rfl) g_Board rfl) (pa_cons pe_int pa_nil))) (pa_cons (pe_lamS (T := TT0 Pt) (TT := TCall K CF) (Ng := N_law_call) (k := 30) (by rfl) g_call k_call l_call c_call b_call sc_law_call rfl (.inl rfl) (call_gives g_FE) TB rfl (List.mem_singleton.mpr rfl) (fun p hp _ => by rw [List.mem_singleton.mp hp]; rfl) (hr.mono (by omega)) (LamX.lamS_by (sc := defScope s_law) (by decide +kernel)) rfl (fun _ _ _ _ _ => rfl) (fun A outer s H E lf lc hr2 => pe_cm M_cube (hr2.mono (by omega)) (passes_call (takes_of rfl rfl rfl rfl) (fun _ _ _ _ h => h)) (pe_glob (v := .ref C) (by rfl) g_Board rfl) (pa_cons pe_int pa_nil))) (pa_cons (pe_lamS (T := TT0 Pt) (TT := TCall K CF) (Ng := N_law_call) (k := 30) (by rfl) g_call k_call l_call c_call b_call sc_law_call rfl (.inl rfl) (call_gives g_FE) TB rfl (List.mem_singleton.mpr rfl) (fun p hp _ => by rw [List.mem_singleton.mp hp]; rfl) (hr.mono (by omega)) (LamX.lamS_by (sc := defScope s_law) (by decide +kernel)) rfl (fun _ _ _ _ _ => rfl) (fun A outer s H E lf lc hr2 => pe_smeth M_fan (hr2.mono (by omega)) (passes_call (takes_of rfl rfl rfl rfl) (fun _ _ _ _ h => h)) (pe_glob (v := .ref C) (by rfl) g_Board rfl) (pa_cons pe_int pa_nil))) pa_nil))))))
      (pss_cons (ps_set (i := 10) sc_law.nd rfl (by first | exact .inl rfl | exact .inr rfl) (pe_op op_cat (pv 10) (pe_lst (pa_cons (pe_lamS (T := TT0 Pt) (TT := TCall K CF) (Ng := N_law_call) (k := 30) (by rfl) g_call k_call l_call c_call b_call sc_law_call rfl (.inl rfl) (call_gives g_FE) TB rfl (List.mem_singleton.mpr rfl) (fun p hp _ => by rw [List.mem_singleton.mp hp]; rfl) (hr.mono (by omega)) (LamX.lamS_by (sc := defScope s_law) (by decide +kernel)) rfl (fun _ _ _ _ _ => rfl) (fun A outer s H E lf lc hr2 => pe_smeth M_fan (hr2.mono (by omega)) (passes_call (takes_of rfl rfl rfl rfl) (fun _ _ _ _ h => h)) (pe_glob (v := .ref C) (by rfl) g_Board rfl) (pa_cons pe_int pa_nil))) (pa_cons (pe_lamS (T := TT0 Pt) (TT := TCall K CF) (Ng := N_law_call) (k := 30) (by rfl) g_call k_call l_call c_call b_call sc_law_call rfl (.inl rfl) (call_gives g_FE) TB rfl (List.mem_singleton.mpr rfl) (fun p hp _ => by rw [List.mem_singleton.mp hp]; rfl) (hr.mono (by omega)) (LamX.lamS_by (sc := defScope s_law) (by decide +kernel)) rfl (fun _ _ _ _ _ => rfl) (fun A outer s H E lf lc hr2 => pe_cmK K_cube (hr2.mono (by omega)) (passes_call (takes_of rfl rfl rfl rfl) (fun _ _ _ _ h => h)) (pe_glob (v := .ref C) (by rfl) g_Board rfl) (pk_cons (pe_un un_neg pe_int) pk_nil))) pa_nil)))))
      (pss_cons (ps_if (PW.pt (pw_or (pt_cmpR (op_neDq (K := K) rfl hr.units) (pv 10) (pe_op op_rep (pe_lst (pa_cons (pe_tup (pa_cons pe_non (pa_cons pe_str pa_nil))) pa_nil)) pe_int) (nomark _)) (pw_or (pt_cmpR op_ne (pe_callB (call_lenOwn M_len (hr.mono (by omega)) passE0) (by rfl) m_len (by decide +kernel) (pa_cons (pe_cm M_cube (hr.mono (by omega)) passE0 (pe_glob (v := .ref C) (by rfl) g_Board rfl) (pa_cons pe_int pa_nil)) pa_nil)) pe_int (nomark _)) (pw_or1 (pt_cmpR op_ne (pe_callB (call_lenOwn M_len (hr.mono (by omega)) passE0) (by rfl) m_len (by decide +kernel) (pa_cons (pe_smeth M_fan (hr.mono (by omega)) passE0 (pe_glob (v := .ref C) (by rfl) g_Board rfl) (pa_cons pe_int pa_nil)) pa_nil)) pe_int (nomark _))))))
        (pss_one (ps_ret pe_bl))
        pss_nil)
      (pss_cons (ps_set (i := 11) sc_law.nd rfl (by first | exact .inl rfl | exact .inr rfl) (C8.pe_mt0 M_rows hr (by omega) (pv 3)))
      (pss_cons (ps_expr (pe_bm0 PySem.F.plainAttrs_list PySem.F.slot_list_clear PySem.F.type_list_clear mt_clear (pv 11)))
      (pss_cons (ps_if (pt_not (pt_val (pe_own C_law_same (hr.mono (by omega)) (by rfl) (pa_cons (pe_lst (pa_cons (pe_callB (call_lenOwn M_len (hr.mono (by omega)) passE0) (by rfl) m_len (by decide +kernel) (pa_cons (pv 3) pa_nil)) (pa_cons (pe_callB (call_reprOwn M_repr (hr.mono (by omega)) passE0) (by rfl) m_repr (by decide +kernel) (pa_cons (pv 3) pa_nil)) pa_nil))) (pa_cons (pe_lst (pa_cons (pv 2) (pa_cons (pe_op op_catS (pe_op op_catS pe_str (pe_callTy call_str_int (by rfl) m_str (by decide +kernel) (pa_cons (pv 2) pa_nil))) pe_str) pa_nil))) pa_nil)))))
        (pss_one (ps_ret pe_bl))
        pss_nil)
      (pss_cons (ps_set (i := 12) sc_law.nd rfl (by first | exact .inl rfl | exact .inr rfl) (pe_lst (pa_cons (pe_cmpR (op_eqOwn M_eq nF (hr.mono (by omega)) passE0) (pe_cm M_chain (hr.mono (by omega)) passE0 (pe_glob (v := .ref C) (by rfl) g_Board rfl) (pa_cons pe_int pa_nil)) (pe_cm M_cube (hr.mono (by omega)) passE0 (pe_glob (v := .ref C) (by rfl) g_Board rfl) (pa_cons pe_int pa_nil)) (nomark _)) (pa_cons (pe_cmpR (op_eqOwn M_eq nF (hr.mono (by omega)) passE0) (pe_smeth M_fan (hr.mono (by omega)) passE0 (pe_glob (v := .ref C) (by rfl) g_Board rfl) (pa_cons pe_int pa_nil)) (pe_cm M_cube (hr.mono (by omega)) passE0 (pe_glob (v := .ref C) (by rfl) g_Board rfl) (pa_cons pe_int pa_nil)) (nomark _)) (pa_cons (pe_cmpR (op_eqOwn M_eq nF (hr.mono (by omega)) passE0) (pe_smeth M_fan (hr.mono (by omega)) passE0 (pe_glob (v := .ref C) (by rfl) g_Board rfl) (pa_cons pe_int pa_nil)) (pe_cm M_chain (hr.mono (by omega)) passE0 (pe_glob (v := .ref C) (by rfl) g_Board rfl) (pa_cons pe_int pa_nil)) (nomark _)) (pa_cons (pe_cmpR (op_eqOwn M_eq nF (hr.mono (by omega)) passE0) (pe_cm M_chain (hr.mono (by omega)) passE0 (pe_glob (v := .ref C) (by rfl) g_Board rfl) (pa_cons pe_int pa_nil)) (pe_lst (pa_cons pe_str (pa_cons pe_str pa_nil))) (nomark _)) pa_nil))))))
      (pss_one (ps_ret (pe_cmpR (op_eqDq (K := K) rfl hr.units) (pv 12) (pe_lst (pa_cons pe_bl (pa_cons pe_bl (pa_cons pe_bl (pa_cons pe_bl pa_nil))))) (nomark _)))))))))))))))))))))), ?_⟩
    have tab0 : LamX.Tabs (TT0 Pt) H := fun p hp => by
      rw [List.mem_singleton.mp hp]
      exact LamX.TabS.nil hPt
    refine ⟨_, rfl, sc, ns, rfl, hS, h63, fun H0 a Ls s0 na nL hs0 => ?_⟩
    have ma : ∀ {b : Addr}, b ∈ [b] := List.mem_singleton.mpr rfl
    refine ⟨_, rfl, _, rfl, a, Ls, ns, 20, rfl, hs0, by decide, by decide, fun H1 d d0 dl hs1 off1 => ⟨_, _, rfl, rfl, (by show 7 ≤ sizeLine; decide), fun p np => ?_⟩⟩
    have sm1 : SmX [a] H0 H1 := SmX.at off1 ma
    have tab1 : LamX.Tabs (TT0 Pt) H1 := tabs_smx (tabs_same tab0 s0) sm1 hs0.lst
    have pa : p ≠ a := (hs1.ne np).symm
    have sp := same_upd (o := .lst [.int 1, .int 2, .int 3, .int 58, .int 59, .int 60, .int (1 + d)]) np
    refine ⟨a, Ls, p, ns, _, rfl, hs1.same sp, pa, upd_same, (by show 0 < 7; decide), (by show 7 ≤ 1000; decide), fun H2 v vm hs2 off2 => ?_⟩
    obtain ⟨n, rfl, n1, n60⟩ : ∃ n : Nat, v = .int (n : Nat) ∧ 1 ≤ n ∧ n ≤ 60 := by
      simp only [List.mem_cons, List.not_mem_nil, or_false] at vm
      rcases vm with e | e | e | e | e | e | e
      · exact ⟨1, e, by decide, by decide⟩
      · exact ⟨2, e, by decide, by decide⟩
      · exact ⟨3, e, by decide, by decide⟩
      · exact ⟨58, e, by decide, by decide⟩
      · exact ⟨59, e, by decide, by decide⟩
      · exact ⟨60, e, by decide, by decide⟩
      · exact ⟨(1 + d).toNat, by rw [e]; congr 1; omega, by omega, by omega⟩
    have sm2 : SmX [a] (upd H1 p _) H2 := SmX.at off2 ma
    have tab2 : LamX.Tabs (TT0 Pt) H2 := tabs_smx (tabs_same tab1 sp) sm2 (hs1.same sp).lst
    -- the chain
    refine ⟨rfl, _, rfl, [a], _, rfl, hs2.trk, fun m hm => ?_, fun e => (by rw [okI_pos ⟨by omega, by omega⟩] at e; cases e)⟩
    rw [okI_pos ⟨by omega, by omega⟩, Int.toNat_natCast] at hm
    cases hm
    intro H3 x L s3 nx hB e1 e2
    have W3 : W23 K C a Ls ns x L n Pt H3 := ⟨hs2.same s3, tabs_same tab2 s3, hB⟩
    obtain ⟨dx, ob⟩ := (W3.bd.same hide_same).ob
    refine ⟨_, rfl, x, dx, _, rfl, ob, rfl, x, L, n, _, _, _, rfl, W3.bd.same hide_same, fun H4 p4 s4 np4 hp4 => ?_⟩
    refine ⟨_, rfl, _, rfl, by omega, by omega, fun D nD => lc_range (lo := 0) (n := ((n : Nat) : Int).toNat) (fun j H' => Same H4 H' ∧ H' D = some (.lst ((List.range j).map fun x => V.str (rowF n fun y => decide (x ≤ y))))) ?_ ?_ ?_⟩
    · exact ⟨same_upd nD, upd_same⟩
    · rintro j H' hj ⟨sm, hD⟩
      rw [Int.toNat_natCast] at hj
      have ej : (0 : Int) + (j : Nat) = ((j : Nat) : Int) := by omega
      rw [ej]
      refine ⟨rfl, yes_it ⟨⟨_, rfl⟩, _, rfl, _, rfl, by omega, by omega, fun D2 nD2 => lc_range (lo := 0) (n := ((n : Nat) : Int).toNat) (fun y H2 => Same H' H2 ∧ H2 D2 = some (.lst ((List.range y).map fun y => V.str (⟨#[chB (decide (j ≤ y))]⟩ : Str)))) ?_ ?_ ?_⟩⟩
      · exact ⟨same_upd nD2, upd_same⟩
      · rintro y H2 hy ⟨sm2, hD2⟩
        rw [Int.toNat_natCast] at hy
        have ey : (0 : Int) + (y : Nat) = ((y : Nat) : Int) := by omega
        rw [ey]
        refine ⟨rfl, yes_it ⟨_, rfl, _, rfl, _, _, rfl, rfl, .inr ⟨_, rfl, _, rfl, log01 _, ?_⟩⟩⟩
        rw [str01]
        refine put_it hD2 nD2 sm2 (by omega) ?_
        rw [show decide (((j : Nat) : Int) ≤ ((y : Nat) : Int)) = decide (j ≤ y) from by rw [decide_eq_decide]; omega]
        rfl
      · rintro H2 ⟨sm2, hD2⟩
        rw [Int.toNat_natCast] at hD2
        refine ⟨"", D2, rowC1 n _, rfl, rfl, .inl (row_seq hD2), row_sum (by omega), ?_⟩
        rw [row_txt]
        exact put_it (sm2 _ _ hD) nD (sm.trans sm2) (by omega) rfl
    rintro H5 ⟨s5, hD⟩
    rw [Int.toNat_natCast] at hD
    have hD : H5 D = some (.lst ((rowsF n fun x y => decide (x ≤ y)).map V.str)) := by
      rw [hD]; unfold rowsF; rw [List.map_map]; rfl
    have gr := rows_gd (fun x y => decide (x ≤ y)) n60
    refine ⟨_, _, lines_dp (s5 _ _ hp4), lines_dp hD, gd_shaped gr (by decide), gd_shaped gr (by decide), _, rfl, ?_⟩
    rw [eqv_self gr (by decide)]
    refine iteF ?_
    have W5 := W3.same (s4.trans s5)
    -- the cube
    refine ⟨_, rfl, a, Ls, ns, 5, rfl, W5.src, by decide, by decide, fun H6 w6 w0 w5 hs6 off6 => ?_⟩
    obtain ⟨w, rfl⟩ : ∃ w : Nat, w6 = (w : Nat) := ⟨w6.toNat, by omega⟩
    have w4 : w ≤ 4 := by omega
    have W6 := W5.smx (SmX.at off6 ma) hs6
    clear W5
    refine ⟨rfl, _, rfl, [a], _, rfl, hs6.trk, fun m hm => ?_, fun e => (by rw [okI_pos ⟨by omega, by omega⟩] at e; cases e)⟩
    rw [okI_pos ⟨by omega, by omega⟩, Int.toNat_natCast] at hm
    cases hm
    intro H7 xc Lc s7 nx7 hB7 e71 e72
    have hB7 := hB7.same hide_same
    obtain ⟨dxc, obc⟩ := hB7.ob
    refine ⟨_, dxc, _, rfl, obc, rfl, xc, Lc, 2 ^ w, _, _, _, rfl, hB7, fun H8 p8 s8 np8 hp8 => ?_⟩
    have w16 : 2 ^ w ≤ 16 := Nat.pow_le_pow_right (by decide) w4
    have e2 : (1 : Int) * 2 ^ ((w : Nat) : Int).toNat = ((2 ^ w : Nat) : Int) := by rw [Int.toNat_natCast, Int.one_mul, Int.natCast_pow]; rfl
    generalize 2 ^ w = N at w16 e2 hp8
    refine ⟨_, rfl, _, _, rfl, rfl, ⟨by omega, by omega, by decide⟩, ?_⟩
    dsimp only
    rw [e2]
    refine ⟨_, rfl, by omega, by omega, fun D nD => lc_range (lo := 0) (n := ((N : Nat) : Int).toNat) (fun j H' => Same H8 H' ∧ H' D = some (.lst ((List.range j).map fun x => V.str (rowF (N) fun y => decide (x &&& y = x))))) ?_ ?_ ?_⟩
    · exact ⟨same_upd nD, upd_same⟩
    · rintro j H' hj ⟨sm, hD⟩
      rw [Int.toNat_natCast] at hj
      have ej : (0 : Int) + (j : Nat) = ((j : Nat) : Int) := by omega
      rw [ej]
      refine ⟨rfl, yes_it ⟨_, rfl, _, rfl, _, _, rfl, rfl, ⟨by omega, by omega, by decide⟩, ?_⟩⟩
      dsimp only
      rw [e2]
      exact ⟨j, N, rfl, by omega, by omega, fun H9 s9 => put_it (s9 _ _ hD) nD (sm.trans s9) (by omega) rfl⟩
    rintro H9 ⟨s9, hD⟩
    rw [Int.toNat_natCast] at hD
    have hD : H9 D = some (.lst ((rowsF (N) fun x y => decide (x &&& y = x)).map V.str)) := by
      rw [hD]; unfold rowsF; rw [List.map_map]; rfl
    have gr := rows_gd (n := N) (fun x y => decide (x &&& y = x)) (by omega)
    refine ⟨_, _, lines_dp (s9 _ _ hp8), lines_dp hD, gd_shaped gr (by decide), gd_shaped gr (by decide), _, rfl, ?_⟩
    rw [eqv_self gr (by decide)]
    refine iteF ?_
    have W9 := W6.same (s7.trans (s8.trans s9))
    clear W6
    -- the fan
    refine ⟨_, rfl, _, rfl, a, Ls, ns, 12, rfl, W9.src, by decide, by decide, fun H10 d d0 dl hs10 off10 => ⟨_, _, rfl, rfl, (by show 4 ≤ sizeLine; decide), fun p np => ?_⟩⟩
    have W10 := W9.smx (SmX.at off10 ma) hs10
    clear W9
    have pa : p ≠ a := (hs10.ne np).symm
    have sp := same_upd (o := .lst [.int 1, .int 2, .int 3, .int (1 + d)]) np
    refine ⟨a, Ls, p, ns, _, rfl, hs10.same sp, pa, upd_same, (by show 0 < 4; decide), (by show 4 ≤ 1000; decide), fun H11 v vm hs11 off11 => ?_⟩
    obtain ⟨m, rfl, m1, m13⟩ : ∃ m : Nat, v = .int (m : Nat) ∧ 1 ≤ m ∧ m ≤ 13 := by
      simp only [List.mem_cons, List.not_mem_nil, or_false] at vm
      rcases vm with e | e | e | e
      · exact ⟨1, e, by decide, by decide⟩
      · exact ⟨2, e, by decide, by decide⟩
      · exact ⟨3, e, by decide, by decide⟩
      · exact ⟨(1 + d).toNat, by rw [e]; congr 1; omega, by omega, by omega⟩
    have W11 := (W10.same sp).smx (SmX.at off11 ma) hs11
    clear W10
    have i2 : ((m : Nat) : Int) + 2 = ((m + 2 : Nat) : Int) := rfl
    refine ⟨_, rfl, _, _, rfl, rfl, ((m + 2 : Nat) : Int), rfl, by omega, by omega, fun D nD => lc_range (lo := 0) (n := ((m + 2 : Nat) : Int).toNat) (fun j H' => Same H11 H' ∧ H' D = some (.lst ((List.range j).map fun x => V.str (rowF (m + 2) (fanB (m + 2) x))))) ?_ ?_ ?_⟩
    · exact ⟨same_upd nD, upd_same⟩
    · rintro j H' hj ⟨sm, hD⟩
      rw [Int.toNat_natCast] at hj
      have ej : (0 : Int) + (j : Nat) = ((j : Nat) : Int) := by omega
      rw [ej]
      refine ⟨rfl, yes_it ⟨⟨_, rfl⟩, _, rfl, _, _, rfl, rfl, ((m + 2 : Nat) : Int), rfl, by omega, by omega, fun D2 nD2 => lc_range (lo := 0) (n := ((m + 2 : Nat) : Int).toNat) (fun y H2 => Same H' H2 ∧ H2 D2 = some (.lst ((List.range y).map fun y => V.str (⟨#[chB (fanB (m + 2) j y)]⟩ : Str)))) ?_ ?_ ?_⟩⟩
      · exact ⟨same_upd nD2, upd_same⟩
      · rintro y H2 hy ⟨sm2, hD2⟩
        rw [Int.toNat_natCast] at hy
        have ey : (0 : Int) + (y : Nat) = ((y : Nat) : Int) := by omega
        rw [ey]
        have fin : ∀ b : Bool, b = fanB (m + 2) j y → ∃ acc, H2 D2 = some (.lst acc) ∧ acc.length < sizeLine ∧ Same H' (upd H2 D2 (.lst (acc ++ [V.str (⟨#[if b = true then 49 else 48]⟩ : Str)]))) ∧ upd H2 D2 (.lst (acc ++ [V.str (⟨#[if b = true then 49 else 48]⟩ : Str)])) D2 = some (.lst ((List.range (y + 1)).map fun y => V.str (⟨#[chB (fanB (m + 2) j y)]⟩ : Str))) :=
          fun b hb => put_it hD2 nD2 sm2 (by omega) (by rw [← hb]; rfl)
        refine ⟨rfl, yes_it ⟨_, rfl, _, rfl, rfl, _, rfl, ?_⟩⟩
        by_cases c1 : j = y
        · subst c1
          rw [decide_eq_true rfl]
          refine iteT (.inr ⟨_, rfl, _, rfl, log01 _, ?_⟩)
          rw [str01]
          exact fin true (by unfold fanB; simp)
        rw [decide_eq_false (fun e => c1 (by injection e with e; omega))]
        refine iteF ⟨_, rfl, rfl, _, rfl, ?_⟩
        by_cases c2 : j = 0
        · subst c2
          rw [show decide (V.int ((0 : Nat) : Int) = V.int 0) = true from decide_eq_true rfl]
          refine iteT (.inr ⟨_, rfl, _, rfl, log01 _, ?_⟩)
          rw [str01]
          exact fin true (by unfold fanB; simp)
        rw [decide_eq_false (fun e => c2 (by injection e with e; omega))]
        refine iteF ⟨_, rfl, _, rfl, _, _, rfl, rfl, rfl, .inr ⟨_, rfl, _, rfl, log01 _, ?_⟩⟩
        rw [str01]
        refine fin _ ?_
        unfold fanB
        rw [decide_eq_false c1, decide_eq_false c2, Bool.false_or, Bool.false_or, decide_eq_decide]
        exact ⟨fun e => by injection e with e; omega, fun e => by congr 1; omega⟩
      · rintro H2 ⟨sm2, hD2⟩
        rw [Int.toNat_natCast] at hD2
        refine ⟨"", D2, rowC1 (m + 2) _, rfl, rfl, .inl (row_seq hD2), row_sum (by omega), ?_⟩
        rw [row_txt]
        exact put_it (sm2 _ _ hD) nD (sm.trans sm2) (by omega) rfl
    rintro H12 ⟨s12, hD⟩
    rw [Int.toNat_natCast] at hD
    have hD : H12 D = some (.lst ((rowsF (m + 2) (fanB (m + 2))).map V.str)) := by
      rw [hD]; unfold rowsF; rw [List.map_map]; rfl
    have W12 := W11.same s12
    clear W11
    refine ⟨rfl, _, rfl, [a], _, rfl, W12.src.trk, fun m' hm => ?_, fun e => (by rw [okI_pos ⟨by omega, by omega⟩] at e; cases e)⟩
    rw [okI_pos ⟨by omega, by omega⟩, Int.toNat_natCast] at hm
    cases hm
    intro H13 xfan Lf s13 nx13 hB13 e131 e132
    have hB13 := hB13.same hide_same
    obtain ⟨dxf, obf⟩ := hB13.ob
    refine ⟨_, dxf, _, rfl, obf, rfl, xfan, Lf, m + 2, _, _, _, rfl, hB13, fun H14 p14 s14 np14 hp14 => ?_⟩
    have gr := rows_gd (n := m + 2) (fanB (m + 2)) (by omega)
    obtain ⟨mc, u, cr, cv⟩ := TM.ex
    refine ⟨_, rfl, _, _, lines_dp hp14, lines_dp ((s13.trans s14) _ _ hD), gd_shaped gr (by decide), gd_shaped gr (by decide), _, rfl, ?_⟩
    rw [eqv_self gr (by decide)]
    refine iteF ⟨C, mc, .int 60, u, rfl, cr, cv, rfl, _, rfl, ?_⟩
    have neF : ∀ x : V, (!decide (x = x)) = false := fun x => by rw [decide_eq_true rfl]; rfl
    rw [neF]
    refine iteF ?_
    have W14 := W12.same (s13.trans s14)
    clear W12
    -- what is no size
    refine ⟨_, rfl, _, rfl, _, _, rfl, rfl, ⟨by decide, by decide, by decide⟩, _, _, rfl, rfl, ⟨by decide, by decide, by decide⟩, _, _, rfl, rfl, (by show 4 ≤ sizeLine; decide), fun p np => ?_⟩
    have pa : p ≠ a := (W14.src.ne np).symm
    have W15 := W14.same (same_upd (o := .lst [.int (-1), .int 61, .int (10 ^ (29 : Int).toNat), .int (0 - 10 ^ (29 : Int).toNat)]) np)
    clear W14
    refine ⟨a, Ls, p, ns, _, rfl, W15.src, pa, upd_same, (by show 0 < 4; decide), (by show 4 ≤ 1000; decide), fun H16 v vm hs16 off16 => ?_⟩
    obtain ⟨bad, rfl, bd⟩ : ∃ bad : Int, v = .int bad ∧ (bad < 0 ∨ 60 < bad) := by
      simp only [List.mem_cons, List.not_mem_nil, or_false] at vm
      rcases vm with e | e | e | e
      · exact ⟨-1, e, .inl (by decide)⟩
      · exact ⟨61, e, .inr (by decide)⟩
      · exact ⟨_, e, .inr (by decide +kernel)⟩
      · exact ⟨_, e, .inl (by decide +kernel)⟩
    have W16 := W15.smx (SmX.at off16 ma) hs16
    clear W15
    have Z0 : V23 K C a Ls ns x L n Pt [] [] H16 := ⟨W16, fun _ h => (nomatch h), fun _ h => (nomatch h)⟩
    clear W16
    refine ⟨Z0.w.tab, fun G1 eN T1 R E hR hE => ⟨rfl, _, rfl, [], _, rfl, (fun _ h => (nomatch h)), fun m hm => (by rw [okI_neg (by omega)] at hm; cases hm), fun _ G2 dd s1 hdd => hE CB dd G2 _ _ exm xf fnd hdd rfl fun p1 n1 => ?_⟩⟩
    have Z1 := Z0.step eN T1 s1 n1
    refine ⟨Z1.w.tab, fun G1 eN T1 R E hR hE => ⟨rfl, _, rfl, [], _, rfl, (fun _ h => (nomatch h)), fun m hm => (by rw [okI_neg (by omega)] at hm; cases hm), fun _ G2 dd s2 hdd => hE CB dd G2 _ _ exm xf fnd hdd rfl fun p2 n2 => ?_⟩⟩
    have Z2 := Z1.step eN T1 s2 n2
    refine ⟨Z2.w.tab, fun G1 eN T1 R E hR hE => ⟨rfl, _, rfl, [], _, rfl, (fun _ h => (nomatch h)), fun m hm => (by rw [okI_neg (by omega)] at hm; cases hm), fun _ G2 dd s3 hdd => hE CB dd G2 _ _ exm xf fnd hdd rfl fun p3 n3 => ?_⟩⟩
    have Z3 := Z2.step eN T1 s3 n3
    refine ⟨(by show 3 ≤ sizeLine; decide), fun q1 m1 => ?_⟩
    have Y1 := Z3.new (xs := [.ref p1, .ref p2, .ref p3]) m1
    refine ⟨_, rfl, ?_⟩
    refine ⟨Y1.w.tab, fun G1 eN T1 R E hR hE => ⟨rfl, [], _, rfl, (fun _ h => (nomatch h)), fun m hm => (by rw [okI_neg (by decide)] at hm; cases hm), fun _ G2 dd s4 hdd => hE CB dd G2 _ _ exm xf fnd hdd rfl fun p4 n4 => ?_⟩⟩
    have Z4 := Y1.step eN T1 s4 n4
    refine ⟨Z4.w.tab, fun G1 eN T1 R E hR hE => ⟨rfl, [], _, rfl, (fun _ h => (nomatch h)), fun m hm => (by rw [okI_neg (by decide)] at hm; cases hm), fun _ G2 dd s5 hdd => hE CB dd G2 _ _ exm xf fnd hdd rfl fun p5 n5 => ?_⟩⟩
    have Z5 := Z4.step eN T1 s5 n5
    refine ⟨Z5.w.tab, fun G1 eN T1 R E hR hE => ⟨rfl, [], _, rfl, (fun _ h => (nomatch h)), fun m hm => (by rw [okI_neg (by decide)] at hm; cases hm), fun _ G2 dd s6 hdd => hE CB dd G2 _ _ exm xf fnd hdd rfl fun p6 n6 => ?_⟩⟩
    have Z6 := Z5.step eN T1 s6 n6
    refine ⟨(by show 3 ≤ sizeLine; decide), fun q2 m2 => ?_⟩
    have Y2 := Z6.new (xs := [.ref p4, .ref p5, .ref p6]) m2
    refine ⟨_, _, _, _, rfl, rfl, Y2.ls _ (List.mem_cons_of_mem _ List.mem_cons_self), upd_same, (by show 3 + 3 ≤ sizeLine; decide), fun q3 m3 => ?_⟩
    have Y3 := Y2.new (xs := [.ref p1, .ref p2, .ref p3] ++ [.ref p4, .ref p5, .ref p6]) m3
    refine ⟨_, rfl, ?_⟩
    refine ⟨Y3.w.tab, fun G1 eN T1 R E hR hE => ⟨rfl, [], _, rfl, (fun _ h => (nomatch h)), fun m hm => (by rw [okI_neg (by decide)] at hm; cases hm), fun _ G2 dd s7 hdd => hE CB dd G2 _ _ exm xf fnd hdd rfl fun p7 n7 => ?_⟩⟩
    have Z7 := Y3.step eN T1 s7 n7
    refine ⟨Z7.w.tab, fun G1 eN T1 R E hR hE => ⟨rfl, _, rfl, rfl, [], _, rfl, (fun _ h => (nomatch h)), fun m hm => (by rw [okI_neg (by decide)] at hm; cases hm), fun _ G2 dd s8 hdd => hE CB dd G2 _ _ exm xf fnd hdd rfl fun p8 n8 => ?_⟩⟩
    have Z8 := Z7.step eN T1 s8 n8
    refine ⟨(by show 2 ≤ sizeLine; decide), fun q4 m4 => ?_⟩
    have Y4 := Z8.new (xs := [.ref p7, .ref p8]) m4
    refine ⟨_, _, _, _, rfl, rfl, Y4.ls _ (List.mem_cons_of_mem _ List.mem_cons_self), upd_same, (by show 6 + 2 ≤ sizeLine; decide), fun q5 m5 => ?_⟩
    have Y5 := Y4.new (xs := ([.ref p1, .ref p2, .ref p3] ++ [.ref p4, .ref p5, .ref p6]) ++ [.ref p7, .ref p8]) m5
    -- what the list of errors is
    refine ⟨_, rfl, (by show 2 ≤ sizeLine; decide), fun t1 nt1 => ?_⟩
    have Y6 := Y5.same (same_upd (o := .tup [.non, .str "InvalidBoard"]) nt1)
    refine ⟨(by show 1 ≤ sizeLine; decide), fun t2 nt2 => ⟨t2, 8, _, rfl, rfl, upd_same, by decide, by decide, (by show 1 * 8 ≤ sizeLine; decide), fun t3 nt3 => ?_⟩⟩
    have ht1 : upd (upd (upd _ t1 (.tup [V.non, .str "InvalidBoard"])) t2 (.lst [.ref t1])) t3 (.lst (List.replicate (8 : Int).toNat [V.ref t1]).flatten) t1 = some (.tup [V.non, .str "InvalidBoard"]) := (same_upd nt3) _ _ ((same_upd nt2) _ _ upd_same)
    have Y7 := (Y6.same (same_upd (o := .lst [V.ref t1]) nt2)).same (same_upd (o := .lst (List.replicate (8 : Int).toNat [V.ref t1]).flatten) nt3)
    have bdD : ∀ {H : Hp} {p : Addr}, H p = some (.tup [.non, .str "InvalidBoard"]) → Dp K H (.ref p) (.tuple [.none, .str "InvalidBoard"]) := fun e => .tup (SqT.of e) (.cons .non (.cons (.str _) .nil))
    have all8 : ∀ {H : Hp} {ps : List Addr}, (∀ p ∈ ps, H p = some (.tup [.non, .str "InvalidBoard"])) → DpAll K H (ps.map V.ref) (ps.map fun _ => PyData.tuple [.none, .str "InvalidBoard"]) := fun {H ps} h => by
      induction ps with
      | nil => exact .nil
      | cons p ps ih => exact .cons (bdD (h p List.mem_cons_self)) (ih fun q hq => h q (List.mem_cons_of_mem _ hq))
    have sh8 : SeqAt.shaped (PyData.list (List.replicate 8 (PyData.tuple [.none, .str "InvalidBoard"]))) = true := by decide +kernel
    have e8 : PyData.list ([p1, p2, p3, p4, p5, p6, p7, p8].map fun _ => PyData.tuple [.none, .str "InvalidBoard"]) = .list (List.replicate 8 (.tuple [.none, .str "InvalidBoard"])) := rfl
    refine ⟨.list ([p1, p2, p3, p4, p5, p6, p7, p8].map fun _ => PyData.tuple [.none, .str "InvalidBoard"]), .list ([t1, t1, t1, t1, t1, t1, t1, t1].map fun _ => PyData.tuple [.none, .str "InvalidBoard"]),
      .lst (SqL.of (Y7.ls _ List.mem_cons_self)) (all8 (ps := [p1, p2, p3, p4, p5, p6, p7, p8]) fun p hp => Y7.bad p ?_), .lst (SqL.of upd_same) (all8 (ps := [t1, t1, t1, t1, t1, t1, t1, t1]) fun p hp => ?_), sh8, sh8, _, rfl, ?_⟩
    · simp only [List.mem_cons, List.not_mem_nil, or_false] at hp ⊢
      rcases hp with e | e | e | e | e | e | e | e <;> simp [e]
    · simp only [List.mem_cons, List.not_mem_nil, or_false, or_self] at hp
      rw [hp]; exact ht1
    rw [show (!PyData.eqv (PyData.list ([p1, p2, p3, p4, p5, p6, p7, p8].map fun _ => PyData.tuple [.none, .str "InvalidBoard"])) (.list ([t1, t1, t1, t1, t1, t1, t1, t1].map fun _ => PyData.tuple [.none, .str "InvalidBoard"]))) = false from by
      show (!PyData.eqv (.list (List.replicate 8 (.tuple [.none, .str "InvalidBoard"]))) (.list (List.replicate 8 (.tuple [.none, .str "InvalidBoard"])))) = false
      decide +kernel]
    refine iteF ?_
    have W17 := Y7.w
    clear Y7 Y6 ht1 Y5 Y4 Y3 Y2 Y1 Z0 Z1 Z2 Z3 Z4 Z5 Z6 Z7 Z8
    -- len of two of them
    refine ⟨rfl, [a], _, rfl, W17.src.trk, fun m' hm => ?_, fun e => (by rw [okI_pos ⟨by decide, by decide⟩] at e; cases e)⟩
    rw [okI_pos ⟨by decide, by decide⟩] at hm
    cases hm
    intro H18 x18 L18 s18 nx18 hB18 e118 e218
    have hB18 := hB18.same hide_same
    have W18 := W17.same s18
    obtain ⟨dx18, ob18⟩ := hB18.ob
    refine ⟨x18, dx18, _, rfl, ob18, x18, L18, _, _, _, _, rfl, hB18, 32, rfl, by decide, rfl, _, rfl, ?_⟩
    rw [show (!decide (V.int ((32 : Nat) : Int) = V.int 32)) = false from neF _]
    refine iteF ⟨rfl, [a], _, rfl, W18.src.trk, fun m' hm => ?_, fun e => (by rw [okI_pos ⟨by decide, by decide⟩] at e; cases e)⟩
    rw [okI_pos ⟨by decide, by decide⟩] at hm
    cases hm
    intro H19 x19 L19 s19 nx19 hB19 e119 e219
    have hB19 := hB19.same hide_same
    have W19 := W18.same s19
    obtain ⟨dx19, ob19⟩ := hB19.ob
    refine ⟨x19, dx19, _, rfl, ob19, x19, L19, _, _, _, _, rfl, hB19, 60, rfl, by decide, rfl, _, rfl, ?_⟩
    rw [show (!decide (V.int ((60 : Nat) : Int) = V.int 60)) = false from neF _]
    refine iteF ?_
    -- the rows once more, emptied
    obtain ⟨dx2, ob2⟩ := (W19.bd.same hide_same).ob
    refine ⟨_, rfl, x, dx2, _, rfl, ob2, rfl, x, L, n, _, _, _, rfl, W19.bd.same hide_same, fun H20 p20 s20 np20 hp20 => ?_⟩
    refine ⟨_, rfl, .inl ⟨rfl, _, SqL.of hp20⟩, p20, _, rfl, rfl, hp20, ?_⟩
    have W20 : W23 K C a Ls ns x L n Pt (upd H20 p20 (.lst [])) := W19.same fun c o e => by rw [upd_ne (ne_of_none e np20)]; exact s20 _ _ e
    generalize upd H20 p20 (.lst []) = H21 at W20
    clear W19 W18 W17
    -- len and repr
    have hBx := W20.bd.same hide_same
    obtain ⟨dx3, ob3⟩ := hBx.ob
    refine ⟨_, rfl, x, dx3, _, rfl, ob3, x, L, n, _, _, _, rfl, hBx, n, rfl, by omega, _, rfl, x, dx3, _, rfl, ob3, x, L, n, _, _, _, rfl, hBx, n60, ⟨_, rfl⟩, (by show 2 ≤ sizeLine; decide), fun q1 nq1 => ?_⟩
    obtain ⟨k1, k2, k3, k4, k5⟩ := len_repr n n60
    refine ⟨_, rfl, _, rfl, _, rfl, k1, _, _, rfl, rfl, k2, _, _, rfl, rfl, k3, (by show 2 ≤ sizeLine; decide), fun q2 nq2 => ?_⟩
    have sq1 := same_upd (o := .lst [.int (n : Nat), .str (reprB n)]) nq1
    have sq2 := same_upd (o := .lst [.int (n : Nat), .str (reprB n)]) nq2
    have dq : ∀ {H : Hp} {q : Addr}, H q = some (.lst [.int (n : Nat), .str (reprB n)]) → Dp K H (.ref q) (.list [.int (n : Nat), .str (reprB n)]) := fun e => .lst (SqL.of e) (.cons (.int _) (.cons (.str _) .nil))
    refine ⟨.ref q1, .ref q2, .list [.int (n : Nat), .str (reprB n)], 1, rfl, dq (sq2 _ _ upd_same), dq upd_same, by decide, gd_lst (n := 0) (fun d hd => ?_) (by show 2 ≤ 1000; decide), fun H22 s22 => ⟨_, rfl, iteF ?_⟩⟩
    · simp only [List.mem_cons, List.not_mem_nil, or_false] at hd
      rcases hd with e | e
      · rw [e]; rfl
      · rw [e]
        show (PyData.strOk _ && decide (_ ≤ 100000)) = true
        rw [k4, decide_eq_true k5]
        rfl
    have W22 := W20.same (sq1.trans (sq2.trans s22))
    clear W20
    -- which boards are equal
    refine ⟨rfl, [a], _, rfl, W22.src.trk, fun m' hm => ?_, fun e => (by rw [okI_pos ⟨by decide, by decide⟩] at e; cases e)⟩
    rw [okI_pos ⟨by decide, by decide⟩] at hm
    cases hm
    intro H30 x30 L30 s30 nx30 hB30 e130 e230
    have hB30 := hB30.same hide_same
    have W30 := W22.same s30
    obtain ⟨dx30, ob30⟩ := hB30.ob
    refine ⟨rfl, [a], _, rfl, W30.src.trk, fun m' hm => ?_, fun e => (by rw [okI_pos ⟨by decide, by decide⟩] at e; cases e)⟩
    rw [okI_pos ⟨by decide, by decide⟩] at hm
    cases hm
    intro H31 x31 L31 s31 nx31 hB31 e131 e231
    have hB31 := hB31.same hide_same
    have W31 := W30.same s31
    obtain ⟨dx31, ob31⟩ := hB31.ob
    refine ⟨x30, dx30, _, rfl, s31 _ _ ob30, ⟨x31, rfl, .inl ⟨_, _, ob31⟩⟩, x30, L30, _, _, _, _, x31, rfl, hB30.same s31, .inl ⟨L31, _, _, _, _, hB31, ?_, by decide, ⟨true, rfl⟩, ?_⟩⟩
    · exact e_cc
    refine ⟨rfl, [a], _, rfl, W31.src.trk, fun m' hm => ?_, fun e => (by rw [okI_pos ⟨by decide, by decide⟩] at e; cases e)⟩
    rw [okI_pos ⟨by decide, by decide⟩] at hm
    cases hm
    intro H32 x32 L32 s32 nx32 hB32 e132 e232
    have hB32 := hB32.same hide_same
    have W32 := W31.same s32
    obtain ⟨dx32, ob32⟩ := hB32.ob
    refine ⟨rfl, [a], _, rfl, W32.src.trk, fun m' hm => ?_, fun e => (by rw [okI_pos ⟨by decide, by decide⟩] at e; cases e)⟩
    rw [okI_pos ⟨by decide, by decide⟩] at hm
    cases hm
    intro H33 x33 L33 s33 nx33 hB33 e133 e233
    have hB33 := hB33.same hide_same
    have W33 := W32.same s33
    obtain ⟨dx33, ob33⟩ := hB33.ob
    refine ⟨x32, dx32, _, rfl, s33 _ _ ob32, ⟨x33, rfl, .inl ⟨_, _, ob33⟩⟩, x32, L32, _, _, _, _, x33, rfl, hB32.same s33, .inl ⟨L33, _, _, _, _, hB33, ?_, by decide, ⟨true, rfl⟩, ?_⟩⟩
    · exact e_fc
    refine ⟨rfl, [a], _, rfl, W33.src.trk, fun m' hm => ?_, fun e => (by rw [okI_pos ⟨by decide, by decide⟩] at e; cases e)⟩
    rw [okI_pos ⟨by decide, by decide⟩] at hm
    cases hm
    intro H34 x34 L34 s34 nx34 hB34 e134 e234
    have hB34 := hB34.same hide_same
    have W34 := W33.same s34
    obtain ⟨dx34, ob34⟩ := hB34.ob
    refine ⟨rfl, [a], _, rfl, W34.src.trk, fun m' hm => ?_, fun e => (by rw [okI_pos ⟨by decide, by decide⟩] at e; cases e)⟩
    rw [okI_pos ⟨by decide, by decide⟩] at hm
    cases hm
    intro H35 x35 L35 s35 nx35 hB35 e135 e235
    have hB35 := hB35.same hide_same
    have W35 := W34.same s35
    obtain ⟨dx35, ob35⟩ := hB35.ob
    refine ⟨x34, dx34, _, rfl, s35 _ _ ob34, ⟨x35, rfl, .inl ⟨_, _, ob35⟩⟩, x34, L34, _, _, _, _, x35, rfl, hB34.same s35, .inl ⟨L35, _, _, _, _, hB35, ?_, by decide, ⟨true, rfl⟩, ?_⟩⟩
    · exact e_fch
    refine ⟨rfl, [a], _, rfl, W35.src.trk, fun m' hm => ?_, fun e => (by rw [okI_pos ⟨by decide, by decide⟩] at e; cases e)⟩
    rw [okI_pos ⟨by decide, by decide⟩] at hm
    cases hm
    intro H36 x36 L36 s36 nx36 hB36 e136 e236
    have hB36 := hB36.same hide_same
    have W36 := W35.same s36
    obtain ⟨dx36, ob36⟩ := hB36.ob
    refine ⟨(by show 2 ≤ sizeLine; decide), fun q3 nq3 => ?_⟩
    have sq3 := same_upd (o := .lst [.str "11", .str "01"]) nq3
    refine ⟨x36, dx36, _, rfl, sq3 _ _ ob36, ⟨q3, rfl, .inr ⟨_, upd_same⟩⟩, x36, L36, _, _, _, _, q3, rfl, hB36.same sq3, .inr ⟨_, upd_same, ⟨false, rfl⟩, ?_⟩⟩
    refine ⟨(by show 4 ≤ sizeLine; decide), fun q4 nq4 => ?_⟩
    refine ⟨_, rfl, (by show 4 ≤ sizeLine; decide), fun q5 nq5 => ?_⟩
    have sq5 := same_upd (o := .lst [.bl true, .bl true, .bl true, .bl false]) nq5
    refine ⟨.list [.bool true, .bool true, .bool true, .bool false], .list [.bool true, .bool true, .bool true, .bool false], .lst (SqL.of (sq5 _ _ upd_same)) (.cons (.bl _) (.cons (.bl _) (.cons (.bl _) (.cons (.bl _) .nil)))), .lst (SqL.of upd_same) (.cons (.bl _) (.cons (.bl _) (.cons (.bl _) (.cons (.bl _) .nil)))), by decide +kernel, by decide +kernel, ?_⟩
    rw [show PyData.eqv (.list [.bool true, .bool true, .bool true, .bool false]) (.list [.bool true, .bool true, .bool true, .bool false]) = true from by decide +kernel]
    exact q _
end
end FvO


namespace Fv
open PySem PySem.Spec PyProof.Rows L2 FvX
open FvO (s_law s_are_square s_columns_of s_masks_of s_bound_table s_law_digits s_law_cube_row ok_digits ok_cube_row)
abbrev s_InvalidTerm : Stmt := inClass (topS 3) 0
def q_InvalidTerm : ErrPos := { p0 := ⟨10, 8, 10, 13⟩, p1 := ⟨10, 8, 10, 15⟩, p2 := ⟨10, 8, 10, 24⟩, p3 := ⟨10, 25, 10, 45⟩, p4 := ⟨10, 8, 10, 46⟩, p5 := ⟨10, 8, 10, 46⟩, p6 := ⟨11, 8, 11, 12⟩, p7 := ⟨11, 8, 11, 17⟩, p8 := ⟨11, 20, 11, 33⟩, p9 := ⟨11, 8, 11, 33⟩, pp := ⟨9, 17, 9, 21⟩ }
abbrev s_InvalidBoard : Stmt := inClass (topS 4) 0
def q_InvalidBoard : ErrPos := { p0 := ⟨15, 8, 15, 13⟩, p1 := ⟨15, 8, 15, 15⟩, p2 := ⟨15, 8, 15, 24⟩, p3 := ⟨15, 25, 15, 46⟩, p4 := ⟨15, 8, 15, 47⟩, p5 := ⟨15, 8, 15, 47⟩, p6 := ⟨16, 8, 16, 12⟩, p7 := ⟨16, 8, 16, 17⟩, p8 := ⟨16, 20, 16, 34⟩, p9 := ⟨16, 8, 16, 34⟩, pp := ⟨14, 17, 14, 21⟩ }
abbrev s_InvalidPlace : Stmt := inClass (topS 5) 0
def me_InvalidPlace : Expr := match defBody s_InvalidPlace with
  | .Expr (.Call _ [e] _ _) _ :: _ => e
  | _ => .Constant .none 0 ⟨0, 0, 0, 0⟩
def q_InvalidPlace : ErrPos1 := { p0 := ⟨20, 8, 20, 13⟩, p1 := ⟨20, 8, 20, 15⟩, p2 := ⟨20, 8, 20, 24⟩, p4 := ⟨20, 8, 20, 72⟩, p5 := ⟨20, 8, 20, 72⟩, p6 := ⟨21, 8, 21, 12⟩, p7 := ⟨21, 8, 21, 17⟩, p8 := ⟨21, 20, 21, 34⟩, p9 := ⟨21, 8, 21, 34⟩, p10 := ⟨22, 8, 22, 12⟩, p11 := ⟨22, 8, 22, 18⟩, p12 := ⟨22, 21, 22, 26⟩, p13 := ⟨22, 8, 22, 26⟩, pp := ⟨19, 17, 19, 21⟩, pp2 := ⟨19, 23, 19, 28⟩ }
theorem hme_InvalidPlace : ∀ u, MsgV u → MsgOk me_InvalidPlace "place" u := fun u hu => (msg2 (pre := "this is not a place of the board: ") (by decide +kernel) hu : MsgOk me_InvalidPlace "place" u)
abbrev s_InvalidReading : Stmt := inClass (topS 6) 0
def me_InvalidReading : Expr := match defBody s_InvalidReading with
  | .Expr (.Call _ [e] _ _) _ :: _ => e
  | _ => .Constant .none 0 ⟨0, 0, 0, 0⟩
def q_InvalidReading : ErrPos1 := { p0 := ⟨26, 8, 26, 13⟩, p1 := ⟨26, 8, 26, 15⟩, p2 := ⟨26, 8, 26, 24⟩, p4 := ⟨26, 8, 26, 79⟩, p5 := ⟨26, 8, 26, 79⟩, p6 := ⟨27, 8, 27, 12⟩, p7 := ⟨27, 8, 27, 17⟩, p8 := ⟨27, 20, 27, 36⟩, p9 := ⟨27, 8, 27, 36⟩, p10 := ⟨28, 8, 28, 12⟩, p11 := ⟨28, 8, 28, 19⟩, p12 := ⟨28, 22, 28, 28⟩, p13 := ⟨28, 8, 28, 28⟩, pp := ⟨25, 17, 25, 21⟩, pp2 := ⟨25, 23, 25, 29⟩ }
theorem hme_InvalidReading : ∀ u, MsgV u → MsgOk me_InvalidReading "letter" u := fun u hu => (msg2 (pre := "the reading has no place for the letter ") (by decide +kernel) hu : MsgOk me_InvalidReading "letter" u)
theorem kw_all {K : PySem.W.Frag} {D : Addr} {kws : List (Str × V)} (h : ∀ q ∈ kws, ∃ u, PySem.W.nsIn K D q.1 = some (some u) ∧ RelV q.2 u) : ∀ q ∈ kws, ∃ u, PySem.W.nsIn K D q.1 = some (some u) ∧ RelV q.2 u := h
set_option maxHeartbeats 8000000 in
theorem all_mk {l : PySem.W.OpenLaw} {w : World} {K : PySem.W.Frag} {h : Heap} {mg : Str → Option Value} {fa : Addr} (X : K.In h) (G : h.Ns mainGlobals mg) (hfa : mg "law" = some (.ref fa))
    {f1 : Addr} {od1 an1 : Option Addr} {sl1 : Array (Option Value)} {oc1 dc1 pm1 cd1 ct1 : Value}
    {kV1 : Value}
    {f2 : Addr} {od2 an2 : Option Addr} {sl2 : Array (Option Value)} {oc2 dc2 pm2 cd2 ct2 : Value}
    {kV2 : Value}
    {f3 : Addr} {od3 an3 : Option Addr} {sl3 : Array (Option Value)} {oc3 dc3 pm3 cd3 ct3 : Value}
    {kV3 : Value}
    {f4 : Addr} {od4 an4 : Option Addr} {sl4 : Array (Option Value)} {oc4 dc4 pm4 cd4 ct4 : Value}
    {kV4 : Value}
    {f5 : Addr} {od5 an5 : Option Addr} {sl5 : Array (Option Value)} {oc5 dc5 pm5 cd5 ct5 : Value}
    {kV5 : Value}
    {f6 : Addr} {od6 an6 : Option Addr} {sl6 : Array (Option Value)} {oc6 dc6 pm6 cd6 ct6 : Value}
    {kV6 : Value}
    {f7 : Addr} {od7 an7 : Option Addr} {sl7 : Array (Option Value)} {oc7 dc7 pm7 cd7 ct7 : Value}
    {kV7 : Value}
    {f8 : Addr} {od8 an8 : Option Addr} {sl8 : Array (Option Value)} {oc8 dc8 pm8 cd8 ct8 : Value}
    {kV8 : Value}
    {f9 : Addr} {od9 an9 : Option Addr} {sl9 : Array (Option Value)} {oc9 dc9 pm9 cd9 ct9 : Value}
    {kV9 : Value}
    {f10 : Addr} {od10 an10 : Option Addr} {sl10 : Array (Option Value)} {oc10 dc10 pm10 cd10 ct10 : Value}
    {kV10 : Value}
    {f11 : Addr} {od11 an11 : Option Addr} {sl11 : Array (Option Value)} {oc11 dc11 pm11 cd11 ct11 : Value}
    {kV11 : Value}
    {f12 : Addr} {od12 an12 : Option Addr} {sl12 : Array (Option Value)} {oc12 dc12 pm12 cd12 ct12 : Value}
    {kV12 : Value}
    {ctLETTERS : Tok}
    {oA1 : Addr} {ob1 : Option Addr} {on1 : Nat} {os1 : Array (Option Value)} {ot1_0 : Tok} {ot1_1 : Tok}
    {ctLONG_DEPTH : Tok}
    {ctLONG_SIZE : Tok}
    {CF : Addr}
    {C_InvalidTerm f_InvalidTerm : Addr} {eoc_InvalidTerm : Value} {eod_InvalidTerm ean_InvalidTerm : Option Addr} {eosl_InvalidTerm : Array (Option Value)} {ekV_InvalidTerm edoc_InvalidTerm epm_InvalidTerm ect_InvalidTerm : Value} {cda_InvalidTerm ecc_InvalidTerm : Addr} {eccl_InvalidTerm ecl_InvalidTerm : Value} {ecdd_InvalidTerm ecld_InvalidTerm : Option Addr} {evs_InvalidTerm : Array Value} {eccs_InvalidTerm ecsl_InvalidTerm : Array (Option Value)} {efile_InvalidTerm : Str} {etf_InvalidTerm : Tok}
    {nm_InvalidTerm eq_InvalidTerm : Str} {eN_InvalidTerm : Addr} {ebs_InvalidTerm ebm_InvalidTerm : List Value} {esn_InvalidTerm : List Str} {esub_InvalidTerm : List Value} {eab_InvalidTerm : Bool} {ecol_InvalidTerm : Option Bool} {edd_InvalidTerm : Option Addr} {ek0_InvalidTerm ek1_InvalidTerm ek2_InvalidTerm ek3_InvalidTerm ek5_InvalidTerm : Option Value}
    {C_InvalidBoard f_InvalidBoard : Addr} {eoc_InvalidBoard : Value} {eod_InvalidBoard ean_InvalidBoard : Option Addr} {eosl_InvalidBoard : Array (Option Value)} {ekV_InvalidBoard edoc_InvalidBoard epm_InvalidBoard ect_InvalidBoard : Value} {cda_InvalidBoard ecc_InvalidBoard : Addr} {eccl_InvalidBoard ecl_InvalidBoard : Value} {ecdd_InvalidBoard ecld_InvalidBoard : Option Addr} {evs_InvalidBoard : Array Value} {eccs_InvalidBoard ecsl_InvalidBoard : Array (Option Value)} {efile_InvalidBoard : Str} {etf_InvalidBoard : Tok}
    {nm_InvalidBoard eq_InvalidBoard : Str} {eN_InvalidBoard : Addr} {ebs_InvalidBoard ebm_InvalidBoard : List Value} {esn_InvalidBoard : List Str} {esub_InvalidBoard : List Value} {eab_InvalidBoard : Bool} {ecol_InvalidBoard : Option Bool} {edd_InvalidBoard : Option Addr} {ek0_InvalidBoard ek1_InvalidBoard ek2_InvalidBoard ek3_InvalidBoard ek5_InvalidBoard : Option Value}
    {C_InvalidPlace f_InvalidPlace : Addr} {eoc_InvalidPlace : Value} {eod_InvalidPlace ean_InvalidPlace : Option Addr} {eosl_InvalidPlace : Array (Option Value)} {ekV_InvalidPlace edoc_InvalidPlace epm_InvalidPlace ect_InvalidPlace : Value} {cda_InvalidPlace ecc_InvalidPlace : Addr} {eccl_InvalidPlace ecl_InvalidPlace : Value} {ecdd_InvalidPlace ecld_InvalidPlace : Option Addr} {evs_InvalidPlace : Array Value} {eccs_InvalidPlace ecsl_InvalidPlace : Array (Option Value)} {efile_InvalidPlace : Str} {etf_InvalidPlace : Tok}
    {nm_InvalidPlace eq_InvalidPlace : Str} {eN_InvalidPlace : Addr} {ebs_InvalidPlace ebm_InvalidPlace : List Value} {esn_InvalidPlace : List Str} {esub_InvalidPlace : List Value} {eab_InvalidPlace : Bool} {ecol_InvalidPlace : Option Bool} {edd_InvalidPlace : Option Addr} {ek0_InvalidPlace ek1_InvalidPlace ek2_InvalidPlace ek3_InvalidPlace ek5_InvalidPlace : Option Value}
    {C_InvalidReading f_InvalidReading : Addr} {eoc_InvalidReading : Value} {eod_InvalidReading ean_InvalidReading : Option Addr} {eosl_InvalidReading : Array (Option Value)} {ekV_InvalidReading edoc_InvalidReading epm_InvalidReading ect_InvalidReading : Value} {cda_InvalidReading ecc_InvalidReading : Addr} {eccl_InvalidReading ecl_InvalidReading : Value} {ecdd_InvalidReading ecld_InvalidReading : Option Addr} {evs_InvalidReading : Array Value} {eccs_InvalidReading ecsl_InvalidReading : Array (Option Value)} {efile_InvalidReading : Str} {etf_InvalidReading : Tok}
    {nm_InvalidReading eq_InvalidReading : Str} {eN_InvalidReading : Addr} {ebs_InvalidReading ebm_InvalidReading : List Value} {esn_InvalidReading : List Str} {esub_InvalidReading : List Value} {eab_InvalidReading : Bool} {ecol_InvalidReading : Option Bool} {edd_InvalidReading : Option Addr} {ek0_InvalidReading ek1_InvalidReading ek2_InvalidReading ek3_InvalidReading ek5_InvalidReading : Option Value}
    {C_Board : Addr}
    {f_Board_init : Addr} {od_Board_init an_Board_init : Option Addr} {sl_Board_init : Array (Option Value)} {oc_Board_init kV_Board_init dc_Board_init pm_Board_init cd_Board_init ct_Board_init : Value}
    {f_Board_chain : Addr} {od_Board_chain an_Board_chain : Option Addr} {sl_Board_chain : Array (Option Value)} {oc_Board_chain kV_Board_chain dc_Board_chain pm_Board_chain cd_Board_chain ct_Board_chain : Value}
    {mc_Board : Value}
    {pr_Board_chain : Addr} {re_Board_chain : List Value}
    {f_Board_cube : Addr} {od_Board_cube an_Board_cube : Option Addr} {sl_Board_cube : Array (Option Value)} {oc_Board_cube kV_Board_cube dc_Board_cube pm_Board_cube cd_Board_cube ct_Board_cube : Value}
    {pr_Board_cube : Addr} {re_Board_cube : List Value}
    {f_Board_fan : Addr} {od_Board_fan an_Board_fan : Option Addr} {sl_Board_fan : Array (Option Value)} {oc_Board_fan kV_Board_fan dc_Board_fan pm_Board_fan cd_Board_fan ct_Board_fan : Value}
    {pr_Board_fan : Addr} {re_Board_fan : List Value}
    {f_Board_rows : Addr} {od_Board_rows an_Board_rows : Option Addr} {sl_Board_rows : Array (Option Value)} {oc_Board_rows kV_Board_rows dc_Board_rows pm_Board_rows cd_Board_rows ct_Board_rows : Value}
    {f_Board_eq : Addr} {od_Board_eq an_Board_eq : Option Addr} {sl_Board_eq : Array (Option Value)} {oc_Board_eq kV_Board_eq dc_Board_eq pm_Board_eq cd_Board_eq ct_Board_eq : Value}
    {f_Board_len : Addr} {od_Board_len an_Board_len : Option Addr} {sl_Board_len : Array (Option Value)} {oc_Board_len kV_Board_len dc_Board_len pm_Board_len cd_Board_len ct_Board_len : Value}
    {f_Board_repr : Addr} {od_Board_repr an_Board_repr : Option Addr} {sl_Board_repr : Array (Option Value)} {oc_Board_repr kV_Board_repr dc_Board_repr pm_Board_repr cd_Board_repr ct_Board_repr : Value}
    {tk_Board : Tok}
    (a1 : PySem.W.nsIn K mainGlobals "are_square" = some (some (.ref f1))) (l1 : K.lookup f1 = some ⟨oc1, od1, .func (PySem.W.fnOf "are_square" "are_square" (defArgs s_are_square) (defBody s_are_square) (defScope s_are_square) .none kV1 dc1 pm1 an1 cd1 ct1), sl1⟩) (c1 : PySem.W.codeIn K cd1 "are_square" = true) (k1 : PySem.W.keepIn K (.ref f1) = true)
    (a2 : PySem.W.nsIn K mainGlobals "columns_of" = some (some (.ref f2))) (l2 : K.lookup f2 = some ⟨oc2, od2, .func (PySem.W.fnOf "columns_of" "columns_of" (defArgs s_columns_of) (defBody s_columns_of) (defScope s_columns_of) .none kV2 dc2 pm2 an2 cd2 ct2), sl2⟩) (c2 : PySem.W.codeIn K cd2 "columns_of" = true) (k2 : PySem.W.keepIn K (.ref f2) = true)
    (a3 : PySem.W.nsIn K mainGlobals "masks_of" = some (some (.ref f3))) (l3 : K.lookup f3 = some ⟨oc3, od3, .func (PySem.W.fnOf "masks_of" "masks_of" (defArgs s_masks_of) (defBody s_masks_of) (defScope s_masks_of) .none kV3 dc3 pm3 an3 cd3 ct3), sl3⟩) (c3 : PySem.W.codeIn K cd3 "masks_of" = true) (k3 : PySem.W.keepIn K (.ref f3) = true)
    (a4 : PySem.W.nsIn K mainGlobals "bound_table" = some (some (.ref f4))) (l4 : K.lookup f4 = some ⟨oc4, od4, .func (PySem.W.fnOf "bound_table" "bound_table" (defArgs s_bound_table) (defBody s_bound_table) (defScope s_bound_table) .none kV4 dc4 pm4 an4 cd4 ct4), sl4⟩) (c4 : PySem.W.codeIn K cd4 "bound_table" = true) (k4 : PySem.W.keepIn K (.ref f4) = true)
    (a5 : PySem.W.nsIn K mainGlobals "_law_source" = some (some (.ref f5))) (l5 : K.lookup f5 = some ⟨oc5, od5, .func (PySem.W.fnOf "_law_source" "_law_source" (defArgs s_law_source) (defBody s_law_source) (defScope s_law_source) .none kV5 dc5 pm5 an5 cd5 ct5), sl5⟩) (c5 : PySem.W.codeIn K cd5 "_law_source" = true) (k5 : PySem.W.keepIn K (.ref f5) = true)
    (a6 : PySem.W.nsIn K mainGlobals "_law_take" = some (some (.ref f6))) (l6 : K.lookup f6 = some ⟨oc6, od6, .func (PySem.W.fnOf "_law_take" "_law_take" (defArgs s_law_take) (defBody s_law_take) (defScope s_law_take) .none kV6 dc6 pm6 an6 cd6 ct6), sl6⟩) (c6 : PySem.W.codeIn K cd6 "_law_take" = true) (k6 : PySem.W.keepIn K (.ref f6) = true)
    (a7 : PySem.W.nsIn K mainGlobals "_law_pick" = some (some (.ref f7))) (l7 : K.lookup f7 = some ⟨oc7, od7, .func (PySem.W.fnOf "_law_pick" "_law_pick" (defArgs s_law_pick) (defBody s_law_pick) (defScope s_law_pick) .none kV7 dc7 pm7 an7 cd7 ct7), sl7⟩) (c7 : PySem.W.codeIn K cd7 "_law_pick" = true) (k7 : PySem.W.keepIn K (.ref f7) = true)
    (a8 : PySem.W.nsIn K mainGlobals "_law_same" = some (some (.ref f8))) (l8 : K.lookup f8 = some ⟨oc8, od8, .func (PySem.W.fnOf "_law_same" "_law_same" (defArgs s_law_same) (defBody s_law_same) (defScope s_law_same) .none kV8 dc8 pm8 an8 cd8 ct8), sl8⟩) (c8 : PySem.W.codeIn K cd8 "_law_same" = true) (k8 : PySem.W.keepIn K (.ref f8) = true)
    (a9 : PySem.W.nsIn K mainGlobals "_law_call" = some (some (.ref f9))) (l9 : K.lookup f9 = some ⟨oc9, od9, .func (PySem.W.fnOf "_law_call" "_law_call" (defArgs s_law_call) (defBody s_law_call) (defScope s_law_call) .none kV9 dc9 pm9 an9 cd9 ct9), sl9⟩) (c9 : PySem.W.codeIn K cd9 "_law_call" = true) (k9 : PySem.W.keepIn K (.ref f9) = true)
    (a10 : PySem.W.nsIn K mainGlobals "_law_digits" = some (some (.ref f10))) (l10 : K.lookup f10 = some ⟨oc10, od10, .func (PySem.W.fnOf "_law_digits" "_law_digits" (defArgs s_law_digits) (defBody s_law_digits) (defScope s_law_digits) .none kV10 dc10 pm10 an10 cd10 ct10), sl10⟩) (c10 : PySem.W.codeIn K cd10 "_law_digits" = true) (k10 : PySem.W.keepIn K (.ref f10) = true)
    (a11 : PySem.W.nsIn K mainGlobals "_law_cube_row" = some (some (.ref f11))) (l11 : K.lookup f11 = some ⟨oc11, od11, .func (PySem.W.fnOf "_law_cube_row" "_law_cube_row" (defArgs s_law_cube_row) (defBody s_law_cube_row) (defScope s_law_cube_row) .none kV11 dc11 pm11 an11 cd11 ct11), sl11⟩) (c11 : PySem.W.codeIn K cd11 "_law_cube_row" = true) (k11 : PySem.W.keepIn K (.ref f11) = true)
    (a12 : PySem.W.nsIn K mainGlobals "law" = some (some (.ref f12))) (l12 : K.lookup f12 = some ⟨oc12, od12, .func (PySem.W.fnOf "law" "law" (defArgs s_law) (defBody s_law) (defScope s_law) .none kV12 dc12 pm12 an12 cd12 ct12), sl12⟩) (c12 : PySem.W.codeIn K cd12 "law" = true) (k12 : PySem.W.keepIn K (.ref f12) = true)
    (y0 : PySem.W.nsIn K mainGlobals "LETTERS" = some (some (.str "abcdefgh" ctLETTERS)))
    (y1 : PySem.W.nsIn K mainGlobals "OPERATORS" = some (some (.ref oA1))) (yl1 : K.lookup oA1 = some ⟨.type "tuple", ob1, .seq #[.str "&" ot1_0, .str "|" ot1_1] on1, os1⟩)
    (y2 : PySem.W.nsIn K mainGlobals "LONG_DEPTH" = some (some (.int 9 ctLONG_DEPTH)))
    (y3 : PySem.W.nsIn K mainGlobals "LONG_SIZE" = some (some (.int 600 ctLONG_SIZE)))
    (z_len : PySem.W.nsIn K mainGlobals "len" = some none)
    (z_int : PySem.W.nsIn K mainGlobals "int" = some none)
    (z_list : PySem.W.nsIn K mainGlobals "list" = some none)
    (z_str : PySem.W.nsIn K mainGlobals "str" = some none)
    (z_tuple : PySem.W.nsIn K mainGlobals "tuple" = some none)
    (z_isinstance : PySem.W.nsIn K mainGlobals "isinstance" = some none)
    (z_bool : PySem.W.nsIn K mainGlobals "bool" = some none)
    (z_dict : PySem.W.nsIn K mainGlobals "dict" = some none)
    (z_all : PySem.W.nsIn K mainGlobals "all" = some none)
    (z_any : PySem.W.nsIn K mainGlobals "any" = some none)
    (z_zip : PySem.W.nsIn K mainGlobals "zip" = some none)
    (z_max : PySem.W.nsIn K mainGlobals "max" = some none)
    (z_range : PySem.W.nsIn K mainGlobals "range" = some none)
    (z_super : PySem.W.nsIn K mainGlobals "super" = some none)
    (z_sorted : PySem.W.nsIn K mainGlobals "sorted" = some none)
    (z_repr : PySem.W.nsIn K mainGlobals "repr" = some none)
    (e1 : PySem.W.nsIn K mainGlobals "FaultError" = some (some (.ref CF)))
    (e23a : PySem.W.subIn K (.ref CF) (.type "BaseException") = some true)
    (e23b : PySem.W.isClsIn K CF = true)
    (e23c : PySem.W.typeIn K (.ref CF) = some (.type "type"))
    (e20 : PySem.W.nsIn K cStatics "thirdparty.any" = some none)
    (e27 : (l.prog.main.scope.names.lookup ("super" : Str)).isSome = false)
    (e2_InvalidTerm : PySem.W.nsIn K mainGlobals "InvalidTerm" = some (some (.ref C_InvalidTerm)))
    (e3_InvalidTerm : K.lookup C_InvalidTerm = some (excClassObj nm_InvalidTerm eq_InvalidTerm C_InvalidTerm eN_InvalidTerm ebs_InvalidTerm ebm_InvalidTerm true esn_InvalidTerm esub_InvalidTerm eab_InvalidTerm ecol_InvalidTerm edd_InvalidTerm ek0_InvalidTerm ek1_InvalidTerm ek2_InvalidTerm ek3_InvalidTerm ek5_InvalidTerm "ValueError.__new__"))
    (e4_InvalidTerm : PySem.HandSPX.refsVE ebm_InvalidTerm = true)
    (e5_InvalidTerm : PySem.W.findIn K (.ref C_InvalidTerm) "__setattr__" = some (some (.builtin "object.__setattr__")))
    (e6_InvalidTerm : PySem.W.subIn K (.ref C_InvalidTerm) (.type "BaseException") = some true)
    (e7_InvalidTerm : PySem.W.typeIn K (.ref C_InvalidTerm) = some (.type "type"))
    (e8_InvalidTerm : PySem.W.keepIn K (.ref C_InvalidTerm) = true)
    (e13_InvalidTerm : PySem.W.findIn K (.ref C_InvalidTerm) "__init__" = some (some (.ref f_InvalidTerm)))
    (e9_InvalidTerm : K.lookup f_InvalidTerm = some ⟨eoc_InvalidTerm, eod_InvalidTerm, .func (PySem.W.ksFn "__init__" "InvalidTerm.__init__" (defArgs s_InvalidTerm) (defBody s_InvalidTerm) (defScope s_InvalidTerm) .none ekV_InvalidTerm edoc_InvalidTerm epm_InvalidTerm ean_InvalidTerm (.ref cda_InvalidTerm) ect_InvalidTerm ecc_InvalidTerm), eosl_InvalidTerm⟩)
    (e10_InvalidTerm : PySem.W.codeIn K (.ref cda_InvalidTerm) "InvalidTerm.__init__" = true)
    (e11_InvalidTerm : K.lookup cda_InvalidTerm = some ⟨eccl_InvalidTerm, ecdd_InvalidTerm, .fields evs_InvalidTerm, eccs_InvalidTerm⟩)
    (e12_InvalidTerm : evs_InvalidTerm[2]? = some (.str efile_InvalidTerm etf_InvalidTerm))
    (e14_InvalidTerm : (l.prog.main.file == efile_InvalidTerm) = true)
    (e15_InvalidTerm : K.lookup ecc_InvalidTerm = some ⟨ecl_InvalidTerm, ecld_InvalidTerm, .cell (some (.ref C_InvalidTerm)), ecsl_InvalidTerm⟩)
    (e16_InvalidTerm : PySem.W.ks_superIn K C_InvalidTerm C_InvalidTerm "__init__" = some (some (.builtin "ValueError.__init__")))
    (e17_InvalidTerm : PySem.W.mroIn K C_InvalidTerm (.ref C_InvalidTerm) = some true)
    (e18_InvalidTerm : PySem.W.subIn K (.ref C_InvalidTerm) (.type "ValueError") = some true)
    (e19t_InvalidTerm : PySem.W.excTail FvX.veTail4 ebm_InvalidTerm = true)
    (e21_InvalidTerm : PySem.W.findIn K (.ref C_InvalidTerm) "code" = some none)
    (e22_InvalidTerm : PySem.W.typeIn K (.ref f_InvalidTerm) = some (.type "function"))
    (e23d_InvalidTerm : PySem.W.subIn K (.ref C_InvalidTerm) (.ref CF) = some true)
    (e24_InvalidTerm : PySem.W.findIn K (.ref C_InvalidTerm) "__getattribute__" = some (some (.builtin "BaseException.__getattribute__")))
    (e25_InvalidTerm : PySem.W.findIn K (.ref C_InvalidTerm) "__getattr__" = some none)
    (e26_InvalidTerm : PySem.W.hasDictIn K C_InvalidTerm = true)
    (e31_InvalidTerm : PySem.W.subIn K (.ref C_InvalidTerm) (.type "StopIteration") = some false)
    (e2_InvalidBoard : PySem.W.nsIn K mainGlobals "InvalidBoard" = some (some (.ref C_InvalidBoard)))
    (e3_InvalidBoard : K.lookup C_InvalidBoard = some (excClassObj nm_InvalidBoard eq_InvalidBoard C_InvalidBoard eN_InvalidBoard ebs_InvalidBoard ebm_InvalidBoard true esn_InvalidBoard esub_InvalidBoard eab_InvalidBoard ecol_InvalidBoard edd_InvalidBoard ek0_InvalidBoard ek1_InvalidBoard ek2_InvalidBoard ek3_InvalidBoard ek5_InvalidBoard "ValueError.__new__"))
    (e4_InvalidBoard : PySem.HandSPX.refsVE ebm_InvalidBoard = true)
    (e5_InvalidBoard : PySem.W.findIn K (.ref C_InvalidBoard) "__setattr__" = some (some (.builtin "object.__setattr__")))
    (e6_InvalidBoard : PySem.W.subIn K (.ref C_InvalidBoard) (.type "BaseException") = some true)
    (e7_InvalidBoard : PySem.W.typeIn K (.ref C_InvalidBoard) = some (.type "type"))
    (e8_InvalidBoard : PySem.W.keepIn K (.ref C_InvalidBoard) = true)
    (e13_InvalidBoard : PySem.W.findIn K (.ref C_InvalidBoard) "__init__" = some (some (.ref f_InvalidBoard)))
    (e9_InvalidBoard : K.lookup f_InvalidBoard = some ⟨eoc_InvalidBoard, eod_InvalidBoard, .func (PySem.W.ksFn "__init__" "InvalidBoard.__init__" (defArgs s_InvalidBoard) (defBody s_InvalidBoard) (defScope s_InvalidBoard) .none ekV_InvalidBoard edoc_InvalidBoard epm_InvalidBoard ean_InvalidBoard (.ref cda_InvalidBoard) ect_InvalidBoard ecc_InvalidBoard), eosl_InvalidBoard⟩)
    (e10_InvalidBoard : PySem.W.codeIn K (.ref cda_InvalidBoard) "InvalidBoard.__init__" = true)
    (e11_InvalidBoard : K.lookup cda_InvalidBoard = some ⟨eccl_InvalidBoard, ecdd_InvalidBoard, .fields evs_InvalidBoard, eccs_InvalidBoard⟩)
    (e12_InvalidBoard : evs_InvalidBoard[2]? = some (.str efile_InvalidBoard etf_InvalidBoard))
    (e14_InvalidBoard : (l.prog.main.file == efile_InvalidBoard) = true)
    (e15_InvalidBoard : K.lookup ecc_InvalidBoard = some ⟨ecl_InvalidBoard, ecld_InvalidBoard, .cell (some (.ref C_InvalidBoard)), ecsl_InvalidBoard⟩)
    (e16_InvalidBoard : PySem.W.ks_superIn K C_InvalidBoard C_InvalidBoard "__init__" = some (some (.builtin "ValueError.__init__")))
    (e17_InvalidBoard : PySem.W.mroIn K C_InvalidBoard (.ref C_InvalidBoard) = some true)
    (e18_InvalidBoard : PySem.W.subIn K (.ref C_InvalidBoard) (.type "ValueError") = some true)
    (e19t_InvalidBoard : PySem.W.excTail FvX.veTail4 ebm_InvalidBoard = true)
    (e21_InvalidBoard : PySem.W.findIn K (.ref C_InvalidBoard) "code" = some none)
    (e22_InvalidBoard : PySem.W.typeIn K (.ref f_InvalidBoard) = some (.type "function"))
    (e23d_InvalidBoard : PySem.W.subIn K (.ref C_InvalidBoard) (.ref CF) = some true)
    (e24_InvalidBoard : PySem.W.findIn K (.ref C_InvalidBoard) "__getattribute__" = some (some (.builtin "BaseException.__getattribute__")))
    (e25_InvalidBoard : PySem.W.findIn K (.ref C_InvalidBoard) "__getattr__" = some none)
    (e26_InvalidBoard : PySem.W.hasDictIn K C_InvalidBoard = true)
    (e31_InvalidBoard : PySem.W.subIn K (.ref C_InvalidBoard) (.type "StopIteration") = some false)
    (e2_InvalidPlace : PySem.W.nsIn K mainGlobals "InvalidPlace" = some (some (.ref C_InvalidPlace)))
    (e3_InvalidPlace : K.lookup C_InvalidPlace = some (excClassObj nm_InvalidPlace eq_InvalidPlace C_InvalidPlace eN_InvalidPlace ebs_InvalidPlace ebm_InvalidPlace true esn_InvalidPlace esub_InvalidPlace eab_InvalidPlace ecol_InvalidPlace edd_InvalidPlace ek0_InvalidPlace ek1_InvalidPlace ek2_InvalidPlace ek3_InvalidPlace ek5_InvalidPlace "ValueError.__new__"))
    (e4_InvalidPlace : PySem.HandSPX.refsVE ebm_InvalidPlace = true)
    (e5_InvalidPlace : PySem.W.findIn K (.ref C_InvalidPlace) "__setattr__" = some (some (.builtin "object.__setattr__")))
    (e6_InvalidPlace : PySem.W.subIn K (.ref C_InvalidPlace) (.type "BaseException") = some true)
    (e7_InvalidPlace : PySem.W.typeIn K (.ref C_InvalidPlace) = some (.type "type"))
    (e8_InvalidPlace : PySem.W.keepIn K (.ref C_InvalidPlace) = true)
    (e13_InvalidPlace : PySem.W.findIn K (.ref C_InvalidPlace) "__init__" = some (some (.ref f_InvalidPlace)))
    (e9_InvalidPlace : K.lookup f_InvalidPlace = some ⟨eoc_InvalidPlace, eod_InvalidPlace, .func (PySem.W.ksFn "__init__" "InvalidPlace.__init__" (defArgs s_InvalidPlace) (defBody s_InvalidPlace) (defScope s_InvalidPlace) .none ekV_InvalidPlace edoc_InvalidPlace epm_InvalidPlace ean_InvalidPlace (.ref cda_InvalidPlace) ect_InvalidPlace ecc_InvalidPlace), eosl_InvalidPlace⟩)
    (e10_InvalidPlace : PySem.W.codeIn K (.ref cda_InvalidPlace) "InvalidPlace.__init__" = true)
    (e11_InvalidPlace : K.lookup cda_InvalidPlace = some ⟨eccl_InvalidPlace, ecdd_InvalidPlace, .fields evs_InvalidPlace, eccs_InvalidPlace⟩)
    (e12_InvalidPlace : evs_InvalidPlace[2]? = some (.str efile_InvalidPlace etf_InvalidPlace))
    (e14_InvalidPlace : (l.prog.main.file == efile_InvalidPlace) = true)
    (e15_InvalidPlace : K.lookup ecc_InvalidPlace = some ⟨ecl_InvalidPlace, ecld_InvalidPlace, .cell (some (.ref C_InvalidPlace)), ecsl_InvalidPlace⟩)
    (e16_InvalidPlace : PySem.W.ks_superIn K C_InvalidPlace C_InvalidPlace "__init__" = some (some (.builtin "ValueError.__init__")))
    (e17_InvalidPlace : PySem.W.mroIn K C_InvalidPlace (.ref C_InvalidPlace) = some true)
    (e18_InvalidPlace : PySem.W.subIn K (.ref C_InvalidPlace) (.type "ValueError") = some true)
    (e19t_InvalidPlace : PySem.W.excTail FvX.veTail4 ebm_InvalidPlace = true)
    (e21_InvalidPlace : PySem.W.findIn K (.ref C_InvalidPlace) "code" = some none)
    (e28_InvalidPlace : PySem.W.findIn K (.ref C_InvalidPlace) "place" = some none)
    (e29_InvalidPlace : PySem.W.isClsIn K C_InvalidPlace = true)
    (e30_InvalidPlace : PySem.W.subIn K (.ref C_InvalidPlace) (.ref C_InvalidPlace) = some true)
    (e22_InvalidPlace : PySem.W.typeIn K (.ref f_InvalidPlace) = some (.type "function"))
    (e23d_InvalidPlace : PySem.W.subIn K (.ref C_InvalidPlace) (.ref CF) = some true)
    (e24_InvalidPlace : PySem.W.findIn K (.ref C_InvalidPlace) "__getattribute__" = some (some (.builtin "BaseException.__getattribute__")))
    (e25_InvalidPlace : PySem.W.findIn K (.ref C_InvalidPlace) "__getattr__" = some none)
    (e26_InvalidPlace : PySem.W.hasDictIn K C_InvalidPlace = true)
    (e31_InvalidPlace : PySem.W.subIn K (.ref C_InvalidPlace) (.type "StopIteration") = some false)
    (e2_InvalidReading : PySem.W.nsIn K mainGlobals "InvalidReading" = some (some (.ref C_InvalidReading)))
    (e3_InvalidReading : K.lookup C_InvalidReading = some (excClassObj nm_InvalidReading eq_InvalidReading C_InvalidReading eN_InvalidReading ebs_InvalidReading ebm_InvalidReading true esn_InvalidReading esub_InvalidReading eab_InvalidReading ecol_InvalidReading edd_InvalidReading ek0_InvalidReading ek1_InvalidReading ek2_InvalidReading ek3_InvalidReading ek5_InvalidReading "ValueError.__new__"))
    (e4_InvalidReading : PySem.HandSPX.refsVE ebm_InvalidReading = true)
    (e5_InvalidReading : PySem.W.findIn K (.ref C_InvalidReading) "__setattr__" = some (some (.builtin "object.__setattr__")))
    (e6_InvalidReading : PySem.W.subIn K (.ref C_InvalidReading) (.type "BaseException") = some true)
    (e7_InvalidReading : PySem.W.typeIn K (.ref C_InvalidReading) = some (.type "type"))
    (e8_InvalidReading : PySem.W.keepIn K (.ref C_InvalidReading) = true)
    (e13_InvalidReading : PySem.W.findIn K (.ref C_InvalidReading) "__init__" = some (some (.ref f_InvalidReading)))
    (e9_InvalidReading : K.lookup f_InvalidReading = some ⟨eoc_InvalidReading, eod_InvalidReading, .func (PySem.W.ksFn "__init__" "InvalidReading.__init__" (defArgs s_InvalidReading) (defBody s_InvalidReading) (defScope s_InvalidReading) .none ekV_InvalidReading edoc_InvalidReading epm_InvalidReading ean_InvalidReading (.ref cda_InvalidReading) ect_InvalidReading ecc_InvalidReading), eosl_InvalidReading⟩)
    (e10_InvalidReading : PySem.W.codeIn K (.ref cda_InvalidReading) "InvalidReading.__init__" = true)
    (e11_InvalidReading : K.lookup cda_InvalidReading = some ⟨eccl_InvalidReading, ecdd_InvalidReading, .fields evs_InvalidReading, eccs_InvalidReading⟩)
    (e12_InvalidReading : evs_InvalidReading[2]? = some (.str efile_InvalidReading etf_InvalidReading))
    (e14_InvalidReading : (l.prog.main.file == efile_InvalidReading) = true)
    (e15_InvalidReading : K.lookup ecc_InvalidReading = some ⟨ecl_InvalidReading, ecld_InvalidReading, .cell (some (.ref C_InvalidReading)), ecsl_InvalidReading⟩)
    (e16_InvalidReading : PySem.W.ks_superIn K C_InvalidReading C_InvalidReading "__init__" = some (some (.builtin "ValueError.__init__")))
    (e17_InvalidReading : PySem.W.mroIn K C_InvalidReading (.ref C_InvalidReading) = some true)
    (e18_InvalidReading : PySem.W.subIn K (.ref C_InvalidReading) (.type "ValueError") = some true)
    (e19t_InvalidReading : PySem.W.excTail FvX.veTail4 ebm_InvalidReading = true)
    (e21_InvalidReading : PySem.W.findIn K (.ref C_InvalidReading) "code" = some none)
    (e28_InvalidReading : PySem.W.findIn K (.ref C_InvalidReading) "letter" = some none)
    (e29_InvalidReading : PySem.W.isClsIn K C_InvalidReading = true)
    (e30_InvalidReading : PySem.W.subIn K (.ref C_InvalidReading) (.ref C_InvalidReading) = some true)
    (e22_InvalidReading : PySem.W.typeIn K (.ref f_InvalidReading) = some (.type "function"))
    (e23d_InvalidReading : PySem.W.subIn K (.ref C_InvalidReading) (.ref CF) = some true)
    (e24_InvalidReading : PySem.W.findIn K (.ref C_InvalidReading) "__getattribute__" = some (some (.builtin "BaseException.__getattribute__")))
    (e25_InvalidReading : PySem.W.findIn K (.ref C_InvalidReading) "__getattr__" = some none)
    (e26_InvalidReading : PySem.W.hasDictIn K C_InvalidReading = true)
    (e31_InvalidReading : PySem.W.subIn K (.ref C_InvalidReading) (.type "StopIteration") = some false)
    (aC_Board : PySem.W.nsIn K mainGlobals "Board" = some (some (.ref C_Board)))
    (pg_Board : PySem.W.plainGet K C_Board Str.empty = true)
    (hd_Board : PySem.W.hasDictIn K C_Board = true)
    (po_Board : PySem.W.plainOver K C_Board = true)
    (sa_Board : PySem.W.findIn K (.ref C_Board) "__setattr__" = some (some (.builtin "object.__setattr__")))
    (mk_Board : PySem.W.makesIn K C_Board = true)
    (kc_Board : PySem.W.keepIn K (.ref C_Board) = true)
    (na_Board_lines : PySem.W.findIn K (.ref C_Board) "lines" = some none)
    (na_Board_above : PySem.W.findIn K (.ref C_Board) "above" = some none)
    (na_Board_below : PySem.W.findIn K (.ref C_Board) "below" = some none)
    (na_Board_lows : PySem.W.findIn K (.ref C_Board) "lows" = some none)
    (na_Board_highs : PySem.W.findIn K (.ref C_Board) "highs" = some none)
    (na_Board_least : PySem.W.findIn K (.ref C_Board) "least" = some none)
    (na_Board_greatest : PySem.W.findIn K (.ref C_Board) "greatest" = some none)
    (a_Board_init : PySem.W.findIn K (.ref C_Board) "__init__" = some (some (.ref f_Board_init)))
    (i_Board_init : PySem.W.isFn K (.ref f_Board_init) = true)
    (l_Board_init : K.lookup f_Board_init = some ⟨oc_Board_init, od_Board_init, .func (PySem.W.fnOf "__init__" "Board.__init__" (defArgs FvO.s_init__of__Board) (defBody FvO.s_init__of__Board) (defScope FvO.s_init__of__Board) .none kV_Board_init dc_Board_init pm_Board_init an_Board_init cd_Board_init ct_Board_init), sl_Board_init⟩)
    (c_Board_init : PySem.W.codeIn K cd_Board_init "Board.__init__" = true)
    (k_Board_init : PySem.W.keepIn K (.ref f_Board_init) = true)
    (cty_Board : PySem.W.typeIn K (.ref C_Board) = some mc_Board)
    (crd_Board : PySem.W.readsIn K C_Board mc_Board = true)
    (cga_Board : PySem.W.specialIn K (.ref C_Board) "__getattribute__" = some (some (.builtin "type.__getattribute__")))
    (g_Board_chain : PySem.W.findCls K (.ref C_Board) mc_Board "chain" = some (.get (.builtin "classmethod.__get__") (.ref pr_Board_chain) .none (.ref C_Board)))
    (r_Board_chain : PySem.W.recIn K pr_Board_chain "classmethod" = some (.ref f_Board_chain :: re_Board_chain))
    (i_Board_chain : PySem.W.fnIn K f_Board_chain = true)
    (l_Board_chain : K.lookup f_Board_chain = some ⟨oc_Board_chain, od_Board_chain, .func (PySem.W.fnOf "chain" "Board.chain" (defArgs FvO.s_chain__of__Board) (defBody FvO.s_chain__of__Board) (defScope FvO.s_chain__of__Board) .none kV_Board_chain dc_Board_chain pm_Board_chain an_Board_chain cd_Board_chain ct_Board_chain), sl_Board_chain⟩)
    (c_Board_chain : PySem.W.codeIn K cd_Board_chain "Board.chain" = true)
    (k_Board_chain : PySem.W.keepIn K (.ref f_Board_chain) = true)
    (g_Board_cube : PySem.W.findCls K (.ref C_Board) mc_Board "cube" = some (.get (.builtin "classmethod.__get__") (.ref pr_Board_cube) .none (.ref C_Board)))
    (r_Board_cube : PySem.W.recIn K pr_Board_cube "classmethod" = some (.ref f_Board_cube :: re_Board_cube))
    (i_Board_cube : PySem.W.fnIn K f_Board_cube = true)
    (l_Board_cube : K.lookup f_Board_cube = some ⟨oc_Board_cube, od_Board_cube, .func (PySem.W.fnOf "cube" "Board.cube" (defArgs FvO.s_cube__of__Board) (defBody FvO.s_cube__of__Board) (defScope FvO.s_cube__of__Board) .none kV_Board_cube dc_Board_cube pm_Board_cube an_Board_cube cd_Board_cube ct_Board_cube), sl_Board_cube⟩)
    (c_Board_cube : PySem.W.codeIn K cd_Board_cube "Board.cube" = true)
    (k_Board_cube : PySem.W.keepIn K (.ref f_Board_cube) = true)
    (g_Board_fan : PySem.W.findCls K (.ref C_Board) mc_Board "fan" = some (.get (.builtin "staticmethod.__get__") (.ref pr_Board_fan) .none (.ref C_Board)))
    (r_Board_fan : PySem.W.recIn K pr_Board_fan "staticmethod" = some (.ref f_Board_fan :: re_Board_fan))
    (l_Board_fan : K.lookup f_Board_fan = some ⟨oc_Board_fan, od_Board_fan, .func (PySem.W.fnOf "fan" "Board.fan" (defArgs FvO.s_fan__of__Board) (defBody FvO.s_fan__of__Board) (defScope FvO.s_fan__of__Board) .none kV_Board_fan dc_Board_fan pm_Board_fan an_Board_fan cd_Board_fan ct_Board_fan), sl_Board_fan⟩)
    (c_Board_fan : PySem.W.codeIn K cd_Board_fan "Board.fan" = true)
    (k_Board_fan : PySem.W.keepIn K (.ref f_Board_fan) = true)
    (a_Board_rows : PySem.W.findIn K (.ref C_Board) "rows" = some (some (.ref f_Board_rows)))
    (i_Board_rows : PySem.W.isFn K (.ref f_Board_rows) = true)
    (l_Board_rows : K.lookup f_Board_rows = some ⟨oc_Board_rows, od_Board_rows, .func (PySem.W.fnOf "rows" "Board.rows" (defArgs FvO.s_rows__of__Board) (defBody FvO.s_rows__of__Board) (defScope FvO.s_rows__of__Board) .none kV_Board_rows dc_Board_rows pm_Board_rows an_Board_rows cd_Board_rows ct_Board_rows), sl_Board_rows⟩)
    (c_Board_rows : PySem.W.codeIn K cd_Board_rows "Board.rows" = true)
    (k_Board_rows : PySem.W.keepIn K (.ref f_Board_rows) = true)
    (a_Board_eq : PySem.W.findIn K (.ref C_Board) "__eq__" = some (some (.ref f_Board_eq)))
    (i_Board_eq : PySem.W.isFn K (.ref f_Board_eq) = true)
    (l_Board_eq : K.lookup f_Board_eq = some ⟨oc_Board_eq, od_Board_eq, .func (PySem.W.fnOf "__eq__" "Board.__eq__" (defArgs FvO.s_eq__of__Board) (defBody FvO.s_eq__of__Board) (defScope FvO.s_eq__of__Board) .none kV_Board_eq dc_Board_eq pm_Board_eq an_Board_eq cd_Board_eq ct_Board_eq), sl_Board_eq⟩)
    (c_Board_eq : PySem.W.codeIn K cd_Board_eq "Board.__eq__" = true)
    (k_Board_eq : PySem.W.keepIn K (.ref f_Board_eq) = true)
    (a_Board_len : PySem.W.findIn K (.ref C_Board) "__len__" = some (some (.ref f_Board_len)))
    (i_Board_len : PySem.W.isFn K (.ref f_Board_len) = true)
    (l_Board_len : K.lookup f_Board_len = some ⟨oc_Board_len, od_Board_len, .func (PySem.W.fnOf "__len__" "Board.__len__" (defArgs FvO.s_len__of__Board) (defBody FvO.s_len__of__Board) (defScope FvO.s_len__of__Board) .none kV_Board_len dc_Board_len pm_Board_len an_Board_len cd_Board_len ct_Board_len), sl_Board_len⟩)
    (c_Board_len : PySem.W.codeIn K cd_Board_len "Board.__len__" = true)
    (k_Board_len : PySem.W.keepIn K (.ref f_Board_len) = true)
    (a_Board_repr : PySem.W.findIn K (.ref C_Board) "__repr__" = some (some (.ref f_Board_repr)))
    (i_Board_repr : PySem.W.isFn K (.ref f_Board_repr) = true)
    (l_Board_repr : K.lookup f_Board_repr = some ⟨oc_Board_repr, od_Board_repr, .func (PySem.W.fnOf "__repr__" "Board.__repr__" (defArgs FvO.s_repr__of__Board) (defBody FvO.s_repr__of__Board) (defScope FvO.s_repr__of__Board) .none kV_Board_repr dc_Board_repr pm_Board_repr an_Board_repr cd_Board_repr ct_Board_repr), sl_Board_repr⟩)
    (c_Board_repr : PySem.W.codeIn K cd_Board_repr "Board.__repr__" = true)
    (k_Board_repr : PySem.W.keepIn K (.ref f_Board_repr) = true)
    (cva : PySem.W.findCls K (.ref C_Board) mc_Board "MAX_PLACES" = some (.val (.int 60 tk_Board)))
    (icl : PySem.W.findIn K (.ref C_Board) "__class__" = some (some (.builtin "object.__class__")))
    (icn : PySem.W.specialIn K (.builtin "object.__class__") "__get__" = some (some (.builtin "getset_descriptor.__get__")))
    (ict : PySem.W.takesIn K (.builtin "object.__class__") = some true)
    (tyt_B : PySem.W.typeIn K (.ref C_Board) = some (.type "type"))
    (isc_B : PySem.W.isClsIn K C_Board = true)
    (sub_lB : PySem.W.subIn K (.type "list") (.ref C_Board) = some false)
    (icm : PySem.W.mroIn K C_Board (.type "object") = some true)
    (nFb : PySem.W.notFirst K C_Board (.type "list") = true)
    {ccl : Value} {ccd : Option Addr} {cvs : Array Value} {ccs : Array (Option Value)} {cL Pt : Addr} (ecd : cd12 = .ref cL) (tlc : K.lookup cL = some ⟨ccl, ccd, .fields cvs, ccs⟩) (t11 : cvs[11]? = some (.ref Pt)) (tPt : K.lookup Pt = none)
    : ∃ (fd : FuncData) (c Pt : Addr), PySem.W.tabIn K "law" = some (c, Pt) ∧ K.lookup Pt = none ∧ (∀ (s : Shared) (v : Value), BindsTo s fd ⟨[v], []⟩ [("_law_script", v)]) ∧ ∀ base : Heap, K.In base → base.Ns mainGlobals mg → LamX.TabB base mg c Pt → FnOk l.prog w K mg base CX0 34 fa fd ["_law_script"] (spLawT K Pt) := by
  have e := hfa.symm.trans (PySem.W.mg_of X G a12)
  cases e
  have F1 := fun_mk (st := s_are_square) l1 c1 k1
  have g1 := PySem.W.mg_of X G a1
  have b1 := F1.binds (ps := ["rows", "most"]) fun _ _ _ _ _ _ us hl => match us, hl with | [_, _], _ => rfl
  have F2 := fun_mk (st := s_columns_of) l2 c2 k2
  have g2 := PySem.W.mg_of X G a2
  have b2 := F2.binds (ps := ["rows"]) fun _ _ _ _ _ _ us hl => match us, hl with | [_], _ => rfl
  have F3 := fun_mk (st := s_masks_of) l3 c3 k3
  have g3 := PySem.W.mg_of X G a3
  have b3 := F3.binds (ps := ["rows"]) fun _ _ _ _ _ _ us hl => match us, hl with | [_], _ => rfl
  have F4 := fun_mk (st := s_bound_table) l4 c4 k4
  have g4 := PySem.W.mg_of X G a4
  have b4 := F4.binds (ps := ["masks"]) fun _ _ _ _ _ _ us hl => match us, hl with | [_], _ => rfl
  have F5 := fun_mk (st := s_law_source) l5 c5 k5
  have g5 := PySem.W.mg_of X G a5
  have b5 := F5.binds (ps := ["_law_script"]) fun _ _ _ _ _ _ us hl => match us, hl with | [_], _ => rfl
  have F6 := fun_mk (st := s_law_take) l6 c6 k6
  have g6 := PySem.W.mg_of X G a6
  have b6 := F6.binds (ps := ["_law_source_here", "_law_many"]) fun _ _ _ _ _ _ us hl => match us, hl with | [_, _], _ => rfl
  have F7 := fun_mk (st := s_law_pick) l7 c7 k7
  have g7 := PySem.W.mg_of X G a7
  have b7 := F7.binds (ps := ["_law_source_here", "_law_row"]) fun _ _ _ _ _ _ us hl => match us, hl with | [_, _], _ => rfl
  have F8 := fun_mk (st := s_law_same) l8 c8 k8
  have g8 := PySem.W.mg_of X G a8
  have b8 := F8.binds (ps := ["_law_found", "_law_due"]) fun _ _ _ _ _ _ us hl => match us, hl with | [_, _], _ => rfl
  have F9 := fun_mk (st := s_law_call) l9 c9 k9
  have g9 := PySem.W.mg_of X G a9
  have b9 := F9.binds (ps := ["_law_ask"]) fun _ _ _ _ _ _ us hl => match us, hl with | [_], _ => rfl
  have F10 := fun_mk (st := s_law_digits) l10 c10 k10
  have g10 := PySem.W.mg_of X G a10
  have b10 := F10.binds (ps := ["_law_number"]) fun _ _ _ _ _ _ us hl => match us, hl with | [_], _ => rfl
  have F11 := fun_mk (st := s_law_cube_row) l11 c11 k11
  have g11 := PySem.W.mg_of X G a11
  have b11 := F11.binds (ps := ["_law_number", "_law_many"]) fun _ _ _ _ _ _ us hl => match us, hl with | [_, _], _ => rfl
  have F12 := fun_mk (st := s_law) l12 c12 k12
  have g12 := PySem.W.mg_of X G a12
  have g_LETTERS := PySem.W.mg_of X G y0
  have h_OPERATORS : ∀ H, SqT K H oA1 [.str "&", .str "|"] := fun H => .inr ⟨_, _, _, yl1, rfl, rfl, (Nat.le_of_ble_eq_true rfl), (.cons ⟨_, rfl⟩ (.cons ⟨_, rfl⟩ .nil))⟩
  have g_OPERATORS := PySem.W.mg_of X G y1
  have g_LONG_DEPTH := PySem.W.mg_of X G y2
  have g_LONG_SIZE := PySem.W.mg_of X G y3
  have m_len := PySem.W.mg_none_of X G z_len
  have m_int := PySem.W.mg_none_of X G z_int
  have m_list := PySem.W.mg_none_of X G z_list
  have m_str := PySem.W.mg_none_of X G z_str
  have m_tuple := PySem.W.mg_none_of X G z_tuple
  have m_isinstance := PySem.W.mg_none_of X G z_isinstance
  have m_bool := PySem.W.mg_none_of X G z_bool
  have m_dict := PySem.W.mg_none_of X G z_dict
  have m_all := PySem.W.mg_none_of X G z_all
  have m_any := PySem.W.mg_none_of X G z_any
  have m_zip := PySem.W.mg_none_of X G z_zip
  have m_max := PySem.W.mg_none_of X G z_max
  have m_range := PySem.W.mg_none_of X G z_range
  have m_super := PySem.W.mg_none_of X G z_super
  have m_sorted := PySem.W.mg_none_of X G z_sorted
  have m_repr := PySem.W.mg_none_of X G z_repr
  have g_FE := PySem.W.mg_of X G e1
  have e19_InvalidTerm : PySem.W.excInitIn K C_InvalidTerm FvX.veTail4 "ValueError.__new__" = true := by
    unfold PySem.W.excInitIn
    rw [e3_InvalidTerm]
    simp [excClassObj, e19t_InvalidTerm]
  have ex23_InvalidTerm : PySem.W.exmOne K (.ref C_InvalidTerm) (.ref CF) = some true := by
    unfold PySem.W.exmOne PySem.W.kitCls
    simp [e23a, show (PySem.W.clsIn K CF).isSome = true from e23b, e23c, e23d_InvalidTerm]
  have g_E_InvalidTerm := PySem.W.mg_of X G e2_InvalidTerm
  have OX_InvalidTerm : L2.OexC K C_InvalidTerm := ⟨⟨_, _, _, _, _, _, _, _, _, _, _, _, _, _, _, e3_InvalidTerm, e4_InvalidTerm⟩, e5_InvalidTerm, e6_InvalidTerm, e7_InvalidTerm, e8_InvalidTerm⟩
  have TI_InvalidTerm : FvX.ErrC l.prog.main.file K C_InvalidTerm f_InvalidTerm "InvalidTerm.__init__" q_InvalidTerm "this is not a term" "InvalidTerm" 0 0 := ⟨OX_InvalidTerm, ⟨_, _, _, _, _, _, _, _, _, _, _, _, _, _, _, _, _, _, _, e9_InvalidTerm, e10_InvalidTerm, e11_InvalidTerm, e12_InvalidTerm, e14_InvalidTerm, e15_InvalidTerm⟩, e16_InvalidTerm, e17_InvalidTerm, e18_InvalidTerm, e19_InvalidTerm, e20, e21_InvalidTerm, e13_InvalidTerm, e22_InvalidTerm⟩
  have LI_InvalidTerm : FvX.LineOk q_InvalidTerm "this is not a term" 0 := fun env => ⟨_, rfl⟩
  have XF_InvalidTerm : XfC K C_InvalidTerm := ⟨e24_InvalidTerm, e25_InvalidTerm, e6_InvalidTerm, e26_InvalidTerm⟩
  have e19_InvalidBoard : PySem.W.excInitIn K C_InvalidBoard FvX.veTail4 "ValueError.__new__" = true := by
    unfold PySem.W.excInitIn
    rw [e3_InvalidBoard]
    simp [excClassObj, e19t_InvalidBoard]
  have ex23_InvalidBoard : PySem.W.exmOne K (.ref C_InvalidBoard) (.ref CF) = some true := by
    unfold PySem.W.exmOne PySem.W.kitCls
    simp [e23a, show (PySem.W.clsIn K CF).isSome = true from e23b, e23c, e23d_InvalidBoard]
  have g_E_InvalidBoard := PySem.W.mg_of X G e2_InvalidBoard
  have OX_InvalidBoard : L2.OexC K C_InvalidBoard := ⟨⟨_, _, _, _, _, _, _, _, _, _, _, _, _, _, _, e3_InvalidBoard, e4_InvalidBoard⟩, e5_InvalidBoard, e6_InvalidBoard, e7_InvalidBoard, e8_InvalidBoard⟩
  have TI_InvalidBoard : FvX.ErrC l.prog.main.file K C_InvalidBoard f_InvalidBoard "InvalidBoard.__init__" q_InvalidBoard "this is not a board" "InvalidBoard" 0 0 := ⟨OX_InvalidBoard, ⟨_, _, _, _, _, _, _, _, _, _, _, _, _, _, _, _, _, _, _, e9_InvalidBoard, e10_InvalidBoard, e11_InvalidBoard, e12_InvalidBoard, e14_InvalidBoard, e15_InvalidBoard⟩, e16_InvalidBoard, e17_InvalidBoard, e18_InvalidBoard, e19_InvalidBoard, e20, e21_InvalidBoard, e13_InvalidBoard, e22_InvalidBoard⟩
  have LI_InvalidBoard : FvX.LineOk q_InvalidBoard "this is not a board" 0 := fun env => ⟨_, rfl⟩
  have XF_InvalidBoard : XfC K C_InvalidBoard := ⟨e24_InvalidBoard, e25_InvalidBoard, e6_InvalidBoard, e26_InvalidBoard⟩
  have e19_InvalidPlace : PySem.W.excInitIn K C_InvalidPlace FvX.veTail4 "ValueError.__new__" = true := by
    unfold PySem.W.excInitIn
    rw [e3_InvalidPlace]
    simp [excClassObj, e19t_InvalidPlace]
  have ex23_InvalidPlace : PySem.W.exmOne K (.ref C_InvalidPlace) (.ref CF) = some true := by
    unfold PySem.W.exmOne PySem.W.kitCls
    simp [e23a, show (PySem.W.clsIn K CF).isSome = true from e23b, e23c, e23d_InvalidPlace]
  have ex30_InvalidPlace : PySem.W.exmOne K (.ref C_InvalidPlace) (.ref C_InvalidPlace) = some true := by
    unfold PySem.W.exmOne PySem.W.kitCls
    simp [e6_InvalidPlace, show (PySem.W.clsIn K C_InvalidPlace).isSome = true from e29_InvalidPlace, e7_InvalidPlace, e30_InvalidPlace]
  have g_E_InvalidPlace := PySem.W.mg_of X G e2_InvalidPlace
  have OX_InvalidPlace : L2.OexC K C_InvalidPlace := ⟨⟨_, _, _, _, _, _, _, _, _, _, _, _, _, _, _, e3_InvalidPlace, e4_InvalidPlace⟩, e5_InvalidPlace, e6_InvalidPlace, e7_InvalidPlace, e8_InvalidPlace⟩
  have TI_InvalidPlace : FvX.ErrC1 l.prog.main.file K C_InvalidPlace f_InvalidPlace "InvalidPlace.__init__" q_InvalidPlace me_InvalidPlace "InvalidPlace" "place" 0 := ⟨OX_InvalidPlace, ⟨_, _, _, _, _, _, _, _, _, _, _, _, _, _, _, _, _, _, _, e9_InvalidPlace, e10_InvalidPlace, e11_InvalidPlace, e12_InvalidPlace, e14_InvalidPlace, e15_InvalidPlace⟩, e16_InvalidPlace, e17_InvalidPlace, e18_InvalidPlace, e19_InvalidPlace, e20, e21_InvalidPlace, e28_InvalidPlace, e13_InvalidPlace, e22_InvalidPlace⟩
  have LI_InvalidPlace : FvX.LineOk1 q_InvalidPlace me_InvalidPlace := fun env => ⟨_, rfl⟩
  have AI_InvalidPlace : FvX.ArgsOk me_InvalidPlace := fun env => rfl
  have XF_InvalidPlace : XfC K C_InvalidPlace := ⟨e24_InvalidPlace, e25_InvalidPlace, e6_InvalidPlace, e26_InvalidPlace⟩
  have e19_InvalidReading : PySem.W.excInitIn K C_InvalidReading FvX.veTail4 "ValueError.__new__" = true := by
    unfold PySem.W.excInitIn
    rw [e3_InvalidReading]
    simp [excClassObj, e19t_InvalidReading]
  have ex23_InvalidReading : PySem.W.exmOne K (.ref C_InvalidReading) (.ref CF) = some true := by
    unfold PySem.W.exmOne PySem.W.kitCls
    simp [e23a, show (PySem.W.clsIn K CF).isSome = true from e23b, e23c, e23d_InvalidReading]
  have ex30_InvalidReading : PySem.W.exmOne K (.ref C_InvalidReading) (.ref C_InvalidReading) = some true := by
    unfold PySem.W.exmOne PySem.W.kitCls
    simp [e6_InvalidReading, show (PySem.W.clsIn K C_InvalidReading).isSome = true from e29_InvalidReading, e7_InvalidReading, e30_InvalidReading]
  have g_E_InvalidReading := PySem.W.mg_of X G e2_InvalidReading
  have OX_InvalidReading : L2.OexC K C_InvalidReading := ⟨⟨_, _, _, _, _, _, _, _, _, _, _, _, _, _, _, e3_InvalidReading, e4_InvalidReading⟩, e5_InvalidReading, e6_InvalidReading, e7_InvalidReading, e8_InvalidReading⟩
  have TI_InvalidReading : FvX.ErrC1 l.prog.main.file K C_InvalidReading f_InvalidReading "InvalidReading.__init__" q_InvalidReading me_InvalidReading "InvalidReading" "letter" 0 := ⟨OX_InvalidReading, ⟨_, _, _, _, _, _, _, _, _, _, _, _, _, _, _, _, _, _, _, e9_InvalidReading, e10_InvalidReading, e11_InvalidReading, e12_InvalidReading, e14_InvalidReading, e15_InvalidReading⟩, e16_InvalidReading, e17_InvalidReading, e18_InvalidReading, e19_InvalidReading, e20, e21_InvalidReading, e28_InvalidReading, e13_InvalidReading, e22_InvalidReading⟩
  have LI_InvalidReading : FvX.LineOk1 q_InvalidReading me_InvalidReading := fun env => ⟨_, rfl⟩
  have AI_InvalidReading : FvX.ArgsOk me_InvalidReading := fun env => rfl
  have XF_InvalidReading : XfC K C_InvalidReading := ⟨e24_InvalidReading, e25_InvalidReading, e6_InvalidReading, e26_InvalidReading⟩
  have gC_Board := PySem.W.mg_of X G aC_Board
  have T_Board : FvO.TxB K C_Board := ⟨⟨pg_Board, hd_Board, po_Board, sa_Board⟩, na_Board_lines, na_Board_above, na_Board_below, na_Board_lows, na_Board_highs, na_Board_least, na_Board_greatest⟩
  have me_Board_init : Meth K C_Board "__init__" f_Board_init := ⟨a_Board_init, i_Board_init, k_Board_init⟩
  have F_Board_init := fun_mk (st := FvO.s_init__of__Board) l_Board_init c_Board_init k_Board_init
  have b_Board_init := F_Board_init.binds (ps := ["self", "rows"]) fun _ _ _ _ _ _ us hl => match us, hl with | [_, _], _ => rfl
  have cr_Board : ClX.CRead K C_Board mc_Board := ⟨crd_Board, cga_Board⟩
  have me_Board_chain : ClX.CMet K C_Board mc_Board "chain" pr_Board_chain f_Board_chain := ⟨g_Board_chain, ⟨_, r_Board_chain⟩, i_Board_chain⟩
  have F_Board_chain := fun_mk (st := FvO.s_chain__of__Board) l_Board_chain c_Board_chain k_Board_chain
  have b_Board_chain := F_Board_chain.binds (ps := ["cls", "size"]) fun _ _ _ _ _ _ us hl => match us, hl with | [_, _], _ => rfl
  have me_Board_cube : ClX.CMet K C_Board mc_Board "cube" pr_Board_cube f_Board_cube := ⟨g_Board_cube, ⟨_, r_Board_cube⟩, i_Board_cube⟩
  have F_Board_cube := fun_mk (st := FvO.s_cube__of__Board) l_Board_cube c_Board_cube k_Board_cube
  have b_Board_cube := F_Board_cube.binds (ps := ["cls", "size"]) fun _ _ _ _ _ _ us hl => match us, hl with | [_, _], _ => rfl
  have me_Board_fan : FvO.SMet K C_Board mc_Board "fan" pr_Board_fan f_Board_fan := ⟨g_Board_fan, ⟨_, r_Board_fan⟩, k_Board_fan⟩
  have F_Board_fan := fun_mk (st := FvO.s_fan__of__Board) l_Board_fan c_Board_fan k_Board_fan
  have b_Board_fan := F_Board_fan.binds (ps := ["size"]) fun _ _ _ _ _ _ us hl => match us, hl with | [_], _ => rfl
  have me_Board_rows : Meth K C_Board "rows" f_Board_rows := ⟨a_Board_rows, i_Board_rows, k_Board_rows⟩
  have F_Board_rows := fun_mk (st := FvO.s_rows__of__Board) l_Board_rows c_Board_rows k_Board_rows
  have b_Board_rows := F_Board_rows.binds (ps := ["self"]) fun _ _ _ _ _ _ us hl => match us, hl with | [_], _ => rfl
  have me_Board_eq : Meth K C_Board "__eq__" f_Board_eq := ⟨a_Board_eq, i_Board_eq, k_Board_eq⟩
  have F_Board_eq := fun_mk (st := FvO.s_eq__of__Board) l_Board_eq c_Board_eq k_Board_eq
  have b_Board_eq := F_Board_eq.binds (ps := ["self", "other"]) fun _ _ _ _ _ _ us hl => match us, hl with | [_, _], _ => rfl
  have me_Board_len : Meth K C_Board "__len__" f_Board_len := ⟨a_Board_len, i_Board_len, k_Board_len⟩
  have F_Board_len := fun_mk (st := FvO.s_len__of__Board) l_Board_len c_Board_len k_Board_len
  have b_Board_len := F_Board_len.binds (ps := ["self"]) fun _ _ _ _ _ _ us hl => match us, hl with | [_], _ => rfl
  have me_Board_repr : Meth K C_Board "__repr__" f_Board_repr := ⟨a_Board_repr, i_Board_repr, k_Board_repr⟩
  have F_Board_repr := fun_mk (st := FvO.s_repr__of__Board) l_Board_repr c_Board_repr k_Board_repr
  have b_Board_repr := F_Board_repr.binds (ps := ["self"]) fun _ _ _ _ _ _ us hl => match us, hl with | [_], _ => rfl
  subst ecd
  have htab : PySem.W.tabIn K "law" = some (cL, Pt) := by
    unfold PySem.W.tabIn
    simp only [a12, l12, tlc, t11, PySem.W.fnOf]
  refine ⟨PySem.W.fnOf "law" "law" (defArgs s_law) (defBody s_law) (defScope s_law) .none kV12 dc12 pm12 an12 (.ref cL) ct12, cL, Pt, htab, tPt, fun s v => .of_eq rfl, fun base _ _ TB => ?_⟩
  have own : ∀ {k : Nat} {x : Str} {f : Addr} {fd : FuncData} {ps : List Str} {sp : Sp}, mg x = some (.ref f) → PySem.W.keepIn K (.ref f) = true → Binds K fd ps [] → FnOk l.prog w K mg base CX0 k f fd ps sp → Own l.prog w K mg base k x ps sp := fun a b c d => ⟨_, _, a, b, c, d⟩
  have ownR : ∀ {k : Nat} {x : Str} {f : Addr} {sp : Sp}, mg x = some (.ref f) → PySem.W.keepIn K (.ref f) = true → FnR l.prog w K mg base (L2.CX l.prog w) k f sp → OwnR l.prog w K mg base k x sp := fun a b c => ⟨_, a, b, c⟩
  have raw : ∀ {k : Nat} {f : Addr} {fd : FuncData} {ps : List Str} {sp : Sp}, FnOk l.prog w K mg base (L2.CX l.prog w) k f fd ps sp → Binds K fd ps [] → FnR l.prog w K mg base (L2.CX l.prog w) k f sp := fun F b => (FnOk.raw F b .nil).imp fun vs H Q E h => by rw [List.append_nil]; exact h
  have Csource := own g5 k5 b5 (ok_source (k := 0) F5 m_list)
  have Ctake := own g6 k6 b6 (ok_take (k := 0) F6 m_len m_int)
  have Cpick := own g7 k7 b7 (ok_pick (k := 1) F7 m_len Ctake)
  have Ctake2 : Own l.prog w K mg base 2 _ _ spTake := own g6 k6 b6 (ok_take (k := 1) F6 m_len m_int)
  have Sn : ∀ n : Nat, FnOk l.prog w K mg base CX0 (n) f8 _ _ (spSame K n) := fun n => by
    induction n with
    | zero => exact same_zero
    | succ n ih => exact ok_same F8 m_isinstance m_bool m_int m_str m_dict m_list m_tuple m_len m_all m_zip (own g8 k8 b8 ih)
  have Csame := own g8 k8 b8 (Sn 25)
  have Cdi := own g10 k10 b10 (ok_digits (k := 0) F10 m_int)
  have Ccr := own g11 k11 b11 (ok_cube_row (k := 1) F11 m_int m_str m_all m_zip m_range Cdi)
  have Csq := own g1 k1 b1 ((FvO.ok_square (k := 0) F1 m_len m_all m_isinstance m_str).mono (k := 2) (by decide))
  have Cco := own g2 k2 b2 ((FvO.ok_columns (k := 0) F2 m_len m_range).mono (k := 2) (by decide))
  have Cma := own g3 k3 b3 ((FvO.ok_masksB (k := 0) F3 m_int).mono (k := 2) (by decide))
  have Cbt := own g4 k4 b4 ((FvO.ok_bound (k := 0) F4 m_len m_range).mono (k := 2) (by decide))
  have TM : FvO.TxM K C_Board := ⟨_, _, cr_Board, ⟨cva, ⟨_, rfl⟩⟩⟩
  have Fin := FvO.ok_binit (k := 3) F_Board_init T_Board TM gC_Board m_len m_range m_list m_all m_any m_max (by decide) Csq Cco Cma Cbt
  have Mk1 : Mk K C_Board f_Board_init := ⟨mk_Board, a_Board_init, i_Board_init, kc_Board⟩
  have Mkb : C8.Mak l.prog w K mg base 4 "Board" C_Board (FvO.spBIn K C_Board) [] := ⟨_, _, _, _, Mk1, Fin, gC_Board, b_Board_init, .nil⟩
  have rawU : ∀ {k : Nat} {f : Addr} {fd : FuncData} {ps : List Str} {sp : Sp}, FnOk l.prog w K mg base CX0 k f fd ps sp → Binds K fd ps [] → FnR l.prog w K mg base (L2.CX l.prog w) k f sp := fun F b => FvO.fnR_up ((FnOk.raw F b .nil).imp fun vs H Q E h => by rw [List.append_nil]; exact h)
  have MkR : FvO.MakR l.prog w K mg base 4 C_Board (FvO.spBIn K C_Board) := ⟨_, Mk1, rawU Fin b_Board_init⟩
  have metR : ∀ {k : Nat} {m : Str} {f : Addr} {sp : Sp}, Meth K C_Board m f → FnR l.prog w K mg base (L2.CX l.prog w) k f sp → FvX.MetR l.prog w K mg base k C_Board m sp := fun a c => ⟨_, T_Board.cl, a, c⟩
  have Mro : C8.Met l.prog w K mg base 1 C_Board "rows" (FvO.spRowsB K C_Board) [] := ⟨_, _, _, _, T_Board.cl, me_Board_rows, FvO.ok_rowsB (k := 0) F_Board_rows T_Board m_list, b_Board_rows, .nil⟩
  have Fch := FvO.ok_chain (k := 6) F_Board_chain TM (by decide) m_range TI_InvalidBoard LI_InvalidBoard e27 m_super g_E_InvalidBoard MkR
  have Fcu := FvO.ok_cube (k := 6) F_Board_cube (by decide) m_range TI_InvalidBoard LI_InvalidBoard e27 m_super g_E_InvalidBoard MkR
  have Ffa := FvO.ok_fan (k := 6) F_Board_fan TM gC_Board (by decide) m_range TI_InvalidBoard LI_InvalidBoard e27 m_super g_E_InvalidBoard Mkb
  have ics : PySem.W.kitOne K (.ref C_Board) (.ref C_Board) = some true := by simp [PySem.W.kitOne]
  have i2b : PySem.W.kitOne K (.type "list") (.ref C_Board) = some false := by
    unfold PySem.W.kitOne PySem.W.kitCls
    simp [sub_lB, show (PySem.W.clsIn K C_Board).isSome = true from isc_B, tyt_B]
  have ICb : C8.InsC K C_Board := ⟨T_Board.cl, icl, icn, ict, icm, ics⟩
  exact FvO.ok_law (k := 33) (by decide) l12 c12 TB m_range m_len m_repr m_str m_int l9 c9 k9 g9 b9 g_FE ex23_InvalidBoard XF_InvalidBoard e21_InvalidBoard gC_Board TM nFb
    Csource Ctake Cpick Csame Ccr Mro ⟨_, _, _, cr_Board, me_Board_chain, raw Fch b_Board_chain⟩ ⟨_, _, _, cr_Board, me_Board_cube, raw Fcu b_Board_cube⟩ ⟨_, _, _, cr_Board, me_Board_fan, raw Ffa b_Board_fan⟩
    ⟨_, _, _, _, _, cr_Board, me_Board_cube, ⟨fun s us ws _ h1 h2 => match us, ws, h1, h2 with | [_], [_], _, _ => .of_eq rfl, fun r rz => r.append rz⟩, Fcu⟩ (metR me_Board_len (rawU (FvO.ok_lenB (k := 0) F_Board_len T_Board m_len) b_Board_len)) (metR me_Board_repr (rawU (FvO.ok_reprB (k := 0) F_Board_repr T_Board m_len) b_Board_repr)) (metR me_Board_eq (rawU (FvO.ok_eqB (k := 0) F_Board_eq T_Board gC_Board m_isinstance ICb i2b) b_Board_eq))
theorem walk {l : PySem.W.OpenLaw} {q : Program} {loose : List Str} {XP : (Str → Option Value) → Heap → Prop} {YP : World → Heap → Prop} {d : DefRec} {K : Params → PySem.W.Frag} (hn : l.most = some 63) (hdf : d.params.defaults = [])
    (hY : ∀ (w : World) (h : Heap), YP w h → (K w.params).In h) (hrec : ∃ d', (PyProof.Rows.recsOf q).find? (fun e => e.name == ("law" : Str)) = some d')
    (F : ∀ (w : World) (mg : Str → Option Value) (fa : Addr) (h : Heap), (K w.params).In h → h.Ns mainGlobals mg → mg d.name = some (.ref fa) →
      ∃ (fd : FuncData) (c Pt : Addr), PySem.W.tabIn (K w.params) "law" = some (c, Pt) ∧ (K w.params).lookup Pt = none ∧ (∀ (s : Shared) (v : Value), BindsTo s fd ⟨[v], []⟩ [("_law_script", v)]) ∧
        ∀ base : Heap, (K w.params).In base → base.Ns mainGlobals mg → LamX.TabB base mg c Pt → FnOk l.prog w (K w.params) mg base CX0 34 fa fd ["_law_script"] (spLawT (K w.params) Pt)) :
    PySem.W.WalkO q loose XP YP l.row.toRowW d [] (fun f vs => PySem.call f vs) := by
  refine Att.attach_callB hn hdf fun w s₀ s₁ mg mb fa o pm cd doc a vs ns G Y ho hd hcd hmg hobj hints hlen hbits hg => ?_
  have KX := hY w _ Y
  obtain ⟨fd, c, Pt, ht, hno, hb, hF⟩ := F w mg fa _ KX G.T.g hmg
  obtain ⟨d', hrec⟩ := hrec
  obtain ⟨hC, hT⟩ := PySem.W.tab_of G.T KX hrec ht
  refine LamX.law_callTs (cs := [(c, Pt)]) (k := 34) (CX := CX0) (sp := spLawT (K w.params) Pt) KX G.T.g G.T.b G.T.builtins G.T.nolimit hg ?_ ?_ ?_ G.T.bmain hobj hints (Nat.le_trans hlen (by decide)) ⟨rfl, by decide, by decide⟩ (fun base k1 k2 tb => hF base k1 k2 (tb (c, Pt) (List.mem_singleton.mpr rfl))) hb (fun H hH hS => ⟨a, ns, rfl, hS, hlen, hH (c, Pt) (List.mem_singleton.mpr rfl), fun _ => rfl⟩) fun _ _ _ z => z
  · intro p hp
    rw [List.mem_singleton.mp hp]
    exact hT
  · intro p hp
    rw [List.mem_singleton.mp hp]
    exact hno
  · intro p hp
    rw [List.mem_singleton.mp hp]
    exact hC
end Fv
open PySem PySem.W PyProof.Rows
set_option maxRecDepth 100000 in
set_option maxHeartbeats 0 in
theorem PySem.Challenge.cw_fivefault_k23_named_boards_holds : PySem.Challenge.rw_fivefault_k23_named_boards.Holds := by
  w_on; o_law; k_head; (case hw => w_witness2)
  k_fill
  refine Fv.walk (l := PySem.Challenge.rw_fivefault_k23_named_boards) rfl rfl (fun w h Y => PySem.W.km_in_of Y) ?R ?F
  case R => exact ⟨_, rfl⟩
  case F =>
    intro w mg fa h KX G hmg
    refine' Fv.all_mk KX G hmg ?a1 ?l1 ?c1 ?k1 ?a2 ?l2 ?c2 ?k2 ?a3 ?l3 ?c3 ?k3 ?a4 ?l4 ?c4 ?k4 ?a5 ?l5 ?c5 ?k5 ?a6 ?l6 ?c6 ?k6 ?a7 ?l7 ?c7 ?k7 ?a8 ?l8 ?c8 ?k8 ?a9 ?l9 ?c9 ?k9 ?a10 ?l10 ?c10 ?k10 ?a11 ?l11 ?c11 ?k11 ?a12 ?l12 ?c12 ?k12 ?y0 ?y1 ?yl1 ?y2 ?y3 ?z_len ?z_int ?z_list ?z_str ?z_tuple ?z_isinstance ?z_bool ?z_dict ?z_all ?z_any ?z_zip ?z_max ?z_range ?z_super ?z_sorted ?z_repr ?e1 ?e23a ?e23b ?e23c ?e20 ?e27 ?e2_InvalidTerm ?e3_InvalidTerm ?e4_InvalidTerm ?e5_InvalidTerm ?e6_InvalidTerm ?e7_InvalidTerm ?e8_InvalidTerm ?e13_InvalidTerm ?e9_InvalidTerm ?e10_InvalidTerm ?e11_InvalidTerm ?e12_InvalidTerm ?e14_InvalidTerm ?e15_InvalidTerm ?e16_InvalidTerm ?e17_InvalidTerm ?e18_InvalidTerm ?e19t_InvalidTerm ?e21_InvalidTerm ?e22_InvalidTerm ?e23d_InvalidTerm ?e24_InvalidTerm ?e25_InvalidTerm ?e26_InvalidTerm ?e31_InvalidTerm ?e2_InvalidBoard ?e3_InvalidBoard ?e4_InvalidBoard ?e5_InvalidBoard ?e6_InvalidBoard ?e7_InvalidBoard ?e8_InvalidBoard ?e13_InvalidBoard ?e9_InvalidBoard ?e10_InvalidBoard ?e11_InvalidBoard ?e12_InvalidBoard ?e14_InvalidBoard ?e15_InvalidBoard ?e16_InvalidBoard ?e17_InvalidBoard ?e18_InvalidBoard ?e19t_InvalidBoard ?e21_InvalidBoard ?e22_InvalidBoard ?e23d_InvalidBoard ?e24_InvalidBoard ?e25_InvalidBoard ?e26_InvalidBoard ?e31_InvalidBoard ?e2_InvalidPlace ?e3_InvalidPlace ?e4_InvalidPlace ?e5_InvalidPlace ?e6_InvalidPlace ?e7_InvalidPlace ?e8_InvalidPlace ?e13_InvalidPlace ?e9_InvalidPlace ?e10_InvalidPlace ?e11_InvalidPlace ?e12_InvalidPlace ?e14_InvalidPlace ?e15_InvalidPlace ?e16_InvalidPlace ?e17_InvalidPlace ?e18_InvalidPlace ?e19t_InvalidPlace ?e21_InvalidPlace ?e28_InvalidPlace ?e29_InvalidPlace ?e30_InvalidPlace ?e22_InvalidPlace ?e23d_InvalidPlace ?e24_InvalidPlace ?e25_InvalidPlace ?e26_InvalidPlace ?e31_InvalidPlace ?e2_InvalidReading ?e3_InvalidReading ?e4_InvalidReading ?e5_InvalidReading ?e6_InvalidReading ?e7_InvalidReading ?e8_InvalidReading ?e13_InvalidReading ?e9_InvalidReading ?e10_InvalidReading ?e11_InvalidReading ?e12_InvalidReading ?e14_InvalidReading ?e15_InvalidReading ?e16_InvalidReading ?e17_InvalidReading ?e18_InvalidReading ?e19t_InvalidReading ?e21_InvalidReading ?e28_InvalidReading ?e29_InvalidReading ?e30_InvalidReading ?e22_InvalidReading ?e23d_InvalidReading ?e24_InvalidReading ?e25_InvalidReading ?e26_InvalidReading ?e31_InvalidReading ?aC_Board ?pg_Board ?hd_Board ?po_Board ?sa_Board ?mk_Board ?kc_Board ?na_Board_lines ?na_Board_above ?na_Board_below ?na_Board_lows ?na_Board_highs ?na_Board_least ?na_Board_greatest ?a_Board_init ?i_Board_init ?l_Board_init ?c_Board_init ?k_Board_init ?cty_Board ?crd_Board ?cga_Board ?g_Board_chain ?r_Board_chain ?i_Board_chain ?l_Board_chain ?c_Board_chain ?k_Board_chain ?g_Board_cube ?r_Board_cube ?i_Board_cube ?l_Board_cube ?c_Board_cube ?k_Board_cube ?g_Board_fan ?r_Board_fan ?l_Board_fan ?c_Board_fan ?k_Board_fan ?a_Board_rows ?i_Board_rows ?l_Board_rows ?c_Board_rows ?k_Board_rows ?a_Board_eq ?i_Board_eq ?l_Board_eq ?c_Board_eq ?k_Board_eq ?a_Board_len ?i_Board_len ?l_Board_len ?c_Board_len ?k_Board_len ?a_Board_repr ?i_Board_repr ?l_Board_repr ?c_Board_repr ?k_Board_repr ?cva ?icl ?icn ?ict ?tyt_B ?isc_B ?sub_lB ?icm ?nFb ?ecd ?tlc ?t11 ?tPt
    (case a1 => k_is)
    (case l1 => k_is)
    (case c1 => k_is)
    (case k1 => k_is)
    (case a2 => k_is)
    (case l2 => k_is)
    (case c2 => k_is)
    (case k2 => k_is)
    (case a3 => k_is)
    (case l3 => k_is)
    (case c3 => k_is)
    (case k3 => k_is)
    (case a4 => k_is)
    (case l4 => k_is)
    (case c4 => k_is)
    (case k4 => k_is)
    (case a5 => k_is)
    (case l5 => k_is)
    (case c5 => k_is)
    (case k5 => k_is)
    (case a6 => k_is)
    (case l6 => k_is)
    (case c6 => k_is)
    (case k6 => k_is)
    (case a7 => k_is)
    (case l7 => k_is)
    (case c7 => k_is)
    (case k7 => k_is)
    (case a8 => k_is)
    (case l8 => k_is)
    (case c8 => k_is)
    (case k8 => k_is)
    (case a9 => k_is)
    (case l9 => k_is)
    (case c9 => k_is)
    (case k9 => k_is)
    (case a10 => k_is)
    (case l10 => k_is)
    (case c10 => k_is)
    (case k10 => k_is)
    (case a11 => k_is)
    (case l11 => k_is)
    (case c11 => k_is)
    (case k11 => k_is)
    (case a12 => k_is)
    (case l12 => k_is)
    (case c12 => k_is)
    (case k12 => k_is)
    (case y0 => k_is)
    (case y1 => k_is)
    (case yl1 => k_is)
    (case y2 => k_is)
    (case y3 => k_is)
    (case z_len => k_is)
    (case z_int => k_is)
    (case z_list => k_is)
    (case z_str => k_is)
    (case z_tuple => k_is)
    (case z_isinstance => k_is)
    (case z_bool => k_is)
    (case z_dict => k_is)
    (case z_all => k_is)
    (case z_any => k_is)
    (case z_zip => k_is)
    (case z_max => k_is)
    (case z_range => k_is)
    (case z_super => k_is)
    (case z_sorted => k_is)
    (case z_repr => k_is)
    (case e1 => k_is)
    (case e23a => k_is)
    (case e23b => k_is)
    (case e23c => k_is)
    (case e20 => k_is)
    (case e27 => decide +kernel)
    (case e2_InvalidTerm => k_is)
    (case e3_InvalidTerm => k_is)
    (case e4_InvalidTerm => decide +kernel)
    (case e5_InvalidTerm => k_is)
    (case e6_InvalidTerm => k_is)
    (case e7_InvalidTerm => k_is)
    (case e8_InvalidTerm => k_is)
    (case e13_InvalidTerm => k_is)
    (case e9_InvalidTerm => k_is)
    (case e10_InvalidTerm => k_is)
    (case e11_InvalidTerm => k_is)
    (case e12_InvalidTerm => exact rfl)
    (case e14_InvalidTerm => decide +kernel)
    (case e15_InvalidTerm => k_is)
    (case e16_InvalidTerm => ks_is)
    (case e17_InvalidTerm => k_is)
    (case e18_InvalidTerm => k_is)
    (case e19t_InvalidTerm => decide +kernel)
    (case e21_InvalidTerm => k_is)
    (case e22_InvalidTerm => k_is)
    (case e23d_InvalidTerm => k_is)
    (case e24_InvalidTerm => k_is)
    (case e25_InvalidTerm => k_is)
    (case e26_InvalidTerm => k_is)
    (case e31_InvalidTerm => k_is)
    (case e2_InvalidBoard => k_is)
    (case e3_InvalidBoard => k_is)
    (case e4_InvalidBoard => decide +kernel)
    (case e5_InvalidBoard => k_is)
    (case e6_InvalidBoard => k_is)
    (case e7_InvalidBoard => k_is)
    (case e8_InvalidBoard => k_is)
    (case e13_InvalidBoard => k_is)
    (case e9_InvalidBoard => k_is)
    (case e10_InvalidBoard => k_is)
    (case e11_InvalidBoard => k_is)
    (case e12_InvalidBoard => exact rfl)
    (case e14_InvalidBoard => decide +kernel)
    (case e15_InvalidBoard => k_is)
    (case e16_InvalidBoard => ks_is)
    (case e17_InvalidBoard => k_is)
    (case e18_InvalidBoard => k_is)
    (case e19t_InvalidBoard => decide +kernel)
    (case e21_InvalidBoard => k_is)
    (case e22_InvalidBoard => k_is)
    (case e23d_InvalidBoard => k_is)
    (case e24_InvalidBoard => k_is)
    (case e25_InvalidBoard => k_is)
    (case e26_InvalidBoard => k_is)
    (case e31_InvalidBoard => k_is)
    (case e2_InvalidPlace => k_is)
    (case e3_InvalidPlace => k_is)
    (case e4_InvalidPlace => decide +kernel)
    (case e5_InvalidPlace => k_is)
    (case e6_InvalidPlace => k_is)
    (case e7_InvalidPlace => k_is)
    (case e8_InvalidPlace => k_is)
    (case e13_InvalidPlace => k_is)
    (case e9_InvalidPlace => k_is)
    (case e10_InvalidPlace => k_is)
    (case e11_InvalidPlace => k_is)
    (case e12_InvalidPlace => exact rfl)
    (case e14_InvalidPlace => decide +kernel)
    (case e15_InvalidPlace => k_is)
    (case e16_InvalidPlace => ks_is)
    (case e17_InvalidPlace => k_is)
    (case e18_InvalidPlace => k_is)
    (case e19t_InvalidPlace => decide +kernel)
    (case e21_InvalidPlace => k_is)
    (case e28_InvalidPlace => k_is)
    (case e29_InvalidPlace => k_is)
    (case e30_InvalidPlace => k_is)
    (case e22_InvalidPlace => k_is)
    (case e23d_InvalidPlace => k_is)
    (case e24_InvalidPlace => k_is)
    (case e25_InvalidPlace => k_is)
    (case e26_InvalidPlace => k_is)
    (case e31_InvalidPlace => k_is)
    (case e2_InvalidReading => k_is)
    (case e3_InvalidReading => k_is)
    (case e4_InvalidReading => decide +kernel)
    (case e5_InvalidReading => k_is)
    (case e6_InvalidReading => k_is)
    (case e7_InvalidReading => k_is)
    (case e8_InvalidReading => k_is)
    (case e13_InvalidReading => k_is)
    (case e9_InvalidReading => k_is)
    (case e10_InvalidReading => k_is)
    (case e11_InvalidReading => k_is)
    (case e12_InvalidReading => exact rfl)
    (case e14_InvalidReading => decide +kernel)
    (case e15_InvalidReading => k_is)
    (case e16_InvalidReading => ks_is)
    (case e17_InvalidReading => k_is)
    (case e18_InvalidReading => k_is)
    (case e19t_InvalidReading => decide +kernel)
    (case e21_InvalidReading => k_is)
    (case e28_InvalidReading => k_is)
    (case e29_InvalidReading => k_is)
    (case e30_InvalidReading => k_is)
    (case e22_InvalidReading => k_is)
    (case e23d_InvalidReading => k_is)
    (case e24_InvalidReading => k_is)
    (case e25_InvalidReading => k_is)
    (case e26_InvalidReading => k_is)
    (case e31_InvalidReading => k_is)
    (case aC_Board => k_is)
    (case pg_Board => k_is)
    (case hd_Board => k_is)
    (case po_Board => k_is)
    (case sa_Board => k_is)
    (case mk_Board => k_is)
    (case kc_Board => k_is)
    (case na_Board_lines => k_is)
    (case na_Board_above => k_is)
    (case na_Board_below => k_is)
    (case na_Board_lows => k_is)
    (case na_Board_highs => k_is)
    (case na_Board_least => k_is)
    (case na_Board_greatest => k_is)
    (case a_Board_init => k_is)
    (case i_Board_init => k_is)
    (case l_Board_init => k_is)
    (case c_Board_init => k_is)
    (case k_Board_init => k_is)
    (case cty_Board => k_is)
    (case crd_Board => k_is)
    (case cga_Board => k_is)
    (case g_Board_chain => k_is)
    (case r_Board_chain => k_is)
    (case i_Board_chain => k_is)
    (case l_Board_chain => k_is)
    (case c_Board_chain => k_is)
    (case k_Board_chain => k_is)
    (case g_Board_cube => k_is)
    (case r_Board_cube => k_is)
    (case i_Board_cube => k_is)
    (case l_Board_cube => k_is)
    (case c_Board_cube => k_is)
    (case k_Board_cube => k_is)
    (case g_Board_fan => k_is)
    (case r_Board_fan => k_is)
    (case l_Board_fan => k_is)
    (case c_Board_fan => k_is)
    (case k_Board_fan => k_is)
    (case a_Board_rows => k_is)
    (case i_Board_rows => k_is)
    (case l_Board_rows => k_is)
    (case c_Board_rows => k_is)
    (case k_Board_rows => k_is)
    (case a_Board_eq => k_is)
    (case i_Board_eq => k_is)
    (case l_Board_eq => k_is)
    (case c_Board_eq => k_is)
    (case k_Board_eq => k_is)
    (case a_Board_len => k_is)
    (case i_Board_len => k_is)
    (case l_Board_len => k_is)
    (case c_Board_len => k_is)
    (case k_Board_len => k_is)
    (case a_Board_repr => k_is)
    (case i_Board_repr => k_is)
    (case l_Board_repr => k_is)
    (case c_Board_repr => k_is)
    (case k_Board_repr => k_is)
    (case cva => k_is)
    (case icl => k_is)
    (case icn => k_is)
    (case ict => k_is)
    (case tyt_B => k_is)
    (case isc_B => k_is)
    (case sub_lB => k_is)
    (case icm => k_is)
    (case nFb => k_is)
    (case ecd => exact rfl)
    (case tlc => k_is)
    (case t11 => exact rfl)
    (case tPt => kernel_rfl)
